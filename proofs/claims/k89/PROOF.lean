import PyProof.Rows.All
import Wide.All
import OpenK.AllK
import Wide.FinOn
import Lean
import PyProof.EqAt
import PyProof.EqKinds
import PyProof.TupleCall
import PyProof.NeKinds
import KE.KIntText
import PyProof.TupleOfStr
import KE.KSortTup
import PyProof.ReprRoads
import KE.KItemsList
import PyProof.Rows.Range3
import PyProof.AutoIntG2
import PyProof.NeData
import PyProof.DictKinds
import PyProof.AttrMiss
import PyProof.IsiH_list
import KE.KDictOf
import KE.KDictSum
import PyProof.DictWalks
import PyProof.DictItems
import KE.KDictList
import KE.KEqDict
import KE.KPairComp
import PyProof.DictTruth
import PyProof.MeetsDict
import KE.KLam
import KE.KNestM
import PyProof.Defs
import PyProof.P3In
import PyProof.Rows.SortRev
import PySem.Challenge.RW_stairlanes_k89_whole_numbers_given
set_option Elab.async false
set_option linter.all false
local macro_rules|`(tactic| lia)=>`(tactic| first|with_reducible(first|assumption|exact Nat.le_of_lt ‹_›|exact Nat.lt_succ_of_le ‹_›|exact Nat.le_succ_of_le ‹_›|exact Nat.le_of_not_lt ‹_›|exact Nat.le_trans ‹_› ‹_›|exact Nat.lt_of_lt_of_le ‹_› ‹_›|exact Nat.sub_one_lt_of_le ‹_› ‹_›|exact Nat.le_add_right _ _|exact Nat.succ_pos _|exact Nat.lt_succ_self _|exact Nat.le_add_left _ _)|lia -verbose)
set_option maxRecDepth 100000
local macro_rules|`(tactic|trivial)=>`(tactic|first|exact⟨by rfl,by first|exact Or.inl rfl|exact Or.inr (.inl rfl)|exact Or.inr (.inr rfl),by decide,by decide⟩|exact⟨rfl,rfl,rfl,by decide +kernel,rfl,by decide +kernel,by decide +kernel⟩|exact True.intro|rfl|assumption|exact .inl rfl|exact .inr rfl)
section
open PySem PySem.Spec PyProof.Rows
def J0:=@List.getElem?_eq_getElem
def J6:=@wpAny_bind
def J7:=@List.getD_eq_getElem?_getD
def J8:=@Heap.get?_push_of_some
def J9:=@List.getElem?_eq_some_iff
def Ja:=@if_neg
def Jb:=@if_pos
def Jc:=@Heap.lt_size
def Jd:=@List.size_toArray
def Je:=@List.length_map
def Jf:=@Nat.le_refl
def Jg:=@wpS_pure
def Jh:=@wpS_bind
def Jj:=@List.length_append
def Jm:=@wpAny_pure
def Jn:=@List.mem_cons
def Jp:=@Bool.false_ne_true
def Jq:=@List.not_mem_nil
def Jr:=@List.mem_cons_of_mem
def Js:=@decide_eq_false
def Jt:=@Array.size_push
def Ju:=@List.mem_cons_self
def Jv:=@Option.some.inj
def Jw:=@Heap.get?_push_size
def Jx:=@List.length_range
def Jy:=@Array.size_append
def Jz:=@List.mem_append
def JA:=@decide_eq_true
def JB:=@Array.length_toList
def JC:=@List.mem_range
def JD:=@List.getElem?_map
def JE:=@List.length_cons
def JF:=@List.map_append
def JG:=@Nat.lt_of_lt_of_le
def JH:=@Nat.ne_of_lt
def JJ:=@List.mem_append_right
def JK:=@decide_eq_false_iff_not
def JL:=@List.append_assoc
def JM:=@Nat.le_trans
def JN:=@List.length_take
def JP:=@List.map_congr_left
def JQ:=@Array.getElem?_eq_some_iff
def JR:=@List.take_succ_eq_append_getElem
def JS:=@PySem.W.mg_of
def JT:=@decide_eq_true_eq
def JU:=@wpAny_mono
def JV:=@Nat.ne_of_gt
def JW:=@or_false
def JX:=@Nat.zero_le
def JY:=@List.nodup_cons
def JZ:=@List.mem_singleton
def Y0:=@PySem.W.mg_none_of
def Y1:=@sizeLine_eq
def Y2:=@Array.getElem?_toList
def Y3:=@PyProof.Rows.callWith_type1
def Y4:=@PySem.boot_len
def Y5:=@List.map_cons
def Y6:=@Bool.false_eq_true
def Y7:=@Nat.one_le_two_pow
def Y8:=@List.getElem?_append_left
def Y9:=@Array.toList_append
def Ya:=@List.mem_of_getElem?
def Yb:=@List.getElem_mem
def Yc:=@Int.toNat_natCast
def Yd:=@List.length_set
def Ye:=@List.getElem?_append_right
def Yf:=@wpAny_seqItems
def Yg:=@Int.eq_ofNat_of_zero_le
def Yh:=@congrArg
def Yi:=@wpAny_setField_rec
def Yj:=@List.mem_map
def Yk:=@List.range_succ
def Ym:=@PySem.F.plainAttrs_list
def Yn:=@List.drop_eq_getElem_cons
def Yp:=@Heap.get?_update_other
def Yq:=@Nat.pow_succ
def Yr:=@List.replicate_succ
def Ys:=@List.mem_iff_getElem?
def Yt:=@List.getElem?_set
def Yu:=@wpS_forRange
def Yv:=@List.pairwise_cons
def Yw:=@List.pairwise_append
def Yx:=@wpAny_holding
def Yy:=@List.append_nil
def Yz:=@if_true
def YA:=@Nat.zero_add
def YB:=@List.take_length
def YC:=@PassesOwn.never
def YD:=@F.slot_zip_next
def YE:=@List.all_eq_true
def YF:=@Bool.eq_iff_iff
def YG:=@PySem.W.kia_one
def YH:=@List.nil_append
def YJ:=@List.perm_append_comm
def YK:=@Nat.lt_irrefl
def YL:=@List.map_map
def YM:=@Around.under_plainId
def YN:=@Nat.pow_le_pow_right
def YQ:=@codeAny_builtin
def YR:=@List.length_drop
def YS:=@wpAny_call_entry
def YT:=@wpAny_Call_Name_kw
def YU:=@decide_eq_true_iff
def YV:=@Int.emod_lt_of_pos
def YW:=@wpS_mono
def YX:=@List.nodup_iff_pairwise_ne
def YY:=@List.length_replicate
def YZ:=@Heap.get?_update_self
def Z0:=@List.take_append_drop
def Z2:=@List.extract_eq_take_drop
def Z3:=@List.getElem?_eq_none_iff
def Z4:=@Int.emod_nonneg
def Z5:=@List.mem_append_left
def Z6:=@if_false
def Z7:=@List.flatten_cons
def Z8:=@Int.le_trans
def Z9:=@Array.toList_push
def Za:=@Nat.add_zero
def Zb:=@Nat.lt_trans
def Zc:=@List.pairwise_map
def Zd:=@not_or
def Ze:=@PySem.F.slot_list_append
def Zf:=@PySem.F.type_list_append
def Zg:=@List.length_reverse
def Zh:=@Heap.size_push
def Zi:=@List.getElem?_replicate
def Zj:=@Bool.and_eq_true
def Zk:=@List.ext_getElem
def Zm:=@List.getElem_map
def Zn:=@List.nodup_range
def Zp:=@List.filter_cons
def Zq:=@wpAny_rule
def Zr:=@List.take_of_length_le
def Zs:=@Option.map_eq_some_iff
def Zt:=@List.filterMap_map
def Zu:=@List.forIn_cons
def Zv:=@List.length_nil
def Zw:=@List.length_zip
def Zx:=@wpAny_standAt
def Zy:=@wpAny_newObj_type
def Zz:=@Bool.not_eq_true'
def ZA:=@List.nodup_append
def ZB:=@Array.toList_extract
def ZC:=@List.lookup_cons
def ZD:=@List.getElem?_zip_eq_some
def ZE:=@List.filterMap_cons
def ZF:=@List.getElem?_range
def ZG:=@List.getElem?_take_of_lt
def ZH:=@Nat.add_assoc
def ZJ:=@wpAny_passesOwn
def ZK:=@List.getElem_range
def ZL:=@List.getElem?_drop
def ZM:=@List.filter_append
def ZN:=@Int.le_refl
def ZP:=@wpAny_truthy_bool
def ZQ:=@List.forIn_nil
def ZR:=@List.Perm.refl
def ZS:=@F.args_zip_next_1
def ZT:=@List.Perm.append_left
def ZU:=@Heap.size_update
def ZV:=@Nat.mod_eq_of_lt
def ZW:=@List.cons_append
def ZX:=@F.entry_zip_next
def ZY:=@wpAny_attempt
def ZZ:=@wpAny_updateSeq
def W0:=@List.sum_append
def W7:=@beq_eq_false_iff_ne
def W8:=@PySem.mem_of_lookup
def W9:=@F.plain_extend_loop
def Wa:=@List.idxOf_lt_length_of_mem
def Wb:=@wpS_get
def Wc:=@beq_iff_eq
def Wd:=@Calls.spliced_cons
def We:=@PySem.W.callWith_K
def Wf:=@wpS_modify
def Wg:=@List.drop_zero
def Wh:=@Bool.not_eq_false'
def Wi:=@Nat.add_mul_mod_self_left
def Wj:=@Calls.spliced_nil
def Wk:=@wpAny_onRaise
def Wm:=@plainId_quiet
def Wn:=@List.sum_cons
def Wp:=@List.map_take
end
namespace L2
open PySem PySem.Spec PyProof.Rows
abbrev Key:=Sum Int Str
def rX:Key->Value->Bool
  | .inl k,v=>Value.isInt k v
  | .inr x,v=>Value.isStrOf x v
def za7 (w:World):Key->Int
  | .inl k=>hashInt k
  | .inr x=>hashStr w x
theorem yT:∀ {k:Key}{v:Value},rX k v=true->(∃ i t,k=Sum.inl i/\v=Value.int i t)\/(∃ x t,k=Sum.inr x/\v=Value.str x t)
  | .inl i,v,h=>by
    obtain⟨t,e⟩:=Value.isInt_shape (k:=i) (v:=v) h
    exact .inl ⟨i,t,rfl,e⟩
  | .inr x,v,h=>by
    obtain⟨t,e⟩:=Value.isStrOf_shape (x:=x) (v:=v) h;exact .inr ⟨x,t,rfl,e⟩
theorem jY (i:Int)(t:Tok):rX (.inl i) (.int i t)=true:=by simp[rX,Value.isInt]
theorem jX (x:Str)(t:Tok):rX (.inr x) (.str x t)=true:=by simp[rX,Value.isStrOf]
theorem bv (a b:Int):decide ((Sum.inl a:Key)=Sum.inl b)=(a == b):=by
  by_cases e:a=b
  · subst e;simp
  · have h:¬(Sum.inl a:Key)=Sum.inl b:=λq=>e (Sum.inl.inj q)
    rw[Js h];exact(W7.mpr e).symm
theorem br (a b:Str):decide ((Sum.inr a:Key)=Sum.inr b)=decide (a=b):=by
  by_cases e:a=b
  · subst e;simp
  · have h:¬(Sum.inr a:Key)=Sum.inr b:=λq=>e (Sum.inr.inj q)
    rw[Js h,Js e]
theorem bu (a:Int)(b:Str):decide ((Sum.inl a:Key)=Sum.inr b)=false:=Js (λq=>nomatch q)
theorem bt (a:Str)(b:Int):decide ((Sum.inr a:Key)=Sum.inl b)=false:=Js (λq=>nomatch q)
def xK (prog:Program)(w:World):PySem.KeyKind prog w Key where
  is:=rX
  hash:=za7 w
  inj:=λv a b l f=>by
    rcases yT l with ⟨i,t,rfl,rfl⟩|⟨x,t,rfl,rfl⟩
    · rcases yT f with ⟨j,u,rfl,e⟩|⟨y,u,rfl,e⟩
      · injection e with c _;rw[c]
      · exact nomatch e
    · rcases yT f with ⟨j,u,rfl,e⟩|⟨y,u,rfl,e⟩
      · exact nomatch e
      · injection e with c _;rw[c]
  byValue:=λk v h=>by
    rcases yT h with ⟨i,t,rfl,rfl⟩|⟨x,t,rfl,rfl⟩<;>rfl
  pyHash:=λd h=>by
    rcases yT d with ⟨i,t,rfl,rfl⟩|⟨x,t,rfl,rfl⟩
    · exact wpAny_pyHash_int h
    · exact wpAny_pyHash_str h
  eqBool:=λg d h=>by
    rcases yT g with ⟨i,t,rfl,rfl⟩|⟨x,t,rfl,rfl⟩
    · rcases yT d with ⟨j,u,rfl,rfl⟩|⟨y,u,rfl,rfl⟩
      · rw[bv]at h;exact wpAny_eqBool_int h
      · rw[bu]at h;exact SeqAt.EqAt.int_str i t y u _ _ _ _ h
    · rcases yT d with ⟨j,u,rfl,rfl⟩|⟨y,u,rfl,rfl⟩
      · rw[bt]at h;exact SeqAt.EqAt.str_int x t j u _ _ _ _ h
      · rw[br]at h;exact wpAny_eqBool_str h
  «strs»:=λk x t v h=>by
    rcases yT h with ⟨i,u,rfl,e⟩|⟨y,u,rfl,e⟩
    · exact nomatch e
    · injection e with c _
      subst c;cases v<;>rfl
theorem oM (prog:Program)(w:World)(i:Int)(t:Tok):(xK prog w).is (.inl i) (.int i t)=true:=jY i t
theorem oK (prog:Program)(w:World)(x:Str)(t:Tok):(xK prog w).is (.inr x) (.str x t)=true:=jX x t
inductive V where
  | non|bl (b:Bool)|int (i:Int)|str (x:Str)|byt (b:Array UInt8)|flt (b:UInt64)|ref (a:Addr)|ty (n:String)
  deriving DecidableEq
def RelV:V->Value->Prop
  | .non,u=>u=Value.none
  | .bl b,u=>u=Value.bool b
  | .int i,u=>∃ t,u=Value.int i t
  | .str x,u=>∃ t,u=Value.str x t
  | .byt b,u=>∃ t,u=Value.bytes b t
  | .flt b,u=>∃ t,u=Value.float b t
  | .ref a,u=>u=Value.ref a
  | .ty n,u=>u=Value.type n
abbrev Vals:List V->List Value->Prop:=Paired RelV
theorem Vals.length {xs:List V}{us:List Value}(r:Vals xs us):xs.length=us.length:=Paired.length r
theorem Vals.get:∀ {xs:List V}{us:List Value}{i:Nat}{x:V},Vals xs us->xs[i]?=some x->∃ u,us[i]?=some u/\RelV x u
  | _,_,_,_,.nil,e=>by simp at e
  | _,_,0,_,.cons r _,e=>by simp at e;subst e;exact⟨_,rfl,r⟩
  | _,_,i+1,x,.cons _ t,e=>by
    obtain⟨u,b,a⟩:=Vals.get (i:=i) (x:=x) t (by simpa using e);exact⟨u,by simpa using b,a⟩
theorem Vals.set {x:V}{u:Value}(r:RelV x u):∀ {xs:List V}{us:List Value}(i:Nat),Vals xs us->Vals (xs.set i x) (us.set i u)
  | _,_,_,.nil=>.nil
  | _,_,0,.cons _ t=>.cons r t
  | _,_,i+1,.cons q t=>.cons q (Vals.set r i t)
theorem Vals.append:∀ {xs ys:List V}{us ws:List Value},Vals xs us->Vals ys ws->Vals (xs++ys) (us++ws)
  | _,_,_,_,.nil,s=>s
  | _,_,_,_,.cons r t,s=>.cons r (Vals.append t s)
theorem Vals.take:∀ {xs:List V}{us:List Value}(n:Nat),Vals xs us->Vals (xs.take n) (us.take n)
  | _,_,0,_=>.nil
  | _,_,_+1,.nil=>.nil
  | _,_,n+1,.cons r t=>.cons r (Vals.take n t)
theorem Vals.drop:∀ {xs:List V}{us:List Value}(n:Nat),Vals xs us->Vals (xs.drop n) (us.drop n)
  | _,_,0,r=>r
  | _,_,_+1,.nil=>.nil
  | _,_,n+1,.cons _ t=>Vals.drop n t
def RelO:Option V->Option Value->Prop
  | some v,some u=>RelV v u
  | none,none=>True
  | _,_=>False
def KV {κ:Type}:List (κ × V)->List (κ × Value)->Prop:=Paired λ(p:κ × V) (q:κ × Value)=>p.1=q.1/\RelV p.2 q.2
def kV:Key->V
  | .inl i=>.int i
  | .inr x=>.str x
inductive HO where
  | lst (xs:List V)
  | tup (xs:List V)
  | dK (kvs:List (Key × V))|dT (kvs:List (List Key × V))
  | set (S:Int->Bool) (n:Nat)
  | ins (C dx:Addr) (fs:List (Str × V))
  | own (x:Addr)
  | xd (fs:List (Str × V))
  | met (f x:Addr)
  | rng (lo hi:Int)
  | frz (o:Obj) (u:HO)
  | tbl (ps:Array Value)
  | ext (φ:Heap->Prop)
abbrev Hp:=Addr->Option HO
def upd (H:Hp)(a:Addr)(o:HO):Hp:=λb=>if b=a then some o else H b
theorem zG {H:Hp}{a:Addr}{o:HO}:upd H a o a=some o:=by unfold upd;rw[Jb rfl]
theorem zH {H:Hp}{a b:Addr}{o:HO}(h:b≠a):upd H a o b=H b:=by unfold upd;rw[Ja h]
theorem wN {H:Hp}{a b:Addr}{o u:HO}(h:H a=some o)(h':H b=some u)(d:o≠u):a≠b:=by
  intro e;subst e;rw[h]at h';exact d (Jv h')
theorem zF {H:Hp}{a b:Addr}{o:HO}(h:H a=some o)(h':H b=none):a≠b:=by
  intro e;subst e;rw[h]at h';cases h'
def TupX (h:Heap)(a:Addr)(items:Array Value):Prop:=∃ o,h.get? a=some o/\o.cls=.type "tuple"/\∃ n,o.data=.seq items n/\o.dict=none
theorem TupX.tup {h:Heap}{a:Addr}{items:Array Value}(x:TupX h a items):IsTup h a items:=let ⟨o,e,c,n,d,_⟩:=x;⟨o,e,c,n,d⟩
theorem TupX.new (h:Heap)(items:Array Value):TupX (h.push { cls:=.type "tuple",data:=.seq items }) h.objs.size items:=⟨_,Jw _ rfl,rfl,0,rfl,rfl⟩
section
variable (P:Program)(w:World)
def ObjOk (H:Hp)(h:Heap)(a:Addr):HO->Prop
  | .lst xs=>xs.length<=sizeLine/\∃ (its:List Value) (n:Nat),Vals xs its/\h.get? a=some { cls:=.type "list",data:=.seq its.toArray n }
  | .tup xs=>xs.length<=sizeLine/\∃ its:List Value,Vals xs its/\TupX h a its.toArray
  | .dK b=>b.length<=sizeLine/\(a == sysModules)=false/\∃ g,KV b g/\h.DictOf (xK P w) a g
  | .dT b=>b.length<=sizeLine/\(a == sysModules)=false/\∃ xs:List (List Key × Addr × Value),
      Paired (λ(p:List Key × V) (q:List Key × Addr × Value)=>p.1=q.1/\H q.2.1=some (.tup (p.1.map kV))/\RelV p.2 q.2.2) b xs /\
      ∃ o k r,h.get? a=some o/\o.ExactDict/\o.data=.dict k r/\k.toList=xs.map (entryOfKey (tupleKind (xK P w)))/\(xs.map (·.1)).Nodup
  | .set S n=>h.SetOf (intKind P w) a S n
  | .ins C d fs=>H d=some (.own a)/\fs.length<=1000/\d≠a/\h.get? a=some (PySem.W.instObj C d) /\
      ∃ c,h.Ns1 d c/\(∀ f,RelO (fs.lookup f) (c f))/\PySem.Within c (fs.map (·.1))
  | .own _=>∃ o,h.get? a=some o
  | .xd fs=>∃ c,h.Ns1 a c/\∀ f,RelO (fs.lookup f) (c f)
  | .rng lo m=>∃ t u v,h.get? a=some { cls:=.type "range",data:=.fields #[.int lo t,.int m u,.int 1 v] }
  | .frz o u=>h.get? a=some o/\ObjOk H h a u
  | .tbl l=>h.get? a=some { cls:=.none,data:=.fields l }
  | .met f x=>h.get? a=some (PySem.W.methodObj (.ref f) (.ref x))
  | .ext e=>e h/\(∃ o,h.get? a=some o)/\∀ j i:Heap,e j->(∀ o,j.get? a=some o->i.get? a=some o)->e i
def HOk (H:Hp)(h:Heap):Prop:=∀ a o,H a=some o->ObjOk P w H h a o
end
section
variable {P:Program}{w:World}{H H':Hp}{h h':Heap}{a:Addr}{o:HO}
theorem ObjOk.lt (x:ObjOk P w H h a o):a<h.objs.size:=by
  cases o with
  | lst c=>obtain⟨_,_,_,_,e⟩:=x;exact Jc e
  | tup c=>obtain⟨_,_,_,p⟩:=x;exact p.tup.lt
  | dK b=>obtain⟨_,_,_,_,o,_,_,e,_⟩:=x;exact Jc e
  | dT b=>obtain⟨_,_,_,_,o,_,_,e,_⟩:=x;exact Jc e
  | set S n=>obtain⟨o,_,_,_,e,_⟩:=x;exact Jc e
  | ins C j fs=>obtain⟨_,_,_,e,_⟩:=x;exact Jc e
  | own y=>obtain⟨_,e⟩:=x;exact Jc e
  | xd fs=>obtain⟨_,⟨_,_,_,e,_⟩,_⟩:=x;exact Jc e
  | rng lo i=>obtain⟨_,_,_,e⟩:=x;exact Jc e
  | frz ob u=>obtain⟨e,_⟩:=x;exact Jc e
  | tbl g=>exact Jc (show h.get? a=some _ from x)
  | met f y=>exact Jc (show h.get? a=some _ from x)
  | ext d=>obtain⟨_,⟨_,e⟩,_⟩:=x;exact Jc e
theorem Paired.mapP {α β:Type}{F G:α->β->Prop}:∀ {l₁:List α}{l₂:List β},Paired F l₁ l₂->(∀ a b,F a b->G a b)->Paired G l₁ l₂
  | _,_,.nil,_=>.nil
  | _,_,.cons r t,f=>.cons (f _ _ r) (Paired.mapP t f)
theorem ObjOk.stay (x:ObjOk P w H h a o)(k:∀ b u,(b=a\/H b=some (.own a))->h.get? b=some u->h'.get? b=some u)(E:∀ b,H b=some (.own a)->H' b=some (.own a))(D:∀ b xs,H b=some (.tup xs)->H' b=some (.tup xs)):ObjOk P w H' h' a o:=by
  induction o with
  | lst xs=>obtain⟨z,j,n,r,e⟩:=x;exact⟨z,j,n,r,k _ _ (.inl rfl) e⟩
  | tup xs=>obtain⟨z,j,r,ob,e,c⟩:=x;exact⟨z,j,r,ob,k _ _ (.inl rfl) e,c⟩
  | dK s=>obtain⟨z,y,B,r,ob,g,i,e,c⟩:=x;exact⟨z,y,B,r,ob,g,i,k _ _ (.inl rfl) e,c⟩
  | dT s =>
    obtain⟨z,y,xs,r,ob,g,i,e,c⟩:=x
    exact⟨z,y,xs,Paired.mapP r λp q z=>⟨z.1,D _ _ z.2.1,z.2.2⟩,ob,g,i,k _ _ (.inl rfl) e,c⟩
  | set S n=>obtain⟨ob,g,i,t,e,c⟩:=x;exact⟨ob,g,i,t,k _ _ (.inl rfl) e,c⟩
  | ins C I fs =>
    obtain⟨d,z,ne,e,m,⟨l,g,i,e2,c⟩,r⟩:=x
    exact⟨E _ d,z,ne,k _ _ (.inl rfl) e,m,⟨l,g,i,k _ _ (.inr d) e2,c⟩,r⟩
  | own y=>obtain⟨ob,e⟩:=x;exact⟨ob,k _ _ (.inl rfl) e⟩
  | xd fs=>obtain⟨m,⟨l,g,i,e,c⟩,r⟩:=x;exact⟨m,⟨l,g,i,k _ _ (.inl rfl) e,c⟩,r⟩
  | rng lo G=>obtain⟨t,u,v,e⟩:=x;exact⟨t,u,v,k _ _ (.inl rfl) e⟩
  | frz ob u ih=>obtain⟨e,q⟩:=x;exact⟨k _ _ (.inl rfl) e,ih q⟩
  | tbl A =>
    have e:h.get? a=some { cls:=.none,data:=.fields A }:=x;show h'.get? a=some { cls:=.none,data:=.fields A }
    exact k a _ (.inl rfl) e
  | met f y =>
    have e:h.get? a=some (PySem.W.methodObj (.ref f) (.ref y)):=x;show h'.get? a=some (PySem.W.methodObj (.ref f) (.ref y))
    exact k a _ (.inl rfl) e
  | ext F=>obtain⟨p,⟨o,e⟩,st⟩:=x;exact⟨st _ _ p λo q=>k _ _ (.inl rfl) q,⟨o,k _ _ (.inl rfl) e⟩,st⟩
theorem HOk.lt (x:HOk P w H h)(e:H a=some o):a<h.objs.size:=(x a o e).lt
theorem HOk.fresh (x:HOk P w H h)(e:h.objs.size<=a):H a=none:=by
  cases q:H a with
  | none=>rfl
  | some u=>exact absurd (JG (x.lt q) e) (YK _)
theorem HOk.kept (x:HOk P w H h)(k:∀ b u,h.get? b=some u->h'.get? b=some u):HOk P w H h':=λa o e =>
  (x a o e).stay (λb u _ q=>k b u q) (λ_ q=>q) λ_ _ q=>q
theorem HOk.laid (x:HOk P w H h)(k:∀ b u,h.get? b=some u->h'.get? b=some u)(hp:h.objs.size<=a)(new:ObjOk P w (upd H a o) h' a o):HOk P w (upd H a o) h':=λb u e=>by
  have d:=x.fresh hp;by_cases f:b=a
  · subst f;rw[zG]at e;cases e;exact new
  · rw[zH f]at e
    exact(x b u e).stay (λc v _ q=>k c v q) (λc q=>by rw[zH (zF q d)];exact q) λc g q=>by rw[zH (zF q d)];exact q
end
def Rd (H:Hp)(a:Addr)(u:HO):Prop:=H a=some u\/∃ o,H a=some (.frz o u)
theorem Rd.ok {P:Program}{w:World}{H:Hp}{h:Heap}{a:Addr}{u:HO}(r:Rd H a u)(x:HOk P w H h):ObjOk P w H h a u:=by
  rcases r with r|⟨o,r⟩
  · exact x a u r
  · obtain⟨_,q⟩:=x a _ r
    exact q
def Mut:Option HO->Prop
  | some (.lst _)=>True
  | some (.dK _)=>True
  | some (.dT _)=>True
  | some (.set _ _)=>True
  | some (.ins _ _ _)=>True
  | some (.ext _)=>True
  | _=>False
section
variable {P:Program}{w:World}{H:Hp}{h h':Heap}{x e:Addr}{o':HO}
theorem HOk.write (ok:HOk P w H h)(i:Mut (H x))(o:e=x\/H e=some (.own x))(k:∀ b u,b≠e->h.get? b=some u->h'.get? b=some u)(m:∃ u,h'.get? e=some u)(new:ObjOk P w (upd H x o') h' x o'):HOk P w (upd H x o') h':=λb u q=>by
  have d:∀ c y,H c=some (.own y)->c≠x:=λc y r z=>by subst z;rw[r]at i;exact i
  have f:∀ c g,H c=some (.tup g)->c≠x:=λc g r z=>by subst z;rw[r]at i;exact i
  by_cases l:b=x
  · subst l;rw[zG]at q;cases q;exact new
  · rw[zH l]at q
    by_cases a:b=e
    · have n:H b=some (.own x):=by
        rcases o with z|z
        · exact absurd (a.trans z) l
        · rw[a];exact z
      rw[q]at n;cases n;obtain⟨v,p⟩:=m;exact⟨v,by rw[a];exact p⟩
    · refine(ok b u q).stay (λc v j r=>k c v ?_ r) (λc r=>by rw[zH (d c b r)];exact r) λc g r=>by rw[zH (f c g r)];exact r
      rcases j with rfl|j
      · exact a
      · rintro rfl
        rcases o with z|z
        · exact d c b j z
        · rw[j]at z;cases z;exact l rfl
end
structure Un (fs ex:List Addr) (H H':Hp) (h h':Heap):Prop where
  keep:∀ b o,h.get? b=some o->H b=none->b∉fs->b∉ex->h'.get? b=some o
  slot:∀ b o,h.get? b=some o->H b=none->b∈fs->b∉ex->∃ sl,h'.get? b=some { o with slots:=sl }
  free:∀ b o,h.get? b=some o->H b=none->b∉ex->H' b=none
  there:∀ b o,h.get? b=some o->b∉ex->∃ o',h'.get? b=some o'
  tups:∀ b xs,H b=some (.tup xs)->H' b=some (.tup xs)
  frzs:∀ b o u,H b=some (.frz o u)->H' b=some (.frz o u)
  tbls:∀ b ps,H b=some (.tbl ps)->∃ more,H' b=some (.tbl (ps++more))
section
variable {fs ex:List Addr}{H H1:Hp}{h h1 h':Heap}{a x e:Addr}{o:HO}
theorem Un.any (u:Un fs ex H H1 h h1){b:Addr}{ob:Obj}(q:h.get? b=some ob)(n:H b=none)(a:b∉ex):∃ sl,h1.get? b=some { ob with slots:=sl }:=by
  by_cases c:b∈fs
  · exact u.slot b ob q n c a
  · exact⟨ob.slots,u.keep b ob q n c a⟩
theorem Un.kept (k:∀ b u,h.get? b=some u->h'.get? b=some u):Un fs ex H H h h' :=
  ⟨λb ob q _ _ _=>k b ob q,λb ob q _ _ _=>⟨ob.slots,k b ob q⟩,λ_ _ _ n _=>n,λb ob q _=>⟨ob,k b ob q⟩,λ_ _ q=>q,λ_ _ _ q=>q,λ_ a q=>⟨#[],by rw[q];simp⟩⟩
theorem Un.refl:Un fs ex H H h h:=Un.kept λ_ _ q=>q
theorem Un.laid (k:∀ b u,h.get? b=some u->h'.get? b=some u)(hp:h.objs.size<=a)(hn:H a=none):Un fs ex H (upd H a o) h h' where
  keep:=λb u q _ _ _=>k b u q
  slot:=λb u q _ _ _=>⟨u.slots,k b u q⟩
  free:=λb u q n _=>by rw[zH (JH (JG (Jc q) hp))];exact n
  there:=λb u q _=>⟨u,k b u q⟩
  tups:=λb c q=>by rw[zH (zF q hn)];exact q
  frzs:=λb u c q=>by rw[zH (zF q hn)];exact q
  tbls:=λb d q=>⟨#[],by rw[zH (zF q hn),q];simp⟩
theorem Un.write (c:Mut (H x))(l:e=x\/H e=some (.own x))(k:∀ b u,b≠e->h.get? b=some u->h'.get? b=some u)(f:∃ u,h'.get? e=some u):Un fs ex H (upd H x o) h h':=by
  have g:∀ b,H b=none->b≠x:=λb n z=>by subst z;rw[n]at c;exact c
  have i:∀ b,H b=none->b≠e:=λb n z=>by
    subst z;rcases l with r|r
    · exact g b n r
    · rw[n]at r;cases r
  have d:∀ b u,H b=some u->¬ Mut (some u)->b≠x:=λb u q nm z=>by subst z;rw[q]at c;exact nm c
  refine⟨λb u q n _ _=>k b u (i b n) q,λb u q n _ _=>⟨u.slots,k b u (i b n) q⟩,λb u q n _=>by rw[zH (g b n)];exact n,λb u q _=>?_,
    λb j q=>by rw[zH (d b _ q λz=>z)];exact q,λb u j q=>by rw[zH (d b _ q λz=>z)];exact q,λb m q=>⟨#[],by rw[zH (d b _ q λz=>z),q];simp⟩⟩
  by_cases a:b=e
  · subst a;exact f
  · exact⟨u,k b u a q⟩
end
def trk (h:Heap)(H:Hp):List Addr:=(List.range h.objs.size).filter λa=>(H a).isSome
def qw (h:Heap)(H:Hp):Heap:=PySem.W.hideAll h (trk h H)
theorem jc (h:Heap)(H:Hp):(qw h H).objs.size=h.objs.size:=PySem.W.hideAll_size _ _
theorem ga {h:Heap}{H:Hp}{b:Addr}{o:Obj}(e:h.get? b=some o)(n:H b=none):(qw h H).get? b=some o :=
  PySem.W.hideAll_get _ e λa=>by
    have q:(H b).isSome=true:=(List.mem_filter.mp a).2;rw[n]at q;simp at q
theorem df {h:Heap}{H:Hp}{b:Addr}{o:Obj}(e:(qw h H).get? b=some o):h.get? b=some o/\H b=none:=by
  have a:h.get? b=some o:=PySem.W.of_hideAll (trk h H) e;refine⟨a,?_⟩
  cases q:H b with
  | none=>rfl
  | some x =>
    have c:b∈trk h H:=List.mem_filter.mpr ⟨JC.mpr (Jc a),by simp[q]⟩;have z:(qw h H).get? b=none:=PySem.W.hideAll_none (trk h H) c;rw[z]at e;cases e
def cX (g h:Heap)(L:Addr):List (Addr × Obj):=(List.range h.objs.size).filterMap λa=>if a=L\/(g.get? a).isSome=true then none else (h.get? a).map λo=>(a,o)
def rest (g h:Heap)(L d:Addr):List (Addr × Obj):=(cX g h L).filter λp=>decide (p.1≠d)
structure Mod (K:PySem.W.Frag) (mg:Str->Option Value) (base:Heap):Prop where
  kin:K.In base
  glob:base.Ns mainGlobals mg
  blt:∃ mb,base.Ns builtinsNs mb/\∀ x:Str,x≠"__name__"->mb x=bootBuiltins x
  nolimit:base.NoLimit
structure Cx where
  prog:Program
  w:World
  K:PySem.W.Frag
  mg:Str->Option Value
  base:Heap
  A:Around
  N:List Str
  s₀:Shared
  H₀:Hp
  env:Env
  outer:List Env
  stack:List Env
  ex:List Addr
  fn:Str->Bool
  calm:Bool
  pn:List (Addr × Obj)
  xe:Value->Shared->Prop
def frs (l:List Env):List Addr:=l.filterMap (·.frame)
abbrev Cx.fs (X:Cx):List Addr:=frs X.outer
def Vis (sc:Scope)(x:Str):Prop:=sc.names.lookup x=some .local \/ sc.names.lookup x=some .cell\/sc.names.lookup x=some .free
def Loc (sc:Scope)(x:Str):Prop:=sc.names.lookup x=some .local \/ sc.names.lookup x=some .cell
def Look (env:Env)(h:Heap)(m:Str->Option Value)(x:Str)(u:Value):Prop :=
  (env.kindOf x=some .local /\ m x=some u)\/((env.kindOf x=some .cell\/env.kindOf x=some .free)/\∃ c,env.cells.lookup x=some c/\h.IsCell c (some u))
structure Cx.Ok (X:Cx):Prop where
  mod:Mod X.K X.mg X.base
  kind:X.env.scope.kind=.function
  glob:X.env.globals=mainGlobals
  blt:X.env.builtins=builtinsNs
  above:X.s₀.heap.objs.size<=X.env.locals
  inj:∀ x y c,X.env.cells.lookup x=some c->X.env.cells.lookup y=some c->x=y
  has:∀ x,(X.env.kindOf x=some .cell\/X.env.kindOf x=some .free)->∃ c,X.env.cells.lookup x=some c
  cab:∀ x c,X.fn x=true->X.env.cells.lookup x=some c->X.s₀.heap.objs.size<=c
  hd:X.calm=true->X.A.handled=none
  frames:X.A.frames=some X.stack
  stk:X.stack=X.outer\/(X.stack=X.env::X.outer/\X.env.frame=some X.env.locals)
  exf:∀ b∈X.ex,b≠X.env.locals/\∀ x c,X.env.cells.lookup x=some c->c≠b
  bs:∀ b o,X.base.get? b=some o->X.s₀.heap.get? b=some o/\X.H₀ b=none
  bsz:X.base.objs.size<=X.s₀.heap.objs.size
  noex:∀ b o,X.base.get? b=some o->b∉X.ex
  exfs:∀ b∈X.ex,b∉X.fs
  funs:X.s₀.heap.FunFrames X.base X.outer
  frf:∀ b∈X.fs,X.H₀ b=none
structure Inv (X:Cx) (pins:List (Addr × Obj)) (σ:List (Option V)) (H:Hp) (s:Shared):Prop where
  ok:X.Ok
  os:s.os=X.s₀.os
  bare:AllBare s.gens
  base:Un X.fs X.ex X.H₀ H X.s₀.heap s.heap
  loc:∃ m,s.heap.Ns X.env.locals m/\∀ (i:Nat) (x:Str) (v:V),X.N[i]?=some x->σ[i]?=some (some v)->Vis X.env.scope x->∃ u,RelV v u/\Look X.env s.heap m x u
  cell:∀ x c,X.env.cells.lookup x=some c->∃ v,s.heap.IsCell c v
  free:H X.env.locals=none
  freeC:∀ x c,X.env.cells.lookup x=some c->H c=none
  pin:∀ p∈X.pn++pins,s.heap.get? p.1=some p.2/\H p.1=none/\p.1≠X.env.locals/\p.1∉X.fs/\∀ v,p.2.data≠.cell v
  hok:HOk X.prog X.w H s.heap
  len:σ.length=X.N.length
section
variable {X:Cx}{pins:List (Addr × Obj)}{σ:List (Option V)}{H H':Hp}{s:Shared}{h':Heap}
theorem Cx.Ok.nofr (ok:X.Ok){b:Addr}{o:Obj}(e:X.base.get? b=some o):b∉X.fs:=λa=>by
  have:=(ok.funs.mem a).1;rw[e]at this;cases this
theorem Inv.bs (I:Inv X pins σ H s):∀ b o,X.base.get? b=some o->s.heap.get? b=some o/\H b=none:=λb o e =>
  ⟨I.base.keep b o (I.ok.bs b o e).1 (I.ok.bs b o e).2 (I.ok.nofr e) (I.ok.noex b o e),I.base.free b o (I.ok.bs b o e).1 (I.ok.bs b o e).2 (I.ok.noex b o e)⟩
theorem Inv.bk (I:Inv X pins σ H s):∀ b o,X.base.get? b=some o->s.heap.get? b=some o:=λb o e=>(I.bs b o e).1
theorem Inv.mod (I:Inv X pins σ H s):Mod X.K X.mg X.base:=I.ok.mod
theorem Inv.kIn (I:Inv X pins σ H s):X.K.In s.heap:=I.ok.mod.kin.keeps I.bk
theorem Inv.lt (I:Inv X pins σ H s):X.env.locals<s.heap.objs.size:=let ⟨_,a,_⟩:=I.loc;a.lt
theorem Inv.sz (I:Inv X pins σ H s):X.s₀.heap.objs.size<=s.heap.objs.size:=JM I.ok.above (Nat.le_of_lt I.lt)
theorem Inv.nofs (I:Inv X pins σ H s){a:Addr}(h:s.heap.objs.size<=a):a∉X.fs:=λc=>by
  obtain⟨_,o,b,_⟩:=I.ok.funs.mem c;exact absurd (JG (Jc b) (JM I.sz h)) (YK _)
theorem Inv.cne (I:Inv X pins σ H s):∀ x c,X.env.cells.lookup x=some c->c≠X.env.locals:=λx c e z=>by
  obtain⟨v,o,d,f⟩:=I.cell x c e;obtain⟨m,⟨g,h,i,a,b,_⟩,_⟩:=I.loc;rw[z,a]at d;cases d;rw[b]at f;cases f
theorem Inv.funs (I:Inv X pins σ H s):s.heap.FunFrames X.base X.outer:=by
  have all:∀ (l:List Env),(∀ b∈frs l,b∈X.fs)->X.s₀.heap.FunFrames X.base l->s.heap.FunFrames X.base l:=by
    intro l
    induction l with
    | nil=>intro _ _;trivial
    | cons env r ih =>
      intro f j;obtain⟨k,⟨L,o,a,i,h,m⟩,g⟩:=j;have d:L∈X.fs:=f L (by unfold frs;rw[ZE,a];exact Ju);obtain⟨n,e⟩:=I.base.slot L o h (I.ok.frf L d) d λz=>I.ok.exfs L z d;exact⟨k,⟨L,_,a,i,e,m⟩,ih (λb c=>f b (by unfold frs;rw[ZE,a];exact Jr _ c)) g⟩
  exact all X.outer (λ_ c=>c) I.ok.funs
theorem Inv.stack (I:Inv X pins σ H s):s.heap.FunFrames X.base X.stack:=by
  rcases I.ok.stk with e|⟨e,b⟩
  · rw[e];exact I.funs
  · rw[e]
    obtain⟨m,a,_⟩:=I.loc;refine .cons (by rw[I.ok.kind];decide) b a ?_ I.funs;exact Heap.get?_none_of_le (JM I.ok.bsz I.ok.above)
theorem Inv.stkSub (I:Inv X pins σ H s):∀ b∈frs X.stack,b∈X.env.locals::X.fs:=λb a=>by
  rcases I.ok.stk with e|⟨e,c⟩
  · rw[e]at a;exact Jr _ a
  · rw[e]at a
    unfold frs at a;rw[ZE,c]at a;exact a
theorem Inv.stkFree (I:Inv X pins σ H s):∀ b∈frs X.stack,H b=none:=λb a=>by
  rcases Jn.mp (I.stkSub b a) with e|a
  · rw[e];exact I.free
  · obtain⟨_,o,c,_⟩:=I.ok.funs.mem a
    exact I.base.free b o c (I.ok.frf b a) λz=>I.ok.exfs b z a
theorem Inv.step {g':Array GenState}{t':Nat}{d':Drawn}{ch:List Addr}(I:Inv X pins σ H s)(g:∀ b∈ch,(b∈X.ex\/X.s₀.heap.objs.size<=b)/\b≠X.env.locals/\(∀ x c,X.env.cells.lookup x=some c->c≠b)/\∀ p∈X.pn++pins,p.1≠b)(keep:∀ b o,b≠X.env.locals->b∉X.fs->b∉ch->s.heap.get? b=some o->H b=none->h'.get? b=some o)(slot:∀ b o,b≠X.env.locals->b∈X.fs->b∉ch->s.heap.get? b=some o->H b=none->∃ sl,h'.get? b=some { o with slots:=sl })(free:∀ b o,b∉ch->s.heap.get? b=some o->H b=none->H' b=none)(there:∀ b o,b∉ch->s.heap.get? b=some o->∃ A,h'.get? b=some A)(tups:∀ b t,H b=some (.tup t)->H' b=some (.tup t))(D:∀ b o u,H b=some (.frz o u)->H' b=some (.frz o u))(C:∀ b E,H b=some (.tbl E)->∃ more,H' b=some (.tbl (E++more)))(ns:∀ m,s.heap.Ns X.env.locals m->h'.Ns X.env.locals m)(J:HOk X.prog X.w H' h')(R:AllBare g') :
    Inv X pins σ H' { s with heap:=h',gens:=g',drawn:=d',toks:=t' }:=by
  have B:∀ b o,X.s₀.heap.get? b=some o->b≠X.env.locals:=λb o e=>JH (JG (Jc e) I.ok.above)
  have j:∀ b o,X.s₀.heap.get? b=some o->b∉X.ex->b∉ch:=λb o e a w=>by
    rcases (g b w).1 with z|z
    · exact a z
    · exact absurd (JG (Jc e) z) (YK _)
  have cellK:∀ x c,X.env.cells.lookup x=some c->∀ v,s.heap.IsCell c v->h'.IsCell c v:=λx c e v ⟨o,y,F⟩=>by
    have f:c∉ch:=λz=>(g c z).2.2.1 x c e rfl;by_cases M:c∈X.fs
    · obtain⟨sl,q⟩:=slot c o (I.cne x c e) M f y (I.freeC x c e)
      exact⟨_,q,F⟩
    · exact⟨o,keep c o (I.cne x c e) M f y (I.freeC x c e),F⟩
  refine⟨I.ok,I.os,R,⟨λb o e n w a=>?_,λb o e n w a=>?_,λb o e n a=>?_,λb o e a=>?_,λb t e=>tups b t (I.base.tups b t e),λb o t e=>D b o t (I.base.frzs b o t e),λb E e=>?_⟩,?_,λx c e=>?_,?_,λx c e=>?_,λp L=>?_,J,I.len⟩
  · exact keep b o (B b o e) w (j b o e a) (I.base.keep b o e n w a) (I.base.free b o e n a)
  · obtain⟨sl,h⟩:=I.base.slot b o e n w a
    obtain⟨G,e2⟩:=slot b _ (B b o e) w (j b o e a) h (I.base.free b o e n a);exact⟨G,e2⟩
  · obtain⟨A,h⟩:=I.base.there b o e a
    exact free b A (j b o e a) h (I.base.free b o e n a)
  · obtain⟨A,h⟩:=I.base.there b o e a
    exact there b A (j b o e a) h
  · obtain⟨O,h⟩:=I.base.tbls b E e
    obtain⟨N,e2⟩:=C b _ h;exact⟨O++N,by rw[e2,Array.append_assoc]⟩
  · obtain⟨m,P,Q⟩:=I.loc
    refine⟨m,ns m P,λi x v h e2 S=>?_⟩;obtain⟨u,r,l⟩:=Q i x v h e2 S;refine⟨u,r,?_⟩;rcases l with l|⟨k,c,e,z⟩
    · exact .inl l
    · exact .inr ⟨k,c,e,cellK x c e _ z⟩
  · obtain⟨v,z⟩:=I.cell x c e
    exact⟨v,cellK x c e v z⟩
  · obtain⟨m,⟨o,_,_,y,_⟩,_⟩:=I.loc
    exact free _ o (λz=>(g _ z).2.1 rfl) y I.free
  · obtain⟨v,o,y,F⟩:=I.cell x c e
    exact free c o (λz=>(g c z).2.2.1 x c e rfl) y (I.freeC x c e)
  · obtain⟨e,n,ne,K,d⟩:=I.pin p L
    have f:p.1∉ch:=λz=>(g p.1 z).2.2.2 p L rfl;exact⟨keep p.1 p.2 ne K f e n,free p.1 p.2 f e n,ne,K,d⟩
theorem Inv.un {t':Nat}(I:Inv X pins σ H s)(u:Un X.fs [] H H' s.heap h')(hok:HOk X.prog X.w H' h'):Inv X pins σ H' { s with heap:=h',toks:=t' }:=by
  obtain⟨m,⟨o,q,t,g,r⟩,_⟩:=id I.loc;obtain⟨k,j⟩:=u.any g I.free (by simp)
  exact I.step (g':=s.gens) (d':=s.drawn) (ch:=[]) (λ_ z=>nomatch z) (λb o _ c _ e n=>u.keep b o e n c (by simp)) (λb o _ c _ e n=>u.slot b o e n c (by simp)) (λb o _ e n=>u.free b o e n (by simp)) (λb o _ e=>u.there b o e (by simp)) u.tups u.frzs u.tbls (λp i=>by
    obtain⟨l,d,f,a,h⟩:=i;rw[g]at a;cases a
    exact⟨_,d,f,j,h⟩) hok I.bare
theorem Inv.call {g':Array GenState}{t':Nat}{d':Drawn}{ch:List Addr}(I:Inv X pins σ H s)(u:Un (frs X.stack) ch H H' s.heap h')(hok:HOk X.prog X.w H' h')(q:AllBare g')(f:∀ b∈ch,(b∈X.ex\/X.s₀.heap.objs.size<=b)/\b≠X.env.locals/\(∀ x c,X.env.cells.lookup x=some c->c≠b)/\∀ p∈X.pn++pins,p.1≠b) :
    Inv X pins σ H' { s with heap:=h',gens:=g',drawn:=d',toks:=t' }:=by
  obtain⟨m,⟨o,A,B,j,r⟩,_⟩:=id I.loc;obtain⟨v,g⟩:=u.any j I.free λz=>(f _ z).2.1 rfl
  exact I.step (ch:=ch) f (λb o g t a e n=>u.keep b o e n (λz=>(Jn.mp (I.stkSub b z)).elim g t) a) (λb o _ _ a e n=>u.any e n a) (λb o a e n=>u.free b o e n a) (λb o a e=>u.there b o e a) u.tups u.frzs u.tbls (λy l=>by
    obtain⟨w,h,i,d,k⟩:=l;rw[j]at d;cases d
    exact⟨_,h,i,g,k⟩) hok q
theorem Inv.turned {t':Nat}{it:Addr}(I:Inv X pins σ H s)(k:∀ b o,b≠it->s.heap.get? b=some o->h'.get? b=some o)(hn:H it=none)(f:it≠X.env.locals)(t:it∈X.ex\/X.s₀.heap.objs.size<=it)(l:∀ x c,X.env.cells.lookup x=some c->c≠it)(j:∀ p∈X.pn++pins,p.1≠it):Inv X pins σ H { s with heap:=h',toks:=t' }:=by
  have d:∀ b u,H b=some u->b≠it:=λb u e z=>by rw[z,hn]at e;cases e
  refine I.step (g':=s.gens) (d':=s.drawn) (ch:=[it]) (λb i=>?_) (λb o _ _ a e _=>k b o (λz=>a (by simp[z])) e) (λb o _ _ a e _=>⟨o.slots,k b o (λz=>a (by simp[z])) e⟩) (λ_ _ _ _ n=>n)
    (λb o a e=>⟨o,k b o (λz=>a (by simp[z])) e⟩) (λ_ _ e=>e) (λ_ _ _ e=>e) (λb A e=>⟨#[],by rw[e];simp⟩) (λm h=>?_) (λb u e=>?_) I.bare
  · have e:b=it:=by simpa using i
    subst e;exact⟨t,f,l,j⟩
  · obtain⟨o,w,y,g,r⟩:=h
    exact⟨o,w,y,k _ o (Ne.symm f) g,r⟩
  · refine(I.hok b u e).stay (λc v a q=>k c v ?_ q) (λ_ q=>q) λ_ _ q=>q
    rcases a with z|z
    · rw[z];exact d b u e
    · exact d c _ z
theorem Inv.tok (I:Inv X pins σ H s)(t:Nat):Inv X pins σ H { s with toks:=t }:=I.un (h':=s.heap) (t':=t) Un.refl I.hok
theorem Inv.kept {t':Nat}(I:Inv X pins σ H s)(k:∀ b u,s.heap.get? b=some u->h'.get? b=some u):Inv X pins σ H { s with heap:=h',toks:=t' }:=I.un (Un.kept k) (I.hok.kept k)
theorem Inv.laid {a:Addr}{o:HO}{t':Nat}(I:Inv X pins σ H s)(k:∀ b u,s.heap.get? b=some u->h'.get? b=some u)(hp:s.heap.objs.size<=a)(new:ObjOk X.prog X.w (upd H a o) h' a o) :
    Inv X pins σ (upd H a o) { s with heap:=h',toks:=t' }:=I.un (Un.laid k hp (I.hok.fresh hp)) (I.hok.laid k hp new)
theorem Inv.write {x e:Addr}{o:HO}{t':Nat}(I:Inv X pins σ H s)(c:Mut (H x))(d:e=x\/H e=some (.own x))(k:∀ b u,b≠e->s.heap.get? b=some u->h'.get? b=some u)(a:∃ u,h'.get? e=some u)(new:ObjOk X.prog X.w (upd H x o) h' x o):Inv X pins σ (upd H x o) { s with heap:=h',toks:=t' }:=I.un (Un.write c d k a) (I.hok.write c d k a new)
theorem Inv.pins_of {a:List (Addr × Obj)}(I:Inv X pins σ H s)(h:∀ p∈a,s.heap.get? p.1=some p.2/\H p.1=none/\p.1≠X.env.locals/\p.1∉X.fs/\∀ v,p.2.data≠.cell v):Inv X a σ H s :=
  ⟨I.ok,I.os,I.bare,I.base,I.loc,I.cell,I.free,I.freeC,λp b=>(Jz.mp b).elim (λz=>I.pin p (Z5 _ z)) (h p),I.hok,I.len⟩
theorem oJ {N:List Str}(c:N.Nodup){i j:Nat}{x:Str}(a:N[i]?=some x)(b:N[j]?=some x):i=j:=by
  obtain⟨f,d⟩:=J9.mp a;obtain⟨e,e2⟩:=J9.mp b;exact(List.getElem_inj c).mp (d.trans e2.symm)
theorem rL {M:Model}{A:Around}{E:Value->Shared->Prop}{i:Nat}{x:Str}{v:V}{u:Value}{Q:Unit->Shared->Prop}(I:Inv X pins σ H s)(hN:X.N.Nodup)(hi:X.N[i]?=some x)(t:Loc X.env.scope x)(r:RelV v u)(h:∀ W,Inv X pins (σ.set i (some v)) H W->(∃ a,Heap.SameBut a s.heap W.heap/\(a=X.env.locals\/X.env.cells.lookup x=some a))->Q () W)(hf:X.fn x=true\/X.env.scope.names.lookup x=some .local:=by first|exact .inl rfl|exact .inr rfl|assumption):wpAny M A (storeName X.env x u) Q E s:=by
  obtain⟨m,hn,hl⟩:=id I.loc;have O:(X.env.scope.kind == .class || (X.env.scope.kind == .module && X.env.locals != X.env.globals))=false:=by rw[I.ok.kind];rfl
  have C:i<σ.length:=by rw[I.len];exact(J9.mp hi).1
  have cne:=I.cne
  have tracked:∀ {a:Addr}{h':Heap},(∃ o,s.heap.get? a=some o/\H a=none)->Heap.SameBut a s.heap h'->HOk X.prog X.w H h':=λ{a h'} ha f b ob e=>by
    obtain⟨_,_,w⟩:=ha;refine(I.hok b ob e).stay (λc P l q=>(f.2 c ?_).trans q) (λ_ q=>q) λ_ _ q=>q;rintro rfl;rcases l with rfl|l
    · rw[w]at e;cases e
    · rw[w]at l;cases l
  rcases t with B|B
  · refine wpAny_storeName_local B hn (λh' ak f=>?_) O
    obtain⟨oL,_,_,ab,_⟩:=id hn;refine h _ ⟨I.ok,I.os,I.bare,⟨λb o e n F t=>?_,λb o e n F t=>?_,I.base.free,λb o e t=>?_,I.base.tups,I.base.frzs,I.base.tbls⟩,⟨_,ak,λj y S g e2 e3=>?_⟩,λy c e=>?_,I.free,I.freeC,λp hp=>?_,tracked ⟨oL,ab,I.free⟩ f,by simpa using I.len⟩ ⟨_,f,.inl rfl⟩
    · exact(f.2 b (JH (JG (Jc e) I.ok.above))).trans (I.base.keep b o e n F t)
    · obtain⟨U,g⟩:=I.base.slot b o e n F t
      exact⟨U,(f.2 b (JH (JG (Jc e) I.ok.above))).trans g⟩
    · obtain⟨Z,g⟩:=I.base.there b o e t
      exact⟨Z,(f.2 b (JH (JG (Jc e) I.ok.above))).trans g⟩
    · by_cases D:j=i
      · subst D
        rw[hi]at g;cases g;rw[List.getElem?_set_self C]at e2;cases e2;exact⟨u,r,.inl ⟨B,by simp⟩⟩
      · rw[List.getElem?_set_ne (Ne.symm D)]at e2
        obtain⟨T,Y,q⟩:=hl j y S g e2 e3;refine⟨T,Y,?_⟩;rcases q with ⟨k,e⟩|⟨k,c,e,z⟩
        · refine .inl ⟨k,?_⟩
          have:y≠x:=λe=>D (oJ hN g (e ▸ hi));simp[this,e]
        · exact .inr ⟨k,c,e,z.sameBut f (cne y c e)⟩
    · obtain⟨P,z⟩:=I.cell y c e
      exact⟨P,z.sameBut f (cne y c e)⟩
    · obtain⟨e,n,ne,nf,d⟩:=I.pin p hp
      exact⟨(f.2 p.1 ne).trans e,n,ne,nf,d⟩
  · have G:X.fn x=true:=by
      rcases hf with z|z
      · exact z
      · rw[z]at B;cases B
    obtain⟨c,l⟩:=I.ok.has x (.inl B);obtain⟨P,z⟩:=I.cell x c l;refine wpAny_storeName_cell I.ok.kind B l z (λh' L f=>?_);obtain⟨oc,J,N⟩:=id z;refine h { s with heap:=h' } ⟨I.ok,I.os,I.bare,⟨λb o e n F t=>?_,λb o e n F t=>?_,I.base.free,λb o e t=>?_,I.base.tups,I.base.frzs,I.base.tbls⟩,⟨m,hn.sameBut f (Ne.symm (cne x c l)),λj y S g e2 e3=>?_⟩,λy R e=>?_,I.free,I.freeC,λp hp=>?_,tracked ⟨oc,J,I.freeC x c l⟩ f,by simpa using I.len⟩ ⟨c,f,.inr l⟩
    · exact(f.2 b (JH (JG (Jc e) (I.ok.cab x c G l)))).trans (I.base.keep b o e n F t)
    · obtain⟨U,g⟩:=I.base.slot b o e n F t
      exact⟨U,(f.2 b (JH (JG (Jc e) (I.ok.cab x c G l)))).trans g⟩
    · obtain⟨Z,g⟩:=I.base.there b o e t
      exact⟨Z,(f.2 b (JH (JG (Jc e) (I.ok.cab x c G l)))).trans g⟩
    · by_cases D:j=i
      · subst D
        rw[hi]at g;cases g;rw[List.getElem?_set_self C]at e2;cases e2;exact⟨u,r,.inr ⟨.inl B,c,l,L⟩⟩
      · rw[List.getElem?_set_ne (Ne.symm D)]at e2
        obtain⟨T,Y,q⟩:=hl j y S g e2 e3;refine⟨T,Y,?_⟩;rcases q with q|⟨k,R,e,z'⟩
        · exact .inl q
        · refine .inr ⟨k,R,e,z'.sameBut f ?_⟩
          rintro rfl;exact D (oJ hN g (I.ok.inj _ _ _ e l ▸ hi))
    · by_cases K:R=c
      · subst K;exact⟨_,L⟩
      · obtain⟨w2,z2⟩:=I.cell y R e
        exact⟨w2,z2.sameBut f K⟩
    · obtain⟨e,n,ne,nf,d⟩:=I.pin p hp
      refine⟨(f.2 p.1 ?_).trans e,n,ne,nf,d⟩;intro q;rw[q,J]at e;have q':oc=p.2:=Jv e;exact d P (by rw[<- q'];exact N)
theorem we {M:Model}{A:Around}{E:Value->Shared->Prop}{i:Nat}{x:Str}{v:V}{u:Value}{Q:Unit->Shared->Prop}(I:Inv X pins σ H s)(d:X.N.Nodup)(hi:X.N[i]?=some x)(b:Loc X.env.scope x)(r:RelV v u)(h:∀ a,Inv X pins (σ.set i (some v)) H a->Q () a)(c:X.fn x=true\/X.env.scope.names.lookup x=some .local:=by first|exact .inl rfl|exact .inr rfl|assumption):wpAny M A (storeName X.env x u) Q E s :=
  rL I d hi b r (λa e _=>h a e) c
theorem Inv.call' {a:Shared}{ch:List Addr}(I:Inv X pins σ H s)(g:a.os=s.os)(u:Un (frs X.stack) ch H H' s.heap a.heap)(hok:HOk X.prog X.w H' a.heap)(h:AllBare a.gens)(d:∀ b∈ch,(b∈X.ex\/X.s₀.heap.objs.size<=b)/\b≠X.env.locals/\(∀ x c,X.env.cells.lookup x=some c->c≠b)/\∀ p∈X.pn++pins,p.1≠b):Inv X pins σ H' a:=by
  obtain⟨h',g',d',t',f⟩:=a;have e:f=s.os:=g;subst e;exact I.call (g':=g') (t':=t') (d':=d') u hok h d
end
abbrev XK:=Value->Option Addr->Hp->Prop
abbrev St:=List (Option V)
abbrev VK:=V->Hp->Prop
abbrev TE:=St->Hp->VK->Prop
abbrev TT:=St->Hp->(Bool->Hp->Prop)->Prop
abbrev TA:=St->Hp->(List V->Hp->Prop)->Prop
structure Ends where
  nx:St->Hp->Prop
  rt:VK
  bk:St->Hp->Prop:=λ_ _=>False
  ct:St->Hp->Prop:=λ_ _=>False
abbrev TS:=Ends->St->Hp->Prop
def EP (X:Cx)(pins:List (Addr × Obj))(σ:St)(Q:VK)(u:Value)(b:Shared):Prop:=∃ v a,Inv X pins σ a b/\RelV v u/\Q v a
def TP (X:Cx)(pins:List (Addr × Obj))(σ:St)(Q:Bool->Hp->Prop)(b:Bool)(c:Shared):Prop:=∃ a,Inv X pins σ a c/\Q b a
def AP (X:Cx)(pins:List (Addr × Obj))(σ:St)(Q:List V->Hp->Prop)(us:List Value)(c:Shared):Prop:=∃ a b,Inv X pins σ b c/\Vals a us/\Q a b
def SP (X:Cx)(pins:List (Addr × Obj))(D:Ends)(f:Flow)(c:Shared):Prop :=
  match f with
  | .next=>∃ a b,Inv X pins a b c/\D.nx a b
  | .brk=>∃ a b,Inv X pins a b c/\D.bk a b
  | .cont=>∃ a b,Inv X pins a b c/\D.ct a b
  | .ret u=>∃ v a b,Inv X pins a b c/\RelV v u/\D.rt v b
def PE (X:Cx)(e:Expr)(t:TE):Prop :=
  ∀ (pins:List (Addr × Obj)) (s:Shared) (σ:St) (H:Hp) (Q:VK),Inv X pins σ H s->t σ H Q->wpAny (model X.prog X.w) X.A (eval e X.env) (EP X pins σ Q) X.xe s
def PT (X:Cx)(e:Expr)(t:TT):Prop :=
  ∀ (pins:List (Addr × Obj)) (s:Shared) (σ:St) (H:Hp) (Q:Bool->Hp->Prop),Inv X pins σ H s->t σ H Q->wpAny (model X.prog X.w) X.A (isTrue e X.env (eval e X.env)) (TP X pins σ Q) X.xe s
def PW (X:Cx)(e:Expr)(t:TT):Prop :=
  ∀ (whole:Sem Value) (pins:List (Addr × Obj)) (s:Shared) (σ:St) (H:Hp) (Q:Bool->Hp->Prop),Inv X pins σ H s->t σ H Q->wpAny (model X.prog X.w) X.A (isTrue e X.env whole) (TP X pins σ Q) X.xe s
theorem PW.pt {X:Cx}{e:Expr}{t:TT}(h:PW X e t):PT X e t:=h _
def PA (X:Cx)(a:List Expr)(t:TA):Prop :=
  ∀ (pos:Pos) (pins:List (Addr × Obj)) (s:Shared) (σ:St) (H:Hp) (Q:List V->Hp->Prop),Inv X pins σ H s->t σ H Q->wpAny (model X.prog X.w) X.A (spliced (backTo pos (starEach a X.env))) (AP X pins σ Q) X.xe s
def PS (X:Cx)(st:Stmt)(t:TS):Prop :=
  ∀ (pins:List (Addr × Obj)) (s:Shared) (σ:St) (H:Hp) (D:Ends),Inv X pins σ H s->t D σ H->wpAny (model X.prog X.w) X.A (exec st X.env) (SP X pins D) X.xe s
def PSs (X:Cx)(st:List Stmt)(t:TS):Prop :=
  ∀ (pins:List (Addr × Obj)) (s:Shared) (σ:St) (H:Hp) (D:Ends),Inv X pins σ H s->t D σ H->wpAny (model X.prog X.w) X.A (execs st X.env) (SP X pins D) X.xe s
theorem thn {α:Type}{t:Sem α}{Q b:α->Shared->Prop}{M:Model}{A:Around}{E:Value->Shared->Prop}{s:Shared}(h:wpAny M A t Q E s)(c:∀ a s,Q a s->b a s):wpAny M A t b E s:=JU h c λ_ _ x=>x
section
variable {X:Cx}
def iC (i:Nat):TE:=λσ H Q=>∃ v,σ[i]?=some (some v)/\Q v H
def tC (v:V):TE:=λ_ H Q=>Q v H
theorem bR {i:Nat}{x:Str}{pos:Pos}(o:X.N[i]?=some x) (g:Vis X.env.scope x) (hd:(x == ("__debug__":Str))=false:=by decide) (d:(x == ("__classdict__":Str))=false:=by decide):PE X (.Name x pos) (iC i):=by
  intro pins s σ H Q I h;obtain⟨v,e,h⟩:=h;obtain⟨m,j,n⟩:=I.loc;obtain⟨u,r,l⟩:=n i x v o e g;have fin:EP X pins σ Q u s:=⟨v,H,I,r,h⟩;rcases l with ⟨b,k⟩|⟨b,c,f,a⟩
  · exact wpAny_Name (wpAny_loadName_local I.ok.kind b j k fin) hd
  · rcases b with b|b
    · exact wpAny_Name (wpAny_loadName_cell I.ok.kind b f a fin) hd
    · exact wpAny_Name (wpAny_loadName_free I.ok.kind b f a fin d) hd
theorem zE {i j pos}:PE X (.Constant (.int i) j pos) (tC (.int i)):=λ_ _ _ H _ I h=>wpAny_Constant_int ⟨.int i,H,I.tok _,⟨_,rfl⟩,h⟩
theorem vK {b j pos}:PE X (.Constant (.bool b) j pos) (tC (.bl b)):=λ_ _ _ H _ I h=>Constant_bool ⟨.bl b,H,I,rfl,h⟩
theorem sG {j pos}:PE X (.Constant .none j pos) (tC .non):=λ_ _ _ H _ I h=>Constant_none ⟨.non,H,I,rfl,h⟩
def Gl (X:Cx)(x:Str):Prop:=X.env.kindOf x=some .globalImplicit
theorem qr {E:Value->Shared->Prop}{pins:List (Addr × Obj)}{s:Shared}{σ:St}{H:Hp}{x:Str}{u:Value}{pos:Pos}{Q:Value->Shared->Prop}(I:Inv X pins σ H s) (a:Gl X x) (hm:X.mg x=some u) (h:Q u s)
    (hd:(x == ("__debug__":Str))=false:=by decide):wpAny (model X.prog X.w) X.A (eval (.Name x pos) X.env) Q E s :=
  Calls.Name_function_global I.ok.kind a (Calls.loadGlobal_global (by rw[I.ok.glob];exact I.mod.glob.keeps I.bk) hm h) hd
theorem xC {E:Value->Shared->Prop}{pins:List (Addr × Obj)}{s:Shared}{σ:St}{H:Hp}{x:Str}{u:Value}{pos:Pos}{Q:Value->Shared->Prop}(I:Inv X pins σ H s) (b:Gl X x) (hm:X.mg x=none) (a:bootBuiltins x=some u) (h:Q u s)
    (hn:x≠"__name__":=by decide) (c:(x == ("__debug__":Str))=false:=by decide):wpAny (model X.prog X.w) X.A (eval (.Name x pos) X.env) Q E s:=by
  obtain⟨f,e,d⟩:=I.mod.blt;exact Calls.Name_function_global I.ok.kind b (Calls.loadGlobal_builtin (by rw[I.ok.glob];exact I.mod.glob.keeps I.bk) hm (by rw[I.ok.blt];exact e.keeps I.bk) ((d x hn).trans a) h) c
theorem qe {x:Str}{v:V}{u:Value}{pos:Pos}(a:Gl X x) (hm:X.mg x=some u) (r:RelV v u) (hd:(x == ("__debug__":Str))=false:=by decide):PE X (.Name x pos) (tC v) :=
  λ_ _ _ H _ I h=>qr I a hm ⟨v,H,I,r,h⟩ hd
theorem lN {x:Str}{v:V}{u:Value}{pos:Pos}(b:Gl X x) (hm:X.mg x=none) (a:bootBuiltins x=some u) (r:RelV v u) (hn:x≠"__name__":=by decide) (c:(x == ("__debug__":Str))=false:=by decide):PE X (.Name x pos) (tC v) :=
  λ_ _ _ H _ I h=>xC I b hm a ⟨v,H,I,r,h⟩ hn c
variable {a b:Expr}{ta tb:TE}{pos:Pos}
def tB (t:TE):TT:=λσ H Q=>t σ H λx a=>∃ c,x=.bl c/\Q c a
theorem qY {e:Expr}{t:TE}(h:PE X e t)(f:∀ whole,isTrue e X.env whole=(do let v <- whole;standAt e.pos;holding [v] (truthy v)):=by intro _;rfl):PT X e (tB t):=by
  intro pins s σ H Q I c;refine isTrue_plain (thn (h pins s σ H _ I c) λv j ⟨x,i,g,a,b⟩=>?_) (f _);obtain⟨d,rfl,q⟩:=b;cases a;exact ZP ⟨i,g,q⟩
variable {tA tB':TT}{rest:List Expr}
def zaK (t u:TT):TT:=λσ H Q=>t σ H λc a=>if c=true then u σ a Q else Q false a
def tOr (t u:TT):TT:=λσ H Q=>t σ H λc a=>if c=true then Q true a else u σ a Q
def zaD (t:TT):TT:=λσ H Q=>t σ H λc a=>Q (!c) a
theorem wU (ha:PT X a tA):PW X (.BoolOp .And [a] pos) tA:=by
  intro b pins s σ H Q I h;refine isTrue_and (thn (ha pins s σ H Q I h) λc d e=>?_)
  cases c with
  | true=>exact isTrue_and_nil e
  | false=>exact e
theorem qX (ha:PT X a tA):PW X (.BoolOp .Or [a] pos) tA:=by
  intro b pins s σ H Q I h;refine isTrue_or (thn (ha pins s σ H Q I h) λc d e=>?_)
  cases c with
  | false=>exact isTrue_or_nil e
  | true=>exact e
theorem vQ (ha:PT X a tA)(hb:PW X (.BoolOp .And (b::rest) pos) tB'):PW X (.BoolOp .And (a::b::rest) pos) (zaK tA tB'):=by
  intro g pins s σ H Q I h;refine isTrue_and (thn (ha pins s σ H _ I h) λc i ⟨f,e,d⟩=>?_)
  cases c with
  | true=>exact hb g pins i σ f Q e d
  | false=>exact⟨f,e,d⟩
theorem pY (ha:PT X a tA)(hb:PW X (.BoolOp .Or (b::rest) pos) tB'):PW X (.BoolOp .Or (a::b::rest) pos) (tOr tA tB'):=by
  intro g pins s σ H Q I h;refine isTrue_or (thn (ha pins s σ H _ I h) λc i ⟨f,e,d⟩=>?_)
  cases c with
  | true=>exact⟨f,e,d⟩
  | false=>exact hb g pins i σ f Q e d
theorem mD (ha:PT X a tA):PT X (.UnaryOp .Not a pos) (zaD tA):=by
  intro pins s σ H Q I h;exact isTrue_not (ha pins s σ H (λc b=>Q (!c) b) I h)
def aX (ta tb:TE):TE:=λσ H Q=>ta σ H λx a=>∃ c,x=.bl c/\if c=true then tb σ a Q else Q (.bl false) a
def aR (ta:TE):TE:=λσ H Q=>ta σ H λx a=>∃ c,x=.bl c/\Q (.bl (!c)) a
theorem iu {op}{t:TE}(h:PE X a t):PE X (.BoolOp op [a] pos) t:=λpins s σ H Q I b=>BoolOp_one (h pins s σ H Q I b)
theorem iz (ha:PE X a ta)(hb:PE X (.BoolOp .And (b::rest) pos) tb):PE X (.BoolOp .And (a::b::rest) pos) (aX ta tb):=by
  intro pins s σ H Q I h;refine BoolOp_and (thn (ha pins s σ H _ I h) λv g ⟨x,f,e,i,d⟩=>?_);obtain⟨c,rfl,d⟩:=d;cases i;refine ZP ?_
  cases c with
  | true=>exact hb pins g σ f Q e d
  | false=>exact⟨.bl false,f,e,rfl,d⟩
theorem bU (ha:PE X a ta):PE X (.UnaryOp .Not a pos) (aR ta):=by
  intro pins s σ H Q I h;refine UnaryOp_ (thn (ha pins s σ H _ I h) λv g ⟨x,f,e,d,b⟩=>?_);obtain⟨c,rfl,b⟩:=b;cases d;exact not_of (ZP ⟨.bl (!c),f,e,rfl,b⟩)
end
def SqL (K:PySem.W.Frag)(H:Hp)(a:Addr)(xs:List V):Prop :=
  Rd H a (.lst xs) \/
    ∃ (o:Obj) (b:Array Value) (n:Nat),K.lookup a=some o/\o.cls=.type "list"/\o.dict=none/\o.data=.seq b n/\b.size<=sizeLine/\Vals xs b.toList
def SqT (K:PySem.W.Frag)(H:Hp)(a:Addr)(xs:List V):Prop :=
  Rd H a (.tup xs) \/
    ∃ (o:Obj) (b:Array Value) (n:Nat),K.lookup a=some o/\o.cls=.type "tuple"/\o.data=.seq b n/\b.size<=sizeLine/\Vals xs b.toList
def zbc:Value->Option V
  | .none=>some .non
  | .bool b=>some (.bl b)
  | .int i _=>some (.int i)
  | .str x _=>some (.str x)
  | .bytes b _=>some (.byt b)
  | .float b _=>some (.flt b)
  | .ref a=>some (.ref a)
  | .type n=>some (.ty n)
  | _=>none
theorem RelV.abs {x:V}{u:Value}(r:RelV x u):zbc u=some x:=by
  cases x with
  | non=>cases r;rfl
  | bl _=>cases r;rfl
  | int _=>obtain⟨t,rfl⟩:=r;rfl
  | str _=>obtain⟨t,rfl⟩:=r;rfl
  | byt _=>obtain⟨t,rfl⟩:=r;rfl
  | flt _=>obtain⟨t,rfl⟩:=r;rfl
  | ref _=>cases r;rfl
  | ty _=>cases r;rfl
theorem RelV.inj {x y:V}{u:Value}(r:RelV x u)(q:RelV y u):x=y:=Jv (r.abs.symm.trans q.abs)
theorem Vals.inj:∀ {xs ys:List V}{us:List Value},Vals xs us->Vals ys us->xs=ys
  | _,_,_,.nil,.nil=>rfl
  | _,_,_,.cons r t,.cons a t'=>by rw[r.inj a,Vals.inj t t']
section
variable {X:Cx}{pins:List (Addr × Obj)}{σ:St}{H:Hp}{s:Shared}{a:Addr}{xs ys:List V}
theorem SqL.of {K:PySem.W.Frag}(h:H a=some (.lst xs)):SqL K H a xs:=.inl (.inl h)
theorem SqT.of {K:PySem.W.Frag}(h:H a=some (.tup xs)):SqT K H a xs:=.inl (.inl h)
theorem Inv.list (I:Inv X pins σ H s)(h:SqL X.K H a xs):∃ its:List Value,Vals xs its/\PlainL s.heap a its.toArray/\xs.length<=sizeLine:=by
  rcases h with h|⟨o,its,n,c,f,d,b,g,r⟩
  · obtain⟨z,its,n,r,e⟩:=h.ok I.hok
    exact⟨its,r,⟨_,n,e,rfl,rfl,rfl⟩,z⟩
  · refine⟨its.toList,r,⟨o,n,I.kIn a o c,f,d,by simpa using b⟩,?_⟩
    have e:=r.length;simp only[JB]at e
    simp_all
theorem Inv.tuple (I:Inv X pins σ H s)(h:SqT X.K H a xs):∃ its:List Value,Vals xs its/\IsTup s.heap a its.toArray/\xs.length<=sizeLine:=by
  rcases h with h|⟨o,its,n,c,d,b,f,r⟩
  · obtain⟨z,its,r,p⟩:=h.ok I.hok
    exact⟨its,r,p.tup,z⟩
  · refine⟨its.toList,r,⟨o,I.kIn a o c,d,n,by simpa using b⟩,?_⟩
    have e:=r.length;simp only[JB]at e
    simp_all
theorem Inv.list_inj (I:Inv X pins σ H s)(h:SqL X.K H a xs)(h':SqL X.K H a ys):xs=ys:=by
  obtain⟨c,r,⟨o,n,e,_,_,d⟩,_⟩:=I.list h;obtain⟨b,i,⟨k,l,f,_,_,g⟩,_⟩:=I.list h';rw[e]at f;cases f;rw[d]at g;injection g with j _;have:c=b:=by simpa using Yh Array.toList j
  subst this;exact r.inj i
theorem Inv.tuple_inj (I:Inv X pins σ H s)(h:SqT X.K H a xs)(h':SqT X.K H a ys):xs=ys:=by
  obtain⟨c,r,⟨o,e,_,n,d⟩,_⟩:=I.tuple h;obtain⟨b,i,⟨k,f,_,l,g⟩,_⟩:=I.tuple h';rw[e]at f;cases f;rw[d]at g;injection g with j _;have:c=b:=by simpa using Yh Array.toList j
  subst this;exact r.inj i
end
abbrev Cx.wish (X:Cx)(E:Value->Shared->Prop):Cx:={ X with xe:=E }
abbrev Cx.nox (X:Cx):Cx:=X.wish λ_ _=>False
theorem Cx.Ok.wish {X:Cx}(ok:X.Ok)(E:Value->Shared->Prop):(X.wish E).Ok :=
  ⟨ok.mod,ok.kind,ok.glob,ok.blt,ok.above,ok.inj,ok.has,ok.cab,ok.hd,ok.frames,ok.stk,ok.exf,ok.bs,ok.bsz,ok.noex,ok.exfs,ok.funs,ok.frf⟩
theorem Cx.Ok.unwish {X:Cx}{E:Value->Shared->Prop}(ok:(X.wish E).Ok):X.Ok :=
  ⟨ok.mod,ok.kind,ok.glob,ok.blt,ok.above,ok.inj,ok.has,ok.cab,ok.hd,ok.frames,ok.stk,ok.exf,ok.bs,ok.bsz,ok.noex,ok.exfs,ok.funs,ok.frf⟩
section
variable {X:Cx}{pins:List (Addr × Obj)}{σ:St}{H:Hp}{s:Shared}{E:Value->Shared->Prop}
theorem Inv.wish (I:Inv X pins σ H s)(E:Value->Shared->Prop):Inv (X.wish E) pins σ H s:=⟨I.ok.wish E,I.os,I.bare,I.base,I.loc,I.cell,I.free,I.freeC,I.pin,I.hok,I.len⟩
theorem Inv.unwish (I:Inv (X.wish E) pins σ H s):Inv X pins σ H s:=⟨I.ok.unwish,I.os,I.bare,I.base,I.loc,I.cell,I.free,I.freeC,I.pin,I.hok,I.len⟩
theorem SP.unwish {D:Ends}{f:Flow}{c:Shared}(h:SP (X.wish E) pins D f c):SP X pins D f c:=by
  cases f with
  | next=>obtain⟨a,b,I,q⟩:=h;exact⟨a,b,I.unwish,q⟩
  | brk=>obtain⟨a,b,I,q⟩:=h;exact⟨a,b,I.unwish,q⟩
  | cont=>obtain⟨a,b,I,q⟩:=h;exact⟨a,b,I.unwish,q⟩
  | ret u=>obtain⟨v,a,b,I,r,q⟩:=h;exact⟨v,a,b,I.unwish,r,q⟩
theorem PSs.nox {st:List Stmt}{t:TS}(h:PSs X.nox st t):PSs X st t:=λpins s σ H D I a =>
  JU (h pins s σ H D (I.wish _) a) (λ_ _ q=>q.unwish) λ_ _ z=>False.elim z
end
section
variable {X:Cx}{st:Stmt}{rest:List Stmt}{t u:TS}{e:Expr}{te:TE}{pos:Pos}
def cY:TS:=λD σ H=>D.nx σ H
def pO (t u:TS):TS:=λD σ H=>t { D with nx:=u D } σ H
theorem yO:PSs X [] cY:=λ_ _ σ H _ I h=>wpAny_execs_nil ⟨σ,H,I,h⟩
theorem zD (d:PS X st t)(c:PSs X rest u):PSs X (st::rest) (pO t u):=by
  intro pins s σ H D I h;refine wpAny_execs_cons (thn (d pins s σ H { D with nx:=u D } I h) λf b q=>?_)
  cases f with
  | next =>
    obtain⟨a,g,e,q⟩:=q
    exact c pins b a g D e q
  | ret v=>exact q
  | brk=>exact q
  | cont=>exact q
theorem zL (a:PS X st t):PSs X [st] t:=by
  intro pins s σ H D I h;refine wpAny_execs_cons (thn (a pins s σ H D I h) λf b q=>?_)
  cases f with
  | next=>exact wpAny_execs_nil q
  | ret v=>exact q
  | brk=>exact q
  | cont=>exact q
theorem Inv.quiet {pins:List (Addr × Obj)}{σ:St}{H:Hp}{s:Shared}(I:Inv X pins σ H s):interactive X.env=false:=by simp[interactive,I.ok.kind]
def aU (te:TE):TS:=λD σ H=>te σ H λ_ a=>D.nx σ a
theorem wA (b:PE X e te)(hs:swapsWith e none pos.line X.env=pure false:=by rfl):PS X (.Expr e pos) (aU te):=by
  intro pins s σ H D I h;exact wpAny_Expr_any (thn (b pins s σ H _ I h) λv f ⟨x,d,c,g,a⟩=>⟨σ,d,c,a⟩) I.quiet hs
def zaB (te:TE):TS:=λD σ H=>te σ H D.rt
theorem zj (c:PE X e te):PS X (.Return (some e) pos) (zaB te):=by
  intro pins s σ H D I h;exact wpAny_Return_some (thn (c pins s σ H _ I h) λv g ⟨x,f,d,a,b⟩=>⟨x,σ,f,d,a,b⟩)
def bB (c:TT)(t u:TS):TS:=λD σ H=>c σ H λb a=>if b=true then t D σ a else u D σ a
theorem yu {c:Expr}{a b:List Stmt}{e:TT}(hc:PT X c e)(ha:PSs X a t)(hb:PSs X b u):PS X (.If c a b pos) (bB e t u):=by
  intro pins s σ H D I h;refine wpAny_If (thn (hc pins s σ H _ I h) λd f ⟨j,i,g⟩=>?_)
  cases d with
  | true=>exact ha pins f σ j D i g
  | false=>exact hb pins f σ j D i g
end
abbrev TG:=V->St->Hp->(St->Hp->Prop)->Prop
abbrev TGs:=List V->St->Hp->(St->Hp->Prop)->Prop
def PG (X:Cx)(target:Expr)(t:TG):Prop :=
  ∀ (pins:List (Addr × Obj)) (s:Shared) (σ:St) (H:Hp) (v:V) (u:Value) (Q:St->Hp->Prop),Inv X pins σ H s->RelV v u->t v σ H Q ->
    wpAny (model X.prog X.w) X.A (assign target X.env u) (λ_ c=>∃ a b,Inv X pins a b c/\Q a b) X.xe s
def PGs (X:Cx)(e:List Expr)(t:TGs):Prop :=
  ∀ (pins:List (Addr × Obj)) (s:Shared) (σ:St) (H:Hp) (b:List V) (c:List Value) (Q:St->Hp->Prop),Inv X pins σ H s->Vals b c->t b σ H Q ->
    wpAny (model X.prog X.w) X.A (assignInOrder ((assignEach e X.env).map (·.2)) c) (λ_ f=>∃ a d,Inv X pins a d f/\Q a d) X.xe s
abbrev TSet:=V->V->V->Hp->(Hp->Prop)->Prop
def PSet (X:Cx)(t:TSet):Prop :=
  ∀ (pins:List (Addr × Obj)) (s:Shared) (σ:St) (H:Hp) (o i v:V) (a b u:Value) (Q:Hp->Prop),Inv X pins σ H s->RelV o a->RelV i b->RelV v u->t o i v H Q ->
    wpAny (model X.prog X.w) X.A (setItem a b u) (λ_ d=>∃ c,Inv X pins σ c d/\Q c) X.xe s
abbrev TIp:=V->V->Hp->VK->Prop
def PIp (X:Cx)(op:Operator)(t:TIp):Prop :=
  ∀ (pins:List (Addr × Obj)) (s:Shared) (σ:St) (H:Hp) (x y:V) (v u:Value) (Q:VK),Inv X pins σ H s->RelV x v->RelV y u->t x y H Q ->
    wpAny (model X.prog X.w) X.A (inplaceOp op v u) (EP X pins σ Q) X.xe s
section
variable {X:Cx}{pos:Pos}
def wt (i:Nat):TG:=λv σ H Q=>Q (σ.set i (some v)) H
theorem zM {i:Nat}{x:Str}(c:X.N.Nodup)(hi:X.N[i]?=some x)(a:Loc X.env.scope x)(b:X.fn x=true\/X.env.scope.names.lookup x=some .local:=by first|exact .inl rfl|exact .inr rfl|assumption):PG X (.Name x pos) (wt i):=by
  intro pins s σ H v u Q I r h;exact wpAny_assign_Name (we I c hi a r (λe d=>⟨_,H,d,h⟩) b)
def cJ:TGs:=λa σ H Q=>a=[]/\Q σ H
def sX (t:TG)(u:TGs):TGs:=λb σ H Q=>∃ v r,b=v::r/\t v σ H λa c=>u r a c Q
theorem yD:PGs X [] cJ:=by
  intro pins s σ H a b Q I r h;obtain⟨e,h⟩:=h;subst e;cases r;exact assignInOrder_nil ⟨σ,H,I,h⟩
theorem zN {e:Expr}{a:List Expr}{t:TG}{u:TGs}(i:PG X e t)(g:PGs X a u)(hs:(assignEach (e::a) X.env).map (·.2)=assign e X.env::(assignEach a X.env).map (·.2):=by rfl):PGs X (e::a) (sX t u):=by
  intro pins s σ H m o Q I r h;obtain⟨v,n,j,h⟩:=h;subst j
  cases r with
  | cons r d =>
    rw[hs];refine assignInOrder_cons (thn (i pins s σ H _ _ _ I r h) λ_ c ⟨b,l,k,f⟩=>?_);exact g pins c b l _ _ Q k d f
def cI (K:PySem.W.Frag)(n:Nat)(t:TGs):TG:=λv σ H Q=>∃ a b,v=.ref a/\SqT K H a b/\b.length=n/\t b σ H Q
theorem yQ {c:List Expr}{k:Nat}{t:TGs}{n:Nat}(hc:X.calm=true)(h:PGs X c t)(hn:(assignEach c X.env).length=n:=by rfl)(f:(assignEach c X.env).findIdx? (·.1)=none:=by rfl):PG X (.Tuple c k pos) (cI X.K n t):=by
  intro pins s σ H v u Q I r d;obtain⟨a,i,w,m,p,d⟩:=d;subst w;cases r;obtain⟨y,g,l,z⟩:=I.tuple m;refine assign_Tuple_tuple (I.ok.hd hc) l (by simp[hn,<- p,g.length]) f λq j=>?_;have x:Inv X pins σ H { s with heap:=q }:=I.kept (t':=s.toks) λb o e=>j b o (JH (Jc e)) e;exact h pins _ σ H i _ Q x (by simpa using g) d
def za9 (to a:TE)(t:TSet):TG:=λv σ H Q=>to σ H λo d=>a σ d λi c=>t o i v c λb=>Q σ b
theorem xq {o i:Expr}{to c:TE}{t:TSet}(m:PE X o to)(hi:PE X i c)(hs:PSet X t)(ha:∀ v,assign (.Subscript o i pos) X.env v=(do
      let a <- holding [v] (eval o X.env)
      let b <- holding [v,a] (eval i X.env)
      standAt pos
      holding [v,a,b] (setItem a b v)
      release [v,a,b] []):=by intro _;rfl):PG X (.Subscript o i pos) (za9 to c t):=by
  intro pins s σ H v u Q I r h;rw[ha];refine J6 (Yx (thn (m pins s σ H _ I h) λa e ⟨x,A,q,g,l⟩=>?_));refine J6 (Yx (thn (hi pins e σ A _ q l) λb d ⟨y,z,p,f,k⟩=>?_));refine J6 (Zx (J6 (Yx (thn (hs pins d σ z x y v a b u _ p g f r k) λ_ B ⟨w,n,j⟩=>?_))));exact wpAny_release ⟨σ,w,n,j⟩
def bD (a:TE)(g:TG):TS:=λD σ H=>a σ H λx b=>g x σ b D.nx
theorem yH {tg e:Expr}{a:TE}{g:TG}(j:PE X e a)(i:PG X tg g)(hs:swapsWithSole [tg] e pos.line X.env=pure false:=by rfl)(f:swappedStores [tg] e X.env=pure none:=by rfl)(k:(assignEach [tg] X.env).map (·.2)=[assign tg X.env]:=by rfl):PS X (.Assign [tg] e pos) (bD a g):=by
  intro pins s σ H D I h;refine wpAny_Assign_stores (thn (j pins s σ H _ I h) λv b ⟨x,m,l,c,d⟩=>?_) hs f;rw[k];exact thn (i pins b σ m x v _ l c d) λ_ n q=>q
theorem zr {i:Nat}{x:Str}{e:Expr}{a:TE}{pos':Pos}(j:X.N.Nodup)(hi:X.N[i]?=some x)(d:Loc X.env.scope x)(g:PE X e a)(hs:swapsWith e (some (.Name x pos')) pos.line X.env=pure false:=by rfl)(f:X.fn x=true\/X.env.scope.names.lookup x=some .local:=by first|exact .inl rfl|exact .inr rfl|assumption) :
    PS X (.Assign [.Name x pos'] e pos) (bD a (wt i)):=by
  intro pins s σ H D I h;refine wpAny_Assign_Name (thn (g pins s σ H _ I h) λv o ⟨y,m,l,b,c⟩=>?_) hs;exact we l j hi d b (λn k=>⟨_,m,k,c⟩) f
def zaC (i j:Nat)(b:TA):TS:=λD σ H=>b σ H λa c=>∃ v w,a=[v,w]/\D.nx ((σ.set i (some v)).set j (some w)) c
theorem mE {i j:Nat}{x y:Str}{a b:Expr}{r:TA}{k py pt:Pos}{kt k2 pt2}(hc:X.calm=true)(z:X.N.Nodup)(hi:X.N[i]?=some x)(L:X.N[j]?=some y)(n:i≠j)(u:X.env.scope.names.lookup x=some .local)(t:X.env.scope.names.lookup y=some .local)(ha:PA X [a,b] r)(K:swappedStores [.Tuple [.Name x k,.Name y py] kt pt] (.Tuple [a,b] k2 pt2) X.env=pure (some [x,y]))(hs:swapsWithSole [.Tuple [.Name x k,.Name y py] kt pt] (.Tuple [a,b] k2 pt2) pos.line X.env=pure false:=by rfl) :
    PS X (.Assign [.Tuple [.Name x k,.Name y py] kt pt] (.Tuple [a,b] k2 pt2) pos) (zaC i j r):=by
  intro pins s σ H D I h;rw[exec_Assign_arm];refine J6 (Zx ?_);rw[hs];refine J6 (Jm ?_);rw[Ja (by decide)];refine J6 (Tuple_ (thn (ha _ pins s σ H _ I h) λC f ⟨R,B,Q,F,g⟩=>?_));obtain⟨v,w,M,g⟩:=g;subst M
  obtain⟨d,c,rfl,E,l⟩:∃ d c,C=[d,c]/\RelV v d/\RelV w c:=by
    cases F with
    | cons p q =>
      cases q with
      | cons J G =>
        cases G;exact⟨_,_,rfl,p,J⟩
  refine Zy ?_ (by show 2<=sizeLine;decide);have P:Inv X pins σ B { f with heap:=f.heap.push { cls:=.type "tuple",data:=.seq [d,c].toArray } }:=Q.kept (t':=f.toks) λb o e=>J8 _ e;rw[K];refine J6 (Jm ?_);show wpAny (model X.prog X.w) X.A (do rule "assign.swapped-stores";let items <- unpackItems (.ref f.heap.objs.size) 2 none;assignInOrder [λv=>bindName X.env y v,λv=>bindName X.env x v] items.reverse;pure Flow.next) _ _ _;refine J6 (Zq (J6 (unpackItems_tuple (items:=#[d,c]) (I.ok.hd hc) (IsTup.new f.heap _) λh' m=>?_)));have O:=P.kept (h':=h') (t':=f.toks) λb o e=>m b o (JH (Jc e)) e;show wpAny _ _ (assignInOrder [λv=>bindName X.env y v,λv=>bindName X.env x v] [c,d] >>= λ_=>pure Flow.next) _ _ _;refine J6 (assignInOrder_cons (wpAny_bindName (we O z L (.inl t) l (λT N=>?_) (.inr t))));refine assignInOrder_cons (wpAny_bindName (we N z hi (.inl u) E (λS A=>assignInOrder_nil (Jm ?_)) (.inr u)));rw[List.set_comm _ _ (Ne.symm n)]at A;exact⟨_,B,A,g⟩
def zaJ (i:Nat)(b:TE)(a:TIp):TS:=λD σ H=>∃ x,σ[i]?=some (some x)/\b σ H λy d=>a x y d λz c=>D.nx (σ.set i (some z)) c
theorem ii {i:Nat}{x:Str}{e:Expr}{o:TE}{op:Operator}{n:TIp}{pos':Pos}(M:X.N.Nodup)(hi:X.N[i]?=some x)(g:Loc X.env.scope x)(K:PE X e o)(C:PIp X op n)(J:X.fn x=true\/X.env.scope.names.lookup x=some .local:=by first|exact .inl rfl|exact .inr rfl|assumption) :
    PS X (.AugAssign (.Name x pos') op e pos) (zaJ i o n):=by
  intro pins s σ H D I h;obtain⟨v,N,h⟩:=h;obtain⟨m,E,G⟩:=I.loc;have j:Vis X.env.scope x:=by rcases g with k|k;exact .inl k;exact .inr (.inl k)
  obtain⟨u,r,l⟩:=G i x v hi N j;refine wpAny_AugAssign_Name ?_
  have go:wpAny (model X.prog X.w) X.A (eval e X.env) (λw f=>wpAny (model X.prog X.w) X.A (inplaceOp op u w) (λr d=>wpAny (model X.prog X.w) X.A (storeName X.env x r) (λ_=>SP X pins D .next) X.xe d) X.xe f) X.xe s:=by
    refine thn (K pins s σ H _ I h) λw p ⟨y,S,Q,t,B⟩=>?_;refine thn (C pins p σ S v y u w _ Q r t B) λz V ⟨T,R,P,q,A⟩=>?_;exact we P M hi g q (λU O=>⟨_,R,O,A⟩) J
  rcases l with ⟨a,F⟩|⟨a,c,L,b⟩
  · exact wpAny_loadName_local I.ok.kind a E F go
  · rcases a with a|a
    · exact wpAny_loadName_cell I.ok.kind a L b go
    · rcases g with k|k
      · have:X.env.scope.names.lookup x=some .free:=a
        rw[k]at this;cases this
      · have:X.env.scope.names.lookup x=some .free:=a
        rw[k]at this;cases this
def aW (to d e:TE)(b:V->V->Hp->VK->Prop)(c:TIp)(a:TSet):TS:=λD σ H=>to σ H λo l=>d σ l λi k=>b o i k λx j=>e σ j λy h=>c x y h λz g=>a o i z g λf=>D.nx σ f
def PGet (X:Cx)(t:V->V->Hp->VK->Prop):Prop :=
  ∀ (pins:List (Addr × Obj)) (s:Shared) (σ:St) (H:Hp) (o i:V) (a b:Value) (Q:VK),Inv X pins σ H s->RelV o a->RelV i b->t o i H Q ->
    wpAny (model X.prog X.w) X.A (getItem a b) (EP X pins σ Q) X.xe s
theorem eS {o i e:Expr}{to l m:TE}{b:V->V->Hp->VK->Prop}{f:TIp}{a:TSet}{op:Operator}{g:Pos}(M:PE X o to)(hi:PE X i l)(N:PGet X b)(O:PE X e m)(hp:PIp X op f)(hs:PSet X a)(ha:∀ c d new,augStore i c d new=(do holding [new,c,d] (setItem c d new);release [new,c,d] [];pure .next):=by intros;rfl):PS X (.AugAssign (.Subscript o i g) op e pos) (aW to l m b f a):=by
  intro pins s σ H D I h;refine wpAny_AugAssign_SubscriptAny (thn (M pins s σ H _ I h) λc z ⟨k,H1,U,p,L⟩=>?_) ha;refine thn (hi pins z σ H1 _ U L) λd y ⟨j,H2,T,n,K⟩=>?_;refine thn (N pins y σ H2 k j c d _ T p n K) λold x ⟨t,H3,S,C,J⟩=>?_;refine thn (O pins x σ H3 _ S J) λv w ⟨r,Z,R,B,G⟩=>?_;refine thn (hp pins w σ Z t r old v _ R C B G) λnew u ⟨q,Y,Q,A,F⟩=>?_;exact thn (hs pins u σ Y k j q c d new _ Q p n A F) λ_ s6 ⟨W,P,E⟩=>⟨σ,W,P,E⟩
def ipI (f:Int->Int->Int):TIp:=λx y H Q=>∃ i j,x=.int i/\y=.int j/\Q (.int (f i j)) H
theorem gW:PIp X .Add (ipI λi j=>i+j):=by
  intro pins s σ H x y v u Q I b a h;obtain⟨i,j,c,e2,q⟩:=h;subst c;subst e2;obtain⟨t,rfl⟩:=b;obtain⟨d,rfl⟩:=a;exact iadd_int ⟨.int _,H,I.tok _,⟨_,rfl⟩,q⟩
def cy (c:TT)(g:TS):TS:=λD σ H=>∃ W:Nat->St->Hp->Prop,(∃ m,W m σ H)/\∀ m σ H,W m σ H ->
  c σ H λb e=>if b=true then ∃ N:St->Hp->Prop,(∀ a f,N a f->∃ d,d<m/\W d a f)/\g { D with nx:=N,ct:=N,bk:=D.nx } σ e else D.nx σ e
theorem iZ {c:Expr}{body:List Stmt}{q:TT}{r:TS}(hp:PassesOwn (model X.prog X.w) X.A X.env X.xe)(hc:PT X c q)(hb:PSs X body r):PS X (.While c body [] pos) (cy q r):=by
  intro pins s σ H D I h;obtain⟨W,⟨F,A⟩,turn⟩:=h;refine wpAny_While (codeAny_whileLoop (λn E=>∃ g y,Inv X pins g y E/\W n g y) ?_ F ⟨σ,H,I,A⟩);rintro n C ⟨d,x,G,z⟩;refine ZJ hp (thn (hc pins C d x _ G (turn n d x z)) λb B ⟨w,u,j⟩=>?_)
  cases b with
  | true =>
    obtain⟨N,t,j⟩:=j;rw[Jb rfl];refine ZJ hp (thn (hb pins B d w _ u j) λf J i=>?_)
    cases f with
    | next =>
      obtain⟨a,e,p,l⟩:=i;obtain⟨m,o,k⟩:=t a e l
      exact⟨m,o,a,e,p,k⟩
    | cont =>
      obtain⟨a,e,p,l⟩:=i;obtain⟨m,o,k⟩:=t a e l
      exact⟨m,o,a,e,p,k⟩
    | brk=>exact i
    | ret v=>exact i
  | false =>
    rw[Ja Jp];exact wpAny_execs_nil ⟨d,w,u,j⟩
end
structure It where
  go:Nat->Hp->Prop
  yld:Nat->Hp->V->Hp->Prop
  stop:Nat->Hp->Prop
def FpOk (X:Cx)(pins:List (Addr × Obj))(H:Hp)(b:Addr):Prop :=
  H b=none/\b≠X.env.locals/\b∉X.fs/\(b∈X.ex\/X.s₀.heap.objs.size<=b)/\(∀ x c,X.env.cells.lookup x=some c->c≠b)/\∀ p∈X.pn++pins,p.1≠b
theorem Inv.fpOk {X:Cx}{pins:List (Addr × Obj)}{σ:St}{H H':Hp}{s:Shared}{b:Addr}(I:Inv X pins σ H s)(hb:s.heap.objs.size<=b)(hn:H' b=none):FpOk X pins H' b:=by
  refine⟨hn,JV (JG I.lt hb),I.nofs hb,.inr (JM I.sz hb),λx c e z=>?_,λp a z=>?_⟩
  · obtain⟨v,q⟩:=I.cell x c e
    exact absurd (JG q.lt (by rw[z];exact hb)) (YK _)
  · exact absurd (JG (Jc (I.pin p a).1) (by rw[z];exact hb)) (YK _)
structure Turn (P:Program) (w:World) (K:PySem.W.Frag) (tg:Expr) (J:It) (fp:List Addr) (it:Addr) (tn:Nat->Heap->Prop):Prop where
  mem:it∈fp
  obj:∀ i h,tn i h->∀ b∈fp,∃ o,h.get? b=some o/\∀ v,o.data≠.cell v
  keep:∀ i h h',tn i h->(∀ b∈fp,∀ o,h.get? b=some o->h'.get? b=some o)->tn i h'
  item:∀ (X:Cx),X.prog=P->X.w=w->X.K=K->X.calm=true->∀ (i:Nat) (pins:List (Addr × Obj)) (s:Shared) (σ:St) (H:Hp) (E:Value->Shared->Prop),Inv X pins σ H s->(∀ b∈fp,FpOk X pins H b)->tn i s.heap->J.go i H ->
    wpAny (model P w) X.A (pyNext (.ref it)) (λr s1=>∃ u,r=some u /\
      wpAny (model P w) X.A (letOwnedTupleGo tg (.ref it) u) (λ_ s2=>∃ x H',Inv X pins σ H' s2/\RelV x u/\J.yld i H x H'/\tn (i+1) s2.heap/\∀ b∈fp,H' b=none) E s1) E s
  done:∀ (X:Cx),X.prog=P->X.w=w->X.K=K->X.calm=true->∀ (i:Nat) (pins:List (Addr × Obj)) (s:Shared) (σ:St) (H:Hp) (E:Value->Shared->Prop),Inv X pins σ H s->(∀ b∈fp,FpOk X pins H b)->tn i s.heap->J.stop i H ->
    wpAny (model P w) X.A (pyNext (.ref it)) (λr s1=>r=none/\Inv X pins σ H s1) E s
  self:∀ (A:Around) (i:Nat) (s:Shared) (Q:Value->Shared->Prop) (E:Value->Shared->Prop),tn i s.heap->Q (.ref it) s->wpAny (model P w) A (pyIter (.ref it)) Q E s
abbrev TI:=St->Hp->(It->Hp->Prop)->Prop
def PIE (X:Cx)(pins:List (Addr × Obj))(σ:St)(tg:Expr)(R:It->Hp->Prop)(c:Value)(s2:Shared):Prop :=
  ∃ (it:Addr) (e:List Addr) (d:Nat->Heap->Prop) (J:It) (a:Hp),c=.ref it/\Inv X pins σ a s2/\Turn X.prog X.w X.K tg J e it d/\d 0 s2.heap/\(∀ b∈e,FpOk X pins a b)/\R J a
def PI (X:Cx)(tg iter:Expr)(a:TI):Prop :=
  ∀ (pins:List (Addr × Obj)) (s:Shared) (σ:St) (H:Hp) (R:It->Hp->Prop),Inv X pins σ H s->a σ H R ->
    wpAny (model X.prog X.w) X.A (eval iter X.env) (λv b=>wpAny (model X.prog X.w) X.A (pyIter v) (PIE X pins σ tg R) X.xe b) X.xe s
theorem gh {M:Model}{A:Around}{E:Value->Shared->Prop}{s:Shared}{tg:Expr}{it:Addr}{u:Value}{o:Obj}{n:String}{vs:Array Value}{Q:Unit->Shared->Prop}(b:s.heap.get? it=some o) (hc:o.cls=.type n) (hd:o.data=.fields vs)
    (hn:["enumerate","zip","dict_itemiterator","dict_reverseitemiterator","odict_iterator","itertools.zip_longest","itertools.pairwise"].contains n=false) (a:Q () s):wpAny M A (letOwnedTupleGo tg (.ref it) u) Q E s:=by
  unfold letOwnedTupleGo
  cases tg<;>first
    | exact Jm a
    | (cases u<;>first
        | exact Jm a
        | (refine J6 (wpAny_load b ?_)
           rw[hc,hd];show wpAny M A (if (["enumerate","zip","dict_itemiterator","dict_reverseitemiterator","odict_iterator","itertools.zip_longest","itertools.pairwise"].contains n && vs[0]? == some (rawInt _))=true then _ else _) Q E s;rw[Ja (by intro h;rw[hn,Bool.false_and]at h;cases h)]
           exact Jm a))
def Itl (K:PySem.W.Frag)(a:Addr):It :=
  ⟨λi H=>∃ b x,SqL K H a b/\b[i]?=some x,λi H x c=>c=H/\∀ b,SqL K H a b->b[i]?=some x,λi H=>∃ b,SqL K H a b/\b.length<=i⟩
def Itt (K:PySem.W.Frag)(a:Addr):It :=
  ⟨λi H=>∃ b x,SqT K H a b/\b[i]?=some x,λi H x c=>c=H/\∀ b,SqT K H a b->b[i]?=some x,λi H=>∃ b,SqT K H a b/\b.length<=i⟩
def Itr (lo:Int)(n:Nat):It:=⟨λi _=>i<n,λi H x a=>a=H/\x=.int (lo+i),λi _=>n<=i⟩
theorem kd {P:Program}{w:World}{K:PySem.W.Frag}{tg:Expr}(a it:Addr):Turn P w K tg (Itl K a) [it] it (λi h=>h.IsListIter it a i) where
  mem:=by simp
  obj:=λi h st b f=>by
    have e:b=it:=by simpa using f
    subst e;obtain⟨o,e,c,d⟩:=st;exact⟨o,e,λv z=>by rw[d]at z;cases z⟩
  keep:=λi h m st k=>st.at λo e=>k it (by simp) o e
  item:=by
    intro X y r A L i pins s σ H E I l st t;subst y r A;obtain⟨M,x,j,q⟩:=t;obtain⟨J,n,p,Q⟩:=I.list j;obtain⟨u,S,O⟩:=n.get q;obtain⟨G,F,T,D,C,B⟩:=l it (by simp);refine wpAny_pyNext_list_item st p.isList (x:=u) (by simpa using S) λm g N=>?_;have V:Inv X pins σ H { s with heap:=m }:=I.turned (t':=s.toks) (λb o f e=>(N.2 b f).trans e) G F D C B;obtain⟨o,e,c,d⟩:=id g;exact⟨u,rfl,gh (s:={ s with heap:=m }) e c d (by decide) ⟨x,H,V,O,⟨rfl,λW R=>by rw[I.list_inj R j];exact q⟩,g,λb f=>(l b f).1⟩⟩
  done:=by
    intro X y r A L i pins s σ H E I l st t;subst y r A;obtain⟨M,j,q⟩:=t;obtain⟨J,n,p,Q⟩:=I.list j;obtain⟨G,F,T,D,C,B⟩:=l it (by simp);have Y:=n.length;exact wpAny_pyNext_list_end (I.ok.hd L) st p.isList (by simp;simp_all) λm U=>⟨rfl,I.turned (t':=s.toks) (λb o f e=>U b o f e) G F D C B⟩
  self:=λ_ _ _ _ _ st h=>wpAny_pyIter_listiter st h
theorem nJ {P:Program}{w:World}{K:PySem.W.Frag}{tg:Expr}(a it:Addr):Turn P w K tg (Itt K a) [it] it (λi h=>h.IsTupleIter it a i) where
  mem:=by simp
  obj:=λi h st b f=>by
    have e:b=it:=by simpa using f
    subst e;obtain⟨o,e,c,d⟩:=st;exact⟨o,e,λv z=>by rw[d]at z;cases z⟩
  keep:=λi h n st k=>st.at λo e=>k it (by simp) o e
  item:=by
    intro X A t B L i pins s σ H E I m st y;subst A t B;obtain⟨M,x,l,r⟩:=y;obtain⟨g,q,p,Q⟩:=I.tuple l;obtain⟨u,S,O⟩:=q.get r;obtain⟨J,G,T,F,D,C⟩:=m it (by simp);refine wpAny_pyNext_tuple_item st (show s.heap.IsTuple a g.toArray from p) (x:=u) (by simpa using S) λn j N=>?_;have V:Inv X pins σ H { s with heap:=n }:=I.turned (t':=s.toks) (λb o f e=>(N.2 b f).trans e) J G F D C;obtain⟨o,e,c,d⟩:=id j;exact⟨u,rfl,gh (s:={ s with heap:=n }) e c d (by decide) ⟨x,H,V,O,⟨rfl,λW R=>by rw[I.tuple_inj R l];exact r⟩,j,λb f=>(m b f).1⟩⟩
  done:=by
    intro X A t B L i pins s σ H E I m st y;subst A t B;obtain⟨M,l,r⟩:=y;obtain⟨g,q,p,Q⟩:=I.tuple l;obtain⟨J,G,T,F,D,C⟩:=m it (by simp);have Y:=q.length;exact wpAny_pyNext_tuple_end (I.ok.hd L) st (show s.heap.IsTuple a g.toArray from p) (by simp;simp_all) λn U=>⟨rfl,I.turned (t':=s.toks) (λb o f e=>U b o f e) J G F D C⟩
  self:=λ_ _ _ _ _ st h=>wpAny_pyIter_tupleiter st h
theorem nK {P:Program}{w:World}{K:PySem.W.Frag}{tg:Expr}(it:Addr)(lo:Int)(n:Nat):Turn P w K tg (Itr lo n) [it] it (λi h=>IsRangeIter h it (lo+(i:Nat)*1) ((n:Int)-(i:Nat)) 1) where
  mem:=by simp
  obj:=λi h st b a=>by
    have e:b=it:=by simpa using a
    subst e
    exact⟨_,st,λv z=>by
      have B:Data.fields _=Data.cell v:=z
      cases B⟩
  keep:=λi h f st k=>k it (by simp) _ st
  item:=by
    intro X m g p l i pins s σ H E I d st j;subst m g p;obtain⟨y,x,F,u,r,q⟩:=d it (by simp);have W:=Walks.range (prog:=X.prog) (w:=X.w) (I.ok.hd l) it lo 1 n;refine W.item i s _ _ j st λv f A D c C=>?_;obtain⟨t,rfl⟩:=D;have J:Inv X pins σ H { s with heap:=f,toks:=A }:=I.turned (λb o a e=>C b o (by simpa using a) e) y x u r q;refine⟨_,rfl,gh (s:={ s with heap:=f,toks:=A }) (n:="range_iterator") c rfl rfl (by decide) ⟨.int (lo+i),H,J,⟨t,?_⟩,⟨rfl,rfl⟩,c,λb a=>(d b a).1⟩⟩;rw[Int.mul_one]
  done:=by
    intro X m g p l i pins s σ H E I d st j;subst m g p;obtain⟨y,x,F,u,r,q⟩:=d it (by simp);exact wpAny_pyNext_range_end (I.ok.hd l) st (by have:n<=i:=j;lia) λf G=>⟨rfl,I.turned (t':=s.toks) (λb o a e=>G b o a e) y x u r q⟩
  self:=λ_ _ _ _ _ st h=>wpAny_pyIter_rangeiter st h
section
variable {X:Cx}{tg:Expr}
def zah (K:PySem.W.Frag)(d:TE):TI:=λσ H R=>d σ H λx b=>∃ a,x=.ref a/\(∃ c,SqL K b a c)/\R (Itl K a) b
def zaf (K:PySem.W.Frag)(d:TE):TI:=λσ H R=>d σ H λx b=>∃ a,x=.ref a/\(∃ c,SqT K b a c)/\R (Itt K a) b
theorem lM {l:Expr}{f:TE}(k:PE X l f):PI X tg l (zah X.K f):=by
  intro pins s σ H R I h;refine thn (k pins s σ H _ I h) λv c ⟨x,n,d,g,i⟩=>?_;obtain⟨a,e,⟨t,j⟩,q⟩:=i;subst e;cases g;obtain⟨r,u,p,w⟩:=d.list j;refine wpAny_pyIter_list p.isList ?_;refine⟨c.heap.objs.size,[c.heap.objs.size],_,_,n,rfl,d.kept (t':=c.toks) λb o e=>J8 _ e,kd a _,⟨_,Jw _ rfl,rfl,rfl⟩,λb m=>?_,q⟩;have e:b=c.heap.objs.size:=by simpa using m
  subst e;exact d.fpOk (Jf _) (d.hok.fresh (Jf _))
theorem wn {l:Expr}{g:TE}(m:PE X l g):PI X tg l (zaf X.K g):=by
  intro pins s σ H R I h;refine thn (m pins s σ H _ I h) λv c ⟨x,r,d,i,j⟩=>?_;obtain⟨a,e,⟨t,k⟩,q⟩:=j;subst e;cases i;obtain⟨f,u,p,w⟩:=d.tuple k;refine wpAny_pyIter_tuple (show c.heap.IsTuple a f.toArray from p) ?_;refine⟨c.heap.objs.size,[c.heap.objs.size],_,_,r,rfl,d.kept (t':=c.toks) λb o e=>J8 _ e,nJ a _,⟨_,Jw _ rfl,rfl,rfl⟩,λb n=>?_,q⟩;have e:b=c.heap.objs.size:=by simpa using n
  subst e;exact d.fpOk (Jf _) (d.hok.fresh (Jf _))
theorem iX {pins:List (Addr × Obj)}{σ:St}{H:Hp}{s:Shared}{R:It->Hp->Prop}{E:Value->Shared->Prop}{lo hi:Int}{t u v:Tok}{a:Nat}(I:Inv X pins σ H s)(i:-(2 ^ 62)<=lo)(h:lo<2 ^ 62)(g:-(2 ^ 62)<=hi)(f:hi<2 ^ 62)(q:R (Itr lo (hi-lo).toNat) H):wpAny (model X.prog X.w) X.A (pyIter (.ref s.heap.objs.size)) (PIE X pins σ tg R) E { s with heap:=s.heap.push { cls:=.type "range",data:=.fields #[.int lo t,.int hi u,.int 1 v] },toks:=a }:=by
  refine wpAny_pyIter_range (IsRange.new ..) (small_one i h g f) ?_;have c:Inv X pins σ H { s with heap:=s.heap.push { cls:=.type "range",data:=.fields #[.int lo t,.int hi u,.int 1 v] },toks:=a }:=I.kept λb o e=>J8 _ e
  refine⟨(s.heap.push { cls:=.type "range",data:=.fields #[.int lo t,.int hi u,.int 1 v] }).objs.size,[(s.heap.push { cls:=.type "range",data:=.fields #[.int lo t,.int hi u,.int 1 v] }).objs.size],_,_,H,rfl,
    c.kept (t':=a) λb o e=>J8 _ e,nK _ lo (hi-lo).toNat,?_,λb d=>?_,q⟩
  · have j:lo+((0:Nat):Int)*1=lo:=by simp
    have e2:(((hi-lo).toNat:Nat):Int)-((0:Nat):Int)=Builtin.Range.rangeSize lo hi 1:=by rw[rangeSize_one];split<;>grind
    show IsRangeIter _ _ (lo+((0:Nat):Int)*1) ((((hi-lo).toNat:Nat):Int)-((0:Nat):Int)) 1;rw[j,e2];exact Jw _ rfl
  · have e:b=(s.heap.push { cls:=.type "range",data:=.fields #[.int lo t,.int hi u,.int 1 v] }).objs.size:=by simpa using d
    subst e;exact c.fpOk (Jf _) (c.hok.fresh (Jf _))
def zag (b:TA):TI:=λσ H R=>b σ H λa c=>∃ j:Int,a=[.int j]/\-(2 ^ 62)<=j/\j<2 ^ 62/\R (Itr 0 j.toNat) c
theorem y4 {a:Expr}{c:TA}{p pos:Pos}(i:Gl X "range") (hm:X.mg "range" = none) (ha:PA X [a] c) (hs:starEach [a] X.env=[(false,eval a X.env)]:=by rfl):PI X tg (.Call (.Name "range" p) [a] [] pos) (zag c):=by
  intro pins s σ H R I h;refine Call_ (xC I i hm boot_range (Y3 (thn (ha pos pins s σ H _ I h) λm n ⟨l,o,k,f,b⟩=>?_) hs rfl));obtain⟨j,e,b,g,q⟩:=b;subst e
  cases f with
  | cons r d =>
    cases d;obtain⟨t,rfl⟩:=r;exact call_range_1 (iX k (by simp_all) (by simp_all) b g (by simpa using q))
def zaF (e:TI)(g:TG)(f:TS):TS:=λD σ H=>e σ H λJ j=>∃ W:Nat->Nat->St->Hp->Prop,(∃ m,W 0 m σ j)/\∀ i m σ H,W i m σ H ->
  (J.stop i H/\D.nx σ H)\/(J.go i H/\∃ N:St->Hp->Prop,(∀ b a,N b a->∃ d,d<m/\W (i+1) d b a)/\∀ x a,J.yld i H x a->g x σ a λc h=>f { D with nx:=N,ct:=N,bk:=D.nx } c h)
def wm (fp:List Addr)(h:Heap):List (Addr × Obj):=fp.filterMap λb=>(h.get? b).map λo=>(b,o)
theorem yj {fp:List Addr}{h:Heap}{b:Addr}{o:Obj}(hb:b∈fp)(e:h.get? b=some o):(b,o)∈wm fp h:=List.mem_filterMap.mpr ⟨b,hb,by rw[e];rfl⟩
theorem jN {fp:List Addr}{h:Heap}{p:Addr × Obj}(hp:p∈wm fp h):p.1∈fp/\h.get? p.1=some p.2:=by
  obtain⟨b,a,e⟩:=List.mem_filterMap.mp hp
  cases q:h.get? b with
  | none=>rw[q]at e;cases e
  | some o =>
    rw[q]at e;have c:(b,o)=p:=Jv e;subst c;exact⟨a,q⟩
theorem Inv.pinned {pins:List (Addr × Obj)}{σ:St}{H:Hp}{s:Shared}{fp:List Addr}(I:Inv X pins σ H s)(h:∀ b∈fp,FpOk X pins H b)(g:∀ b∈fp,∃ o,s.heap.get? b=some o/\∀ v,o.data≠.cell v):Inv X (pins++wm fp s.heap) σ H s :=
  I.pins_of λp f=>(Jz.mp f).elim (λz=>I.pin p (JJ _ z)) λz=>by
    obtain⟨a,e⟩:=jN z;obtain⟨k,j,i,_⟩:=h p.1 a;obtain⟨o,c,d⟩:=g p.1 a;rw[e]at c;cases c;exact⟨e,k,j,i,d⟩
theorem Inv.unpinned {pins pl:List (Addr × Obj)}{σ:St}{H:Hp}{s:Shared}(I:Inv X (pins++pl) σ H s):Inv X pins σ H s:=I.pins_of λp a=>I.pin p (JJ _ (Z5 _ a))
theorem xp {iter:Expr}{body:List Stmt}{O:TI}{g:TG}{Q:TS}{pos:Pos}(hp:PassesOwn (model X.prog X.w) X.A X.env X.xe)(hc:X.calm=true)(hi:PI X tg iter O)(hg:PG X tg g)(hb:PSs X body Q)(hs:∀ x,foldedSetIterable iter X.env x=pure x:=by intro _;rfl):PS X (.For tg iter body [] pos) (zaF O g Q):=by
  intro pins s σ H D I h;refine wpAny_For (thn (hi pins s σ H _ I h) λv s1 h1=>thn h1 λab s2 h2=>?_) hs;obtain⟨it,z,P,J,H2,e,I2,T,K,V,W,⟨m0,w0⟩,turn⟩:=h2;subst e;have p:∀ {q:Hp},(∀ b∈z,q b=none)->∀ b∈z,FpOk X pins q b:=λhn b hb=>⟨hn b hb,(V b hb).2⟩;refine codeAny_forLoop_any (λn U=>∃ i l q,Inv X pins l q U/\P i U.heap/\(∀ b∈z,q b=none)/\W i n l q) ?_ m0 ⟨0,σ,H2,I2,K,λb hb=>(V b hb).1,w0⟩;rintro n S ⟨i,k,C,Y,A,B,w3⟩;rcases turn i n k C w3 with ⟨stop,qn⟩|⟨go,N,hN,step⟩
  · refine ZJ hp (thn (T.done X rfl rfl rfl hc i pins S k C X.xe Y (p B) A stop) λr s4 ⟨F,I4⟩=>?_)
    subst F;exact wpAny_execs_nil ⟨k,C,I4,qn⟩
  · refine ZJ hp (thn (T.item X rfl rfl rfl hc i pins S k C X.xe Y (p B) A go) λr s4 ⟨u,F,h4⟩=>?_)
    subst F;refine ZJ hp (thn h4 λ_ R ⟨x,Z,I5,r5,y5,w,L⟩=>?_);have M:=I5.pinned (p L) (T.obj _ _ w);refine ZJ hp (thn (hg _ R k Z x u _ M r5 (step x Z y5)) λ_ s6 ⟨G,H6,I6,q6⟩=>?_);refine ZJ hp (thn (hb _ s6 G H6 _ I6 q6) λf E t=>?_)
    have again:∀ {a:St}{j:Hp},Inv X (pins++wm z R.heap) a j E->N a j->∃ m,m<n/\∃ i l q,Inv X pins l q E/\P i E.heap/\(∀ b∈z,q b=none)/\W i m l q:=λ{a j} c y=>by
      obtain⟨m',hm,w7⟩:=hN a j y;refine⟨m',hm,i+1,a,j,c.unpinned,T.keep _ _ _ w λb hb o e=>(c.pin (b,o) (JJ _ (JJ _ (yj hb e)))).1,λb hb=>?_,w7⟩;obtain⟨o,e,d⟩:=T.obj _ _ w b hb;exact(c.pin (b,o) (JJ _ (JJ _ (yj hb e)))).2.1
    cases f with
    | next=>obtain⟨a,j,c,y⟩:=t;exact again c y
    | cont=>obtain⟨a,j,c,y⟩:=t;exact again c y
    | brk=>obtain⟨a,j,c,t⟩:=t;exact⟨a,j,c.unpinned,t⟩
    | ret v=>obtain⟨x7,a,j,c,r7,t⟩:=t;exact⟨x7,a,j,c.unpinned,r7,t⟩
end
theorem gm {K:PySem.W.Frag}{a:Addr}{xs:List V}{g:TG}{k:TS}{D:Ends}{σ:St}{H:Hp}(b:Nat->St->Hp->Prop)(t:b 0 σ H)(o:∀ i σ H,i<=xs.length->b i σ H->SqL K H a xs)(hs:∀ i x σ H,xs[i]?=some x->b i σ H->g x σ H λd j=>k { D with nx:=b (i+1),ct:=b (i+1),bk:=D.nx } d j)(s:∀ σ H,b xs.length σ H->D.nx σ H) :
    ∃ W:Nat->Nat->St->Hp->Prop,(∃ m,W 0 m σ H)/\∀ i m σ H,W i m σ H ->
      ((Itl K a).stop i H/\D.nx σ H)\/((Itl K a).go i H/\∃ N:St->Hp->Prop,(∀ f c,N f c->∃ l,l<m/\W (i+1) l f c)/\∀ x c,(Itl K a).yld i H x c->g x σ c λd j=>k { D with nx:=N,ct:=N,bk:=D.nx } d j):=by
  refine⟨λi m σ H=>m=xs.length-i/\i<=xs.length/\b i σ H,⟨xs.length,by simp,JX _,t⟩,?_⟩;rintro i m σ H ⟨rfl,r,p⟩;have q:=o i σ H r p;by_cases h:i<xs.length
  · refine .inr ⟨⟨xs,xs[i],q,by simp[h]⟩,b (i+1),λf c n=>⟨xs.length-(i+1),by omega,rfl,h,n⟩,λx c y=>?_⟩
    obtain⟨e,y⟩:=y;subst e;exact hs i x σ _ (y xs q) p
  · have e:i=xs.length:=by lia
    subst e;exact .inl ⟨⟨xs,q,Jf _⟩,s σ H p⟩
theorem qy {K:PySem.W.Frag}{a:Addr}{xs:List V}{g:TG}{k:TS}{D:Ends}{σ:St}{H:Hp}(b:Nat->St->Hp->Prop)(t:b 0 σ H)(o:∀ i σ H,i<=xs.length->b i σ H->SqT K H a xs)(hs:∀ i x σ H,xs[i]?=some x->b i σ H->g x σ H λd j=>k { D with nx:=b (i+1),ct:=b (i+1),bk:=D.nx } d j)(s:∀ σ H,b xs.length σ H->D.nx σ H) :
    ∃ W:Nat->Nat->St->Hp->Prop,(∃ m,W 0 m σ H)/\∀ i m σ H,W i m σ H ->
      ((Itt K a).stop i H/\D.nx σ H)\/((Itt K a).go i H/\∃ N:St->Hp->Prop,(∀ f c,N f c->∃ l,l<m/\W (i+1) l f c)/\∀ x c,(Itt K a).yld i H x c->g x σ c λd j=>k { D with nx:=N,ct:=N,bk:=D.nx } d j):=by
  refine⟨λi m σ H=>m=xs.length-i/\i<=xs.length/\b i σ H,⟨xs.length,by simp,JX _,t⟩,?_⟩;rintro i m σ H ⟨rfl,r,p⟩;have q:=o i σ H r p;by_cases h:i<xs.length
  · refine .inr ⟨⟨xs,xs[i],q,by simp[h]⟩,b (i+1),λf c n=>⟨xs.length-(i+1),by grind,rfl,h,n⟩,λx c y=>?_⟩
    obtain⟨e,y⟩:=y;subst e;exact hs i x σ _ (y xs q) p
  · have e:i=xs.length:=by grind
    subst e;exact .inl ⟨⟨xs,q,Jf _⟩,s σ H p⟩
theorem wP {lo:Int}{n:Nat}{g:TG}{j:TS}{D:Ends}{σ:St}{H:Hp}(a:Nat->St->Hp->Prop)(q:a 0 σ H)(hs:∀ i σ H,i<n->a i σ H->g (.int (lo+i)) σ H λc h=>j { D with nx:=a (i+1),ct:=a (i+1),bk:=D.nx } c h)(o:∀ σ H,a n σ H->D.nx σ H) :
    ∃ W:Nat->Nat->St->Hp->Prop,(∃ m,W 0 m σ H)/\∀ i m σ H,W i m σ H ->
      ((Itr lo n).stop i H/\D.nx σ H)\/((Itr lo n).go i H/\∃ N:St->Hp->Prop,(∀ d b,N d b->∃ k,k<m/\W (i+1) k d b)/\∀ x b,(Itr lo n).yld i H x b->g x σ b λc h=>j { D with nx:=N,ct:=N,bk:=D.nx } c h):=by
  refine⟨λi m σ H=>m=n-i/\i<=n/\a i σ H,⟨n,by simp,JX _,q⟩,?_⟩;rintro i m σ H ⟨rfl,r,p⟩;by_cases f:i<n
  · refine .inr ⟨f,a (i+1),λd b l=>⟨n-(i+1),by grind,rfl,f,l⟩,λx b y=>?_⟩
    obtain⟨e,y⟩:=y;subst e y;exact hs i σ _ f p
  · have e:i=n:=by lia
    subst e;exact .inl ⟨Jf _,o σ H p⟩
abbrev R2:=V->V->Hp->VK->Prop
def OpR (X:Cx)(f:Value->Value->Sem Value)(r:R2):Prop :=
  ∀ (pins:List (Addr × Obj)) (s:Shared) (σ:St) (H:Hp) (x y:V) (v u:Value) (Q:VK),Inv X pins σ H s->RelV x v->RelV y u->r x y H Q ->
    wpAny (model X.prog X.w) X.A (f v u) (EP X pins σ Q) X.xe s
def UnR (X:Cx)(f:Value->Sem Value)(r:V->Hp->VK->Prop):Prop :=
  ∀ (pins:List (Addr × Obj)) (s:Shared) (σ:St) (H:Hp) (x:V) (v:Value) (Q:VK),Inv X pins σ H s->RelV x v->r x H Q ->
    wpAny (model X.prog X.w) X.A (f v) (EP X pins σ Q) X.xe s
def CallR (X:Cx)(f:Value)(r:List V->Hp->VK->Prop):Prop :=
  ∀ (pins:List (Addr × Obj)) (s:Shared) (σ:St) (H:Hp) (a:List V) (b:List Value) (Q:VK),Inv X pins σ H s->Vals a b->r a H Q ->
    wpAny (model X.prog X.w) X.A (call f b) (EP X pins σ Q) X.xe s
def tOp (r:R2)(b a:TE):TE:=λσ H Q=>b σ H λx d=>a σ d λy c=>r x y c Q
def tUn (r:V->Hp->VK->Prop)(a:TE):TE:=λσ H Q=>a σ H λx b=>r x b Q
def rI (C:Int->Int->Prop)(g:Int->Int->V):R2:=λx y H Q=>∃ i j,x=.int i/\y=.int j/\C i j/\Q (g i j) H
def rI0 (g:Int->Int->V):R2:=λx y H Q=>∃ i j,x=.int i/\y=.int j/\Q (g i j) H
def rU (g:Int->V):V->Hp->VK->Prop:=λx H Q=>∃ i,x=.int i/\Q (g i) H
section
variable {X:Cx}{a b:Expr}{ta tb:TE}{pos:Pos}
theorem aK (ha:PE X a ta)(hb:PE X b tb){pins:List (Addr × Obj)}{s:Shared}{σ:St}{H:Hp}{R:V->V->Hp->Prop}(I:Inv X pins σ H s)(h:ta σ H λx g=>tb σ g λy c=>R x y c){Q:Value->Shared->Prop}{f:Value->Value->Sem Value}(n:∀ v u s2 x y c,Inv X pins σ c s2->RelV x v->RelV y u->R x y c->wpAny (model X.prog X.w) X.A (f v u) Q X.xe s2) :
    wpAny (model X.prog X.w) X.A (eval a X.env) (λv e=>wpAny (model X.prog X.w) X.A (eval b X.env) (λu d=>wpAny (model X.prog X.w) X.A (f v u) Q X.xe d) X.xe e) X.xe s:=by
  refine thn (ha pins s σ H _ I h) λv i ⟨x,g,p,k,m⟩=>?_;refine thn (hb pins i σ g _ p m) λu s2 ⟨y,c,o,j,l⟩=>?_;exact n v u s2 x y c o k j l
theorem zU {op:Operator}{r:R2}(f:OpR X (binaryOp op) r)(ha:PE X a ta)(hb:PE X b tb):PE X (.BinOp a op b pos) (tOp r ta tb):=by
  intro pins s σ H Q I h;exact wpAny_BinOp (aK ha hb I h λv u c x y i g e d q=>f pins c σ i x y v u Q g e d q)
theorem cg {op:UnaryOp}{r:V->Hp->VK->Prop}(e:UnR X (unaryOp op) r)(ha:PE X a ta):PE X (.UnaryOp op a pos) (tUn r ta):=by
  intro pins s σ H Q I h;exact UnaryOp_ (thn (ha pins s σ H _ I h) λv b ⟨x,g,f,c,d⟩=>e pins b σ g x v Q f c d)
theorem opI {f:Value->Value->Sem Value}{C:Int->Int->Prop}{g:Int->Int->Int}(rule:∀ (i j:Int) (t u:Tok) (s:Shared) (Q:Value->Shared->Prop) (E:Value->Shared->Prop),C i j->Q (.int (g i j) s.toks) { s with toks:=s.toks+1 }->wpAny (model X.prog X.w) X.A (f (.int i t) (.int j u)) Q E s) :
    OpR X f (rI C λi j=>.int (g i j)):=by
  intro pins s σ H x y v u Q I c b h;obtain⟨i,j,rfl,rfl,d,q⟩:=h;obtain⟨t,rfl⟩:=c;obtain⟨a,rfl⟩:=b;exact rule i j t a s _ _ d ⟨.int (g i j),H,I.tok _,⟨_,rfl⟩,q⟩
theorem av {f:Value->Value->Sem Value}{g:Int->Int->Int}(rule:∀ (i j:Int) (t u:Tok) (s:Shared) (Q:Value->Shared->Prop) (E:Value->Shared->Prop),Q (.int (g i j) s.toks) { s with toks:=s.toks+1 }->wpAny (model X.prog X.w) X.A (f (.int i t) (.int j u)) Q E s) :
    OpR X f (rI0 λi j=>.int (g i j)):=by
  intro pins s σ H x y v u Q I c b h;obtain⟨i,j,rfl,rfl,q⟩:=h;obtain⟨t,rfl⟩:=c;obtain⟨a,rfl⟩:=b;exact rule i j t a s _ _ ⟨.int (g i j),H,I.tok _,⟨_,rfl⟩,q⟩
theorem eZ {f:Value->Value->Sem Value}{g:Int->Int->Bool}(rule:∀ (i j:Int) (t u:Tok) (s:Shared) (Q:Value->Shared->Prop) (E:Value->Shared->Prop),Q (.bool (g i j)) s->wpAny (model X.prog X.w) X.A (f (.int i t) (.int j u)) Q E s) :
    OpR X f (rI0 λi j=>.bl (g i j)):=by
  intro pins s σ H x y v u Q I c b h;obtain⟨i,j,rfl,rfl,q⟩:=h;obtain⟨t,rfl⟩:=c;obtain⟨a,rfl⟩:=b;exact rule i j t a s _ _ ⟨.bl (g i j),H,I,rfl,q⟩
def CDiv (i j:Int):Prop:=0<j/\j<1073741824
def CPow (i j:Int):Prop:=0<=j/\j<=1000000/\i.natAbs<2 ^ 64
def CMul (i j:Int):Prop:=(-(2 ^ 64)<i/\i<2 ^ 64)\/(-(2 ^ 64)<j/\j<2 ^ 64)
theorem CMul.ok {i j:Int}(h:CMul i j):IntMulOk i j:=by
  rcases h with ⟨b,a⟩|⟨b,a⟩
  · exact .of_left (intBits_le_64 b a)
  · exact .of_right (intBits_le_64 b a)
theorem ya:OpR X (binaryOp .Add) (rI0 λi j=>.int (i+j)):=av λ_ _ _ _ _ _ _ q=>add_int q
theorem qg:OpR X (binaryOp .Sub) (rI0 λi j=>.int (i-j)):=av λ_ _ _ _ _ _ _ q=>sub_int q
theorem xR:OpR X (binaryOp .Mult) (rI CMul λi j=>.int (i*j)):=opI λ_ _ _ _ _ _ _ a q=>mul_int q a.ok
theorem wB:OpR X (binaryOp .FloorDiv) (rI CDiv λi j=>.int (i / j)):=opI λi j _ _ _ _ _ a q=>by
  have c:(0:Int)<j:=a.1;have b:j<1073741824:=a.2;exact floordiv_int (by grind) (by rw[Int.fdiv_eq_ediv_of_nonneg i (by lia)];exact q) (.inl (PyProof.noPylong_small (by omega)))
theorem xS:OpR X (binaryOp .Mod) (rI (λ_ j=>0<j) λi j=>.int (i%j)):=opI λi j _ _ _ _ _ a q=>by
  have b:(0:Int)<j:=a;exact mod_int' (by grind) (by rw[Int.fmod_eq_emod_of_nonneg i (by grind)];exact q)
theorem mI:OpR X (binaryOp .Pow) (rI CPow λi j=>.int (i ^ j.toNat)):=opI λ_ _ _ _ _ _ _ a q=>pow_int_small a.1 a.2.1 a.2.2 q
theorem cE:OpR X (inplaceOp .Mult) (rI CMul λi j=>.int (i*j)):=opI λ_ _ _ _ _ _ _ a q=>imul_int q a.ok
theorem unI {f:Value->Sem Value}{g:Int->Int}(rule:∀ (i:Int) (t:Tok) (s:Shared) (Q:Value->Shared->Prop) (E:Value->Shared->Prop),Q (.int (g i) s.toks) { s with toks:=s.toks+1 }->wpAny (model X.prog X.w) X.A (f (.int i t)) Q E s) :
    UnR X f (rU λi=>.int (g i)):=by
  intro pins s σ H x v Q I a h;obtain⟨i,rfl,q⟩:=h;obtain⟨t,rfl⟩:=a;exact rule i t s _ _ ⟨.int (g i),H,I.tok _,⟨_,rfl⟩,q⟩
theorem j5:UnR X (unaryOp .USub) (rU λi=>.int (-i)):=unI λ_ _ _ _ _ q=>neg_int q
end
def aZ:V->V->Bool
  | .non,.non=>true|.non,.int _=>true|.int _,.non=>true|.non,.bl _=>true|.bl _,.non=>true|.non,.str _=>true|.str _,.non=>true
  | .int _,.int _=>true|.bl _,.bl _=>true|.str _,.str _=>true|.byt _,.byt _=>true
  | .int _,.str _=>true|.str _,.int _=>true|.bl _,.str _=>true|.str _,.bl _=>true
  | _,_=>false
def rEq:R2:=λx y H Q=>aZ x y=true/\Q (.bl (decide (x=y))) H
def rNe:R2:=λx y H Q=>aZ x y=true/\Q (.bl (!decide (x=y))) H
theorem kB {i j:Int}:decide (V.int i=V.int j)=(i == j):=by
  rw[YF];simp
theorem gz {i j:Bool}:decide (V.bl i=V.bl j)=(i == j):=by
  rw[YF];simp
theorem kA {i j:Str}:decide (V.str i=V.str j)=(i == j):=by
  rw[YF];simp
theorem kC {i j:Array UInt8}:decide (V.byt i=V.byt j)=(i.toList == j.toList):=by
  rw[YF];cases i;cases j;simp
section
variable {X:Cx}{a b c:Expr}{ta tb tc:TE}{pos:Pos}
theorem yC {pins:List (Addr × Obj)}{σ:St}{H:Hp}{s:Shared}{Q:VK}{k k':Bool}(I:Inv X pins σ H s)(q:Q (.bl k) H)(e:k=k'):EP X pins σ Q (.bool k') s:=by
  subst e;exact⟨.bl k,H,I,rfl,q⟩
theorem vL:OpR X (compareOp .Eq) rEq:=by
  intro pins s σ H x y v u Q I d a h;obtain⟨c,q⟩:=h
  cases x with
  | non =>
    cases d
    cases y with
    | non=>cases a;exact PySem.EqNone.eq_none_none (yC I q (by simp))
    | bl j=>cases a;exact PySem.EqNone.eq_none_bool (yC I q (by simp))
    | int j=>obtain⟨b,rfl⟩:=a;exact PySem.EqNone.eq_none_int (yC I q (by simp))
    | str j=>obtain⟨b,rfl⟩:=a;exact PySem.EqNone.eq_none_str (yC I q (by simp))
    | _=>exact absurd (show false=true from c) Jp
  | bl i =>
    cases d
    cases y with
    | non=>cases a;exact PySem.EqNone.eq_bool_none (yC I q (by simp))
    | bl j=>cases a;exact eq_bool (yC I q gz)
    | str j=>obtain⟨b,rfl⟩:=a;exact PySem.EqMixed.eq_bool_str (yC I q (by simp))
    | _=>exact absurd (show false=true from c) Jp
  | int i =>
    obtain⟨t,rfl⟩:=d
    cases y with
    | non=>cases a;exact PySem.EqNone.eq_int_none (yC I q (by simp))
    | int j=>obtain⟨b,rfl⟩:=a;exact eq_int (yC I q kB)
    | str j=>obtain⟨b,rfl⟩:=a;exact PySem.EqMixed.eq_int_str (yC I q (by simp))
    | _=>exact absurd (show false=true from c) Jp
  | str i =>
    obtain⟨t,rfl⟩:=d
    cases y with
    | non=>cases a;exact PySem.EqNone.eq_str_none (yC I q (by simp))
    | bl j=>cases a;exact PySem.EqMixed.eq_str_bool (yC I q (by simp))
    | int j=>obtain⟨b,rfl⟩:=a;exact PySem.EqMixed.eq_str_int (yC I q (by simp))
    | str j=>obtain⟨b,rfl⟩:=a;exact eq_str (yC I q kA)
    | _=>exact absurd (show false=true from c) Jp
  | byt i =>
    obtain⟨t,rfl⟩:=d
    cases y with
    | byt j=>obtain⟨b,rfl⟩:=a;exact PySem.W.eq_bytes (yC I q kC)
    | _=>exact absurd (show false=true from c) Jp
  | _=>cases y<;>exact absurd (show false=true from c) Jp
theorem ar:OpR X (compareOp .NotEq) rNe:=by
  intro pins s σ H x y v u Q I d a h;obtain⟨c,q⟩:=h
  cases x with
  | non =>
    cases d
    cases y with
    | non=>cases a;exact PySem.EqNone.ne_none_none (yC I q (by simp))
    | bl j=>cases a;exact PySem.EqNone.ne_none_bool (yC I q (by simp))
    | int j=>obtain⟨b,rfl⟩:=a;exact PySem.EqNone.ne_none_int (yC I q (by simp))
    | str j=>obtain⟨b,rfl⟩:=a;exact PySem.EqNone.ne_none_str (yC I q (by simp))
    | _=>exact absurd (show false=true from c) Jp
  | bl i =>
    cases d
    cases y with
    | non=>cases a;exact PySem.EqNone.ne_bool_none (yC I q (by simp))
    | bl j=>cases a;exact ne_bool (yC I q (Yh not gz))
    | str j=>obtain⟨b,rfl⟩:=a;exact PySem.EqMixed.ne_bool_str (yC I q (by simp))
    | _=>exact absurd (show false=true from c) Jp
  | int i =>
    obtain⟨t,rfl⟩:=d
    cases y with
    | non=>cases a;exact PySem.EqNone.ne_int_none (yC I q (by simp))
    | int j=>obtain⟨b,rfl⟩:=a;exact ne_int (yC I q (Yh not kB))
    | str j=>obtain⟨b,rfl⟩:=a;exact PySem.EqMixed.ne_int_str (yC I q (by simp))
    | _=>exact absurd (show false=true from c) Jp
  | str i =>
    obtain⟨t,rfl⟩:=d
    cases y with
    | non=>cases a;exact PySem.EqNone.ne_str_none (yC I q (by simp))
    | bl j=>cases a;exact PySem.EqMixed.ne_str_bool (yC I q (by simp))
    | int j=>obtain⟨b,rfl⟩:=a;exact PySem.EqMixed.ne_str_int (yC I q (by simp))
    | str j=>obtain⟨b,rfl⟩:=a;exact ne_str (yC I q (Yh not kA))
    | _=>exact absurd (show false=true from c) Jp
  | byt i =>
    obtain⟨t,rfl⟩:=d
    cases y with
    | byt j=>obtain⟨b,rfl⟩:=a;exact PySem.W.ne_bytes (yC I q (Yh not kC))
    | _=>exact absurd (show false=true from c) Jp
  | _=>cases y<;>exact absurd (show false=true from c) Jp
theorem sH:OpR X (compareOp .Lt) (rI0 λi j=>.bl (decide (i<j))):=eZ λ_ _ _ _ _ _ _ q=>lt_int q
theorem au:OpR X (compareOp .LtE) (rI0 λi j=>.bl (decide (i<=j))):=eZ λ_ _ _ _ _ _ _ q=>le_int q
theorem i5:OpR X (compareOp .Gt) (rI0 λi j=>.bl (decide (j<i))):=eZ λ_ _ _ _ _ _ _ q=>gt_int q
theorem ci:OpR X (compareOp .GtE) (rI0 λi j=>.bl (decide (j<=i))):=eZ λ_ _ _ _ _ _ _ q=>ge_int q
theorem bX:OpR X (compareOp .Is) (λx y H Q=>y=.non/\Q (.bl (decide (x=.non))) H):=by
  intro pins s σ H x y v u Q I a b h;obtain⟨rfl,q⟩:=h;cases b;refine is_none_gen (yC I q ?_)
  cases x<;>first
    | (cases a;rfl)
    | (obtain⟨t,rfl⟩:=a;rfl)
theorem lO:OpR X (compareOp .IsNot) (λx y H Q=>y=.non/\Q (.bl (!decide (x=.non))) H):=by
  intro pins s σ H x y v u Q I a b h;obtain⟨rfl,q⟩:=h;cases b;refine isnot_none_gen (yC I q ?_)
  cases x<;>first
    | (cases a;rfl)
    | (obtain⟨t,rfl⟩:=a;rfl)
theorem yE (b:Expr){op:CmpOp}(h:op≠.In:=by decide)(a:op≠.NotIn:=by decide):behindInMarks op b=false:=by
  have c:(op == CmpOp.In)=false:=by cases op<;>first|rfl|exact absurd rfl h
  have e2:(op == CmpOp.NotIn)=false:=by cases op<;>first|rfl|exact absurd rfl a
  cases b<;>simp[behindInMarks,c,e2]
theorem uz {op:CmpOp}{r:R2}(f:OpR X (compareOp op) r)(ha:PE X a ta)(hb:PE X b tb)(hm:behindInMarks op b=false):PE X (.Compare a [op] [b] pos) (tOp r ta tb):=by
  intro pins s σ H Q I h;exact wpAny_Compare1 (aK ha hb I h λv u c x y i g e d q=>f pins c σ i x y v u Q g e d q) hm
def aP (t:TE):TT:=λσ H Q=>t σ H λx a=>∃ k,x=.bl k/\Q k a
theorem zu {op:CmpOp}{r:R2}(o:OpR X (compareOp op) r)(ha:PE X a ta)(hb:PE X b tb)(hm:behindInMarks op b=false):PT X (.Compare a [op] [b] pos) (aP (tOp r ta tb)):=by
  intro pins s σ H Q I h
  refine wpAny_isTrue_Compare1 (thn (ha pins s σ H _ I h) λv f ⟨x,B,t,j,n⟩=>thn (hb pins f σ B _ t n) λu d ⟨y,A,q,i,m⟩ =>
    thn (o pins d σ A x y v u _ q j i m) λc C ⟨z,w,p,g,k,e,l⟩=>?_) hm
  subst e;cases g;exact ZP ⟨w,p,l⟩
def bC (r c:R2)(ta tb tc:TE):TE:=λσ H Q=>ta σ H λx f=>tb σ f λy e=>r x y e λz a=>∃ k,z=.bl k /\
  (if k=true then tc σ a λb d=>c y b d Q else Q (.bl false) a)
theorem iw {op f:CmpOp}{r j:R2}(J:OpR X (compareOp op) r)(g:OpR X (compareOp f) j)(ha:PE X a ta)(hb:PE X b tb)(hc:PE X c tc)(hm:lastMarks [op,f] [b,c]=false:=by with_unfolding_all rfl):PE X (.Compare a [op,f] [b,c] pos) (bC r j ta tb tc):=by
  intro pins s σ H Q I h
  refine Compare_chain (thn (ha pins s σ H _ I h) λv A ⟨x,P,M,D,G⟩=>chain_link (thn (hb pins A σ P _ M G) λu w ⟨y,O,L,i,F⟩ =>
    thn (J pins w σ O x y v u _ L D i F) λd t ⟨z,n,m,C,k,e,l⟩=>?_)) hm
  subst e;cases C;refine ZP ?_
  cases k with
  | false=>exact ite_ff ⟨.bl false,n,m,rfl,l⟩
  | true=>exact ite_tt (chain_last (thn (hc pins t σ n _ m l) λp q ⟨o,N,K,B,E⟩=>g pins q σ N y o u p Q K i B E))
theorem qp:(sizeLine:Nat)<2 ^ 63:=by rw[Y1];decide
theorem tK {x:V}{us:List Value}(r:Vals [x] us):∃ u,us=[u]/\RelV x u:=by
  cases r with
  | cons b a=>cases a;exact⟨_,rfl,b⟩
theorem j4 {x y:V}{us:List Value}(r:Vals [x,y] us):∃ u a,us=[u,a]/\RelV x u/\RelV y a:=by
  cases r with
  | cons e d =>
    cases d with
    | cons c b=>cases b;exact⟨_,_,rfl,e,c⟩
theorem fZ:CallR X (.builtin "abs") (λxs H Q=>∃ i,xs=[.int i]/\Q (.int (if i<0 then -i else i)) H):=by
  intro pins s σ H xs a Q I r h;obtain⟨i,rfl,q⟩:=h;obtain⟨u,rfl,t,rfl⟩:=tK r;exact call_abs_int λu b=>⟨.int (if i<0 then -i else i),H,I.tok _,⟨_,rfl⟩,q⟩
theorem rc (hc:X.calm=true):CallR X (.builtin "max") (λxs H Q=>∃ i j,xs=[.int i,.int j]/\Q (.int (if j > i then j else i)) H):=by
  intro pins s σ H xs c Q I r h;obtain⟨i,j,rfl,q⟩:=h;obtain⟨u,b,rfl,⟨t,rfl⟩,⟨e,rfl⟩⟩:=j4 r;refine max_two_ints (I.ok.hd hc) λf d k=>⟨_,H,I.kept k,?_,q⟩;by_cases a:j > i
  · rw[Jb a,Jb a];exact⟨_,rfl⟩
  · rw[Ja a,Ja a];exact⟨_,rfl⟩
theorem uX (hc:X.calm=true):CallR X (.builtin "min") (λxs H Q=>∃ i j,xs=[.int i,.int j]/\Q (.int (if j<i then j else i)) H):=by
  intro pins s σ H xs c Q I r h;obtain⟨i,j,rfl,q⟩:=h;obtain⟨u,b,rfl,⟨t,rfl⟩,⟨e,rfl⟩⟩:=j4 r;refine min_two_ints (I.ok.hd hc) λf d k=>⟨_,H,I.kept k,?_,q⟩;by_cases a:j<i
  · rw[Jb a,Jb a];exact⟨_,rfl⟩
  · rw[Ja a,Ja a];exact⟨_,rfl⟩
theorem uY:CallR X (.type "int") (λxs H Q=>(∃ i,xs=[.int i]/\Q (.int i) H)\/∃ k,xs=[.bl k]/\Q (.int (if k then 1 else 0)) H):=by
  intro pins s σ H xs b Q I r h;rcases h with ⟨i,rfl,q⟩|⟨k,rfl,q⟩
  · obtain⟨u,rfl,t,rfl⟩:=tK r
    exact call_int_int ⟨.int i,H,I,⟨_,rfl⟩,q⟩
  · obtain⟨u,rfl,a⟩:=tK r
    cases a;exact call_int_bool ⟨.int (if k then 1 else 0),H,I.tok _,⟨_,rfl⟩,q⟩
end
structure ObjM (h:Heap) (x dx C:Addr) (mA:Str->Option Value):Prop where
  obj:h.get? x=some (PySem.W.instObj C dx)
  ns:h.Ns1 dx mA
  ne:dx≠x
theorem jR {h:Heap}{dx:Addr}{mA:Str->Option Value}(n:h.Ns1 dx mA):∃ od,h.get? dx=some od/\∀ name,PySem.W.lookIn name od=some (mA name):=by
  obtain⟨o,c,l,f,j,i,_,g⟩:=n;refine⟨o,f,λname=>?_⟩;have e:=g name;unfold nsFind findBy at e;rw[<- Array.find?_toList]at e;unfold PySem.W.lookIn;rw[j];dsimp only;split
  · rename_i y q
    rw[q]at e;exact Yh some e
  · rename_i q
    rw[q]at e
    have a:c.toList.any (·.refKey)=false:=by
      rw[List.any_eq_false];intro y d;obtain⟨z,t,b⟩:=i y (Array.mem_toList_iff.mp d);simp[DictEntry.refKey,b]
    have k:¬ c.toList.any (·.refKey)=true:=by rw[a];exact Jp
    rw[Ja k];exact Yh some e
theorem ObjM.look {h:Heap}{x dx C:Addr}{mA:Str->Option Value}(I:ObjM h x dx C mA):∃ od,PySem.W.InstAt h x (PySem.W.instObj C dx) C (some od)/\∀ name,PySem.W.lookIn name od=some (mA name) :=
  let ⟨od,a,b⟩:=jR I.ns
  ⟨od,⟨I.obj,rfl,rfl,a⟩,b⟩
section
variable {prog:Program}{w:World}{A:Around}{E:Value->Shared->Prop}{s:Shared}{K:PySem.W.Frag}{x dx C f:Addr}{mA:Str->Option Value}{name:Str}{v:Value}
theorem cG {expr:Bool}{Q:Value->Shared->Prop}(X:K.In s.heap)(I:ObjM s.heap x dx C mA)(e:PySem.W.plainGet K C name=true)(d:PySem.W.hasDictIn K C=true)(ha:PySem.W.findIn K (.ref C) name=some none)(b:mA name=some v)(a:PySem.W.handedIn v=true)(h:Q v { s with toks:=s.toks+1 }) :
    wpAny (model prog w) A (getAttr (.ref x) name expr) Q E s:=by
  obtain⟨f,J,c⟩:=I.look;exact PySem.W.get_value X J (PySem.W.plainGet_of e).1 (PySem.W.findObj_own d ha rfl (by rw[c,b])) a h
theorem gi {pl:Sem Bool}{Q:Value × List Value->Shared->Prop}(X:K.In s.heap)(I:ObjM s.heap x dx C mA)(a:PySem.W.plainGet K C name=true)(g:PySem.W.findIn K (.ref C) name=some (some (.ref f)))(d:PySem.W.isFn K (.ref f)=true)(c:mA name=none)(h:Q (.ref f,[.ref x]) s) :
    wpAny (model prog w) A (getMethod (.ref x) name pl) Q E s:=by
  obtain⟨b,J,e⟩:=I.look;exact PySem.W.method_fn X J (PySem.W.plainGet_of a).1 (PySem.W.plainGet_of a).2 g (Wc.mp d) (by show (PySem.W.lookIn name b).map (·.isSome)=some false;rw[e,c];rfl) h
theorem eI {ns:List Str}{Q:Unit->Shared->Prop}(X:K.In s.heap) (I:ObjM s.heap x dx C mA)
    (hs:PySem.W.findIn K (.ref C) "__setattr__" = some (some (.builtin "object.__setattr__"))) (hp:PySem.W.plainOver K C=true) (l:PySem.W.takerIn K C name=some none) (m:PySem.W.hasDictIn K C=true)
    (k:PySem.Within mA ns) (hsz:ns.length<=sizeLine)
    (h:∀ h',ObjM h' x dx C (λy=>if y=name then some v else mA y)->Heap.SameBut dx s.heap h'->Q () { s with heap:=h',toks:=s.toks+2 }) :
    wpAny (model prog w) A (setAttr (.ref x) name v) Q E s:=by
  obtain⟨q,J,u⟩:=I.look;refine PySem.W.set_plain X J hs (PySem.W.osa_open (s:={ s with toks:=s.toks+1 }) (r:=none) X J hp l λb=>?_);obtain⟨cd,n,g⟩:=PySem.W.any_some m;have j:s.heap.get? x=some ⟨.ref C,some dx,.plain,#[]⟩:=I.obj;refine J6 (Jm (J6 (J6 (wpAny_loadPart j (J6 (PySem.W.Looks.here (s:={ s with toks:=s.toks+1 }) (PySem.W.looks_clsIn X n) ?_))))));rw[g];refine Jm (a:=some dx) (J6 (Jm (J6 ?_)));refine wpAny_nsSet1 (s:={ s with toks:=s.toks+1 }) I.ns λh' d c=>?_;obtain⟨t,o,p,e,f,i⟩:=d.count (PySem.Within.cons name v k);refine J6 (wpAny_lookBehind e (by rw[f];exact pastItsLine_dict (JM i (by rw[JE];simp_all))) ?_);exact Jm (h _ ⟨(c.2 _ (Ne.symm I.ne)).trans I.obj,d,I.ne⟩ c)
theorem gL {R:Result->Shared->Prop}{vs:List Value}{kw:List (Str × Value)}(X:K.In s.heap) (hm:PySem.W.makesIn K C=true)
    (hi:PySem.W.findIn K (.ref C) "__init__" = some (some (.ref f))) (a:PySem.W.typeIn K (.ref f)=some (.type "function"))
    (h:codeAny (model prog w) (A.under (.builtin "type.__call__" ⟨.ref C::vs,kw⟩)) (.call (.ref f) ⟨.ref (s.heap.objs.size+1)::vs,kw⟩) (PySem.W.InitBack (s.heap.objs.size+1) R)
      { s with heap:=(s.heap.push PySem.W.emptyDict).push (PySem.W.instObj C s.heap.objs.size) }) :
    codeAny (model prog w) A (.call (.ref C) ⟨vs,kw⟩) R s:=by
  obtain⟨b,g,d,t,os⟩:=s;exact PySem.W.make_core (PySem.W.makes_of X hm) (PySem.W.looks_findIn X hi) (λself=>PySem.W.bind_fn X self a) (.inl rfl) h
end
def zx (f:Str)(v:V):List (Str × V)->List (Str × V)
  | []=>[(f,v)]
  | (g,x)::r=>if g=f then (g,v)::r else (g,x)::zx f v r
theorem zX (f g:Str)(v:V):∀ fs:List (Str × V),(zx f v fs).lookup g=if g=f then some v else fs.lookup g
  | []=>by
    show List.lookup g [(f,v)]=_;by_cases h:g=f
    · have hb:(g == f)=true:=Wc.mpr h
      simp only[List.lookup,hb,Jb h]
    · have hb:(g == f)=false:=W7.mpr h
      simp only[List.lookup,hb,Ja h]
  | (k,x)::r=>by
    have ih:=zX f g v r;rw[show zx f v ((k,x)::r)=(if k=f then (k,v)::r else (k,x)::zx f v r) from rfl];by_cases a:k=f
    · rw[Jb a]
      by_cases h:g=k
      · have hb:(g == k)=true:=Wc.mpr h
        simp only[List.lookup,hb,Jb (h.trans a)]
      · have hb:(g == k)=false:=W7.mpr h
        simp only[List.lookup,hb,Ja (λe:g=f=>h (e.trans a.symm))]
    · rw[Ja a]
      by_cases h:g=k
      · have hb:(g == k)=true:=Wc.mpr h
        simp only[List.lookup,hb,Ja (λe:g=f=>a (h.symm.trans e))]
      · have hb:(g == k)=false:=W7.mpr h
        simp only[List.lookup,hb];exact ih
theorem uS (f:Str)(v:V):∀ fs:List (Str × V),f∈(zx f v fs).map (·.1)/\∀ g,g∈fs.map (·.1)->g∈(zx f v fs).map (·.1)
  | []=>⟨by simp[zx],λg h=>by simp at h⟩
  | (k,x)::r=>by
    obtain⟨i1,i2⟩:=uS f v r;rw[show zx f v ((k,x)::r)=(if k=f then (k,v)::r else (k,x)::zx f v r) from rfl];by_cases a:k=f
    · rw[Jb a]
      subst a;exact⟨by simp,λg h=>by simpa using h⟩
    · rw[Ja a]
      refine⟨?_,λg h=>?_⟩
      · rw[Y5]
        exact Jr _ i1
      · rw[Y5]at h ⊢
        rcases Jn.mp h with e|e
        · exact Jn.mpr (.inl e)
        · exact Jr _ (i2 g e)
theorem uh (f:Str)(v:V):∀ fs:List (Str × V),(zx f v fs).length<=fs.length+1
  | []=>by simp[zx]
  | (k,x)::r=>by
    have ih:=uh f v r;rw[show zx f v ((k,x)::r)=(if k=f then (k,v)::r else (k,x)::zx f v r) from rfl];by_cases a:k=f
    · rw[Jb a,JE,JE];simp_all
    · rw[Ja a,JE,JE];simp_all
theorem RelO.some_of {v:V}{o:Option Value}(r:RelO (some v) o):∃ u,o=some u/\RelV v u:=by
  cases o with
  | none=>exact(show False from r).elim
  | some u=>exact⟨u,rfl,r⟩
theorem RelO.none_of {o:Option Value}(r:RelO none o):o=none:=by
  cases o with
  | none=>rfl
  | some u=>exact(show False from r).elim
theorem jd {v:V}{u:Value}(r:RelV v u):PySem.W.handedIn u=true:=by
  cases v with
  | non=>cases (show u=Value.none from r);rfl
  | bl b=>cases (show u=Value.bool b from r);rfl
  | int i=>obtain⟨t,e⟩:=(show ∃ t,u=Value.int i t from r);cases e;rfl
  | str x=>obtain⟨t,e⟩:=(show ∃ t,u=Value.str x t from r);cases e;rfl
  | byt b=>obtain⟨t,e⟩:=(show ∃ t,u=Value.bytes b t from r);cases e;rfl
  | flt b=>obtain⟨t,e⟩:=(show ∃ t,u=Value.float b t from r);cases e;rfl
  | ref a=>cases (show u=Value.ref a from r);rfl
  | ty n=>cases (show u=Value.type n from r);rfl
section
variable {P:Program}{w:World}{H:Hp}{h:Heap}{a C dx:Addr}{fs:List (Str × V)}
theorem tG (hok:HOk P w H h)(e:H a=some (.ins C dx fs)):∃ mA,ObjM h a dx C mA/\(∀ f,RelO (fs.lookup f) (mA f))/\PySem.Within mA (fs.map (·.1))/\fs.length<=1000/\H dx=some (.own a):=by
  obtain⟨d,z,ne,ob,mA,n,r,q⟩:=(show ObjOk P w H h a (.ins C dx fs) from hok a _ e);exact⟨mA,⟨ob,n,ne⟩,r,q,z,d⟩
end
structure Cls (K:PySem.W.Frag) (C:Addr):Prop where
  pg:PySem.W.plainGet K C Str.empty=true
  hd:PySem.W.hasDictIn K C=true
  po:PySem.W.plainOver K C=true
  sa:PySem.W.findIn K (.ref C) "__setattr__" = some (some (.builtin "object.__setattr__"))
theorem Cls.get {K:PySem.W.Frag}{C:Addr}(c:Cls K C)(f:Str):PySem.W.plainGet K C f=true:=c.pg
def NoAttr (K:PySem.W.Frag)(C:Addr)(f:Str):Prop:=PySem.W.findIn K (.ref C) f=some none
theorem NoAttr.taker {K:PySem.W.Frag}{C:Addr}{f:Str}(n:NoAttr K C f):PySem.W.takerIn K C f=some none:=by
  unfold PySem.W.takerIn;rw[show PySem.W.findIn K (.ref C) f=some none from n];rfl
structure Meth (K:PySem.W.Frag) (C:Addr) (m:Str) (f:Addr):Prop where
  at_:PySem.W.findIn K (.ref C) m=some (some (.ref f))
  fn:PySem.W.isFn K (.ref f)=true
  kp:PySem.W.keepIn K (.ref f)=true
section
variable {X:Cx}{pins:List (Addr × Obj)}{σ:St}{H:Hp}{s:Shared}{a C dx:Addr}{fs:List (Str × V)}{f:Str}{v:V}{A:Around}{E:Value->Shared->Prop}
theorem mY {b:Bool}{Q:Value->Shared->Prop}(I:Inv X pins σ H s)(e:H a=some (.ins C dx fs))(c:Cls X.K C)(n:NoAttr X.K C f)(l:fs.lookup f=some v)(h:∀ u d,Inv X pins σ H d->RelV v u->Q u d):wpAny (model X.prog X.w) A (getAttr (.ref a) f b) Q E s:=by
  obtain⟨i,O,r,_,_,_⟩:=tG I.hok e;obtain⟨u,j,g⟩:=RelO.some_of (v:=v) (o:=i f) (by rw[<- l];exact r f);exact cG I.kIn O (c.get f) c.hd n j (jd g) (h u _ (I.tok _) g)
theorem sW {m:Str}{g:Addr}{pl:Sem Bool}{Q:Value × List Value->Shared->Prop}(I:Inv X pins σ H s)(e:H a=some (.ins C dx fs))(c:Cls X.K C)(k:Meth X.K C m g)(l:fs.lookup m=none)(h:Q (.ref g,[.ref a]) s):wpAny (model X.prog X.w) A (getMethod (.ref a) m pl) Q E s:=by
  obtain⟨b,O,r,_,_,_⟩:=tG I.hok e;have d:b m=none:=RelO.none_of (by rw[<- l];exact r m);exact gi I.kIn O (c.get m) k.at_ k.fn d h
theorem nn {y:V}{u:Value}{Q:Unit->Shared->Prop}(I:Inv X pins σ H s)(e:H a=some (.ins C dx fs))(c:Cls X.K C)(n:NoAttr X.K C f)(G:fs.length<1000)(p:RelV y u)(h:∀ j,Inv X pins σ (upd H a (.ins C dx (zx f y fs))) j->Q () j):wpAny (model X.prog X.w) A (setAttr (.ref a) f u) Q E s:=by
  obtain⟨k,O,r,i,_,l⟩:=tG I.hok e;have t:(fs.map (·.1)).length<=sizeLine:=by rw[Je,Y1];lia
  refine eI I.kIn O c.sa c.po n.taker c.hd i t λD d m=>h _ ?_;have w:∃ o,D.get? dx=some o:=let ⟨o,_,_,F,_⟩:=d.ns;⟨o,F⟩;refine I.write (x:=a) (e:=dx) (by rw[e];exact True.intro) (.inr l) (λb q B z=>(m.2 b B).trans z) w ?_;refine⟨by rw[zH O.ne];exact l,?_,O.ne,d.obj,_,d.ns,λg=>?_,λg v=>?_⟩
  · have:=uh f y fs;lia
  · show RelO ((zx f y fs).lookup g) (if g=f then some u else k g)
    rw[zX];by_cases q:g=f
    · rw[Jb q,Jb q];exact p
    · rw[Ja q,Ja q];exact r g
  · by_cases q:g=f
    · rw[q];exact(uS f y fs).1
    · refine(uS f y fs).2 g (i g λz=>v ?_)
      show (if g=f then some u else k g)=none;rw[Ja q];exact z
theorem Inv.made (I:Inv X pins σ H s):Inv X pins σ (upd (upd H s.heap.objs.size (.own (s.heap.objs.size+1))) (s.heap.objs.size+1) (.ins C s.heap.objs.size []))
    { s with heap:=(s.heap.push PySem.W.emptyDict).push (PySem.W.instObj C s.heap.objs.size) }:=by
  have c:(s.heap.push PySem.W.emptyDict).get? s.heap.objs.size=some PySem.W.emptyDict:=Jw s.heap rfl
  have e2:((s.heap.push PySem.W.emptyDict).push (PySem.W.instObj C s.heap.objs.size)).get? (s.heap.objs.size+1)=some (PySem.W.instObj C s.heap.objs.size):=by
    have:=Jw (s.heap.push PySem.W.emptyDict) (o:=PySem.W.instObj C s.heap.objs.size) rfl
    rwa [Zh]at this
  have g:(s.heap.push PySem.W.emptyDict).Ns s.heap.objs.size (λ_=>none):=⟨PySem.W.emptyDict,#[],_,c,rfl,(λe f=>absurd f (by simp)),λ_=>rfl⟩;have h:=I.laid (a:=s.heap.objs.size) (o:=.own (s.heap.objs.size+1)) (h':=s.heap.push PySem.W.emptyDict) (t':=s.toks) (λb u q=>J8 _ q) (Jf _) ⟨_,c⟩;refine h.laid (a:=s.heap.objs.size+1) (o:=.ins C s.heap.objs.size []) (t':=s.toks) (λb u q=>J8 _ q) (Nat.le_of_eq (Zh _ _)) ?_;have ne:s.heap.objs.size≠s.heap.objs.size+1:=JH (Nat.lt_succ_self _);refine⟨by rw[zH ne,zG],JX _,ne,e2,λ_=>none,(Heap.Ns1.of_empty g).at λo q=>J8 _ q,λ_=>True.intro,λy d=>absurd rfl d⟩
theorem cW {prog:Program}{w:World}{env:Env}{e:Expr}{f:Str}{pos:Pos}{s:Shared}{Q:Value->Shared->Prop}(hb:attributeBase e f env (eval e env)=eval e env)(h:wpAny (model prog w) A (eval e env) (λo a=>wpAny (model prog w) A (getAttr o f true) Q E a) E s):wpAny (model prog w) A (eval (.Attribute e f pos) env) Q E s :=
  Attribute_any_ h (by rw[arm_eval_Attribute,hb])
end
def zaG (K:PySem.W.Frag)(c:TE)(f:Str):TE:=λσ H Q=>c σ H λx b=>∃ a C d fs v,x=.ref a/\b a=some (.ins C d fs)/\Cls K C/\NoAttr K C f/\fs.lookup f=some v/\Q v b
def zaT (K:PySem.W.Frag)(e d:TE)(f:Str):TS:=λD σ H=>d σ H λy g=>e σ g λx c=>∃ a C b fs,x=.ref a/\c a=some (.ins C b fs)/\Cls K C/\NoAttr K C f/\fs.length<1000 /\
  D.nx σ (upd c a (.ins C b (zx f y fs)))
section
variable {X:Cx}{o e value:Expr}{f:Str}{pos pos':Pos}{ta tv:TE}
theorem yV (g:PE X e ta)(hb:attributeBase e f X.env (eval e X.env)=eval e X.env):PE X (.Attribute e f pos) (zaG X.K ta f):=by
  intro pins s σ H Q I h;refine cW hb (thn (g pins s σ H _ I h) λu r ⟨x,m,k,b,a,C,t,fs,v,ex,i,c,n,l,q⟩=>?_);subst ex;obtain rfl:u=Value.ref a:=b;exact mY k i c n l λo p j d=>⟨v,m,j,d,q⟩
theorem sC (ha:PE X o ta)(j:PE X value tv)(hs:swapsWith value (some (.Attribute o f pos')) pos.line X.env=pure false):PS X (.Assign [.Attribute o f pos'] value pos) (zaT X.K ta tv f):=by
  intro pins s σ H D I h;refine plainObj_wpAny_Assign_Attribute (thn (j pins s σ H _ I h) λu b ⟨y,t,r,d,q⟩=>thn (ha pins b σ t _ r q) λi w ⟨x,A,p,e,a,C,z,fs,ex,k,c,n,l,g⟩=>?_) hs;subst ex;obtain rfl:i=Value.ref a:=e;exact nn p k c n l d λv m=>⟨σ,_,m,g⟩
end
section
variable {X:Cx}{pins:List (Addr × Obj)}{σ:St}{H:Hp}{s:Shared}{A:Around}{E:Value->Shared->Prop}{Q:Value->Shared->Prop}{c:Value}{b:Bool}
inductive TyOf (K:PySem.W.Frag) (H:Hp):V->Value->Prop where
  | non:TyOf K H .non (.type "NoneType")
  | bl (x:Bool):TyOf K H (.bl x) (.type "bool")
  | int (i:Int):TyOf K H (.int i) (.type "int")
  | str (x:Str):TyOf K H (.str x) (.type "str")
  | flt (x:UInt64):TyOf K H (.flt x) (.type "float")
  | lst {a:Addr}{xs:List V}(e:H a=some (.lst xs)):TyOf K H (.ref a) (.type "list")
  | frz {a:Addr}{o:Obj}{xs:List V}(e:H a=some (.frz o (.lst xs))):TyOf K H (.ref a) (.type "list")
  | tup {a:Addr}{xs:List V}(e:H a=some (.tup xs)):TyOf K H (.ref a) (.type "tuple")
  | dK {a:Addr}{kvs:List (Key × V)}(e:H a=some (.dK kvs)):TyOf K H (.ref a) (.type "dict")
  | dT {a:Addr}{kvs:List (List Key × V)}(e:H a=some (.dT kvs)):TyOf K H (.ref a) (.type "dict")
  | ins {a C dx:Addr}{fs:List (Str × V)}(e:H a=some (.ins C dx fs)) (cl:Cls K C) (ha:PySem.W.findIn K (.ref C) "__class__" = some (some (.builtin "object.__class__")))
      (hn:PySem.W.specialIn K (.builtin "object.__class__") "__get__" = some (some (.builtin "getset_descriptor.__get__"))) (htk:PySem.W.takesIn K (.builtin "object.__class__")=some true)
      (hm:PySem.W.mroIn K C (.type "object")=some true):TyOf K H (.ref a) (.ref C)
theorem ja {x:V}{u t:Value}(I:Inv X pins σ H s)(d:RelV x u)(ty:TyOf X.K H x t)(e:PySem.W.kitOne X.K t c=some b)(h:∀ r,Q (.bool b) { s with toks:=r }) :
    wpAny (model X.prog X.w) A (call (.builtin "isinstance") [u,c]) Q E s:=by
  cases ty with
  | non=>cases (show u=Value.none from d);exact YG PySem.W.kitx_none I.kIn True.intro e (λz=>nomatch z) h
  | bl y=>cases (show u=Value.bool y from d);exact YG PySem.W.kitx_bool I.kIn True.intro e (λz=>nomatch z) h
  | int i=>obtain⟨t,q⟩:=(show ∃ t,u=Value.int i t from d);cases q;exact YG PySem.W.kitx_int I.kIn True.intro e (λz=>nomatch z) h
  | str y=>obtain⟨t,q⟩:=(show ∃ t,u=Value.str y t from d);cases q;exact YG PySem.W.kitx_str I.kIn True.intro e (λz=>nomatch z) h
  | flt y=>obtain⟨t,q⟩:=(show ∃ t,u=Value.float y t from d);cases q;exact YG PySem.W.kitx_float I.kIn True.intro e (λz=>nomatch z) h
  | @lst a k f =>
    cases (show u=Value.ref a from d);obtain⟨_,_,n,_,g⟩:=(show ObjOk X.prog X.w H s.heap a (.lst k) from I.hok a _ f)
    exact YG PySem.W.kitx_list I.kIn ⟨_,g,rfl⟩ e (λz=>nomatch z) h
  | @frz a ob k f =>
    cases (show u=Value.ref a from d);obtain⟨_,_,_,n,_,g⟩:=(show ObjOk X.prog X.w H s.heap a (.frz ob (.lst k)) from I.hok a _ f)
    exact YG PySem.W.kitx_list I.kIn ⟨_,g,rfl⟩ e (λz=>nomatch z) h
  | @tup a k f =>
    cases (show u=Value.ref a from d);obtain⟨_,_,_,v⟩:=(show ObjOk X.prog X.w H s.heap a (.tup k) from I.hok a _ f);have p:=v.tup;obtain⟨o,g,l,_⟩:=p
    exact YG PySem.W.kitx_tuple I.kIn ⟨o,g,l⟩ e (λz=>nomatch z) h
  | @dK a j f =>
    cases (show u=Value.ref a from d);obtain⟨_,_,K,_,p⟩:=(show ObjOk X.prog X.w H s.heap a (.dK j) from I.hok a _ f);obtain⟨o,F,G,g,l,_⟩:=p
    exact YG PySem.W.kitx_dict I.kIn ⟨o,g,l.1⟩ e (λz=>nomatch z) h
  | @dT a j f =>
    cases (show u=Value.ref a from d);obtain⟨_,_,k,_,o,F,G,g,l,_⟩:=(show ObjOk X.prog X.w H s.heap a (.dT j) from I.hok a _ f)
    exact YG PySem.W.kitx_dict I.kIn ⟨o,g,l.1⟩ e (λz=>nomatch z) h
  | @ins a C N fs f cl D w m B =>
    cases (show u=Value.ref a from d);obtain⟨M,O,_⟩:=tG I.hok f;obtain⟨L,J,_⟩:=O.look;exact YG (PySem.W.kitx_own (cl.get _) cl.hd D w m B) I.kIn J e (λz=>nomatch z) h
end
structure Room (k:Nat) (A:Around):Prop where
  hd:A.handled=none
  dp:A.depth+3*k+5<recursionLimit
  un:A.units+16*k+200<cLine
  gd:A.guards=some []
theorem Room.mono {j k:Nat}{A:Around}(r:Room k A)(h:j<=k):Room j A:=⟨r.hd,by have:=r.dp;grind,by have:=r.un;grind,r.gd⟩
theorem Room.deeper {k:Nat}{A:Around}(r:Room (k+1) A)(env:Env):Room k (A.deeper env) :=
  ⟨r.hd,by have:=r.dp;show A.depth+1+3*k+5<_;lia,by have:=r.un;show A.units+3+16*k+200<_;lia,r.gd⟩
theorem mU {A:Around}{C:Addr}{us:List Value}{kw:List (Str × Value)}:(A.under (.builtin "type.__call__" ⟨.ref C::us,kw⟩)).depth=A.depth+1:=by
  first|rfl|simp[Around.under,Code.weight,Code.isCreation,Code.isGuard,Code.isCaller,Code.frames,Code.isFrame,guardIds]
theorem mT {A:Around}{C:Addr}{us:List Value}{kw:List (Str × Value)}:(A.under (.builtin "type.__call__" ⟨.ref C::us,kw⟩)).units=A.units+1:=by
  first|rfl|simp[Around.under,Code.cUnits,Code.frames,Code.isFrame]
theorem Room.make {k:Nat}{A:Around}(r:Room (k+1) A)(C:Addr)(us:List Value)(kw:List (Str × Value)):Room k (A.under (.builtin "type.__call__" ⟨.ref C::us,kw⟩)) :=
  ⟨r.hd,by have:=r.dp;rw[mU];lia,by have:=r.un;rw[mT];lia,(show _ from by first|exact r.gd|(simpa [Around.under,Code.isGuard,Code.guardAt,guardIds] using r.gd))⟩
theorem Room.depth {k:Nat}{A:Around}(r:Room k A):A.depth<recursionLimit:=by have:=r.dp;grind
theorem Room.units {k:Nat}{A:Around}(r:Room k A):A.units+64<cLine:=by have:=r.un;grind
theorem Room.units0 {k:Nat}{A:Around}(r:Room k A):A.units<cLine:=by have:=r.un;grind
def bA:TA:=λ_ H Q=>Q [] H
def cc (c:TE)(b:TA):TA:=λσ H Q=>c σ H λx e=>b σ e λa d=>Q (x::a) d
section
variable {X:Cx}{e:Expr}{es:List Expr}{te:TE}{t:TA}{pos:Pos}
theorem zB:PA X [] bA:=λ_ _ _ _ H Q I h=>Wj ⟨[],H,I,.nil,h⟩
theorem zA (ha:PE X e te)(i:PA X es t)(hs:starEach (e::es) X.env=(false,eval e X.env)::starEach es X.env:=by rfl):PA X (e::es) (cc te t):=by
  intro pos pins s σ H Q I h;rw[hs];show wpAny _ _ (spliced ((false,eval e X.env)::backTo pos (starEach es X.env))) _ _ s;refine Wd (thn (ha pins s σ H _ I h) λu b ⟨x,m,k,d,g⟩=>?_);exact thn (i pos pins b σ m _ k g) λn o ⟨a,l,j,c,f⟩=>⟨x::a,l,j,.cons d c,f⟩
def zaz (t:TA):TE:=λσ H Q=>t σ H λa b=>a.length<=sizeLine/\∀ p,b p=none->Q (.ref p) (upd b p (.tup a))
def zaE (t:TA):TE:=λσ H Q=>t σ H λa b=>a.length<=sizeLine/\∀ p,b p=none->Q (.ref p) (upd b p (.lst a))
theorem yM {x1}(h:PA X es t):PE X (.Tuple es x1 pos) (zaz t):=by
  intro pins s σ H Q I i;refine wpAny_Tuple_spliced (thn (h pos pins s σ H _ I i) λg a ⟨f,d,c,r,z,q⟩=>⟨by rw[<- r.length];exact z,?_⟩);have j:d a.heap.objs.size=none:=c.hok.fresh (Jf _);refine⟨.ref a.heap.objs.size,upd d a.heap.objs.size (.tup f),c.laid (t':=a.toks) (λb u e=>J8 _ e) (Jf _) ?_,rfl,q _ j⟩;exact⟨z,g,r,TupX.new _ _⟩
theorem yS (h:PA X es t):PE X (.List es pos) (zaE t):=by
  intro pins s σ H Q I i;refine wpAny_List_spliced (thn (h pos pins s σ H _ I i) λg a ⟨f,d,c,r,z,q⟩=>⟨by rw[<- r.length];exact z,?_⟩);have j:d a.heap.objs.size=none:=c.hok.fresh (Jf _);refine⟨.ref a.heap.objs.size,upd d a.heap.objs.size (.lst f),c.laid (t':=a.toks) (λb u e=>J8 _ e) (Jf _) ?_,rfl,q _ j⟩;exact⟨z,g,0,r,Jw _ rfl⟩
end
abbrev Sp:=List V->Hp->VK->XK->Prop
abbrev CXT:=List Env->Hp->Shared->XK->Value->Shared->Prop
structure Env0 (P:Program) (w:World) (K:PySem.W.Frag) (mg:Str->Option Value) (base:Heap) (A:Around) (outer:List Env) (s:Shared) (H:Hp):Prop where
  frames:A.frames=some outer
  mod:Mod K mg base
  bs:∀ b o,base.get? b=some o->s.heap.get? b=some o/\H b=none
  bsz:base.objs.size<=s.heap.objs.size
  funs:s.heap.FunFrames base outer
  frf:∀ b∈frs outer,H b=none
  hok:HOk P w H s.heap
  bare:AllBare s.gens
def CE (outer:List Env)(P:Program)(w:World)(H:Hp)(s:Shared)(Q:VK)(u:Value)(a:Shared):Prop :=
  ∃ v b,a.os=s.os/\AllBare a.gens/\Un (frs outer) [] H b s.heap a.heap/\HOk P w b a.heap/\RelV v u/\Q v b
def CR (CX:CXT)(outer:List Env)(P:Program)(w:World)(H:Hp)(s:Shared)(Q:VK)(E:XK)(r:Result)(a:Shared):Prop :=
  match r with
  | .ok (.ret u)=>CE outer P w H s Q u a
  | .ok _=>False
  | .error e=>CX outer H s E e a
structure FnOk (P:Program) (w:World) (K:PySem.W.Frag) (mg:Str->Option Value) (base:Heap) (CX:CXT) (k:Nat) (f:Addr) (fd:FuncData) (ps:List Str) (sp:Sp):Prop where
  len:∀ vs H Q E,sp vs H Q E->vs.length=ps.length
  run:∀ (A:Around) (outer:List Env) (s:Shared) (H:Hp) (args:Args) (us:List Value) (vs:List V) (Q:VK) (E:XK),Room k A->Env0 P w K mg base A outer s H->BindsTo s fd args (ps.zip us)->Vals vs us->sp vs H Q E ->
    codeAny (model P w) A (.call (.ref f) args) (CR CX outer P w H s Q E) s
theorem FnOk.mono {P:Program}{w:World}{K:PySem.W.Frag}{mg:Str->Option Value}{base:Heap}{CX:CXT}{j k:Nat}{f:Addr}{fd:FuncData}{ps:List Str}{sp:Sp}(F:FnOk P w K mg base CX j f fd ps sp)(h:j<=k) :
    FnOk P w K mg base CX k f fd ps sp:=⟨F.len,λA outer s H args b a Q E c=>F.run A outer s H args b a Q E (c.mono h)⟩
theorem FnOk.imp {P:Program}{w:World}{K:PySem.W.Frag}{mg:Str->Option Value}{base:Heap}{CX:CXT}{k:Nat}{f:Addr}{fd:FuncData}{ps:List Str}{sp a:Sp}(F:FnOk P w K mg base CX k f fd ps sp)(h:∀ vs H Q E,a vs H Q E->sp vs H Q E):FnOk P w K mg base CX k f fd ps a :=
  ⟨λvs H Q E q=>F.len vs H Q E (h _ _ _ _ q),λA outer s H args b vs Q E e g i c d=>F.run A outer s H args b vs Q E e g i c (h _ _ _ _ d)⟩
theorem Env0.make {P:Program}{w:World}{K:PySem.W.Frag}{mg:Str->Option Value}{base:Heap}{A:Around}{outer:List Env}{s:Shared}{H:Hp}(e:Env0 P w K mg base A outer s H)(C:Addr)(us:List Value)(kw:List (Str × Value)) :
    Env0 P w K mg base (A.under (.builtin "type.__call__" ⟨.ref C::us,kw⟩)) outer s H:=⟨by first|exact e.frames|(simpa [Around.under,Code.envs,Code.isFrame,pushEnvs] using e.frames),e.mod,e.bs,e.bsz,e.funs,e.frf,e.hok,e.bare⟩
section
variable {X:Cx}{pins:List (Addr × Obj)}{σ:St}{H:Hp}{s s':Shared}
theorem Inv.env0 (I:Inv X pins σ H s):Env0 X.prog X.w X.K X.mg X.base X.A X.stack s H :=
  ⟨I.ok.frames,I.ok.mod,I.bs,JM I.ok.bsz I.sz,I.stack,I.stkFree,I.hok,I.bare⟩
theorem Inv.after {Q:VK}{u:Value}(I:Inv X pins σ H s)(h:CE X.stack X.prog X.w H s Q u s'):EP X pins σ Q u s':=by
  obtain⟨v,f,os,bare,un,c,r,q⟩:=h;obtain⟨e,g,d,t,a⟩:=s';obtain rfl:a=s.os:=os;exact⟨v,f,I.call (h':=e) (g':=g) (d':=d) (t':=t) (ch:=[]) un c bare (λb z=>absurd z (by simp)),r,q⟩
end
def aV (sp:Sp)(a:List V)(E:XK)(t:TA):TE:=λσ H Q=>t σ H λb c=>sp (b++a) c Q E
def cZ (C:Addr)(m:Str)(sp:Sp)(b:List V)(E:XK)(e:TE)(t:TA):TE:=λσ H Q=>e σ H λx c=>∃ a f fs,x=.ref a/\c a=some (.ins C f fs)/\fs.lookup m=none /\
  t σ c λd g=>sp (x::(d++b)) g Q E
def aS (C:Addr)(sp:Sp)(c:List V)(E:XK)(t:TA):TE:=λσ H Q=>t σ H λd b=>∀ x a,b x=none->b a=none->a≠x ->
  sp (.ref x::(d++c)) (upd (upd b a (.own x)) x (.ins C a [])) (λv e=>v=.non/\Q (.ref x) e) E
def Binds (K:PySem.W.Frag)(fd:FuncData)(ps:List Str)(ds:List Value):Prop :=
  ∀ (s:Shared) (a:List Value),K.In s.heap->(a++ds).length=ps.length->BindsTo s fd ⟨a,[]⟩ (ps.zip (a++ds))
theorem Binds.all {K:PySem.W.Frag}{fd:FuncData}{ps:List Str}(h:∀ us:List Value,us.length=ps.length->bindArgs fd ⟨us,[]⟩=pure (ps.zip us)):Binds K fd ps []:=λs us _ a=>by
  rw[Yy]at a ⊢;exact .of_eq (h us a)
def Passes (CX:CXT)(X:Cx)(E:XK):Prop:=∀ (pins:List (Addr × Obj)) (σ:St) (H:Hp) (s:Shared) (e:Value) (a:Shared),Inv X pins σ H s->CX X.stack H s E e a->X.xe e a
section
variable {X:Cx}{CX:CXT}{k:Nat}{f C:Addr}{fd:FuncData}{ps:List Str}{sp:Sp}{dvs:List V}{ds:List Value}{E:XK}{x m:Str}{p pos apos:Pos}{e o:Expr}{es:List Expr}{ta:TE}{t:TA}
theorem tz {pins:List (Addr × Obj)}{σ:St}{H:Hp}{s:Shared}{Q:VK}{us:List Value}{vs:List V}(F:FnOk X.prog X.w X.K X.mg X.base CX k f fd ps sp)(g:Room k X.A)(hb:Binds X.K fd ps ds)(hd:Vals dvs ds)(d:Passes CX X E)(I:Inv X pins σ H s)(r:Vals vs us)(h:sp (vs++dvs) H Q E):wpAny (model X.prog X.w) X.A (call (.ref f) us) (EP X pins σ Q) X.xe s:=by
  have b:Vals (vs++dvs) (us++ds):=r.append hd;have i:(us++ds).length=ps.length:=by rw[<- b.length];exact F.len _ _ _ _ h
  refine wpAny_call (codeAny_mono (F.run X.A X.stack s H ⟨us,[]⟩ (us++ds) (vs++dvs) Q E g I.env0 (hb s us I.kIn i) b h) λr c a=>?_)
  cases r with
  | error e=>exact d pins σ H s e c I a
  | ok j =>
    cases j with
    | ret u=>exact I.after a
    | next=>exact False.elim a
    | brk=>exact False.elim a
    | cont=>exact False.elim a
theorem zQ (F:FnOk X.prog X.w X.K X.mg X.base CX k f fd ps sp) (g:Room k X.A) (j:Gl X x) (hm:X.mg x=some (.ref f)) (i:PySem.W.keepIn X.K (.ref f)=true) (hb:Binds X.K fd ps ds) (hd:Vals dvs ds) (d:Passes CX X E)
    (ha:PA X (e::es) t) (b:(x == ("__debug__":Str))=false:=by decide) (l:starEach (e::es) X.env=(false,eval e X.env)::starEach es X.env:=by rfl) (a:(backTo pos (starEach es X.env)).any (·.1)=false:=by rfl) :
    PE X (.Call (.Name x p) (e::es) [] pos) (aV sp dvs E t):=by
  intro pins s σ H Q I h;refine YT (qr I j hm ?_ b);refine We (h₀:=X.base) I.ok.mod.kin i (thn (ha pos pins s σ H _ I h) λn o ⟨m,u,c,r,q⟩=>⟨c.kIn,?_⟩) l a;exact tz F g hb hd d c r q
theorem qd {pl:Sem Bool}(A:PE X o ta)(c:Cls X.K C)(hm:Meth X.K C m f)(F:FnOk X.prog X.w X.K X.mg X.base CX k f fd ps sp)(z:Room k X.A)(hb:Binds X.K fd ps ds)(hd:Vals dvs ds)(w:Passes CX X E)(ha:PA X (e::es) t)(b:starEach (e::es) X.env=(false,eval e X.env)::starEach es X.env:=by rfl)(d:(backTo pos (starEach es X.env)).any (·.1)=false:=by rfl)(y:eval (.Call (.Attribute o m apos) (e::es) [] pos) X.env=(do
      let g <- eval o X.env
      standAt apos.atName
      let (f,first) <- holding [g] (getMethod g m pl)
      callWith pos f first (backTo pos (starEach (e::es) X.env)) (backToKw pos (keywordEach [] X.env))):=by rfl) :
    PE X (.Call (.Attribute o m apos) (e::es) [] pos) (cZ C m sp dvs E ta t):=by
  intro pins s σ H Q I h;refine PySem.W.methodCall_KW (pl:=pl) (thn (A pins s σ H _ I h) λu n ⟨x,D,j,p,a,J,fs,ex,B,l,q⟩=>?_) y;subst ex;obtain rfl:u=Value.ref a:=p;refine sW j B c hm l ?_;refine We (first:=[.ref a]) (h₀:=X.base) I.ok.mod.kin hm.kp (thn (ha pos pins n σ D _ j q) λus G ⟨vs,K,i,r,v⟩=>⟨i.kIn,?_⟩) b d;exact tz (us:=.ref a::us) (vs:=.ref a::vs) F z hb hd w i (.cons rfl r) v
theorem wo {pl:Sem Bool}(n:PE X o ta)(c:Cls X.K C)(hm:Meth X.K C m f)(F:FnOk X.prog X.w X.K X.mg X.base CX k f fd ps sp)(j:Room k X.A)(hb:Binds X.K fd ps ds)(hd:Vals dvs ds)(g:Passes CX X E)(i:eval (.Call (.Attribute o m apos) [] [] pos) X.env=(do
      let d <- eval o X.env
      standAt apos.atName
      let (f,first) <- holding [d] (getMethod d m pl)
      callWith pos f first (backTo pos (starEach [] X.env)) (backToKw pos (keywordEach [] X.env))):=by rfl) :
    PE X (.Call (.Attribute o m apos) [] [] pos) (cZ C m sp dvs E ta bA):=by
  intro pins s σ H Q I h;refine PySem.W.methodCall_KW (pl:=pl) (thn (n pins s σ H _ I h) λu r ⟨x,v,b,e,a,t,fs,ex,p,l,q⟩=>?_) i;subst ex;obtain rfl:u=Value.ref a:=e;refine sW b p c hm l ?_;exact PySem.W.callWith_K0 (first:=[.ref a]) b.kIn hm.kp (tz (us:=[.ref a]) (vs:=[.ref a]) F j hb hd g b (.cons rfl .nil) q)
structure Mk (K:PySem.W.Frag) (C f:Addr):Prop where
  makes:PySem.W.makesIn K C=true
  init:PySem.W.findIn K (.ref C) "__init__" = some (some (.ref f))
  fn:PySem.W.isFn K (.ref f)=true
  kp:PySem.W.keepIn K (.ref C)=true
theorem iW {pins:List (Addr × Obj)}{σ:St}{H:Hp}{s:Shared}{Q:VK}{us:List Value}{vs:List V}(M:Mk X.K C f)(F:FnOk X.prog X.w X.K X.mg X.base CX k f fd ps sp)(m:Room (k+1) X.A)(hb:Binds X.K fd ps ds)(hd:Vals dvs ds)(l:Passes CX X E)(I:Inv X pins σ H s)(r:Vals vs us)(h:∀ x dx,H x=none->H dx=none->dx≠x->sp (.ref x::(vs++dvs)) (upd (upd H dx (.own x)) x (.ins C dx [])) (λv q=>v=.non/\Q (.ref x) q) E) :
    wpAny (model X.prog X.w) X.A (call (.ref C) us) (EP X pins σ Q) X.xe s:=by
  have d:=h (s.heap.objs.size+1) s.heap.objs.size (I.hok.fresh (Nat.le_succ _)) (I.hok.fresh (Jf _)) (JH (Nat.lt_succ_self _));have b:=Inv.made (C:=C) I;have c:Vals (V.ref (s.heap.objs.size+1)::(vs++dvs)) (Value.ref (s.heap.objs.size+1)::(us++ds)):=.cons rfl (r.append hd)
  have n:(Value.ref (s.heap.objs.size+1)::us++ds).length=ps.length:=by
    have e:=c.length;rw[F.len _ _ _ _ d]at e;exact e.symm
  refine wpAny_call (gL (f:=f) I.kIn M.makes M.init (Wc.mp M.fn) (codeAny_mono (F.run _ X.stack _ _ ⟨Value.ref (s.heap.objs.size+1)::us,[]⟩ (Value.ref (s.heap.objs.size+1)::(us++ds)) _ _ E (m.make C us [])
    (b.env0.make C us []) (hb _ (Value.ref (s.heap.objs.size+1)::us) b.kIn n) c d) λr g a=>?_))
  cases r with
  | error e=>exact l pins σ _ _ e g b a
  | ok o =>
    cases o with
    | ret u =>
      obtain⟨v,t,p,i,ev,j⟩:=b.after a;subst ev
      exact⟨i,⟨V.ref (s.heap.objs.size+1),t,p,rfl,j⟩⟩
    | next=>exact False.elim a
    | brk=>exact False.elim a
    | cont=>exact False.elim a
theorem eW (M:Mk X.K C f) (F:FnOk X.prog X.w X.K X.mg X.base CX k f fd ps sp) (g:Room (k+1) X.A) (i:Gl X x) (hm:X.mg x=some (.ref C)) (hb:Binds X.K fd ps ds) (hd:Vals dvs ds) (d:Passes CX X E)
    (ha:PA X (e::es) t) (b:(x == ("__debug__":Str))=false:=by decide) (j:starEach (e::es) X.env=(false,eval e X.env)::starEach es X.env:=by rfl) (a:(backTo pos (starEach es X.env)).any (·.1)=false:=by rfl) :
    PE X (.Call (.Name x p) (e::es) [] pos) (aS C sp dvs E t):=by
  intro pins s σ H Q I h;refine YT (qr I i hm ?_ b);refine We (h₀:=X.base) I.ok.mod.kin M.kp (thn (ha pos pins s σ H _ I h) λm n ⟨l,o,c,r,q⟩=>⟨c.kIn,?_⟩) j a;exact iW M F g hb hd d c r q
end
structure FnScope (N P:List Str) (sc:Scope):Prop where
  kind:sc.kind=.function
  co:sc.isCoroutine=false
  gen:sc.isGenerator=false
  nd:N.Nodup
  pre:N.take P.length=P
  par:∀ x∈P,sc.names.lookup x=some .local \/ sc.names.lookup x=some .cell
  nofree:∀ y∈sc.names,y.2≠.free
theorem rd {kindOf:Str->Option NameKind}{x:Str}:∀ {binds:List (Str × Value)}{m:Str->Option Value},(∀ v,(x,v)∉binds)->bindL kindOf binds m x=m x
  | [],_,_=>rfl
  | (n,v)::r,m,h=>by
    unfold bindL;rw[rd λw a=>h w (Jr _ a)];split
    · have:x≠n:=by rintro rfl;exact h v Ju
      simp[this]
    · rfl
theorem rh {kindOf:Str->Option NameKind}{x:Str}:∀ {binds:List (Str × Value)}{m:Str->Option Value},(∀ v,(x,v)∉binds)->bindC kindOf binds m x=m x
  | [],_,_=>rfl
  | (n,v)::r,m,h=>by
    unfold bindC;rw[rh λw a=>h w (Jr _ a)];split
    · rfl
    · have:x≠n:=by rintro rfl;exact h v Ju
      simp[this]
theorem rg {kindOf:Str->Option NameKind}{x:Str}{v:Value}:∀ {P:List Str}{vs:List Value}{i:Nat}{m:Str->Option Value},P.Nodup->P[i]?=some x->vs[i]?=some v->kindOf x=some .local ->
    bindL kindOf (P.zip vs) m x=some v
  | [],_,_,_,_,h,_,_=>by simp at h
  | _::_,[],_,_,_,_,h,_=>by simp at h
  | p::P,w::vs,0,m,nd,b,a,c=>by
    simp at b a;subst b;subst a;show bindL kindOf ((p,w)::P.zip vs) m p=_;unfold bindL;rw[rd λv d=>(JY.mp nd).1 (List.of_mem_zip d).1,Jb c]
    simp
  | p::P,w::vs,i+1,m,nd,b,a,c=>by
    show bindL kindOf ((p,w)::P.zip vs) m x=_;unfold bindL;exact rg (i:=i) (JY.mp nd).2 (by simpa using b) (by simpa using a) c
theorem rm {kindOf:Str->Option NameKind}{x:Str}{v:Value}:∀ {P:List Str}{vs:List Value}{i:Nat}{m:Str->Option Value},P.Nodup->P[i]?=some x->vs[i]?=some v->kindOf x≠some .local ->
    bindC kindOf (P.zip vs) m x=some v
  | [],_,_,_,_,h,_,_=>by simp at h
  | _::_,[],_,_,_,_,h,_=>by simp at h
  | p::P,w::vs,0,m,nd,b,a,c=>by
    simp at b a;subst b;subst a;show bindC kindOf ((p,w)::P.zip vs) m p=_;unfold bindC;rw[rh λv d=>(JY.mp nd).1 (List.of_mem_zip d).1,Ja c]
    simp
  | p::P,w::vs,i+1,m,nd,b,a,c=>by
    show bindC kindOf ((p,w)::P.zip vs) m x=_;unfold bindC;exact rm (i:=i) (JY.mp nd).2 (by simpa using b) (by simpa using a) c
def start (N:List Str)(vs:List V):St:=vs.map some++List.replicate (N.length-vs.length) none
def mn (CX:CXT)(P:Program)(w:World)(K:PySem.W.Frag)(mg:Str->Option Value)(base:Heap)(N:List Str)(qual:Str)(scope:Scope)(f:Addr)(cd:Value)(A:Around)(outer:List Env)(s:Shared)(H:Hp)(E:XK):Cx where
  prog:=P
  w:=w
  K:=K
  mg:=mg
  base:=base
  A:=A.deeper (envOfC qual scope s.heap.objs.size f cd)
  N:=N
  s₀:=s
  H₀:=H
  env:=envOfC qual scope s.heap.objs.size f cd
  outer:=outer
  stack:=envOfC qual scope s.heap.objs.size f cd::outer
  ex:=[]
  calm:=true
  fn:=λ_=>true
  pn:=[]
  xe:=λe b=>wpAny (model P w) (A.deeper (envOfC qual scope s.heap.objs.size f cd)) (leaving (envOfC qual scope s.heap.objs.size f cd) e) (λ_ a=>CX outer H s E e a) (λc a=>CX outer H s E c a) b
theorem o8 {sc:Scope}{n:Nat}{x:Str}(h:sc.names.lookup x=some .cell):∃ c,(cellsFrom n sc.names []).lookup x=some c:=by
  have q:=PySem.W.cellsFrom_some sc.names n [] (.inl h);exact Option.isSome_iff_exists.mp q
theorem jb {CX:CXT}{P:Program}{w:World}{K:PySem.W.Frag}{mg:Str->Option Value}{base:Heap}{N ps:List Str}{qual:Str}{scope:Scope}{f:Addr}{cd:Value}{A:Around}{outer:List Env}{s s1:Shared}{H:Hp}{E:XK}{us:List Value}{vs:List V}(S:FnScope N ps scope)(hd:A.handled=none)(g:Env0 P w K mg base A outer s H)(L:vs.length=ps.length)(r:Vals vs us)(x:InCallC s s.heap.objs.size (bindL (envOfC qual scope s.heap.objs.size f cd).kindOf (ps.zip us) λ_=>none) (cellsFrom (s.heap.objs.size+1) scope.names []) (bindC (envOfC qual scope s.heap.objs.size f cd).kindOf (ps.zip us) λ_=>none) s1) :
    Inv (mn CX P w K mg base N qual scope f cd A outer s H E) [] (start N vs) H s1:=by
  have I:ps.length<=N.length:=by have:=Yh List.length S.pre;rw[JN]at this;lia
  obtain⟨B,J,rfl,D⟩:=x.done;have l:∀ b:Addr,b∉(mn CX P w K mg base N qual scope f cd A outer s H E).ex:=λb z=>absurd (show b∈([]:List Addr) from z) (by simp)
  refine⟨⟨g.mod,S.kind,rfl,rfl,Jf _,λy z c B d=>?_,λy j=>?_,λy c _ h=>?_,λ_=>hd,Around.frames_deeper g.frames,.inr ⟨rfl,rfl⟩,λb z=>absurd z (l b),g.bs,g.bsz,λb _ _=>l b,λb z=>absurd z (l b),g.funs,g.frf⟩,
    rfl,g.bare,Un.kept D,⟨_,x.toInCall.ns,λi y v B d M=>?_⟩,λy c h=>⟨_,x.cell y c h⟩,g.hok.fresh (Jf _),λy c h=>?_,λp m=>absurd (show p∈([]:List (Addr × Obj)) from m) (by simp),g.hok.kept D,?_⟩
  · exact name_of_addr x.apart (W8 B) (W8 d)
  · have j:scope.names.lookup y=some .cell\/scope.names.lookup y=some .free:=j
    rcases j with j|j
    · exact o8 j
    · exact absurd rfl (S.nofree _ (W8 j))
  · exact Nat.le_of_lt (x.above y c (W8 h))
  · have t:i<vs.length:=by
      unfold start at d;by_cases t:i<vs.length
      · exact t
      · rw[Ye (by simpa using t)]at d
        rw[Zi]at d;split at d<;>cases d
    have G:vs[i]?=some v:=by
      unfold start at d;rw[Y8 (by simpa using t),JD]at d
      cases e:vs[i]? with
      | none=>rw[e]at d;cases d
      | some a=>rw[e]at d;cases d;rfl
    obtain⟨u,C,F⟩:=r.get G
    have m:ps[i]?=some y:=by
      rw[<- S.pre,ZG (by simp_all)];exact B
    have o:ps.Nodup:=by rw[<- S.pre];exact S.nd.sublist (List.take_sublist _ _)
    refine⟨u,F,?_⟩;rcases S.par y (Ya m) with k|k
    · exact .inl ⟨k,rg o m C k⟩
    · obtain⟨c,e⟩:=o8 (n:=s.heap.objs.size+1) k
      refine .inr ⟨.inl k,c,e,?_⟩;have q:=x.cell y c e;rw[rm o m C (by show scope.names.lookup y≠_;rw[k];decide)]at q;exact q
  · exact g.hok.fresh (Nat.le_of_lt (x.above y c (W8 h)))
  · unfold start
    show _=N.length;rw[Jj,Je,YY]
    simp_all
theorem zal {CX:CXT}{P:Program}{w:World}{K:PySem.W.Frag}{mg:Str->Option Value}{base:Heap}{k:Nat}{f:Addr}{name qual:Str}{params:Arguments}{body:List Stmt}{scope:Scope}{C kV doc pm cdv ct oc:Value}{an od:Option Addr}{osl:Array (Option Value)}{N ps:List Str}{sp:Sp}(G:K.lookup f=some ⟨oc,od,.func (PySem.W.fnOf name qual params body scope C kV doc pm an cdv ct),osl⟩)(z:PySem.W.codeIn K cdv qual=true)(S:FnScope N ps scope)(len:∀ vs H Q E,sp vs H Q E->vs.length=ps.length)(g:∀ (A:Around) (outer:List Env) (s:Shared) (H:Hp) (vs:List V) (Q:VK) (E:XK),Room k (A.deeper (envOfC qual scope s.heap.objs.size f cdv))->sp vs H Q E ->
      ∃ t,PSs (mn CX P w K mg base N qual scope f cdv A outer s H E) body t/\t { nx:=λ_ c=>Q .non c,rt:=Q } (start N vs) H) :
    FnOk P w K mg base CX (k+1) f (PySem.W.fnOf name qual params body scope C kV doc pm an cdv ct) ps sp:=by
  refine⟨len,λA outer s H args F vs Q E p i U r j=>?_⟩;have R:=len _ _ _ _ j;have D:K.In s.heap:=i.mod.kin.keeps λb o e=>(i.bs b o e).1;have lim:s.heap.NoLimit:=i.mod.nolimit.keeps λb o e=>(i.bs b o e).1
  have d:∀ y∈ps.zip F,scope.names.lookup y.1=some .local \/ (scope.names.lookup y.1=some .cell/\((cellsFrom (s.heap.objs.size+1) scope.names []).lookup y.1).isSome=true):=λ⟨n,v⟩ L=>by
    rcases S.par n (List.of_mem_zip L).1 with q|q
    · exact .inl q
    · exact .inr ⟨q,PySem.W.cellsFrom_some _ _ _ (.inl q)⟩
  refine codeAny_call_function p.depth (D _ _ G) rfl S.co S.gen rfl (PySem.W.codeRec_of D z) (U _ _ _ _ ?_);refine wpAny_newFunctionEnv_cells S.kind d λenv T B x=>?_;subst T;refine⟨lim.keeps x.toInCall.keep,codeAny_func ?_⟩;obtain⟨t,M,O⟩:=g A outer s H vs Q E (p.deeper _) j;have I:Inv (mn CX P w K mg base N qual scope f cdv A outer s H E) [] (start N vs) H B:=jb S p.hd i R r x;refine JU (M [] B (start N vs) H _ I O) (λW l h=>?_) λe l h=>h
  have fin:∀ {a:St}{c:Hp}{v:V}{u:Value},Inv (mn CX P w K mg base N qual scope f cdv A outer s H E) [] a c l->RelV v u->Q v c->CE outer P w H s Q u l :=
    λ{a c v u} J m q=>⟨v,c,J.os,J.bare,J.base,J.hok,m,q⟩
  cases W with
  | ret u =>
    obtain⟨v,a,c,J,m,q⟩:=h
    exact fin J m q
  | next =>
    obtain⟨a,c,J,q⟩:=h
    exact fin (v:=V.non) (u:=Value.none) J rfl q
  | brk =>
    obtain⟨_,_,_,q⟩:=h
    exact False.elim q
  | cont =>
    obtain⟨_,_,_,q⟩:=h;exact False.elim q
section
variable {X:Cx}{x:Str}{p pos:Pos}{e:Expr}{es:List Expr}{t:TA}{id T:String}{r:List V->Hp->VK->Prop}
def tCB (r:List V->Hp->VK->Prop)(t:TA):TE:=λσ H Q=>t σ H λa b=>r a b Q
theorem zp (hc:CallR X (.builtin id) r) (k:Gl X x) (hm:X.mg x=none) (j:bootBuiltins x=some (.builtin id)) (ha:PA X (e::es) t) (hn:x≠"__name__":=by decide) (b:(x == ("__debug__":Str))=false:=by decide)
    (l:starEach (e::es) X.env=(false,eval e X.env)::starEach es X.env:=by rfl) (a:(backTo pos (starEach es X.env)).any (·.1)=false:=by rfl):PE X (.Call (.Name x p) (e::es) [] pos) (tCB r t):=by
  intro pins s σ H Q I h;refine YT (xC I k hm j ?_ hn b);exact PyProof.Rows.callWith_builtin1 (thn (ha pos pins s σ H _ I h) λd f ⟨c,n,m,g,i⟩=>hc pins f σ n c d Q m g i) l a
theorem yA (hc:CallR X (.type T) r) (k:Gl X x) (hm:X.mg x=none) (j:bootBuiltins x=some (.type T)) (ha:PA X (e::es) t) (hn:x≠"__name__":=by decide) (b:(x == ("__debug__":Str))=false:=by decide)
    (l:starEach (e::es) X.env=(false,eval e X.env)::starEach es X.env:=by rfl) (a:(backTo pos (starEach es X.env)).any (·.1)=false:=by rfl):PE X (.Call (.Name x p) (e::es) [] pos) (tCB r t):=by
  intro pins s σ H Q I h;refine YT (xC I k hm j ?_ hn b);exact Y3 (thn (ha pos pins s σ H _ I h) λd f ⟨c,n,m,g,i⟩=>hc pins f σ n c d Q m g i) l a
end
end L2
namespace HT
open PySem PyProof.Rows
section
variable {prog:Program}{w:World}{A:Around}{E:Value->Shared->Prop}{s:Shared}
theorem cat_tup {t b:Addr}{vs ws:List Value}{Q:Value->Shared->Prop}(u:IsTup s.heap t vs.toArray) (hb:IsTup s.heap b ws.toArray) (m:vs≠[])
    (x:ws=[]->Q (.ref t) s) (v:ws≠[]->Q (.ref s.heap.objs.size) { s with heap:=s.heap.push { cls:=.type "tuple",data:=.seq (vs++ws).toArray } })
    (j:vs.length+ws.length<=sizeLine):wpAny (model prog w) A (binaryOp .Add (.ref t) (.ref b)) Q E s:=by
  obtain⟨⟨cls,q,data,k⟩,i,p,n,o⟩:=id u;obtain⟨⟨r,g,data2,c⟩,a,f,l,d⟩:=id hb;simp only at p o f d;subst p o f d;have e:vs.toArray++ws.toArray=(vs++ws).toArray:=by simp
  by_cases h:ws=[]
  · exact concat_meets ⟨_,i,rfl⟩ ⟨_,a,rfl⟩ noFill_tuple_add seq_tuple_add PySem.F.slot_tuple_add PySem.F.entry_tuple_add (PySem.F.args_tuple_add_2 _ _)
      (tuple_addW1 t b vs.toArray ws.toArray n l q g k c (by simpa using m) (by simp[h])) ⟨i,a,x h⟩
  · refine concat_meets ⟨_,i,rfl⟩ ⟨_,a,rfl⟩ noFill_tuple_add seq_tuple_add PySem.F.slot_tuple_add PySem.F.entry_tuple_add (PySem.F.args_tuple_add_2 _ _)
      (tuple_addW2 t b vs.toArray ws.toArray n l q g k c (by simpa using m) (by simpa using h) (by rw[Jd,Jd];exact j)) ⟨i,a,?_⟩
    rw[e];exact v h
def sIx (n d:Nat):Option Int->Nat
  | none=>d
  | some v=>if v<0 then (v+(n:Int)).toNat else min v.toNat n
theorem sIx_none (n d:Nat):sIx n d none=d:=rfl
theorem sIx_nat (n d k:Nat):sIx n d (some (k:Int))=min k n:=by
  show (if (k:Int)<0 then ((k:Int)+(n:Int)).toNat else min (k:Int).toNat n)=min k n;rw[Ja (by simp_all),Yc]
end
end HT
namespace L2
open PySem PySem.Spec PyProof.Rows
abbrev TO:=St->Hp->(Option Int->Hp->Prop)->Prop
def PO (X:Cx)(e:Option Expr)(t:TO):Prop :=
  ∀ (pins:List (Addr × Obj)) (s:Shared) (σ:St) (H:Hp) (Q:Option Int->Hp->Prop),Inv X pins σ H s->t σ H Q ->
    wpAny (model X.prog X.w) X.A (evalPart e X.env) (λu b=>∃ o a,Inv X pins σ a b/\IsPart u o/\Q o a) X.xe s
def eC:TO:=λ_ H Q=>Q none H
def aQ (t:TE):TO:=λσ H Q=>t σ H λx a=>∃ i,x=.int i/\Q (some i) a
section
variable {X:Cx}{e:Expr}{te:TE}{lo hi:Option Expr}{tl th:TO}{pos p2:Pos}
theorem y9:PO X none eC:=by
  intro pins s σ H Q I h;rw[evalPart_none];exact Jm ⟨none,H,I,.none,h⟩
theorem yY (h:PE X e te):PO X (some e) (aQ te):=by
  intro pins s σ H Q I c;rw[evalPart_some];refine thn (h pins s σ H _ I c) λu g ⟨x,f,d,a,b⟩=>?_;obtain⟨i,rfl,q⟩:=b;obtain⟨t,rfl⟩:=a;exact⟨some i,f,d,.int i t,q⟩
def SlR (X:Cx)(r:V->Option Int->Option Int->Hp->VK->Prop):Prop :=
  ∀ (pins:List (Addr × Obj)) (s:Shared) (σ:St) (H:Hp) (x:V) (v b a:Value) (lo hi:Option Int) (c:Addr) (Q:VK),Inv X pins σ H s->RelV x v->s.heap.IsSliceOf c b a .none->IsPart b lo->IsPart a hi->r x lo hi H Q ->
    ∃ T id,typeLookup (.type T) "__getitem__" = pure (some (.builtin id))/\s.TypeIs v T/\wpAny (model X.prog X.w) X.A (getItem v (.ref c)) (EP X pins σ Q) X.xe s
def tSl (r:V->Option Int->Option Int->Hp->VK->Prop)(te:TE)(tl th:TO):TE:=λσ H Q=>te σ H λx c=>tl σ c λl b=>th σ b λu a=>r x l u a Q
theorem xB {r:V->Option Int->Option Int->Hp->VK->Prop}(w:SlR X r)(A:PE X e te)(y:PO X lo tl)(p:PO X hi th):PE X (.Subscript e (.Slice lo hi none p2) pos) (tSl r te tl th):=by
  intro pins s σ H Q I h;refine Subscript_ (thn (A pins s σ H _ I h) λv i ⟨x,J,F,j,n⟩=>?_);refine wpAny_Slice (thn (y pins i σ J _ F n) λd g ⟨l,G,E,o,m⟩=>thn (p pins g σ G _ E m) λc a ⟨u,f,D,pu,k⟩=>?_);rw[evalPart_none];refine Jm ?_;have C:Inv X pins σ f { a with heap:=a.heap.push { cls:=.type "slice",data:=.fields #[d,c,.none] } }:=D.kept (t':=a.toks) λb ob q=>J8 _ q;obtain⟨T,id,B,t,z⟩:=w pins { a with heap:=a.heap.push { cls:=.type "slice",data:=.fields #[d,c,.none] } } σ f x v d c l u a.heap.objs.size Q C j (Heap.IsSliceOf.new ..) o pu k;show wpAny (model X.prog X.w) X.A (subscriptTail e (.Slice lo hi none p2) v (.ref a.heap.objs.size)) (EP X pins σ Q) X.xe { a with heap:=a.heap.push { cls:=.type "slice",data:=.fields #[d,c,.none] } };exact tail_any (ops:=[.ref a.heap.objs.size,v]) t B z (by with_unfolding_all rfl)
def vG (xs:List V)(lo hi:Option Int):List V:=(xs.drop (HT.sIx xs.length 0 lo)).take (HT.sIx xs.length xs.length hi-HT.sIx xs.length 0 lo)
theorem ou (xs:List V)(lo hi:Option Int):(vG xs lo hi).length<=xs.length:=by
  unfold vG;rw[JN,YR]
  grind
def ap (K:PySem.W.Frag):R2:=λx y H Q=>∃ a b d c,x=.ref a/\y=.ref b/\SqT K H a d/\SqT K H b c/\d≠[]/\d.length+c.length<=sizeLine /\
  (c=[]->Q (.ref a) H)/\(c≠[]->∀ p,H p=none->Q (.ref p) (upd H p (.tup (d++c))))
theorem Vals.nil_iff {xs:List V}{us:List Value}(r:Vals xs us):us=[]↔xs=[]:=by
  cases r with
  | nil=>simp
  | cons _ _=>simp
theorem eX:OpR X (binaryOp .Add) (ap X.K):=by
  intro pins s σ H x y v u Q I k j h;obtain⟨a,b,i,g,rfl,rfl,t,r,p,e,m,l⟩:=h;cases k;cases j;obtain⟨A,d,n,_⟩:=I.tuple t;obtain⟨f,c,p2,_⟩:=I.tuple r;refine HT.cat_tup n p2 (λz=>p (d.nil_iff.mp z)) (λz=>⟨.ref a,H,I,rfl,m (c.nil_iff.mp z)⟩) (λz=>?_) (by rw[<- d.length,<- c.length];exact e);refine⟨.ref s.heap.objs.size,_,I.laid (t':=s.toks) (o:=.tup (i++g)) (λb ob q=>J8 _ q) (Jf _) ?_,rfl,l (λw=>z (c.nil_iff.mpr w)) _ (I.hok.fresh (Jf _))⟩;exact⟨by rw[Jj];exact e,_,d.append c,TupX.new _ _⟩
end
def ixN (n:Nat)(i:Int):Option Nat:=if 0<=i then (if i<n then some i.toNat else none) else if -(n:Int)<=i then some (i+n).toNat else none
def atI {α:Type}(xs:List α)(i:Int):Option α:=(ixN xs.length i).bind λj=>xs[j]?
theorem qu {n:Nat}{i:Int}{j:Nat}(h:ixN n i=some j):seqIndex? i n=some j/\j<n/\-(n:Int)<=i/\i<n:=by
  unfold ixN at h;by_cases b:0<=i
  · rw[Jb b]at h
    by_cases a:i<n
    · rw[Jb a]at h
      have e:i.toNat=j:=Jv h;exact⟨by rw[seqIndex_of b a,e],by omega,by grind,a⟩
    · rw[Ja a]at h;cases h
  · rw[Ja b]at h
    by_cases a:-(n:Int)<=i
    · rw[Jb a]at h
      have e:(i+n).toNat=j:=Jv h;exact⟨by rw[seqIndex_neg (by simp_all) a,e],by grind,a,by grind⟩
    · rw[Ja a]at h;cases h
theorem kK {α:Type}{xs:List α}{i:Int}{v:α}(h:atI xs i=some v):∃ j,seqIndex? i xs.length=some j/\xs[j]?=some v/\j<xs.length/\-(xs.length:Int)<=i/\i<xs.length:=by
  unfold atI at h
  cases e:ixN xs.length i with
  | none=>rw[e]at h;cases h
  | some j =>
    rw[e]at h;obtain⟨d,c,b,a⟩:=qu e;exact⟨j,d,h,c,b,a⟩
theorem yR {α:Type}{xs:List α}{j:Nat}{v:α}(h:xs[j]?=some v):atI xs (j:Int)=some v:=by
  have a:j<xs.length:=(J9.mp h).1
  have e:ixN xs.length (j:Int)=some j:=by
    unfold ixN;rw[Jb (by simp_all),Jb (by simp_all)];simp
  unfold atI;rw[e];exact h
theorem fg {α:Type}(xs:List α)(v:α):atI (xs++[v]) (-1)=some v:=by
  have a:(xs++[v]).length=xs.length+1:=by simp
  have e:ixN (xs++[v]).length (-1)=some xs.length:=by
    unfold ixN;rw[a,Ja (by decide),Jb (by grind)]
    congr 1
    grind
  unfold atI;rw[e];show (xs++[v])[xs.length]?=some v;simp
def PlainIx (b:Expr):Prop:=∀ o i,subscripted b false o i=operate [o,i] (getItem o i)
def IxR (X:Cx)(r:R2):Prop :=
  ∀ (value slice:Expr) (pins:List (Addr × Obj)) (s:Shared) (σ:St) (H:Hp) (x y:V) (v u:Value) (Q:VK),Inv X pins σ H s->RelV x v->RelV y u->r x y H Q ->
    subscripted slice false v u=operate [v,u] (getItem v u)->wpAny (model X.prog X.w) X.A (subscriptTail value slice v u) (EP X pins σ Q) X.xe s
def MtR (X:Cx)(id:String)(r:V->List V->Hp->VK->Prop):Prop :=
  ∀ (pins:List (Addr × Obj)) (s:Shared) (σ:St) (H:Hp) (x:V) (a:List V) (v:Value) (b:List Value) (Q:VK),Inv X pins σ H s->RelV x v->Vals a b->r x a H Q ->
    wpAny (model X.prog X.w) X.A (call (.builtin id) (v::b)) (EP X pins σ Q) X.xe s
section
variable {X:Cx}{a b:Expr}{ta tb:TE}{pos:Pos}
theorem zt {r:R2}(f:IxR X r)(ha:PE X a ta)(hb:PE X b tb)(hs:PlainIx b):PE X (.Subscript a b pos) (tOp r ta tb):=by
  intro pins s σ H Q I h;exact Subscript_ (aK ha hb I h λv u c x y i g e d q=>f a b pins c σ i x y v u Q g e d q (hs _ _))
def bN (K:PySem.W.Frag):R2:=λx y H Q=>∃ p a i v,x=.ref p/\y=.int i/\SqL K H p a/\atI a i=some v/\Q v H
def iY (K:PySem.W.Frag):R2:=λx y H Q=>∃ p a i v,x=.ref p/\y=.int i/\SqT K H p a/\atI a i=some v/\Q v H
theorem zy:IxR X (bN X.K):=by
  intro value slice pins s σ H x y v u Q I n m h f;obtain⟨p,F,i,z,rfl,rfl,o,B,q⟩:=h;cases n;obtain⟨t,rfl⟩:=m;obtain⟨e,r,b,G⟩:=I.list o;obtain⟨j,a,E,K,D,C⟩:=kK B;obtain⟨w,k,d⟩:=r.get E;have A:=r.length;have J:=qp;have fin:EP X pins σ Q w s:=⟨z,H,I,d,q⟩;by_cases g:0<=i
  · have c:i.toNat=j:=by
      rw[seqIndex_of g C]at a;exact Jv a
    exact item_listR b.isList g (by lia) (by rw[c];simpa using k) fin f
  · have c:(i+(e.toArray.size:Int)).toNat=j:=by
      rw[seqIndex_neg (by simp_all) D]at a;rw[Jd,<- A];exact Jv a
    exact subscriptTail_builtinR (x:=w) b.isList.typeIs slot_list_getitem.lookup
      (wpAny_getItem_list_neg (Q:=λr l=>r=w/\EP X pins σ Q r l) b.isList (by simp_all) (by rw[Jd]<;>simp_all) (by grind) (by rw[c];simpa using k) ⟨rfl,fin⟩) f
theorem yJ:IxR X (iY X.K):=by
  intro value slice pins s σ H x y v u Q I e d h f;obtain⟨p,B,i,z,rfl,rfl,g,l,q⟩:=h;cases e;obtain⟨t,rfl⟩:=d;obtain⟨A,r,b,C⟩:=I.tuple g;obtain⟨j,n,m,G,F,E⟩:=kK l;obtain⟨w,o,a⟩:=r.get m;have k:=r.length;have D:=qp;have fin:EP X pins σ Q w s:=⟨z,H,I,a,q⟩
  exact subscriptTail_builtinR (x:=w) b.typeIs slot_tuple_getitem.lookup
    (getItem_tuple (j:=j) (Q:=λr c=>r=w/\EP X pins σ Q r c) b (by grind) (by grind) (by rw[Jd,<- k];exact n) (by simpa using o) ⟨rfl,fin⟩) f
theorem mR (its:List Value)(n j:Nat)(u:Value):Obj.mapSeq (·.setIfInBounds j u) { cls:=.type "list",data:=.seq its.toArray n }={ cls:=.type "list",data:=.seq (its.set j u).toArray n }:=by
  simp[Obj.mapSeq]
theorem Inv.lst {pins:List (Addr × Obj)}{σ:St}{H:Hp}{s:Shared}{p:Addr}{xs:List V}(I:Inv X pins σ H s)(h:H p=some (.lst xs)) :
    ∃ (its:List Value) (n:Nat),Vals xs its/\s.heap.get? p=some { cls:=.type "list",data:=.seq its.toArray n }/\xs.length<=sizeLine:=by
  obtain⟨z,its,n,r,e⟩:=I.hok p _ h;exact⟨its,n,r,e,z⟩
theorem Inv.lstUpd {pins:List (Addr × Obj)}{σ:St}{H:Hp}{s:Shared}{p:Addr}{xs ys:List V}{its its':List Value}{n a:Nat}{f:Obj->Obj}(I:Inv X pins σ H s) (h:H p=some (.lst xs))
    (g:s.heap.get? p=some { cls:=.type "list",data:=.seq its.toArray n }) (c:f { cls:=.type "list",data:=.seq its.toArray n }={ cls:=.type "list",data:=.seq its'.toArray a }) (r:Vals ys its') (d:ys.length<=sizeLine) (t:Nat) :
    Inv X pins σ (upd H p (.lst ys)) { s with heap:=s.heap.update p f,toks:=t }:=by
  have e:(s.heap.update p f).get? p=some { cls:=.type "list",data:=.seq its'.toArray a }:=by
    rw[YZ f g (by rw[c]<;>rfl),c]
  refine I.write (x:=p) (e:=p) (by rw[h];trivial) (.inl rfl) (λb u i q=>(Yp _ _ (Ne.symm i)).trans q) ⟨_,e⟩ ?_;exact⟨d,its',a,r,e⟩
def aj:V->V->V->Hp->(Hp->Prop)->Prop:=λo i v H Q=>∃ p a k j,o=.ref p/\i=.int k/\H p=some (.lst a)/\ixN a.length k=some j/\Q (upd H p (.lst (a.set j v)))
theorem yd:PSet X aj:=by
  intro pins s σ H o i v D E u Q I z A y h;obtain⟨p,x,k,j,rfl,rfl,f,C,q⟩:=h;cases z;obtain⟨t,rfl⟩:=A;obtain⟨a,n,r,c,B⟩:=I.lst f;obtain⟨b,G,l,g⟩:=qu C;have d:=r.length;have F:=qp
  have w:Inv X pins σ (upd H p (.lst (x.set j v))) { s with heap:=s.heap.update p (Obj.mapSeq (·.setIfInBounds j u)) } :=
    I.lstUpd f c (mR a n j u) (r.set y j) (by rw[Yd];exact B) s.toks
  by_cases m:0<=k
  · have e:k.toNat=j:=by
      rw[seqIndex_of m g]at b;exact Jv b
    exact PySem.W.ki_setAt c m (by grind) (by rw[Jd,<- d];exact g) (by rw[e];exact⟨_,w,q⟩)
  · have e:(k+(a.toArray.size:Int)).toNat=j:=by
      rw[seqIndex_neg (by simp_all) l]at b;rw[Jd,<- d];exact Jv b
    exact PySem.W.ki_setBack c (by simp_all) (by rw[Jd,<- d];exact l) (by grind) (by rw[e];exact⟨_,w,q⟩)
theorem qI (lo hi:Option Int)(n:Nat):(sliceBounds lo hi none n).1=((HT.sIx n 0 lo:Nat):Int)/\(sliceBounds lo hi none n).2.1=((HT.sIx n n hi:Nat):Int)/\(sliceBounds lo hi none n).2.2=1:=by
  refine⟨?_,?_,rfl⟩
  · cases lo with
    | none=>simp[sliceBounds,HT.sIx]
    | some i =>
      simp only[sliceBounds,HT.sIx,Option.getD_none,show (1:Int) > 0 by decide,Yz];by_cases h:i<0
      · simp only[h,Yz]<;>grind
      · simp only[h,Z6]<;>grind
  · cases hi with
    | none=>simp[sliceBounds,HT.sIx]
    | some i =>
      simp only[sliceBounds,HT.sIx,Option.getD_none,show (1:Int) > 0 by decide,Yz];by_cases h:i<0
      · simp only[h,Yz]<;>grind
      · simp only[h,Z6]<;>grind
theorem rF (its:List Value)(lo hi:Option Int):slicePick its.toArray lo hi none=((its.drop (HT.sIx its.length 0 lo)).take (HT.sIx its.length its.length hi-HT.sIx its.length 0 lo)).toArray:=by
  obtain⟨c,b,a⟩:=qI lo hi its.toArray.size;unfold slicePick;rw[c,b,a];simp only[sliceRange_one,pick_run,Jd]<;>rfl
def zaW (K:PySem.W.Frag):V->Option Int->Option Int->Hp->VK->Prop:=λx lo c H Q=>∃ a b,x=.ref a/\SqL K H a b/\∀ p,H p=none->Q (.ref p) (upd H p (.lst (vG b lo c)))
theorem xT:SlR X (zaW X.K):=by
  intro pins s σ H x v n m lo d p Q I f k g pu h;obtain⟨a,c,rfl,j,q⟩:=h;cases f;obtain⟨l,r,e,i⟩:=I.list j;have hlen:=r.length;refine⟨"list",_,slot_list_getitem.lookup,e.isList.typeIs,?_⟩;refine wpAny_getItem_list_slice e.isList k g pu .none (by simp) ?_ (by rw[Jd]<;>simp_all);rw[rF,<- hlen];refine⟨.ref s.heap.objs.size,_,I.laid (t':=s.toks) (o:=.lst (vG c lo d)) (λb ob q=>J8 _ q) (Jf _) ?_,rfl,q _ (I.hok.fresh (Jf _))⟩;exact⟨JM (ou c lo d) i,_,0,(r.drop (HT.sIx c.length 0 lo)).take (HT.sIx c.length c.length d-HT.sIx c.length 0 lo),Jw _ rfl⟩
def wQ:V->Bool
  | .non=>true
  | .bl _=>true
  | .int _=>true
  | .str _=>true
  | _=>false
def eqV:V->V->Bool
  | .non,.non=>true
  | .bl a,.bl b=>a == b
  | .bl a,.int b=>(if a then 1 else 0) == b
  | .int a,.bl b=>a == (if b then 1 else 0)
  | .int a,.int b=>a == b
  | .str a,.str b=>a == b
  | _,_=>false
theorem pA {A:Around}{s:Shared}{y x:V}{u v:Value}(e:RelV y u)(c:RelV x v)(g:wQ y=true)(f:wQ x=true):SeqAt.EqAt A s u v (eqV y x):=by
  cases y with
  | non =>
    cases e
    cases x with
    | non=>cases c;exact SeqAt.EqAt.same _
    | bl b=>cases c;exact SeqAt.EqAt.none_bool b
    | int b=>obtain⟨t,rfl⟩:=c;exact SeqAt.EqAt.none_int b t
    | str b=>obtain⟨t,rfl⟩:=c;exact SeqAt.EqAt.none_str b t
    | _=>exact absurd (show false=true from f) Jp
  | bl a =>
    cases e
    cases x with
    | non=>cases c;exact SeqAt.EqAt.bool_none a
    | bl b=>cases c;exact SeqAt.EqAt.bool_bool a b
    | int b=>obtain⟨t,rfl⟩:=c;exact SeqAt.EqAt.bool_int a b t
    | str b=>obtain⟨t,rfl⟩:=c;exact SeqAt.EqAt.bool_str a b t
    | _=>exact absurd (show false=true from f) Jp
  | int a =>
    obtain⟨d,rfl⟩:=e
    cases x with
    | non=>cases c;exact SeqAt.EqAt.int_none a d
    | bl b=>cases c;exact SeqAt.EqAt.int_bool a d b
    | int b=>obtain⟨t,rfl⟩:=c;exact SeqAt.EqAt.int_int a d b t
    | str b=>obtain⟨t,rfl⟩:=c;exact SeqAt.EqAt.int_str a d b t
    | _=>exact absurd (show false=true from f) Jp
  | str a =>
    obtain⟨d,rfl⟩:=e
    cases x with
    | non=>cases c;exact SeqAt.EqAt.str_none a d
    | bl b=>cases c;exact SeqAt.EqAt.str_bool a d b
    | int b=>obtain⟨t,rfl⟩:=c;exact SeqAt.EqAt.str_int a d b t
    | str b=>obtain⟨t,rfl⟩:=c;exact SeqAt.EqAt.str_str a d b t
    | _=>exact absurd (show false=true from f) Jp
  | _=>exact absurd (show false=true from g) Jp
def eqU (x:V)(u:Value):Bool:=match u with
  | .none=>eqV .non x
  | .bool b=>eqV (.bl b) x
  | .int i _=>eqV (.int i) x
  | .str z _=>eqV (.str z) x
  | _=>false
theorem gu {x y:V}{u:Value}(r:RelV y u)(f:wQ y=true):eqU x u=eqV y x:=by
  cases y with
  | non=>cases r;rfl
  | bl b=>cases r;rfl
  | int i=>obtain⟨t,rfl⟩:=r;rfl
  | str z=>obtain⟨t,rfl⟩:=r;rfl
  | _=>exact absurd (show false=true from f) Jp
theorem pF {x:V}:∀ {xs:List V}{us:List Value},Vals xs us->xs.all wQ=true->us.any (eqU x)=xs.any λy=>eqV y x
  | _,_,.nil,_=>rfl
  | y::xs,u::us,.cons r t,f=>by
    rw[List.all_cons,Zj]at f;rw[List.any_cons,List.any_cons,gu r f.1,pF t f.2]
theorem sM {A:Around}{s:Shared}{x:V}{v:Value}(b:RelV x v)(c:wQ x=true):∀ {xs:List V}{us:List Value},Vals xs us->xs.all wQ=true->∀ u∈us,SeqAt.EqAt A s u v (eqU x u)
  | _,_,.nil,_=>λu a=>by cases a
  | y::xs,u::us,.cons r t,f=>λd a=>by
    rw[List.all_cons,Zj]at f;rcases Jn.mp a with rfl|a
    · rw[gu r f.1];exact pA r b f.1 c
    · exact sM b c t f.2 d a
def inV (x:V)(xs:List V):Bool:=xs.any λy=>eqV y x
def rIn (K:PySem.W.Frag)(neg:Bool):R2:=λx y H Q=>∃ p a,y=.ref p/\(SqL K H p a\/SqT K H p a)/\wQ x=true/\a.all wQ=true/\Q (.bl (if neg then !inV x a else inV x a)) H
theorem vj:OpR X (compareOp .NotIn) (rIn X.K true):=by
  intro pins s σ H x y v u Q I e g h;obtain⟨p,j,rfl,b,f,fs,q⟩:=h;cases g;rcases b with b|b
  · obtain⟨a,r,c,i⟩:=I.list b
    refine SeqAt.notIn_listAt (eqU x) c.isList (λw d=>sM e f r fs w (by simpa using d)) ⟨.bl _,H,I,rfl,?_⟩;rw[show a.toArray.any (eqU x)=a.any (eqU x) by simp,pF r fs];exact q
  · obtain⟨a,r,c,i⟩:=I.tuple b
    refine SeqAt.notIn_tupleAt (eqU x) c (λw d=>sM e f r fs w (by simpa using d)) ⟨.bl _,H,I,rfl,?_⟩;rw[show a.toArray.any (eqU x)=a.any (eqU x) by simp,pF r fs];exact q
theorem zY:CallR X (.builtin "len") (λxs H Q=>∃ p ys,xs=[.ref p]/\(SqL X.K H p ys\/SqT X.K H p ys)/\Q (.int ys.length) H):=by
  intro pins s σ H xs g Q I r h;obtain⟨p,ys,rfl,a,q⟩:=h;obtain⟨u,rfl,e⟩:=tK r;cases e;have i:=qp;rcases a with a|a
  · obtain⟨d,b,c,f⟩:=I.list a
    have hlen:=b.length;exact Calls.call_len_list c.isList (by simp only[Jd]<;>lia) ⟨.int ys.length,H,I.tok _,⟨s.toks+1,by rw[Jd,hlen]⟩,q⟩
  · obtain⟨d,b,c,f⟩:=I.tuple a
    have hlen:=b.length;exact len_tuple c (by simp only[Jd]<;>grind) ⟨.int ys.length,H,I.tok _,⟨s.toks+1,by rw[Jd,hlen]⟩,q⟩
theorem uF:CallR X (.type "list") (λxs H Q=>∃ p ys,xs=[.ref p]/\(SqL X.K H p ys\/SqT X.K H p ys)/\∀ l,H l=none->Q (.ref l) (upd H l (.lst ys))):=by
  intro pins s σ H xs y Q I r h;obtain⟨p,ys,rfl,j,q⟩:=h;obtain⟨u,rfl,x⟩:=tK r;cases x
  have fin:∀ (a:List Value),Vals ys a->ys.length<=sizeLine->∀ (c:Heap) (f:Nat),(∀ b w,s.heap.get? b=some w->c.get? b=some w) ->
      c.get? s.heap.objs.size=some { cls:=.type "list",dict:=none,data:=.seq a.toArray f,slots:=#[] }->EP X pins σ Q (.ref s.heap.objs.size) { s with heap:=c }:=λa d i c f g e =>
    ⟨.ref s.heap.objs.size,_,I.laid (t':=s.toks) g (Jf _) (show ObjOk X.prog X.w _ c _ (.lst ys) from⟨i,a,f,d,e⟩),rfl,q _ (I.hok.fresh (Jf _))⟩
  rcases j with j|j
  · obtain⟨a,d,k,i⟩:=I.list j
    have hlen:=d.length;obtain⟨o,m,v,n,t⟩:=k.isList;exact call_list_seq p (.inl rfl) m v t (λc f g e=>fin a d i c f g e) (by simp only[Jd]<;>simp_all)
  · obtain⟨a,d,k,i⟩:=I.tuple j
    have hlen:=d.length;obtain⟨o,m,v,n,t⟩:=k;exact call_list_seq p (.inr rfl) m v t (λc f g e=>fin a d i c f g e) (by simp only[Jd]<;>simp_all)
theorem zw:CallR X (.type "tuple") (λxs H Q=>∃ p ys,xs=[.ref p]/\((SqL X.K H p ys/\∀ l,H l=none->Q (.ref l) (upd H l (.tup ys)))\/(SqT X.K H p ys/\Q (.ref p) H))):=by
  intro pins s σ H xs t Q I r h;obtain⟨p,ys,rfl,h⟩:=h;obtain⟨u,rfl,k⟩:=tK r;cases k;rcases h with ⟨g,q⟩|⟨g,q⟩
  · obtain⟨a,d,f,i⟩:=I.list g
    have hlen:=d.length;refine call_tuple_list f.isList (λc m=>?_) (by simp only[Jd]<;>simp_all);have j:Inv X pins σ H { s with heap:=c }:=I.kept (t':=s.toks) m
    have n:Inv X pins σ (upd H c.objs.size (.tup ys)) { s with heap:=c.push { cls:=.type "tuple",data:=.seq a.toArray } } :=
      j.laid (t':=s.toks) (λb o e=>J8 _ e) (Jf _) (show ObjOk X.prog X.w _ _ _ (.tup ys) from⟨i,a,d,TupX.new _ _⟩)
    exact⟨.ref c.objs.size,_,n,rfl,q _ (j.hok.fresh (Jf _))⟩
  · obtain⟨a,d,f,i⟩:=I.tuple g
    exact call_tuple_same f ⟨.ref p,H,I,rfl,q⟩
def tyV (K:PySem.W.Frag)(T:String)(x:V)(H:Hp):Prop:=match x with
  | .str _=>T = "str"
  | .int _=>T = "int"
  | .ref p=>(T = "list"/\∃ b,SqL K H p b)\/(T = "tuple"/\∃ o,K.lookup p=some o/\o.cls=.type "tuple"/\o.dict=none) \/
      (T = "dict"/\((∃ a,H p=some (.dK a))\/∃ a,H p=some (.dT a)))\/(T = "set"/\∃ S n,H p=some (.set S n))
  | _=>False
theorem j6 {pins:List (Addr × Obj)}{σ:St}{H:Hp}{s:Shared}{T:String}{x:V}{v:Value}(I:Inv X pins σ H s)(r:RelV x v)(ty:tyV X.K T x H) :
    s.TypeIs v T/\∀ a,v=.ref a->∃ ob,s.heap.get? a=some ob/\ob.dict=none:=by
  cases x with
  | str z =>
    obtain⟨t,rfl⟩:=r;cases (show T = "str" from ty)
    exact⟨typeIs_str s z t,λ_ e=>nomatch e⟩
  | int i =>
    obtain⟨t,rfl⟩:=r;cases (show T = "int" from ty)
    exact⟨typeIs_int s i t,λ_ e=>nomatch e⟩
  | ref p =>
    cases r;rcases ty with ⟨rfl,l,h⟩|⟨rfl,o,b,j,d⟩|⟨rfl,b⟩|⟨rfl,S,n,b⟩
    · obtain⟨k,_,g,_⟩:=I.list h
      refine⟨g.isList.typeIs,λa e=>?_⟩;cases e;obtain⟨o,n,e,c,d,_⟩:=g;exact⟨o,e,d⟩
    · refine⟨⟨o,I.kIn p o b,j⟩,λa e=>?_⟩
      cases e;exact⟨o,I.kIn _ o b,d⟩
    · have z:∃ o,s.heap.get? p=some o/\o.ExactDict:=by
        rcases b with ⟨f,b⟩|⟨f,b⟩
        · obtain⟨_,_,_,_,o,_,_,e,ex,_⟩:=I.hok p _ b
          exact⟨o,e,ex⟩
        · obtain⟨_,_,_,_,o,_,_,e,ex,_⟩:=I.hok p _ b
          exact⟨o,e,ex⟩
      obtain⟨o,e,ex⟩:=z;refine⟨⟨o,e,ex.1⟩,λa e2=>?_⟩;cases e2;exact⟨o,e,ex.2.1⟩
    · obtain⟨o,_,_,_,e,ex,_⟩:=I.hok p _ b
      refine⟨⟨o,e,ex.1⟩,λa e2=>?_⟩;cases e2
      exact⟨o,e,ex.2.1⟩
  | _=>exact False.elim ty
def zaI (K:PySem.W.Frag)(T:String)(r:V->List V->Hp->VK->Prop)(to:TE):TE:=λσ H Q=>to σ H λx a=>tyV K T x a/\r x [] a Q
def tBM (K:PySem.W.Frag)(T:String)(r:V->List V->Hp->VK->Prop)(to:TE)(t:TA):TE:=λσ H Q=>to σ H λx a=>tyV K T x a/\t σ a λb c=>r x b c Q
variable {o e:Expr}{es:List Expr}{to:TE}{t:TA}{name:Str}{apos cpos:Pos}{T id:String}{r:V->List V->Hp->VK->Prop}
theorem bW (i:PlainAttrs T) (slot:Slot T name id) (c:typeOf (.builtin id)=pure (.type "method_descriptor")) (hm:MtR X id r) (j:PE X o to)
    (b:attributeBase o name X.env (eval o X.env)=eval o X.env:=by rfl) (a:(apos.endLine == cpos.line)=true:=by rfl):PE X (.Call (.Attribute o name apos) [] [] cpos) (zaI X.K T r to):=by
  intro pins s σ H Q I h;refine wpAny_Call_method0_late b a (thn (j pins s σ H _ I h) λv f ⟨x,m,e,d,ty,g⟩=>?_);obtain⟨l,k⟩:=j6 e d ty;exact⟨T,id,i,slot,c,l,k,Calls.callWith_builtin rfl (PySem.evalArgs_none (hm pins f σ m x [] v [] Q e d .nil g))⟩
theorem vh (w:PlainAttrs T) (slot:Slot T name id) (f:typeOf (.builtin id)=pure (.type "method_descriptor")) (hm:MtR X id r) (z:PE X o to) (ha:PA X (e::es) t)
    (c:attributeBase o name X.env (eval o X.env)=eval o X.env:=by rfl)
    (d:((backTo cpos (starEach (e::es) X.env)).all (λx=>!x.1) && (backToKw cpos (keywordEach [] X.env)).all (λx=>x.1.isSome)
      && decide ((e::es).length+([]:List Keyword).length+(if ([]:List Keyword).isEmpty then 0 else 1)<30))=true:=by rfl)
    (b:(apos.endLine == cpos.line)=true:=by rfl) (y:starEach (e::es) X.env=(false,eval e X.env)::starEach es X.env:=by rfl) (a:(backTo cpos (starEach es X.env)).any (·.1)=false:=by rfl) :
    PE X (.Call (.Attribute o name apos) (e::es) [] cpos) (tBM X.K T r to t):=by
  intro pins s σ H Q I h;refine wpAny_Call_method_late c d b rfl (thn (z pins s σ H _ I h) λv n ⟨x,E,j,g,ty,u⟩=>?_);obtain⟨B,A⟩:=j6 j g ty;refine⟨T,id,w,slot,f,B,A,?_⟩;have i:=ha cpos pins n σ E _ j u;rw[y]at i ⊢;refine Calls.callWith_builtin (by show (false || (backTo cpos (starEach es X.env)).any (·.1))=false;rw[a]<;>rfl) (Calls.evalArgs_plain ?_);exact thn i λl m ⟨k,D,C,p,q⟩=>hm pins m σ D x k v l Q C g p q
end
def MtM (X:Cx)(id:String)(r:V->List V->Hp->VK->Prop):Prop :=
  ∀ (pins:List (Addr × Obj)) (s:Shared) (σ:St) (H:Hp) (x:V) (a:List V) (v:Value) (b:List Value) (Q:VK),Inv X pins σ H s->RelV x v->Vals a b->r x a H Q ->
    wpAny (model X.prog X.w) X.A (call (.builtin id) (v::b)) (EP X pins σ Q) X.xe s
theorem Vals.one:∀ {x:V}{us:List Value},Vals [x] us->∃ u,us=[u]/\RelV x u
  | _,_,.cons r .nil=>⟨_,rfl,r⟩
theorem Vals.two:∀ {x y:V}{us:List Value},Vals [x,y] us->∃ u v,us=[u,v]/\RelV x u/\RelV y v
  | _,_,_,.cons r (.cons q .nil)=>⟨_,_,rfl,r,q⟩
theorem Vals.zero:∀ {us:List Value},Vals [] us->us=[]
  | _,.nil=>rfl
theorem Vals.dropLast {xs:List V}{us:List Value}(h:Vals xs us):Vals xs.dropLast us.dropLast:=by
  induction h with
  | nil=>exact .nil
  | cons r t ih =>
    cases t with
    | nil=>exact .nil
    | cons q a=>exact .cons r ih
theorem Vals.eraseIdx:∀ {xs:List V}{us:List Value}(i:Nat),Vals xs us->Vals (xs.eraseIdx i) (us.eraseIdx i)
  | _,_,_,.nil=>.nil
  | _,_,0,.cons _ t=>t
  | _,_,i+1,.cons r t=>.cons r (Vals.eraseIdx i t)
theorem Vals.reverse {xs:List V}{us:List Value}(h:Vals xs us):Vals xs.reverse us.reverse:=by
  induction h with
  | nil=>exact .nil
  | cons r t ih=>rw[List.reverse_cons,List.reverse_cons];exact Vals.append ih (.cons r .nil)
theorem Vals.rep {xs:List V}{us:List Value}(h:Vals xs us):∀ k:Nat,Vals (List.replicate k xs).flatten (List.replicate k us).flatten
  | 0=>.nil
  | k+1=>by
    rw[Yr,Yr,Z7,Z7];exact Vals.append h (Vals.rep h k)
theorem mf {α:Type}(l:List α):l.eraseIdx (l.length-1)=l.dropLast:=by
  induction l with
  | nil=>rfl
  | cons a r ih =>
    cases r with
    | nil=>rfl
    | cons b r =>
      have e:(a::b::r).length-1=((b::r).length-1)+1:=by
        have d:(a::b::r).length=r.length+2:=rfl;have c:(b::r).length=r.length+1:=rfl
        simp_all
      rw[e,List.eraseIdx_cons_succ,ih]
      all_goals rfl
theorem rW {α:Type}:∀ (l:List α) (i:Nat),(l.eraseIdx i).length<=l.length
  | [],_=>Jf _
  | _::_,0=>Nat.le_succ _
  | _::r,i+1=>Nat.succ_le_succ (rW r i)
theorem rY (its:List Value):∀ (k:Nat) (acc:List Value),
    List.foldl (λb a=>b++a) acc.toArray (List.replicate k its.toArray)=(acc++(List.replicate k its).flatten).toArray
  | 0,acc=>by simp
  | k+1,acc=>by
    have e:acc.toArray++its.toArray=(acc++its).toArray:=by simp
    have e2:(acc++its)++(List.replicate k its).flatten=acc++(List.replicate (k+1) its).flatten:=by
      rw[Yr,Z7,JL]
    rw[<- e2,<- rY its k (acc++its),<- e,Yr,List.foldl_cons]
section
variable {X:Cx}{pins:List (Addr × Obj)}{σ:St}{H:Hp}{s:Shared}{l:Addr}{xs ys:List V}
theorem Inv.lset {its its':List Value}{n:Nat}{f:Array Value->Array Value}{t':Nat}(I:Inv X pins σ H s) (h:H l=some (.lst xs))
    (e:s.heap.get? l=some { cls:=.type "list",data:=.seq its.toArray n }) (d:f its.toArray=its'.toArray) (b:Vals ys its') (a:ys.length<=sizeLine) :
    Inv X pins σ (upd H l (.lst ys)) { s with heap:=s.heap.update l (Obj.mapSeq f),toks:=t' }:=by
  have q:=PySem.IsL.update e f;rw[d]at q;refine I.write (x:=l) (e:=l) (by rw[h];exact trivial) (.inl rfl) (λi u g c=>(Yp s.heap (Obj.mapSeq f) (Ne.symm g)).trans c) ⟨_,q⟩ ?_;exact⟨a,its',_,b,q⟩
theorem Inv.lnew {its:List Value}{t':Nat}(I:Inv X pins σ H s)(a:Vals ys its)(hz:ys.length<=sizeLine) :
    Inv X pins σ (upd H s.heap.objs.size (.lst ys)) { s with heap:=s.heap.push { cls:=.type "list",data:=.seq its.toArray },toks:=t' } :=
  I.laid (λ_ _ q=>J8 _ q) (Jf _) ⟨hz,its,0,a,Jw _ rfl⟩
theorem Inv.fresh (I:Inv X pins σ H s):H s.heap.objs.size=none:=I.hok.fresh (Jf _)
theorem Inv.lstM (I:Inv X pins σ H s)(a:H l=some (.lst xs)):xs.length<=sizeLine/\∃ (its:List Value) (n:Nat),Vals xs its/\xs.length=its.length/\s.heap.get? l=some { cls:=.type "list",data:=.seq its.toArray n }:=by
  obtain⟨z,its,n,r,e⟩:=I.hok l _ a;exact⟨z,its,n,r,r.length,e⟩
theorem oI {n:Nat}(h:n<=sizeLine):Builtin.List.listTooLong n=false:=by
  unfold Builtin.List.listTooLong;exact Js (by simp_all)
end
section
variable {X:Cx}
def rAppend:V->List V->Hp->VK->Prop:=λx b H Q=>∃ l a y,x=.ref l/\b=[y]/\H l=some (.lst a)/\a.length<sizeLine/\Q .non (upd H l (.lst (a++[y])))
theorem y7:MtM X "list.append" rAppend:=by
  intro pins s σ H x i v j Q I c d h;obtain⟨l,g,y,rfl,rfl,b,k,q⟩:=h;cases c;obtain⟨u,rfl,f⟩:=d.one;obtain⟨z,a,n,r,m,e⟩:=I.lstM b;refine call_meets F.slot_list_append ⟨_,e,rfl⟩ F.entry_list_append (F.args_list_append_2 _ _) (PySem.list_append l a.toArray n u (by rw[Jd];simp_all)) ⟨e,?_⟩;refine⟨.non,_,I.lset (its':=a++[u]) b e (by simp) (r.append (.cons f .nil)) ?_,rfl,q⟩;rw[Jj,List.length_singleton]
  grind
def rExtend:V->List V->Hp->VK->Prop:=λx d H Q=>∃ l b c a,x=.ref l/\d=[.ref b]/\H l=some (.lst c)/\H b=some (.lst a)/\c.length+a.length<=sizeLine/\Q .non (upd H l (.lst (c++a)))
theorem jP:MtM X "list.extend" rExtend:=by
  intro pins s σ H x B v C Q I i j h;obtain⟨l,b,A,w,rfl,rfl,g,p,D,q⟩:=h;cases i;obtain⟨u,rfl,k⟩:=j.one;cases k;obtain⟨z,c,n,r,E,e⟩:=I.lstM g;obtain⟨y,a,o,m,t,e2⟩:=I.lstM p;have f:c.toArray.size+a.toArray.size<=sizeLine:=by rw[Jd,Jd];simp_all
  have d:¬(!c.toArray.isEmpty && Builtin.List.listTooLong (c.toArray.size+a.toArray.size))=true:=by
    rw[oI f,Bool.and_false];exact Jp
  refine call_meets F.slot_list_extend ⟨_,e,rfl⟩ F.entry_list_extend (F.args_list_extend_2 _ _)
    (AutoSeq1.list_extend_list_list_0 l c.toArray n b a.toArray o d (by rw[Jd];simp_all) (by lia)) ⟨e,e2,?_⟩
  refine⟨.non,_,I.lset (its':=c++a) g e (by simp) (r.append m) ?_,rfl,q⟩;rw[Jj];omega
def rPop:V->List V->Hp->VK->Prop:=λx b H Q=>∃ l a y,x=.ref l/\b=[]/\H l=some (.lst a)/\a[a.length-1]?=some y/\Q y (upd H l (.lst a.dropLast))
theorem bi:MtM X "list.pop" rPop:=by
  intro pins s σ H x p v t Q I f g h;obtain⟨l,o,y,rfl,rfl,d,j,q⟩:=h;cases f;have c:=g.zero;subst c;obtain⟨z,a,n,r,m,e⟩:=I.lstM d;obtain⟨u,k,i⟩:=r.get j
  have b:a.toArray[a.toArray.size-1]?=some u:=by
    show a.toArray[a.length-1]?=some u;rw[<- Y2,<- m];exact k
  refine call_meets F.slot_list_pop ⟨_,e,rfl⟩ F.entry_list_pop (F.args_list_pop_1 _) (MeetsSeq.list_pop_last l a.toArray n u b (by rw[Jd];simp_all)) ⟨e,?_⟩;refine⟨y,_,I.lset (its':=a.dropLast) d e ?_ r.dropLast ?_,i,q⟩
  · show a.toArray.eraseIdxIfInBounds (a.toArray.size-1)=a.dropLast.toArray
    rw[Jd,List.eraseIdxIfInBounds_toArray,mf]
  · rw[List.length_dropLast]
    grind
def rPopAt:V->List V->Hp->VK->Prop:=λx b H Q=>∃ l a i k y,x=.ref l/\b=[.int i]/\H l=some (.lst a)/\-(2 ^ 63)<=i/\i<2 ^ 63/\seqIndex? i a.length=some k/\a[k]?=some y/\Q y (upd H l (.lst (a.eraseIdx k)))
theorem gH:MtM X "list.pop" rPopAt:=by
  intro pins s σ H x D v E Q I f g h;obtain⟨l,d,i,k,y,rfl,rfl,c,C,B,A,m,q⟩:=h;cases f;obtain⟨u,rfl,j⟩:=g.one;obtain⟨t,rfl⟩:=j;obtain⟨z,a,n,r,p,e⟩:=I.lstM c;obtain⟨w,o,b⟩:=r.get m
  refine call_meets F.slot_list_pop ⟨_,e,rfl⟩ F.entry_list_pop (F.args_list_pop_2 _ _)
    (MeetsSeq.list_pop_at l a.toArray n i t k w (fitsIndex_both C B) (by rw[Jd,<- p];exact A) (by rw[<- Y2];exact o) (by rw[Jd];simp_all)) ⟨e,?_⟩
  refine⟨y,_,I.lset (its':=a.eraseIdx k) c e ?_ (r.eraseIdx k) ?_,b,q⟩
  · show a.toArray.eraseIdxIfInBounds k=(a.eraseIdx k).toArray
    rw[List.eraseIdxIfInBounds_toArray]
  · have:=rW d k
    lia
def za0:R2:=λx y H Q=>∃ l b c a,x=.ref l/\y=.ref b/\H l=some (.lst c)/\H b=some (.lst a)/\c.length+a.length<=sizeLine/\∀ p,H p=none->Q (.ref p) (upd H p (.lst (c++a)))
theorem wV:OpR X (binaryOp .Add) za0:=by
  intro pins s σ H x y v u Q I f d h;obtain⟨l,b,t,o,rfl,rfl,i,j,A,q⟩:=h;cases f;cases d;obtain⟨z,c,n,r,B,e⟩:=I.lstM i;obtain⟨p,a,w,g,m,e2⟩:=I.lstM j;refine PySem.P.add_list e e2 ?_ (by rw[Jd,Jd];simp_all);have k:c.toArray++a.toArray=(c++a).toArray:=by simp
  rw[k];exact⟨.ref _,_,I.lnew (t':=s.toks) (r.append g) (by rw[Jj];omega),rfl,q _ I.fresh⟩
def zaX:R2:=λx y H Q=>∃ l k a,x=.ref l/\y=.int k/\H l=some (.lst a)/\-(2 ^ 63)<=k/\k<2 ^ 63/\a.length*k.toNat<=sizeLine /\
  ∀ p,H p=none->Q (.ref p) (upd H p (.lst (List.replicate k.toNat a).flatten))
theorem dy {α:Type}(xs:List α)(k:Nat):(List.replicate k xs).flatten.length=k*xs.length:=by
  induction k with
  | zero=>simp
  | succ k ih=>rw[Yr,Z7,Jj,ih,Nat.succ_mul,Nat.add_comm]
theorem qh:OpR X (binaryOp .Mult) zaX:=by
  intro pins s σ H x y v u Q I A w h;obtain⟨l,k,J,rfl,rfl,C,E,D,o,q⟩:=h;cases A;obtain⟨t,rfl⟩:=w;obtain⟨z,b,n,r,B,e⟩:=I.lstM C;have hlen:b.toArray.size*k.toNat<=sizeLine:=by rw[Jd,<- B];exact o
  have g:¬ b.toArray.size*k.toNat > (2 ^ 63-1) / 8:=by
    have:(sizeLine:Nat)<=(2 ^ 63-1) / 8:=by decide
    lia
  have f:¬(!Builtin.List.listFitsIndex k)=true:=by
    rw[fitsIndex_both E D];exact Jp
  have c:¬ Builtin.List.listTooLong (b.toArray.size*k.toNat)=true:=by
    rw[oI hlen];exact Jp
  have d:List.foldl (λj i=>j++i) #[] (List.replicate (if b.toArray.isEmpty=true then 0 else k.toNat) b.toArray)=(List.replicate k.toNat b).flatten.toArray:=by
    have G:∀ m:Nat,List.foldl (λj i=>j++i) #[] (List.replicate m b.toArray)=(List.replicate m b).flatten.toArray:=λm=>by
      have:=rY b m [];rw[YH]at this;exact this
    rw[G]
    cases b with
    | nil=>simp
    | cons a K=>rw[Ja (by simp)]
  refine wpAny_binaryOp_repeat_ref (T:="list") (U:="int") (by decide) ⟨_,e,rfl⟩ (λp=>typeIs_int p k t) noFill_list_mul F.fills_int_mul F.slot_int_rmul repeat_list F.slot_int_index.lookup
    (call_meets F.slot_int_rmul (typeIs_int s k t) F.entry_int_rmul (F.args_int_rmul_2 _ _) (int___rmul___int_list k t l b.toArray n)
      ⟨e,rfl,⟨_,e,rfl⟩,call_meets F.slot_list_mul ⟨_,e,rfl⟩ F.entry_list_mul (F.args_list_mul_2 _ _) (AutoListH.list___mul___list_int_3 l b.toArray n k t f g c) ⟨e,?_⟩⟩)
  rw[d];exact⟨.ref _,_,I.lnew (t':=s.toks) (r.rep k.toNat) (by rw[dy,Nat.mul_comm];exact o),rfl,q _ I.fresh⟩
end
end L2
namespace Att
open PySem PySem.W PySem.Calls PyProof.Rows
theorem ut {P:Params}{h:Heap}:∀ (ns:List Int) (vs:List Value),WellAll P h vs (ns.map WData.int)->IntsAre vs ns:=by
  intro ns
  induction ns with
  | nil =>
    intro vs w;rw[List.map_nil]at w;cases w
    exact .nil
  | cons n ns ih =>
    intro vs w;rw[Y5]at w
    cases w with
    | cons a b =>
      cases a;exact .cons _ _ (ih _ b)
theorem kq {l:OpenLaw}{n:Nat}(hn:l.most=some n){P:Params}{h:Heap}{args:List WData}{vals:List Value}(b:l.row.toRowW.claim.pre args=true)(g:WellAll P h vals args) :
    ∃ a vs ns,vals=[Value.ref a]/\args=[WData.list (ns.map WData.int)]/\h.get? a=some { cls:=.type "list",data:=.seq vs.toArray }/\IntsAre vs ns/\ns.length<=n:=by
  have i:WShape.hasAll [] args [.list .int]=true:=(pre_splitW b).1;have j:l.pre.holds [] { args:=args }=true:=(pre_splitW b).2;obtain⟨d,r,rfl,u,t⟩:=hasAllW_cons i;obtain rfl:=hasAllW_nil t;obtain⟨v,rfl,s⟩:=hasW_list u;obtain⟨ns,rfl⟩:=items_int s
  have hlen:ns.length<=n:=by
    unfold OpenLaw.pre at j
    have f:(WTm.not (.lt (.lit (.int (n:Int))) (.len (.arg 0)))).holds [] { args:=[.list (ns.map .int)] }=true:=by
      have f:=(holds_andW j).1;rw[hn]at f;exact f
    have e:=condW_of f (w_not (w_lt w_lit (w_len_list (w_arg rfl))));rw[Je]at e;refine Nat.le_of_not_lt λq=>?_;have o:(n:Int)<((ns.length:Nat):Int):=by simp_all
    first
      | (rw[JA o]at e;exact absurd e (by decide))
      | (simp at e;omega)
  cases g with
  | cons m k =>
    cases k
    cases m with
    | list p c=>exact⟨_,_,ns,rfl,rfl,p,ut ns _ c,hlen⟩
theorem jD (l:OpenLaw)(args:List WData):l.row.toRowW.claim.post args (.bool true) args=true :=
  postW_of (r:=l.row.toRowW) (X:=(true == true))
    (show WShape.has [] (.bool true) .bool=true by first|rfl|decide|simp[WShape.has,WShape.arms,WShape.armsAll])
    (show (WTm.eq .res (.lit (.bool true))).value [] { args:=args,res:=some (.bool true),after:=args }=some (.bool (true == true)) from w_eq_bool (w_res rfl) w_lit) rfl
theorem attach_call {l:OpenLaw}{n:Nat}{q:Program}{loose:List Str}{t:(Str->Option Value)->Heap->Prop}{s:World->Heap->Prop}{d:DefRec}
    (hn:l.most=some n) (k:d.params.defaults=[])
    (call:∀ (w:World) (s₀ b:Shared) (mg mb:Str->Option Value) (c:Addr) (o:Obj) (pm cd doc:Value) (a:Addr) (vs:List Value) (ns:List Int),
      Ground q loose [] t w s₀ mg mb b.heap->s w b.heap ->
      b.heap.get? c=some o->o.data=.func (docDef d.name d.params d.body d.scope pm cd doc)->b.heap.CodeRec cd d.name->mg d.name=some (.ref c) ->
      b.heap.get? a=some { cls:=.type "list",data:=.seq vs.toArray }->IntsAre vs ns->ns.length<=n->b.gens = #[] ->
      codeAny (model l.prog w) callerA (.call (.ref c) ⟨[.ref a],[]⟩) (λr h=>r=.ok (.ret (.bool true))/\OldK b.heap h.heap/\h.os=b.os/\AllBare h.gens) b) :
    WalkO q loose t s l.row.toRowW d [] (λf vs=>PySem.call f vs):=by
  intro w s₀ b mg mb G Y c o pm cd doc E kV x A m p j z args vals as e u F i H;obtain rfl:E=.none:=Dflts.none p k;obtain rfl:kV=.none:=Dflts.noKw p;obtain⟨a,vs,ns,rfl,rfl,g,hints,hlen⟩:=kq hn e i;refine enter_call (codeAny_mono (call w s₀ b mg mb c o pm cd doc a vs ns G Y x (fd_plain A) m j g hints hlen z) λr h v=>?_);obtain⟨rfl,D,C,B⟩:=v;exact⟨.inl ⟨.bool true,.bool true,[],rfl,λ_=>rfl,.bool true,jD l _,λ_=>⟨List.Pairwise.nil,λ_ y=>(nomatch y)⟩⟩,D,C,B⟩
section
def za6 (h:Heap)(L d:Addr):List (Addr × Obj):=(List.range h.objs.size).filterMap λa=>if a=L\/a=d then none else (h.get? a).map λo=>(a,o)
end
end Att
namespace L2
open PySem PySem.Spec PyProof.Rows
theorem rK:∀ {vs:List Value}{ns:List Int},IntsAre vs ns->Vals (ns.map V.int) vs
  | _,_,.nil=>.nil
  | _,_,.cons n t h=>.cons ⟨t,rfl⟩ (rK h)
def Only (H:Hp):Prop:=∀ b,H b=none\/∃ o a,H b=some (.frz o (.lst a))
theorem gU {P:Program}{w:World}{K:PySem.W.Frag}{mg mb:Str->Option Value}{CX:CXT}{k:Nat}{I a:Addr}{fd:FuncData}{x:Str}{sp:Sp}{c:Shared}{vs:List Value}{ns:List Int}
    (X:K.In c.heap) (A:c.heap.Ns mainGlobals mg) (hb:c.heap.Ns builtinsNs mb) (N:∀ x:Str,x≠"__name__"->mb x=bootBuiltins x) (E:c.heap.NoLimit) (hg:c.gens = #[])
    (ha:c.heap.get? a=some { cls:=.type "list",data:=.seq vs.toArray }) (S:IntsAre vs ns) (R:ns.length<=sizeLine) (hr:Room k callerA)
    (F:∀ base:Heap,K.In base->base.Ns mainGlobals mg->FnOk P w K mg base CX k I fd [x] sp) (j:∀ (s:Shared) (u:Value),BindsTo s fd ⟨[u],[]⟩ [(x,u)])
    (M:∀ H:Hp,Only H->SqL K H a (ns.map V.int)->sp [.ref a] H (λv _=>v=.bl true) λ_ _ _=>False)
    (O:∀ H e g,CX [] H c (λ_ _ _=>False) e g->False) :
    codeAny (model P w) callerA (.call (.ref I) ⟨[.ref a],[]⟩) (λr g=>r=.ok (.ret (.bool true))/\OldK c.heap g.heap/\g.os=c.os/\AllBare g.gens) c:=by
  have Q:=rK S;have C:=S.length
  have core:∀ H:Hp,Only H->SqL K H a (ns.map V.int)->HOk P w H c.heap->(∀ b,H b≠none->b=a)->(H a≠none->K.lookup a=none) ->
      codeAny (model P w) callerA (.call (.ref I) ⟨[.ref a],[]⟩) (λr g=>r=.ok (.ret (.bool true))/\OldK c.heap g.heap/\g.os=c.os/\AllBare g.gens) c:=by
    intro H T hS y U hK;have f:∀ {b:Addr}{o:Obj},c.heap.get? b=some o->H b=none->(qw c.heap H).get? b=some o:=λe n=>ga e n
    have L:∀ {b:Addr}{o:Obj}{p:Array DictEntry}{t:Nat},c.heap.get? b=some o->o.data=.dict p t->H b=none:=λ{b o p t} e d=>by
      cases q:H b with
      | none=>rfl
      | some u =>
        have J:b=a:=U b (by rw[q];simp);subst J;rw[ha]at e;cases e;have d':Data.seq vs.toArray _=Data.dict p t:=d;cases d'
    have i:∀ {b:Addr}{m:Str->Option Value},c.heap.Ns b m->(qw c.heap H).Ns b m:=λ{b m} ⟨o,p,t,e,d,r⟩=>⟨o,p,t,f e (L e d),d,r⟩
    have B:K.In (qw c.heap H):=λb o e=>f (X b o e) (by
      cases q:H b with
      | none=>rfl
      | some u =>
        have J:b=a:=U b (by rw[q];simp);subst J
        rw[hK (by rw[q];simp)]at e;cases e)
    have hM:Mod K mg (qw c.heap H):=⟨B,i A,⟨mb,i hb,N⟩,let ⟨mc,h1,h2⟩:=E;⟨mc,i h1,h2⟩⟩;have e0:Env0 P w K mg (qw c.heap H) callerA [] c H:=⟨rfl,hM,λb o e=>df e,Nat.le_of_eq (jc _ _),trivial,λb hb=>absurd (show b∈([]:List Addr) from hb) (by simp),y,.of_eq hg⟩;refine codeAny_mono ((F _ B (i A)).run callerA [] c H ⟨[.ref a],[]⟩ [.ref a] [.ref a] _ _ hr e0 (j c (.ref a)) (.cons rfl .nil) (M H T hS)) λr g h=>?_
    cases r with
    | error e=>exact(O H e g h).elim
    | ok fl =>
      cases fl with
      | next=>exact False.elim h
      | brk=>exact False.elim h
      | cont=>exact False.elim h
      | ret u =>
        obtain⟨v,H',os,bare,un,D,Z,q⟩:=h;have q':v=.bl true:=q;subst q';obtain rfl:u=Value.bool true:=Z;refine⟨rfl,OldK.of_keep λb o e=>?_,os,bare⟩
        cases q:H b with
        | none=>exact un.keep b o e q (by intro z;exact absurd (show b∈([]:List Addr) from z) (by simp)) (by simp)
        | some u =>
          rcases T b with z|⟨ob,xs,z⟩
          · rw[q]at z;cases z
          · have Y:=un.frzs b ob _ z
            obtain⟨W,_⟩:=y b _ z;obtain⟨e2,_⟩:=D b _ Y;rw[e]at W;cases W;exact e2
  cases G:K.lookup a with
  | some o =>
    have e:=X a o G;rw[ha]at e;cases e
    refine core (λ_=>none) (λ_=>.inl rfl) (.inr ⟨_,vs.toArray,_,G,rfl,rfl,rfl,by rw[Jd,C];exact R,by simpa using Q⟩) (λb u z=>by have l:(none:Option HO)=some u:=z;cases l) (λb z=>absurd rfl z) λz=>absurd rfl z
  | none =>
    refine core (λb=>if b=a then some (.frz { cls:=.type "list",data:=.seq vs.toArray } (.lst (ns.map V.int))) else none) (λb=>?_) (.inl (.inr ⟨{ cls:=.type "list",data:=.seq vs.toArray },Jb rfl⟩)) (λb u z=>?_) (λb z=>?_) λ_=>G
    · by_cases hb:b=a
      · exact .inr ⟨_,_,Jb hb⟩
      · exact .inl (Ja hb)
    · by_cases hb:b=a
      · have l:=(Jb hb).symm.trans z
        cases l;subst hb;exact⟨ha,by rw[Je];exact R,vs,_,Q,ha⟩
      · have l:=(Ja hb).symm.trans z
        cases l
    · by_cases hb:b=a
      · exact hb
      · exact absurd (Ja hb) z
abbrev KOf {K:PySem.W.Frag}{h:Heap}(_:K.In h):PySem.W.Frag:=K
theorem eA {l:PySem.W.OpenLaw}{n k:Nat}{q:Program}{loose:List Str}{M:(Str->Option Value)->Heap->Prop}{y:World->Heap->Prop}{d:DefRec}{K:Params->PySem.W.Frag}{CX:World->CXT}{sp:World->Sp}{x:Str}(hn:l.most=some n)(m:n<=sizeLine)(r:d.params.defaults=[])(B:Room k callerA)(E:∀ (w:World) (h:Heap),y w h->(K w.params).In h)(F:∀ (w:World) (mg:Str->Option Value) (g:Addr) (h:Heap),(K w.params).In h->h.Ns mainGlobals mg->mg d.name=some (.ref g) ->
      ∃ fd:FuncData,(∀ (s:Shared) (u:Value),BindsTo s fd ⟨[u],[]⟩ [(x,u)]) /\
        ∀ base:Heap,(K w.params).In base->base.Ns mainGlobals mg->FnOk l.prog w (K w.params) mg base (CX w) k g fd [x] (sp w))(j:∀ (w:World) (H:Hp) (a:Addr) (ns:List Int),ns.length<=n->Only H->SqL (K w.params) H a (ns.map V.int)->sp w [.ref a] H (λv _=>v=.bl true) λ_ _ _=>False)(t:∀ (w:World) (H:Hp) (s:Shared) (e:Value) (i:Shared),CX w [] H s (λ_ _ _=>False) e i->False) :
    PySem.W.WalkO q loose M y l.row.toRowW d [] (λf vs=>PySem.call f vs):=by
  refine Att.attach_call hn r λw A b mg O g o pm cd doc a vs ns G Y P Q N p c hints hlen C=>?_;have z:=E w _ Y;obtain⟨fd,D,L⟩:=F w mg g _ z G.T.g p;exact gU z G.T.g G.T.b G.T.builtins G.T.nolimit C c hints (JM hlen m) B L D (λH J I=>j w H a ns hlen J I) λH e i=>t w H b e i
theorem j3 {l:PySem.W.OpenLaw}{n k:Nat}{q:Program}{loose:List Str}{A:(Str->Option Value)->Heap->Prop}{o:World->Heap->Prop}{d:DefRec}{K:Params->PySem.W.Frag}{CX:CXT}{sp:PySem.W.Frag->Sp}{x:Str}(hn:l.most=some n)(g:n<=sizeLine)(i:d.params.defaults=[])(p:Room k callerA)(r:∀ (w:World) (h:Heap),o w h->(K w.params).In h)(F:∀ (w:World) (mg:Str->Option Value) (m:Addr) (h:Heap),(K w.params).In h->h.Ns mainGlobals mg->mg d.name=some (.ref m) ->
      ∃ fd:FuncData,(∀ (s:Shared) (u:Value),BindsTo s fd ⟨[u],[]⟩ [(x,u)]) /\
        ∀ base:Heap,(K w.params).In base->base.Ns mainGlobals mg->FnOk l.prog w (K w.params) mg base CX k m fd [x] (sp (K w.params)))(c:∀ (K:PySem.W.Frag) (H:Hp) (a:Addr) (ns:List Int),ns.length<=n->Only H->SqL K H a (ns.map V.int)->sp K [.ref a] H (λv _=>v=.bl true) λ_ _ _=>False)(j:∀ (H:Hp) (s:Shared) (e:Value) (b:Shared),CX [] H s (λ_ _ _=>False) e b->False) :
    PySem.W.WalkO q loose A o l.row.toRowW d [] (λf vs=>PySem.call f vs) :=
  eA (K:=K) (CX:=λ_=>CX) (sp:=λw=>sp (K w.params)) hn g i p r F (λw H a ns z y t=>c (K w.params) H a ns z y t) λ_ H s e b=>j H s e b
def wZ (s:Stmt)(j:Nat):Stmt:=match s with
  | .ClassDef _ _ _ body _ _ _ _ _ _ _=>body.getD j (.Pass ⟨0,0,0,0⟩)
  | _=>.Pass ⟨0,0,0,0⟩
def wE (s:Stmt):Arguments:=match s with
  | .FunctionDef _ a _ _ _ _ _ _ _ _=>a
  | _=>{ posonlyargs:=[],args:=[],vararg:=none,kwonlyargs:=[],kw_defaults:=[],kwarg:=none,defaults:=[] }
def xM (s:Stmt):List Stmt:=match s with
  | .FunctionDef _ _ b _ _ _ _ _ _ _=>b
  | _=>[]
def zP (s:Stmt):Scope:=match s with
  | .FunctionDef _ _ _ _ _ _ sc _ _ _=>sc
  | _=>{ kind:=.function,names:=[],isGenerator:=false,isCoroutine:=false }
abbrev CX0:CXT:=λ_ _ _ _ _ _=>False
abbrev E0:XK:=λ_ _ _=>False
theorem zZ {X:Cx}:Passes CX0 X E0:=λ_ _ _ _ _ _ _ h=>h.elim
structure Fun (K:PySem.W.Frag) (x qual:Str) (st:Stmt) (f:Addr) (fd:FuncData):Prop where
  ex:∃ (oc:Value) (od:Option Addr) (kV doc pm:Value) (an:Option Addr) (cdv ct:Value) (osl:Array (Option Value)),
    fd=PySem.W.fnOf x qual (wE st) (xM st) (zP st) .none kV doc pm an cdv ct/\K.lookup f=some ⟨oc,od,.func fd,osl⟩/\PySem.W.codeIn K cdv qual=true
  kp:PySem.W.keepIn K (.ref f)=true
section
variable {P:Program}{w:World}{K:PySem.W.Frag}{mg:Str->Option Value}{base:Heap}
theorem Fun.ok {x qual:Str}{st:Stmt}{f:Addr}{fd:FuncData}{N ps:List Str}{k:Nat}{sp:Sp}(F:Fun K x qual st f fd)(S:FnScope N ps (zP st))(len:∀ vs H Q E,sp vs H Q E->vs.length=ps.length)(a:∀ (cdv:Value) (A:Around) (outer:List Env) (s:Shared) (H:Hp) (vs:List V) (Q:VK) (E:XK),Room k (A.deeper (envOfC qual (zP st) s.heap.objs.size f cdv))->sp vs H Q E ->
      ∃ t,PSs (mn CX0 P w K mg base N qual (zP st) f cdv A outer s H E).nox (xM st) t/\t { nx:=λ_ g=>Q .non g,rt:=Q } (start N vs) H):FnOk P w K mg base CX0 (k+1) f fd ps sp:=by
  obtain⟨l,j,kV,doc,pm,an,cdv,m,i,rfl,d,c⟩:=F.ex;refine zal d c S len λA outer s H vs Q E e b=>?_;obtain⟨t,h,q⟩:=a cdv A outer s H vs Q E e b;exact⟨t,h.nox,q⟩
theorem Fun.binds {x qual:Str}{st:Stmt}{f:Addr}{fd:FuncData}{ps:List Str}(F:Fun K x qual st f fd)(h:∀ (kV doc pm:Value) (an:Option Addr) (cdv ct:Value) (us:List Value),us.length=ps.length->bindArgs (PySem.W.fnOf x qual (wE st) (xM st) (zP st) .none kV doc pm an cdv ct) ⟨us,[]⟩=pure (ps.zip us)):Binds K fd ps []:=by
  obtain⟨d,c,kV,doc,pm,an,cdv,ct,a,rfl,e,b⟩:=F.ex;exact .all (h kV doc pm an cdv ct)
theorem gk {x qual:Str}{st:Stmt}{f:Addr}{oc:Value}{od an:Option Addr}{osl:Array (Option Value)}{kV doc pm cdv ct:Value}(l:K.lookup f=some ⟨oc,od,.func (PySem.W.fnOf x qual (wE st) (xM st) (zP st) .none kV doc pm an cdv ct),osl⟩)(c:PySem.W.codeIn K cdv qual=true)(k:PySem.W.keepIn K (.ref f)=true):Fun K x qual st f (PySem.W.fnOf x qual (wE st) (xM st) (zP st) .none kV doc pm an cdv ct):=⟨⟨oc,od,kV,doc,pm,an,cdv,ct,osl,rfl,l,c⟩,k⟩
end
section
variable {X:Cx}
theorem pv (i:Nat) {x:Str}{pos:Pos}(d:X.N[i]?=some x:=by rfl) (b:Vis X.env.scope x:=by first|exact Or.inl rfl|exact Or.inr (.inl rfl)|exact Or.inr (.inr rfl)) (c:(x == ("__debug__":Str))=false:=by decide)
    (a:(x == ("__classdict__":Str))=false:=by decide):PE X (.Name x pos) (iC i):=bR d b c a
theorem qv (i:Nat) {x:Str}{pos:Pos}(h:X.N[i]?=some x/\Vis X.env.scope x/\(x == ("__debug__":Str))=false/\(x == ("__classdict__":Str))=false):PE X (.Name x pos) (iC i):=bR h.1 h.2.1 h.2.2.1 h.2.2.2
end
theorem yK {A B:Prop}(h:B):if false=true then A else B:=by
  rw[Ja Jp];exact h
theorem xO {A B:Prop}(h:A):if true=true then A else B:=by
  rw[Jb rfl];exact h
theorem bw {c A B:Prop}[Decidable c](b:c->A)(a:¬ c->B):if c then A else B:=by
  by_cases h:c
  · rw[Jb h]
    exact b h
  · rw[Ja h]
    exact a h
def Same (H H':Hp):Prop:=∀ b o,H b=some o->H' b=some o
theorem Same.refl (H:Hp):Same H H:=λ_ _ h=>h
theorem Same.trans {H e d:Hp}(a:Same H e)(b:Same e d):Same H d:=λc o h=>b c o (a c o h)
theorem Same.seq {K:PySem.W.Frag}{H H':Hp}{a:Addr}{xs:List V}(e:Same H H')(h:SqL K H a xs):SqL K H' a xs:=by
  rcases h with (h|⟨o,h⟩)|h
  · exact .inl (.inl (e _ _ h))
  · exact .inl (.inr ⟨o,e _ _ h⟩)
  · exact .inr h
end L2
set_option maxHeartbeats 4000001
namespace L2
open PySem PySem.Spec PyProof.Rows
def va (cells:List (Str × Addr)):List (Str × NameKind)->List (Str × Addr)->List (Str × Addr)
 | [],cs=>cs
 | (n,k)::r,cs=>if k == .free then va cells r ((n,(cells.lookup n).getD 0)::cs) else va cells r cs
theorem su {env:Env}:∀ (names:List (Str × NameKind)) (cs:List (Str × Addr)),(∀ y∈names,y.2=.free->∃ c,env.cells.lookup y.1=some c) ->
  (forIn names cs λx r=>match x with|(name,kind)=>if (kind == NameKind.free)=true then (do let a <- cellOf env name;pure (ForInStep.yield ((name,a)::r))) else pure (ForInStep.yield r):Sem (List (Str × Addr)))=pure (va env.cells names cs)
 | [],cs,_=>rfl
 | (n,k)::r,cs,h=>by
  rw[Zu];by_cases e:(k == NameKind.free)=true
  ·obtain⟨c,hc⟩:=h (n,k) Ju (by simpa using e)
   have d:cellOf env n=pure c:=by
    have b:env.cells.lookup n=some c:=hc;unfold cellOf;rw[b]
   simp only[e,Yz,d,pure_bind];rw[su r _ λy f=>h y (Jr _ f)];have b:env.cells.lookup n=some c:=hc;show _=pure (if (k == NameKind.free)=true then _ else _);rw[Jb e,b];rfl
  ·have g:(k == NameKind.free)=false:=by simpa using e
   simp only[g,Y6,Z6,pure_bind];rw[su r _ λy f=>h y (Jr _ f)];show _=pure (if (k == NameKind.free)=true then _ else _);rw[Ja e]
theorem ss {scope:Scope}{env:Env}(h:∀ y∈scope.names,y.2=.free->∃ c,env.cells.lookup y.1=some c):closureFor scope env=pure (va env.cells scope.names []):=by
 unfold closureFor;show (forIn scope.names [] _ >>= λr=>pure r)=_;rw[bind_pure];exact su _ _ h
theorem uD {cells:List (Str × Addr)}:∀ (names:List (Str × NameKind)) (cs:List (Str × Addr)) (x:Str) (c:Addr),(∀ y∈names,y.2=.free->∃ c,cells.lookup y.1=some c) ->
  (∀ x c,cs.lookup x=some c->cells.lookup x=some c)->(va cells names cs).lookup x=some c->cells.lookup x=some c
 | [],cs,x,c,_,hs,e=>hs x c e
 | (n,k)::r,cs,x,c,h,hs,e=>by
  unfold va at e;by_cases q:(k == NameKind.free)=true
  ·rw[Jb q]at e
   obtain⟨l,j⟩:=h (n,k) Ju (by simpa using q);refine uD r _ x c (λy f=>h y (Jr _ f)) (λd m a=>?_) e;rw[ZC]at a
   cases g:d == n with
   | true =>
    rw[g]at a;have i:d=n:=by simpa using g
    subst i;have b:cells.lookup d=some l:=j;rw[b]at a ⊢
    exact a
   | false =>
    rw[g]at a;exact hs d m a
  ·rw[Ja q]at e
   exact uD r _ x c (λy f=>h y (Jr _ f)) hs e
theorem uW {cells:List (Str × Addr)}:∀ (names:List (Str × NameKind)) (cs:List (Str × Addr)) (x:Str),(∃ c,cs.lookup x=some c)->∃ c,(va cells names cs).lookup x=some c
 | [],cs,x,e=>e
 | (n,k)::r,cs,x,e=>by
  unfold va;by_cases q:(k == NameKind.free)=true
  ·rw[Jb q]
   refine uW r _ x ?_;rw[ZC]
   cases a:x == n with
   | true=>exact⟨_,rfl⟩
   | false=>exact e
  ·rw[Ja q]
   exact uW r _ x e
theorem wR {cells:List (Str × Addr)}:∀ (names:List (Str × NameKind)) (cs:List (Str × Addr)) (x:Str),names.lookup x=some .free->∃ c,(va cells names cs).lookup x=some c
 | [],cs,x,e=>by simp at e
 | (n,k)::r,cs,x,e=>by
  rw[ZC]at e;unfold va
  cases a:x == n with
  | true =>
   rw[a]at e;have b:k=.free:=Jv e;subst b;rw[Jb (by decide)];refine uW r _ x ?_;rw[ZC,a]
   exact⟨_,rfl⟩
  | false =>
   rw[a]at e;by_cases q:(k == NameKind.free)=true
   ·rw[Jb q];exact wR r _ x e
   ·rw[Ja q];exact wR r _ x e
def fh (env:Env)(p:Str × NameKind):Bool:=p.2 == .free && env.scope.kind == .function && env.kindOf p.1 == some .cell
def vE (env:Env)(p:Str × NameKind):Str × NameKind:=if fh env p=true then (p.1,.cell) else p
theorem ul (env:Env)(p:Str × NameKind):(vE env p).1=p.1:=by unfold vE;split<;>rfl
theorem uk (env:Env)(p:Str × NameKind):(vE env p).2=p.2\/((vE env p).2=.cell/\p.2=.free):=by
 unfold vE;split
 ·rename_i h
  refine .inr ⟨rfl,?_⟩;unfold fh at h;cases e:p.2<;>simp[e]at h<;>rfl
 ·exact .inl rfl
theorem vJ (scope:Scope)(env:Env):(relabel scope env).names=scope.names.map (vE env):=rfl
theorem sO {f:Str × NameKind->Str × NameKind}(a:∀ p,(f p).1=p.1):∀ (l:List (Str × NameKind)) (x:Str),(l.map f).lookup x=none/\l.lookup x=none\/∃ p∈l,(l.map f).lookup x=some (f p).2/\l.lookup x=some p.2
 | [],_=>.inl ⟨rfl,rfl⟩
 | p::r,x=>by
  have c:((p::r).map f).lookup x=if x == p.1 then some (f p).2 else (r.map f).lookup x:=by
   show List.lookup x (((f p).1,(f p).2)::r.map f)=_;rw[ZC,a p];cases x == p.1<;>rfl
  have e2:(p::r).lookup x=if x == p.1 then some p.2 else r.lookup x:=by
   show List.lookup x ((p.1,p.2)::r)=_;rw[ZC];cases x == p.1<;>rfl
  rw[c,e2];cases x == p.1
  ·rcases sO a r x with z|⟨q,b,z⟩
   ·exact .inl z
   ·exact .inr ⟨q,Jr _ b,z⟩
  ·exact .inr ⟨p,Ju,rfl,rfl⟩
theorem xW {scope:Scope}{env:Env}{x:Str}{k':NameKind}(h:(relabel scope env).names.lookup x=some k'):scope.names.lookup x=some k'\/(k'=.cell/\scope.names.lookup x=some .free):=by
 rw[vJ]at h;rcases sO (ul env) scope.names x with ⟨z,_⟩|⟨p,_,z,e⟩
 ·rw[z]at h;cases h
 ·rw[z]at h
  obtain rfl:=Jv h;rcases uk env p with q|⟨q,a⟩
  ·rw[q];exact .inl e
  ·exact .inr ⟨q,by rw[e,a]⟩
theorem vg {scope:Scope}{env:Env}{x:Str}(h:scope.names.lookup x=some .free):(relabel scope env).names.lookup x=some .cell\/(relabel scope env).names.lookup x=some .free:=by
 rw[vJ];rcases sO (ul env) scope.names x with ⟨_,z⟩|⟨p,_,z,e⟩
 ·rw[z]at h;cases h
 ·rw[e]at h
  rcases uk env p with q|⟨q,_⟩
  ·rw[z,q,h];exact .inr rfl
  ·rw[z,q];exact .inl rfl
def yW (X:Cx)(N':List Str)(scope:Scope)(C:Addr)(s₀:Shared)(H₀:Hp)(fp:List Addr)(pins:List (Addr × Obj)):Cx :=
 { X with N:=N',s₀:=s₀,H₀:=H₀,env:=compEnvC scope (va X.env.cells scope.names []) C X.env,outer:=X.stack,stack:=X.stack,ex:=fp,fn:=λ_=>false,pn:=X.pn++pins,xe:=λ_ _=>False }
def ju (cap:List (Option Nat))(σ:St):St:=cap.map λo=>match o with|some i=>(match σ[i]? with|some v=>v|none=>none)|none=>none
def tst (M:Model)(A:Around)(env:Env)(E:Value->Shared->Prop)(o:Option Expr)(Q:Bool->Shared->Prop)(s:Shared):Prop:=match o with
 | none=>Q true s
 | some c=>wpAny M A (isTrue c env (eval c env)) Q E s
theorem pL {M:Model}{A:Around}{env:Env}{E:Value->Shared->Prop}{o:Option Expr}{Q a:Bool->Shared->Prop}{s:Shared}(h:tst M A env E o Q s)(k:∀ b z,Q b z->a b z):tst M A env E o a s:=by
 cases o with
 | none=>exact k _ _ h
 | some c=>exact thn h k
def PTo (X:Cx)(o:Option Expr)(t:TT):Prop :=
 ∀ (pins:List (Addr × Obj)) (s:Shared) (σ:St) (H:Hp) (Q:Bool->Hp->Prop),Inv X pins σ H s->t σ H Q->tst (model X.prog X.w) X.A X.env X.xe o (TP X pins σ Q) s
def j9:TT:=λ_ H Q=>Q true H
theorem xX {X:Cx}:PTo X none j9:=λ_ _ _ H _ I h=>⟨H,I,h⟩
theorem eR {X:Cx}{c:Expr}{t:TT}(h:PT X c t):PTo X (some c) t:=λpins s σ H Q I a=>h pins s σ H Q I a
abbrev NoX:Value->Shared->Prop:=λ_ _=>False
def Go (M:Model)(A:Around)(tg elt:Expr)(o:Option Expr)(it acc:Value)(env:Env)(R:Result->Shared->Prop)(g:Shared->Prop)(s:Shared):Prop :=
 wpAny M A (pyNext it) (λr a=>match r with
  | none=>R (.ok .next) a
  | some v=>wpAny M A (letOwnedTupleGo tg it v) (λ_ b=>wpAny M A (assign tg env v) (λ_ c=>tst M A env NoX o (λyes d =>
    if yes=true then wpAny M A (eval elt env) (λx e=>wpAny M A (call (.builtin "list.append") [acc,x]) (λ_ f=>g f) NoX e) NoX d else g d) c) NoX b) NoX a) NoX s
theorem jt {prog:Program}{w:World}{A:Around}{R:Result->Shared->Prop}{s:Shared}{elt tg iter:Expr}{o:Option Expr}{scope:Scope}{pos:Pos}{it acc:Value}{env:Env}(J:Nat->Shared->Prop)(turn:∀ n s,J n s->Go (model prog w) A tg elt o it acc env R (λz=>∃ m,m<n/\J m z) s)(n:Nat)(h:J n s) :
  codeAny (model prog w) A (.compLoop (.ListComp elt [⟨tg,iter,o.toList,0⟩] scope pos) 0 it acc env) R s:=by
 cases o with
 | none =>
  refine PySem.W.kcp_loop J (λn a l=>JU (turn n a l) (λr b g=>?_) λ_ _ z=>z.elim) n h
  cases r with
  | none=>exact g
  | some v=>exact JU g (λ_ c k=>JU k (λ_ d j=>JU (show wpAny _ _ _ _ _ d from j) (λx e i=>JU i (λ_ _ q=>q) λ_ _ z=>z.elim) λ_ _ z=>z.elim) λ_ _ z=>z.elim) λ_ _ z=>z.elim
 | some t =>
  refine PySem.W.kct_loop J (λn a l=>JU (turn n a l) (λr b g=>?_) λ_ _ z=>z.elim) n h
  cases r with
  | none=>exact g
  | some v =>
   refine JU g (λ_ c k=>JU k (λ_ d j=>JU (show wpAny _ _ _ _ _ d from j) (λyes e i=>?_) λ_ _ z=>z.elim) λ_ _ z=>z.elim) λ_ _ z=>z.elim;cases yes
   ·exact i
   ·exact JU (show wpAny _ _ _ _ _ e from i) (λx f p=>JU p (λ_ _ q=>q) λ_ _ z=>z.elim) λ_ _ z=>z.elim
structure CapOk (N N':List Str) (sc scope:Scope) (cap:List (Option Nat)):Prop where
 kind:scope.kind=.function
 nocell:∀ y∈scope.names,y.2≠.cell
 names:∀ y∈scope.names,y.2=.local -> scope.names.lookup y.1=some .local
 free:∀ y∈scope.names,y.2=.free->sc.names.lookup y.1=some .cell\/sc.names.lookup y.1=some .free
 len:cap.length=N'.length
 cap:∀ p∈N'.zip cap,∀ i,p.2=some i->N[i]?=some p.1/\scope.names.lookup p.1=some .free/\(sc.names.lookup p.1=some .cell\/sc.names.lookup p.1=some .free)
theorem vV {α:Type}:∀ {l:List (Str × α)}{x:Str}{a:α},l.lookup x=some a->(x,a)∈l
 | [],_,_,h=>by simp at h
 | (n,k)::r,x,a,h=>by
  rw[ZC]at h
  cases b:x == n with
  | true =>
   rw[b]at h;have e:k=a:=Jv h;have e2:x=n:=by simpa using b
   subst e e2
   exact Ju
  | false=>rw[b]at h;exact Jr _ (vV h)
def LCW (J:It)(g:TG)(tt:TT)(k:TE)(l:Addr)(Q:VK)(W:Nat->Nat->List V->St->Hp->Prop):Prop :=
 ∀ i m acc e c,W i m acc e c->c l=some (.lst acc) /\
  ((J.stop i c/\Q (.ref l) c)\/(J.go i c/\∀ x j,J.yld i c x j->g x e j λa n=>tt a n λb h =>
   if b=true then k a h λy f=>f l=some (.lst acc)/\acc.length<sizeLine/\∃ d,d<m/\W (i+1) d (acc++[y]) a (upd f l (.lst (acc++[y])))
   else ∃ d,d<m/\W (i+1) d acc a h))
def tLC (cap:List (Option Nat))(b:TI)(g:TG)(tt:TT)(c:TE):TE:=λσ H Q=>b σ H λJ a=>∀ l,a l=none ->
 ∃ W:Nat->Nat->List V->St->Hp->Prop,(∃ m,W 0 m [] (ju cap σ) (upd a l (.lst [])))/\LCW J g tt c l Q W
theorem lV {X:Cx}{elt tg iter:Expr}{o:Option Expr}{scope:Scope}{pos aC:Pos}{wi:TI}{g:TG}{tt:TT}{te:TE}{N':List Str}{cap:List (Option Nat)}{use:Option (Value->Sem Unit)}{Q0:Value->Shared->Prop}(hc:X.calm=true)(hi:PI X tg iter wi)(P:CapOk X.N N' X.env.scope scope cap)(hg:∀ C s₀ H₀ fp pins,PG (yW X N' scope C s₀ H₀ fp pins) tg g)(ht:∀ C s₀ H₀ fp pins,PTo (yW X N' scope C s₀ H₀ fp pins) o tt)(he:∀ C s₀ H₀ fp pins,PE (yW X N' scope C s₀ H₀ fp pins) elt te)(hs:∀ x,foldedSetIterable iter X.env x=pure x){pins:List (Addr × Obj)}{s:Shared}{σ:St}{H:Hp}{Q:VK}(I:Inv X pins σ H s)(h:tLC cap wi g tt te σ H Q)(fin:∀ (l C:Addr) (O:Hp) (U:Shared) (m:Str->Option Value),Inv X pins σ O U->Q (.ref l) O->U.heap.Ns C m->FpOk X pins O C->compPost (model X.prog X.w) X.A X.xe use Q0 (.ref l) C (.ok .next) U) :
  wpAny (model X.prog X.w) X.A (comprehension (.ListComp elt [⟨tg,iter,o.toList,0⟩] scope pos) scope X.env aC (newList []) false (eval iter X.env) use) Q0 X.xe s:=by
 have F:∀ y∈scope.names,y.2=.free->∃ c,X.env.cells.lookup y.1=some c:=λy hy hf=>I.ok.has y.1 (P.free y hy hf);refine wpAny_comprehension_free (use:=use) rfl hs (ss F) P.kind P.names (thn (hi pins s σ H _ I h) λv s1 h1=>thn h1 λcz A h2=>?_);obtain⟨it,fp,tn,J,H2,e,I2,T,a5,N,body⟩:=h2;subst e;have a3:H2 A.heap.objs.size=none:=I2.hok.fresh (Jf _);obtain⟨W,⟨m0,w0⟩,turn⟩:=body A.heap.objs.size a3;have k:Inv X pins σ (upd H2 A.heap.objs.size (.lst [])) { A with heap:=A.heap.push { cls:=.type "list",data:=.seq ([]:List Value).toArray },toks:=A.toks }:=I2.lnew (its:=[]) (t':=A.toks) .nil (JX _);refine Zy (wpAny_newFunctionEnv P.nocell (by intro y hy;simp at hy) (λw E D=>?_) P.kind);dsimp only at E D ⊢;generalize hl:A.heap.objs.size=l at *;generalize hP:A.heap.push { cls:=.type "list",dict:=none,data:=.seq ([]:List Value).toArray }=P2 at *;generalize b5:upd H2 l (.lst [])=H3 at *;have old:∀ b o,P2.get? b=some o->w.get? b=some o:=λb o e=>D.extBut b o (JH (Jc e)) (J8 _ e);have a0:∀ b o,A.heap.get? b=some o->P2.get? b=some o:=λb o e=>hP ▸ J8 _ e
 have bl:∀ b∈fp,b<l:=λb a=>by
  obtain⟨o,e,_⟩:=T.obj _ _ a5 b a;rw[<- hl];exact Jc e
 have b7:∀ b∈fp,H3 b=none:=λb a=>by
  rw[<- b5,zH (JH (bl b a))];exact(N b a).1
 have b4:P2.objs.size=l+1:=by rw[<- hP,Zh,hl]
 have t:∀ x c,(va X.env.cells scope.names []).lookup x=some c->X.env.cells.lookup x=some c:=λx c e=>uD _ _ x c F (λ_ _ z=>by simp at z) e;generalize a7:({ A with heap:=P2,toks:=A.toks }:Shared)=s3 at *;have f:s3.heap=P2:=by rw[<- a7]
 let Y:=yW X N' scope P2.objs.size s3 H3 fp pins
 have B:Y.Ok:=by
  refine⟨k.ok.mod,P.kind,k.ok.glob,k.ok.blt,by show s3.heap.objs.size<=P2.objs.size;rw[f];exact Jf _,λx y c e1 e2=>k.ok.inj x y c (t x c e1) (t y c e2),λx Z=>?_,λx c Z=>absurd (show false=true from Z) Jp,k.ok.hd,k.ok.frames,.inl rfl,λb a=>⟨?_,λx c e=>?_⟩,k.bs,
   JM k.ok.bsz k.sz,λb o e a=>?_,λb a hz=>?_,k.stack,k.stkFree⟩
  ·have bS:scope.names.lookup x=some .free:=by
    rcases Z with Z|Z
    ·rcases xW Z with z|z
     ·exact absurd rfl (P.nocell _ (vV z))
     ·exact z.2
    ·rcases xW Z with z|z
     ·exact z
     ·exact z.2
   exact wR _ _ x bS
  ·exact JH (by show b<P2.objs.size;rw[b4];exact Nat.lt_succ_of_lt (bl b a))
  ·exact(N b a).2.2.2.2.1 x c (t x c e)
  ·rcases (N b a).2.2.2.1 with z|z
   ·exact k.ok.noex b o e z
   ·exact absurd (JG (Jc e) (JM k.ok.bsz z)) (YK _)
  ·rcases Jn.mp (k.stkSub b hz) with z|z
   ·exact(N b a).2.1 z
   ·exact(N b a).2.2.1 z
 have b3:Inv Y [] (ju cap σ) H3 { A with heap:=w,toks:=A.toks }:=by
  refine⟨B,by show A.os=s3.os;rw[<- a7],I2.bare,by show Un _ _ _ _ s3.heap w;rw[f];exact Un.kept old,⟨_,E,λj x v e1 e2 e3=>?_⟩,λx c e=>?_,?_,λx c e=>k.freeC x c (t x c e),λp hp=>?_,λb o e=>?_,?_⟩
  ·have cb:N'[j]?=some x:=e1
   unfold ju at e2;rw[JD]at e2
   cases ec:cap[j]? with
   | none=>rw[ec]at e2;cases e2
   | some oc =>
    rw[ec]at e2
    cases oc with
    | none=>cases e2
    | some i =>
     have b8:σ[i]?=some (some v):=by
      cases ei:σ[i]? with
      | none=>simp[ei]at e2
      | some v' =>
       simp[ei]at e2;rw[e2]
     have hz:(x,some i)∈N'.zip cap:=by
      refine Ya (i:=j) ?_;rw[ZD];exact⟨cb,ec⟩
     obtain⟨hN,hf,hk⟩:=P.cap _ hz i rfl;obtain⟨m,hn,b0⟩:=k.loc;obtain⟨u,r,lk⟩:=b0 i x v hN b8 (by rcases hk with z|z;exact .inr (.inl z);exact .inr (.inr z));refine⟨u,r,.inr ⟨?_,?_⟩⟩
     ·exact vg hf
     ·rcases lk with ⟨z,_⟩|⟨_,c,b2,ab⟩
      ·have z':X.env.scope.names.lookup x=some .local:=z
       rcases hk with q|q
       ·rw[q]at z';cases z'
       ·rw[q]at z';cases z'
      ·obtain⟨c',a8⟩:=wR (cells:=X.env.cells) scope.names [] x hf
       have:=t x c' a8;rw[b2]at this;cases this;obtain⟨ob,e,d⟩:=ab;rw[f]at e;exact⟨c,a8,ob,old c ob e,d⟩
  ·obtain⟨v,ob,e',d⟩:=k.cell x c (t x c e)
   rw[f]at e';exact⟨v,ob,old c ob e',d⟩
  ·refine k.hok.fresh ?_
   rw[f];exact Jf _
  ·have ax:p∈X.pn++pins:=(Jz.mp hp).elim (λz=>z) (λz=>nomatch z)
   obtain⟨e,n,ne,nf,d⟩:=k.pin p ax;rw[f]at e;refine⟨old _ _ e,n,JH (Jc e),λz=>?_,d⟩;rcases Jn.mp (k.stkSub _ z) with q|q
   ·exact ne q
   ·exact nf q
  ·have:=k.hok.kept (h':=w) (λb u q=>old b u (by rw[<- f];exact q))
   exact this b o e
  ·show (cap.map _).length=N'.length
   rw[Je,P.len]
 have L:∀ {G:Hp},(∀ b∈fp,G b=none)->∀ b∈fp,FpOk Y [] G b:=λ{G} hn b a=>by
  refine⟨hn b a,(B.exf b a).1,B.exfs b a,.inl a,(B.exf b a).2,λp hp=>?_⟩;have ax:p∈X.pn++pins:=(Jz.mp hp).elim (λz=>z) (λz=>nomatch z);exact(N b a).2.2.2.2.2 p ax
 have a6:tn 0 w:=T.keep 0 _ _ a5 λb a o e=>old b o (a0 b o e)
 have loop:codeAny (model X.prog X.w) X.A (.compLoop (.ListComp elt [⟨tg,iter,o.toList,0⟩] scope pos) 0 (.ref it) (.ref l) Y.env) (compPost (model X.prog X.w) X.A X.xe use Q0 (.ref l) P2.objs.size) { A with heap:=w,toks:=A.toks }:=by
  refine jt (λn s'=>∃ i acc K G,Inv Y [] K G s'/\tn i s'.heap/\(∀ b∈fp,G b=none)/\W i n acc K G) ?_ m0 ⟨0,[],_,H3,b3,a6,b7,w0⟩;rintro n s4 ⟨i,acc,S,O,I4,a4,a9,w4⟩;obtain⟨ct,q4⟩:=turn i n acc S O w4;rcases q4 with ⟨stop,qn⟩|⟨go,step⟩
  ·refine thn (T.done Y rfl rfl rfl hc i [] s4 S O Y.xe I4 (L a9) a4 stop) λr U ⟨hr,I5⟩=>?_
   subst hr;obtain⟨m,hn,_⟩:=id I5.loc;have un:Un (frs X.stack) fp H3 O s3.heap U.heap:=I5.base;have bo:s3.heap.objs.size<=P2.objs.size:=by rw[f];exact Jf _
   have IX:Inv X pins σ O U:=k.call' (ch:=fp) I5.os un I5.hok I5.bare λb a=>⟨(N b a).2.2.2.1,(N b a).2.1,(N b a).2.2.2.2.1,(N b a).2.2.2.2.2⟩;exact fin l P2.objs.size O U m IX qn hn (k.fpOk bo I5.free)
  ·refine thn (T.item Y rfl rfl rfl hc i [] s4 S O Y.xe I4 (L a9) a4 go) λr U ⟨u,hr,h5⟩=>?_
   subst hr;refine thn h5 λ_ s6 ⟨x,H6,I6,r6,y6,ao,b6⟩=>?_;have cm:=I6.pinned (L b6) (T.obj _ _ ao);refine thn (hg _ _ _ _ _ _ s6 S H6 x u _ cm r6 (step x H6 y6)) λ_ s7 ⟨ak,H7,I7,q7⟩=>?_;refine pL (ht _ _ _ _ _ _ s7 ak H7 _ I7 q7) λb s8 ⟨H8,I8,q8⟩=>?_
   have again:∀ {R:St}{H9:Hp}{s9:Shared}{M:List V},Inv Y ([]++wm fp s6.heap) R H9 s9->(∃ m',m'<n/\W (i+1) m' M R H9)->∃ m,m<n/\∃ i acc K G,Inv Y [] K G s9/\tn i s9.heap/\(∀ b∈fp,G b=none)/\W i m acc K G:=λ{R H9 s9 M} I9 ⟨m',hm,w9⟩=>by
    refine⟨m',hm,i+1,M,R,H9,I9.unpinned,T.keep _ _ _ ao λb a o e=>(I9.pin (b,o) (JJ _ (JJ _ (yj a e)))).1,λb a=>?_,w9⟩;obtain⟨o,e,d⟩:=T.obj _ _ ao b a;exact(I9.pin (b,o) (JJ _ (JJ _ (yj a e)))).2.1
   cases b with
   | false =>
    rw[Ja Jp]at q8 ⊢
    exact again I8 q8
   | true =>
    rw[Jb rfl]at q8 ⊢;refine thn (he _ _ _ _ _ _ s8 ak H8 _ I8 q8) λyv s9 ⟨y,H9,I9,r9,b1,bx,q9⟩=>?_;refine thn (y7 (X:=Y) _ s9 ak H9 (.ref l) [y] (.ref l) [yv] (λ_ G=>G=upd H9 l (.lst (acc++[y]))) I9 rfl (.cons r9 .nil) ⟨l,acc,y,rfl,rfl,b1,bx,rfl⟩) λ_ cx ⟨_,c0,cn,_,b9⟩=>?_;subst b9;exact again cn q9
 exact codeAny_compStart_list loop (T.self X.A 0 _ _ _ a6 loop)
theorem Inv.gone {X:Cx}{pins:List (Addr × Obj)}{σ:St}{H:Hp}{s:Shared}{C:Addr}{h':Heap}(I:Inv X pins σ H s)(f:FpOk X pins H C)(sb:Heap.SameBut C s.heap h'):Inv X pins σ H { s with heap:=h' } :=
 I.turned (t':=s.toks) (λb o a e=>(sb.2 b a).trans e) f.1 f.2.1 f.2.2.2.1 f.2.2.2.2.1 f.2.2.2.2.2
theorem ue {X:Cx}{elt tg iter:Expr}{o:Option Expr}{scope:Scope}{pos:Pos}{a:TI}{g:TG}{tt:TT}{b:TE}{N':List Str}{cap:List (Option Nat)}(hc:X.calm=true)(hi:PI X tg iter a)(k:CapOk X.N N' X.env.scope scope cap)(i:∀ C s₀ H₀ fp pins,PG (yW X N' scope C s₀ H₀ fp pins) tg g)(d:∀ C s₀ H₀ fp pins,PTo (yW X N' scope C s₀ H₀ fp pins) o tt)(j:∀ C s₀ H₀ fp pins,PE (yW X N' scope C s₀ H₀ fp pins) elt b)(hs:∀ x,foldedSetIterable iter X.env x=pure x:=by intro _;rfl) :
  PE X (.ListComp elt [⟨tg,iter,o.toList,0⟩] scope pos) (tLC cap a g tt b):=by
 intro pins s σ H Q I h;rw[eval_ListComp];exact lV (use:=none) hc hi k i d j hs I h λl C p r m n q e f=>⟨m,e,λt c=>⟨.ref l,p,n.gone f c,rfl,q⟩⟩
theorem ie {X:Cx}{i:Nat}{y:Str}{elt tg iter:Expr}{o:Option Expr}{scope:Scope}{pos b py:Pos}{k:TI}{g:TG}{tt:TT}{n:TE}{N':List Str}{cap:List (Option Nat)}(K:X.N.Nodup)(j:X.N[i]?=some y)(p:X.env.scope.names.lookup y=some .local)(hc:X.calm=true)(hi:PI X tg iter k)(L:CapOk X.N N' X.env.scope scope cap)(F:∀ C s₀ H₀ fp pins,PG (yW X N' scope C s₀ H₀ fp pins) tg g)(B:∀ C s₀ H₀ fp pins,PTo (yW X N' scope C s₀ H₀ fp pins) o tt)(G:∀ C s₀ H₀ fp pins,PE (yW X N' scope C s₀ H₀ fp pins) elt n)(hs:∀ x,foldedSetIterable iter X.env x=pure x:=by intro _;rfl)(d:swapsWith (.ListComp elt [⟨tg,iter,o.toList,0⟩] scope pos) (some (.Name y py)) b.line X.env=pure true:=by with_unfolding_all rfl) :
  PS X (.Assign [.Name y py] (.ListComp elt [⟨tg,iter,o.toList,0⟩] scope pos) b) (bD (tLC cap k g tt n) (wt i)):=by
 intro pins s σ H D I h;rw[exec_Assign_Name_used y py _ b d];refine J6 (Zx (J6 (J6 (thn (lV (use:=some (assign (.Name y py) X.env)) (Q0:=λ_ z=>SP X pins D .next z) hc hi L F B G hs I h λl C O P m N q E f=>?_) λ_ z A=>Jm (Jm A)))));refine wpAny_assign_Name (rL (v:=.ref l) N K j (.inl p) rfl (λt M ⟨a,r,J⟩=>?_) (.inr p))
 have u:C≠a:=by
  rcases J with z|z
  ·rw[z];exact f.2.1
  ·exact λw=>f.2.2.2.2.1 y a z w.symm
 have e:t.heap.Ns C m:=E.sameBut r u;exact⟨m,e,λQ c=>⟨_,O,M.gone f c,q⟩⟩
end L2
namespace Own
open PySem PySem.Spec PyProof.Rows
section
variable {M:Model}{prog:Program}{w:World}{A:Around}{E:Value->Shared->Prop}{s:Shared}{α:Type}{Q:α->Shared->Prop}
theorem rf {a:Addr}{o:Obj}{vs:Array Value}{x:Value}{f:Value->Sem α}(k:Nat)(c:s.heap.get? a=some o)(hd:o.data=.fields vs)(b:vs[k]?=some x)(h:wpAny M A (f x) Q E s) :
  wpAny M A (field (.ref a) k >>= f) Q E s:=J6 (wpAny_field c hd b h)
theorem nx {T id:String}{B:Builtin}{it:Addr}{P:Value->Shared->Prop}(slot:Slot T "__next__" id) (ty:s.TypeIs (.ref it) T) (en:entryFor table id=some B) (ok:argsOk id ⟨[.ref it],[]⟩)
  (h:wpAny (model prog w) A.in1 (B ⟨[.ref it],[]⟩) (λr a=>∃ v,r=.done (.ret v)/\P v a) E s):wpAny (model prog w) A (Builtin.SmallTypes.nextOf (.ref it)) P E s:=by
 unfold Builtin.SmallTypes.nextOf;refine J6 (wpAny_callSpecial?_slot (name:="__next__") ty slot (YS slot ty en (thn2 h) ok))
where
 thn2 {b:Sem Fin}{P:Value->Shared->Prop}{c:Around}(h:wpAny (model prog w) c b (λr a=>∃ v,r=.done (.ret v)/\P v a) E s) :
   wpAny (model prog w) c b (λr a=>∃ v,r=.done (.ret v)/\wpAny (model prog w) A (pure v) P E a) E s :=
  JU h (λ_ _ ⟨v,e,q⟩=>⟨v,e,Jm q⟩) λ_ _ z=>z
end
theorem ends {A:Around}{E:Value->Shared->Prop}{prog:Program}{w:World}{s:Shared}{α:Type}{Q:α->Shared->Prop}(c:A.handled=none)
  (h:∀ h' x,(∀ b o,s.heap.get? b=some o->h'.get? b=some o)->(∃ o,h'.get? x=some o/\o.cls=.type "StopIteration")->E (.ref x) { s with heap:=h' }) :
  wpAny (model prog w) A (Builtin.SmallTypes.stopIteration:Sem α) Q E s:=by
 unfold Builtin.SmallTypes.stopIteration newExc newTuple;refine J6 (J6 (Zy ?_ (by size_fits)));refine J6 (wpAny_of_eq (a:=Value.none) (by rfl) (Zy (wpAny_raiseNew_none c (h _ _ (λb o e=>?_) ⟨_,Jw _ rfl,rfl⟩)) (by size_fits)));exact J8 _ (J8 _ e)
def cN:Bool->String
 | true=>"list_iterator"
 | false=>"tuple_iterator"
abbrev RIt (b:Bool)(h:Heap)(it a:Addr)(i:Int):Prop:=h.get? it=some { cls:=.type (cN b),dict:=none,data:=.fields #[.ref a,.int i 0],slots:=#[] }
def SqO:Bool->Heap->Addr->Array Value->Prop
 | true,h,a,xs=>h.IsList a xs
 | false,h,a,xs=>h.IsTuple a xs
theorem SqO.ob {b:Bool}{h:Heap}{a:Addr}{xs:Array Value}(x:SqO b h a xs):∃ o n,h.get? a=some o/\o.data=.seq xs n:=by
 cases b<;>(obtain⟨o,e,_,n,d⟩:=x;exact⟨o,n,e,d⟩)
theorem SqO.mv {b:Bool}{h h':Heap}{a:Addr}{xs:Array Value}(x:SqO b h a xs)(k:∀ o,h.get? a=some o->h'.get? a=some o):SqO b h' a xs:=by
 cases b<;>(obtain⟨o,e,r⟩:=x;exact⟨o,k o e,r⟩)
theorem SqO.ne {b c:Bool}{h:Heap}{a it f:Addr}{i:Int}{xs:Array Value}(x:SqO b h a xs)(y:RIt c h it f i):a≠it:=λz=>by
 obtain⟨o,n,e,d⟩:=x.ob;rw[z,y]at e;cases e;cases d
section
variable {prog:Program}{w:World}{A:Around}{E:Value->Shared->Prop}{s:Shared}
theorem ty {b:Bool}{it a:Addr}{i:Int}(y:RIt b s.heap it a i):s.TypeIs (.ref it) (cN b):=⟨_,y,rfl⟩
theorem qU {b:Bool}{it a:Addr}{i:Nat}{xs:Array Value}{x:Value}{P:Value->Shared->Prop}{B:Builtin}(m:B=match b with|true=>Builtin.«list_iterator.__next__»|false=>Builtin.«tuple_iterator.__next__»)(y:RIt b s.heap it a i)(sq:SqO b s.heap a xs)(g:xs[i]?=some x)(h:∀ h',RIt b h' it a (i+1)->Heap.SameBut it s.heap h'->P x { s with heap:=h' }) :
  wpAny (model prog w) A (B ⟨[.ref it],[]⟩) (λr f=>∃ v,r=.done (.ret v)/\P v f) E s:=by
 obtain⟨o,n,e,d⟩:=sq.ob
 have fin:wpAny (model prog w) A (match xs[(i:Int).toNat]? with
   | some x=>(do setField (.ref it) 1 (rawInt ((i:Int)+1));ret x:Sem Fin)
   | none=>Builtin.SmallTypes.stopIteration) (λr f=>∃ v,r=.done (.ret v)/\P v f) E s:=by
  rw[Yc,g];exact J6 (Yi y (show 1<2 by decide) λh' j k=>Jm ⟨x,rfl,h h' j k⟩)
 rw[Yc,g]at fin;subst m;cases b <;>
 ·refine rf 0 y rfl rfl (PyIte (show ¬((Value.ref a == Value.none)=true) from Jp) (rf 1 y rfl rfl (J6 (Yf e d ?_))))
  simp only[Yc,g];exact fin
where
 PyIte {c:Prop} [Decidable c] {α:Type}{a b:Sem α}{M:Model}{A:Around}{Q:α->Shared->Prop}{E:Value->Shared->Prop}{s:Shared}(l:¬ c) (h:wpAny M A b Q E s):wpAny M A (if c then a else b) Q E s:=by
  rw[Ja l];exact h
theorem rQ {b:Bool}{it a:Addr}{i:Nat}{xs:Array Value}{Q:Fin->Shared->Prop}{B:Builtin}(m:B=match b with|true=>Builtin.«list_iterator.__next__»|false=>Builtin.«tuple_iterator.__next__»)
  (j:A.handled=none) (y:RIt b s.heap it a i) (sq:SqO b s.heap a xs) (g:xs[i]?=none)
  (h:∀ h' x,(∀ c o,c≠it->s.heap.get? c=some o->h'.get? c=some o)->(∃ o,h'.get? x=some o/\o.cls=.type "StopIteration")->E (.ref x) { s with heap:=h' }) :
  wpAny (model prog w) A (B ⟨[.ref it],[]⟩) Q E s:=by
 obtain⟨o,n,e,d⟩:=sq.ob;subst m;cases b <;>
 ·refine rf 0 y rfl rfl (qU.PyIte (show ¬((Value.ref a == Value.none)=true) from Jp) (rf 1 y rfl rfl (J6 (Yf e d ?_))))
  simp only[Yc,g];refine J6 (Zq (J6 (Yi y (show 0<2 by decide) λr _ f=>?_)));exact ends j λp x k z=>h p x (λc o l q=>k c o ((f.2 c l).trans q)) z
theorem di {b:Bool}{it a:Addr}{i:Nat}{xs:Array Value}{x:Value}{P:Value->Shared->Prop}(y:RIt b s.heap it a i)(sq:SqO b s.heap a xs)(c:xs[i]?=some x)(h:∀ h',RIt b h' it a (i+1)->Heap.SameBut it s.heap h'->P x { s with heap:=h' }):wpAny (model prog w) A (Builtin.SmallTypes.nextOf (.ref it)) P E s:=by
 cases b
 ·exact nx F.slot_tuple_iterator_next (ty y) F.entry_tuple_iterator_next (F.args_tuple_iterator_next_1 _) (qU (b:=false) rfl y sq c h)
 ·exact nx slot_listiter_next (ty y) entry_listiter_next (args_listiter_next _) (qU (b:=true) rfl y sq c h)
theorem jO {b:Bool}{it a:Addr}{i:Nat}{xs:Array Value}{P:Value->Shared->Prop}(e:A.handled=none) (y:RIt b s.heap it a i) (sq:SqO b s.heap a xs) (d:xs[i]?=none)
  (h:∀ h' x,(∀ c o,c≠it->s.heap.get? c=some o->h'.get? c=some o)->(∃ o,h'.get? x=some o/\o.cls=.type "StopIteration")->E (.ref x) { s with heap:=h' }) :
  wpAny (model prog w) A (Builtin.SmallTypes.nextOf (.ref it)) P E s:=by
 have inner:A.in1.handled=none:=e;cases b
 ·exact nx F.slot_tuple_iterator_next (ty y) F.entry_tuple_iterator_next (F.args_tuple_iterator_next_1 _) (rQ (b:=false) rfl inner y sq d h)
 ·exact nx slot_listiter_next (ty y) entry_listiter_next (args_listiter_next _) (rQ (b:=true) rfl inner y sq d h)
theorem tF {b:Bool}{a:Addr}{xs:Array Value}{P:Value->Shared->Prop}(sq:SqO b s.heap a xs)(h:P (.ref s.heap.objs.size) { s with heap:=s.heap.push { cls:=.type (cN b),data:=.fields #[.ref a,.int 0 0] } }):wpAny (model prog w) A (pyIter (.ref a)) P E s:=by
 cases b
 ·exact wpAny_pyIter_tuple sq h
 ·exact wpAny_pyIter_list sq h
end
theorem uC {prog:Program}{w:World}{A:Around}(m:A.handled=none)(b:Bool)(it a:Addr)(xs:Array Value)(f:a≠it) :
  Draws prog w A it [it,a] xs.size (λi v=>xs[i]?=some v) (λi h=>RIt b h it a i/\SqO b h a xs) :=
 ⟨λ_ _ st=>⟨_,st.1⟩,λ_ _ _ st k=>⟨k it Ju _ st.1,st.2.mv λo e=>k a (Jr _ Ju) o e⟩,
  λi s Q E j st k=>di st.1 st.2 (Array.getElem?_eq_getElem j) λd y g=>k _ d s.toks (Array.getElem?_eq_getElem j) ⟨y,st.2.mv λo e=>(g.2 a f).trans e⟩ g,
  λs Q E st k=>jO m st.1 st.2 (by simp) λd x l z=>k d x (λc o n q=>l c o n q) z⟩
theorem gv (b:Bool)(a:Addr)(o:Obj)(xs:Array Value) :
  Meets (Builtin.«enumerate.__new__» ⟨[.type "enumerate",.ref a],[]⟩) (λ_ R s=>s.heap.get? a=some o/\SqO b s.heap a xs /\
   R (.ok (.ret (.ref (s.heap.push { cls:=.type (cN b),data:=.fields #[.ref a,.int 0 0] }).objs.size)))
    { s with heap:=(s.heap.push { cls:=.type (cN b),data:=.fields #[.ref a,.int 0 0] }).push { cls:=.type "enumerate",data:=.fields #[.none,.bool false,.ref s.heap.objs.size,rawInt 0,.none,.none] } }) :=
 .of_wp λprog w A R s h=>by
  obtain⟨j,g,d,i,os⟩:=s;obtain⟨f,sq,h⟩:=h;have sub:=sub_enumerate;have e:SqO b (Shared.heap ⟨j,g,d,i,os⟩) a xs:=sq
  wp_walk using AutoSeq1.wpAny_loadPart' f;refine wpAny_stack_any λst=>Jm ?_
  split
  case h_1 c _ _ _ _ _ =>
   cases (c == Value.type "enumerate")<;>(wp_walk using AutoSeq1.wpAny_loadPart' f,tF e;exact⟨_,rfl,h⟩)
  all_goals (wp_walk using AutoSeq1.wpAny_loadPart' f,tF e;exact⟨_,rfl,h⟩)
theorem jw {prog:Program}{w:World}{A:Around}{E:Value->Shared->Prop}{s:Shared}{b:Bool}{a:Addr}{xs:Array Value}{P:Value->Shared->Prop}(sq:SqO b s.heap a xs)(h:∀ h' e it,s.heap.objs.size<=e->s.heap.objs.size<=it->e≠it->IsEnum h' e it 0 .none->RIt b h' it a 0->(∀ c o,s.heap.get? c=some o->h'.get? c=some o)->P (.ref e) { s with heap:=h' }) :
  wpAny (model prog w) A (call (.type "enumerate") [.ref a]) P E s:=by
 obtain⟨o,n,d,_⟩:=sq.ob;refine callType_new F.called_enumerate (by decide) (F.typeCall_enumerate_1 _) (F.newCall_enumerate_1 _) (λobj=>F.args_object_init_2 obj _) F.entry_enumerate_new (gv b a o xs) ⟨d,sq,⟨_,Jw _ rfl,rfl⟩,?_⟩;refine h _ _ _ ?_ (Jf _) ?_ (Jw _ rfl) (J8 _ (Jw _ rfl)) λc o e=>J8 _ (J8 _ e)
 ·rw[Zh];exact Nat.le_succ _
 ·rw[Zh];exact Nat.succ_ne_self _
structure Sep (z TI TO i1 i2:Addr) (f1 f2:List Addr):Prop where
 all:[z,TI,TO,i1,i2].Nodup
 z1:z∉f1
 t1:TO∉f1
 o1:i2∉f1
 z2:z∉f2
 t2:TO∉f2
 o2:i1∉f2
section
variable {prog:Program}{w:World}{A:Around}{E:Value->Shared->Prop}{s:Shared}{z TI TO i1 i2:Addr}{f1 f2:List Addr}{n1 n2 k:Nat}{P1 P2:Nat->Value->Prop}{S1 S2:Nat->Heap->Prop}{a b:Value}
theorem pH (S:Sep z TI TO i1 i2 f1 f2)(C:Draws prog w A i1 f1 n1 P1 S1)(B:Draws prog w A i2 f2 n2 P2 S2){Q:Value->Shared->Prop}(hz:IsZip s.heap z TI TO .none)(hI:IsPair s.heap TI (.ref i1) (.ref i2))(hO:IsPair s.heap TO a b)(d1:S1 k s.heap)(d2:S2 k s.heap)(l1:k<n1)(l2:k<n2)(h:∀ x y h' W,P1 k x->P2 k y->IsZip h' z TI TO (rawInt s.heap.objs.size)->IsPair h' TO x y->S1 (k+1) h'->S2 (k+1) h'->IsPair h' s.heap.objs.size x y ->
   (∀ c o,c∉[z,TO,i1,i2]->s.heap.get? c=some o->h'.get? c=some o)->Q (.ref s.heap.objs.size) { s with heap:=h',toks:=W }) :
  wpAny (model prog w) A (Builtin.«zip.__next__» ⟨[.ref z],[]⟩) (λr Y=>∃ v,r=.done (.ret v)/\Q v Y) E s:=by
 have K:=S.all;simp only[JY,Jn,Jq,JW,Zd]at K;obtain⟨⟨zI,t,V,U⟩,⟨IO,I1,I2⟩,⟨O1,O2⟩,ab,_⟩:=K;refine rf 2 hz rfl rfl (rf 3 hz rfl rfl (J6 (Yf hI rfl (J6 (rf 0 hz rfl rfl (Jm ?_))))));simp only[Yz];refine J6 (Zq (rf 4 hz rfl rfl (J6 (Yi hz (show 0<5 by decide) λha T m=>J6 ?_))));have D:IsZip ha z TI TO .ellipsis:=T;simp only[List.zipIdx_cons,List.zipIdx_nil,Zu,ZQ];refine J6 (J6 (Wk (J6 (C.item k _ _ _ l1 (C.frame _ _ _ d1 λc g o e=>(m.2 c λq=>S.z1 (q ▸ g)).trans e) λx hb tb Z db l=>Jm ?_))));have O:IsPair hb TO a b:=(l.2 TO O1).trans ((m.2 TO (Ne.symm t)).trans hO);refine J6 (Yf O rfl (J6 (wpAny_updateSeq_pair O λg Oc sc=>J6 (wpAny_letGo (Jm ?_)))));have G:IsPair g TO x b:=Oc;have F:S2 k g:=B.frame _ _ _ d2 λc d o e=>(sc.2 c λq=>S.t2 (q ▸ d)).trans ((l.2 c λq=>S.o2 (q ▸ d)).trans ((m.2 c λq=>S.z2 (q ▸ d)).trans e));refine J6 (J6 (Wk (J6 (B.item k _ _ _ l2 F λy hd X py dd j=>Jm ?_))));have N:IsPair hd TO x b:=(j.2 TO O2).trans G;refine J6 (Yf N rfl (J6 (wpAny_updateSeq_pair N λf Oe i=>J6 (wpAny_letGo (Jm (Jm ?_))))));have p:IsPair f TO x y:=Oe;refine J6 (Yf p rfl (J6 (wpAny_newTuple (J6 ?_))));have sz:f.objs.size=s.heap.objs.size:=by rw[i.1,j.1,sc.1,l.1,m.1]
 have H:IsZip f z TI TO .ellipsis:=(i.2 z t).trans ((j.2 z U).trans ((sc.2 z t).trans ((l.2 z V).trans D)));have zn:f.objs.size≠z:=JV (Jc H);unfold Builtin.SmallTypes.ownedTupleHandOut;refine J6 (Yi (J8 _ H) (show 0<5 by decide) λhf R J=>Yi R (show 1<5 by decide) λu P I=>Jm ⟨_,rfl,?_⟩);have up:∀ c o,c≠z->f.get? c=some o->u.get? c=some o:=λc o q e=>(I.2 c q).trans ((J.2 c q).trans (J8 _ e));have new:IsPair u f.objs.size x y:=(I.2 _ zn).trans ((J.2 _ zn).trans (Jw _ rfl));have n:IsZip u z TI TO (rawInt f.objs.size):=P;rw[sz]at new n;show Q (.ref f.objs.size) _;rw[sz];refine h x y u X Z py n (up _ _ (Ne.symm t) p) ?_ ?_ new λc o g e=>?_
 ·exact C.frame _ _ _ db λc d o e=>up c o (λq=>S.z1 (q ▸ d)) ((i.2 c λq=>S.t1 (q ▸ d)).trans ((j.2 c λq=>S.o1 (q ▸ d)).trans ((sc.2 c λq=>S.t1 (q ▸ d)).trans e)))
 ·exact B.frame _ _ _ dd λc d o e=>up c o (λq=>S.z2 (q ▸ d)) ((i.2 c λq=>S.t2 (q ▸ d)).trans e)
 ·simp only[Jn,Jq,JW,Zd]at g
  obtain⟨M,L,c3,c4⟩:=g;exact up c o M ((i.2 c L).trans ((j.2 c c4).trans ((sc.2 c L).trans ((l.2 c c3).trans ((m.2 c M).trans e)))))
end
section
variable {prog:Program}{w:World}{A:Around}{E:Value->Shared->Prop}{s:Shared}{z TI TO i1 i2:Addr}{f1 f2:List Addr}{n1:Nat}{P1:Nat->Value->Prop}{S1:Nat->Heap->Prop}
theorem pG (S:Sep z TI TO i1 i2 f1 f2) (l:Draws prog w A i1 f1 n1 P1 S1) {Q:Fin->Shared->Prop}(hz:IsZip s.heap z TI TO .none) (u:IsPair s.heap TI (.ref i1) (.ref i2)) (d1:S1 n1 s.heap)
  (h:∀ h' x,(∀ c o,c∉[z,TO,i1,i2]->s.heap.get? c=some o->h'.get? c=some o)->(∃ o,h'.get? x=some o/\o.cls=.type "StopIteration")->E (.ref x) { s with heap:=h' }):wpAny (model prog w) A (Builtin.«zip.__next__» ⟨[.ref z],[]⟩) Q E s:=by
 have i:=S.all;simp only[JY,Jn,Jq,JW,Zd]at i;obtain⟨⟨B,y,n,C⟩,⟨IO,H,G⟩,⟨F,D⟩,v,_⟩:=i;refine rf 2 hz rfl rfl (rf 3 hz rfl rfl (J6 (Yf u rfl (J6 (rf 0 hz rfl rfl (Jm ?_))))));simp only[Yz];refine J6 (Zq (rf 4 hz rfl rfl (J6 (Yi hz (show 0<5 by decide) λt m g=>J6 ?_))));have d:IsZip t z TI TO .ellipsis:=m;simp only[List.zipIdx_cons,List.zipIdx_nil,Zu,ZQ];refine J6 (J6 (Wk (J6 (l.done _ _ _ (l.frame _ _ _ d1 λc b o e=>(g.2 c λq=>S.z1 (q ▸ b)).trans e) λr x j ⟨p,ex,k⟩=>?_))));have f:IsZip r z TI TO .ellipsis:=j z _ n d;have xz:x≠z:=λq=>by rw[q,f]at ex;cases ex;exact absurd (show Value.type "zip" = Value.type "StopIteration" from k) (by decide)
 refine Yi f (show 0<5 by decide) λb _ sc=>h b x (λc o a e=>?_) ⟨p,(sc.2 x xz).trans ex,k⟩;simp only[Jn,Jq,JW,Zd]at a;exact(sc.2 c a.1).trans (j c o a.2.2.1 ((g.2 c a.1).trans e))
end
theorem rq (b j:Bool)(a f:Addr)(xs ys:Array Value):Meets (Builtin.«zip.__new__» ⟨[.type "zip",.ref a,.ref f],[]⟩) (λ_ R s=>SqO b s.heap a xs/\SqO j s.heap f ys /\
  ∀ h' z,(∃ TI TO i1 i2,[z,TI,TO,i1,i2].Nodup/\(∀ c∈[z,TI,TO,i1,i2],s.heap.objs.size<=c)/\IsZip h' z TI TO .none/\IsPair h' TI (.ref i1) (.ref i2)/\IsPair h' TO .none .none/\RIt b h' i1 a 0/\RIt j h' i2 f 0) ->
   (∀ c o,s.heap.get? c=some o->h'.get? c=some o)->R (.ok (.ret (.ref z))) { s with heap:=h' }) :=
 .of_wp λprog w A R s h=>by
  obtain⟨i,g,d,k,os⟩:=s;obtain⟨p,n,h⟩:=h;have sub:=sub_zip;have m:SqO b (Shared.heap ⟨i,g,d,k,os⟩) a xs:=p;have l:SqO j (Shared.heap ⟨i.push { cls:=.type (cN b),data:=.fields #[.ref a,.int 0 0] },g,d,k,os⟩) f ys:=n.mv λo e=>J8 _ e
  wp_walk using tF m,tF l
  refine⟨_,rfl,h _ _ ⟨_,_,_,_,?_,?_,Jw _ rfl,J8 _ (J8 _ (Jw _ rfl)),J8 _ (Jw _ rfl),
   J8 _ (J8 _ (J8 _ (J8 _ (Jw _ rfl)))),J8 _ (J8 _ (J8 _ (Jw _ rfl)))⟩ λc o e=>?_⟩
  ·simp only[Zh,JY,Jn,Jq,JW,Zd]
   simp<;>lia
  ·simp only[Zh,Jn,Jq,JW]
   intro c q;have:i.objs.size<=c:=by lia
   exact this
  ·exact J8 _ (J8 _ (J8 _ (J8 _ (J8 _ e))))
end Own
namespace L2
open PySem PySem.Spec PyProof.Rows Own
section
variable {X:Cx}{pins:List (Addr × Obj)}{σ:St}{H:Hp}{s:Shared}{h':Heap}
theorem Inv.spunN {fp:List Addr}{T:Addr}{o:HO}{t':Nat}(I:Inv X pins σ H s)(k:∀ b o,b∉fp->s.heap.get? b=some o->h'.get? b=some o)(h:∀ b∈fp,FpOk X pins H b)(i:s.heap.objs.size<=T)(new:ObjOk X.prog X.w (upd H T o) h' T o):Inv X pins σ (upd H T o) { s with heap:=h',toks:=t' }:=by
 have f:H T=none:=I.hok.fresh i;have neT:∀ b u,s.heap.get? b=some u->b≠T:=λb u e=>JH (JG (Jc e) i);have g:∀ b u,H b=some u->b∉fp:=λb u e a=>by rw[(h b a).1]at e;cases e
 refine I.step (g':=s.gens) (d':=s.drawn) (ch:=fp) (λb a=>?_) (λb o _ _ d e _=>k b o d e) (λb o _ _ d e _=>⟨o.slots,k b o d e⟩) (λb o _ e n=>by rw[zH (neT b o e)];exact n)
  (λb o d e=>⟨o,k b o d e⟩) (λb j e=>by rw[zH (zF e f)];exact e) (λb o u e=>by rw[zH (zF e f)];exact e) (λb C e=>⟨#[],by rw[zH (zF e f),e];simp⟩) (λm p=>?_) (λb u e=>?_) I.bare
 ·obtain⟨E,y,D,x,w,t⟩:=h b a
  exact⟨x,y,w,t⟩
 ·obtain⟨o,A,B,l,r⟩:=p
  exact⟨o,A,B,k _ o (λa=>(h _ a).2.1 rfl) l,r⟩
 ·by_cases a:b=T
  ·subst a;rw[zG]at e;cases e;exact new
  ·rw[zH a]at e
   refine(I.hok b u e).stay (λc v d q=>k c v ?_ q) (λc q=>by rw[zH (zF q f)];exact q) λc j q=>by rw[zH (zF q f)];exact q
   rcases d with z|z
   ·rw[z];exact g b u e
   ·exact g c _ z
theorem Inv.spun {fp:List Addr}{t':Nat}(I:Inv X pins σ H s)(k:∀ b o,b∉fp->s.heap.get? b=some o->h'.get? b=some o)(g:∀ b∈fp,FpOk X pins H b):Inv X pins σ H { s with heap:=h',toks:=t' }:=by
 have f:∀ b u,H b=some u->b∉fp:=λb u e d=>by rw[(g b d).1]at e;cases e
 refine I.step (g':=s.gens) (d':=s.drawn) (ch:=fp) (λb d=>?_) (λb o _ _ a e _=>k b o a e) (λb o _ _ a e _=>⟨o.slots,k b o a e⟩) (λb o _ e n=>n)
  (λb o a e=>⟨o,k b o a e⟩) (λb h e=>e) (λb o u e=>e) (λb A e=>⟨#[],by rw[e];simp⟩) (λm j=>?_) (λb u e=>?_) I.bare
 ·obtain⟨C,w,B,t,p,l⟩:=g b d
  exact⟨t,w,p,l⟩
 ·obtain⟨o,x,y,i,r⟩:=j
  exact⟨o,x,y,k _ o (λd=>(g _ d).2.1 rfl) i,r⟩
 ·refine(I.hok b u e).stay (λc v a q=>k c v ?_ q) (λc q=>q) λc h q=>q
  rcases a with z|z
  ·rw[z];exact f b u e
  ·exact f c _ z
end
def SqB:Bool->PySem.W.Frag->Hp->Addr->List V->Prop
 | true,K,H,a,xs=>SqL K H a xs
 | false,K,H,a,xs=>SqT K H a xs
section
variable {X:Cx}{pins:List (Addr × Obj)}{σ:St}{H:Hp}{s:Shared}{a c:Addr}{xs ys:List V}{b:Bool}
theorem Inv.sq (I:Inv X pins σ H s)(h:SqB b X.K H a xs):∃ its:List Value,Vals xs its/\SqO b s.heap a its.toArray:=by
 cases b
 ·obtain⟨its,r,p,z⟩:=I.tuple h
  exact⟨its,r,p⟩
 ·obtain⟨its,r,p,z⟩:=I.list h
  exact⟨its,r,p.isList⟩
theorem Inv.sq_inj (I:Inv X pins σ H s)(h:SqB b X.K H a xs)(h':SqB b X.K H a ys):xs=ys:=by
 cases b
 ·exact I.tuple_inj h h'
 ·exact I.list_inj h h'
theorem Inv.sq_ne (I:Inv X pins σ H s)(h:SqB b X.K H a xs)(f:FpOk X pins H c):c≠a:=by
 rintro rfl
 have d:∀ o,X.K.lookup c=some o->False:=λo e=>by
  have g:=I.ok.mod.kin c o e;rcases f.2.2.2.1 with z|z
  ·exact I.ok.noex c o g z
  ·exact absurd (JG (Jc g) (JM I.ok.bsz z)) (YK _)
 cases b <;>
 ·rcases h with (h|⟨o,h⟩)|⟨o,_,_,e,_⟩
  ·rw[f.1]at h;cases h
  ·rw[f.1]at h;cases h
  ·exact d o e
end
def Pr (v u:V)(H:Hp)(x:V)(H':Hp):Prop:=∃ T,H T=none/\x=.ref T/\H'=upd H T (.tup [v,u])
theorem tD {P:Program}{w:World}{H:Hp}{h:Heap}{T:Addr}{v u:V}{a b:Value}(e:IsPair h T a b)(c:RelV v a)(d:RelV u b):ObjOk P w (upd H T (.tup [v,u])) h T (.tup [v,u]) :=
 ⟨show 2<=sizeLine by decide,[a,b],.cons c (.cons d .nil),⟨_,e,rfl,_,rfl,rfl⟩⟩
def Ite (K:PySem.W.Frag)(b:Bool)(a:Addr):It :=
 ⟨λi H=>∃ c x,SqB b K H a c/\c[i]?=some x,λi H x d=>∃ y,(∀ c,SqB b K H a c->c[i]?=some y)/\Pr (.int i) y H x d,λi H=>∃ c,SqB b K H a c/\c.length=i⟩
theorem kf {P:Program}{w:World}{K:PySem.W.Frag}{es:List Expr}{k1}{S:Pos}(b:Bool)(a e it:Addr)(k:e≠it):Turn P w K (.Tuple es k1 S) (Ite K b a) [e,it] e (λi h=>(∃ old,IsEnum h e it i old)/\RIt b h it a i) where
 mem:=Ju
 obj:=λi h ⟨⟨old,g⟩,f⟩ c n=>by
  rcases Jn.mp n with q|q
  ·rw[q];exact⟨_,g,λv z=>by cases z⟩
  ·rw[JZ.mp q];exact⟨_,f,λv z=>by cases z⟩
 keep:=λi h h' ⟨⟨old,g⟩,f⟩ L=>⟨⟨old,L e (by simp) _ g⟩,L it (by simp) _ f⟩
 item:=by
  intro X C B D n i pins s σ H E I m ⟨⟨old,g⟩,f⟩ ⟨O,x,l,r⟩;subst C B D;obtain⟨d,y,p⟩:=I.sq l;obtain⟨u,M,R⟩:=y.get r;have F:i<d.toArray.size:=by simpa using (J9.mp M).1
  refine wpAny_pyNext_enum_itemD (uC (prog:=X.prog) (w:=X.w) (A:=X.A.in1) (I.ok.hd n) b it a d.toArray (p.ne f)) g ⟨f,p⟩ F k (by simp[k,I.sq_ne l (m e (by simp))]) λv h1 Q W Z Y hT _ hk=>?_;obtain rfl:u=v:=Jv (M.symm.trans (by simpa using W));refine⟨_,rfl,wpAny_letOwnedTupleGo_enum Z λh2 G t=>?_⟩;have J:s.heap.objs.size≠e:=JV (Jc g);have T:s.heap.objs.size≠it:=JV (Jc f);refine⟨.ref s.heap.objs.size,_,I.spunN (fp:=[e,it]) (λc o j q=>?_) m (Jf _) (tD (v:=.int i) (u:=x) ((t.2 _ J).trans hT) ⟨Q,rfl⟩ R),rfl,⟨x,λys V=>by rw[I.sq_inj V l];exact r,_,I.fresh,rfl,rfl⟩,⟨⟨_,G⟩,(t.2 it (Ne.symm k)).trans Y.1⟩,λc j=>?_⟩
  ·have N:c≠e:=λz=>j (by simp[z])
   exact(t.2 c N).trans (hk c o N (λz=>j (by simp[z])) q)
  ·rw[zH,(m c j).1]
   rintro rfl;rcases Jn.mp j with z|z
   ·exact J z
   ·exact T (JZ.mp z)
 done:=by
  intro X C B D n i pins s σ H E I m ⟨⟨old,g⟩,f⟩ ⟨O,l,r⟩;subst C B D;obtain⟨d,y,p⟩:=I.sq l;have U:i=d.toArray.size:=by rw[Jd,<- y.length,r]
  refine wpAny_pyNext_enum_endD (uC (prog:=X.prog) (w:=X.w) (A:=X.A.in1) (I.ok.hd n) b it a d.toArray (p.ne f)) g ⟨by rw[<- U];exact f,p⟩ λh' eb=>⟨rfl,I.spun (t':=s.toks) (fp:=[e,it]) (λc o j q=>eb c o (λz=>j (by simp[z])) q) m⟩
 self:=λ_ _ _ _ _ ⟨⟨_,g⟩,_⟩ h=>wpAny_pyIter_enum g h
def zai (K:PySem.W.Frag)(b:Bool)(f:TA):TI:=λσ H R=>f σ H λe c=>∃ a d,e=[.ref a]/\SqB b K c a d/\R (Ite K b a) c
theorem qc {X:Cx}{a:Expr}{g:TA}{p pos o:Pos}{B:List Expr}{k1} (b:Bool) (y:Gl X "enumerate") (hm:X.mg "enumerate" = none) (ha:PA X [a] g) (hs:starEach [a] X.env=[(false,eval a X.env)]:=by rfl) :
  PI X (.Tuple B k1 o) (.Call (.Name "enumerate" p) [a] [] pos) (zai X.K b g):=by
 intro pins s σ H R I h;refine Call_ (xC I y hm (u:=.type "enumerate") (by rfl) (Y3 (thn (ha pos pins s σ H _ I h) λJ i ⟨G,D,f,l,m⟩=>?_) hs rfl));obtain⟨C,F,rfl,v,q⟩:=m;obtain⟨u,rfl,k⟩:=l.one;cases k;obtain⟨E,K,n⟩:=f.sq v;refine jw n λL e it t r ne j x w=>wpAny_pyIter_enum j ⟨_,[e,it],_,_,D,rfl,f.kept (t':=i.toks) w,kf b C e it ne,⟨⟨_,j⟩,x⟩,λc A=>?_,q⟩
 have d:i.heap.objs.size<=c:=by
  rcases Jn.mp A with z|z
  ·rw[z];exact t
  ·rw[JZ.mp z];exact r
 exact f.fpOk d (f.hok.fresh d)
def Itz (K:PySem.W.Frag)(c e:Bool)(d f:Addr):It :=
 ⟨λi H=>∃ a b x y,SqB c K H d a/\SqB e K H f b/\a[i]?=some x/\b[i]?=some y,λi H v g=>∃ x y,(∀ a,SqB c K H d a->a[i]?=some x)/\(∀ b,SqB e K H f b->b[i]?=some y)/\Pr x y H v g,
  λi H=>∃ a,SqB c K H d a/\a.length=i⟩
def za8 (K:PySem.W.Frag)(e d:Bool)(i:TA):TI:=λσ H R=>i σ H λh c=>∃ b a g f,h=[.ref b,.ref a]/\SqB e K c b g/\SqB d K c a f/\R (Itz K e d b a) c
section
variable {X:Cx}
def CMulW (i j:Int):Prop:=i.natAbs<2 ^ 20000/\j.natAbs<2 ^ 20000
theorem kI {k:Int}{n:Nat}(h:k.natAbs<2 ^ n)(hn:0<n):Builtin.Int.intBits k<=n:=by
 unfold Builtin.Int.intBits;split
 ·exact JX _
 ·rename_i a
  have:Nat.log2 k.natAbs<n:=(Nat.log2_lt (λe=>a (by simp[Int.natAbs_eq_zero.mp e]))).mpr h;lia
theorem CMulW.ok {i j:Int}(h:CMulW i j):IntMulOk i j:=by
 have b:=kI h.1 (by decide);have a:=kI h.2 (by decide)
 have big:Builtin.Int.intTooBig (Builtin.Int.intBits i+Builtin.Int.intBits j)=false:=by
  have line:(40000:Nat)<=bitsLine:=by decide
  unfold Builtin.Int.intTooBig;simp;lia
 unfold IntMulOk;rw[big];simp
theorem lP:OpR X (binaryOp .Mult) (rI CMulW λi j=>.int (i*j)):=opI λ_ _ _ _ _ _ _ a q=>mul_int q a.ok
theorem o9:CallR X (.builtin "isinstance") (λvs H Q=>∃ x T t k,vs=[x,.ty T]/\TyOf X.K H x t/\PySem.W.kitOne X.K t (.type T)=some k/\Q (.bl k) H):=by
 intro pins s σ H vs g Q I c h;obtain⟨x,T,t,k,rfl,e,f,q⟩:=h;obtain⟨u,v,rfl,d,a⟩:=c.two;cases (show v=Value.type T from a);exact ja I d e f λb=>⟨.bl k,H,I.tok b,rfl,q⟩
def zaY (K:PySem.W.Frag):R2:=λx y H Q=>∃ a b d c,x=.ref a/\y=.ref b/\SqT K H a d/\SqT K H b c/\d.all wQ=true/\c.all wQ=true/\Q (.bl (!((List.range (min d.length c.length)).all (λj=>eqV (d.getD j .non) (c.getD j .non)) && d.length == c.length))) H
theorem qi (D:X.A.units<cLine):OpR X (compareOp .NotEq) (zaY X.K):=by
 intro pins s σ H x y v u Q I w t h;obtain⟨a,b,k,i,rfl,rfl,F,E,N,M,q⟩:=h;cases w;cases t;obtain⟨g,m,C,_⟩:=I.tuple F;obtain⟨f,l,B,_⟩:=I.tuple E;have o:=m.length;have n:=l.length;refine SeqAt.RcNeAt.tuples (e:=λj=>eqV (k.getD j .non) (i.getD j .non)) C B D (λj J G=>?_) X.prog X.w _ _ ?_
 ·have d:j<k.length:=by simpa [o] using J
  have c:j<i.length:=by simpa [n] using G
  obtain⟨r,O,A⟩:=m.get (J0 d);obtain⟨p,e2,z⟩:=l.get (J0 c)
  have L:g.toArray[j]=r:=by
   have:=(J9.mp O).2;simpa using this
  have K:f.toArray[j]=p:=by
   have:=(J9.mp e2).2;simpa using this
  rw[L,K,J7,J7,J0 d,J0 c];exact pA A z (YE.mp N _ (Yb d)) (YE.mp M _ (Yb c))
 ·rw[Jd,Jd,<- o,<- n]
  exact⟨.bl _,H,I,rfl,q⟩
theorem fj (ns ms:List Int):((List.range (min (ns.map V.int).length (ms.map V.int).length)).all (λj=>eqV ((ns.map V.int).getD j .non) ((ms.map V.int).getD j .non)) && (ns.map V.int).length == (ms.map V.int).length)=decide (ns=ms):=by
 rw[YF,Zj,YE,YU,Wc,Je,Je]
 have at':∀ (l:List Int) (j:Nat) (h:j<l.length),(l.map V.int).getD j .non=.int l[j]:=λl j h=>by
  rw[J7,JD,J0 h];rfl
 constructor
 ·rintro⟨h,e⟩
  refine Zk e λj d c=>?_;have:=h j (JC.mpr (by simp_all));rw[at' ns j d,at' ms j c]at this;simpa [eqV] using this
 ·rintro rfl
  refine⟨λj b=>?_,rfl⟩;have a:j<ns.length:=by have:=JC.mp b;simp_all
  rw[at' ns j a];simp[eqV]
theorem xI (ns:List Int):(ns.map V.int).all wQ=true:=by
 rw[List.all_map,YE];intro _ _;rfl
theorem zC {H:Hp}{p:Addr}(h:H p=none)(o:HO):Same H (upd H p o):=λb u q=>by rw[zH (zF q h)];exact q
def zar (N N':List Str)(sc scope:Scope)(cap:List (Option Nat)):Bool :=
 decide (scope.kind=.function) && (scope.names.all λy=>decide (y.2≠.cell) && (decide (y.2≠.local) || decide (scope.names.lookup y.1=some .local)) &&
  (decide (y.2≠.free) || (decide (sc.names.lookup y.1=some .cell) || decide (sc.names.lookup y.1=some .free)))) && decide (cap.length=N'.length) &&
 ((N'.zip cap).all λp=>match p.2 with
  | none=>true
  | some i=>decide (N[i]?=some p.1) && (decide (scope.names.lookup p.1=some .free) && (decide (sc.names.lookup p.1=some .cell) || decide (sc.names.lookup p.1=some .free))))
theorem CapOk.of {N N':List Str}{sc scope:Scope}{cap:List (Option Nat)}(h:zar N N' sc scope cap=true):CapOk N N' sc scope cap:=by
 unfold zar at h;simp only[Zj,YE,Bool.or_eq_true,JT]at h;obtain⟨⟨⟨g,b⟩,f⟩,d⟩:=h;refine⟨g,λy a=>(b y a).1.1,λy a e=>?_,λy a e=>?_,f,λp c i e=>?_⟩
 ·rcases (b y a).1.2 with z|z
  ·exact absurd e z
  ·exact z
 ·rcases (b y a).2 with z|z
  ·exact absurd e z
  ·exact z
 ·have q:=d p c
  rw[e]at q;simp only[Zj,Bool.or_eq_true,JT]at q;exact q
def Nx (n i:Nat)(p:Prop):Prop:=∃ a,a<n-i/\a=n-(i+1)/\i+1<=n/\p
theorem nx {n i:Nat}{p:Prop}(h:i<n)(q:p):Nx n i p:=⟨n-(i+1),by lia,rfl,h,q⟩
theorem sR {lo:Int}{n:Nat}{g:TG}{d:TE}{l:Addr}{σ:St}{H:Hp}{Q:VK}(a:Nat->List V->St->Hp->Prop)(j:a 0 [] σ H)(h:∀ i acc σ H,a i acc σ H->H l=some (.lst acc))(hs:∀ i acc σ H,i<n->a i acc σ H->g (.int (lo+i)) σ H λb k=>d b k λy f=>f l=some (.lst acc)/\acc.length<sizeLine/\Nx n i (a (i+1) (acc++[y]) b (upd f l (.lst (acc++[y])))))(hd:∀ acc σ H,a n acc σ H->Q (.ref l) H):∃ W:Nat->Nat->List V->St->Hp->Prop,(∃ m,W 0 m [] σ H)/\LCW (Itr lo n) g j9 d l Q W:=by
 refine⟨λi m acc σ H=>m=n-i/\i<=n/\a i acc σ H,⟨n,by simp,JX _,j⟩,?_⟩;rintro i m acc σ H ⟨rfl,o,p⟩;refine⟨h i acc σ H p,?_⟩;by_cases c:i<n
 ·refine .inr ⟨c,λx q ⟨e,y⟩=>?_⟩
  subst e y;exact hs i acc σ _ c p
 ·have e:i=n:=by lia
  subst e;exact .inl ⟨Jf _,hd acc σ H p⟩
theorem og {K:PySem.W.Frag}{b:Bool}{a:Addr}{xs:List V}{g:TG}{l:TS}{D:Ends}{σ:St}{H:Hp}(c:Nat->St->Hp->Prop)(v:c 0 σ H)(r:∀ i σ H,i<=xs.length->c i σ H->SqB b K H a xs)(hs:∀ i x σ H T,xs[i]?=some x->H T=none->c i σ H->g (.ref T) σ (upd H T (.tup [.int i,x])) λf k=>l { D with nx:=c (i+1),ct:=c (i+1),bk:=D.nx } f k)(t:∀ σ H,c xs.length σ H->D.nx σ H) :
  ∃ W:Nat->Nat->St->Hp->Prop,(∃ m,W 0 m σ H)/\∀ i m σ H,W i m σ H ->
   ((Ite K b a).stop i H/\D.nx σ H)\/((Ite K b a).go i H/\∃ N:St->Hp->Prop,(∀ h d,N h d->∃ n,n<m/\W (i+1) n h d)/\∀ x d,(Ite K b a).yld i H x d->g x σ d λf k=>l { D with nx:=N,ct:=N,bk:=D.nx } f k):=by
 refine⟨λi m σ H=>m=xs.length-i/\i<=xs.length/\c i σ H,⟨xs.length,by simp,JX _,v⟩,?_⟩;rintro i m σ H ⟨rfl,s,p⟩;have q:=r i σ H s p;by_cases j:i<xs.length
 ·refine .inr ⟨⟨xs,xs[i],q,J0 j⟩,c (i+1),λh d o=>⟨xs.length-(i+1),by lia,rfl,j,o⟩,λx d ⟨y,w,T,u,z,e2⟩=>?_⟩
  subst z e2;exact hs i y σ H T (w xs q) u p
 ·have e:i=xs.length:=by lia
  subst e;exact .inl ⟨⟨xs,q,rfl⟩,t σ H p⟩
def zaZ (K:PySem.W.Frag):R2:=λx y H Q=>∃ a b d c,x=.ref a/\y=.ref b/\SqT K H a d/\SqT K H b c/\d.all wQ=true/\c.all wQ=true/\Q (.bl ((List.range (min d.length c.length)).all (λj=>eqV (d.getD j .non) (c.getD j .non)) && d.length == c.length)) H
theorem bY (D:X.A.units<cLine):OpR X (compareOp .Eq) (zaZ X.K):=by
 intro pins s σ H x y v u Q I w t h;obtain⟨a,b,k,i,rfl,rfl,F,E,N,M,q⟩:=h;cases w;cases t;obtain⟨g,m,C,_⟩:=I.tuple F;obtain⟨f,l,B,_⟩:=I.tuple E;have o:=m.length;have n:=l.length;refine SeqAt.RcAt.tuples (e:=λj=>eqV (k.getD j .non) (i.getD j .non)) C B D (λj J G=>?_) X.prog X.w _ _ ?_
 ·have d:j<k.length:=by simpa [o] using J
  have c:j<i.length:=by simpa [n] using G
  obtain⟨r,O,A⟩:=m.get (J0 d);obtain⟨p,e2,z⟩:=l.get (J0 c);have L:g.toArray[j]=r:=by simpa using (J9.mp O).2
  have K:f.toArray[j]=p:=by simpa using (J9.mp e2).2
  rw[L,K,J7,J7,J0 d,J0 c];exact pA A z (YE.mp N _ (Yb d)) (YE.mp M _ (Yb c))
 ·rw[Jd,Jd,<- o,<- n]
  exact⟨.bl _,H,I,rfl,q⟩
end
end L2
namespace Own
open PySem PySem.Spec PyProof.Rows
section
variable {prog:Program}{w:World}{A:Around}{E:Value->Shared->Prop}{s:Shared}
theorem SqO.cl {b:Bool}{a:Addr}{xs:Array Value}(x:SqO b s.heap a xs):s.TypeIs (.ref a) (if b then "list" else "tuple"):=by
 cases b<;>(obtain⟨o,e,c,_⟩:=x;exact⟨o,e,c⟩)
theorem aE {b:Bool}{a:Addr}{vs:List Value}{Q:List Value->Shared->Prop}(sq:SqO b s.heap a vs.toArray)(hz:vs.length<=sizeLine)(h:∀ h',s.heap.objs.size<=h'.objs.size->(∀ c o,s.heap.get? c=some o->h'.get? c=some o)->Q vs { s with heap:=h' }):wpAny (model prog w) A (collect (.ref a)) Q E s:=by
 obtain⟨o,n,e,d⟩:=sq.ob;have new:(s.heap.push (seqObj "list" #[] 0)).get? s.heap.objs.size=some (seqObj "list" #[] 0):=Jw _ rfl;have i:(s.heap.push (seqObj "list" #[] 0)).get? a=some o:=J8 _ e
 have old:∀ c u,s.heap.get? c=some u->((s.heap.push (seqObj "list" #[] 0)).update s.heap.objs.size (Obj.mapSeq (·++vs.toArray))).get? c=some u:=λc u q=>by
  rw[Yp _ _ (JV (Jc q))];exact J8 _ q
 have g:SqO b (s.heap.push (seqObj "list" #[] 0)) a vs.toArray:=sq.mv λo q=>J8 _ q;have short:((#[]:Array Value)++vs.toArray).size<=sizeLine+1:=by simp;lia
 unfold collect;refine J6 (wpAny_runValue (YQ entry_proto_collect' (J6 (wpAny_newList (Jm ⟨Code.quiet_builtin _ (by decide +kernel),YQ entry_list_iadd' ?_⟩)))));show wpAny _ _ (Builtin.List.listExtendWith (.ref s.heap.objs.size) (.ref a) (.ref s.heap.objs.size)) _ _ ({ s with heap:=s.heap.push (seqObj "list" #[] 0) }:Shared);unfold Builtin.List.listExtendWith;have f:Shared.TypeIs ({ s with heap:=s.heap.push (seqObj "list" #[] 0) }:Shared) (.ref a) (if b then "list" else "tuple"):=SqO.cl g;refine J6 (wpAny_typeOf f ?_)
 have yes:(Builtin.List.listSameRef (.ref s.heap.objs.size) (.ref a) || Value.type (if b then "list" else "tuple") == Value.type "list" || Value.type (if b then "list" else "tuple") == Value.type "tuple")=true:=by
  have c:∀ b:Bool,(Value.type (if b then "list" else "tuple") == Value.type "list" || Value.type (if b then "list" else "tuple") == Value.type "tuple")=true:=by decide
  rw[Bool.or_assoc,c b,Bool.or_true]
 rw[Jb yes];refine J6 (listItems_at i d (J6 (listItems_at new rfl ?_)));rw[Ja (by simp)];refine J6 (listUpdate_at new rfl (Jm ?_) (JX _) short);refine J6 (wpAny_load (get?_update_seq new _) ?_);have all:((#[]:Array Value)++vs.toArray).toList=vs:=by simp
 have fin:wpAny (model prog w) A (pure ((#[]:Array Value)++vs.toArray).toList) Q E { s with heap:=(s.heap.push (seqObj "list" #[] 0)).update s.heap.objs.size (Obj.mapSeq (·++vs.toArray)) }:=by
  rw[all];exact Jm (h _ (by rw[ZU,size_push'];exact Nat.le_succ _) old)
 exact fin
end
end Own
namespace L2
open PySem PySem.Spec PyProof.Rows Own
section
variable {X:Cx}
theorem lB:∀ {ns:List Int}{us:List Value},Vals (ns.map V.int) us->IntsAre us ns
 | [],_,.nil=>.nil
 | n::ns,_,.cons ⟨t,e⟩ r=>by subst e;exact .cons n t (lB r)
def zaA (K:PySem.W.Frag)(e:TE)(d:TO):TE:=λσ H Q=>e σ H λx f=>d σ f λo b=>o=some (-1)/\∃ a c,x=.ref a/\SqL K b a c/\∀ p,b p=none->Q (.ref p) (upd b p (.lst c.reverse))
theorem bT {e st:Expr}{i:TE}{g:TO}{j pos:Pos}(z:PE X e i)(hs:PO X (some st) g):PE X (.Subscript e (.Slice none none (some st) j) pos) (zaA X.K i g):=by
 intro pins s σ H Q I h;refine Subscript_ (thn (z pins s σ H _ I h) λv n ⟨x,D,B,p,u⟩=>wpAny_Slice ?_);rw[evalPart_none];refine Jm (Jm (thn (hs pins n σ D _ B u) λd c ⟨o,C,A,po,t⟩=>?_));obtain⟨rfl,a,m,rfl,y,k⟩:=t;cases p;have f:Inv X pins σ C { c with heap:=c.heap.push { cls:=.type "slice",data:=.fields #[.none,.none,d] } }:=A.kept (t':=c.toks) λb ob q=>J8 _ q;obtain⟨E,r,l,w⟩:=f.list y;have hlen:=r.length;show wpAny (model X.prog X.w) X.A (subscriptTail e (.Slice none none (some st) j) (.ref a) (.ref c.heap.objs.size)) (EP X pins σ Q) X.xe { c with heap:=c.heap.push { cls:=.type "slice",data:=.fields #[.none,.none,d] } };refine tail_any (ops:=[.ref a,.ref c.heap.objs.size]) l.isList.typeIs slot_list_getitem.lookup (wpAny_getItem_list_slice l.isList (Heap.IsSliceOf.new ..) .none .none po (by simp) ?_ (by rw[Jd]<;>simp_all)) (by with_unfolding_all rfl);rw[PySem.W.krv_pick];refine⟨.ref _,_,f.laid (t':=c.toks) (o:=.lst m.reverse) (λb ob q=>J8 _ q) (Jf _) ⟨by rw[Zg];exact w,_,0,r.reverse,?_⟩,rfl,k _ (f.hok.fresh (Jf _))⟩;exact Jw _ rfl
end
theorem qt {K:PySem.W.Frag}{a:Addr}{xs:List V}{g:TG}{h:TE}{l:Addr}{σ:St}{H:Hp}{Q:VK}(b:Nat->List V->St->Hp->Prop)(o:b 0 [] σ H)(n:∀ i acc σ H,b i acc σ H->H l=some (.lst acc)/\SqT K H a xs)(hs:∀ i x acc σ H,xs[i]?=some x->b i acc σ H->g x σ H λc q=>h c q λy j=>j l=some (.lst acc)/\acc.length<sizeLine/\Nx xs.length i (b (i+1) (acc++[y]) c (upd j l (.lst (acc++[y])))))(hd:∀ acc σ H,b xs.length acc σ H->Q (.ref l) H):∃ W:Nat->Nat->List V->St->Hp->Prop,(∃ m,W 0 m [] σ H)/\LCW (Itt K a) g j9 h l Q W:=by
 refine⟨λi m acc σ H=>m=xs.length-i/\i<=xs.length/\b i acc σ H,⟨_,rfl,JX _,o⟩,?_⟩;rintro i m acc σ H ⟨rfl,r,p⟩;obtain⟨k,d⟩:=n i acc σ H p;refine⟨k,?_⟩;by_cases f:i<xs.length
 ·refine .inr ⟨⟨xs,xs[i],d,J0 f⟩,λx s ⟨e,y⟩=>?_⟩
  subst e;exact hs i x acc σ _ (y xs d) p
 ·obtain rfl:i=xs.length:=by lia
  exact .inl ⟨⟨xs,d,Jf _⟩,hd acc σ H p⟩
theorem cA {K:PySem.W.Frag}{a:Addr}{xs:List V}{g:TG}{h:TE}{l:Addr}{σ:St}{H:Hp}{Q:VK}(b:Nat->List V->St->Hp->Prop)(o:b 0 [] σ H)(n:∀ i acc σ H,b i acc σ H->H l=some (.lst acc)/\SqL K H a xs)(hs:∀ i x acc σ H,xs[i]?=some x->b i acc σ H->g x σ H λc q=>h c q λy j=>j l=some (.lst acc)/\acc.length<sizeLine/\Nx xs.length i (b (i+1) (acc++[y]) c (upd j l (.lst (acc++[y])))))(hd:∀ acc σ H,b xs.length acc σ H->Q (.ref l) H):∃ W:Nat->Nat->List V->St->Hp->Prop,(∃ m,W 0 m [] σ H)/\LCW (Itl K a) g j9 h l Q W:=by
 refine⟨λi m acc σ H=>m=xs.length-i/\i<=xs.length/\b i acc σ H,⟨_,rfl,JX _,o⟩,?_⟩;rintro i m acc σ H ⟨rfl,r,p⟩;obtain⟨k,d⟩:=n i acc σ H p;refine⟨k,?_⟩;by_cases f:i<xs.length
 ·refine .inr ⟨⟨xs,xs[i],d,J0 f⟩,λx s ⟨e,y⟩=>?_⟩
  subst e;exact hs i x acc σ _ (y xs d) p
 ·obtain rfl:i=xs.length:=by lia
  exact .inl ⟨⟨xs,d,Jf _⟩,hd acc σ H p⟩
end L2
namespace L2
open PySem PySem.Spec PyProof.Rows Own
section
variable {prog:Program}{w:World}{A:Around}{E:Value->Shared->Prop}{s:Shared}
theorem o5 {Q:List Value->Shared->Prop}{r:Addr}{a b c:Int}{t u v:Tok}{n:Nat}(p:A.handled=none)(l:IsRange s.heap r a b c t u v)(sm:Builtin.Range.small a b c=true)(hn:Builtin.Range.rangeSize a b c=n)(hlen:n<=2 ^ 24)(q:∀ (h':Heap) (d:Nat) (acc:Array Value),(∀ b o,s.heap.get? b=some o->h'.get? b=some o)->ItemsOf (λi v=>∃ t,v=.int (a+i*c) t) acc n->Q acc.toList { s with heap:=h',toks:=d }):wpAny (model prog w) A (collect (.ref r)) Q E s:=by
 have key:∀ R:Result->Shared->Prop,(∀ (h':Heap) (d:Nat) (acc:Array Value) (g:Nat),(∀ b o,s.heap.get? b=some o->h'.get? b=some o)->h'.get? s.heap.objs.size=some { cls:=.type "list",data:=.seq acc g }->ItemsOf (λi v=>∃ t,v=.int (a+i*c) t) acc n->R (.ok (.ret (.ref s.heap.objs.size))) { s with heap:=h',toks:=d }) ->
   codeAny (model prog w) A (.builtin "proto.collect" ⟨[.ref r],[]⟩) R s:=by
  intro R x;have k:=λz=>YM (A:=A) F.plain_proto_collect z;have j:=λz=>YM (A:=A) F.plain_list_iadd z;refine YQ F.entry_proto_collect ?_;rw[k];refine J6 (m:=newList []) (Zy (Jm ⟨Wm F.plain_list_iadd _,YQ F.entry_list_iadd ?_⟩));rw[j];have y:(s.heap.push { cls:=.type "list",data:=.seq ([]:List Value).toArray }).get? s.heap.objs.size=some { cls:=.type "list",data:=.seq #[] 0 }:=Jw _ rfl;exact wpAny_extend_range (s:={ s with heap:=s.heap.push { cls:=.type "list",data:=.seq ([]:List Value).toArray } }) p (J8 _ l) sm hn hlen s.heap.objs.size (.ref s.heap.objs.size) _ y λh' d f g h e it=>x h' d f g (λb o z=>h b o (JH (Jc z)) (J8 _ z)) e it
 unfold collect;exact J6 (wpAny_runValue (key _ λh' d acc g h e it=>J6 (m:=load s.heap.objs.size) (wpAny_load e (Jm (q h' d acc h it)))))
theorem rG (r:Addr)(a b c:Int)(t u v:Tok)(n:Nat)(sm:Builtin.Range.small a b c=true)(hn:Builtin.Range.rangeSize a b c=n)(hlen:n<=2 ^ 24) :
  Meets (Builtin.«tuple.__new__» ⟨[.type "tuple",.ref r],[]⟩) (λA R s=>A.handled=none/\IsRange s.heap r a b c t u v/\∀ (h':Heap) (d:Nat) (acc:Array Value),(∀ b o,s.heap.get? b=some o->h'.get? b=some o)->ItemsOf (λi v=>∃ t,v=.int (a+i*c) t) acc n ->
   R (.ok (.ret (.ref h'.objs.size))) { s with heap:=h'.push { cls:=.type "tuple",data:=.seq acc },toks:=d }) :=
 .of_wp λprog w A R s h=>by
  obtain⟨g,e,h⟩:=h;have q:=sub_tuple_self;have p:=init_tuple_lookup;have l:=madeHere_tuple;have k:s.TypeIs (.ref r) "range":=⟨_,e,rfl⟩;have j:A.in1.handled=none:=g
  wp_walk using wpAny_typeOf k,o5 j e sm hn hlen
  intro h' d acc f it;rw[show acc.toList.toArray=acc by simp];exact J6 (m:=Builtin.Tuple.tupleExact acc) (Zy (Jm ⟨_,rfl,h h' d acc f it⟩) (by show acc.size<=sizeLine;rw[it.1,Y1];exact hlen))
theorem pE {Q:Value->Shared->Prop}{r:Addr}{a b c:Int}{t u v:Tok}{n:Nat}(g:A.handled=none) (f:IsRange s.heap r a b c t u v) (sm:Builtin.Range.small a b c=true) (hn:Builtin.Range.rangeSize a b c=n) (hlen:n<=2 ^ 24)
  (q:∀ (h':Heap) (d:Nat) (acc:Array Value),(∀ b o,s.heap.get? b=some o->h'.get? b=some o)->ItemsOf (λi v=>∃ t,v=.int (a+i*c) t) acc n->Q (.ref h'.objs.size) { s with heap:=h'.push { cls:=.type "tuple",data:=.seq acc },toks:=d }) :
  wpAny (model prog w) A (call (.type "tuple") [.ref r]) Q E s :=
 callType_new F.called_tuple (by decide) (F.typeCall_tuple_1 _) (F.newCall_tuple_1 _) (λobj=>F.args_object_init_2 obj _) F.entry_tuple_new (rG r a b c t u v n sm hn hlen) ⟨g,f,λh' d acc e it=>⟨⟨_,Jw _ rfl,rfl⟩,q h' d acc e it⟩⟩
end
def tL (n:Nat):List V:=(List.range n).map λ(i:Nat)=>V.int i
theorem vH {acc:Array Value}{n:Nat}(h:ItemsOf (λi v=>∃ t,v=Value.int (0+i*1) t) acc n):Vals (tL n) acc.toList:=by
 obtain⟨d,c⟩:=h
 have go:∀ (l:List Value) (k:Nat),(∀ (j:Nat) (v:Value),l[j]?=some v->∃ t,v=Value.int ((k+j:Nat):Int) t)->Vals ((List.range l.length).map λ(i:Nat)=>V.int ((k+i:Nat):Int)) l:=by
  intro l
  induction l with
  | nil=>intro k _;exact .nil
  | cons x l ih =>
   intro k b;rw[JE,List.range_succ_eq_map,Y5,YL];refine .cons (by obtain⟨t,e⟩:=b 0 x rfl;exact⟨t,e⟩) ?_
   have:=ih (k+1) λj v a=>by
    obtain⟨t,e⟩:=b (j+1) v (by simpa using a);exact⟨t,by rw[e];congr 1;lia⟩
   refine cast (Yh (λz=>Vals z l) (JP λi _=>?_)) this;show V.int ((k+1+i:Nat):Int)=V.int ((k+(i+1):Nat):Int)
   congr 2;lia
 have:=go acc.toList 0 λj v a=>by
  obtain⟨t,e⟩:=c j v (by simpa using a);exact⟨t,by rw[e];congr 1;simp_all⟩
 rw[JB,d]at this;unfold tL;refine cast (Yh (λz=>Vals z acc.toList) (JP λi _=>?_)) this;show V.int ((0+i:Nat):Int)=V.int (i:Int);rw[YA]
theorem pJ (n:Nat):(tL n).length=n:=by simp[tL]
section
variable {X:Cx}
def iD (b:Bool)(d:TA):TE:=λσ H Q=>d σ H λc a=>∃ j:Nat,c=[.int j]/\j<=100000/\∀ l,a l=none->Q (.ref l) (upd a l (if b=true then .lst (tL j) else .tup (tL j)))
theorem pR {j:Nat}(h:j<=100000):Builtin.Range.small 0 (j:Int) 1=true:=small_one (by simp_all) (by simp_all) (by simp_all) (by lia)
theorem lF {j:Nat}:Builtin.Range.rangeSize 0 (j:Int) 1=((j:Nat):Int):=by rw[rangeSize_one];split<;>simp_all
theorem wM {a:Expr}{x:TA}{p i pos c:Pos}(hc:X.calm=true) (w:Gl X "list") (r:X.mg "list" = none) (v:Gl X "range") (m:X.mg "range" = none) (ha:PA X [a] x) (hs:starEach [a] X.env=[(false,eval a X.env)]:=by rfl)
  (d:starEach [.Call (.Name "range" i) [a] [] c] X.env=[(false,eval (.Call (.Name "range" i) [a] [] c) X.env)]:=by rfl):PE X (.Call (.Name "list" p) [.Call (.Name "range" i) [a] [] c] [] pos) (iD true x):=by
 intro pins s σ H Q I h;refine YT (xC I w r (u:=.type "list") (by rfl) (Y3 ?_ d rfl));rw[d];refine Wd (Call_ (xC I v m boot_range (Y3 (thn (ha c pins s σ H _ I h) λJ g ⟨G,K,l,A,B⟩=>?_) hs rfl)));obtain⟨j,rfl,k,q⟩:=B;obtain⟨u,rfl,t,rfl⟩:=A.one;refine call_range_1 (Wj ?_);refine call_list_range (n:=j) (l.ok.hd hc) (IsRange.new ..) (pR k) lF (JM k (by decide)) λE y f F C e it=>?_;have D:∀ b o,g.heap.get? b=some o->E.get? b=some o:=λb o z=>C b o (J8 _ z);refine⟨.ref _,_,l.laid (t':=y) (o:=.lst (tL j)) D ?_ ⟨by rw[pJ];exact JM k (by decide),f.toList,F,vH it,by simpa using e⟩,rfl,q _ (l.hok.fresh ?_)⟩
 all_goals (show g.heap.objs.size<=(g.heap.push _).objs.size;rw[Zh];exact Nat.le_succ _)
theorem jF {a:Expr}{w:TA}{p f pos c:Pos}(hc:X.calm=true) (r:Gl X "tuple") (l:X.mg "tuple" = none) (m:Gl X "range") (k:X.mg "range" = none) (ha:PA X [a] w) (hs:starEach [a] X.env=[(false,eval a X.env)]:=by rfl)
  (d:starEach [.Call (.Name "range" f) [a] [] c] X.env=[(false,eval (.Call (.Name "range" f) [a] [] c) X.env)]:=by rfl):PE X (.Call (.Name "tuple" p) [.Call (.Name "range" f) [a] [] c] [] pos) (iD false w):=by
 intro pins s σ H Q I h;refine YT (xC I r l (u:=.type "tuple") (by rfl) (Y3 ?_ d rfl));rw[d];refine Wd (Call_ (xC I m k boot_range (Y3 (thn (ha c pins s σ H _ I h) λJ x ⟨G,F,A,B,C⟩=>?_) hs rfl)));obtain⟨j,rfl,g,q⟩:=C;obtain⟨u,rfl,t,rfl⟩:=B.one;refine call_range_1 (Wj ?_);refine pE (n:=j) (A.ok.hd hc) (IsRange.new ..) (pR g) lF (JM g (by decide)) λi v acc D it=>?_;have E:∀ b o,x.heap.get? b=some o->i.get? b=some o:=λb o z=>D b o (J8 _ z);have y:Inv X pins σ F { x with heap:=i,toks:=v }:=A.kept E;refine⟨.ref i.objs.size,_,y.laid (t':=v) (o:=.tup (tL j)) (λb o e=>J8 _ e) (Jf _) ⟨by rw[pJ];exact JM g (by decide),acc.toList,vH it,?_⟩,rfl,q _ (y.hok.fresh (Jf _))⟩;exact⟨_,Jw _ rfl,rfl,0,by simp,rfl⟩
theorem mJ (g:X.A.units<cLine):OpR X (compareOp .NotEq) (λx y H Q=>∃ a b xs,x=.ref a/\y=.ref b/\SqL X.K H a xs/\SqL X.K H b []/\Q (.bl (!xs.isEmpty)) H):=by
 intro pins s σ H x y v u Q I k i h;obtain⟨a,b,xs,rfl,rfl,o,n,q⟩:=h;cases k;cases i;obtain⟨r,c,f,_⟩:=I.list o;obtain⟨p,l,d,_⟩:=I.list n;cases l;have m:=c.length
 cases xs with
 | nil =>
  cases c
  exact SeqAt.RcNeAt.lists (e:=λ_=>true) f.isList d.isList rfl g (λj h=>absurd h (Nat.not_lt_zero _)) X.prog X.w _ _ ⟨.bl _,H,I,rfl,q⟩
 | cons z t =>
  exact SeqAt.RcNeAt.lists_lengths f.isList d.isList (by rw[Jd,<- m];simp) g X.prog X.w _ _ ⟨.bl _,H,I,rfl,q⟩
theorem mQ (l:Addr) (o:Obj) (items:Array Value) (n:Nat) (x:Value) (j:Nat) (hc:o.cls=.type "tuple") (hd:o.data=.seq items n) (e:Nat->Bool) (z:∀ i,i<j->e i=false) (y:e j=true) (E:j<items.size) :
  Meets (Builtin.«tuple.index» ⟨[.ref l,x],[]⟩) (λA R s=>s.heap.get? l=some o/\(∀ i (h:i<items.size),SeqAt.EqAt A.in1 s items[i] x (e i))/\R (.ok (.ret (.int j s.toks))) { s with toks:=s.toks+1 }) :=
 .of_wp λprog w A R s h=>by
  cases s with
  | mk m B D g os =>
  obtain⟨p,u,h⟩:=h;unfold Builtin.«tuple.index»;simp only[Std.Legacy.Range.forIn_eq_forIn_range']
  wp_walk using Yf p hd,wpAny_forIn_list _ (λrest b c=>c=⟨m,B,D,g,os⟩/\b.1=none/\∃ i,i<=j/\rest=List.range' i (items.size-i)) _
  case turn =>
   rintro i rest b c ⟨rfl,v,d,r,a⟩;have k:items.size-d=(items.size-(d+1))+1:=by grind
   rw[k,List.range'_succ]at a;injection a with C e2;subst C;have f:i<items.size:=by lia
   have t:items[i]?=some items[i]:=by simp[f]
   simp only[t];refine J6 (u i f prog w _ _ ?_);by_cases q:i=j
   ·subst q;rw[y];wp_walk;exact⟨_,rfl,h⟩
   ·rw[z i (by lia)];wp_walk;exact⟨rfl,rfl,i+1,by lia,e2⟩
  case fin =>
   rintro b c ⟨rfl,v,d,r,a⟩;have:=Yh List.length a;simp at this;omega
  case h=>exact⟨rfl,rfl,0,JX _,by simp[Std.Legacy.Range.size]⟩
theorem sU:∀ {ns:List Int}{k:Int}{i:Nat},i<ns.idxOf k->(ns.getD i 0 == k)=false
 | [],k,i,h=>by simp at h
 | n::ns,k,i,h=>by
  rw[List.idxOf_cons]at h
  cases e:n == k with
  | true=>rw[e]at h;simp at h
  | false =>
   rw[e]at h;simp only[cond_false]at h
   cases i with
   | zero=>exact e
   | succ i=>exact sU (ns:=ns) (i:=i) (by simp_all)
def aO (to:TE)(t:TA):TE:=λσ H Q=>to σ H λx c=>∃ a ns,x=.ref a/\c a=some (.tup (List.map V.int ns))/\t σ c λd b=>∃ k:Int,d=[.int k]/\b a=some (.tup (List.map V.int ns))/\k∈ns/\Q (.int (ns.idxOf k:Nat)) b
theorem eV {o e:Expr}{to:TE}{t:TA}{apos cpos:Pos}(hu:X.A.units+64<cLine) (T:PE X o to) (ha:PA X [e] t)
  (d:attributeBase o "index" X.env (eval o X.env)=eval o X.env:=by rfl)
  (j:((backTo cpos (starEach [e] X.env)).all (λx=>!x.1) && (backToKw cpos (keywordEach [] X.env)).all (λx=>x.1.isSome) && decide ([e].length+([]:List Keyword).length+(if ([]:List Keyword).isEmpty then 0 else 1)<30))=true:=by rfl)
  (c:(apos.endLine == cpos.line)=true:=by rfl) (S:starEach [e] X.env=(false,eval e X.env)::starEach [] X.env:=by rfl):PE X (.Call (.Attribute o "index" apos) [e] [] cpos) (aO to t):=by
 intro pins s σ H Q I h;refine wpAny_Call_method_late d j c rfl (thn (T pins s σ H _ I h) λv p ⟨x,E,C,L,a,ns,ex,R,M⟩=>?_);subst ex;cases L;obtain⟨_,ak,_,⟨ob,z,c1,n1,d1,N⟩⟩:=(show ObjOk X.prog X.w E p.heap a (.tup (List.map V.int ns)) from C.hok a _ R);refine⟨"tuple","tuple.index",PySem.F.plainAttrs_tuple,PySem.F.slot_tuple_index,PySem.F.type_tuple_index,⟨ob,z,c1⟩,λa' Y=>by cases Y;exact⟨ob,z,N⟩,?_⟩;have y:=ha cpos pins p σ E _ C M;rw[S]at y ⊢;refine Calls.callWith_builtin rfl (Calls.evalArgs_plain ?_);refine thn y λus J ⟨vs,D,B,K,k,ev,m,P,q⟩=>?_;subst ev;obtain⟨u,rfl,F,rfl⟩:=K.one;obtain⟨_,b,r,⟨f,g,A,O,Z,ab⟩⟩:=(show ObjOk X.prog X.w D J.heap a (.tup (List.map V.int ns)) from B.hok a _ m);have hlen:b.toArray.size=ns.length:=by rw[Jd,<- r.length,Je]
 have w:=Wa P
 refine call_meets PySem.F.slot_tuple_index ⟨f,g,A⟩ PySem.F.entry_tuple_index (PySem.F.args_tuple_index_2 _ _)
  (mQ a f b.toArray O (.int k F) (ns.idxOf k) A Z (λi=>ns.getD i 0 == k) (λi l=>?_) ?_ (by rw[hlen];exact w)) ⟨g,λi l=>?_,?_⟩
 ·exact sU l
 ·rw[J7,J0 w]
  simp
 ·have n:i<ns.length:=by rw[<- hlen];exact l
  obtain⟨w1,W,G,rfl⟩:=r.get (show (List.map V.int ns)[i]?=some (V.int (ns.getD i 0)) by rw[JD,J7,J0 n];rfl);have U:b.toArray[i]=.int (ns.getD i 0) G:=by simpa using (J9.mp W).2
  rw[U];exact(MeetsSeq.EqGives.int _ _ _ _).at _ _
 ·exact⟨.int _,D,B.tok _,⟨_,rfl⟩,q⟩
end
end L2
namespace Bn
open PySem L2 Own
def Tups (H H':Hp):Prop:=∀ a b,H a=some (.tup b)->H' a=some (.tup b)
theorem Tups.refl (H:Hp):Tups H H:=λ_ _ e=>e
theorem Tups.trans {H d c:Hp}(x:Tups H d)(y:Tups d c):Tups H c:=λa b e=>y a b (x a b e)
theorem Tups.of {H H':Hp}(s:Same H H'):Tups H H':=λa _ e=>s a _ e
theorem Tups.lst {H:Hp}{l:Addr}{xs ys:List V}(h:H l=some (.lst xs)):Tups H (upd H l (.lst ys)):=λa b e=>by
 rw[zH (by rintro rfl;rw[h]at e;cases e)];exact e
def But (l:Addr)(H H':Hp):Prop:=∀ b o,H b=some o->b≠l->H' b=some o
theorem But.trans {l:Addr}{H c a:Hp}(x:But l H c)(y:But l c a):But l H a:=λb o e n=>y b o (x b o e n) n
theorem But.of {l:Addr}{H a:Hp}(x:Same H a):But l H a:=λb o e _=>x b o e
def Prs (H:Hp):List V->List (Nat × Nat)->Prop
 | [],[]=>True
 | p::ps,f::fs=>(∃ a,p=.ref a/\H a=some (.tup [.int f.1,.int f.2]))/\Prs H ps fs
 | _,_=>False
theorem Prs.tups {H H':Hp}(t:Tups H H'):∀ {ps:List V}{fs:List (Nat × Nat)},Prs H ps fs->Prs H' ps fs
 | [],[],_=>trivial
 | _::_,_::_,⟨⟨a,e,h⟩,r⟩=>⟨⟨a,e,t _ _ h⟩,r.tups t⟩
theorem Prs.len {H:Hp}:∀ {ps:List V}{fs:List (Nat × Nat)},Prs H ps fs->ps.length=fs.length
 | [],[],_=>rfl
 | _::_,_::_,⟨_,r⟩=>Yh (· + 1) r.len
theorem Prs.add {H:Hp}{a:Addr}{f:Nat × Nat}(h:H a=some (.tup [.int f.1,.int f.2])):∀ {ps:List V}{fs:List (Nat × Nat)},Prs H ps fs->Prs H (ps++[.ref a]) (fs++[f])
 | [],[],_=>⟨⟨a,rfl,h⟩,trivial⟩
 | _::_,_::_,⟨x,r⟩=>⟨x,r.add h⟩
theorem Prs.get {H:Hp}:∀ {ps:List V}{fs:List (Nat × Nat)}{i:Nat}{p:V},Prs H ps fs->ps[i]?=some p->∃ a f,p=.ref a/\fs[i]?=some f/\H a=some (.tup [.int f.1,.int f.2])
 | [],[],_,_,_,e=>by simp at e
 | _::_,f::_,0,p,⟨⟨a,b,h⟩,_⟩,e=>by
  have:_=p:=Jv e;subst this
  exact⟨a,f,b,rfl,h⟩
 | _::_,_::_,i+1,p,⟨_,r⟩,e=>r.get (i:=i) (by simpa using e)
structure Nt where
 lanes:Nat
 forks:List (Nat × Nat)
 ends:List Nat
structure Nt.Ok (N:Nt):Prop where
 l1:1<=N.lanes
 l16:N.lanes<=16
 fm:N.forks.length<=128
 fk:∀ f∈N.forks,f.1<N.lanes/\f.2<N.lanes/\f.1≠f.2
 en:N.ends.Perm (List.range N.lanes)
def zJ (a:List Nat):List V:=a.map λ(e:Nat)=>V.int e
structure NetAt (H:Hp) (r fr er:Addr) (ps:List V) (N:Nt):Prop where
 net:H r=some (.tup [.int N.lanes,.ref fr,.ref er])
 forks:H fr=some (.tup ps)
 prs:Prs H ps N.forks
 ends:H er=some (.tup (zJ N.ends))
theorem NetAt.tups {H H':Hp}{r fr er:Addr}{ps:List V}{N:Nt}(t:Tups H H')(h:NetAt H r fr er ps N):NetAt H' r fr er ps N:=⟨t _ _ h.net,t _ _ h.forks,h.prs.tups t,t _ _ h.ends⟩
def xk (st:List Int × List Int)(f:Nat × Nat):List Int × List Int :=
 ((st.1.set f.1 ((st.1.getD f.1 0+st.1.getD f.2 0+1) / 2)).set f.2 ((st.1.getD f.1 0+st.1.getD f.2 0) / 2),st.2++[(st.1.getD f.1 0+st.1.getD f.2 0)%2])
def xP (st:List Int × List Int)(fs:List (Nat × Nat)):List Int × List Int:=fs.foldl xk st
def yz (fs:List (Nat × Nat))(cs:List Int):List Int × List Int:=xP (cs,[]) fs
def yB (N:Nt)(cs:List Int):List Int:=N.ends.map λe=>(yz N.forks cs).1.getD e 0
def nG (N:Nt)(cs:List Int):List Int:=(yz N.forks cs).2
theorem jj (fs:List (Nat × Nat))(f:Nat × Nat)(cs:List Int):yz (fs++[f]) cs=xk (yz fs cs) f:=by
 unfold yz xP;rw[List.foldl_append];rfl
theorem rM (st:List Int × List Int)(f:Nat × Nat):(xk st f).1.length=st.1.length:=by simp[xk]
theorem wb:∀ (fs:List (Nat × Nat)) (st:List Int × List Int),(xP st fs).1.length=st.1.length/\(xP st fs).2.length=st.2.length+fs.length
 | [],st=>⟨rfl,rfl⟩
 | f::fs,st=>by
  have h:=wb fs (xk st f);refine⟨h.1.trans (rM st f),h.2.trans ?_⟩;simp[xk];lia
theorem wu (fs:List (Nat × Nat))(cs:List Int):(yz fs cs).1.length=cs.length:=(wb fs (cs,[])).1
theorem md (fs:List (Nat × Nat))(cs:List Int):(yz fs cs).2.length=fs.length:=by
 have:=(wb fs (cs,[])).2;simpa [yz] using this
theorem uT {fs:List (Nat × Nat)}{i:Nat}{f:Nat × Nat}(h:fs[i]?=some f)(cs:List Int):yz (fs.take (i+1)) cs=xk (yz (fs.take i) cs) f:=by
 have w:=J9.mp h;obtain⟨a,e⟩:=w;rw[JR a,jj,e]
theorem qA:∀ (xs:List Int) (i:Nat) (a:Int),i<xs.length->(xs.set i a).sum=xs.sum-xs.getD i 0+a
 | [],i,a,h=>by simp at h
 | x::xs,0,a,_=>by simp;lia
 | x::xs,i+1,a,h=>by
  have:=qA xs i a (by simpa using h);simp only[List.set_cons_succ,Wn,this,List.getD_cons_succ];lia
theorem tY {xs:List Int}{i p:Nat}{a:Int}(h:p<xs.length):(xs.set i a).getD p 0=if i=p then a else xs.getD p 0:=by
 rw[J7,Yt];by_cases e:i=p
 ·subst e;simp[h]
 ·simp[e]
theorem aB (c:Int):(c+1) / 2+c / 2=c:=by lia
theorem kj {st:List Int × List Int}{f:Nat × Nat}(b:f.1<st.1.length)(a:f.2<st.1.length)(ne:f.1≠f.2):(xk st f).1.sum=st.1.sum:=by
 unfold xk;simp only;rw[qA _ _ _ (by rw[Yd];exact a),qA _ _ _ b,tY a,Ja ne];have:=aB (st.1.getD f.1 0+st.1.getD f.2 0);lia
theorem uB:∀ (fs:List (Nat × Nat)) (st:List Int × List Int),(∀ f∈fs,f.1<st.1.length/\f.2<st.1.length/\f.1≠f.2)->(xP st fs).1.sum=st.1.sum
 | [],st,_=>rfl
 | f::fs,st,h=>by
  have a:=h f Ju
  have:=uB fs (xk st f) λg b=>by
   rw[rM];exact h g (Jr _ b)
  exact this.trans (kj a.1 a.2.1 a.2.2)
theorem iF {xs ys:List Int}(h:xs.Perm ys):xs.sum=ys.sum:=by
 induction h with
 | nil=>rfl
 | cons x _ ih=>simp[ih]
 | swap x y l=>simp;lia
 | trans _ _ a b=>exact a.trans b
theorem sN (xs:List Int):(List.range xs.length).map (λe=>xs.getD e 0)=xs:=by
 refine Zk (by simp) λi b a=>?_;rw[Zm,ZK,J7,J0 a];rfl
theorem oj {N:Nt}(ok:N.Ok){cs:List Int}(h:cs.length=N.lanes):(yB N cs).sum=cs.sum:=by
 unfold yB;rw[iF (ok.en.map _)];have e:N.lanes=(yz N.forks cs).1.length:=by rw[wu,h]
 rw[e,sN]
 exact uB N.forks (cs,[]) λf a=>by
  have:=ok.fk f a;simp only[h];exact this
theorem lj {N:Nt}(ok:N.Ok){e:Nat}(h:e∈N.ends):e<N.lanes:=JC.mp (ok.en.mem_iff.mp h)
theorem sY {N:Nt}(ok:N.Ok):N.ends.length=N.lanes:=by rw[ok.en.length_eq,Jx]
theorem rC {cs:List Int}{i:Nat}(h:i<cs.length):atI (cs.map V.int) ((i:Nat):Int)=some (.int (cs.getD i 0)):=by
 refine yR ?_;rw[JD,J7,J0 h];rfl
theorem vt {α:Type}{xs:List α}{i:Nat}(h:i<xs.length):ixN xs.length ((i:Nat):Int)=some i:=by
 unfold ixN;rw[Jb (by lia),Jb (by simp_all)];simp
theorem ve (cs:List Int)(i:Nat)(a:Int):(cs.map V.int).set i (.int a)=(cs.set i a).map V.int:=by rw[List.map_set]
structure Mgs (mg:Str->Option Value):Prop where
 len:mg "len" = none
 range:mg "range" = none
 tuple:mg "tuple" = none
 enum:mg "enumerate" = none
 abs:mg "abs" = none
 zip:mg "zip" = none
 isi:mg "isinstance" = none
 all:mg "all" = none
 sum:mg "sum" = none
 bool:mg "bool" = none
 int:mg "int" = none
 str:mg "str" = none
 max:mg "max" = none
 min:mg "min" = none
 sorted:mg "sorted" = none
 list:mg "list" = none
structure Use (P:Program) (w:World) (K:PySem.W.Frag) (mg:Str->Option Value) (base:Heap) (x:Str) (ps:List Str) (k:Nat) (sp:Sp) (f:Addr) (fd:FuncData):Prop where
 ok:FnOk P w K mg base CX0 k f fd ps sp
 b:Binds K fd ps []
 kp:PySem.W.keepIn K (.ref f)=true
 m:mg x=some (.ref f)
def tW:Sp:=λb H Q _=>∃ r fr e d N c cs,b=[.ref r,.ref c]/\Nt.Ok N/\NetAt H r fr e d N/\H c=some (.tup (List.map V.int cs))/\cs.length=N.lanes /\
 ∀ p lo lt a,Same H a->a p=some (.tup [.ref lo,.ref lt])->a lo=some (.lst ((yz N.forks cs).1.map V.int))->a lt=some (.lst ((yz N.forks cs).2.map V.int))->Q (.ref p) a
def ni:Sp:=λb H Q _=>∃ r fr e d N c cs,b=[.ref r,.ref c]/\Nt.Ok N/\NetAt H r fr e d N/\H c=some (.tup (List.map V.int cs))/\cs.length=N.lanes /\
 ∀ p a,Same H a->a p=some (.tup ((yB N cs).map V.int))->Q (.ref p) a
def Frs (l:Addr)(H:Hp)(x:Addr):Prop:=∀ b o,H b=some o->b≠l->b≠x
theorem But.frs {l x:Addr}{H a:Hp}(B:But l H a)(h:a x=none):Frs l H x:=λb o e n=>zF (B b o e n) h
theorem But.upd {l x:Addr}{H a:Hp}{o:HO}(B:But l H a)(f:Frs l H x):But l H (upd a x o):=λb u e n=>by rw[zH (f b u e n)];exact B b u e n
theorem But.new {l x:Addr}{H a:Hp}{o:HO}(B:But l H a)(h:a x=none):But l H (L2.upd a x o):=B.upd (B.frs h)
theorem lL {xs:List Nat}{v:Nat}(h:v<xs.length):∃ n,n∈xs/\atI (zJ xs) ((v:Nat):Int)=some (.int n):=by
 refine⟨xs[v],Yb h,yR ?_⟩;unfold zJ;rw[JD,J0 h];rfl
theorem zK (a:List Nat):(zJ a).length=a.length:=by simp[zJ]
theorem oA {one d lanes:Nat}(b:one<lanes)(a:d+1<lanes):(one+1+d)%lanes<lanes/\one≠(one+1+d)%lanes:=by
 refine⟨Nat.mod_lt _ (by lia),λe=>?_⟩;by_cases z:one+1+d<lanes
 ·rw[ZV z]at e;lia
 ·rw[Nat.mod_eq_sub_mod (by lia),ZV (by lia)]at e;lia
def nm (ns:List Nat)(i:Nat):Nat:=ns.getD i 0
section
variable {ns:List Nat}{n:Nat}(pm:ns.Perm (List.range n))
include pm
end
def Nt.again (N:Nt)(f:Nat × Nat):Nt:=⟨N.lanes,N.forks++[f],N.ends⟩
theorem Prs.last {H:Hp}:∀ {ps:List V}{fs:List (Nat × Nat)},Prs H ps fs->ps≠[]->∃ (b:List V) (a:Addr) (c:List (Nat × Nat)) (f:Nat × Nat),ps=b++[.ref a]/\fs=c++[f]/\H a=some (.tup [.int f.1,.int f.2])
 | [],[],_,n=>absurd rfl n
 | [p],[f],⟨⟨a,e,h⟩,_⟩,_=>⟨[],a,[],f,by rw[e];rfl,rfl,h⟩
 | p::q::ps,f::g::fs,⟨_,r⟩,_=>by
  obtain⟨b,a,c,k,d,e2,h⟩:=Prs.last (ps:=q::ps) (fs:=g::fs) r (by simp)
  exact⟨p::b,a,f::c,k,by rw[d];rfl,by rw[e2];rfl,h⟩
 | [p],f::g::fs,⟨_,r⟩,_=>False.elim r
 | p::q::ps,[f],⟨_,r⟩,_=>False.elim r
end Bn
namespace K89
open PySem L2 Own Bn
def top (i:Nat):Stmt:=PySem.Challenge.pw_stairlanes_k89_whole_numbers_given.main.body.getD i (.Pass ⟨0,0,0,0⟩)
abbrev iR:Stmt:=top 34
structure StAt (H:Hp) (l:Addr) (n:Nat):Prop where
 ex:∃ a b c:Int,H l=some (.lst [.int a,.int b,.int c])/\0<=a/\0<=b/\b<2 ^ 62/\0<=c/\c<=n
theorem StAt.mono {H:Hp}{l:Addr}{n m:Nat}(h:StAt H l n)(k:n<=m):StAt H l m:=by
 obtain⟨a,b,c,i,g,f,e,d,j⟩:=h.ex;exact⟨a,b,c,i,g,f,e,d,by lia⟩
def tQ (c:PySem.W.Frag):Sp:=λb H Q _=>∃ (l:Addr) (m:Int) (n:Nat),b=[.ref l,.int m]/\0<m/\m<1073741824/\StAt H l n/\n<2 ^ 60 /\
 ∀ v a,0<=v->v<m->StAt a l (n+1)->But l H a->Q (.int v) a
section
variable {P:Program}{w:World}{K:PySem.W.Frag}{mg:Str->Option Value}{base:Heap}
theorem scT:FnScope ["_law_state","_law_many","_law_digit","_law_mixed"] ["_law_state","_law_many"] (zP iR):=by trivial
theorem dQ {f:Addr}{fd:FuncData}(F:Fun K "_law_take" "_law_take" iR f fd):FnOk P w K mg base CX0 1 f fd ["_law_state","_law_many"] (tQ K):=by
 refine F.ok scT (λz H Q E h=>?_) (λI A outer s H z Q E M h=>?_)
 ·obtain⟨l,m,n,rfl,_⟩:=h
  rfl
 ·obtain⟨l,m,n,rfl,g,C,S,N,k⟩:=h
  obtain⟨a,b,c,d,u,t,p,D,G⟩:=S.ex
  refine⟨_,zD (yu (zu i5 (zt zy (pv 0) zE (λ_ _=>rfl)) zE (yE _))
    (zD (zr (i:=2) scT.nd rfl (.inl rfl) (zU xS (zt zy (pv 0) zE (λ_ _=>rfl)) (pv 1)))
    (zD (yH (zU wB (zt zy (pv 0) zE (λ_ _=>rfl)) (pv 1)) (xq (pv 0) zE yd))
    (zL (zj (pv 2))))) yO)
   (zD (yH (zU ya (zt zy (pv 0) zE (λ_ _=>rfl)) zE) (xq (pv 0) zE yd))
   (zD (zr (i:=3) scT.nd rfl (.inl rfl) (zU xS (zU xR (zU ya (zU ya (zt zy (pv 0) zE (λ_ _=>rfl)) (zU xR (zU xR zE (zt zy (pv 0) zE (λ_ _=>rfl))) (zt zy (pv 0) zE (λ_ _=>rfl)))) zE) zE) zE))
   (zD (zr (i:=3) scT.nd rfl (.inl rfl) (zU xS (zU xR (pv 3) (zU ya (zU xS (pv 3) zE) (zU xR zE (zt zy (pv 0) zE (λ_ _=>rfl))))) zE))
   (zL (zj (zU xS (zU ya (zU wB (pv 3) zE) (zU wB (pv 3) zE)) (pv 1))))))),?_⟩
  refine⟨_,rfl,l,_,_,_,rfl,rfl,SqL.of d,rfl,_,_,rfl,rfl,_,rfl,?_⟩;refine bw (λq=>?_) (λq=>?_)
  ·refine⟨_,rfl,l,_,_,_,rfl,rfl,SqL.of d,rfl,_,rfl,_,_,rfl,rfl,g,?_⟩
   refine⟨_,rfl,l,_,_,_,rfl,rfl,SqL.of d,rfl,_,rfl,_,_,rfl,rfl,⟨g,C⟩,_,rfl,l,_,_,0,rfl,rfl,d,rfl,_,rfl,?_⟩;refine k _ _ (Z4 _ (by lia)) (YV _ g) ⟨a / m,b,c,zG,Int.ediv_nonneg u (by lia),t,p,D,by lia⟩ λx o e ne=>?_;rw[zH ne];exact e
  ·refine⟨_,rfl,l,_,_,_,rfl,rfl,SqL.of d,rfl,_,_,rfl,rfl,_,rfl,l,_,_,2,rfl,rfl,d,rfl,?_⟩
   generalize v:upd H l (HO.lst ([V.int a,V.int b,V.int c].set 2 (V.int (c+1))))=H1;have j:H1 l=some (.lst [.int a,.int b,.int (c+1)]):=by rw[<- v];exact zG
   have B:(-(2 ^ 64):Int)<c+1/\c+1<2 ^ 64:=⟨by lia,by lia⟩;refine⟨_,rfl,l,_,_,_,rfl,rfl,SqL.of j,rfl,_,rfl,l,_,_,_,rfl,rfl,SqL.of j,rfl,_,_,rfl,rfl,.inl ⟨by decide,by decide⟩,_,rfl,l,_,_,_,rfl,rfl,SqL.of j,rfl,_,_,rfl,rfl,.inr B,_,_,rfl,rfl,_,_,rfl,rfl,_,_,rfl,rfl,.inr ⟨by decide,by decide⟩,_,_,rfl,rfl,(by show (0:Int)<2305843009213693921;decide),?_⟩;generalize r:(b+65537*(c+1)*(c+1)+11)*48271%2305843009213693921=x;have L:0<=x:=by rw[<- r];exact Z4 _ (by decide)
   have J:x<2305843009213693921:=by rw[<- r];exact YV _ (by decide)
   refine⟨_,rfl,_,rfl,_,_,rfl,rfl,(by show (0:Int)<1000003;decide),_,rfl,l,_,_,_,rfl,rfl,SqL.of j,rfl,_,_,rfl,rfl,.inl ⟨by decide,by decide⟩,_,_,rfl,rfl,_,_,rfl,rfl,.inl ⟨by lia,by lia⟩,_,_,rfl,rfl,(by show (0:Int)<2305843009213693907;decide),?_⟩;refine⟨_,rfl,_,_,rfl,rfl,⟨by decide,by decide⟩,_,rfl,_,_,rfl,rfl,⟨by decide,by decide⟩,_,_,rfl,rfl,_,rfl,_,_,rfl,rfl,g,?_⟩;refine k _ _ (Z4 _ (by lia)) (YV _ g) ⟨a,b,c+1,j,u,t,p,by lia,by lia⟩ λy o e ne=>?_;rw[<- v,zH ne];exact e
abbrev pT:Stmt:=top 33
theorem ot (ns:List Int)(lo hi:Option Int)(h:ns.length<=63):∃ ms:List Int,vG (ns.map V.int) lo hi=ms.map V.int/\ms.length<=63:=by
 refine⟨(ns.drop (HT.sIx (ns.map V.int).length 0 lo)).take (HT.sIx (ns.map V.int).length (ns.map V.int).length hi-HT.sIx (ns.map V.int).length 0 lo),?_,?_⟩
 ·unfold vG;rw[Wp,List.map_drop]
 ·rw[JN,YR];lia
theorem gX {ms:List Int}{i:Nat}{x:V}(h:(ms.map V.int)[i]?=some x):i<ms.length/\∃ z,x=V.int z:=by
 rw[JD]at h
 cases e:ms[i]? with
 | none=>rw[e]at h;cases h
 | some z=>rw[e]at h;exact⟨(J9.mp e).1,z,(Jv h).symm⟩
def nh (K:PySem.W.Frag):Sp:=λc H Q _=>∃ (a:Addr) (ns:List Int),c=[.ref a]/\SqL K H a (ns.map V.int)/\ns.length<=63 /\
 ∀ l b,H l=none->Same H b->StAt b l 0->Q (.ref l) b
theorem aF (i:Nat)(f:Int)(a:0<f)(h:f<=2 ^ (200*i)):f*10 ^ 60<=2 ^ (200*(i+1)):=by
 have e:(2:Int) ^ (200*(i+1))=2 ^ (200*i)*2 ^ 200:=by rw[Nat.mul_add,Int.pow_add]
 rw[e];have t:(10:Int) ^ 60<=2 ^ 200:=by decide
 exact Z8 (Int.mul_le_mul_of_nonneg_left t (by lia)) (Int.mul_le_mul_of_nonneg_right h (by decide))
theorem jo {i:Nat}{f:Int}(hi:i<=63)(a:0<f)(h:f<=2 ^ (200*i)):f.natAbs<2 ^ 20000:=by
 have e:(2:Int) ^ (200*i)=((2 ^ (200*i):Nat):Int):=by rw[Int.natCast_pow];rfl
 have l:(2:Nat) ^ (200*i)<2 ^ 20000:=Nat.pow_lt_pow_right (by decide) (by lia);rw[e]at h;generalize (2:Nat) ^ 20000=N at *;lia
theorem mC (x:Int):(x%10 ^ 60).natAbs<2 ^ 20000:=by
 have a:=Z4 x (show (10:Int) ^ 60≠0 by decide);have b:=YV x (show (0:Int)<10 ^ 60 by decide);have c:(10:Nat) ^ 60<2 ^ 200:=by decide
 have d:(2:Nat) ^ 200<2 ^ 20000:=Nat.pow_lt_pow_right (by decide) (by decide);have e:((10:Int) ^ 60)=((10 ^ 60:Nat):Int):=by decide
 rw[e]at a b ⊢;generalize (2:Nat) ^ 20000=N at *;generalize (2:Nat) ^ 200=M at *;lia
theorem scH:FnScope ["_law_script","_law_state","_law_far","_law_cell","_law_k","_law_one"] ["_law_script"] (zP pT):=by trivial
theorem dX {f:Addr}{fd:FuncData}(F:Fun K "_law_hand" "_law_hand" pT f fd) (G:Mgs mg):FnOk P w K mg base CX0 1 f fd ["_law_script"] (nh K):=by
 refine F.ok scH (λvs H Q E h=>?_) (λao A outer s H vs Q E hr h=>?_)
 ·obtain⟨a,ns,rfl,_⟩:=h
  rfl
 ·obtain⟨a,ns,rfl,R,M,k⟩:=h
  obtain⟨U,hR,W⟩:∃ U,PSs (mn CX0 P w K mg base ["_law_script","_law_state","_law_far","_law_cell","_law_k","_law_one"] "_law_hand" (zP pT) f ao A outer s H E).nox ((xM pT).drop 2) U /\
    ∀ (l:Addr) (v2 v3 v4 v5:Option V) (L:Hp) (x:Int),H l=none->Same H L->0<=x->L l=some (.lst [.int x,.int 0,.int 0])->U { nx:=λ_ L=>Q .non L,rt:=Q } [some (.ref a),some (.ref l),v2,v3,v4,v5] L:=by
   refine⟨_,zD (xp YC rfl (qc true rfl G.enum (zA (xB xT (pv 0) y9 (yY zE)) zB)) (yQ rfl (zN (zM (i:=4) scH.nd rfl (.inl rfl)) (zN (zM (i:=3) scH.nd rfl (.inl rfl)) yD)))
     (zD (zr (i:=5) scH.nd rfl (.inl rfl) (zU ya (zU ya (zU xS (pv 3) zE) (zU xR zE (pv 4))) zE))
     (zL (yH (zU xS (zU ya (zU xR (zt zy (pv 1) zE (λ_ _=>rfl)) zE) (pv 5)) zE) (xq (pv 1) zE yd)))))
    (zL (zj (pv 1))),?_⟩
   intro l v2 v3 v4 v5 H1 x r s1 J h1;obtain⟨ms,em,lm⟩:=ot ns none (some 63) M;refine⟨_,rfl,63,rfl,a,_,rfl,s1.seq R,λp C=>?_⟩;have g:p≠l:=λe=>by rw[e,h1]at C;cases C
   refine⟨p,ms.map V.int,rfl,SqL.of (by rw[<- em];exact zG),og (K:=K) (b:=true) (a:=p) (xs:=ms.map V.int) (λi σ c=>(∃ S B u t,σ=[some (.ref a),some (.ref l),S,B,u,t])/\Same H c/\c p=some (.lst (ms.map V.int))/\∃ y:Int,0<=y/\y<2305843009213693951/\c l=some (.lst [.int x,.int y,.int 0]))
    ⟨⟨_,_,_,_,rfl⟩,s1.trans (zC C _),by rw[<- em];exact zG,0,by decide,by decide,by rw[zH g.symm];exact h1⟩ (λi σ c _ q=>SqL.of q.2.2.1) ?_ ?_⟩
   ·rintro i v σ c T X Y ⟨⟨S,B,u,t,rfl⟩,n,I,y,y0,y1,m⟩
    obtain⟨il,z,rfl⟩:=gX X;have ak:l≠T:=zF m Y;have ab:p≠T:=zF I Y;refine⟨T,_,rfl,SqT.of zG,rfl,_,_,rfl,_,_,rfl,rfl,?_⟩;refine⟨_,rfl,_,_,rfl,rfl,(by show (0:Int)<2305843009213693951;decide),_,rfl,_,_,rfl,rfl,.inl ⟨by decide,by decide⟩,_,_,rfl,rfl,_,_,rfl,rfl,?_⟩;have N:(upd c T (.tup [.int i,.int z])) l=some (.lst [.int x,.int y,.int 0]):=by rw[zH ak];exact m
    refine⟨_,rfl,l,_,_,_,rfl,rfl,SqL.of N,rfl,_,_,rfl,rfl,.inr ⟨by decide,by decide⟩,_,rfl,_,_,rfl,rfl,_,_,rfl,rfl,(by show (0:Int)<2305843009213693951;decide),_,rfl,l,_,_,1,rfl,rfl,N,rfl,?_⟩;refine⟨⟨_,_,_,_,rfl⟩,λb o e=>?_,?_,_,Z4 _ (by decide),YV _ (by decide),zG⟩
    ·rw[zH (zF e r),zH (zF (n b o e) Y)];exact n b o e
    ·rw[zH g,zH ab];exact I
   ·rintro σ c ⟨⟨S,B,u,t,rfl⟩,n,I,y,y0,y1,m⟩
    exact⟨_,rfl,k l c r n ⟨x,y,0,m,J,y0,by lia,by decide,by decide⟩⟩
  refine⟨_,zD (zr (i:=1) scH.nd rfl (.inl rfl) (yS (zA zE (zA zE (zA zE zB)))))
   (zD (yu (vQ (zu i5 (zp zY (by rfl) G.len Y4 (zA (pv 0) zB)) zE (yE _)) (wU (zu ci (zt zy (pv 0) zE (λ_ _=>rfl)) (zU mI zE zE) (yE _)))).pt
    (zD (zr (i:=2) scH.nd rfl (.inl rfl) zE)
    (zL (xp YC rfl (lM (xB xT (pv 0) y9 (yY zE))) (zM (i:=3) scH.nd rfl (.inl rfl))
     (zD (yH (zU ya (zt zy (pv 1) zE (λ_ _=>rfl)) (zU lP (zU xS (zp fZ (by rfl) G.abs (by rfl) (zA (pv 3) zB)) (zU mI zE zE)) (pv 2))) (xq (pv 1) zE yd))
     (zL (zr (i:=2) scH.nd rfl (.inl rfl) (zU lP (pv 2) (zU mI zE zE))))))))
    yO) hR),?_⟩
  refine⟨(by show 3<=sizeLine;decide),λl r=>?_⟩;have D:Same H (upd H l (.lst [.int 0,.int 0,.int 0])):=zC r _;refine⟨_,rfl,a,_,rfl,.inl (D.seq R),_,_,rfl,rfl,_,rfl,?_⟩;refine bw (λq=>?_) (λq=>?_)
  ·have O:0<ns.length:=by
    have:=of_decide_eq_true q;rw[Je]at this;lia
   refine⟨_,rfl,a,_,_,_,rfl,rfl,D.seq R,(yR (j:=0) (by rw[JD,J0 O];rfl)),_,_,rfl,rfl,⟨by decide,by decide,by decide⟩,_,_,rfl,rfl,_,rfl,?_⟩;refine bw (λq2=>?_) (λq2=>?_)
   ·obtain⟨ms,em,lm⟩:=ot ns none (some 63) M
    refine⟨_,rfl,63,rfl,a,_,rfl,D.seq R,λp C=>?_⟩;have g:p≠l:=λe=>by rw[e,zG]at C;cases C
    refine⟨p,rfl,⟨_,SqL.of zG⟩,gm (K:=K) (a:=p) (xs:=ms.map V.int) (λi σ c=>(∃ (d:Int) (B u t:Option V),σ=[some (.ref a),some (.ref l),some (.int d),B,u,t]/\0<d/\d<=2 ^ (200*i))/\Same H c/\c p=some (.lst (ms.map V.int))/\∃ x:Int,0<=x/\c l=some (.lst [.int x,.int 0,.int 0]))
     ⟨⟨1,_,_,_,rfl,by decide,by decide⟩,D.trans (zC C _),by rw[<- em];exact zG,0,by decide,by rw[zH g.symm];exact zG⟩ (λi σ c _ q=>SqL.of q.2.2.1) ?_ ?_⟩
    ·rintro i v σ c X ⟨⟨d,B,u,t,rfl,Z,f1⟩,n,I,x,J,m⟩
     obtain⟨il,z,rfl⟩:=gX X;have fs:=jo (by lia) Z f1;refine⟨_,rfl,l,_,_,_,rfl,rfl,SqL.of m,rfl,_,rfl,_,rfl,_,_,rfl,rfl,⟨by decide,by decide,by decide⟩,_,_,rfl,rfl,(by show (0:Int)<10 ^ 60;decide),_,rfl,_,_,rfl,rfl,⟨?_,fs⟩,_,_,rfl,rfl,_,rfl,l,_,_,0,rfl,rfl,m,rfl,?_⟩
     ·exact mC _
     refine⟨_,rfl,_,_,rfl,rfl,⟨by decide,by decide,by decide⟩,_,_,rfl,rfl,⟨fs,by decide⟩,?_⟩;refine⟨⟨_,_,_,_,rfl,?_,aF i d Z f1⟩,λb o e=>?_,?_,_,?_,zG⟩
     ·exact Int.mul_pos Z (by decide)
     ·rw[zH (zF e r)];exact n b o e
     ·rw[zH g];exact I
     ·exact Int.add_nonneg J (Int.mul_nonneg (Z4 _ (by decide)) (by lia))
    ·rintro σ c ⟨⟨d,B,u,t,rfl,_,_⟩,n,I,x,J,m⟩
     exact W l _ _ _ _ c x r n J m
   ·exact W l _ _ _ _ _ 0 r D (by decide) zG
  ·exact W l _ _ _ _ _ 0 r D (by decide) zG
abbrev bI:Stmt:=top 35
theorem StAt.keep {H H':Hp}{l:Addr}{n:Nat}(S:StAt H l n)(s:Same H H'):StAt H' l n:=by
 obtain⟨a,b,c,h,r⟩:=S.ex;exact⟨a,b,c,s _ _ h,r⟩
theorem StAt.ne {H:Hp}{l p:Addr}{n:Nat}(S:StAt H l n)(h:H p=none):l≠p:=by
 obtain⟨a,b,c,e,_⟩:=S.ex;exact zF e h
theorem StAt.upd {H:Hp}{l p:Addr}{o:HO}{n:Nat}(S:StAt H l n)(h:l≠p):StAt (L2.upd H p o) l n:=by
 obtain⟨a,b,c,e,r⟩:=S.ex;exact⟨a,b,c,by rw[zH h];exact e,r⟩
theorem wG {H H':Hp}{l:Addr}{n:Nat}(x:But l H H')(S:StAt H l n):Tups H H':=λa b e=>x a _ e (by
 rintro rfl;obtain⟨_,_,_,z,_⟩:=S.ex
 rw[z]at e;cases e)
theorem mP (a:List Nat)(k:Nat):(zJ a).eraseIdx k=zJ (a.eraseIdx k):=by
 unfold zJ;rw[List.eraseIdx_eq_take_drop_succ,List.eraseIdx_eq_take_drop_succ,JF,Wp,List.map_drop]
theorem me {b:List Nat}{k:Nat}(h:k<b.length):(b[k]::b.eraseIdx k).Perm b:=by
 have e:b.take k++b[k]::b.drop (k+1)=b:=by rw[<- Yn h,Z0]
 have p:=(List.perm_middle (a:=b[k]) (l₁:=b.take k) (l₂:=b.drop (k+1))).symm;rw[e]at p;rw[List.eraseIdx_eq_take_drop_succ];exact p
def iJ:Sp:=λc H Q _=>∃ (l:Addr) (n lm b:Nat),c=[.ref l,.int (lm:Nat),.int (b:Nat)]/\1<=lm/\lm<=16/\b<=128/\StAt H l n/\n<2 ^ 59/\∀ r fr e d N a,Nt.Ok N->N.lanes<=lm->N.forks.length<=b->NetAt a r fr e d N->StAt a l (n+500)->But l H a->Q (.ref r) a
theorem scN:FnScope ["_law_state","_law_lanes_most","_law_forks_most","_law_lanes","_law_many","_law_forks","_law_k","_law_one","_law_other","_law_way","_law_left","_law_ends","_law_shuffled"] ["_law_state","_law_lanes_most","_law_forks_most"] (zP bI):=by trivial
theorem bb {f fK:Addr}{fd dK:FuncData}(F:Fun K "_law_net" "_law_net" bI f fd) (G:Mgs mg) (c:Use P w K mg base "_law_take" ["_law_state","_law_many"] 1 (tQ K) fK dK):FnOk P w K mg base CX0 2 f fd ["_law_state","_law_lanes_most","_law_forks_most"] iJ:=by
 refine F.ok scN (λvs H Q E h=>?_) (λdA A outer s H vs Q E T h=>?_)
 ·obtain⟨l,n,lm,y,rfl,_⟩:=h
  rfl
 obtain⟨l,n,lm,y,rfl,cz,a4,dz,S,hn,k⟩:=h;refine⟨_,(@zD _ _ _ _ _ (@zr _ _ 3 _ _ _ _ scN.nd rfl (.inl rfl) (@zp _ _ _ _ _ _ _ _ _ (uX rfl) (by rfl) G.min (by rfl) (@zA _ _ _ _ _ (@qv _ 1 _ _ (by trivial)) (@zA _ _ _ _ _ (@zt _ _ _ _ _ _ _ zy (@yS _ _ _ _ (@zA _ _ _ _ _ zE (@zA _ _ _ _ _ zE (@zA _ _ _ _ _ zE (@zA _ _ _ _ _ zE (@zA _ _ _ _ _ zE (@zA _ _ _ _ _ zE (@zA _ _ _ _ _ zE (@zA _ _ _ _ _ zE (@zA _ _ _ _ _ zE (@zA _ _ _ _ _ zE zB (by rfl)) (by rfl)) (by rfl)) (by rfl)) (by rfl)) (by rfl)) (by rfl)) (by rfl)) (by rfl)) (by rfl))) (@zQ _ _ _ _ _ _ _ _ _ _ _ _ _ _ _ _ c.ok T (by rfl) c.m c.kp c.b .nil zZ (@zA _ _ _ _ _ (@qv _ 0 _ _ (by trivial)) (@zA _ _ _ _ _ zE zB (by rfl)) (by rfl)) (by decide) (by rfl) (by rfl)) (λ_ _=>rfl)) zB (by rfl)) (by rfl)) (by decide) (by decide) (by rfl) (by rfl)) (by rfl) (by trivial)) (@zD _ _ _ _ _ (@zr _ _ 4 _ _ _ _ scN.nd rfl (.inl rfl) (@zU _ _ _ _ _ _ _ _ xR (@zp _ _ _ _ _ _ _ _ _ (uX rfl) (by rfl) G.min (by rfl) (@zA _ _ _ _ _ (@qv _ 2 _ _ (by trivial)) (@zA _ _ _ _ _ (@zt _ _ _ _ _ _ _ zy (@yS _ _ _ _ (@zA _ _ _ _ _ zE (@zA _ _ _ _ _ zE (@zA _ _ _ _ _ zE (@zA _ _ _ _ _ zE (@zA _ _ _ _ _ zE (@zA _ _ _ _ _ zE (@zA _ _ _ _ _ zE (@zA _ _ _ _ _ zE (@zA _ _ _ _ _ zE zB (by rfl)) (by rfl)) (by rfl)) (by rfl)) (by rfl)) (by rfl)) (by rfl)) (by rfl)) (by rfl))) (@zQ _ _ _ _ _ _ _ _ _ _ _ _ _ _ _ _ c.ok T (by rfl) c.m c.kp c.b .nil zZ (@zA _ _ _ _ _ (@qv _ 0 _ _ (by trivial)) (@zA _ _ _ _ _ zE zB (by rfl)) (by rfl)) (by decide) (by rfl) (by rfl)) (λ_ _=>rfl)) zB (by rfl)) (by rfl)) (by decide) (by decide) (by rfl) (by rfl)) (@yA _ _ _ _ _ _ _ _ _ uY (by rfl) G.int (by rfl) (@zA _ _ _ _ _ (@uz _ _ _ _ _ _ _ _ i5 (@qv _ 3 _ _ (by trivial)) zE (yE _)) zB (by rfl)) (by decide) (by decide) (by rfl) (by rfl))) (by rfl) (by trivial)) (@zD _ _ _ _ _ (@zr _ _ 5 _ _ _ _ scN.nd rfl (.inl rfl) (@yS _ _ _ _ zB) (by rfl) (by trivial)) (@zD _ _ _ _ _ (@xp _ _ _ _ _ _ _ _ YC rfl (@y4 _ _ _ _ _ _ rfl G.range (@zA _ _ _ _ _ (@qv _ 4 _ _ (by trivial)) zB (by rfl)) (by rfl)) (@zM _ _ 6 _ scN.nd rfl (.inl rfl) (by trivial)) (@zD _ _ _ _ _ (@zr _ _ 7 _ _ _ _ scN.nd rfl (.inl rfl) (@zQ _ _ _ _ _ _ _ _ _ _ _ _ _ _ _ _ c.ok T (by rfl) c.m c.kp c.b .nil zZ (@zA _ _ _ _ _ (@qv _ 0 _ _ (by trivial)) (@zA _ _ _ _ _ (@qv _ 3 _ _ (by trivial)) zB (by rfl)) (by rfl)) (by decide) (by rfl) (by rfl)) (by rfl) (by trivial)) (@zD _ _ _ _ _ (@zr _ _ 8 _ _ _ _ scN.nd rfl (.inl rfl) (@zU _ _ _ _ _ _ _ _ xS (@zU _ _ _ _ _ _ _ _ ya (@zU _ _ _ _ _ _ _ _ ya (@qv _ 7 _ _ (by trivial)) zE) (@zQ _ _ _ _ _ _ _ _ _ _ _ _ _ _ _ _ c.ok T (by rfl) c.m c.kp c.b .nil zZ (@zA _ _ _ _ _ (@qv _ 0 _ _ (by trivial)) (@zA _ _ _ _ _ (@zp _ _ _ _ _ _ _ _ _ (rc rfl) (by rfl) G.max (by rfl) (@zA _ _ _ _ _ zE (@zA _ _ _ _ _ (@zU _ _ _ _ _ _ _ _ qg (@qv _ 3 _ _ (by trivial)) zE) zB (by rfl)) (by rfl)) (by decide) (by decide) (by rfl) (by rfl)) zB (by rfl)) (by rfl)) (by decide) (by rfl) (by rfl))) (@qv _ 3 _ _ (by trivial))) (by rfl) (by trivial)) (@zD _ _ _ _ _ (@zr _ _ 9 _ _ _ _ scN.nd rfl (.inl rfl) (@zQ _ _ _ _ _ _ _ _ _ _ _ _ _ _ _ _ c.ok T (by rfl) c.m c.kp c.b .nil zZ (@zA _ _ _ _ _ (@qv _ 0 _ _ (by trivial)) (@zA _ _ _ _ _ zE zB (by rfl)) (by rfl)) (by decide) (by rfl) (by rfl)) (by rfl) (by trivial)) (@zD _ _ _ _ _ (@yu _ _ _ _ _ _ _ _ (@vQ _ _ _ _ _ _ _ (@zu _ _ _ _ _ _ _ _ vL (@qv _ 9 _ _ (by trivial)) zE (yE _)) (@wU _ _ _ _ (@zu _ _ _ _ _ _ _ _ (mJ T.units0) (@qv _ 5 _ _ (by trivial)) (@yS _ _ _ _ zB) (yE _)))).pt (@zL _ _ _ (@yH _ _ _ _ _ _ (@zt _ _ _ _ _ _ _ zy (@qv _ 5 _ _ (by trivial)) (@cg _ _ _ _ _ _ j5 zE) (λ_ _=>rfl)) (@yQ _ _ _ _ _ _ rfl (@zN _ _ _ _ _ (@zM _ _ 7 _ scN.nd rfl (.inl rfl) (by trivial)) (@zN _ _ _ _ _ (@zM _ _ 8 _ scN.nd rfl (.inl rfl) (by trivial)) yD (by rfl)) (by rfl)) (by rfl) (by rfl)) (by rfl) (by rfl) (by rfl))) yO) (@zD _ _ _ _ _ (@yu _ _ _ _ _ _ _ _ (@zu _ _ _ _ _ _ _ _ vL (@qv _ 9 _ _ (by trivial)) zE (yE _)) (@zL _ _ _ (@mE _ _ 7 8 _ _ _ _ _ _ _ _ _ _ _ rfl scN.nd rfl rfl (by decide) rfl rfl (@zA _ _ _ _ _ (@zU _ _ _ _ _ _ _ _ xS (@qv _ 6 _ _ (by trivial)) (@qv _ 3 _ _ (by trivial))) (@zA _ _ _ _ _ (@zU _ _ _ _ _ _ _ _ xS (@zU _ _ _ _ _ _ _ _ ya (@qv _ 6 _ _ (by trivial)) zE) (@qv _ 3 _ _ (by trivial))) zB (by rfl)) (by rfl)) (by rfl) (by rfl))) yO) (@zL _ _ _ (@wA _ _ _ _ (@vh _ _ _ _ _ _ _ _ _ _ _ _ Ym Ze Zf y7 (@qv _ 5 _ _ (by trivial)) (@zA _ _ _ _ _ (@yM _ _ _ _ _ (@zA _ _ _ _ _ (@qv _ 7 _ _ (by trivial)) (@zA _ _ _ _ _ (@qv _ 8 _ _ (by trivial)) zB (by rfl)) (by rfl))) zB (by rfl)) (by rfl) (by rfl) (by rfl) (by rfl) (by rfl)) (by rfl)))))))) (by intro _;rfl)) (@zD _ _ _ _ _ (@mE _ _ 10 11 _ _ _ _ _ _ _ _ _ _ _ rfl scN.nd rfl rfl (by decide) rfl rfl (@zA _ _ _ _ _ (@wM _ _ _ _ _ _ _ rfl (by rfl) G.list (by rfl) G.range (@zA _ _ _ _ _ (@qv _ 3 _ _ (by trivial)) zB (by rfl)) (by rfl) (by rfl)) (@zA _ _ _ _ _ (@yS _ _ _ _ zB) zB (by rfl)) (by rfl)) (by rfl) (by rfl)) (@zD _ _ _ _ _ (@zr _ _ 12 _ _ _ _ scN.nd rfl (.inl rfl) (@uz _ _ _ _ _ _ _ _ vL (@zQ _ _ _ _ _ _ _ _ _ _ _ _ _ _ _ _ c.ok T (by rfl) c.m c.kp c.b .nil zZ (@zA _ _ _ _ _ (@qv _ 0 _ _ (by trivial)) (@zA _ _ _ _ _ zE zB (by rfl)) (by rfl)) (by decide) (by rfl) (by rfl)) zE (yE _)) (by rfl) (by trivial)) (@zD _ _ _ _ _ (@xp _ _ _ _ _ _ _ _ YC rfl (@y4 _ _ _ _ _ _ rfl G.range (@zA _ _ _ _ _ (@qv _ 3 _ _ (by trivial)) zB (by rfl)) (by rfl)) (@zM _ _ 6 _ scN.nd rfl (.inl rfl) (by trivial)) (@zL _ _ _ (@wA _ _ _ _ (@vh _ _ _ _ _ _ _ _ _ _ _ _ Ym Ze Zf y7 (@qv _ 11 _ _ (by trivial)) (@zA _ _ _ _ _ (@vh _ _ _ _ _ _ _ _ _ _ _ _ Ym PySem.F.slot_list_pop PySem.F.type_list_pop gH (@qv _ 10 _ _ (by trivial)) (@zA _ _ _ _ _ (@zU _ _ _ _ _ _ _ _ xR (@zQ _ _ _ _ _ _ _ _ _ _ _ _ _ _ _ _ c.ok T (by rfl) c.m c.kp c.b .nil zZ (@zA _ _ _ _ _ (@qv _ 0 _ _ (by trivial)) (@zA _ _ _ _ _ (@zp _ _ _ _ _ _ _ _ _ zY (by rfl) G.len Y4 (@zA _ _ _ _ _ (@qv _ 10 _ _ (by trivial)) zB (by rfl)) (by decide) (by decide) (by rfl) (by rfl)) zB (by rfl)) (by rfl)) (by decide) (by rfl) (by rfl)) (@yA _ _ _ _ _ _ _ _ _ uY (by rfl) G.int (by rfl) (@zA _ _ _ _ _ (@qv _ 12 _ _ (by trivial)) zB (by rfl)) (by decide) (by decide) (by rfl) (by rfl))) zB (by rfl)) (by rfl) (by rfl) (by rfl) (by rfl) (by rfl)) zB (by rfl)) (by rfl) (by rfl) (by rfl) (by rfl) (by rfl)) (by rfl))) (by intro _;rfl)) (@zL _ _ _ (@zj _ _ _ _ (@yM _ _ _ _ _ (@zA _ _ _ _ _ (@qv _ 3 _ _ (by trivial)) (@zA _ _ _ _ _ (@yA _ _ _ _ _ _ _ _ _ zw (by rfl) G.tuple (by rfl) (@zA _ _ _ _ _ (@qv _ 5 _ _ (by trivial)) zB (by rfl)) (by decide) (by decide) (by rfl) (by rfl)) (@zA _ _ _ _ _ (@yA _ _ _ _ _ _ _ _ _ zw (by rfl) G.tuple (by rfl) (@zA _ _ _ _ _ (@qv _ 11 _ _ (by trivial)) zB (by rfl)) (by decide) (by decide) (by rfl) (by rfl)) zB (by rfl)) (by rfl)) (by rfl)))))))))))),?_⟩;refine⟨_,rfl,(by show 10<=sizeLine;decide),λp hp=>?_⟩;have np:=S.ne hp;refine⟨_,rfl,l,10,n,rfl,by decide,by decide,S.upd np,by lia,λv H1 v0 v1 S1 B1=>?_⟩;obtain⟨v,rfl⟩:=Yg v0;obtain⟨lanes,W,b2⟩:=lL (xs:=[1,2,2,3,4,4,5,6,8,16]) (v:=v) (by show v<10;lia);have lb:∀ n∈[1,2,2,3,4,4,5,6,8,16],1<=n/\n<=16:=by decide
 obtain⟨l1,L⟩:=lb lanes W;have dn:But l H H1:=(But.of (zC hp _)).trans B1;refine⟨p,_,_,_,rfl,rfl,SqL.of (B1 p _ zG np.symm),b2,_,_,rfl,?_⟩
 obtain⟨ln,bx,l1,L,bo⟩:∃ ln:Nat,(if (lanes:Int)<(lm:Nat) then (lanes:Int) else (lm:Nat))=ln/\1<=ln/\ln<=16/\ln<=lm:=by
  by_cases z:(lanes:Int)<(lm:Nat)
  ·exact⟨lanes,Jb z,l1,L,by lia⟩
  ·exact⟨lm,Ja z,cz,a4,Jf _⟩
 rw[bx];clear b2 lb W bx;generalize ln=lanes at l1 L bo;refine⟨_,rfl,(by show 9<=sizeLine;decide),λp2 b0=>?_⟩;have a9:=S1.ne b0;refine⟨_,rfl,l,9,n+1,rfl,by decide,by decide,S1.upd a9,by lia,λv2 H2 v20 dr S2 B2=>?_⟩;obtain⟨v2,rfl⟩:=Yg v20;obtain⟨B,Y,X⟩:=lL (xs:=[0,1,2,3,5,8,12,30,128]) (v:=v2) (by show v2<9;lia);have fb:∀ n∈[0,1,2,3,5,8,12,30,128],n<=128:=by decide
 have fb:=fb B Y;refine⟨p2,_,_,_,rfl,rfl,SqL.of (B2 p2 _ zG a9.symm),X,_,_,rfl,?_⟩
 obtain⟨fl,R,da⟩:∃ fl:Nat,(if (B:Int)<(y:Nat) then (B:Int) else (y:Nat))=fl/\fl<=y:=by
  by_cases z:(B:Int)<(y:Nat)
  ·exact⟨B,Jb z,by lia⟩
  ·exact⟨y,Ja z,Jf _⟩
 rw[R];clear X fb Y R;generalize fl=B at da;refine⟨_,rfl,_,_,rfl,rfl,.inr ⟨_,rfl,_,_,rfl,rfl,.inl ⟨by lia,by lia⟩,?_⟩⟩
 have cb:((B:Int)*(if decide ((1:Int)<lanes)=true then 1 else 0))=((if 1<lanes then B else 0:Nat):Int):=by
  by_cases z:1<lanes
  ·rw[Jb (JA (by lia)),Jb z];lia
  ·rw[Ja (by rw[Js (by lia)];exact Jp),Ja z];lia
 have cl:(if 1<lanes then B else 0)<=y:=by split<;>lia
 dsimp only;rw[cb];generalize a5:(if 1<lanes then B else 0)=cnt at cl;have b7:But l H H2:=(dn.new b0).trans B2;refine⟨(by show 0<=sizeLine;decide),λlf b1=>?_⟩;have j:=S2.ne b1;have b5:=b7.frs b1;refine⟨_,rfl,_,rfl,by lia,by lia,?_⟩
 refine wP (lo:=0) (n:=((cnt:Nat):Int).toNat) (λi σ U=>(∃ Z w7 w8 w9 ao ak ab,σ=[some (.ref l),some (.int (lm:Nat)),some (.int (y:Nat)),some (.int lanes),some (.int cnt),some (.ref lf),Z,w7,w8,w9,ao,ak,ab])/\StAt U l (n+2+3*i)/\But l H U/\∃ g fs,U lf=some (.lst g)/\Prs U g fs/\fs.length=i/\∀ f∈fs,f.1<lanes/\f.2<lanes/\f.1≠f.2)
  ⟨⟨_,_,_,_,_,_,_,rfl⟩,S2.upd j,b7.upd b5,[],[],zG,trivial,rfl,λf hf=>by simp at hf⟩ ?_ ?_
 ·rintro i σ U hi ⟨⟨Z,w7,w8,w9,ao,ak,ab,rfl⟩,S4,B4,g,fs,h4,p4,len,O⟩
  have ic:i<cnt:=by lia
  have l2:1<lanes:=by
   by_cases z:1<lanes
   ·exact z
   ·rw[Ja z]at a5;lia
  refine⟨_,rfl,_,rfl,l,lanes,_,rfl,by lia,by lia,S4,by lia,λone H5 o0 o1 S5 B5=>?_⟩;obtain⟨one,rfl⟩:=Yg o0;have mx:(if ((lanes:Int)-1) > 1 then ((lanes:Int)-1) else 1)=(lanes:Int)-1:=by split<;>lia
  refine⟨_,rfl,_,_,rfl,rfl,_,rfl,_,rfl,_,_,rfl,rfl,_,_,rfl,l,_,_,rfl,by rw[mx];lia,by rw[mx];lia,S5,by lia,λd H6 d0 d1 S6 I=>?_⟩;obtain⟨d,rfl⟩:=Yg d0;rw[mx]at d1;refine⟨_,_,rfl,rfl,_,rfl,_,_,rfl,rfl,by lia,?_⟩;obtain⟨a8,a7⟩:=oA (one:=one) (d:=d) (lanes:=lanes) (by lia) (by lia);have ec:((one:Int)+1+d)%lanes=(((one+1+d)%lanes:Nat):Int):=by rw[Int.natCast_emod,Int.natCast_add,Int.natCast_add];rfl
  dsimp only;rw[ec];generalize (one+1+d)%lanes=oth at *;refine⟨_,rfl,l,5,_,rfl,by decide,by decide,S6,by lia,λway m w0 w1 S7 B7=>?_⟩;obtain⟨way,rfl⟩:=Yg w0;have dm:But l H m:=((B4.trans B5).trans I).trans B7;have T7:Tups U m:=((wG B5 S4).trans (wG I S5)).trans (wG B7 S6);have h7:m lf=some (.lst g):=B7 lf _ (I lf _ (B5 lf _ h4 j.symm) j.symm) j.symm;have p7:=p4.tups T7;have pl:=p4.len;have J:g.length<sizeLine:=by rw[pl,len];exact JG (show i<1000 by lia) (by decide)
  have dj:StAt m l (n+2+3*(i+1)):=S7.mono (by lia)
  have fin:∀ (a b:Nat) (C:Hp) (t:Addr),Same m C->(a<lanes/\b<lanes/\a≠b)->C t=none ->
    L2.upd C t (.tup [.int a,.int b]) lf=some (.lst g)/\(StAt (L2.upd (L2.upd C t (.tup [.int a,.int b])) lf (.lst (g++[.ref t]))) l (n+2+3*(i+1))/\But l H (L2.upd (L2.upd C t (.tup [.int a,.int b])) lf (.lst (g++[.ref t])))/\∃ a6 a3,(L2.upd (L2.upd C t (.tup [.int a,.int b])) lf (.lst (g++[.ref t]))) lf=some (.lst a6)/\Prs (L2.upd (L2.upd C t (.tup [.int a,.int b])) lf (.lst (g++[.ref t]))) a6 a3/\a3.length=i+1/\∀ f∈a3,f.1<lanes/\f.2<lanes/\f.1≠f.2):=by
   intro a b C t s8 cm D;have s9:=s8.trans (zC D (.tup [.int a,.int b]));have h9:=s9 _ _ h7;refine⟨h9,(dj.keep s9).upd j,(dm.trans (But.of s9)).upd b5,g++[.ref t],fs++[(a,b)],zG,((p7.tups (Tups.of s9)).tups (Tups.lst h9)).add (Tups.lst h9 _ _ zG),by simp[len],λf hf=>?_⟩;rcases Jz.mp hf with z|z
   ·exact O f z
   ·rw[JZ.mp z];exact cm
  refine⟨_,rfl,rfl,_,rfl,?_⟩;by_cases e0:way=0
  ·subst e0
   rw[show decide (V.int ((0:Nat):Int)=V.int 0)=true from JA rfl];refine xO ⟨_,rfl,(by show 0<=sizeLine;decide),λe he=>?_⟩;have s8:=zC he (.lst []);have h8:=s8 _ _ h7;refine⟨lf,e,g,rfl,rfl,SqL.of h8,SqL.of zG,_,rfl,?_⟩;by_cases bS:g=[]
   ·rw[show (!g.isEmpty)=false by rw[bS];rfl]
    refine yK ⟨_,rfl,rfl,_,rfl,?_⟩;rw[show decide (V.int ((0:Nat):Int)=V.int 1)=false from Js (by intro z;exact absurd (V.int.inj z) (by decide))];refine yK ⟨_,rfl,.inl ⟨rfl,_,SqL.of h8⟩,_,rfl,_,rfl,(by show 2<=sizeLine;decide),λt D=>?_⟩;obtain⟨g1,g2⟩:=fin one oth _ t s8 ⟨by lia,a8,a7⟩ D;exact⟨lf,_,_,rfl,rfl,g1,J,⟨_,_,_,_,_,_,_,rfl⟩,g2⟩
   ·obtain⟨dt,a,gs,fk,b6,dd,c3⟩:=(p7.tups (Tups.of s8)).last bS
    have ck:=O fk (by rw[dd];simp);rw[show (!g.isEmpty)=true by rw[b6];simp];refine xO ⟨_,rfl,_,rfl,lf,_,_,_,rfl,rfl,SqL.of h8,(by rw[b6];exact fg _ _),a,_,rfl,SqT.of c3,rfl,_,_,rfl,_,_,rfl,rfl,?_⟩;refine⟨_,rfl,rfl,_,rfl,?_⟩;rw[show decide (V.int ((0:Nat):Int)=V.int 1)=false from Js (by intro z;exact absurd (V.int.inj z) (by decide))];refine yK ⟨_,rfl,.inl ⟨rfl,_,SqL.of h8⟩,_,rfl,_,rfl,(by show 2<=sizeLine;decide),λt D=>?_⟩;obtain⟨g1,g2⟩:=fin fk.1 fk.2 _ t s8 ck D;exact⟨lf,_,_,rfl,rfl,g1,J,⟨_,_,_,_,_,_,_,rfl⟩,g2⟩
  rw[show decide (V.int (way:Int)=V.int 0)=false from Js (by intro z;exact e0 (by have:=V.int.inj z;lia))];refine yK (yK ⟨_,rfl,rfl,_,rfl,?_⟩);by_cases e1:way=1
  ·subst e1
   rw[show decide (V.int ((1:Nat):Int)=V.int 1)=true from JA rfl];refine xO ⟨_,rfl,_,rfl,_,_,rfl,rfl,by lia,_,rfl,_,_,rfl,rfl,_,rfl,_,_,rfl,rfl,by lia,_,_,rfl,?_⟩;dsimp only;rw[Int.zero_add];have ea:((i:Int)%lanes)=((i%lanes:Nat):Int):=(Int.natCast_emod _ _).symm;have eb:(((i:Int)+1)%lanes)=(((i+1)%lanes:Nat):Int):=by rw[Int.natCast_emod,Int.natCast_add];rfl
   rw[ea,eb];refine⟨_,rfl,.inl ⟨rfl,_,SqL.of h7⟩,_,rfl,_,rfl,(by show 2<=sizeLine;decide),λt D=>?_⟩
   have cx:i%lanes≠(i+1)%lanes:=by
    have h1:=Nat.mod_lt i (show 0<lanes by lia);rw[<- Nat.mod_add_mod];have:=(oA (one:=i%lanes) (d:=0) (lanes:=lanes) h1 (by lia)).2;simpa using this
   obtain⟨g1,g2⟩:=fin (i%lanes) ((i+1)%lanes) _ t (Same.refl _) ⟨Nat.mod_lt _ (by lia),Nat.mod_lt _ (by lia),cx⟩ D;exact⟨lf,_,_,rfl,rfl,g1,J,⟨_,_,_,_,_,_,_,rfl⟩,g2⟩
  rw[show decide (V.int (way:Int)=V.int 1)=false from Js (by intro z;exact e1 (by have:=V.int.inj z;lia))];refine yK ⟨_,rfl,.inl ⟨rfl,_,SqL.of h7⟩,_,rfl,_,rfl,(by show 2<=sizeLine;decide),λt D=>?_⟩;obtain⟨g1,g2⟩:=fin one oth _ t (Same.refl _) ⟨by lia,a8,a7⟩ D;exact⟨lf,_,_,rfl,rfl,g1,J,⟨_,_,_,_,_,_,_,rfl⟩,g2⟩
 rintro σ U ⟨⟨Z,w7,w8,w9,ao,ak,ab,rfl⟩,S4,B4,g,fs,h4,p4,len,O⟩;refine⟨_,rfl,lanes,rfl,by lia,λx q=>?_⟩;have ax:=S4.ne q;have sl:=zC q (if true=true then HO.lst (tL lanes) else .tup (tL lanes));refine⟨(by show 0<=sizeLine;decide),λle hle=>⟨_,_,rfl,?_⟩⟩;have sle:=zC hle (.lst []);have aC:=(S4.keep sl).ne hle;have bl:x≠le:=zF zG hle;have cn:lf≠x:=zF h4 q;have ct:lf≠le:=zF (sl _ _ h4) hle;have B5:But l H _:=B4.trans (But.of (sl.trans sle));have dc:=B4.frs q;have R:=(B4.new q).frs hle;refine⟨_,rfl,l,2,_,rfl,by decide,by decide,S4.keep (sl.trans sle),by lia,λv3 H6 v30 dp S6 I=>?_⟩;refine⟨rfl,_,rfl,lanes,rfl,by lia,by lia,?_⟩;have T6:Tups U H6:=(Tups.of (sl.trans sle)).trans (wG I (S4.keep (sl.trans sle)));have c5:H6 x=some (.lst (zJ (List.range lanes))):=I x _ (sle _ _ zG) ax.symm;have c9:H6 le=some (.lst []):=I le _ zG aC.symm;have c7:H6 lf=some (.lst g):=I lf _ (sle _ _ (sl _ _ h4)) j.symm;generalize dx:decide (V.int v3=V.int 0)=sh
 refine wP (lo:=0) (n:=((lanes:Nat):Int).toNat) (λi σ m=>(∃ Z,σ=[some (.ref l),some (.int (lm:Nat)),some (.int (y:Nat)),some (.int lanes),some (.int cnt),some (.ref lf),Z,w7,w8,w9,some (.ref x),some (.ref le),some (.bl sh)])/\StAt m l (n+2+3*cnt+1+i)/\But l H m/\Tups H6 m/\m lf=some (.lst g)/\∃ o ls:List Nat,m le=some (.lst (zJ o))/\m x=some (.lst (zJ ls))/\o.length=i/\(o++ls).Perm (List.range lanes))
  ⟨⟨_,rfl⟩,S6.mono (by lia),B5.trans I,Tups.refl _,c7,[],List.range lanes,c9,c5,rfl,.refl _⟩ ?_ ?_
 ·rintro i σ m hi ⟨⟨Z,rfl⟩,S7,B7,T7,a0,o,ls,N,M,el,pe⟩
  have il:i<lanes:=by lia
  have du:o.length+ls.length=lanes:=by have:=pe.length_eq;rwa [Jj,Jx]at this
  refine⟨_,rfl,.inl ⟨rfl,_,SqL.of N⟩,_,rfl,.inl ⟨rfl,_,SqL.of M⟩,_,rfl,_,rfl,x,_,rfl,.inl (SqL.of M),l,_,_,rfl,by rw[zK];lia,by rw[zK];lia,S7,by lia,λv4 C b9 b8 S8 B8=>?_⟩;obtain⟨v4,rfl⟩:=Yg b9;rw[zK]at b8;refine⟨_,rfl,.inr ⟨sh,rfl,_,_,rfl,rfl,.inl ⟨by lia,by lia⟩,?_⟩⟩;have ei:((v4:Int)*(if sh=true then 1 else 0))=((if sh=true then v4 else 0:Nat):Int):=by cases sh<;>simp
  dsimp only;rw[ei];generalize c1:(if sh=true then v4 else 0)=kk;have kl:kk<ls.length:=by rw[<- c1];split<;>lia
  have b3:=B8 x _ M ax.symm;have c8:=B8 le _ N aC.symm;have c6:=B8 lf _ a0 j.symm;refine⟨x,_,_,kk,.int ls[kk],rfl,rfl,b3,by lia,by lia,?_,?_,?_⟩
  ·have:=(qu (vt (xs:=zJ ls) (i:=kk) (by rw[zK];exact kl))).1;exact this
  ·unfold zJ;rw[JD,J0 kl];rfl
  have T8:=(T7.trans (wG B8 S7)).trans (Tups.lst (ys:=(zJ ls).eraseIdx kk) b3);have b4:L2.upd C x (.lst ((zJ ls).eraseIdx kk)) le=some (.lst (zJ o)):=by rw[zH bl.symm];exact c8
  refine⟨le,_,_,rfl,rfl,b4,by rw[zK,el];exact JG (show i<1000 by lia) (by decide),⟨_,rfl⟩,((S8.upd ax).upd aC).mono (by lia),((B7.trans B8).upd dc).upd R,T8.trans (Tups.lst b4),?_,o++[ls[kk]],ls.eraseIdx kk,?_,?_,by simp[el],?_⟩
  ·rw[zH ct,zH cn];exact c6
  ·rw[zG];unfold zJ;rw[JF];rfl
  ·rw[zH bl,zG,mP]
  ·rw[JL]
   exact((me kl).append_left o).trans pe
 rintro σ m ⟨⟨Z,rfl⟩,S7,B7,T7,a0,o,ls,N,M,el,pe⟩;have tn:((lanes:Nat):Int).toNat=lanes:=by lia
 have tc:((cnt:Nat):Int).toNat=cnt:=by lia
 rw[tn]at S7 el;rw[tc]at len
 have l0:ls=[]:=by
  have:=pe.length_eq;rw[Jj,Jx]at this;exact List.length_eq_zero_iff.mp (by lia)
 rw[l0,Yy]at pe;have p7:=(p4.tups T6).tups T7;refine⟨_,rfl,_,rfl,lf,_,rfl,.inl ⟨SqL.of a0,λfr c2=>?_⟩⟩;have s1:=zC c2 (.tup g);refine⟨_,rfl,le,_,rfl,.inl ⟨SqL.of (s1 _ _ N),λer c4=>?_⟩⟩;have s2:=zC c4 (.tup (zJ o));refine⟨(by show 3<=sizeLine;decide),λr c0=>?_⟩;have s3:=zC c0 (.tup [.int lanes,.ref fr,.ref er]);have u:=(s1.trans s2).trans s3;exact k r fr er g ⟨lanes,fs,o⟩ _ ⟨l1,L,by show fs.length<=128;lia,O,pe⟩ bo (by show fs.length<=y;lia) ⟨zG,s3 _ _ (s2 _ _ zG),p7.tups (Tups.of u),s3 _ _ zG⟩ ((S7.keep u).mono (by lia)) (B7.trans (But.of u))
end
end K89
namespace Bn
open PySem L2 Own
def zax (xs:List Int)(i:Nat)(d:Int):List Int:=xs.set i (xs.getD i 0+d)
theorem oY (k:Nat):∀ a:List Nat,(a.map λ(e:Nat)=>(e:Int)).idxOf (k:Int)=a.idxOf k
 | []=>rfl
 | e::a=>by
  rw[Y5,List.idxOf_cons,List.idxOf_cons,oY k a]
  have:((e:Int) == (k:Int))=(e == k):=by
   rw[YF,Wc];rw[Wc];lia
  rw[this]
theorem gE (a:List Nat):zJ a=(a.map λ(e:Nat)=>(e:Int)).map V.int:=by unfold zJ;rw[YL];rfl
def iK:Sp:=λb H Q _=>∃ r fr d c N,∃ a:Nat,b=[.ref r,.int a]/\Nt.Ok N/\NetAt H r fr d c N/\a<N.lanes/\Q (.int (N.ends.idxOf a:Nat)) H
def big (x y:Int):Int:=if y > x then y else x
theorem zat (x y:Int):x<=big x y:=by unfold big;split<;>lia
theorem zas (x y:Int):y<=big x y:=by unfold big;split<;>simp_all
def wY (st:List Int × List Int)(f:Nat × Nat):List Int × List Int :=
 ((st.1.set f.1 (1+big (st.1.getD f.1 0) (st.1.getD f.2 0))).set f.2 (1+big (st.1.getD f.1 0) (st.1.getD f.2 0)),st.2++[1+big (st.1.getD f.1 0) (st.1.getD f.2 0)])
def lay (n:Nat)(fs:List (Nat × Nat)):List Int × List Int:=fs.foldl wY (List.replicate n 0,[])
theorem oV {n:Nat}{fs:List (Nat × Nat)}{i:Nat}{f:Nat × Nat}(h:fs[i]?=some f):lay n (fs.take (i+1))=wY (lay n (fs.take i)) f:=by
 have w:=J9.mp h;rw[JR w.1,w.2];unfold lay;rw[List.foldl_append];rfl
theorem sS {n:Nat}:∀ (i:Nat) (fs:List (Nat × Nat)),i<=fs.length->(lay n (fs.take i)).1.length=n/\(lay n (fs.take i)).2.length=i
 | 0,fs,_=>by simp[lay]
 | i+1,fs,h=>by
  have ih:=sS (n:=n) i fs (by lia);rw[oV (J0 (by lia))];unfold wY;simp[ih.1,ih.2]
def wC (g f:Nat × Nat):Bool:=decide (g.1=f.1\/g.1=f.2) || decide (g.2=f.1\/g.2=f.2)
def zbd (fs:List (Nat × Nat))(a:List Int)(f:Nat × Nat)(i:Nat):List Int:=((List.range i).filter λj=>wC (fs.getD j (0,0)) f).map λj=>a.getD j 0
def wF (N:Nt):List Int:=(lay N.lanes N.forks).2
theorem mV (N:Nt):(wF N).length=N.forks.length:=by
 have:=(sS (n:=N.lanes) N.forks.length N.forks (Jf _)).2
 rwa [YB]at this
end Bn
namespace K89
open PySem L2 Own Bn
abbrev qN:Stmt:=top 7
theorem dg (n:Nat):(List.replicate n [V.int 0]).flatten=(List.replicate n (0:Int)).map V.int:=by
 induction n with
 | zero=>rfl
 | succ n ih=>rw[Yr,Z7,ih,Yr];rfl
def tV:Sp:=λb H Q _=>∃ r fr d c N,b=[.ref r]/\Nt.Ok N/\NetAt H r fr d c N/\∀ p a,Same H a->a p=some (.tup ((wF N).map V.int))->Q (.ref p) a
section
variable {P:Program}{w:World}{K:PySem.W.Frag}{mg:Str->Option Value}{base:Heap}
theorem qJ:FnScope ["net","lanes","forks","ends","reached","found","one","other","layer"] ["net"] (zP qN):=by trivial
theorem jK {f:Addr}{fd:FuncData}(F:Fun K "layers" "layers" qN f fd) (G:Mgs mg):FnOk P w K mg base CX0 1 f fd ["net"] tV:=by
 refine F.ok qJ (λY H Q E h=>?_) (λao A outer s H Y Q E hr h=>?_)
 ·obtain⟨r,fr,X,T,N,rfl,_⟩:=h
  rfl
 obtain⟨r,fr,X,T,N,rfl,ok,na,k⟩:=h;refine⟨_,(@zD _ _ _ _ _ (@yH _ _ _ _ _ _ (@qv _ 0 _ _ (by trivial)) (@yQ _ _ _ _ _ _ rfl (@zN _ _ _ _ _ (@zM _ _ 1 _ qJ.nd rfl (.inl rfl) (by trivial)) (@zN _ _ _ _ _ (@zM _ _ 2 _ qJ.nd rfl (.inl rfl) (by trivial)) (@zN _ _ _ _ _ (@zM _ _ 3 _ qJ.nd rfl (.inl rfl) (by trivial)) yD (by rfl)) (by rfl)) (by rfl)) (by rfl) (by rfl)) (by rfl) (by rfl) (by rfl)) (@zD _ _ _ _ _ (@zr _ _ 4 _ _ _ _ qJ.nd rfl (.inl rfl) (@zU _ _ _ _ _ _ _ _ qh (@yS _ _ _ _ (@zA _ _ _ _ _ zE zB (by rfl))) (@qv _ 1 _ _ (by trivial))) (by rfl) (by trivial)) (@zD _ _ _ _ _ (@zr _ _ 5 _ _ _ _ qJ.nd rfl (.inl rfl) (@yS _ _ _ _ zB) (by rfl) (by trivial)) (@zD _ _ _ _ _ (@xp _ _ _ _ _ _ _ _ YC rfl (@wn _ _ _ _ (@qv _ 2 _ _ (by trivial))) (@yQ _ _ _ _ _ _ rfl (@zN _ _ _ _ _ (@zM _ _ 6 _ qJ.nd rfl (.inl rfl) (by trivial)) (@zN _ _ _ _ _ (@zM _ _ 7 _ qJ.nd rfl (.inl rfl) (by trivial)) yD (by rfl)) (by rfl)) (by rfl) (by rfl)) (@zD _ _ _ _ _ (@zr _ _ 8 _ _ _ _ qJ.nd rfl (.inl rfl) (@zU _ _ _ _ _ _ _ _ ya zE (@zp _ _ _ _ _ _ _ _ _ (rc rfl) (by rfl) G.max (by rfl) (@zA _ _ _ _ _ (@zt _ _ _ _ _ _ _ zy (@qv _ 4 _ _ (by trivial)) (@qv _ 6 _ _ (by trivial)) (λ_ _=>rfl)) (@zA _ _ _ _ _ (@zt _ _ _ _ _ _ _ zy (@qv _ 4 _ _ (by trivial)) (@qv _ 7 _ _ (by trivial)) (λ_ _=>rfl)) zB (by rfl)) (by rfl)) (by decide) (by decide) (by rfl) (by rfl))) (by rfl) (by trivial)) (@zD _ _ _ _ _ (@yH _ _ _ _ _ _ (@qv _ 8 _ _ (by trivial)) (@xq _ _ _ _ _ _ _ (@qv _ 4 _ _ (by trivial)) (@qv _ 6 _ _ (by trivial)) yd (by intro _;rfl)) (by rfl) (by rfl) (by rfl)) (@zD _ _ _ _ _ (@yH _ _ _ _ _ _ (@qv _ 8 _ _ (by trivial)) (@xq _ _ _ _ _ _ _ (@qv _ 4 _ _ (by trivial)) (@qv _ 7 _ _ (by trivial)) yd (by intro _;rfl)) (by rfl) (by rfl) (by rfl)) (@zL _ _ _ (@wA _ _ _ _ (@vh _ _ _ _ _ _ _ _ _ _ _ _ Ym Ze Zf y7 (@qv _ 5 _ _ (by trivial)) (@zA _ _ _ _ _ (@qv _ 8 _ _ (by trivial)) zB (by rfl)) (by rfl) (by rfl) (by rfl) (by rfl) (by rfl)) (by rfl)))))) (by intro _;rfl)) (@zL _ _ _ (@zj _ _ _ _ (@yA _ _ _ _ _ _ _ _ _ zw (by rfl) G.tuple (by rfl) (@zA _ _ _ _ _ (@qv _ 5 _ _ (by trivial)) zB (by rfl)) (by decide) (by decide) (by rfl) (by rfl)))))))),?_⟩;have l1:=ok.l1;have ak:=ok.l16;have fm:=ok.fm;have pl:=na.prs.len;have Z:((N.lanes:Nat):Int).toNat=N.lanes:=by lia
 refine⟨_,rfl,r,_,rfl,SqT.of na.net,rfl,_,_,rfl,_,_,rfl,_,_,rfl,rfl,?_⟩;refine⟨(by show 1<=sizeLine;decide),λp1 M=>?_⟩;have S:=zC M (.lst [.int 0]);refine⟨_,rfl,p1,N.lanes,_,rfl,rfl,zG,by lia,by lia,by show 1*_<=sizeLine;rw[Y1];lia,λc t=>?_⟩;have R:=S.trans (zC t (.lst (List.replicate ((N.lanes:Int)).toNat [V.int 0]).flatten))
 have j:H c=none:=by
  cases z:H c with
  | none=>rfl
  | some o=>exact absurd (S _ _ z) (by rw[t];exact λw=>nomatch w)
 refine⟨(by show 0<=sizeLine;decide),λlf m=>?_⟩;have O:=R.trans (zC m (.lst []))
 have u:H lf=none:=by
  cases z:H lf with
  | none=>rfl
  | some o=>exact absurd (R _ _ z) (by rw[m];exact λw=>nomatch w)
 have d:c≠lf:=zF zG m;refine⟨_,rfl,fr,rfl,⟨_,SqT.of (O _ _ na.forks)⟩,?_⟩
 refine qy (K:=K) (a:=fr) (xs:=T) (λi σ l=>(∃ J I D,σ=[some (.ref r),some (.int N.lanes),some (.ref fr),some (.ref X),some (.ref c),some (.ref lf),J,I,D])/\Same H l/\l c=some (.lst ((lay N.lanes (N.forks.take i)).1.map V.int))/\l lf=some (.lst ((lay N.lanes (N.forks.take i)).2.map V.int)))
  ⟨⟨_,_,_,rfl⟩,O,by rw[zH d,zG,Z,dg];rfl,zG⟩ (λi σ l _ q=>SqT.of (q.2.1 _ _ na.forks)) ?_ ?_
 ·rintro i p σ l hp ⟨⟨J,I,D,rfl⟩,v,C,B⟩
  obtain⟨a,g,rfl,L,ha⟩:=(na.prs.tups (Tups.of v)).get hp;have ab:=ok.fk g (Ya L);have ig:i<N.forks.length:=(J9.mp L).1;have ln:=sS (n:=N.lanes) i N.forks (by lia);have U:=oV (n:=N.lanes) L;generalize lay N.lanes (N.forks.take i)=st at *;refine⟨a,_,rfl,SqT.of ha,rfl,_,_,rfl,_,_,rfl,rfl,?_⟩;refine⟨_,rfl,_,rfl,c,_,_,_,rfl,rfl,SqL.of C,rC (by lia),_,rfl,_,rfl,c,_,_,_,rfl,rfl,SqL.of C,rC (by lia),_,_,rfl,_,_,rfl,rfl,?_⟩;refine⟨_,rfl,_,rfl,_,rfl,c,_,_,g.1,rfl,rfl,C,vt (by rw[Je];lia),?_⟩;refine⟨_,rfl,_,rfl,_,rfl,c,_,_,g.2,rfl,rfl,zG,vt (by rw[Yd,Je];lia),?_⟩;have W:∀ x y,L2.upd (L2.upd l c x) c y lf=some (.lst (st.2.map V.int)):=λx y=>by rw[zH d.symm,zH d.symm];exact B
  refine⟨_,rfl,.inl ⟨rfl,_,SqL.of (W _ _)⟩,_,rfl,lf,_,_,rfl,rfl,W _ _,by rw[Je,ln.2];exact JG (show i<1000 by lia) (by decide),⟨_,_,_,rfl⟩,λb o e=>?_,?_,?_⟩
  ·rw[zH (zF e u),zH (zF e j),zH (zF e j)];exact v b o e
  ·rw[zH d,zG,U]
   unfold wY;rw[ve,ve];rfl
  ·rw[zG,U]
   unfold wY;rw[JF];rfl
 ·rintro σ l ⟨⟨J,I,D,rfl⟩,v,C,B⟩
  rw[pl,YB]at B;exact⟨_,rfl,lf,_,rfl,.inl ⟨SqL.of B,λq hq=>k q _ (v.trans (zC hq _)) zG⟩⟩
end
end K89
namespace Bn
open PySem L2 Own
abbrev Fk:=Nat × Nat
inductive Sw {α:Type}:List (α × Fk)->List (α × Fk)->Prop where
 | refl (l:List (α × Fk)):Sw l l
 | swap (pre:List (α × Fk)) (x y:α × Fk) (post:List (α × Fk)) (h:wC x.2 y.2=false):Sw (pre++x::y::post) (pre++y::x::post)
 | trans {a b c:List (α × Fk)}(h:Sw a b) (g:Sw b c):Sw a c
theorem Sw.cons {α:Type}(x:α × Fk){a b:List (α × Fk)}(h:Sw a b):Sw (x::a) (x::b):=by
 induction h with
 | refl l=>exact .refl _
 | swap pre u v post h=>exact .swap (x::pre) u v post h
 | trans _ _ d c=>exact .trans d c
theorem Sw.perm {α:Type}{a b:List (α × Fk)}(h:Sw a b):b.Perm a:=by
 induction h with
 | refl l=>exact .refl _
 | swap pre u v post h=>exact ZT pre (List.Perm.swap u v post)
 | trans _ _ d c=>exact c.trans d
def run {σ α:Type}(step:σ->Fk->σ × α):σ->List Fk->σ × List (α × Fk)
 | s,[]=>(s,[])
 | s,f::fs=>((run step (step s f).1 fs).1,((step s f).2,f)::(run step (step s f).1 fs).2)
theorem rO {σ α:Type}(step:σ->Fk->σ × α):∀ (s:σ) (fs:List Fk),(run step s fs).2.map Prod.snd=fs
 | _,[]=>rfl
 | s,f::fs=>by
  show f::((run step (step s f).1 fs).2.map Prod.snd)=f::fs;rw[rO step]
def Commutes {σ α:Type}(step:σ->Fk->σ × α):Prop:=∀ s f g,wC f g=false->(step (step s f).1 g).1=(step (step s g).1 f).1/\(step (step s f).1 g).2=(step s g).2/\(step (step s g).1 f).2=(step s f).2
theorem bM {σ α:Type}{step:σ->Fk->σ × α}(C:Commutes step){a b:List (α × Fk)}(h:Sw a b):∀ s,(run step s (a.map Prod.snd)).2=a->(run step s (b.map Prod.snd)).2=b/\(run step s (b.map Prod.snd)).1=(run step s (a.map Prod.snd)).1:=by
 induction h with
 | refl l=>exact λs e=>⟨e,rfl⟩
 | swap pre x y post m =>
  induction pre with
  | nil =>
   intro s e;obtain⟨G,i⟩:=x;obtain⟨F,g⟩:=y;obtain⟨u,t,r⟩:=C s i g m;simp only[YH,Y5,run]at e ⊢;obtain⟨c,e2⟩:=List.cons.inj e;obtain⟨q,p⟩:=List.cons.inj e2;have o:=(Prod.mk.inj c).1;have n:=(Prod.mk.inj q).1;rw[<- u,r,o,p,<- t,n]
   exact⟨rfl,rfl⟩
  | cons z pre ih =>
   intro s e;obtain⟨E,D⟩:=z;simp only[ZW,Y5,run]at e ⊢;obtain⟨c,e2⟩:=List.cons.inj e;obtain⟨k,j⟩:=ih _ e2;rw[k,j,c]
   exact⟨rfl,rfl⟩
 | trans _ _ f d =>
  intro s e;obtain⟨B,A⟩:=f s e;obtain⟨w,v⟩:=d s B;exact⟨w,v.trans A⟩
theorem oN {f g:Fk}(h:wC f g=false):f.1≠g.1/\f.1≠g.2/\f.2≠g.1/\f.2≠g.2:=by
 unfold wC at h;rw[Bool.or_eq_false_iff,JK,JK]at h
 simp_all
theorem yI {l:List Int}{i j:Nat}{x:Int}(h:i≠j):(l.set i x).getD j 0=l.getD j 0:=by
 rw[J7,List.getElem?_set_ne h,<- J7]
theorem aY (l:List Int){a b c d:Nat}{x y z w:Int}(h:a≠c)(g:a≠d)(f:b≠c)(e:b≠d):(((l.set a x).set b y).set c z).set d w=(((l.set c z).set d w).set a x).set b y:=by
 rw[List.set_comm _ _ f,List.set_comm _ _ h,List.set_comm _ _ e,List.set_comm _ _ g]
def xt (re:List Int)(f:Fk):List Int × Int:=((re.set f.1 (1+big (re.getD f.1 0) (re.getD f.2 0))).set f.2 (1+big (re.getD f.1 0) (re.getD f.2 0)),1+big (re.getD f.1 0) (re.getD f.2 0))
theorem gT:Commutes xt:=λs f g h=>by
 obtain⟨d,c,b,a⟩:=oN h;unfold xt;simp only[yI d,yI c,yI b,yI a,yI d.symm,yI c.symm,yI b.symm,yI a.symm];exact⟨aY _ d c b a,trivial,trivial⟩
theorem lW:∀ (fs:List Fk) (re a:List Int),fs.foldl wY (re,a)=((run xt re fs).1,a++(run xt re fs).2.map Prod.fst)
 | [],re,a=>by
  show (re,a)=(re,a++[])
  rw[Yy]
 | f::fs,re,a=>by
  rw[List.foldl_cons];show fs.foldl wY ((xt re f).1,a++[(xt re f).2])=_;rw[lW fs];show (_,a++[(xt re f).2]++_)=(_,a++((xt re f).2::_));rw[JL];rfl
def pz (N:Nt):List (Int × Fk):=(run xt (List.replicate N.lanes 0) N.forks).2
theorem jB (N:Nt):(pz N).map Prod.fst=wF N:=by
 unfold wF lay pz;rw[lW];rfl
theorem wL (N:Nt):(pz N).map Prod.snd=N.forks:=rO _ _ _
theorem lI:∀ (fs:List Fk) (re:List Int),(∀ f∈fs,f.1<re.length/\f.2<re.length)->(∀ y∈(run xt re fs).2,re.getD y.2.1 0<y.1/\re.getD y.2.2 0<y.1)/\(run xt re fs).2.Pairwise λx y=>wC x.2 y.2=true->x.1<y.1
 | [],re,_=>⟨λy e=>by simp[run]at e,List.Pairwise.nil⟩
 | f::fs,re,ok=>by
  have p:=ok f Ju
  obtain⟨l,n⟩:=lI fs (xt re f).1 λg o=>by
   have:=ok g (Jr _ o);unfold xt;simpa using this
  have gl:=zat (re.getD f.1 0) (re.getD f.2 0);have s:=zas (re.getD f.1 0) (re.getD f.2 0)
  have st:∀ c,(xt re f).1.getD c 0=if f.2=c then (xt re f).2 else if f.1=c then (xt re f).2 else re.getD c 0:=λc=>by
   by_cases m:c<re.length
   ·unfold xt
    rw[tY (by simp[m]),tY m]
   ·have k:f.2≠c:=by lia
    have j:f.1≠c:=by lia
    rw[Ja k,Ja j];unfold xt;rw[yI k,yI j]
  have r:(xt re f).2=1+big (re.getD f.1 0) (re.getD f.2 0):=rfl
  have up:∀ c,re.getD c 0<=(xt re f).1.getD c 0:=λc=>by
   rw[st c];split
   ·next h=>subst h;lia
   ·split
    ·next h=>subst h;lia
    ·exact ZN _
  refine⟨λy e=>?_,Yv.mpr ⟨λy e i=>?_,n⟩⟩
  ·rcases Jn.mp e with rfl|d
   ·show re.getD f.1 0<(xt re f).2/\re.getD f.2 0<(xt re f).2
    lia
   ·have:=l y d
    have a:=up y.2.1;have b:=up y.2.2;lia
  ·show (xt re f).2<y.1
   have d:=l y e;rw[st,st]at d;unfold wC at i;rw[Bool.or_eq_true,JT,JT]at i;have i:(f.1=y.2.1\/f.1=y.2.2)\/(f.2=y.2.1\/f.2=y.2.2):=i;rcases i with (h|h)|(h|h)
   ·have:=d.1
    by_cases q:f.2=y.2.1
    ·rw[Jb q]at this;exact this
    ·rw[Ja q,Jb h]at this;exact this
   ·have:=d.2
    by_cases q:f.2=y.2.2
    ·rw[Jb q]at this;exact this
    ·rw[Ja q,Jb h]at this;exact this
   ·have:=d.1;rw[Jb h]at this;exact this
   ·have:=d.2;rw[Jb h]at this;exact this
def rnk (x:Int × Fk):Int:=x.1*1024+x.2.1*32+x.2.2
def ins (x:Int × Fk):List (Int × Fk)->List (Int × Fk)
 | []=>[x]
 | y::l=>if rnk x<=rnk y then x::y::l else y::ins x l
def uj:List (Int × Fk)->List (Int × Fk)
 | []=>[]
 | x::l=>ins x (uj l)
theorem aA (x:Int × Fk):∀ l,(ins x l).Perm (x::l)
 | []=>.refl _
 | y::l=>by
  unfold ins;split
  ·exact .refl _
  ·exact((aA x l).cons y).trans (List.Perm.swap x y l)
theorem yc:∀ l,(uj l).Perm l
 | []=>.refl _
 | x::l=>(aA x _).trans ((yc l).cons x)
theorem sT (x:Int × Fk):∀ l:List (Int × Fk),l.Pairwise (λa b=>rnk a<=rnk b)->(ins x l).Pairwise (λa b=>rnk a<=rnk b)
 | [],_=>List.pairwise_singleton _ _
 | y::l,h=>by
  obtain⟨e,f⟩:=Yv.mp (id h);unfold ins;split
  ·next le =>
   refine Yv.mpr ⟨λz c=>?_,h⟩;rcases Jn.mp c with rfl|d
   ·exact le
   ·exact Z8 le (e z d)
  ·next gt =>
   refine Yv.mpr ⟨λz c=>?_,sT x l f⟩;rcases Jn.mp ((aA x l).mem_iff.mp c) with rfl|c
   ·lia
   ·exact e z c
theorem xZ:∀ l,(uj l).Pairwise (λa b=>rnk a<=rnk b)
 | []=>List.Pairwise.nil
 | x::l=>sT x _ (xZ l)
theorem gY (x:Int × Fk):∀ l:List (Int × Fk),(∀ y∈l,y.2.1<32/\y.2.2<32)->x.2.1<32->x.2.2<32->(∀ y∈l,wC x.2 y.2=true->x.1<y.1)->Sw (x::l) (ins x l)
 | [],_,_,_,_=>.refl _
 | y::l,bd,c,b,h=>by
  unfold ins;split
  ·exact .refl _
  ·next gt =>
   have d:=bd y Ju
   have no:wC x.2 y.2=false:=by
    cases q:wC x.2 y.2 with
    | false=>rfl
    | true =>
     have:=h y Ju q;unfold rnk at gt;lia
   exact .trans (.swap [] x y l no) ((gY x l (λz a=>bd z (Jr _ a)) c b λz a=>h z (Jr _ a)).cons y)
theorem oW:∀ l:List (Int × Fk),(∀ y∈l,y.2.1<32/\y.2.2<32)->l.Pairwise (λx y=>wC x.2 y.2=true->x.1<y.1)->Sw l (uj l)
 | [],_,_=>.refl _
 | x::l,bd,h=>by
  obtain⟨d,c⟩:=Yv.mp (id h);have b:=bd x Ju;have ih:=oW l (λy a=>bd y (Jr _ a)) c;refine .trans (ih.cons x) (gY x _ (λy a=>bd y (Jr _ ((yc l).mem_iff.mp a))) b.1 b.2 λy a=>d y ((yc l).mem_iff.mp a))
theorem vI {a b:List (Int × Fk)}(p:a.Perm b)(bd:∀ y∈b,y.2.1<32/\y.2.2<32)(sa:a.Pairwise (λx y=>rnk x<=rnk y))(sb:b.Pairwise (λx y=>rnk x<=rnk y)):a=b:=by
 refine List.Perm.eq_of_pairwise (le:=λx y=>rnk x<=rnk y) (λx y m l e d=>?_) sa sb p;have q:=bd x (p.mem_iff.mp m);have c:=bd y l;obtain⟨k,j,i⟩:=x;obtain⟨h,g,f⟩:=y;unfold rnk at e d;simp only at e d q c;have o:k=h:=by lia
 have e2:j=g:=by lia
 have n:i=f:=by lia
 rw[o,e2,n]
def yh (N:Nt):List Fk:=(uj (pz N)).map Prod.snd
def zV (N:Nt):Nt:=⟨N.lanes,yh N,N.ends⟩
theorem bP {N:Nt}{y:Int × Fk}(h:y∈pz N):y.2∈N.forks:=by
 rw[<- wL N];exact Yj.mpr ⟨y,h,rfl⟩
theorem qW {N:Nt}(ok:N.Ok):∀ y∈pz N,y.2.1<32/\y.2.2<32:=λy a=>by
 have:=ok.fk y.2 (bP a);have:=ok.l16;lia
theorem bQ {N:Nt}(ok:N.Ok):(pz N).Pairwise λx y=>wC x.2 y.2=true->x.1<y.1 :=
 (lI N.forks (List.replicate N.lanes 0) λf a=>by
  have:=ok.fk f a
  rw[YY];simp_all).2
theorem sE {N:Nt}(ok:N.Ok):Sw (pz N) (uj (pz N)):=oW _ (qW ok) (bQ ok)
theorem sF (N:Nt):(yh N).Perm N.forks:=by
 have:=(yc (pz N)).map Prod.snd
 rwa [wL]at this
theorem pi {N:Nt}(ok:N.Ok):(zV N).Ok:=⟨ok.l1,ok.l16,by
 show (yh N).length<=128
 rw[(sF N).length_eq];exact ok.fm,λf a=>ok.fk f ((sF N).mem_iff.mp a),ok.en⟩
theorem aq {N N':Nt}{b:List (Int × Fk)}(a:N'.lanes=N.lanes)(h:Sw (pz N) b)(hb:b.map Prod.snd=N'.forks):pz N'=b:=by
 have:=(bM gT h (List.replicate N.lanes 0) (by rw[wL];rfl)).1;unfold pz;rw[a,<- hb];exact this
theorem pj {N N':Nt}(ok:N.Ok){b:List (Int × Fk)}(c:N'.lanes=N.lanes)(h:Sw (pz N) b)(hb:b.map Prod.snd=N'.forks):yh N'=yh N:=by
 unfold yh;rw[aq c h hb]
 congr 1
 exact vI ((yc b).trans (h.perm.trans (yc _).symm)) (λy a=>qW ok y ((yc _).mem_iff.mp a)) (xZ _) (xZ _)
theorem ph {N:Nt}(ok:N.Ok):yh (zV N)=yh N:=pj (N':=zV N) ok rfl (sE ok) rfl
theorem ur {N:Nt}(ok:N.Ok){zs:List (Int × Fk)}(p:zs.Perm (pz N))(so:zs.Pairwise (λa b=>rnk a<=rnk b)):zs=uj (pz N) :=
 vI (p.trans (yc _).symm) (λy c=>qW ok y ((yc _).mem_iff.mp c)) so (xZ _)
end Bn
namespace Ts
open PySem PyProof.Rows
structure Cmp (prog:Program) (w:World) (A:Around) (s:Shared) (κ:SortKind) (P:Keyed->Prop) (rk:Keyed->Int):Prop where
 ask:∀ (x y:Keyed),P x->P y->∀ {Q:Bool->Shared->Prop}{E:Value->Shared->Prop},Q (decide (rk x<rk y)) s->wpAny (model prog w) A (keyLt' κ x.1 y.1) Q E s
def R (rk:Keyed->Int)(xs:Array Keyed)(i:Nat):Int:=match xs[i]? with
 | some p=>rk p
 | none=>0
theorem R_congr {rk:Keyed->Int}{xs ys:Array Keyed}{i j:Nat}(h:xs[i]?=ys[j]?):R rk xs i=R rk ys j:=by unfold R;rw[h]
def Up (rk:Keyed->Int)(xs:Array Keyed)(lo n:Nat):Prop:=∀ i j,lo<=i->i<=j->j<lo+n->R rk xs i<=R rk xs j
def Dn (rk:Keyed->Int)(xs:Array Keyed)(lo n:Nat):Prop:=∀ i j,lo<=i->i<=j->j<lo+n->R rk xs j<=R rk xs i
structure Bs (κ:SortKind) (P:Keyed->Prop) (a₀:Array Keyed) (st:SortSt):Prop where
 kind:kindOf st=κ
 fail:failedOf st=none
 perm:(arrOf st).Perm a₀
 all:∀ p∈a₀.toList,P p
theorem Bs.size {κ:SortKind}{P:Keyed->Prop}{a₀:Array Keyed}{st:SortSt}(h:Bs κ P a₀ st):(arrOf st).size=a₀.size:=h.perm.size_eq
theorem Bs.at {κ:SortKind}{P:Keyed->Prop}{a₀:Array Keyed}{st:SortSt}(h:Bs κ P a₀ st){i:Nat}(hi:i<a₀.size)(rk:Keyed->Int):∃ p,(arrOf st)[i]?=some p/\P p/\R rk (arrOf st) i=rk p:=by
 have e:(arrOf st)[i]?=some ((arrOf st)[i]'(by rw[h.size];exact hi)):=getElem?_pos (arrOf st) i (by rw[h.size];exact hi);refine⟨_,e,h.all _ ((Array.perm_iff_toList_perm.mp h.perm).mem_iff.mp (by simp)),?_⟩;unfold R;rw[e]
theorem Bs.arr {κ:SortKind}{P:Keyed->Prop}{a₀:Array Keyed}{st:SortSt}(h:Bs κ P a₀ st){xs:Array Keyed}(hp:xs.Perm (arrOf st)):Bs κ P a₀ (setArr st xs):=⟨h.kind,h.fail,hp.trans h.perm,h.all⟩
section
variable {prog:Program}{w:World}{A:Around}{E:Value->Shared->Prop}{s:Shared}{κ:SortKind}{P:Keyed->Prop}{rk:Keyed->Int}{a₀:Array Keyed}
theorem oP (C:Cmp prog w A s κ P rk){st:SortSt}{x y:Keyed}{Q:Option Bool->SortSt->Prop}(b:kindOf st=κ)(a:P x)(py:P y)(h:Q (some (decide (rk x<rk y))) st):wpS (model prog w) A E s (lt' x y) Q st:=by
 rw[lt'_eq];refine Jh (Wb (Jh (wpS_lift (ZY ?_))));rw[b];exact C.ask x y a py ⟨rfl,Jg h⟩
theorem vB {r:String}{st:SortSt}{Q:Unit->SortSt->Prop}(h:Q () st):wpS (model prog w) A E s (liftM (rule r):StateT SortSt Sem Unit) Q st:=wpS_lift (Zq ⟨rfl,h⟩)
theorem zR {st:SortSt}{arr:Array Keyed}{i:Nat}{p:Keyed}{Q:Keyed->SortSt->Prop}(e:arr[i]?=some p)(h:Q p st):wpS (model prog w) A E s (elem' arr i) Q st:=by
 rw[elem'_eq,e];exact Jg h
theorem oQ (C:Cmp prog w A s κ P rk){st:SortSt}{i j:Nat}{Q:Option Bool->SortSt->Prop}(a:Bs κ P a₀ st)(hi:i<a₀.size)(e:j<a₀.size)(h:Q (some (decide (R rk (arrOf st) i<R rk (arrOf st) j))) st):wpS (model prog w) A E s (ltAt' i j) Q st:=by
 obtain⟨p,f,pp,c⟩:=a.at hi rk;obtain⟨q,e2,d,b⟩:=a.at e rk;rw[c,b]at h;rw[ltAt'_eq];exact Jh (Wb (Jh (zR f (Jh (zR e2 (oP C a.kind pp d h))))))
structure Keep (κ:SortKind) (P:Keyed->Prop) (rk:Keyed->Int) (a₀:Array Keyed) (lo:Nat) (st st':SortSt):Prop where
 b:Bs κ P a₀ st'
 pend:pendingOf st'=pendingOf st
 low:∀ k,k<lo->R rk (arrOf st') k=R rk (arrOf st) k
theorem Keep.refl {lo:Nat}{st:SortSt}(h:Bs κ P a₀ st):Keep κ P rk a₀ lo st st:=⟨h,rfl,λ_ _=>rfl⟩
theorem Keep.trans {lo:Nat}{st a st2:SortSt}(h:Keep κ P rk a₀ lo st a)(g:Keep κ P rk a₀ lo a st2):Keep κ P rk a₀ lo st st2:=⟨g.b,g.pend.trans h.pend,λk b=>(g.low k b).trans (h.low k b)⟩
theorem R_mirror {xs:Array Keyed}{i j:Nat}(a:j<=xs.size)(k:Nat):R rk (mirror xs i j ((j-i) / 2)) k=if i<=k/\k<j then R rk xs (i+j-1-k) else R rk xs k:=by
 have e:=getElem?_mirror_all (xs:=xs) (i:=i) a k;split at e
 ·next h=>rw[Jb h];exact R_congr e
 ·next h=>rw[Ja h];exact R_congr e
theorem qV {lo i j:Nat}{st:SortSt}{Q:Unit->SortSt->Prop}(a:Bs κ P a₀ st)(c:lo<=i)(b:j<=a₀.size)(h:∀ st',Keep κ P rk a₀ lo st st'->(∀ k,R rk (arrOf st') k=if i<=k/\k<j then R rk (arrOf st) (i+j-1-k) else R rk (arrOf st) k)->Q () st'):wpS (model prog w) A E s (reverseSlice' i j) Q st:=by
 rw[reverseSlice'_eq];refine Wf (h _ ⟨a.arr (mirror_perm _ _ _ _),rfl,λk d=>?_⟩ λk=>?_)
 ·show R rk (mirror (arrOf st) i j ((j-i) / 2)) k=_
  rw[R_mirror (by rw[a.size];exact b),Ja (by lia)]
 ·exact R_mirror (by rw[a.size];exact b) k
theorem fV (C:Cmp prog w A s κ P rk){st:SortSt}{lo j:Nat}{Q:Option Nat->SortSt->Prop}(B:Bs κ P a₀ st)(h1:1<=j)(hn:lo+j<=a₀.size)(h:∀ st' m,Keep κ P rk a₀ lo st st'->1<=m->m<=j->Up rk (arrOf st') lo m->Q (some m) st'):wpS (model prog w) A E s (countRun' lo j) Q st:=by
 have asc:∀ (st:SortSt) (y:Nat) {Z:Option (Option Nat) × Nat->SortSt->Prop},Bs κ P a₀ st->1<=y->Up rk (arrOf st) lo y ->
   (∀ n,y<=n->n<=max y j->Up rk (arrOf st) lo n->(n<j->R rk (arrOf st) (lo+n)<R rk (arrOf st) (lo+n-1))->Z (none,n) st)->
   ∀ f:Nat->Option (Option Nat) × Nat->StateT SortSt Sem (ForInStep (Option (Option Nat) × Nat)),(∀ i n,f i (none,n)=(do
    let some v <- ltAt' (lo+n) (lo+n-1)|pure (.done (some none,n))
    if v then pure (.done (none,n)) else pure (.yield (none,n+1))))->wpS (model prog w) A E s (forIn [y:j] (none,y) f) Z st:=by
  intro st y Z B h0 F G f hf;refine Yu (I:=λi c st'=>st'=st/\c=(none,i)/\y<=i/\Up rk (arrOf st) lo i) ?_ ?_ ⟨rfl,rfl,Jf _,F⟩
  ·rintro i c st' hi ab ⟨rfl,rfl,O,r⟩
   rw[hf];refine Jh (oQ C B (by lia) (by lia) ?_);by_cases z:R rk (arrOf st') (lo+i)<R rk (arrOf st') (lo+i-1)
   ·rw[JA z]
    exact Jg (G i O (by lia) r λ_=>z)
   ·rw[Js z]
    refine Jg ⟨rfl,rfl,by lia,λa b p l x=>?_⟩;by_cases q:b<lo+i
    ·exact r a b p l q
    ·obtain rfl:b=lo+i:=by lia
     by_cases L:a=lo+i
     ·rw[L];exact ZN _
     ·have:=r a (lo+i-1) p (by lia) (by lia)
      lia
  ·rintro c st' ⟨rfl,rfl,O,r⟩
   exact G _ O (Jf _) r λq=>by lia
 rw[countRun'_eq];refine Jh (asc st 1 B (Jf _) (λa b h1 h2 O=>by rw[show a=b by lia];exact ZN _) (λn n1 n2 F X=>?_) _ (λi n=>rfl));dsimp only;by_cases z:n=j
 ·subst z
  rw[Jb (beq_self_eq_true _)];exact Jg (h _ _ (Keep.refl B) n1 (Jf _) F)
 rw[Ja (by simpa using z)];have nl:n<j:=by lia
 have X:=X nl;generalize hT:(bind (liftM (rule "list.sort.descending-run")) _:StateT SortSt Sem (Option Nat))=T
 have tail:∀ o,Keep κ P rk a₀ lo st o->Dn rk (arrOf o) lo n->R rk (arrOf o) (lo+n)<R rk (arrOf o) (lo+n-1)->wpS (model prog w) A E s T Q o:=by
  intro o K1 d1 l1;rw[<- hT];refine Jh (vB ?_)
  have last:∀ d m,Keep κ P rk a₀ lo st d->1<=m->m<=j->Dn rk (arrOf d) lo m->∀ g,Keep κ P rk a₀ lo d g->(∀ k,R rk (arrOf g) k=if lo<=k/\k<lo+m then R rk (arrOf d) (lo+(lo+m)-1-k) else R rk (arrOf d) k)->Up rk (arrOf g) lo m:=by
   intro d m t U m2 u g D H a b p l x;rw[H,H,Jb ⟨by omega,by lia⟩,Jb ⟨by lia,by omega⟩];exact u _ _ (by lia) (by omega) (by omega)
  refine Jh (YW (Yu (I:=λi c d=>∃ m q,c=(none,m,q)/\m=i/\q+1<=m/\Keep κ P rk a₀ lo st d/\(i<=j->Dn rk (arrOf d) lo m/\∀ k,lo+m-(q+1)<=k->k<lo+m->R rk (arrOf d) k=R rk (arrOf d) (lo+m-1)))
   (Q:=λc d=>∃ m q,c=(none,m,q)/\1<=m/\m<=j/\q+1<=m/\Keep κ P rk a₀ lo st d/\Dn rk (arrOf d) lo m/\∀ k,lo+m-(q+1)<=k->k<lo+m->R rk (arrOf d) k=R rk (arrOf d) (lo+m-1)) ?step ?fin ?init) ?post)
  case init =>
   refine⟨n+1,0,rfl,rfl,by lia,K1,λ_=>⟨λa b p l x=>?_,λk W V=>by rw[show k=lo+(n+1)-1 by lia]⟩⟩;by_cases q:b<lo+n
   ·exact d1 a b p l q
   ·obtain rfl:b=lo+n:=by lia
    by_cases L:a=lo+n
    ·rw[L];exact ZN _
    ·have:=d1 a (lo+n-1) p (by lia) (by lia)
     lia
  case fin =>
   rintro c d ⟨m,q,rfl,e,G,t,Y⟩;obtain⟨u,eq2⟩:=Y (by lia);exact⟨m,q,rfl,by lia,by lia,G,t,u,eq2⟩
  case step =>
   rintro i c d hi ab ⟨m,q,rfl,rfl,G,t,Y⟩;obtain⟨u,eq2⟩:=Y (by lia);dsimp only;refine Jh (oQ C t.b (by lia) (by lia) ?_)
   have more:∀ g,Dn rk (arrOf g) lo m->R rk (arrOf g) (lo+m)<=R rk (arrOf g) (lo+m-1)->Dn rk (arrOf g) lo (m+1):=by
    intro g S le a b p l x;by_cases q:b<lo+m
    ·exact S a b p l q
    ·obtain rfl:b=lo+m:=by lia
     by_cases L:a=lo+m
     ·rw[L];exact ZN _
     ·have:=S a (lo+m-1) p (by lia) (by lia)
      lia
   by_cases z1:R rk (arrOf d) (lo+m)<R rk (arrOf d) (lo+m-1)
   ·rw[JA z1]
    dsimp only;rw[Jb rfl];by_cases J:q > 0
    ·rw[Jb J]
     refine Jh (qV (rk:=rk) (lo:=lo) t.b (by lia) (by lia) λg D H=>Jg ?_)
     have same:∀ k,R rk (arrOf g) k=R rk (arrOf d) k:=λk=>by
      rw[H];split
      ·rw[eq2 _ (by lia) (by omega),eq2 k (by simp_all) (by simp_all)]
      ·rfl
     refine⟨m+1,0,rfl,rfl,by lia,t.trans D,λ_=>⟨more g (λa b p l x=>by rw[same,same];exact u a b p l x) (by rw[same,same];lia),λk W V=>by rw[show k=lo+(m+1)-1 by lia]⟩⟩
    ·rw[Ja J]
     exact Jg ⟨m+1,0,rfl,rfl,by lia,t,λ_=>⟨more d u (by lia),λk W V=>by rw[show k=lo+(m+1)-1 by lia]⟩⟩
   ·rw[Js z1]
    dsimp only;rw[Ja Jp];refine Jh (oQ C t.b (by lia) (by lia) ?_);by_cases K:R rk (arrOf d) (lo+m-1)<R rk (arrOf d) (lo+m)
    ·rw[JA K]
     dsimp only;rw[Jb rfl];exact Jg ⟨m,q,rfl,by lia,by lia,G,t,u,eq2⟩
    ·rw[Js K]
     dsimp only;rw[Ja Jp];have e:R rk (arrOf d) (lo+m)=R rk (arrOf d) (lo+m-1):=by lia
     refine Jg ⟨m+1,q+1,rfl,rfl,by simp_all,t,λ_=>⟨more d u (by simp_all),λk W V=>?_⟩⟩;rw[show lo+(m+1)-1=lo+m by simp_all];by_cases q3:k=lo+m
     ·rw[q3]
     ·rw[eq2 k (by lia) (by lia),e]
  case post =>
   rintro c d ⟨m,q,rfl,U,m2,G,t,u,eq2⟩;dsimp only;generalize ak:(bind (reverseSlice' lo (lo+m)) _:StateT SortSt Sem (Option Nat))=T2
   have on:∀ g,Keep κ P rk a₀ lo st g->Dn rk (arrOf g) lo m->wpS (model prog w) A E s T2 Q g:=by
    intro g D S;rw[<- ak];refine Jh (qV (rk:=rk) (lo:=lo) D.b (by lia) (by lia) λM K4 r4=>?_);refine Jh (asc M m K4.b U (last g m D U m2 S M K4 r4) (λn' a1 a2 r _=>?_) _ (λi n=>rfl));exact Jg (h _ _ (D.trans K4) (by lia) (by simp_all) r)
   by_cases J:q > 0
   ·rw[Jb J]
    refine Jh (qV (rk:=rk) (lo:=lo) t.b (by lia) (by lia) λg D H=>?_)
    have same:∀ k,R rk (arrOf g) k=R rk (arrOf d) k:=λk=>by
     rw[H];split
     ·rw[eq2 _ (by lia) (by omega),eq2 k (by simp_all) (by simp_all)]
     ·rfl
    exact on g (t.trans D) (λa b p l x=>by rw[same,same];exact u a b p l x)
   ·rw[Ja J]
    exact on d t u
 by_cases K:n > 1
 ·rw[Jb K]
  refine Jh (oQ C B (by lia) (by lia) ?_);by_cases z3:R rk (arrOf st) lo<R rk (arrOf st) (lo+n-1)
  ·rw[JA z3]
   exact Jg (h _ _ (Keep.refl B) n1 (by simp_all) F)
  ·rw[Js z3]
   dsimp only;rw[Ja Jp];refine Jh (qV (rk:=rk) (lo:=lo) B (by lia) (by lia) λo K1 N=>tail o K1 (λa b p l x=>?_) ?_)
   ·rw[N,N,Jb ⟨by lia,by omega⟩,Jb ⟨by omega,by lia⟩]
    exact F _ _ (by lia) (by omega) (by omega)
   ·rw[N,N,Ja (by lia),Jb ⟨by lia,by lia⟩]
    have:=F (lo+(lo+n)-1-(lo+n-1)) (lo+n-1) (by omega) (by omega) (by lia);have e:lo+(lo+n)-1-(lo+n-1)=lo:=by omega
    rw[e]at this ⊢;have:=F lo (lo+n-1) (by lia) (by omega) (by omega);lia
 ·rw[Ja K]
  exact tail st (Keep.refl B) (λa b p l x=>by rw[show a=b by lia];exact ZN _) X
theorem R_bubble {xs:Array Keyed}{src d:Nat}(hs:src<xs.size)(hd:d<=src)(k:Nat):R rk (bubble xs src d) k=if k=src-d then R rk xs src else if src-d<k/\k<=src then R rk xs (k-1) else R rk xs k:=by
 have e:=getElem?_bubble (xs:=xs) hs d hd k;by_cases b:k=src-d
 ·rw[Jb b]at e ⊢;exact R_congr e
 ·rw[Ja b]at e ⊢
  by_cases a:(src-d<k/\k<=src)
  ·rw[Jb a]at e ⊢;exact R_congr e
  ·rw[Ja a]at e ⊢;exact R_congr e
theorem aJ (C:Cmp prog w A s κ P rk){st:SortSt}{lo n ok:Nat}{Q:Bool->SortSt->Prop}(K:Bs κ P a₀ st)(T:1<=ok)(hok:ok<=n)(hn:lo+n<=a₀.size)(S:Up rk (arrOf st) lo ok)(h:∀ st',Keep κ P rk a₀ lo st st'->Up rk (arrOf st') lo n->Q true st'):wpS (model prog w) A E s (binarySort' lo n ok) Q st:=by
 rw[binarySort'_eq];rw[show max ok 1=ok by simp_all];refine Jh (YW (Yu (I:=λk c a=>c=(none,())/\Keep κ P rk a₀ lo st a/\Up rk (arrOf a) lo (min k n)) (Q:=λc a=>c=(none,())/\Keep κ P rk a₀ lo st a/\Up rk (arrOf a) lo n) ?step ?fin ?init) ?post)
 case init=>exact⟨rfl,Keep.refl K,by rwa [Nat.min_eq_left hok]⟩
 case fin =>
  rintro c a ⟨rfl,f,e⟩;rw[show min (max ok n) n=n by simp_all]at e;exact⟨rfl,f,e⟩
 case post =>
  rintro c a ⟨rfl,f,e⟩;exact Jg (h a f e)
 case step =>
  rintro k c a M L ⟨rfl,f,e⟩;rw[show min k n=k by lia]at e
  refine Jh (YW (Yu (I:=λx c b=>b=a/\∃ l r,c=(none,l,r)/\l<=r/\r<=k/\r-l<=k-x/\(∀ i,lo<=i->i<lo+l->R rk (arrOf a) i<=R rk (arrOf a) (lo+k))/\(∀ i,lo+r<=i->i<lo+k->R rk (arrOf a) (lo+k)<=R rk (arrOf a) i))
   (Q:=λc b=>b=a/\∃ l r,c=(none,l,r)/\l<=k/\(∀ i,lo<=i->i<lo+l->R rk (arrOf a) i<=R rk (arrOf a) (lo+k))/\(∀ i,lo+l<=i->i<lo+k->R rk (arrOf a) (lo+k)<=R rk (arrOf a) i)) ?istep ?ifin ?iinit) ?ipost)
  case iinit=>exact⟨rfl,0,k,rfl,by lia,by lia,by simp_all,λi _ _=>by lia,λi _ _=>by lia⟩
  case ifin =>
   rintro c b ⟨rfl,l,r,rfl,H,g,m,p,o⟩;obtain rfl:l=r:=by lia
   exact⟨rfl,l,l,rfl,g,p,o⟩
  case istep =>
   rintro x c b _ O ⟨rfl,l,r,rfl,H,g,m,p,o⟩;dsimp only;by_cases ge:l>=r
   ·rw[Jb ge]
    obtain rfl:l=r:=by lia
    exact Jg ⟨rfl,l,l,rfl,g,p,o⟩
   ·rw[Ja ge]
    refine Jh (oQ C f.b (by lia) (by lia) ?_);by_cases z:R rk (arrOf b) (lo+k)<R rk (arrOf b) (lo+(l+r) / 2)
    ·rw[JA z]
     refine Jg ⟨rfl,l,(l+r) / 2,rfl,by lia,by lia,by grind,p,λi u J=>?_⟩;have:=e (lo+(l+r) / 2) i (by simp_all) u (by omega);lia
    ·rw[Js z]
     refine Jg ⟨rfl,(l+r) / 2+1,r,rfl,by lia,by omega,by grind,λi u J=>?_,o⟩;have:=e i (lo+(l+r) / 2) u (by lia) (by lia);lia
  case ipost =>
   rintro c b ⟨rfl,l,r,rfl,N,p,o⟩;dsimp only;rw[moveDown'_eq];have sz:=f.b.size
   have t:∀ j,R rk (arrOf (setArr b (bubble (arrOf b) (lo+k) (lo+k-(lo+l))))) j=if j=lo+l then R rk (arrOf b) (lo+k) else if lo+l<j/\j<=lo+k then R rk (arrOf b) (j-1) else R rk (arrOf b) j:=λj=>by
    have:=R_bubble (rk:=rk) (xs:=arrOf b) (src:=lo+k) (d:=lo+k-(lo+l)) (by rw[sz];lia) (by simp_all) j;rw[show lo+k-(lo+k-(lo+l))=lo+l by lia]at this;exact this
   refine Jh (Wf (Jg ⟨rfl,f.trans ⟨f.b.arr (bubble_perm _ _ _),rfl,λj B=>?_⟩,λi j v y B=>?_⟩))
   ·rw[t,Ja (by lia),Ja (by lia)]
   ·rw[show min (k+1) n=k+1 by lia]at B
    rw[t,t];by_cases G:i=lo+l
    ·rw[Jb G]
     by_cases q:j=lo+l
     ·rw[Jb q];exact ZN _
     ·rw[Ja q,Jb ⟨by lia,by lia⟩]
      exact o _ (by lia) (by lia)
    ·rw[Ja G]
     by_cases F:lo+l<i/\i<=lo+k
     ·rw[Jb F,Ja (by lia),Jb ⟨by lia,by lia⟩]
      exact e _ _ (by lia) (by lia) (by lia)
     ·rw[Ja F]
      by_cases q:j=lo+l
      ·rw[Jb q];exact p _ v (by lia)
      ·rw[Ja q]
       by_cases D:lo+l<j/\j<=lo+k
       ·rw[Jb D];exact e _ _ v (by grind) (by lia)
       ·rw[Ja D];exact e _ _ v y (by lia)
end
def cH:Bool->Keyed->Array Keyed->Nat->Nat->Nat->StateT SortSt Sem (Option Nat):=sortPriv% PySem.Builtin.gallop
def bd (left:Bool)(k r:Int):Bool:=if left=true then decide (r<k) else !decide (k<r)
theorem cV {left:Bool}{k r a:Int}(h:r<=a)(b:bd left k a=true):bd left k r=true:=by
 unfold bd at *;cases left
 ·simp only[Y6,Z6,Zz,JK]at *;omega
 ·simp only[Yz,JT]at *;omega
section
variable {prog:Program}{w:World}{A:Around}{E:Value->Shared->Prop}{s:Shared}{κ:SortKind}{P:Keyed->Prop}{rk:Keyed->Int}
theorem nB (C:Cmp prog w A s κ P rk){st:SortSt}{left:Bool}{key:Keyed}{arr:Array Keyed}{j:Nat}{Q:Option Bool->SortSt->Prop}(d:kindOf st=κ)(c:P key)(a:∃ p,arr[j]?=some p/\P p)(h:Q (some (bd left (rk key) (R rk arr j))) st) :
  wpS (model prog w) A E s (elem' arr j >>= λx=>if left=true then lt' x key else (lt' key x >>= λr=>pure (r.map λb=>!b))) Q st:=by
 obtain⟨p,e,pp⟩:=a;have r:R rk arr j=rk p:=by unfold R;rw[e]
 rw[r]at h;refine Jh (zR e ?_);unfold bd at h;cases left
 ·rw[Ja Jp]at h ⊢
  exact Jh (oP C d c pp (Jg h))
 ·rw[Jb rfl]at h ⊢
  exact oP C d pp c h
theorem xD (C:Cmp prog w A s κ P rk){st:SortSt}{left:Bool}{key:Keyed}{arr:Array Keyed}{base n hint:Nat}{Q:Option Nat->SortSt->Prop}(F:kindOf st=κ)(B:P key)(g:∀ i,i<n->∃ p,arr[base+i]?=some p/\P p)(hu:Up rk arr base n)(hh:hint<n)(h:∀ k,k<=n->(∀ i,i<k->bd left (rk key) (R rk arr (base+i))=true)->(∀ i,k<=i->i<n->bd left (rk key) (R rk arr (base+i))=false)->Q (some k) st):wpS (model prog w) A E s (cH left key arr base n hint) Q st:=by
 have L:∀ i j,i<=j->j<n->bd left (rk key) (R rk arr (base+j))=true->bd left (rk key) (R rk arr (base+i))=true:=λi j K J b=>cV (hu _ _ (by simp_all) (by simp_all) (by simp_all)) b
 have up:∀ i j,i<=j->j<n->bd left (rk key) (R rk arr (base+i))=false->bd left (rk key) (R rk arr (base+j))=false:=λi j K J b=>by
  cases q:bd left (rk key) (R rk arr (base+j)) with
  | false=>rfl
  | true=>rw[L i j K J q]at b;cases b
 refine Jh (nB C F B (g hint hh) ?_);dsimp only
 have half:∀ (lo u:Nat) (f:Nat->Option (Option Nat) × Nat × Nat->StateT SortSt Sem (ForInStep (Option (Option Nat) × Nat × Nat))),lo<=u->u<=n ->
   (∀ i,i<lo->bd left (rk key) (R rk arr (base+i))=true)->(∀ i,u<=i->i<n->bd left (rk key) (R rk arr (base+i))=false) ->
   (∀ x l r (v:ForInStep (Option (Option Nat) × Nat × Nat)->SortSt->Prop),(r<=l->v (.done (none,l,r)) st)->(l<r->r<=n->bd left (rk key) (R rk arr (base+(l+(r-l) / 2)))=true->v (.yield (none,l+(r-l) / 2+1,r)) st) ->
    (l<r->r<=n->bd left (rk key) (R rk arr (base+(l+(r-l) / 2)))=false->v (.yield (none,l,l+(r-l) / 2)) st)->r<=n->wpS (model prog w) A E s (f x (none,l,r)) v st) ->
   wpS (model prog w) A E s (forIn [:n] (none,lo,u) f) (λc a=>a=st/\∃ k,c=(none,k,k)/\Q (some k) st) st:=by
  intro lo u f K J h3 h4 hf;refine Yu (I:=λx c a=>a=st/\∃ l r,c=(none,l,r)/\l<=r/\r<=n/\r-l<=n-x/\(∀ i,i<l->bd left (rk key) (R rk arr (base+i))=true)/\(∀ i,r<=i->i<n->bd left (rk key) (R rk arr (base+i))=false)) ?_ ?_ ⟨rfl,lo,u,rfl,K,J,by grind,h3,h4⟩
  ·rintro x c a _ W ⟨rfl,l,r,rfl,lr,e,m,N,M⟩
   refine hf x l r _ (λz=>?_) (λZ Y b=>?_) (λZ Y b=>?_) e
   ·obtain rfl:l=r:=by grind
    exact⟨rfl,l,rfl,h l e N M⟩
   ·exact⟨rfl,_,r,rfl,by grind,e,by grind,λi G=>L i _ (by grind) (by grind) b,M⟩
   ·exact⟨rfl,l,_,rfl,by simp_all,by grind,by omega,N,λi H D=>up _ i H D b⟩
  ·rintro c a ⟨rfl,l,r,rfl,lr,e,m,N,M⟩
   obtain rfl:l=r:=by grind
   exact⟨rfl,l,rfl,h l e N M⟩
 cases X:bd left (rk key) (R rk arr (base+hint)) with
 | true =>
  rw[Jb rfl]
  refine Jh (YW (Yu (I:=λx c a=>a=st/\∃ l o,c=(none,l,o)/\x+1<=o/\l<o/\hint+l<n/\bd left (rk key) (R rk arr (base+(hint+l)))=true)
   (Q:=λc a=>a=st/\∃ l o,c=(none,l,o)/\l<o/\hint+l<n/\bd left (rk key) (R rk arr (base+(hint+l)))=true/\(o<n-hint->bd left (rk key) (R rk arr (base+(hint+o)))=false)) ?_ ?_ ⟨rfl,0,1,rfl,by simp_all,by simp_all,by omega,X⟩) ?_)
  ·rintro x c a _ W ⟨rfl,l,o,rfl,O,d,ln,b⟩
   dsimp only;by_cases z:o>=n-hint
   ·rw[Jb z]
    exact Jg ⟨rfl,l,o,rfl,d,ln,b,λq=>by omega⟩
   ·rw[Ja z]
    refine Jh (nB C F B (g (hint+o) (by grind)) ?_)
    cases q:bd left (rk key) (R rk arr (base+(hint+o))) with
    | true=>exact Jg ⟨rfl,o,2*o+1,rfl,by grind,by grind,by grind,q⟩
    | false=>exact Jg ⟨rfl,l,o,rfl,d,ln,b,λ_=>q⟩
  ·rintro c a ⟨rfl,l,o,rfl,O,d,ln,b⟩
   exact⟨rfl,l,o,rfl,d,ln,b,λq=>by grind⟩
  ·rintro c a ⟨rfl,l,o,rfl,d,ln,b,nb⟩
   dsimp only;refine Jh (YW (half _ _ _ (by omega) (by omega) (λi G=>L i _ (by grind) ln b) (λi H D=>?_) ?_) ?_)
   ·have q:o<n-hint:=by omega
    exact up _ i (by grind) D (nb q)
   ·intro x t y v U T S e
    dsimp only;by_cases z:t>=y
    ·rw[Jb z];exact Jg (U z)
    ·rw[Ja z]
     refine Jh (nB C F B (g _ (by grind)) ?_)
     cases q:bd left (rk key) (R rk arr (base+(t+(y-t) / 2))) with
     | true=>exact Jg (T (by simp_all) e q)
     | false=>exact Jg (S (by simp_all) e q)
   ·rintro c a ⟨rfl,k,rfl,V⟩
    exact Jg V
 | false =>
  rw[Ja Jp]
  refine Jh (YW (Yu (I:=λx c a=>a=st/\∃ l o,c=(none,l,o)/\x+1<=o/\l<o/\l<=hint/\bd left (rk key) (R rk arr (base+(hint-l)))=false)
   (Q:=λc a=>a=st/\∃ l o,c=(none,l,o)/\l<o/\l<=hint/\bd left (rk key) (R rk arr (base+(hint-l)))=false/\(o<hint+1->bd left (rk key) (R rk arr (base+(hint-o)))=true)) ?_ ?_ ⟨rfl,0,1,rfl,by simp_all,by simp_all,by simp_all,X⟩) ?_)
  ·rintro x c a _ W ⟨rfl,l,o,rfl,O,d,ln,b⟩
   dsimp only;by_cases z:o>=hint+1
   ·rw[Jb z]
    exact Jg ⟨rfl,l,o,rfl,d,ln,b,λq=>by omega⟩
   ·rw[Ja z]
    refine Jh (nB C F B (g (hint-o) (by grind)) ?_)
    cases q:bd left (rk key) (R rk arr (base+(hint-o))) with
    | true=>exact Jg ⟨rfl,l,o,rfl,d,ln,b,λ_=>q⟩
    | false=>exact Jg ⟨rfl,o,2*o+1,rfl,by grind,by grind,by grind,q⟩
  ·rintro c a ⟨rfl,l,o,rfl,O,d,ln,b⟩
   exact⟨rfl,l,o,rfl,d,ln,b,λq=>by grind⟩
  ·rintro c a ⟨rfl,l,o,rfl,d,ln,b,nb⟩
   dsimp only;refine Jh (YW (half _ _ _ (by omega) (by grind) (λi G=>?_) (λi H D=>up _ i H D b) ?_) ?_)
   ·have q:o<hint+1:=by omega
    exact L i _ (by grind) (by grind) (nb q)
   ·intro x t y v U T S e
    dsimp only;by_cases z:t>=y
    ·rw[Jb z];exact Jg (U z)
    ·rw[Ja z]
     refine Jh (nB C F B (g _ (by grind)) ?_)
     cases q:bd left (rk key) (R rk arr (base+(t+(y-t) / 2))) with
     | true=>exact Jg (T (by simp_all) e q)
     | false=>exact Jg (S (by simp_all) e q)
   ·rintro c a ⟨rfl,k,rfl,V⟩
    exact Jg V
end
def Srt (rk:Keyed->Int)(l:List Keyed):Prop:=l.Pairwise λx y=>rk x<=rk y
structure Lo (rk:Keyed->Int) (T out a b:List Keyed):Prop where
 so:Srt rk out
 sa:Srt rk a
 sb:Srt rk b
 oa:∀ x∈out,∀ y∈a,rk x<=rk y
 ob:∀ x∈out,∀ y∈b,rk x<=rk y
 pm:(out++(a++b)).Perm T
section
variable {rk:Keyed->Int}{T out a b c:List Keyed}
theorem Lo.swap (h:Lo rk T out a b):Lo rk T out b a:=⟨h.so,h.sb,h.sa,h.ob,h.oa,((YJ (l₁:=b) (l₂:=a)).append_left out).trans h.pm⟩
theorem Lo.take (h:Lo rk T out (c++a) b)(le:∀ x∈c,∀ y∈b,rk x<=rk y):Lo rk T (out++c) a b:=by
 obtain⟨i,g,f⟩:=Yw.mp h.sa;refine⟨Yw.mpr ⟨h.so,i,λx e y d=>h.oa x e y (Z5 _ d)⟩,g,h.sb,λx e y d=>?_,λx e y d=>?_,?_⟩
 ·rcases Jz.mp e with q|q
  ·exact h.oa x q y (JJ _ d)
  ·exact f x q y d
 ·rcases Jz.mp e with q|q
  ·exact h.ob x q y d
  ·exact le x q y d
 ·have:=h.pm
  rw[JL]at this ⊢;exact this
theorem Lo.end (h:Lo rk T out a []):(out++a).Perm T/\Srt rk (out++a):=by
 have:=h.pm;rw[Yy]at this;exact⟨this,Yw.mpr ⟨h.so,h.sa,h.oa⟩⟩
theorem Lo.lone (h:Lo rk T out a b)(le:∀ x∈b,∀ y∈a,rk x<=rk y):(out++b++a).Perm T/\Srt rk (out++b++a):=by
 refine⟨?_,Yw.mpr ⟨Yw.mpr ⟨h.so,h.sb,h.ob⟩,h.sa,λx d y c=>?_⟩⟩
 ·rw[JL]
  exact((YJ (l₁:=b) (l₂:=a)).append_left out).trans h.pm
 ·rcases Jz.mp d with q|q
  ·exact h.oa x q y c
  ·exact le x q y c
theorem pB {arr:Array Keyed}{i:Nat}{p:Keyed}(e:arr[i]?=some p):arr.toList.drop i=p::arr.toList.drop (i+1):=by
 obtain⟨b,e⟩:=JQ.mp e;have a:i<arr.toList.length:=by rw[JB];exact b
 rw[Yn a,Array.getElem_toList,e]
theorem si (arr:Array Keyed)(i k:Nat):arr.toList.drop i=(arr.extract i (i+k)).toList++arr.toList.drop (i+k):=by
 rw[ZB,Z2,Nat.add_sub_cancel_left,<- List.drop_drop,Z0]
theorem uU (arr:Array Keyed)(i:Nat):(arr.extract i).toList=arr.toList.drop i:=by
 rw[ZB,Z2];exact Zr (by rw[YR,JB];exact Jf _)
theorem cR {arr:Array Keyed}{i k:Nat}{x:Keyed}(h:x∈(arr.extract i (i+k)).toList):∃ j,j<k/\arr[i+j]?=some x:=by
 rw[ZB,Z2,Nat.add_sub_cancel_left]at h;obtain⟨j,a⟩:=Ys.mp h
 have b:j<k:=by
  have:=(J9.mp a).1;rw[JN]at this;grind
 rw[ZG b,ZL]at a;exact⟨j,b,by rw[<- Y2];exact a⟩
theorem xv {arr:Array Keyed}{i:Nat}{x:Keyed}(h:x∈arr.toList.drop i):∃ j,arr[i+j]?=some x:=by
 obtain⟨j,a⟩:=Ys.mp h;rw[ZL]at a;exact⟨j,by rw[<- Y2];exact a⟩
theorem R_at {arr:Array Keyed}{i:Nat}{p:Keyed}(e:arr[i]?=some p):R rk arr i=rk p:=by unfold R;rw[e]
theorem x8 {arr:Array Keyed}(h:Srt rk arr.toList){base n:Nat}(hn:base+n<=arr.size):Up rk arr base n:=by
 intro i j e c d;have b:arr[i]?=some arr[i]:=getElem?_pos arr i (by lia);have a:arr[j]?=some arr[j]:=getElem?_pos arr j (by lia);rw[R_at b,R_at a];by_cases z:i=j
 ·subst z;exact ZN _
 ·have:=List.pairwise_iff_getElem.mp h i j (by rw[JB];grind) (by rw[JB];lia) (by lia)
  simpa using this
theorem x9 {arr:Array Keyed}{i:Nat}{p:Keyed}(h:Srt rk arr.toList)(e:arr[i]?=some p):∀ y∈arr.toList.drop i,rk p<=rk y:=by
 have a:Srt rk (arr.toList.drop i):=List.Pairwise.drop h;rw[pB e]at a ⊢;obtain⟨c,_⟩:=Yv.mp a;intro y b;rcases Jn.mp b with rfl|q
 ·exact ZN _
 ·exact c y q
end
section
variable {rk:Keyed->Int}{T:List Keyed}{out a b:Array Keyed}{ia ib k:Nat}{p:Keyed}
abbrev At (rk:Keyed->Int)(T:List Keyed)(out a b:Array Keyed)(ia ib:Nat):Prop:=Lo rk T out.toList (a.toList.drop ia) (b.toList.drop ib)
theorem At.pushA (h:At rk T out a b ia ib)(e:a[ia]?=some p)(le:∀ y∈b.toList.drop ib,rk p<=rk y):At rk T (out.push p) a b (ia+1) ib:=by
 have d:=h;unfold At at d ⊢;rw[pB e]at d;rw[Z9];exact Lo.take (c:=[p]) d λx g y f=>by rw[JZ.mp g];exact le y f
theorem At.pushB (h:At rk T out a b ia ib)(e:b[ib]?=some p)(le:∀ y∈a.toList.drop ia,rk p<=rk y):At rk T (out.push p) a b ia (ib+1):=(At.pushA (a:=b) (b:=a) h.swap e le).swap
theorem At.cutA (h:At rk T out a b ia ib)(le:∀ j x,j<k->a[ia+j]?=some x->∀ y∈b.toList.drop ib,rk x<=rk y):At rk T (out++a.extract ia (ia+k)) a b (ia+k) ib:=by
 have c:=h;unfold At at c ⊢;rw[si a ia k]at c;rw[Y9]
 exact Lo.take c λx g y f=>by
  obtain⟨j,d,e⟩:=cR g;exact le j x d e y f
theorem At.cutB (h:At rk T out a b ia ib)(le:∀ j x,j<k->b[ib+j]?=some x->∀ y∈a.toList.drop ia,rk x<=rk y):At rk T (out++b.extract ib (ib+k)) a b ia (ib+k):=(At.cutA (a:=b) (b:=a) h.swap le).swap
theorem At.endB (h:At rk T out a b ia ib)(z:b.size<=ib):(out++a.extract ia++b.extract ib).toList.Perm T/\Srt rk (out++a.extract ia++b.extract ib).toList:=by
 have c:=h;unfold At at c;have e:b.toList.drop ib=[]:=List.drop_eq_nil_iff.mpr (by rw[JB];exact z);rw[e]at c;rw[Y9,Y9,uU,uU,e,Yy];exact c.end
theorem At.endA (h:At rk T out a b ia ib)(z:a.size<=ia):(out++a.extract ia++b.extract ib).toList.Perm T/\Srt rk (out++a.extract ia++b.extract ib).toList:=by
 have c:=h.swap;have e:a.toList.drop ia=[]:=List.drop_eq_nil_iff.mpr (by rw[JB];exact z);rw[e]at c;rw[Y9,Y9,uU,uU,e,Yy];exact c.end
theorem At.lastA (h:At rk T out a b ia ib)(le:∀ x∈b.toList.drop ib,∀ y∈a.toList.drop ia,rk x<=rk y):(out++b.extract ib++a.extract ia).toList.Perm T/\Srt rk (out++b.extract ib++a.extract ia).toList:=by
 rw[Y9,Y9,uU,uU];exact Lo.lone h le
end
def gJ:Array Keyed->Array Keyed->StateT SortSt Sem (Array Keyed):=sortPriv% PySem.Builtin.mergeLo
def eJ:Nat->StateT SortSt Sem Unit:=sortPriv% PySem.Builtin.setMinGallop
structure Sm (st st':SortSt):Prop where
 kind:kindOf st'=kindOf st
 arr:arrOf st'=arrOf st
 pend:pendingOf st'=pendingOf st
 fail:failedOf st'=failedOf st
theorem Sm.refl (st:SortSt):Sm st st:=⟨rfl,rfl,rfl,rfl⟩
theorem Sm.trans {a b c:SortSt}(h:Sm a b)(g:Sm b c):Sm a c:=⟨g.kind.trans h.kind,g.arr.trans h.arr,g.pend.trans h.pend,g.fail.trans h.fail⟩
section
variable {prog:Program}{w:World}{A:Around}{E:Value->Shared->Prop}{s:Shared}{κ:SortKind}{P:Keyed->Prop}{rk:Keyed->Int}
theorem uR {st:SortSt}{g:Nat}{Q:Unit->SortSt->Prop}(h:∀ st',Sm st st'->Q () st'):wpS (model prog w) A E s (eJ g) Q st :=
 Wf (h _ ⟨rfl,rfl,rfl,rfl⟩)
theorem zac (C:Cmp prog w A s κ P rk){st:SortSt}{a b:Array Keyed}{Q:Array Keyed->SortSt->Prop}(hk:kindOf st=κ)(pa:∀ x∈a.toList,P x)(pb:∀ x∈b.toList,P x)(sa:Srt rk a.toList)(sb:Srt rk b.toList)(a1:1<=a.size)(b1:1<=b.size)(first:∀ x,b[0]?=some x->∀ y∈a.toList,rk x<=rk y)(last:∀ x,a[a.size-1]?=some x->∀ y∈b.toList,rk y<=rk x)(h:∀ r st',Sm st st'->r.toList.Perm (a.toList++b.toList)->Srt rk r.toList->Q r st'):wpS (model prog w) A E s (gJ a b) Q st:=by
 have W:∀ i,i<a.size->∃ x,a[i]?=some x/\P x:=λi hi=>⟨_,getElem?_pos a i hi,pa _ (by simp)⟩;have V:∀ i,i<b.size->∃ x,b[i]?=some x/\P x:=λi hi=>⟨_,getElem?_pos b i hi,pb _ (by simp)⟩;obtain⟨b0,e0,_⟩:=V 0 b1
 have lone:∀ {out:Array Keyed}{d f:Nat},At rk (a.toList++b.toList) out a b d f->d+1=a.size->(out++b.extract f++a.extract d).toList.Perm (a.toList++b.toList)/\Srt rk (out++b.extract f++a.extract d).toList:=λ{out d f} L z=>L.lastA λx hx y hy=>by
  obtain⟨j,ej⟩:=xv hy;have:=(JQ.mp ej).1;exact last y (by rw[show a.size-1=d+j by lia];exact ej) x (List.mem_of_mem_drop hx)
 have L0:At rk (a.toList++b.toList) #[b0] a b 0 1:=by
  have e:=pB e0;rw[Wg]at e;have hb:=sb;unfold Srt at hb;rw[e]at hb;obtain⟨h1,h2⟩:=Yv.mp hb;refine⟨List.pairwise_singleton _ _,by rw[Wg];exact sa,h2,λx hx y hy=>?_,λx hx y hy=>?_,?_⟩
  ·rw[JZ.mp hx];exact first b0 e0 y (List.mem_of_mem_drop hy)
  ·rw[JZ.mp hx];exact h1 y hy
  ·rw[Wg]
   conv=>rhs;rw[e]
   show (b0::(a.toList++b.toList.drop 1)).Perm (a.toList++b0::b.toList.drop 1);exact List.perm_middle.symm
 have size:∀ {out:Array Keyed}{d f:Nat},At rk (a.toList++b.toList) out a b d f->out.size<=a.size+b.size:=λ{out d f} L=>by
  have:=L.pm.length_eq;simp only[Jj,JB]at this;lia
 refine Jh (vB ?_);refine Jh (zR e0 ?_);dsimp only;by_cases z1:1=b.size
 ·rw[Jb (by simpa using z1)]
  obtain⟨n,m⟩:=L0.endB (by simp_all);exact Jg (h _ _ (Sm.refl _) n m)
 rw[Ja (by simpa using z1)];by_cases z2:0+1=a.size
 ·rw[Jb (by simpa using z2)]
  obtain⟨n,m⟩:=lone L0 z2;exact Jg (h _ _ (Sm.refl _) n m)
 rw[Ja (by simpa using z2)];refine Jh (Wb ?_)
 refine Jh (YW (Yu (I:=λi c O=>Sm st O/\∃ out d f g,c=(none,out,d,f,g)/\At rk (a.toList++b.toList) out a b d f/\d+1<a.size/\f<b.size/\i+1<=out.size)
  (Q:=λc O=>Sm st O/\∃ r x,c=(some r,x)/\r.toList.Perm (a.toList++b.toList)/\Srt rk r.toList) ?step ?fin ⟨Sm.refl _,_,_,_,_,rfl,L0,by lia,by lia,by simp⟩) ?post)
 case post =>
  rintro c O ⟨S1,r,x,rfl,n,m⟩;exact Jg (h _ _ S1 n m)
 case fin =>
  rintro c O ⟨S1,out,d,f,g,rfl,L,_,_,sz⟩;have:=size L;lia
 case step =>
  rintro i c O _ hi ⟨S1,out,d,f,g,rfl,L,Y,X,sz⟩;dsimp only
  refine Jh (YW (Yu (I:=λj c ak=>ak=O/\∃ out d f ca Z,c=(none,out,d,f,ca,Z)/\At rk (a.toList++b.toList) out a b d f/\d+1<a.size/\f<b.size/\i+1+j<=out.size)
   (Q:=λc ak=>ak=O/\((∃ r x,c=(some r,x)/\r.toList.Perm (a.toList++b.toList)/\Srt rk r.toList)\/∃ out d f ca Z,c=(none,out,d,f,ca,Z)/\At rk (a.toList++b.toList) out a b d f/\d+1<a.size/\f<b.size/\i+2<=out.size)) ?_ ?_ ⟨rfl,_,_,_,_,_,rfl,L,Y,X,by omega⟩) ?_)
  ·rintro j c ak _ hj ⟨rfl,out,d,f,ca,Z,rfl,L,Y,X,sz⟩
   dsimp only;obtain⟨x,ex,px⟩:=W d (by lia);obtain⟨y,M,py⟩:=V f X;refine Jh (zR M (Jh (zR ex (Jh (oP C (S1.kind.trans hk) py px ?_)))));by_cases z:rk y<rk x
   ·rw[JA z]
    dsimp only;rw[Jb rfl];have L':=L.pushB M λu R=>Z8 (Int.le_of_lt z) (x9 sa ex u R);refine Jh (zR M ?_);by_cases K:f+1=b.size
    ·rw[Jb (by simpa using K)]
     obtain⟨n,m⟩:=L'.endB (by simp_all);exact Jg ⟨rfl,.inl ⟨_,_,rfl,n,m⟩⟩
    ·rw[Ja (by simpa using K)]
     by_cases zg:Z+1>=g
     ·rw[Jb zg]
      exact Jg ⟨rfl,.inr ⟨_,_,_,_,_,rfl,L',Y,by lia,by rw[Jt];lia⟩⟩
     ·rw[Ja zg]
      exact Jg ⟨rfl,_,_,_,_,_,rfl,L',Y,by lia,by rw[Jt];lia⟩
   ·rw[Js z]
    dsimp only;rw[Ja Jp];have L':=L.pushA ex λu R=>Z8 (by simp_all) (x9 sb M u R);refine Jh (zR ex ?_);by_cases K:d+1+1=a.size
    ·rw[Jb (by simpa using K)]
     obtain⟨n,m⟩:=lone L' K;exact Jg ⟨rfl,.inl ⟨_,_,rfl,n,m⟩⟩
    ·rw[Ja (by simpa using K)]
     by_cases zg:ca+1>=g
     ·rw[Jb zg]
      exact Jg ⟨rfl,.inr ⟨_,_,_,_,_,rfl,L',by lia,X,by rw[Jt];lia⟩⟩
     ·rw[Ja zg]
      exact Jg ⟨rfl,_,_,_,_,_,rfl,L',by lia,X,by rw[Jt];lia⟩
  ·rintro c ak ⟨rfl,out,d,f,ca,Z,rfl,L,Y,X,sz⟩
   have:=size L;omega
  ·rintro c ak ⟨rfl,⟨r,x,rfl,n,m⟩|⟨out,d,f,ca,Z,rfl,L,Y,X,sz⟩⟩
   ·exact Jg ⟨S1,r,_,rfl,n,m⟩
   dsimp only;refine Jh (vB ?_)
   refine Jh (YW (Yu (I:=λj c ab=>Sm st ab/\∃ out d f g ca Z,c=(none,out,d,f,g,ca,Z)/\At rk (a.toList++b.toList) out a b d f/\d+1<a.size/\f<b.size/\i+2<=out.size)
    (Q:=λc ab=>Sm st ab/\((∃ r x,c=(some r,x)/\r.toList.Perm (a.toList++b.toList)/\Srt rk r.toList)\/∃ out d f g ca Z,c=(none,out,d,f,g,ca,Z)/\At rk (a.toList++b.toList) out a b d f/\d+1<a.size/\f<b.size/\i+2<=out.size)) ?_ ?_ ⟨S1,_,_,_,_,_,_,rfl,L,Y,X,sz⟩) ?_)
   ·rintro j c ab _ hj ⟨S3,out,d,f,g,ca,Z,rfl,L,Y,X,sz⟩
    dsimp only;obtain⟨y,M,py⟩:=V f X;by_cases zg:g > 1
    ·rw[Jb zg]
     refine Jh (uR λaC o=>?_);have o:=S3.trans o;refine Jh (zR M (Jh (xD C (o.kind.trans hk) py (λt ht=>W (d+t) (by lia)) (x8 sa (by lia)) (by lia) λk a0 g1 g2=>?_)));dsimp only
     have S:=L.cutA (k:=k) λt u tk eu v hv=>by
      have:=g1 t tk;rw[R_at eu]at this;unfold bd at this;simp only[Y6,Z6,Zz,JK]at this;have:=x9 sb M v hv;lia
     have hle:∀ u∈a.toList.drop (d+k),rk y<=rk u:=λu R=>by
      obtain⟨t,N⟩:=xv R;have tl:=(JQ.mp N).1;have:=g2 (k+t) (by lia) (by lia);rw[<- ZH,R_at N]at this;unfold bd at this;simp only[Y6,Z6,Wh,JT]at this;lia
     have G:i+2<=(out++a.extract d (d+k)).size:=by rw[Jy];lia
     by_cases zk:k > 0
     ·rw[Jb zk]
      by_cases za:d+k+1=a.size
      ·rw[Jb (by simpa using za)]
       obtain⟨n,m⟩:=lone S za;exact Jg ⟨o,.inl ⟨_,_,rfl,n,m⟩⟩
      rw[Ja (by simpa using za)];by_cases zc:d+k=a.size
      ·rw[Jb (by simpa using zc)]
       obtain⟨n,m⟩:=S.endA (by simp_all);exact Jg ⟨o,.inl ⟨_,_,rfl,n,m⟩⟩
      rw[Ja (by simpa using zc)];have J:d+k+1<a.size:=by lia
      generalize d+k=U at S hle J G ⊢;generalize out++a.extract d U=out1 at S G ⊢;refine Jh (zR M ?_);have L2:=S.pushB M hle;by_cases K:f+1=b.size
      ·rw[Jb (by simpa using K)]
       obtain⟨n,m⟩:=L2.endB (by simp_all);exact Jg ⟨o,.inl ⟨_,_,rfl,n,m⟩⟩
      rw[Ja (by simpa using K)];obtain⟨x1,l,T⟩:=W _ (Nat.lt_of_succ_lt J);refine Jh (zR l (Jh (xD C (o.kind.trans hk) T (λt ht=>V (f+1+t) (by grind)) (x8 sb (by grind)) (by grind) λB ax c1 c2=>?_)));dsimp only
      have L3:=L2.cutB (k:=B) λt u tk eu v hv=>by
       have:=c1 t tk;rw[R_at eu]at this;unfold bd at this;simp only[Yz,JT]at this;have:=x9 sa l v hv;lia
      have p:∀ u∈b.toList.drop (f+1+B),rk x1<=rk u:=λu R=>by
       obtain⟨t,N⟩:=xv R;have tl:=(JQ.mp N).1;have:=c2 (B+t) (by lia) (by grind);rw[<- ZH,R_at N]at this;unfold bd at this;simp only[Yz,JK]at this
       simp_all
      have ao:=G;by_cases F:B > 0
      ·rw[Jb F]
       by_cases zd:f+1+B=b.size
       ·rw[Jb (by simpa using zd)]
        obtain⟨n,m⟩:=L3.endB (by simp_all);exact Jg ⟨o,.inl ⟨_,_,rfl,n,m⟩⟩
       rw[Ja (by simpa using zd)];have H:f+1+B<b.size:=by grind
       refine Jh (zR l ?_);have D:=L3.pushA l p;by_cases q:U+1+1=a.size
       ·rw[Jb (by simpa using q)]
        obtain⟨n,m⟩:=lone D q;exact Jg ⟨o,.inl ⟨_,_,rfl,n,m⟩⟩
       rw[Ja (by simpa using q)];split
       ·exact Jg ⟨o,.inr ⟨_,_,_,_,_,_,rfl,D,by lia,H,by simp only[Jt,Jy];lia⟩⟩
       ·exact Jg ⟨o,_,_,_,_,_,_,rfl,D,by lia,H,by simp only[Jt,Jy];lia⟩
      ·rw[Ja F]
       obtain rfl:B=0:=by simp_all
       rw[Za]at p;refine Jh (zR l ?_);have D:=L2.pushA l p;by_cases q:U+1+1=a.size
       ·rw[Jb (by simpa using q)]
        obtain⟨n,m⟩:=lone D q;exact Jg ⟨o,.inl ⟨_,_,rfl,n,m⟩⟩
       rw[Ja (by simpa using q)];split
       ·exact Jg ⟨o,.inr ⟨_,_,_,_,_,_,rfl,D,by lia,by lia,by simp only[Jt,Jy];lia⟩⟩
       ·exact Jg ⟨o,_,_,_,_,_,_,rfl,D,by lia,by lia,by simp only[Jt,Jy];lia⟩
     ·rw[Ja zk]
      obtain rfl:k=0:=by simp_all
      have S:=L;have J:=Y;have G:=sz;rw[Za]at hle;refine Jh (zR M ?_);have L2:=S.pushB M hle;by_cases K:f+1=b.size
      ·rw[Jb (by simpa using K)]
       obtain⟨n,m⟩:=L2.endB (by simp_all);exact Jg ⟨o,.inl ⟨_,_,rfl,n,m⟩⟩
      rw[Ja (by simpa using K)];obtain⟨x1,l,T⟩:=W _ (Nat.lt_of_succ_lt J);refine Jh (zR l (Jh (xD C (o.kind.trans hk) T (λt ht=>V (f+1+t) (by grind)) (x8 sb (by grind)) (by grind) λB ax c1 c2=>?_)));dsimp only
      have L3:=L2.cutB (k:=B) λt u tk eu v hv=>by
       have:=c1 t tk;rw[R_at eu]at this;unfold bd at this;simp only[Yz,JT]at this;have:=x9 sa l v hv;lia
      have p:∀ u∈b.toList.drop (f+1+B),rk x1<=rk u:=λu R=>by
       obtain⟨t,N⟩:=xv R;have tl:=(JQ.mp N).1;have:=c2 (B+t) (by lia) (by grind);rw[<- ZH,R_at N]at this;unfold bd at this;simp only[Yz,JK]at this
       simp_all
      have ao:=G;by_cases F:B > 0
      ·rw[Jb F]
       by_cases zd:f+1+B=b.size
       ·rw[Jb (by simpa using zd)]
        obtain⟨n,m⟩:=L3.endB (by simp_all);exact Jg ⟨o,.inl ⟨_,_,rfl,n,m⟩⟩
       rw[Ja (by simpa using zd)];have H:f+1+B<b.size:=by grind
       refine Jh (zR l ?_);have D:=L3.pushA l p;by_cases q:d+1+1=a.size
       ·rw[Jb (by simpa using q)]
        obtain⟨n,m⟩:=lone D q;exact Jg ⟨o,.inl ⟨_,_,rfl,n,m⟩⟩
       rw[Ja (by simpa using q)];split
       ·exact Jg ⟨o,.inr ⟨_,_,_,_,_,_,rfl,D,by lia,H,by simp only[Jt,Jy];lia⟩⟩
       ·exact Jg ⟨o,_,_,_,_,_,_,rfl,D,by lia,H,by simp only[Jt,Jy];lia⟩
      ·rw[Ja F]
       obtain rfl:B=0:=by simp_all
       rw[Za]at p;refine Jh (zR l ?_);have D:=L2.pushA l p;by_cases q:d+1+1=a.size
       ·rw[Jb (by simpa using q)]
        obtain⟨n,m⟩:=lone D q;exact Jg ⟨o,.inl ⟨_,_,rfl,n,m⟩⟩
       rw[Ja (by simpa using q)];split
       ·exact Jg ⟨o,.inr ⟨_,_,_,_,_,_,rfl,D,by lia,by lia,by simp only[Jt,Jy];lia⟩⟩
       ·exact Jg ⟨o,_,_,_,_,_,_,rfl,D,by simp_all,by lia,by simp only[Jt,Jy];simp_all⟩
    ·rw[Ja zg]
     refine Jh (uR λaC o=>?_);have o:=S3.trans o;refine Jh (zR M (Jh (xD C (o.kind.trans hk) py (λt ht=>W (d+t) (by grind)) (x8 sa (by grind)) (by grind) λk a0 g1 g2=>?_)));dsimp only
     have S:=L.cutA (k:=k) λt u tk eu v hv=>by
      have:=g1 t tk;rw[R_at eu]at this;unfold bd at this;simp only[Y6,Z6,Zz,JK]at this;have:=x9 sb M v hv;lia
     have hle:∀ u∈a.toList.drop (d+k),rk y<=rk u:=λu R=>by
      obtain⟨t,N⟩:=xv R;have tl:=(JQ.mp N).1;have:=g2 (k+t) (by lia) (by grind);rw[<- ZH,R_at N]at this;unfold bd at this;simp only[Y6,Z6,Wh,JT]at this;lia
     have G:i+2<=(out++a.extract d (d+k)).size:=by rw[Jy];lia
     by_cases zk:k > 0
     ·rw[Jb zk]
      by_cases za:d+k+1=a.size
      ·rw[Jb (by simpa using za)]
       obtain⟨n,m⟩:=lone S za;exact Jg ⟨o,.inl ⟨_,_,rfl,n,m⟩⟩
      rw[Ja (by simpa using za)];by_cases zc:d+k=a.size
      ·rw[Jb (by simpa using zc)]
       obtain⟨n,m⟩:=S.endA (by simp_all);exact Jg ⟨o,.inl ⟨_,_,rfl,n,m⟩⟩
      rw[Ja (by simpa using zc)];have J:d+k+1<a.size:=by grind
      generalize d+k=U at S hle J G ⊢;generalize out++a.extract d U=out1 at S G ⊢;refine Jh (zR M ?_);have L2:=S.pushB M hle;by_cases K:f+1=b.size
      ·rw[Jb (by simpa using K)]
       obtain⟨n,m⟩:=L2.endB (by simp_all);exact Jg ⟨o,.inl ⟨_,_,rfl,n,m⟩⟩
      rw[Ja (by simpa using K)];obtain⟨x1,l,T⟩:=W _ (Nat.lt_of_succ_lt J);refine Jh (zR l (Jh (xD C (o.kind.trans hk) T (λt ht=>V (f+1+t) (by grind)) (x8 sb (by grind)) (by grind) λB ax c1 c2=>?_)));dsimp only
      have L3:=L2.cutB (k:=B) λt u tk eu v hv=>by
       have:=c1 t tk;rw[R_at eu]at this;unfold bd at this;simp only[Yz,JT]at this;have:=x9 sa l v hv;lia
      have p:∀ u∈b.toList.drop (f+1+B),rk x1<=rk u:=λu R=>by
       obtain⟨t,N⟩:=xv R;have tl:=(JQ.mp N).1;have:=c2 (B+t) (by lia) (by grind);rw[<- ZH,R_at N]at this;unfold bd at this;simp only[Yz,JK]at this
       simp_all
      have ao:=G;by_cases F:B > 0
      ·rw[Jb F]
       by_cases zd:f+1+B=b.size
       ·rw[Jb (by simpa using zd)]
        obtain⟨n,m⟩:=L3.endB (by simp_all);exact Jg ⟨o,.inl ⟨_,_,rfl,n,m⟩⟩
       rw[Ja (by simpa using zd)];have H:f+1+B<b.size:=by grind
       refine Jh (zR l ?_);have D:=L3.pushA l p;by_cases q:U+1+1=a.size
       ·rw[Jb (by simpa using q)]
        obtain⟨n,m⟩:=lone D q;exact Jg ⟨o,.inl ⟨_,_,rfl,n,m⟩⟩
       rw[Ja (by simpa using q)];split
       ·exact Jg ⟨o,.inr ⟨_,_,_,_,_,_,rfl,D,by lia,H,by simp only[Jt,Jy];lia⟩⟩
       ·exact Jg ⟨o,_,_,_,_,_,_,rfl,D,by lia,H,by simp only[Jt,Jy];lia⟩
      ·rw[Ja F]
       obtain rfl:B=0:=by simp_all
       rw[Za]at p;refine Jh (zR l ?_);have D:=L2.pushA l p;by_cases q:U+1+1=a.size
       ·rw[Jb (by simpa using q)]
        obtain⟨n,m⟩:=lone D q;exact Jg ⟨o,.inl ⟨_,_,rfl,n,m⟩⟩
       rw[Ja (by simpa using q)];split
       ·exact Jg ⟨o,.inr ⟨_,_,_,_,_,_,rfl,D,by lia,by lia,by simp only[Jt,Jy];lia⟩⟩
       ·exact Jg ⟨o,_,_,_,_,_,_,rfl,D,by lia,by lia,by simp only[Jt,Jy];lia⟩
     ·rw[Ja zk]
      obtain rfl:k=0:=by simp_all
      have S:=L;have J:=Y;have G:=sz;rw[Za]at hle;refine Jh (zR M ?_);have L2:=S.pushB M hle;by_cases K:f+1=b.size
      ·rw[Jb (by simpa using K)]
       obtain⟨n,m⟩:=L2.endB (by simp_all);exact Jg ⟨o,.inl ⟨_,_,rfl,n,m⟩⟩
      rw[Ja (by simpa using K)];obtain⟨x1,l,T⟩:=W _ (Nat.lt_of_succ_lt J);refine Jh (zR l (Jh (xD C (o.kind.trans hk) T (λt ht=>V (f+1+t) (by grind)) (x8 sb (by grind)) (by grind) λB ax c1 c2=>?_)));dsimp only
      have L3:=L2.cutB (k:=B) λt u tk eu v hv=>by
       have:=c1 t tk;rw[R_at eu]at this;unfold bd at this;simp only[Yz,JT]at this;have:=x9 sa l v hv;lia
      have p:∀ u∈b.toList.drop (f+1+B),rk x1<=rk u:=λu R=>by
       obtain⟨t,N⟩:=xv R;have tl:=(JQ.mp N).1;have:=c2 (B+t) (by lia) (by grind);rw[<- ZH,R_at N]at this;unfold bd at this;simp only[Yz,JK]at this
       simp_all
      have ao:=G;by_cases F:B > 0
      ·rw[Jb F]
       by_cases zd:f+1+B=b.size
       ·rw[Jb (by simpa using zd)]
        obtain⟨n,m⟩:=L3.endB (by simp_all);exact Jg ⟨o,.inl ⟨_,_,rfl,n,m⟩⟩
       rw[Ja (by simpa using zd)];have H:f+1+B<b.size:=by grind
       refine Jh (zR l ?_);have D:=L3.pushA l p;by_cases q:d+1+1=a.size
       ·rw[Jb (by simpa using q)]
        obtain⟨n,m⟩:=lone D q;exact Jg ⟨o,.inl ⟨_,_,rfl,n,m⟩⟩
       rw[Ja (by simpa using q)];split
       ·exact Jg ⟨o,.inr ⟨_,_,_,_,_,_,rfl,D,by lia,H,by simp only[Jt,Jy];lia⟩⟩
       ·exact Jg ⟨o,_,_,_,_,_,_,rfl,D,by lia,H,by simp only[Jt,Jy];lia⟩
      ·rw[Ja F]
       obtain rfl:B=0:=by simp_all
       rw[Za]at p;refine Jh (zR l ?_);have D:=L2.pushA l p;by_cases q:d+1+1=a.size
       ·rw[Jb (by simpa using q)]
        obtain⟨n,m⟩:=lone D q;exact Jg ⟨o,.inl ⟨_,_,rfl,n,m⟩⟩
       rw[Ja (by simpa using q)];split
       ·exact Jg ⟨o,.inr ⟨_,_,_,_,_,_,rfl,D,by lia,by lia,by simp only[Jt,Jy];lia⟩⟩
       ·exact Jg ⟨o,_,_,_,_,_,_,rfl,D,by simp_all,by lia,by simp only[Jt,Jy];simp_all⟩
   ·rintro c ab ⟨S3,out,d,f,g,ca,Z,rfl,L,Y,X,sz⟩
    exact⟨S3,.inr ⟨_,_,_,_,_,_,rfl,L,Y,X,sz⟩⟩
   ·rintro c ab ⟨S3,⟨r,x,rfl,n,m⟩|⟨out,d,f,g,ca,Z,rfl,L,Y,X,sz⟩⟩
    ·exact Jg ⟨S3,r,_,rfl,n,m⟩
    dsimp only;refine Jh (uR λaC o=>?_);exact Jg ⟨S3.trans o,_,_,_,_,rfl,L,Y,X,by omega⟩
end
def gK:Array Keyed->Array Keyed->StateT SortSt Sem (Array Keyed):=sortPriv% PySem.Builtin.mergeHi
structure Hi (rk:Keyed->Int) (T a b out:List Keyed):Prop where
 sa:Srt rk a
 sb:Srt rk b
 so:Srt rk out
 ao:∀ x∈a,∀ y∈out,rk x<=rk y
 bo:∀ x∈b,∀ y∈out,rk x<=rk y
 pm:(a++b++out).Perm T
section
variable {rk:Keyed->Int}{T out a b c:List Keyed}
theorem Hi.swap (h:Hi rk T a b out):Hi rk T b a out:=⟨h.sb,h.sa,h.so,h.bo,h.ao,((YJ (l₁:=b) (l₂:=a)).append_right out).trans h.pm⟩
theorem Hi.take (h:Hi rk T (a++c) b out)(le:∀ x∈b,∀ y∈c,rk x<=rk y):Hi rk T a b (c++out):=by
 obtain⟨i,g,f⟩:=Yw.mp h.sa;refine⟨i,h.sb,Yw.mpr ⟨g,h.so,λx d y e=>h.ao x (JJ _ d) y e⟩,λx d y e=>?_,λx d y e=>?_,?_⟩
 ·rcases Jz.mp e with q|q
  ·exact f x d y q
  ·exact h.ao x (Z5 _ d) y q
 ·rcases Jz.mp e with q|q
  ·exact le x d y q
  ·exact h.bo x d y q
 ·refine List.Perm.trans ?_ h.pm
  rw[<- JL];refine List.Perm.append_right out ?_;rw[JL,JL];exact ZT a YJ
theorem Hi.end (h:Hi rk T [] b out):(b++out).Perm T/\Srt rk (b++out):=⟨h.pm,Yw.mpr ⟨h.sb,h.so,h.bo⟩⟩
theorem Hi.lone (h:Hi rk T a b out)(le:∀ x∈b,∀ y∈a,rk x<=rk y):(b++a++out).Perm T/\Srt rk (b++a++out):=by
 refine⟨((YJ (l₁:=b) (l₂:=a)).append_right out).trans h.pm,Yw.mpr ⟨Yw.mpr ⟨h.sb,h.sa,le⟩,h.so,λx d y c=>?_⟩⟩;rcases Jz.mp d with q|q
 ·exact h.bo x q y c
 ·exact h.ao x q y c
theorem eB {arr:Array Keyed}{n:Nat}{p:Keyed}(c:1<=n)(e:arr[n-1]?=some p):arr.toList.take n=arr.toList.take (n-1)++[p]:=by
 obtain⟨b,e⟩:=JQ.mp e;have a:n-1<arr.toList.length:=by rw[JB];exact b
 have:=JR a;rw[Nat.sub_add_cancel c,Array.getElem_toList,e]at this;exact this
theorem j8 (arr:Array Keyed){i n:Nat}(h:i<=n):arr.toList.take n=arr.toList.take i++(arr.extract i n).toList:=by
 rw[ZB,Z2];have:=List.take_add (l:=arr.toList) (i:=i) (j:=n-i);rw[show i+(n-i)=n by simp_all]at this;exact this
theorem vY (arr:Array Keyed)(n:Nat):(arr.extract 0 n).toList=arr.toList.take n:=by
 rw[ZB,Z2,Wg,Nat.sub_zero]
theorem vZ {arr:Array Keyed}{i n:Nat}{x:Keyed}(h:x∈(arr.extract i n).toList):∃ j,i<=j/\j<n/\arr[j]?=some x:=by
 rw[ZB,Z2]at h;obtain⟨j,a⟩:=Ys.mp h
 have b:j<n-i:=by
  have:=(J9.mp a).1;rw[JN]at this;grind
 rw[ZG b,ZL]at a;exact⟨i+j,by lia,by omega,by rw[<- Y2];exact a⟩
theorem xN {arr:Array Keyed}{n:Nat}{x:Keyed}(h:x∈arr.toList.take n):∃ j,j<n/\arr[j]?=some x:=by
 obtain⟨j,a⟩:=Ys.mp h
 have b:j<n:=by
  have:=(J9.mp a).1;rw[JN]at this;grind
 rw[ZG b]at a;exact⟨j,b,by rw[<- Y2];exact a⟩
theorem xQ {arr:Array Keyed}{n:Nat}{p:Keyed}(h:Srt rk arr.toList)(f:1<=n)(e:arr[n-1]?=some p):∀ y∈arr.toList.take n,rk y<=rk p:=by
 intro y a;obtain⟨j,c,b⟩:=xN a;have d:=(JQ.mp e).1;have:=x8 h (base:=0) (n:=n) (by lia) j (n-1) (JX _) (by lia) (by lia);rw[R_at b,R_at e]at this;exact this
end
section
variable {rk:Keyed->Int}{T:List Keyed}{out a b:Array Keyed}{na nb i:Nat}{p:Keyed}
abbrev Bt (rk:Keyed->Int)(T:List Keyed)(a b out:Array Keyed)(na nb:Nat):Prop:=Hi rk T (a.toList.take na) (b.toList.take nb) out.toList.reverse
theorem Bt.pushA (h:Bt rk T a b out na nb)(i:1<=na)(e:a[na-1]?=some p)(le:∀ x∈b.toList.take nb,rk x<=rk p):Bt rk T a b (out.push p) (na-1) nb:=by
 have d:=h;unfold Bt at d ⊢;rw[eB i e]at d;rw[Z9,List.reverse_append];exact Hi.take (c:=[p]) d λx g y f=>by rw[JZ.mp f];exact le x g
theorem Bt.pushB (h:Bt rk T a b out na nb)(c:1<=nb)(e:b[nb-1]?=some p)(le:∀ x∈a.toList.take na,rk x<=rk p):Bt rk T a b (out.push p) na (nb-1):=(Bt.pushA (a:=b) (b:=a) h.swap c e le).swap
theorem Bt.cutA (h:Bt rk T a b out na nb)(hi:i<=na)(le:∀ j x,i<=j->j<na->a[j]?=some x->∀ y∈b.toList.take nb,rk y<=rk x):Bt rk T a b (out++(a.extract i na).reverse) i nb:=by
 have c:=h;unfold Bt at c ⊢;rw[j8 a hi]at c;rw[Y9,List.reverse_append,Array.toList_reverse,List.reverse_reverse]
 exact Hi.take c λy g x k=>by
  obtain⟨j,f,d,e⟩:=vZ k;exact le j x f d e y g
theorem Bt.cutB (h:Bt rk T a b out na nb)(hi:i<=nb)(le:∀ j x,i<=j->j<nb->b[j]?=some x->∀ y∈a.toList.take na,rk y<=rk x):Bt rk T a b (out++(b.extract i nb).reverse) na i:=(Bt.cutA (a:=b) (b:=a) h.swap hi le).swap
theorem Bt.endA (h:Bt rk T a b out 0 nb):(a.extract 0 0++b.extract 0 nb++out.reverse).toList.Perm T/\Srt rk (a.extract 0 0++b.extract 0 nb++out.reverse).toList:=by
 rw[Y9,Y9,vY,vY,List.take_zero,YH,Array.toList_reverse];exact Hi.end h
theorem Bt.endB (h:Bt rk T a b out na 0):(a.extract 0 na++b.extract 0 0++out.reverse).toList.Perm T/\Srt rk (a.extract 0 na++b.extract 0 0++out.reverse).toList:=by
 rw[Y9,Y9,vY,vY,List.take_zero,Yy,Array.toList_reverse];exact Hi.end h.swap
theorem Bt.lone (h:Bt rk T a b out na nb)(le:∀ x∈b.toList.take nb,∀ y∈a.toList.take na,rk x<=rk y):(b.extract 0 nb++a.extract 0 na++out.reverse).toList.Perm T/\Srt rk (b.extract 0 nb++a.extract 0 na++out.reverse).toList:=by
 rw[Y9,Y9,vY,vY,Array.toList_reverse];exact Hi.lone h le
end
section
variable {prog:Program}{w:World}{A:Around}{E:Value->Shared->Prop}{s:Shared}{κ:SortKind}{P:Keyed->Prop}{rk:Keyed->Int}
theorem zaj (C:Cmp prog w A s κ P rk){st:SortSt}{a b:Array Keyed}{Q:Array Keyed->SortSt->Prop}(hk:kindOf st=κ)(pa:∀ x∈a.toList,P x)(pb:∀ x∈b.toList,P x)(sa:Srt rk a.toList)(sb:Srt rk b.toList)(a1:1<=a.size)(b1:1<=b.size)(first:∀ x,b[0]?=some x->∀ y∈a.toList,rk x<=rk y)(last:∀ x,a[a.size-1]?=some x->∀ y∈b.toList,rk y<=rk x)(h:∀ r st',Sm st st'->r.toList.Perm (a.toList++b.toList)->Srt rk r.toList->Q r st'):wpS (model prog w) A E s (gK a b) Q st:=by
 have K:∀ i,i<a.size->∃ x,a[i]?=some x/\P x:=λi hi=>⟨_,getElem?_pos a i hi,pa _ (by simp)⟩;have Z:∀ i,i<b.size->∃ x,b[i]?=some x/\P x:=λi hi=>⟨_,getElem?_pos b i hi,pb _ (by simp)⟩;obtain⟨z0,e0,_⟩:=K (a.size-1) (by lia)
 have lone:∀ {out:Array Keyed}{na:Nat},Bt rk (a.toList++b.toList) a b out na 1->(b.extract 0 1++a.extract 0 na++out.reverse).toList.Perm (a.toList++b.toList)/\Srt rk (b.extract 0 1++a.extract 0 na++out.reverse).toList:=λ{out na} L=>L.lone λx hx y hy=>by
  obtain⟨j,j1,ej⟩:=xN hx;exact first x (by rw[show 0=j by simp_all];exact ej) y (List.mem_of_mem_take hy)
 have L0:Bt rk (a.toList++b.toList) a b #[z0] (a.size-1) b.size:=by
  have w0:Bt rk (a.toList++b.toList) a b #[] a.size b.size:=by
   have e1:a.toList.take a.size=a.toList:=Zr (by rw[JB];exact Jf _);have e2:b.toList.take b.size=b.toList:=Zr (by rw[JB];exact Jf _);unfold Bt;rw[e1,e2];exact⟨sa,sb,List.Pairwise.nil,λx hx y hy=>by simp at hy,λx hx y hy=>by simp at hy,by simp⟩
  exact w0.pushA a1 e0 λx hx=>last z0 e0 x (List.mem_of_mem_take hx)
 have size:∀ {out:Array Keyed}{na nb:Nat},Bt rk (a.toList++b.toList) a b out na nb->out.size<=a.size+b.size:=λ{out na nb} L=>by
  have:=L.pm.length_eq;simp only[Jj,Zg,JB]at this;lia
 refine Jh (vB ?_);refine Jh (zR e0 ?_);dsimp only;by_cases z1:a.size-1=0
 ·rw[Jb (by simpa using z1)]
  rw[z1]at L0 ⊢;obtain⟨e,d⟩:=L0.endA;exact Jg (h _ _ (Sm.refl _) e d)
 rw[Ja (by simpa using z1)];by_cases z2:b.size=1
 ·rw[Jb (by simpa using z2)]
  rw[z2]at L0 ⊢;obtain⟨e,d⟩:=lone L0;exact Jg (h _ _ (Sm.refl _) e d)
 rw[Ja (by simpa using z2)];refine Jh (Wb ?_)
 refine Jh (YW (Yu (I:=λi c J=>Sm st J/\∃ na nb out g,c=(none,na,nb,out,g)/\Bt rk (a.toList++b.toList) a b out na nb/\1<=na/\na<=a.size/\2<=nb/\nb<=b.size/\i+1<=out.size)
  (Q:=λc J=>Sm st J/\∃ r x,c=(some r,x)/\r.toList.Perm (a.toList++b.toList)/\Srt rk r.toList) ?step ?fin ⟨Sm.refl _,_,_,_,_,rfl,L0,by lia,by simp_all,by lia,by lia,by simp⟩) ?post)
 case post =>
  rintro c J ⟨S1,r,x,rfl,e,d⟩;exact Jg (h _ _ S1 e d)
 case fin =>
  rintro c J ⟨S1,na,nb,out,g,rfl,L,_,_,_,_,sz⟩;have:=size L;lia
 case step =>
  rintro i c J _ hi ⟨S1,na,nb,out,g,rfl,L,M,B,lb,q,sz⟩;dsimp only
  refine Jh (YW (Yu (I:=λj c Y=>Y=J/\∃ na nb out ca W,c=(none,na,nb,out,ca,W)/\Bt rk (a.toList++b.toList) a b out na nb/\1<=na/\na<=a.size/\2<=nb/\nb<=b.size/\i+1+j<=out.size)
   (Q:=λc Y=>Y=J/\((∃ r x,c=(some r,x)/\r.toList.Perm (a.toList++b.toList)/\Srt rk r.toList)\/∃ na nb out ca W,c=(none,na,nb,out,ca,W)/\Bt rk (a.toList++b.toList) a b out na nb/\1<=na/\na<=a.size/\2<=nb/\nb<=b.size/\i+2<=out.size)) ?_ ?_ ⟨rfl,_,_,_,_,_,rfl,L,M,B,lb,q,by omega⟩) ?_)
  ·rintro j c Y _ hj ⟨rfl,na,nb,out,ca,W,rfl,L,M,B,lb,q,sz⟩
   dsimp only;obtain⟨x,ex,px⟩:=K (na-1) (by lia);obtain⟨y,H,py⟩:=Z (nb-1) (by lia);refine Jh (zR H (Jh (zR ex (Jh (oP C (S1.kind.trans hk) py px ?_)))));by_cases z:rk y<rk x
   ·rw[JA z]
    dsimp only;rw[Jb rfl];have L':=L.pushA M ex λu S=>Z8 (xQ sb (by lia) H u S) (Int.le_of_lt z);refine Jh (zR ex ?_);by_cases D:na-1=0
    ·rw[Jb (by simpa using D)]
     rw[D]at L' ⊢;obtain⟨e,d⟩:=L'.endA;exact Jg ⟨rfl,.inl ⟨_,_,rfl,e,d⟩⟩
    ·rw[Ja (by simpa using D)]
     by_cases zg:ca+1>=g
     ·rw[Jb zg]
      exact Jg ⟨rfl,.inr ⟨_,_,_,_,_,rfl,L',by lia,by lia,lb,q,by rw[Jt];lia⟩⟩
     ·rw[Ja zg]
      exact Jg ⟨rfl,_,_,_,_,_,rfl,L',by lia,by grind,lb,q,by rw[Jt];lia⟩
   ·rw[Js z]
    dsimp only;rw[Ja Jp];have L':=L.pushB (by lia) H λu S=>Z8 (xQ sa M ex u S) (by simp_all);refine Jh (zR H ?_);by_cases D:nb-1=1
    ·rw[Jb (by simpa using D)]
     rw[D]at L' ⊢;obtain⟨e,d⟩:=lone L';exact Jg ⟨rfl,.inl ⟨_,_,rfl,e,d⟩⟩
    ·rw[Ja (by simpa using D)]
     by_cases zg:W+1>=g
     ·rw[Jb zg]
      exact Jg ⟨rfl,.inr ⟨_,_,_,_,_,rfl,L',M,B,by lia,by lia,by rw[Jt];lia⟩⟩
     ·rw[Ja zg]
      exact Jg ⟨rfl,_,_,_,_,_,rfl,L',M,B,by lia,by grind,by rw[Jt];lia⟩
  ·rintro c Y ⟨rfl,na,nb,out,ca,W,rfl,L,M,B,lb,q,sz⟩
   have:=size L;omega
  ·rintro c Y ⟨rfl,⟨r,x,rfl,e,d⟩|⟨na,nb,out,ca,W,rfl,L,M,B,lb,q,sz⟩⟩
   ·exact Jg ⟨S1,r,_,rfl,e,d⟩
   dsimp only;refine Jh (vB ?_)
   refine Jh (YW (Yu (I:=λj c X=>Sm st X/\∃ na nb out g ca W,c=(none,na,nb,out,g,ca,W)/\Bt rk (a.toList++b.toList) a b out na nb/\1<=na/\na<=a.size/\2<=nb/\nb<=b.size/\i+2<=out.size)
    (Q:=λc X=>Sm st X/\((∃ r x,c=(some r,x)/\r.toList.Perm (a.toList++b.toList)/\Srt rk r.toList)\/∃ na nb out g ca W,c=(none,na,nb,out,g,ca,W)/\Bt rk (a.toList++b.toList) a b out na nb/\1<=na/\na<=a.size/\2<=nb/\nb<=b.size/\i+2<=out.size)) ?_ ?_ ⟨S1,_,_,_,_,_,_,rfl,L,M,B,lb,q,sz⟩) ?_)
   ·rintro j c X _ hj ⟨S3,na,nb,out,g,ca,W,rfl,L,M,B,lb,q,sz⟩
    dsimp only;obtain⟨y,H,py⟩:=Z (nb-1) (by lia);by_cases zg:g > 1
    ·rw[Jb zg]
     refine Jh (uR λao l=>?_);have l:=S3.trans l;refine Jh (zR H (Jh (xD C (l.kind.trans hk) py (λt ht=>K (0+t) (by lia)) (x8 sa (by simp_all)) (by lia) λk ak g1 g2=>?_)));dsimp only
     have L1:=L.cutA (i:=k) ak λt u F tn eu v hv=>by
      have:=g2 t F tn;rw[YA,R_at eu]at this;unfold bd at this;simp only[Y6,Z6,Wh,JT]at this;have:=xQ sb (by lia) H v hv;lia
     have hle:∀ u∈a.toList.take k,rk u<=rk y:=λu S=>by
      obtain⟨t,F,et⟩:=xN S;have:=g1 t F;rw[YA,R_at et]at this;unfold bd at this;simp only[Y6,Z6,Zz,JK]at this
      simp_all
     have ab:i+2<=(out++(a.extract k na).reverse).size:=by rw[Jy];lia
     by_cases zk:na-k > 0
     ·rw[Jb zk]
      by_cases zc:k=0
      ·rw[Jb (by simpa using zc)]
       subst zc;obtain⟨e,d⟩:=L1.endA;exact Jg ⟨l,.inl ⟨_,_,rfl,e,d⟩⟩
      rw[Ja (by simpa using zc)];have R:1<=k:=by lia
      generalize na-k=kk;generalize out++(a.extract k na).reverse=out1 at L1 ab ⊢;refine Jh (zR H ?_);have L2:=L1.pushB (by lia) H hle;by_cases D:nb-1=1
      ·rw[Jb (by simpa using D)]
       rw[D]at L2 ⊢;obtain⟨e,d⟩:=lone L2;exact Jg ⟨l,.inl ⟨_,_,rfl,e,d⟩⟩
      rw[Ja (by simpa using D)];obtain⟨x1,f,U⟩:=K (k-1) (by grind);refine Jh (zR f (Jh (xD C (l.kind.trans hk) U (λt ht=>Z (0+t) (by lia)) (x8 sb (by lia)) (by grind) λp V c1 c2=>?_)));dsimp only
      have T:=L2.cutB (i:=p) V λt u F tn eu v hv=>by
       have:=c2 t F tn;rw[YA,R_at eu]at this;unfold bd at this;simp only[Yz,JK]at this;have:=xQ sa R f v hv;lia
      have n:∀ u∈b.toList.take p,rk u<=rk x1:=λu S=>by
       obtain⟨t,F,et⟩:=xN S;have:=c1 t F;rw[YA,R_at et]at this;unfold bd at this;simp only[Yz,JT]at this;lia
      by_cases G:nb-1-p > 0
      ·rw[Jb G]
       by_cases O:p=1
       ·rw[Jb (by simpa using O)]
        subst O;obtain⟨e,d⟩:=lone T;exact Jg ⟨l,.inl ⟨_,_,rfl,e,d⟩⟩
       rw[Ja (by simpa using O)];by_cases N:p=0
       ·rw[Jb (by simpa using N)]
        subst N;obtain⟨e,d⟩:=T.endB;exact Jg ⟨l,.inl ⟨_,_,rfl,e,d⟩⟩
       rw[Ja (by simpa using N)];refine Jh (zR f ?_);have m:=T.pushA R f n;by_cases o:k-1=0
       ·rw[Jb (by simpa using o)]
        rw[o]at m ⊢;obtain⟨e,d⟩:=m.endA;exact Jg ⟨l,.inl ⟨_,_,rfl,e,d⟩⟩
       rw[Ja (by simpa using o)];split
       ·exact Jg ⟨l,.inr ⟨_,_,_,_,_,_,rfl,m,by lia,by grind,by lia,by lia,by simp only[Jt,Jy];lia⟩⟩
       ·exact Jg ⟨l,_,_,_,_,_,_,rfl,m,by lia,by grind,by lia,by grind,by simp only[Jt,Jy];lia⟩
      ·rw[Ja G]
       obtain rfl:p=nb-1:=by grind
       refine Jh (zR f ?_);have m:=L2.pushA R f n;by_cases o:k-1=0
       ·rw[Jb (by simpa using o)]
        rw[o]at m ⊢;obtain⟨e,d⟩:=m.endA;exact Jg ⟨l,.inl ⟨_,_,rfl,e,d⟩⟩
       rw[Ja (by simpa using o)];split
       ·exact Jg ⟨l,.inr ⟨_,_,_,_,_,_,rfl,m,by lia,by grind,by lia,by grind,by simp only[Jt,Jy];lia⟩⟩
       ·exact Jg ⟨l,_,_,_,_,_,_,rfl,m,by lia,by grind,by lia,by grind,by simp only[Jt,Jy];lia⟩
     ·rw[Ja zk]
      obtain rfl:k=na:=by lia
      have L1:=L;have R:=M;have ab:=sz;generalize k-k=kk;refine Jh (zR H ?_);have L2:=L1.pushB (by lia) H hle;by_cases D:nb-1=1
      ·rw[Jb (by simpa using D)]
       rw[D]at L2 ⊢;obtain⟨e,d⟩:=lone L2;exact Jg ⟨l,.inl ⟨_,_,rfl,e,d⟩⟩
      rw[Ja (by simpa using D)];obtain⟨x1,f,U⟩:=K (k-1) (by lia);refine Jh (zR f (Jh (xD C (l.kind.trans hk) U (λt ht=>Z (0+t) (by grind)) (x8 sb (by grind)) (by grind) λp V c1 c2=>?_)));dsimp only
      have T:=L2.cutB (i:=p) V λt u F tn eu v hv=>by
       have:=c2 t F tn;rw[YA,R_at eu]at this;unfold bd at this;simp only[Yz,JK]at this;have:=xQ sa R f v hv;lia
      have n:∀ u∈b.toList.take p,rk u<=rk x1:=λu S=>by
       obtain⟨t,F,et⟩:=xN S;have:=c1 t F;rw[YA,R_at et]at this;unfold bd at this;simp only[Yz,JT]at this;lia
      by_cases G:nb-1-p > 0
      ·rw[Jb G]
       by_cases O:p=1
       ·rw[Jb (by simpa using O)]
        subst O;obtain⟨e,d⟩:=lone T;exact Jg ⟨l,.inl ⟨_,_,rfl,e,d⟩⟩
       rw[Ja (by simpa using O)];by_cases N:p=0
       ·rw[Jb (by simpa using N)]
        subst N;obtain⟨e,d⟩:=T.endB;exact Jg ⟨l,.inl ⟨_,_,rfl,e,d⟩⟩
       rw[Ja (by simpa using N)];refine Jh (zR f ?_);have m:=T.pushA R f n;by_cases o:k-1=0
       ·rw[Jb (by simpa using o)]
        rw[o]at m ⊢;obtain⟨e,d⟩:=m.endA;exact Jg ⟨l,.inl ⟨_,_,rfl,e,d⟩⟩
       rw[Ja (by simpa using o)];split
       ·exact Jg ⟨l,.inr ⟨_,_,_,_,_,_,rfl,m,by lia,by grind,by lia,by grind,by simp only[Jt,Jy];lia⟩⟩
       ·exact Jg ⟨l,_,_,_,_,_,_,rfl,m,by lia,by grind,by lia,by grind,by simp only[Jt,Jy];lia⟩
      ·rw[Ja G]
       obtain rfl:p=nb-1:=by grind
       refine Jh (zR f ?_);have m:=L2.pushA R f n;by_cases o:k-1=0
       ·rw[Jb (by simpa using o)]
        rw[o]at m ⊢;obtain⟨e,d⟩:=m.endA;exact Jg ⟨l,.inl ⟨_,_,rfl,e,d⟩⟩
       rw[Ja (by simpa using o)];split
       ·exact Jg ⟨l,.inr ⟨_,_,_,_,_,_,rfl,m,by lia,by grind,by lia,by grind,by simp only[Jt,Jy];lia⟩⟩
       ·exact Jg ⟨l,_,_,_,_,_,_,rfl,m,by lia,by grind,by lia,by grind,by simp only[Jt,Jy];lia⟩
    ·rw[Ja zg]
     refine Jh (uR λao l=>?_);have l:=S3.trans l;refine Jh (zR H (Jh (xD C (l.kind.trans hk) py (λt ht=>K (0+t) (by lia)) (x8 sa (by simp_all)) (by grind) λk ak g1 g2=>?_)));dsimp only
     have L1:=L.cutA (i:=k) ak λt u F tn eu v hv=>by
      have:=g2 t F tn;rw[YA,R_at eu]at this;unfold bd at this;simp only[Y6,Z6,Wh,JT]at this;have:=xQ sb (by lia) H v hv;lia
     have hle:∀ u∈a.toList.take k,rk u<=rk y:=λu S=>by
      obtain⟨t,F,et⟩:=xN S;have:=g1 t F;rw[YA,R_at et]at this;unfold bd at this;simp only[Y6,Z6,Zz,JK]at this
      simp_all
     have ab:i+2<=(out++(a.extract k na).reverse).size:=by rw[Jy];lia
     by_cases zk:na-k > 0
     ·rw[Jb zk]
      by_cases zc:k=0
      ·rw[Jb (by simpa using zc)]
       subst zc;obtain⟨e,d⟩:=L1.endA;exact Jg ⟨l,.inl ⟨_,_,rfl,e,d⟩⟩
      rw[Ja (by simpa using zc)];have R:1<=k:=by lia
      generalize na-k=kk;generalize out++(a.extract k na).reverse=out1 at L1 ab ⊢;refine Jh (zR H ?_);have L2:=L1.pushB (by lia) H hle;by_cases D:nb-1=1
      ·rw[Jb (by simpa using D)]
       rw[D]at L2 ⊢;obtain⟨e,d⟩:=lone L2;exact Jg ⟨l,.inl ⟨_,_,rfl,e,d⟩⟩
      rw[Ja (by simpa using D)];obtain⟨x1,f,U⟩:=K (k-1) (by grind);refine Jh (zR f (Jh (xD C (l.kind.trans hk) U (λt ht=>Z (0+t) (by grind)) (x8 sb (by grind)) (by grind) λp V c1 c2=>?_)));dsimp only
      have T:=L2.cutB (i:=p) V λt u F tn eu v hv=>by
       have:=c2 t F tn;rw[YA,R_at eu]at this;unfold bd at this;simp only[Yz,JK]at this;have:=xQ sa R f v hv;lia
      have n:∀ u∈b.toList.take p,rk u<=rk x1:=λu S=>by
       obtain⟨t,F,et⟩:=xN S;have:=c1 t F;rw[YA,R_at et]at this;unfold bd at this;simp only[Yz,JT]at this;lia
      by_cases G:nb-1-p > 0
      ·rw[Jb G]
       by_cases O:p=1
       ·rw[Jb (by simpa using O)]
        subst O;obtain⟨e,d⟩:=lone T;exact Jg ⟨l,.inl ⟨_,_,rfl,e,d⟩⟩
       rw[Ja (by simpa using O)];by_cases N:p=0
       ·rw[Jb (by simpa using N)]
        subst N;obtain⟨e,d⟩:=T.endB;exact Jg ⟨l,.inl ⟨_,_,rfl,e,d⟩⟩
       rw[Ja (by simpa using N)];refine Jh (zR f ?_);have m:=T.pushA R f n;by_cases o:k-1=0
       ·rw[Jb (by simpa using o)]
        rw[o]at m ⊢;obtain⟨e,d⟩:=m.endA;exact Jg ⟨l,.inl ⟨_,_,rfl,e,d⟩⟩
       rw[Ja (by simpa using o)];split
       ·exact Jg ⟨l,.inr ⟨_,_,_,_,_,_,rfl,m,by lia,by grind,by lia,by grind,by simp only[Jt,Jy];lia⟩⟩
       ·exact Jg ⟨l,_,_,_,_,_,_,rfl,m,by lia,by grind,by lia,by grind,by simp only[Jt,Jy];lia⟩
      ·rw[Ja G]
       obtain rfl:p=nb-1:=by grind
       refine Jh (zR f ?_);have m:=L2.pushA R f n;by_cases o:k-1=0
       ·rw[Jb (by simpa using o)]
        rw[o]at m ⊢;obtain⟨e,d⟩:=m.endA;exact Jg ⟨l,.inl ⟨_,_,rfl,e,d⟩⟩
       rw[Ja (by simpa using o)];split
       ·exact Jg ⟨l,.inr ⟨_,_,_,_,_,_,rfl,m,by lia,by grind,by lia,by grind,by simp only[Jt,Jy];lia⟩⟩
       ·exact Jg ⟨l,_,_,_,_,_,_,rfl,m,by lia,by grind,by lia,by grind,by simp only[Jt,Jy];lia⟩
     ·rw[Ja zk]
      obtain rfl:k=na:=by grind
      have L1:=L;have R:=M;have ab:=sz;generalize k-k=kk;refine Jh (zR H ?_);have L2:=L1.pushB (by lia) H hle;by_cases D:nb-1=1
      ·rw[Jb (by simpa using D)]
       rw[D]at L2 ⊢;obtain⟨e,d⟩:=lone L2;exact Jg ⟨l,.inl ⟨_,_,rfl,e,d⟩⟩
      rw[Ja (by simpa using D)];obtain⟨x1,f,U⟩:=K (k-1) (by lia);refine Jh (zR f (Jh (xD C (l.kind.trans hk) U (λt ht=>Z (0+t) (by grind)) (x8 sb (by grind)) (by grind) λp V c1 c2=>?_)));dsimp only
      have T:=L2.cutB (i:=p) V λt u F tn eu v hv=>by
       have:=c2 t F tn;rw[YA,R_at eu]at this;unfold bd at this;simp only[Yz,JK]at this;have:=xQ sa R f v hv;lia
      have n:∀ u∈b.toList.take p,rk u<=rk x1:=λu S=>by
       obtain⟨t,F,et⟩:=xN S;have:=c1 t F;rw[YA,R_at et]at this;unfold bd at this;simp only[Yz,JT]at this;lia
      by_cases G:nb-1-p > 0
      ·rw[Jb G]
       by_cases O:p=1
       ·rw[Jb (by simpa using O)]
        subst O;obtain⟨e,d⟩:=lone T;exact Jg ⟨l,.inl ⟨_,_,rfl,e,d⟩⟩
       rw[Ja (by simpa using O)];by_cases N:p=0
       ·rw[Jb (by simpa using N)]
        subst N;obtain⟨e,d⟩:=T.endB;exact Jg ⟨l,.inl ⟨_,_,rfl,e,d⟩⟩
       rw[Ja (by simpa using N)];refine Jh (zR f ?_);have m:=T.pushA R f n;by_cases o:k-1=0
       ·rw[Jb (by simpa using o)]
        rw[o]at m ⊢;obtain⟨e,d⟩:=m.endA;exact Jg ⟨l,.inl ⟨_,_,rfl,e,d⟩⟩
       rw[Ja (by simpa using o)];split
       ·exact Jg ⟨l,.inr ⟨_,_,_,_,_,_,rfl,m,by lia,by grind,by lia,by grind,by simp only[Jt,Jy];lia⟩⟩
       ·exact Jg ⟨l,_,_,_,_,_,_,rfl,m,by lia,by grind,by lia,by grind,by simp only[Jt,Jy];lia⟩
      ·rw[Ja G]
       obtain rfl:p=nb-1:=by grind
       refine Jh (zR f ?_);have m:=L2.pushA R f n;by_cases o:k-1=0
       ·rw[Jb (by simpa using o)]
        rw[o]at m ⊢;obtain⟨e,d⟩:=m.endA;exact Jg ⟨l,.inl ⟨_,_,rfl,e,d⟩⟩
       rw[Ja (by simpa using o)];split
       ·exact Jg ⟨l,.inr ⟨_,_,_,_,_,_,rfl,m,by lia,by grind,by lia,by grind,by simp only[Jt,Jy];lia⟩⟩
       ·exact Jg ⟨l,_,_,_,_,_,_,rfl,m,by lia,by grind,by lia,by grind,by simp only[Jt,Jy];lia⟩
   ·rintro c X ⟨S3,na,nb,out,g,ca,W,rfl,L,M,B,lb,q,sz⟩
    exact⟨S3,.inr ⟨_,_,_,_,_,_,rfl,L,M,B,lb,q,sz⟩⟩
   ·rintro c X ⟨S3,⟨r,x,rfl,e,d⟩|⟨na,nb,out,g,ca,W,rfl,L,M,B,lb,q,sz⟩⟩
    ·exact Jg ⟨S3,r,_,rfl,e,d⟩
    dsimp only;refine Jh (uR λao l=>?_);exact Jg ⟨S3.trans l,_,_,_,_,rfl,L,M,B,lb,q,by omega⟩
end
section
variable {rk:Keyed->Int}
theorem tJ (b:Nat):∀ (l:List Keyed) (o:Nat) (arr:Array Keyed),b+o+l.length<=arr.size->(List.foldl (λ(a:Array Keyed) (x:Keyed × Nat)=>a.setIfInBounds (b+x.2) x.1) arr (l.zipIdx o)).toList=arr.toList.take (b+o)++l++arr.toList.drop (b+o+l.length)
 | [],o,arr,_=>by
  show arr.toList=_
  rw[Yy,Zv,Za,Z0]
 | x::l,o,arr,h=>by
  rw[JE]at h;rw[List.zipIdx_cons,List.foldl_cons,tJ b l (o+1) _ (by rw[Array.size_setIfInBounds];lia)];have c:b+o<arr.toList.length:=by rw[JB];lia
  rw[Array.toList_setIfInBounds,<- ZH,List.drop_set_of_lt (by lia),JE,show b+o+1+l.length=b+o+(l.length+1) by lia]
  have e:(arr.toList.set (b+o) x).take (b+o+1)=arr.toList.take (b+o)++[x]:=by
   rw[JR (by rw[Yd];exact c),List.getElem_set_self,List.take_set_of_le (Jf _)]
  rw[e,JL (arr.toList.take (b+o)) [x] l];rfl
theorem kE {arr:Array Keyed}{i n j:Nat}(h:i+j<n)(hn:n<=arr.size):(arr.extract i n)[j]?=arr[i+j]?:=by
 rw[Array.getElem?_extract_of_lt (by lia)];exact(getElem?_pos arr (i+j) (by lia)).symm
theorem nY {arr:Array Keyed}{lo n:Nat}(h:Up rk arr lo n)(hn:lo+n<=arr.size):Srt rk (arr.extract lo (lo+n)).toList:=by
 refine List.pairwise_iff_getElem.mpr λi j c b d=>?_;have a:(arr.extract lo (lo+n)).size=n:=by rw[Array.size_extract];simp_all
 rw[JB,a]at c b;have:=h (lo+i) (lo+j) (by lia) (by lia) (by simp_all);rw[R_at (getElem?_pos arr (lo+i) (by lia)),R_at (getElem?_pos arr (lo+j) (by lia))]at this;simpa using this
end
section
variable {prog:Program}{w:World}{A:Around}{E:Value->Shared->Prop}{s:Shared}{κ:SortKind}{P:Keyed->Prop}{rk:Keyed->Int}{a₀:Array Keyed}
theorem zav (C:Cmp prog w A s κ P rk){st:SortSt}{Q:Bool->SortSt->Prop}{i sa na p sb nb q:Nat}(D:Bs κ P a₀ st)(e1:(pendingOf st)[i]?=some (sa,na,p))(e2:(pendingOf st)[i+1]?=some (sb,nb,q))(hs:sb=sa+na)(n1:1<=na)(n2:1<=nb)(hz:sb+nb<=a₀.size)(K:Up rk (arrOf st) sa na)(J:Up rk (arrOf st) sb nb)(h:∀ st',Bs κ P a₀ st'->pendingOf st'=((pendingOf st).setIfInBounds i (sa,na+nb,p)).eraseIdxIfInBounds (i+1)->(∀ k,k<sa\/sb+nb<=k->R rk (arrOf st') k=R rk (arrOf st) k)->Up rk (arrOf st') sa (na+nb)->Q true st'):wpS (model prog w) A E s (mergeAt' i) Q st:=by
 refine Jh (Wb ?_);dsimp only;rw[e1,e2];dsimp only;obtain⟨b0,X,aC,ao⟩:=D.at (i:=sb) (by lia) rk;have sz:=D.size
 have Z:∀ {c st2:SortSt}{Q':PUnit->SortSt->Prop},Q' ⟨⟩ st2->wpS (model prog w) A E s (set st2:StateT SortSt Sem PUnit) Q' c:=λ{c st2 Q'} hq=>by
  unfold wpS;rw[StateT.run_set];exact Jm ⟨rfl,hq⟩
 refine Jh (Z (st2:=SortSt.mk' (kindOf st) (arrOf st) (((pendingOf st).setIfInBounds i (sa,na+nb,p)).eraseIdxIfInBounds (i+1)) (gallopOf st) (failedOf st)) ?_);generalize M:SortSt.mk' (kindOf st) (arrOf st) (((pendingOf st).setIfInBounds i (sa,na+nb,p)).eraseIdxIfInBounds (i+1)) (gallopOf st) (failedOf st)=c;have d:Bs κ P a₀ c:=by rw[<- M];exact⟨D.kind,D.fail,D.perm,D.all⟩
 have U:arrOf c=arrOf st:=by rw[<- M]
 have ep:pendingOf c=((pendingOf st).setIfInBounds i (sa,na+nb,p)).eraseIdxIfInBounds (i+1):=by rw[<- M]
 have pat:∀ j,j<a₀.size->∃ x,(arrOf st)[j]?=some x/\P x:=λj B=>by
  obtain⟨x,ex,px,_⟩:=D.at B rk;exact⟨x,ex,px⟩
 refine Jh (zR X (Jh (xD (arr:=arrOf st) C d.kind aC (λt S=>pat (sa+t) (by lia)) K (by lia) λk a4 g1 g2=>?_)));dsimp only
 have f1:∀ j,sa<=j->j<sa+k->R rk (arrOf st) j<=rk b0:=λj l o=>by
  have:=g1 (j-sa) (by lia);rw[show sa+(j-sa)=j by simp_all]at this;unfold bd at this;simp only[Y6,Z6,Zz,JK]at this
  simp_all
 have f2:∀ j,sa+k<=j->j<sb->rk b0<=R rk (arrOf st) j:=λj l o=>by
  have:=g2 (j-sa) (by lia) (by lia);rw[show sa+(j-sa)=j by lia]at this;unfold bd at this;simp only[Y6,Z6,Wh,JT]at this;lia
 have f0:∀ j,sb<=j->j<sb+nb->rk b0<=R rk (arrOf st) j:=λj l o=>by rw[<- ao];exact J _ _ (Jf _) l o
 by_cases zk:na-k=0
 ·rw[Jb (by simpa using zk)]
  refine Jg (h c d ep (λj _=>by rw[U]) λx y g b I=>?_);rw[U];by_cases q1:y<sb
  ·exact K _ _ g b (by simp_all)
  ·by_cases q2:sb<=x
   ·exact J _ _ q2 b (by lia)
   ·exact Z8 (f1 x g (by lia)) (f0 y (by simp_all) (by lia))
 rw[Ja (by simpa using zk)];have ka:sa+k+(na-k)-1=sb-1:=by lia
 rw[ka];obtain⟨l0,V,ax,ak⟩:=D.at (i:=sb-1) (by lia) rk;refine Jh (zR V (Jh (xD (arr:=arrOf st) C d.kind ax (λt S=>pat (sb+t) (by lia)) J (by lia) λn a3 c1 c2=>?_)));dsimp only
 have f3:∀ j,sb<=j->j<sb+n->R rk (arrOf st) j<=rk l0:=λj l o=>by
  have:=c1 (j-sb) (by grind);rw[show sb+(j-sb)=j by simp_all]at this;unfold bd at this;simp only[Yz,JT]at this;lia
 have f4:∀ j,sb+n<=j->j<sb+nb->rk l0<=R rk (arrOf st) j:=λj l o=>by
  have:=c2 (j-sb) (by lia) (by lia);rw[show sb+(j-sb)=j by lia]at this;unfold bd at this;simp only[Yz,JK]at this
  simp_all
 have f5:∀ j,sa<=j->j<sb->R rk (arrOf st) j<=rk l0:=λj l o=>by rw[<- ak];exact K _ _ l (by lia) (by lia)
 by_cases zn:n=0
 ·rw[Jb (by simpa using zn)]
  refine Jg (h c d ep (λj _=>by rw[U]) λx y g b I=>?_);rw[U];by_cases q1:y<sb
  ·exact K _ _ g b (by simp_all)
  ·by_cases q2:sb<=x
   ·exact J _ _ q2 b (by lia)
   ·exact Z8 (f5 x g (by simp_all)) (f4 y (by simp_all) (by lia))
 rw[Ja (by simpa using zn)];have sx:((arrOf st).extract (sa+k) sb).size=na-k:=by rw[Array.size_extract];lia
 have sy:((arrOf st).extract sb (sb+n)).size=n:=by rw[Array.size_extract];lia
 have px:∀ x∈((arrOf st).extract (sa+k) sb).toList,P x:=λx g=>by
  obtain⟨j,l,o,L⟩:=vZ g;obtain⟨y,T,py⟩:=pat j (by lia);rw[L]at T;cases T;exact py
 have py:∀ x∈((arrOf st).extract sb (sb+n)).toList,P x:=λx g=>by
  obtain⟨j,l,o,L⟩:=vZ g;obtain⟨y,T,py⟩:=pat j (by lia);rw[L]at T;cases T;exact py
 have ox:Srt rk ((arrOf st).extract (sa+k) sb).toList:=by
  have:=nY (rk:=rk) (arr:=arrOf st) (lo:=sa+k) (n:=na-k) (λx y g b I=>K x y (by lia) b (by grind)) (by lia)
  rwa [show sa+k+(na-k)=sb by grind]at this
 have oy:Srt rk ((arrOf st).extract sb (sb+n)).toList:=nY (λx y g b I=>J x y (by omega) b (by lia)) (by lia)
 have first:∀ x,((arrOf st).extract sb (sb+n))[0]?=some x->∀ y∈((arrOf st).extract (sa+k) sb).toList,rk x<=rk y:=λx ex y I=>by
  rw[kE (by lia) (by lia),Za,X]at ex;obtain⟨j,l,o,L⟩:=vZ I;have:=f2 j l o;rw[R_at L]at this;cases ex;exact this
 have last:∀ x,((arrOf st).extract (sa+k) sb)[((arrOf st).extract (sa+k) sb).size-1]?=some x->∀ y∈((arrOf st).extract sb (sb+n)).toList,rk y<=rk x:=λx ex y I=>by
  rw[sx,kE (by grind) (by lia),show sa+k+(na-k-1)=sb-1 by lia,V]at ex;obtain⟨j,l,o,L⟩:=vZ I;have:=f3 j l (by omega);rw[R_at L]at this;cases ex;exact this
 have fin:∀ (m:Array Keyed) (st2:SortSt),Sm c st2->m.toList.Perm (((arrOf st).extract (sa+k) sb).toList++((arrOf st).extract sb (sb+n)).toList)->Srt rk m.toList ->
   wpS (model prog w) A E s (do
    modify λs=>setArr s (m.toList.zipIdx.foldl (λ(a:Array Keyed) (x:Keyed × Nat)=>a.setIfInBounds (sa+k+x.2) x.1) (arrOf s))
    let s' <- get
    pure (failedOf s').isNone) Q st2:=by
  intro m st2 G pm O;have Y:arrOf st2=arrOf st:=G.arr.trans U;have N:m.toList.length=na-k+n:=by rw[pm.length_eq,Jj,JB,JB,sx,sy]
  have wl:=tJ (sa+k) m.toList 0 (arrOf st2) (by rw[Y,sz,N];grind);generalize hW:List.foldl (λ(a:Array Keyed) (x:Keyed × Nat)=>a.setIfInBounds (sa+k+x.2) x.1) (arrOf st2) m.toList.zipIdx=W at wl;rw[Za,N,Y,show sa+k+(na-k+n)=sb+n by grind]at wl
  have ab:(arrOf st).toList=(arrOf st).toList.take (sa+k)++(((arrOf st).extract (sa+k) sb).toList++((arrOf st).extract sb (sb+n)).toList)++(arrOf st).toList.drop (sb+n):=by
   have d1:=si (arrOf st) (sa+k) (na-k);rw[show sa+k+(na-k)=sb by lia]at d1;have d2:=si (arrOf st) sb n;rw[JL,JL,<- d2,<- d1,Z0]
  have pw:W.Perm (arrOf st):=by
   rw[Array.perm_iff_toList_perm,wl]
   conv=>rhs;rw[ab]
   exact((pm.append_left _).append_right _)
  have r:((arrOf st).toList.take (sa+k)).length=sa+k:=by rw[JN,JB,sz];lia
  have a0:W.size=a₀.size:=by rw[pw.size_eq,sz]
  have z:∀ j,j<sa+k->R rk W j=R rk (arrOf st) j:=λj B=>R_congr (by
   rw[<- Y2,<- Y2,wl,JL,Y8 (by rw[r];exact B),ZG B])
  have f:∀ j,sb+n<=j->R rk W j=R rk (arrOf st) j:=λj B=>R_congr (by
   rw[<- Y2,<- Y2,wl,Ye (by rw[Jj,r,N];lia),Jj,r,N,ZL]
   congr 1;lia)
  have mid:∀ j,sa+k<=j->j<sb+n->∃ x,m[j-(sa+k)]?=some x/\R rk W j=rk x:=λj l o=>by
   have jl:j-(sa+k)<m.size:=by rw[<- JB,N];lia
   refine⟨_,getElem?_pos m _ jl,R_at ?_⟩;rw[<- Y2,wl,JL,Ye (by rw[r];exact l),r,Y8 (by rw[N];lia),Y2];exact getElem?_pos m _ jl
  have kids:∀ j x,m[j]?=some x->∃ t,((sa+k<=t/\t<sb)\/(sb<=t/\t<sb+n))/\R rk (arrOf st) t=rk x:=λj x ex=>by
   have hm:x∈m.toList:=by
    obtain⟨B,e⟩:=JQ.mp ex;rw[<- e];simp
   rcases Jz.mp (pm.mem_iff.mp hm) with u|u
   ·obtain⟨t,F,H,et⟩:=vZ u
    exact⟨t,.inl ⟨F,H⟩,R_at et⟩
   ·obtain⟨t,F,H,et⟩:=vZ u
    exact⟨t,.inr ⟨F,H⟩,R_at et⟩
  refine Jh (Wf (Jh (Wb (Jg ?_))));rw[hW]
  have ff:(failedOf (setArr st2 W)).isNone=true:=by
   show (failedOf st2).isNone=true;rw[G.fail,d.fail];rfl
  rw[ff];refine h _ ⟨G.kind.trans d.kind,G.fail.trans d.fail,pw.trans D.perm,D.all⟩ (G.pend.trans ep) (λj B=>?_) λx y g b I=>?_
  ·rcases B with B|B
   ·exact z j (by lia)
   ·exact f j (by lia)
  ·show R rk W x<=R rk W y
   by_cases x1:x<sa+k
   ·rw[z x x1]
    by_cases y1:y<sa+k
    ·rw[z y y1];exact K _ _ g b (by lia)
    ·by_cases y2:y<sb+n
     ·obtain⟨v,ev,rv⟩:=mid y (by lia) y2
      obtain⟨t,S,rt⟩:=kids _ v ev;rw[rv,<- rt];rcases S with ⟨F,H⟩|⟨F,H⟩
      ·exact K _ _ g (by lia) (by lia)
      ·exact Z8 (f1 x g x1) (f0 t F (by lia))
     ·rw[f y (by lia)]
      exact Z8 (f1 x g x1) (f0 y (by lia) (by lia))
   ·by_cases x2:x<sb+n
    ·obtain⟨u,eu,ru⟩:=mid x (by lia) x2
     rw[ru];by_cases y2:y<sb+n
     ·obtain⟨v,ev,rv⟩:=mid y (by lia) y2
      rw[rv]
      have:=x8 O (base:=0) (n:=m.size) (by lia) (x-(sa+k)) (y-(sa+k)) (JX _) (by lia) (by
       have:=(JQ.mp ev).1
       lia)
      rwa [R_at eu,R_at ev]at this
     ·rw[f y (by lia)]
      obtain⟨t,S,rt⟩:=kids _ u eu;rw[<- rt];rcases S with ⟨F,H⟩|⟨F,H⟩
      ·exact Z8 (f5 t (by lia) H) (f4 y (by lia) (by lia))
      ·exact J _ _ F (by lia) (by lia)
    ·rw[f x (by lia),f y (by lia)]
     exact J _ _ (by lia) b (by lia)
 split
 ·exact Jh (zac C d.kind px py ox oy (by rw[sx];lia) (by rw[sy];lia) first last λm st2 G pm O=>fin m st2 G pm O)
 ·exact Jh (zaj C d.kind px py ox oy (by rw[sx];lia) (by rw[sy];lia) first last λm st2 G pm O=>fin m st2 G pm O)
abbrev Run:=Nat × Nat × Nat
def Runs:List Run->Nat->Nat->Prop
 | [],u,v=>u=v
 | x::r,u,v=>x.1=u/\1<=x.2.1/\Runs r (u+x.2.1) v
theorem Runs.cut:∀ {l r:List Run}{u v:Nat},Runs (l++r) u v->∃ m,Runs l u m/\Runs r m v
 | [],_,u,_,h=>⟨u,rfl,h⟩
 | x::l,r,u,v,⟨e,d,c⟩=>by
  obtain⟨m,a,b⟩:=Runs.cut (l:=l) (r:=r) c;exact⟨m,⟨e,d,a⟩,b⟩
theorem Runs.app:∀ {l r:List Run}{u m v:Nat},Runs l u m->Runs r m v->Runs (l++r) u v
 | [],_,_,_,_,h,g=>by cases h;exact g
 | x::l,r,u,m,v,⟨c,b,a⟩,g=>⟨c,b,Runs.app a g⟩
theorem Runs.len:∀ {l:List Run}{u v:Nat},Runs l u v->u+l.length<=v
 | [],_,_,h=>by cases h;exact Jf _
 | x::l,u,v,⟨c,b,a⟩=>by
  have:=Runs.len a;rw[JE];lia
theorem Runs.mem:∀ {l:List Run}{u v:Nat}{x:Run},Runs l u v->x∈l->u<=x.1/\1<=x.2.1/\x.1+x.2.1<=v
 | y::l,u,v,x,⟨e,d,b⟩,c=>by
  rcases Jn.mp c with rfl|a
  ·have:=Runs.len b;lia
  ·have:=Runs.mem b a;lia
theorem Runs.modify {f:Run->Run}(a:∀ x,(f x).1=x.1/\(f x).2.1=x.2.1):∀ {l:List Run}{i u v:Nat},Runs l u v->Runs (l.modify i f) u v
 | [],i,_,_,h=>by cases i<;>exact h
 | x::l,0,u,v,⟨d,c,b⟩=>by
  rw[List.modify_zero_cons]
  refine⟨(a x).1.trans d,by rw[(a x).2];exact c,by rw[(a x).2];exact b⟩
 | x::l,i+1,u,v,⟨d,c,b⟩=>by
  rw[List.modify_succ_cons];exact⟨d,c,Runs.modify a b⟩
theorem vU {f:Run->Run}(a:∀ x,(f x).1=x.1/\(f x).2.1=x.2.1):∀ {l:List Run}{i:Nat}{x:Run},x∈l.modify i f->∃ y∈l,x.1=y.1/\x.2.1=y.2.1
 | [],i,x,h=>by cases i<;>simp at h
 | y::l,0,x,h=>by
  rw[List.modify_zero_cons]at h;rcases Jn.mp h with rfl|b
  ·exact⟨y,Ju,(a y).1,(a y).2⟩
  ·exact⟨x,Jr _ b,rfl,rfl⟩
 | y::l,i+1,x,h=>by
  rw[List.modify_succ_cons]at h;rcases Jn.mp h with rfl|b
  ·exact⟨x,Ju,rfl,rfl⟩
  ·obtain⟨z,hz,e⟩:=vU a b
   exact⟨z,Jr _ hz,e⟩
structure Ji (κ:SortKind) (P:Keyed->Prop) (rk:Keyed->Int) (a₀:Array Keyed) (lo:Nat) (st:SortSt):Prop where
 b:Bs κ P a₀ st
 runs:Runs (pendingOf st).toList 0 lo
 up:∀ x∈(pendingOf st).toList,Up rk (arrOf st) x.1 x.2.1
theorem gI (C:Cmp prog w A s κ P rk){st:SortSt}{lo i:Nat}{Q:Bool->SortSt->Prop}(J:Ji κ P rk a₀ lo st)(X:lo<=a₀.size)(hi:i+1<(pendingOf st).size)(h:∀ st',Ji κ P rk a₀ lo st'->(∀ k,lo<=k->R rk (arrOf st') k=R rk (arrOf st) k)->(pendingOf st').size+1=(pendingOf st).size->Q true st'):wpS (model prog w) A E s (mergeAt' i) Q st:=by
 obtain⟨x,ex⟩:∃ x,(pendingOf st)[i]?=some x:=⟨_,getElem?_pos _ i (by lia)⟩;obtain⟨y,I⟩:∃ y,(pendingOf st)[i+1]?=some y:=⟨_,getElem?_pos _ (i+1) hi⟩;have t:(pendingOf st).toList[i]?=some x:=by rw[Y2];exact ex
 have r:(pendingOf st).toList[i+1]?=some y:=by rw[Y2];exact I
 obtain⟨o,T⟩:=J9.mp t;obtain⟨n,S⟩:=J9.mp r
 have sp:(pendingOf st).toList=(pendingOf st).toList.take i++x::y::(pendingOf st).toList.drop (i+1+1):=by
  rw[<- T,<- S,<- Yn n,<- Yn o,Z0]
 have D:=J.runs;have up:=J.up;generalize e:(pendingOf st).toList.take i=pre at sp;generalize u:(pendingOf st).toList.drop (i+1+1)=post at sp;have O:pre.length=i:=by rw[<- e,JN];lia
 rw[sp]at D up;obtain⟨m,F,N⟩:=D.cut;obtain⟨B,H,M,G,f⟩:=N;obtain⟨v,na,p⟩:=x;obtain⟨L,nb,q⟩:=y;simp only at B H M G f;have Y:=f.len;refine zav C J.b ex I (by simp_all) H G (by lia) (up (v,na,p) (by simp)) (up (L,nb,q) (by simp)) λst' W U low K=>?_
 have l:(pendingOf st').toList=pre++(v,na+nb,p)::post:=by
  rw[U,Array.toList_eraseIdxIfInBounds,Array.toList_setIfInBounds,sp,List.set_append_right _ _ (by simp_all),List.eraseIdx_append_of_length_le (by simp_all),O,Nat.sub_self,Nat.add_sub_cancel_left];rfl
 refine h st' ⟨W,?_,?_⟩ (λk Z=>low k (.inr (by lia))) ?_
 ·rw[l]
  refine F.app ⟨B,by show 1<=na+nb;lia,?_⟩;show Runs post (m+(na+nb)) lo;rw[<- ZH];exact f
 ·rw[l]
  intro z a;rcases Jz.mp a with a|a
  ·have V:=F.mem a
   intro c d j b g;rw[low c (.inl (by lia)),low d (.inl (by lia))];exact up z (Z5 _ a) c d j b g
  ·rcases Jn.mp a with rfl|a
   ·exact K
   ·have V:=f.mem a
    intro c d j b g;rw[low c (.inr (by lia)),low d (.inr (by lia))];exact up z (JJ _ (by simp[a])) c d j b g
 ·rw[<- JB,<- JB,l,sp]
  simp only[Jj,JE];lia
theorem eP (C:Cmp prog w A s κ P rk){st:SortSt}{Q:Unit->SortSt->Prop}(hB:Bs κ P a₀ st)(hp:pendingOf st = #[])(h:∀ st',Bs κ P a₀ st'->Up rk (arrOf st') 0 a₀.size->Q () st'):wpS (model prog w) A E s sortRuns' Q st:=by
 rw[sortRuns'_eq];refine Jh (Wb ?_);dsimp only;rw[hB.size];generalize minRun' a₀.size a₀.size 0=T
 refine Jh (YW (Yu (I:=λi c o=>∃ lo,c=(none,lo)/\i<=lo/\lo<=a₀.size/\Ji κ P rk a₀ lo o)
  (Q:=λc o=>∃ lo,c=(none,lo)/\lo=a₀.size/\Ji κ P rk a₀ lo o) ?step ?fin ?init) ?post)
 case init=>exact⟨0,rfl,Jf _,JX _,hB,by rw[hp];rfl,λx u=>by rw[hp]at u;simp at u⟩
 case fin =>
  rintro c o ⟨lo,rfl,h1,W,J⟩;exact⟨lo,rfl,by lia,J⟩
 case step =>
  rintro i c o _ hi ⟨lo,rfl,h1,W,J⟩;dsimp only;by_cases z:lo>=a₀.size
  ·rw[Jb z]
   exact Jg ⟨lo,rfl,by lia,J⟩
  rw[Ja z];refine Jh (fV C J.b (by lia) (by simp_all) λf n Y N n2 u2=>?_);dsimp only
  have Jk:∀ g,Keep κ P rk a₀ lo o g->Ji κ P rk a₀ lo g:=λg K=>⟨K.b,by rw[K.pend];exact J.runs,λx u=>by
   rw[K.pend]at u;have:=J.runs.mem u;intro c d D v M;rw[K.low c (by lia),K.low d (by lia)]
   exact J.up x u c d D v M⟩
  by_cases zm:n<T
  ·rw[Jb zm]
   refine Jh (vB ?_);refine Jh (aJ C Y.b N (by grind) (by lia) u2 λg K G=>?_);have N:1<=min (a₀.size-lo) T:=by lia
   have n2:min (a₀.size-lo) T<=a₀.size-lo:=by omega
   have B:=Jk g (Y.trans K);generalize min (a₀.size-lo) T=n at N n2 G ⊢;rw[Ja (show ¬(!true)=true by decide)];refine Jh (Wb ?_)
   have last:∀ a,Ji κ P rk a₀ lo a->Up rk (arrOf a) lo n->wpS (model prog w) A E s (do
     modify λm=>setPending m ((pendingOf m).push (lo,n,0))
     pure (ForInStep.yield ((none:Option Unit),lo+n))) (λr st'=>match r with|.done H=>∃ lo,H=(none,lo)/\lo=a₀.size/\Ji κ P rk a₀ lo st'|.yield H=>∃ lo,H=(none,lo)/\i+1<=lo/\lo<=a₀.size/\Ji κ P rk a₀ lo st') a:=by
    intro a e l;refine Jh (Wf (Jg ⟨lo+n,rfl,by lia,by lia,⟨e.b.kind,e.b.fail,e.b.perm,e.b.all⟩,?_,?_⟩))
    ·show Runs ((pendingOf a).push (lo,n,0)).toList 0 (lo+n)
     rw[Z9];exact e.runs.app ⟨rfl,N,rfl⟩
    ·show ∀ x∈((pendingOf a).push (lo,n,0)).toList,Up rk (arrOf a) x.1 x.2.1
     rw[Z9];intro x u;rcases Jz.mp u with p|p
     ·exact e.up x p
     ·rw[JZ.mp p];exact l
   split
   ·rename_i s1 m1 w1 hb
    refine Jh (YW (Yu (I:=λj c a=>c=(none,())/\Ji κ P rk a₀ lo a/\Up rk (arrOf a) lo n) (Q:=λc a=>c=(none,())/\Ji κ P rk a₀ lo a/\Up rk (arrOf a) lo n) ?_ (λc a V=>V) ⟨rfl,B,G⟩) ?_)
    ·rintro j c a _ hj ⟨rfl,e,l⟩
     refine Jh (Wb ?_);split
     ·rename_i a1 a2 L O
      split
      ·exact Jg ⟨rfl,e,l⟩
      ·have sz:(pendingOf a).size > 1:=by
        by_cases q:(pendingOf a).size > 1
        ·exact q
        ·rw[Ja q]at O;cases O
       refine Jh (gI C e W (by grind) λm Z k _=>?_);rw[Ja (show ¬(!true)=true by decide)];exact Jg ⟨rfl,Z,λc d D v M=>by rw[k c D,k d (by lia)];exact l c d D v M⟩
     ·exact Jg ⟨rfl,e,l⟩
    ·rintro c a ⟨rfl,e,l⟩
     dsimp only;refine Jh (Wf ?_);refine last _ ⟨⟨e.b.kind,e.b.fail,e.b.perm,e.b.all⟩,?_,?_⟩ l
     ·show Runs ((pendingOf a).modify _ _).toList 0 lo
      rw[Array.toList_modify];refine Runs.modify ?_ e.runs;exact λx=>⟨rfl,rfl⟩
     ·show ∀ x∈((pendingOf a).modify _ _).toList,Up rk (arrOf a) x.1 x.2.1
      rw[Array.toList_modify];intro x u;obtain⟨y,U,X,e2⟩:=vU (by exact λx=>⟨rfl,rfl⟩) u;rw[X,e2];exact e.up y U
   ·exact last _ B G
  ·rw[Ja zm]
   have B:=Jk f Y;have G:=u2;generalize f=g at B G ⊢;refine Jh (Wb ?_)
   have last:∀ a,Ji κ P rk a₀ lo a->Up rk (arrOf a) lo n->wpS (model prog w) A E s (do
     modify λm=>setPending m ((pendingOf m).push (lo,n,0))
     pure (ForInStep.yield ((none:Option Unit),lo+n))) (λr st'=>match r with|.done H=>∃ lo,H=(none,lo)/\lo=a₀.size/\Ji κ P rk a₀ lo st'|.yield H=>∃ lo,H=(none,lo)/\i+1<=lo/\lo<=a₀.size/\Ji κ P rk a₀ lo st') a:=by
    intro a e l;refine Jh (Wf (Jg ⟨lo+n,rfl,by lia,by grind,⟨e.b.kind,e.b.fail,e.b.perm,e.b.all⟩,?_,?_⟩))
    ·show Runs ((pendingOf a).push (lo,n,0)).toList 0 (lo+n)
     rw[Z9];exact e.runs.app ⟨rfl,N,rfl⟩
    ·show ∀ x∈((pendingOf a).push (lo,n,0)).toList,Up rk (arrOf a) x.1 x.2.1
     rw[Z9];intro x u;rcases Jz.mp u with p|p
     ·exact e.up x p
     ·rw[JZ.mp p];exact l
   split
   ·rename_i s1 m1 w1 hb
    refine Jh (YW (Yu (I:=λj c a=>c=(none,())/\Ji κ P rk a₀ lo a/\Up rk (arrOf a) lo n) (Q:=λc a=>c=(none,())/\Ji κ P rk a₀ lo a/\Up rk (arrOf a) lo n) ?_ (λc a V=>V) ⟨rfl,B,G⟩) ?_)
    ·rintro j c a _ hj ⟨rfl,e,l⟩
     refine Jh (Wb ?_);split
     ·rename_i a1 a2 L O
      split
      ·exact Jg ⟨rfl,e,l⟩
      ·have sz:(pendingOf a).size > 1:=by
        by_cases q:(pendingOf a).size > 1
        ·exact q
        ·rw[Ja q]at O;cases O
       refine Jh (gI C e W (by lia) λm Z k _=>?_);rw[Ja (show ¬(!true)=true by decide)];exact Jg ⟨rfl,Z,λc d D v M=>by rw[k c D,k d (by lia)];exact l c d D v M⟩
     ·exact Jg ⟨rfl,e,l⟩
    ·rintro c a ⟨rfl,e,l⟩
     dsimp only;refine Jh (Wf ?_);refine last _ ⟨⟨e.b.kind,e.b.fail,e.b.perm,e.b.all⟩,?_,?_⟩ l
     ·show Runs ((pendingOf a).modify _ _).toList 0 lo
      rw[Array.toList_modify];refine Runs.modify ?_ e.runs;exact λx=>⟨rfl,rfl⟩
     ·show ∀ x∈((pendingOf a).modify _ _).toList,Up rk (arrOf a) x.1 x.2.1
      rw[Array.toList_modify];intro x u;obtain⟨y,U,X,e2⟩:=vU (by exact λx=>⟨rfl,rfl⟩) u;rw[X,e2];exact e.up y U
   ·exact last _ B G
 case post =>
  rintro c o ⟨lo,rfl,rfl,J⟩;dsimp only
  refine Jh (YW (Yu (I:=λi c f=>c=(none,())/\Ji κ P rk a₀ a₀.size f/\(pendingOf f).size<=a₀.size-i+1)
   (Q:=λc f=>c=(none,())/\Ji κ P rk a₀ a₀.size f/\(pendingOf f).size<=1) ?_ ?_ ⟨rfl,J,?_⟩) ?_)
  ·rintro i c f _ hi ⟨rfl,F,sz⟩
   refine Jh (Wb ?_);by_cases z:(pendingOf f).size<=1
   ·rw[Jb z]
    exact Jg ⟨rfl,F,z⟩
   rw[Ja z]
   have go:∀ t,t+1<(pendingOf f).size->wpS (model prog w) A E s (mergeAt' t) (λb g=>b=true/\Ji κ P rk a₀ a₀.size g/\(pendingOf g).size<=a₀.size-(i+1)+1) f:=λt ht =>
    gI C F (Jf _) ht λg B _ R=>⟨rfl,B,by grind⟩
   refine Jh (YW (go _ ?_) ?_)
   ·repeat' split
    all_goals omega
   ·rintro b g ⟨rfl,B,R⟩
    exact Jg ⟨rfl,B,R⟩
  ·rintro c f ⟨rfl,F,sz⟩
   exact⟨rfl,F,by simp_all⟩
  ·have:=J.runs.len
   rw[JB]at this;lia
  ·rintro c f ⟨rfl,F,sz⟩
   refine Jg (h f F.b ?_);have S:=F.runs;have up:=F.up;have ln:(pendingOf f).toList.length<=1:=by rw[JB];exact sz
   match hq:(pendingOf f).toList,ln with
   | [],_ =>
    rw[hq]at S;intro c d D v M;have:0=a₀.size:=S
    lia
   | [x],_ =>
    rw[hq]at S up;obtain⟨r1,r2,r3⟩:=S;have:0+x.2.1=a₀.size:=r3;have:=up x (by simp);rw[r1,show x.2.1=a₀.size by simp_all]at this;exact this
end
end Ts
namespace L2
open PySem PySem.Spec PyProof.Rows Own
section
variable {X:Cx}
theorem eY:OpR X (binaryOp .Add) (λx y H Q=>∃ a b xs ys,x=.ref a/\y=.ref b/\H a=some (.tup xs)/\H b=some (.tup ys)/\xs.length+ys.length<=sizeLine/\∀ r H',Same H H'->H' r=some (.tup (xs++ys))->Q (.ref r) H'):=by
 intro pins s σ H x y v u Q I o n h;obtain⟨a,b,xs,ys,rfl,rfl,j,i,F,q⟩:=h;by_cases z:xs=[]
 ·subst z
  cases o;cases n;obtain⟨L,A,C,_⟩:=I.tuple (SqT.of j);obtain⟨m,M,B,_⟩:=I.tuple (SqT.of i);cases A;obtain⟨⟨P,K,N,l⟩,w,g,E,d⟩:=C;obtain⟨⟨O,J,e2,k⟩,t,f,D,c⟩:=B;simp only at g d f c;subst g d f c;refine concat_meets ⟨_,w,rfl⟩ ⟨_,t,rfl⟩ noFill_tuple_add seq_tuple_add PySem.F.slot_tuple_add PySem.F.entry_tuple_add (PySem.F.args_tuple_add_2 _ _) (tuple_addW0 a b #[] m.toArray E D K J l k rfl) ⟨w,t,?_⟩;exact⟨.ref b,H,I,rfl,q b H (Same.refl H) (by rw[YH];exact i)⟩
 ·exact eX pins s σ H _ _ v u Q I o n ⟨a,b,xs,ys,rfl,rfl,SqT.of j,SqT.of i,z,F,λe=>q a H (Same.refl H) (by rw[e,Yy];exact j),λ_ p G=>q p _ (zC G _) zG⟩
end
theorem sj (xs:List V)(i:Nat)(h:i<=xs.length):vG xs none (some (i:Int))=xs.take i:=by
 unfold vG;rw[HT.sIx_none,HT.sIx_nat,Wg,Nat.sub_zero,Nat.min_eq_left h]
theorem sn (xs:List V)(i:Nat)(h:i<=xs.length):vG xs (some (i:Int)) none=xs.drop i:=by
 unfold vG;rw[HT.sIx_none,HT.sIx_nat,Nat.min_eq_left h];exact Zr (by rw[YR];exact Jf _)
end L2
namespace L2
open PySem PySem.Spec PyProof.Rows Own
section
variable {X:Cx}
theorem lJ {st:Stmt}:PS X st (λ_ _ _=>False):=λ_ _ _ _ _ _ h=>h.elim
def AnyT (K:PySem.W.Frag)(H:Hp)(x:V):Prop:=∃ T,TyOf K H x T/\∃ t:String,T=.type t
def cr:V->Bool
 | .int _=>true
 | _=>false
def mw (b:Int):V->Bool
 | .int i=>decide (0<=i) && decide (i<b)
 | _=>false
def rP (H:Hp):V->Option (List V)
 | .ref a=>match H a with
  | some (.tup xs)=>some xs
  | _=>none
 | _=>none
structure Isi (K:PySem.W.Frag) (H:Hp) (x:V) (t:Value):Prop where
 ty:TyOf K H x t
 int:PySem.W.kitOne K t (.type "int")=some (match x with|.int _=>true|.bl _=>true|_=>false)
 bool:PySem.W.kitOne K t (.type "bool")=some (match x with|.bl _=>true|_=>false)
 str:PySem.W.kitOne K t (.type "str")=some (match x with|.str _=>true|_=>false)
 tup:PySem.W.kitOne K t (.type "tuple")=some (rP H x).isSome
theorem bz {K:PySem.W.Frag}{H:Hp}{x:V}{T:Value}(h:TyOf K H x T)(a:∃ t,T=.type t):Isi K H x T:=by
 cases h with
 | ins e _ _ _ _ _=>obtain⟨t,a⟩:=a;cases a
 | lst e=>exact⟨.lst e,rfl,rfl,rfl,by simp only[rP,e];rfl⟩
 | frz e=>exact⟨.frz e,rfl,rfl,rfl,by simp only[rP,e];rfl⟩
 | tup e=>exact⟨.tup e,rfl,rfl,rfl,by simp only[rP,e];rfl⟩
 | dK e=>exact⟨.dK e,rfl,rfl,rfl,by simp only[rP,e];rfl⟩
 | dT e=>exact⟨.dT e,rfl,rfl,rfl,by simp only[rP,e];rfl⟩
 | non=>exact⟨.non,rfl,rfl,rfl,rfl⟩
 | bl b=>exact⟨.bl b,rfl,rfl,rfl,rfl⟩
 | int i=>exact⟨.int i,rfl,rfl,rfl,rfl⟩
 | str x=>exact⟨.str x,rfl,rfl,rfl,rfl⟩
 | flt x=>exact⟨.flt x,rfl,rfl,rfl,rfl⟩
theorem AnyT.isi {K:PySem.W.Frag}{H:Hp}{x:V}(h:AnyT K H x):∃ t,Isi K H x t :=
 let ⟨T,h,a⟩:=h
 ⟨T,bz h a⟩
theorem Inv.big {pins:List (Addr × Obj)}{σ:St}{H:Hp}{s:Shared}(I:Inv X pins σ H s):sysModules<s.heap.objs.size:=by
 have h:mainGlobals<s.heap.objs.size:=(I.mod.glob.keeps I.bk).lt;exact Zb (by decide) h
end
end L2
namespace L2
open PySem PySem.Spec PyProof.Rows Own
def LtAt (A:Around)(s:Shared)(y x:Value)(b:Bool):Prop:=∀ (prog:Program) (w:World) (E:Value->Shared->Prop) (Q:Value->Shared->Prop),Q (.bool b) s->wpAny (model prog w) A (richCompare .Lt y x) Q E s
theorem LtAt.ints {A:Around}{s:Shared}(a b:Int)(t u:Tok):LtAt A s (.int a t) (.int b u) (decide (a<b)):=λ_ _ _ _ h=>lt_int h
theorem oR (l b:Addr)(xs ys:Array Value)(n m:Nat)(d1 d2:Option Addr)(p o:Array (Option Value))(k:Nat)(L:k<xs.size)(K:k<ys.size)(c:Bool) :
  Meets (Builtin.«tuple.__lt__» ⟨[.ref l,.ref b],[]⟩)
   (λA R s=>s.heap.get? l=some { cls:=.type "tuple",dict:=d1,data:=.seq xs n,slots:=p }/\s.heap.get? b=some { cls:=.type "tuple",dict:=d2,data:=.seq ys m,slots:=o } /\
    (∀ j (N:j<xs.size) (M:j<ys.size),j<k->SeqAt.EqAt A.in1 s xs[j] ys[j] true)/\SeqAt.EqAt A.in1 s xs[k] ys[k] false/\LtAt A.in1 s xs[k] ys[k] c/\R (.ok (.ret (.bool c))) s) :=
 .of_wp λprog w A R s h=>by
  obtain⟨D,g,d,u,os⟩:=s;obtain⟨E,I,G,F,H,h⟩:=h;have kinds:=AutoSeq1.sub_tuple_tuple;have r:(xs.toList.zip ys.toList).length=min xs.size ys.size:=by simp
  wp_walk using wpAny_loadPart' E,wpAny_loadPart' I,wpAny_forIn_list _ (λrest b e=>b.1=none/\e=⟨D,g,d,u,os⟩/\∃ i,i<=k/\rest=(xs.toList.zip ys.toList).drop i) _
  case turn =>
   rintro⟨y,x⟩ rest b e ⟨q,rfl,i,v,a⟩;have C:i<xs.size:=by lia
   have B:i<ys.size:=by lia
   have f:i<(xs.toList.zip ys.toList).length:=by rw[r];lia
   rw[Yn f]at a;obtain⟨t,e2⟩:=List.cons.inj a;have J:y=xs[i]:=by simpa using Yh Prod.fst t
   have ex:x=ys[i]:=by simpa using Yh Prod.snd t
   subst J ex;by_cases z:i=k
   ·subst z
    refine J6 (F prog w _ _ ?_);simp only[Yz,Bool.not_false];refine J6 (Zq (J6 (H prog w _ _ ?_)))
    wp_walk
    exact⟨_,rfl,h⟩
   ·refine J6 (G i C B (by lia) prog w _ _ ?_)
    wp_walk
    exact⟨rfl,rfl,i+1,by lia,e2⟩
  case fin =>
   rintro⟨P,O⟩ e ⟨q,rfl,i,v,a⟩;have f:i<(xs.toList.zip ys.toList).length:=by rw[r];lia
   rw[Yn f]at a;cases a
  case h =>
   exact⟨rfl,rfl,0,JX _,rfl⟩
theorem LtAt.tuples {A:Around}{s:Shared}{l b:Addr}{xs ys:Array Value}{k:Nat}{c:Bool}(v:IsTup s.heap l xs)(hb:IsTup s.heap b ys)(u:A.units<cLine)(t:k<xs.size)(r:k<ys.size)(z:∀ j (I:j<xs.size) (H:j<ys.size),j<k->SeqAt.EqAt A.in1 s xs[j] ys[j] true)(y:SeqAt.EqAt A.in1 s xs[k] ys[k] false)(hc:LtAt A.in1 s xs[k] ys[k] c):LtAt A s (.ref l) (.ref b) c:=λprog w E Q h=>by
 obtain⟨⟨G,f,C,d⟩,i,q,n,o⟩:=v;obtain⟨⟨D,e,B,a⟩,g,p,m,e2⟩:=hb;simp only at q o p e2;subst q o p e2;exact richCompare_meets_room (op:=.Lt) ⟨_,i,rfl⟩ ⟨_,g,rfl⟩ F.slot_tuple_lt F.entry_tuple_lt (F.args_tuple_lt_2 _ _) (oR l b xs ys n m f e d a k t r c) ⟨i,g,z,y,hc,show Value.bool c≠Value.notImplemented/\Q (.bool c) s from⟨(λx=>nomatch x),h⟩⟩ u
end L2
namespace Ts
open PySem PyProof.Rows
section
variable {prog:Program}{w:World}{A:Around}{E:Value->Shared->Prop}{s:Shared}
theorem ko {a:Addr}{vs:List Value}{n:Nat}{D:Fin->Shared->Prop}(t:s.heap.get? a=some (seqObj "list" vs.toArray n)) (hz:vs.length<=10000) (κ:SortKind) (g:Value->Int)
  (j:∀ h',(∀ c o,c≠a->s.heap.get? c=some o->h'.get? c=some o)->2<=vs.length->∀ {Q:SortKind->Shared->Prop}{E:Value->Shared->Prop},Q κ { s with heap:=h' }->wpAny (model prog w) A (keyKind' vs.toArray) Q E { s with heap:=h' })
  (m:∀ h',(∀ c o,c≠a->s.heap.get? c=some o->h'.get? c=some o)->Cmp prog w A { s with heap:=h' } κ (λp=>p.1∈vs) (λp=>g p.1))
  (h:∀ out:List Value,out.Perm vs->out.Pairwise (λx y=>g x<=g y)->D (.done (.ret .none)) { s with heap:=sortedHeap s.heap a vs out.toArray }) :
  wpAny (model prog w) A (Builtin.«list.sort» ⟨[.ref a],[]⟩) D E s:=by
 have al:a<s.heap.objs.size:=Jc t;have ln:vs.toArray.size=vs.length:=Jd ..;have I:vs.length<=sizeLine:=JM hz (by decide);rw[list_sort_plain];refine J6 (listItems_at t rfl (J6 (listUpdate_at t rfl ?_ (hsz:=by rw[ln];exact I))));obtain⟨B,G⟩:∃ B,(s.heap.update a (Obj.mapSeq λ_=>#[])).get? a=some (seqObj "list" #[] B):=⟨_,get?_update_seq t λ_=>#[]⟩;refine J6 (seqEpoch_at G rfl (J6 (wpAny_newTuple (J6 (wpAny_newList (Yx ?_))))))
 have l:(((s.heap.update a (Obj.mapSeq λ_=>#[])).push (seqObj "tuple" vs.toArray 0)).push (seqObj "list" #[] 0)).get? a=some (seqObj "list" #[] B) :=
  J8 _ (J8 _ G)
 have old:∀ c o,c≠a->s.heap.get? c=some o->(((s.heap.update a (Obj.mapSeq λ_=>#[])).push (seqObj "tuple" vs.toArray 0)).push (seqObj "list" #[] 0)).get? c=some o:=λc o K q =>
  J8 _ (J8 _ ((Yp _ _ (Ne.symm K)).trans q))
 show wpAny (model prog w) A _ D E { s with heap:=((s.heap.update a (Obj.mapSeq λ_=>#[])).push (seqObj "tuple" vs.toArray 0)).push (seqObj "list" #[] 0) };have lo:∀ out:List Value,out.Perm vs->out.toArray.size<=sizeLine+1:=λout J=>by rw[Jd,J.length_eq];lia
 generalize N:((s.heap.update a (Obj.mapSeq λ_=>#[])).push (seqObj "tuple" vs.toArray 0)).push (seqObj "list" #[] 0)=h6 at l old ⊢;have back:∀ out:Array Value,sortedHeap s.heap a vs out=h6.update a (Obj.mapSeq λ_=>out):=λout=>by rw[<- N];rfl
 by_cases f:vs.toArray.size<2
 ·rw[Jb f,Jb f]
  refine J6 (Jm (?_:wpAny _ _ _ _ _ _));refine J6 (Jm ?_)
  have em:(vs.toArray.zip vs.toArray).map (·.2)=vs.toArray:=by
   apply Array.ext';rw[Array.toList_map,Array.toList_zip];exact List.map_snd_zip (Jf _)
  have one:vs.Pairwise (λx y=>g x<=g y):=by
   match vs,f with
   | [],_=>exact List.Pairwise.nil
   | [x],_=>exact List.pairwise_singleton _ _
   | _::_::_,z=>simp at z;lia
  have k:=h vs (ZR _) one;rw[back]at k;dsimp only;rw[em];refine J6 (seqEpoch_at l rfl (J6 (listUpdate_at l rfl ?_ (hsz:=JX _) (hsz2:=lo vs (ZR _)))));simp only[Z6,bne_self_eq_false,Y6];exact Jm k
 rw[Ja f,Ja f];refine J6 (j h6 old (by simp_all) ?_);have C:=m h6 old
 refine J6 (JU (eP C (a₀:=vs.toArray.zip vs.toArray) (st:=SortSt.mk' κ (vs.toArray.zip vs.toArray) #[] 7 none)
  (Q:=λ_ d=>Bs κ (λp=>p.1∈vs) (vs.toArray.zip vs.toArray) d/\Up (λp=>g p.1) (arrOf d) 0 (vs.toArray.zip vs.toArray).size) ⟨rfl,rfl,Array.Perm.refl _,λp r=>?_⟩ rfl λd b u=>⟨b,u⟩) ?_ λ_ _ e=>e)
 ·have:(vs.toArray.zip vs.toArray).toList=vs.zip vs:=by simp
  rw[this]at r;exact(List.of_mem_zip r).1
 rintro⟨⟨⟩,d⟩ P ⟨rfl,b,u⟩
 have F:(arrOf d).toList.Perm (vs.zip vs):=by
  have:=Array.perm_iff_toList_perm.mp b.perm;simpa using this
 have same:∀ p∈(arrOf d).toList,p.1=p.2:=λp r=>by
  have O:=F.mem_iff.mp r;obtain⟨i,v⟩:=Ys.mp O;rw[ZD]at v;have:=v.1.symm.trans v.2;exact Jv this
 have H:Srt (λp=>g p.1) (arrOf d).toList:=by
  have:=nY (arr:=arrOf d) (lo:=0) (n:=(arrOf d).size) (by rw[b.size];exact u) (by lia);rw[YA,vY,<- JB,YB]at this;exact this
 have pm:((arrOf d).toList.map (·.2)).Perm vs:=by
  have:=F.map (·.2)
  rwa [List.map_snd_zip (Jf _)]at this
 have em:(arrOf d).map (·.2)=((arrOf d).toList.map (·.2)).toArray:=by
  apply Array.ext';simp
 have k:=h _ pm (by
  refine Zc.mpr (List.Pairwise.imp_of_mem ?_ H);intro x y M L le
  rw[<- same x M,<- same y L];exact le)
 rw[back]at k;dsimp only;rw[em,b.fail];refine J6 (seqEpoch_at l rfl (J6 (listUpdate_at l rfl ?_ (hsz:=JX _) (hsz2:=lo _ pm))));simp only[Z6,bne_self_eq_false,Y6];exact Jm k
end
end Ts
namespace Own
open PySem PySem.Spec PyProof.Rows
abbrev IsZipN (h:Heap)(z TI TO t:Addr)(c:Bool):Prop:=h.get? z=some { cls:=.type "zip",dict:=none,data:=.fields #[rawInt t,.bool c,.bool false,.ref TI,.ref TO],slots:=#[] }
section
variable {prog:Program}{w:World}{A:Around}{E:Value->Shared->Prop}{s:Shared}{z TI TO i1 i2:Addr}{f1 f2:List Addr}{n1 n2 k:Nat}{P1 P2:Nat->Value->Prop}{S1 S2:Nat->Heap->Prop}
theorem tI {α:Type}{t:Addr}{c:Bool}{o:Obj}{f:Bool->Sem α}{Q:α->Shared->Prop}(hz:IsZipN s.heap z TI TO t c)(d:s.heap.get? t=some o)(h:∀ h',IsZipN h' z TI TO t true->Heap.SameBut z s.heap h'->wpAny (model prog w) A (f false) Q E { s with heap:=h' }) :
  wpAny (model prog w) A (Builtin.SmallTypes.ownedTupleIsFree (.ref z) >>= f) Q E s:=by
 refine J6 ?_;unfold Builtin.SmallTypes.ownedTupleIsFree;refine rf 0 hz rfl rfl ?_;show wpAny _ _ (loadIfAlive ((t:Int).toNat) >>= _) _ _ _;rw[Yc];refine J6 (PySem.W.kdx_alive d ?_);simp only[Y6,Z6,Option.isNone_some];refine rf (x:=.bool c) 1 hz rfl rfl ?_;have e:(Value.bool true != Value.bool true)=false:=rfl;have g:(Value.bool false != Value.bool true)=true:=rfl
 cases c with
 | true =>
  rw[e]
  exact Jm (h s.heap hz (Heap.SameBut.refl _ _))
 | false =>
  rw[g];exact J6 (Yi hz (show 1<5 by decide) λh' a b=>Jm (h h' a b))
theorem kP {t:Addr}{c:Bool}{o:Obj}(S:Sep z TI TO i1 i2 f1 f2)(l:Draws prog w A i1 f1 n1 P1 S1)(j:Draws prog w A i2 f2 n2 P2 S2){Q:Value->Shared->Prop}(hz:IsZipN s.heap z TI TO t c)(I:s.heap.get? t=some o)(K:IsPair s.heap TI (.ref i1) (.ref i2))(d1:S1 k s.heap)(d2:S2 k s.heap)(l1:k<n1)(l2:k<n2)(h:∀ x y h' D,P1 k x->P2 k y->IsZipN h' z TI TO t true->S1 (k+1) h'->S2 (k+1) h'->IsPair h' s.heap.objs.size x y ->
   (∀ c o,c∉[z,TO,i1,i2]->s.heap.get? c=some o->h'.get? c=some o)->Q (.ref s.heap.objs.size) { s with heap:=h',toks:=D }) :
  wpAny (model prog w) A (Builtin.«zip.__next__» ⟨[.ref z],[]⟩) (λr G=>∃ v,r=.done (.ret v)/\Q v G) E s:=by
 have n:=S.all;simp only[JY,Jn,Jq,JW,Zd]at n;obtain⟨⟨O,N,C,B⟩,⟨IO,W,V⟩,⟨U,T⟩,M,_⟩:=n;refine rf 2 hz rfl rfl (rf 3 hz rfl rfl (J6 (Yf K rfl (tI hz I λR u g=>?_))));rw[Ja Jp];refine J6 ?_;simp only[List.forIn_toArray,Zu,ZQ];refine J6 (J6 (Yx (J6 (l.item k _ _ _ l1 (l.frame _ _ _ d1 λc a o e=>(g.2 c λq=>S.z1 (q ▸ a)).trans e) λx J P H db f=>Jm (Jm ?_)))));have m:S2 k J:=j.frame _ _ _ d2 λc b o e=>(f.2 c λq=>S.o2 (q ▸ b)).trans ((g.2 c λq=>S.z2 (q ▸ b)).trans e);refine J6 (J6 (Yx (J6 (j.item k _ _ _ l2 m λy i F py L d=>Jm (Jm (Jm ?_))))));refine J6 (wpAny_newTuple (Jm ⟨_,rfl,?_⟩) (hsz:=by show 2<=sizeLine;decide));have sz:i.objs.size=s.heap.objs.size:=by rw[d.1,f.1,g.1]
 show Q (.ref i.objs.size) _;rw[sz];have p:IsZipN i z TI TO t true:=(d.2 z B).trans ((f.2 z C).trans u);have new:(i.push { cls:=.type "tuple",data:=.seq #[x,y] }).get? s.heap.objs.size=some { cls:=.type "tuple",data:=.seq #[x,y] }:=by rw[<- sz];exact Jw _ rfl
 refine h x y _ F H py (J8 _ p) ?_ ?_ new λc o a e=>?_
 ·exact l.frame _ _ _ db λc b o e=>J8 _ ((d.2 c λq=>S.o1 (q ▸ b)).trans e)
 ·exact j.frame _ _ _ L λc b o e=>J8 _ e
 ·simp only[Jn,Jq,JW,Zd]at a
  exact J8 _ ((d.2 c a.2.2.2).trans ((f.2 c a.2.2.1).trans ((g.2 c a.1).trans e)))
theorem rH {t:Addr}{c:Bool}{o:Obj}(S:Sep z TI TO i1 i2 f1 f2) (d:Draws prog w A i1 f1 n1 P1 S1) {Q:Fin->Shared->Prop}(hz:IsZipN s.heap z TI TO t c) (g:s.heap.get? t=some o) (k:IsPair s.heap TI (.ref i1) (.ref i2)) (d1:S1 n1 s.heap)
  (h:∀ h' x,(∀ c o,c∉[z,TO,i1,i2]->s.heap.get? c=some o->h'.get? c=some o)->(∃ o,h'.get? x=some o/\o.cls=.type "StopIteration")->E (.ref x) { s with heap:=h' }):wpAny (model prog w) A (Builtin.«zip.__next__» ⟨[.ref z],[]⟩) Q E s:=by
 refine rf 2 hz rfl rfl (rf 3 hz rfl rfl (J6 (Yf k rfl (tI hz g λm l b=>?_))));rw[Ja Jp];refine J6 ?_;simp only[List.forIn_toArray,Zu,ZQ];refine J6 (J6 (Yx (J6 (d.done _ _ _ (d.frame _ _ _ d1 λc i o e=>(b.2 c λq=>S.z1 (q ▸ i)).trans e) λj x f ex=>?_))));refine h j x (λc o a e=>?_) ex;simp only[Jn,Jq,JW,Zd]at a;exact f c o a.2.2.1 ((b.2 c a.1).trans e)
end
theorem rJ:typeLookup (.type "zip") "__len__" = pure none:=by rw[typeLookup_type,builtinLookup_eq_fast];kernel_rfl
theorem tH:typeLookup (.type "zip") "__length_hint__" = pure none:=by rw[typeLookup_type,builtinLookup_eq_fast];kernel_rfl
def ZSt (z TI TO i1 i2:Addr)(e d:Nat->Heap->Prop)(k:Nat)(acc:Array Value)(h:Heap):Prop :=
 IsPair h TI (.ref i1) (.ref i2)/\e k h/\d k h/\((k=0/\IsZip h z TI TO .none/\∃ a b,IsPair h TO a b)\/(1<=k/\∃ t c,acc[0]?=some (.ref t)/\IsZipN h z TI TO t c))
def Kept (a:List Addr)(c b:Nat->Value->Prop)(acc:Array Value)(h:Heap):Prop:=∀ j v,acc[j]?=some v->∃ t x y,v=.ref t/\t∉a/\IsPair h t x y/\c j x/\b j y
section
variable {prog:Program}{w:World}{A:Around}{E:Value->Shared->Prop}{s:Shared}{z TI TO i1 i2 L:Addr}{f1 f2:List Addr}{n n2 k:Nat}{P1 P2:Nat->Value->Prop}{S1 S2:Nat->Heap->Prop}
theorem cq {acc:Array Value}(S:Sep z TI TO i1 i2 f1 f2)(N:Draws prog w A.in1 i1 f1 n P1 S1)(M:Draws prog w A.in1 i2 f2 n2 P2 S2)(hle:n<=n2){Q:Option Value->Shared->Prop}(Z:ZSt z TI TO i1 i2 S1 S2 k acc s.heap)(K:Kept [z,TI,TO,i1,i2,L] P1 P2 acc s.heap)(ha:acc.size=k)(hL:L<s.heap.objs.size)(P:TO<s.heap.objs.size)(V:k<n)(h:∀ h' p x y,P1 k x->P2 k y->IsPair h' s.heap.objs.size x y->ZSt z TI TO i1 i2 S1 S2 (k+1) (acc.push (.ref s.heap.objs.size)) h'->Kept [z,TI,TO,i1,i2,L] P1 P2 (acc.push (.ref s.heap.objs.size)) h' ->
   (∀ c o,c∉[z,TO,i1,i2]->s.heap.get? c=some o->h'.get? c=some o)->Q (some (.ref s.heap.objs.size)) { s with heap:=h',toks:=p }):wpAny (model prog w) A (pyNext (.ref z)) Q E s:=by
 obtain⟨u,J,I,st⟩:=Z;have U:=S.all;simp only[JY,Jn,Jq,JW,Zd]at U;obtain⟨⟨R,zO,z1,z2⟩,⟨IO,Y,X⟩,⟨O1,O2⟩,ab,_⟩:=U;obtain⟨o1,e1⟩:=N.live _ _ J;obtain⟨o2,e2⟩:=M.live _ _ I
 have old:∀ h':Heap,(∀ c o,c∉[z,TO,i1,i2]->s.heap.get? c=some o->h'.get? c=some o)->∀ x y,IsPair h' s.heap.objs.size x y->P1 k x->P2 k y->(∃ T,s.heap.get? z=some T)->TO<s.heap.objs.size->Kept [z,TI,TO,i1,i2,L] P1 P2 (acc.push (.ref s.heap.objs.size)) h':=by
  intro h' f x y new px py ⟨T,ez⟩ lt j v r;by_cases q:j<acc.size
  ·rw[Array.getElem?_push_lt q]at r
   obtain⟨t,x',y',rfl,H,C,i,g⟩:=K j v ((getElem?_pos acc j q).trans r);refine⟨t,x',y',rfl,H,f t _ (λm=>H ?_) C,i,g⟩;simp only[Jn,Jq,JW]at m ⊢;rcases m with m|m|m|m<;>simp[m]
  ·have jl:j<(acc.push (.ref s.heap.objs.size)).size:=(JQ.mp r).1
   rw[Jt]at jl;obtain rfl:j=acc.size:=by lia
   rw[Array.getElem?_push_size]at r;obtain rfl:=Jv r;refine⟨_,x,y,rfl,λm=>?_,new,by rw[ha];exact px,by rw[ha];exact py⟩;simp only[Jn,Jq,JW]at m;have b1:=Jc ez;have b2:=Jc u;have b3:=Jc e1;have b4:=Jc e2;rcases m with m|m|m|m|m|m
   ·exact JV b1 m
   ·exact JV b2 m
   ·exact JV lt m
   ·exact JV b3 m
   ·exact JV b4 m
   ·exact JV hL m
 have first:∀ t,acc[0]?=some (Value.ref t)->(acc.push (.ref s.heap.objs.size))[0]?=some (Value.ref t):=λt e=>by
  have q:=(JQ.mp e).1;rw[Array.getElem?_push_lt q];exact(getElem?_pos acc 0 q).symm.trans e
 rcases st with ⟨rfl,l,a,b,W⟩|⟨k1,t,c,C,l⟩
 ·have d:s.TypeIs (.ref z) "zip":=⟨_,l,rfl⟩
  unfold pyNext
  refine J6 (ZY (wpAny_callSpecial?_slot (name:="__next__") d YD (YS YD d ZX (pH S N M l u W J I V (by lia)
   λx y h' p i g D Oh G F new f=>Jm ?_) (ZS _))))
  have B:acc = #[]:=Array.size_eq_zero_iff.mp ha;subst B;exact h h' p x y i g new ⟨f TI _ (by simp[Ne.symm R,IO,Y,X]) u,G,F,.inr ⟨by lia,s.heap.objs.size,false,rfl,D⟩⟩ (old h' f x y new i g ⟨_,l⟩ (Jc W)) f
 ·have d:s.TypeIs (.ref z) "zip":=⟨_,l,rfl⟩
  obtain⟨t',x0,y0,et,H,O,_,_⟩:=K 0 _ C;cases et;unfold pyNext
  refine J6 (ZY (wpAny_callSpecial?_slot (name:="__next__") d YD (YS YD d ZX (kP S N M l O u J I V (by lia)
   λx y h' p i g D G F new f=>Jm ?_) (ZS _))))
  exact h h' p x y i g new ⟨f TI _ (by simp[Ne.symm R,IO,Y,X]) u,G,F,.inr ⟨by lia,t,true,first t C,D⟩⟩ (old h' f x y new i g ⟨_,l⟩ P) f
theorem fw {acc:Array Value}(S:Sep z TI TO i1 i2 f1 f2)(l:Draws prog w A.in1 i1 f1 n P1 S1){Q:Option Value->Shared->Prop}(Z:ZSt z TI TO i1 i2 S1 S2 n acc s.heap)(K:Kept [z,TI,TO,i1,i2,L] P1 P2 acc s.heap)(h:∀ h',(∀ c o,c∉[z,TO,i1,i2]->s.heap.get? c=some o->h'.get? c=some o)->Q none { s with heap:=h' }):wpAny (model prog w) A (pyNext (.ref z)) Q E s:=by
 obtain⟨j,k,C,st⟩:=Z;rcases st with ⟨rfl,e,a,b,B⟩|⟨y,t,c,m,e⟩
 ·have d:s.TypeIs (.ref z) "zip":=⟨_,e,rfl⟩
  unfold pyNext;refine J6 (ZY (wpAny_callSpecial?_slot (name:="__next__") d YD (YS YD d ZX (pG S l e j k λh' x f ⟨o,g,co⟩=>?_) (ZS _))));exact J6 (wpAny_isInstance (T:="StopIteration") (b:=true) ⟨o,g,co⟩ isSubtype_stop (Jm (h h' f)))
 ·have d:s.TypeIs (.ref z) "zip":=⟨_,e,rfl⟩
  obtain⟨u,r,q,p,v,i,_,_⟩:=K 0 _ m;cases p;unfold pyNext;refine J6 (ZY (wpAny_callSpecial?_slot (name:="__next__") d YD (YS YD d ZX (rH S l e i j k λh' x f ⟨o,g,co⟩=>?_) (ZS _))));exact J6 (wpAny_isInstance (T:="StopIteration") (b:=true) ⟨o,g,co⟩ isSubtype_stop (Jm (h h' f)))
theorem li {res:Value}{R:Result->Shared->Prop}{J:Array Value->Shared->Prop}(S:Sep z TI TO i1 i2 f1 f2)(O:Draws prog w A.in1.in1 i1 f1 n P1 S1)(D2:Draws prog w A.in1.in1 i2 f2 n2 P2 S2)(hle:n<=n2)(V:L∉[z,TI,TO,i1,i2]++f1++f2)(hn:n<=sizeLine)(jn:∀ (acc:Array Value) (s:Shared) (h':Heap) g x y,J acc s->L<s.heap.objs.size->P1 acc.size x->P2 acc.size y->IsPair h' s.heap.objs.size x y->(∀ c o,c∉[z,TO,i1,i2]->s.heap.get? c=some o->h'.get? c=some o)->J (acc.push (.ref s.heap.objs.size)) { s with heap:=h',toks:=g })(W:∀ (acc:Array Value) (s:Shared) (h':Heap) g,J acc s->(∀ c o,c∉[z,TO,i1,i2,L]->s.heap.get? c=some o->h'.get? c=some o)->J acc { s with heap:=h',toks:=g }) :
  ∀ (m k:Nat) (s:Shared) (acc:Array Value) (c:Nat),k+m=n->acc.size=k->ZSt z TI TO i1 i2 S1 S2 k acc s.heap->Kept [z,TI,TO,i1,i2,L] P1 P2 acc s.heap->s.heap.get? L=some { cls:=.type "list",dict:=none,data:=.seq acc c,slots:=#[] }->TO<s.heap.objs.size->J acc s ->
   (∀ h' g a u,a.size=n->J a { s with heap:=h',toks:=g }->Kept [z,TI,TO,i1,i2,L] P1 P2 a h'->h'.get? L=some { cls:=.type "list",dict:=none,data:=.seq a u,slots:=#[] }->(∀ b o,b∉[z,TO,i1,i2,L]->s.heap.get? b=some o->h'.get? b=some o)->R (.ok (.ret res)) { s with heap:=h',toks:=g }) ->
   codeAny (model prog w) A (.builtin "list.extend.loop" ⟨[.ref L,.ref z,res],[]⟩) R s:=by
 simp only[Jz,Jn,Jq,JW,Zd]at V;obtain⟨⟨⟨N,LI,Y,L1,L2⟩,U⟩,T⟩:=V;intro m
 induction m with
 | zero =>
  intro k s acc c km i Z K C l G fin;obtain rfl:k=n:=by omega
  refine YQ F.entry_extend_loop (by
   refine YM W9 _ ▸ (show wpAny _ A.in1 (pyNext (.ref z) >>= _) _ _ _ from J6 (fw S O Z K λh' h=>?_));refine Jm (fin h' s.toks acc c i (W acc s h' s.toks G λc o I e=>h c o (λm=>I (by simp only[Jn,Jq,JW]at m ⊢;rcases m with m|m|m|m<;>simp[m])) e) (λj v H=>?_) (h L _ (by simp[N,Y,L1,L2]) C) λb o f e=>h b o (λm=>f ?_) e)
   ·obtain⟨t,x,y,rfl,p,r,E,D⟩:=K j v H
    refine⟨t,x,y,rfl,p,h t _ (λm=>p ?_) r,E,D⟩;simp only[Jn,Jq,JW]at m ⊢;rcases m with m|m|m|m<;>simp[m]
   ·simp only[Jn,Jq,JW]at m ⊢
    rcases m with m|m|m|m<;>simp[m])
 | succ m ih =>
  intro k s acc c km i Z K C l G fin;have X:=Jc C
  refine YQ F.entry_extend_loop (by
   refine YM W9 _ ▸ (show wpAny _ A.in1 (pyNext (.ref z) >>= _) _ _ _ from J6 (cq (L:=L) S O D2 hle Z K i X l (by lia) λM g x y px py new Z1 K1 h=>?_));have B:=h L _ (by simp[N,Y,L1,L2]) C;show wpAny _ A.in1 (updateSeq L (·.push (.ref s.heap.objs.size)) >>= _) _ _ _;refine J6 (ZZ B rfl ?_ (hz:=by rw[i];lia) (_hz':=by rw[Jt,i];lia));have d:∀ b o,b≠L->M.get? b=some o->(M.update L (Obj.mapSeq (·.push (.ref s.heap.objs.size)))).get? b=some o:=λb o f e=>(Yp _ _ (Ne.symm f)).trans e;obtain⟨hI,d1,d2,st⟩:=Z1;have Q:=YZ (Obj.mapSeq (·.push (.ref s.heap.objs.size))) B rfl;refine Jm ⟨Wm W9 _,ih (k+1) _ (acc.push (.ref s.heap.objs.size)) _ (by lia) (by rw[Jt,i]) ⟨d _ _ (Ne.symm LI) hI,O.frame _ _ _ d1 λb f o e=>d b o (λq=>U (q ▸ f)) e,D2.frame _ _ _ d2 λb f o e=>d b o (λq=>T (q ▸ f)) e,?_⟩ (λj v H=>?_) Q ?_ (W _ _ _ g (jn acc s M g x y G X (by rw[i];exact px) (by rw[i];exact py) new h) λc o I e=>d c o (λq=>I (by simp[q])) e) λh' P a u a1 j1 a2 a3 a4=>fin h' P a u a1 j1 a2 a3 λb o f e=>a4 b o f ?_⟩
   ·rcases st with ⟨q,_⟩|⟨q,t,u,e,hz⟩
    ·simp_all
    ·exact .inr ⟨q,t,u,e,d _ _ (Ne.symm N) hz⟩
   ·obtain⟨t,x,y,rfl,p,r,E,D⟩:=K1 j v H
    exact⟨t,x,y,rfl,p,d t _ (λq=>p (by simp[q])) r,E,D⟩
   ·rw[ZU]
    obtain⟨t,x,y,e,_,r,_,_⟩:=K1 acc.size _ Array.getElem?_push_size;cases e;exact Zb l (Jc r)
   ·simp only[Jn,Jq,JW,Zd]at f
    exact d b o f.2.2.2.2 (h b o (by simp[f]) e))
theorem mZ {Q:List Value->Shared->Prop}{J:Array Value->Shared->Prop}(S:Sep z TI TO i1 i2 f1 f2)(t:Draws prog w A.in1.in1 i1 f1 n P1 S1)(r:Draws prog w A.in1.in1 i2 f2 n2 P2 S2)(hle:n<=n2)(hz:IsZip s.heap z TI TO .none)(B:IsPair s.heap TI (.ref i1) (.ref i2)){a b:Value}(q:IsPair s.heap TO a b)(d1:S1 0 s.heap)(d2:S2 0 s.heap)(low:∀ c∈f1++f2,c<s.heap.objs.size)(hn:n<=sizeLine)(H:∀ (acc:Array Value) (f:Shared) (h':Heap) g x y,J acc f->s.heap.objs.size<f.heap.objs.size->P1 acc.size x->P2 acc.size y->IsPair h' f.heap.objs.size x y->(∀ c o,c∉[z,TO,i1,i2]->f.heap.get? c=some o->h'.get? c=some o)->J (acc.push (.ref f.heap.objs.size)) { f with heap:=h',toks:=g })(u:∀ (acc:Array Value) (f:Shared) (h':Heap) g,J acc f->(∀ c o,c∉[z,TO,i1,i2,s.heap.objs.size]->f.heap.get? c=some o->h'.get? c=some o)->J acc { f with heap:=h',toks:=g })(K:J #[] s)(h:∀ h' g (acc:Array Value),acc.size=n->J acc { s with heap:=h',toks:=g }->Kept [z,TI,TO,i1,i2,s.heap.objs.size] P1 P2 acc h'->(∀ b o,b∉[z,TO,i1,i2]->s.heap.get? b=some o->h'.get? b=some o)->s.heap.objs.size<h'.objs.size->Q acc.toList { s with heap:=h',toks:=g }):wpAny (model prog w) A (collect (.ref z)) Q E s:=by
 obtain⟨U,N⟩:=t.live _ _ d1;obtain⟨T,e2⟩:=r.live _ _ d2
 have D:s.heap.objs.size∉[z,TI,TO,i1,i2]++f1++f2:=λm=>by
  simp only[Jz,Jn,Jq,JW]at m;rcases m with ((m|m|m|m|m)|m)|m
  ·exact JV (Jc hz) m
  ·exact JV (Jc B) m
  ·exact JV (Jc q) m
  ·exact JV (Jc N) m
  ·exact JV (Jc e2) m
  ·exact YK _ (low _ (Z5 _ m))
  ·exact YK _ (low _ (JJ _ m))
 have p:∀ c o,s.heap.get? c=some o->(s.heap.push (seqObj "list" #[] 0)).get? c=some o:=λc o e=>J8 _ e;have k:Shared.TypeIs ({ s with heap:=s.heap.push (seqObj "list" #[] 0) }:Shared) (.ref z) "zip":=⟨_,p _ _ hz,rfl⟩;have new:(s.heap.push (seqObj "list" #[] 0)).get? s.heap.objs.size=some (seqObj "list" #[] 0):=Jw _ rfl;unfold collect;refine J6 (wpAny_runValue (YQ entry_proto_collect' (YM F.plain_proto_collect _ ▸ (J6 (wpAny_newList (Jm ⟨Code.quiet_builtin _ (by decide +kernel),YQ entry_list_iadd' (YM F.plain_list_iadd _ ▸ ?_)⟩))))));show wpAny _ A.in1 (Builtin.List.listExtendWith (.ref s.heap.objs.size) (.ref z) (.ref s.heap.objs.size)) _ _ ({ s with heap:=s.heap.push (seqObj "list" #[] 0) }:Shared);unfold Builtin.List.listExtendWith;refine J6 (wpAny_typeOf k ?_)
 have no:(Builtin.List.listSameRef (.ref s.heap.objs.size) (.ref z) || Value.type "zip" == Value.type "list" || Value.type "zip" == Value.type "tuple")=false:=by
  have:Builtin.List.listSameRef (.ref s.heap.objs.size) (.ref z)=false:=by simp[Builtin.List.listSameRef,JV (Jc hz)]
  rw[this];decide
 rw[no,Ja Jp];refine J6 (wpAny_pyIter_zip (p _ _ hz) (J6 (Yx ?_)));unfold Builtin.List.listLengthHint;refine J6 (wpAny_specialOf k rJ ?_);show wpAny _ A.in1 (specialOf (Value.ref z) (Str.ofString "__length_hint__") >>= _) _ _ _;refine J6 (wpAny_specialOf k tH (Jm ?_));refine J6 (Zq (J6 ?_));unfold Builtin.List.listTouch Builtin.List.listUpdate;refine J6 (ZZ new rfl ?_);have n2:=YZ (Obj.mapSeq (·.push Value.none)) new rfl;refine ZZ n2 rfl ?_;have G:=YZ (Obj.mapSeq (·.pop)) n2 rfl
 have d:∀ b o,s.heap.get? b=some o->(((s.heap.push (seqObj "list" #[] 0)).update s.heap.objs.size (Obj.mapSeq (·.push Value.none))).update s.heap.objs.size (Obj.mapSeq (·.pop))).get? b=some o :=
  λb o e=>by
   have i:=JV (Jc e);exact(Yp _ _ i).trans ((Yp _ _ i).trans (p b o e))
 refine Jm ⟨Wm W9 _,li (J:=J) (L:=s.heap.objs.size) S t r hle D hn H u n 0 _ #[] _ (by lia) rfl ⟨d _ _ B,t.frame _ _ _ d1 λb _ o e=>d b o e,r.frame _ _ _ d2 λb _ o e=>d b o e,.inl ⟨rfl,d _ _ hz,_,_,d _ _ q⟩⟩ (λj v M=>by simp at M) G ?_ (u #[] s _ s.toks K λc o _ e=>d c o e) λh' g l V R I P C O=>?_⟩
 ·rw[ZU,ZU,size_push']
  exact Nat.lt_succ_of_lt (Jc q)
 ·refine J6 (wpAny_load C (Jm (h h' g l R I P (λb o i e=>O b o (λm=>?_) (d b o e)) (Jc C))))
  simp only[Jn,Jq,JW]at m i;rcases m with m|m|m|m|m
  ·exact i (.inl m)
  ·exact i (.inr (.inl m))
  ·exact i (.inr (.inr (.inl m)))
  ·exact i (.inr (.inr (.inr m)))
  ·exact JV (Jc e) m.symm
theorem jy {res:Value}{R:Result->Shared->Prop}{J:Array Value->Shared->Prop}{P:Nat}(S:Sep z TI TO i1 i2 f1 f2) (G:Draws prog w A.in1.in1 i1 f1 n P1 S1) (F:Draws prog w A.in1.in1 i2 f2 n2 P2 S2) (hle:n<=n2) (hz:IsZip s.heap z TI TO .none) (O:IsPair s.heap TI (.ref i1) (.ref i2)) {a b:Value}(D:IsPair s.heap TO a b) (d1:S1 0 s.heap) (d2:S2 0 s.heap)
  (E:s.heap.get? L=some (seqObj "list" #[] P)) (p:L∉[z,TI,TO,i1,i2]++f1++f2) (hn:n<=sizeLine)
  (I:∀ (acc:Array Value) (g:Shared) (h':Heap) k x y,J acc g->L<g.heap.objs.size->P1 acc.size x->P2 acc.size y->IsPair h' g.heap.objs.size x y->(∀ c o,c∉[z,TO,i1,i2]->g.heap.get? c=some o->h'.get? c=some o)->J (acc.push (.ref g.heap.objs.size)) { g with heap:=h',toks:=k })
  (C:∀ (acc:Array Value) (g:Shared) (h':Heap) k,J acc g->(∀ c o,c∉[z,TO,i1,i2,L]->g.heap.get? c=some o->h'.get? c=some o)->J acc { g with heap:=h',toks:=k })
  (M:J #[] s)
  (h:∀ h' k d m,d.size=n->J d { s with heap:=h',toks:=k }->Kept [z,TI,TO,i1,i2,L] P1 P2 d h'->h'.get? L=some (seqObj "list" d m)->R (.ok (.ret res)) { s with heap:=h',toks:=k }) :
  wpAny (model prog w) A.in1 (Builtin.List.listExtendWith (.ref L) (.ref z) res) (λfin g=>match fin with|.done f=>R (.ok f) g|.again m=>m.quiet=true/\codeAny (model prog w) A m R g) (λe g=>R (.error e) g) s:=by
 have V:L≠z:=λq=>p (by simp[q]);have l:s.TypeIs (.ref z) "zip":=⟨_,hz,rfl⟩;unfold Builtin.List.listExtendWith;refine J6 (wpAny_typeOf l ?_)
 have no:(Builtin.List.listSameRef (.ref L) (.ref z) || Value.type "zip" == Value.type "list" || Value.type "zip" == Value.type "tuple")=false:=by
  have:Builtin.List.listSameRef (.ref L) (.ref z)=false:=by simp[Builtin.List.listSameRef,V]
  rw[this];decide
 rw[no,Ja Jp];refine J6 (wpAny_pyIter_zip hz (J6 (Yx ?_)));unfold Builtin.List.listLengthHint;refine J6 (wpAny_specialOf l rJ ?_);show wpAny _ A.in1 (specialOf (Value.ref z) (Str.ofString "__length_hint__") >>= _) _ _ _;refine J6 (wpAny_specialOf l tH (Jm ?_));refine J6 (Zq (J6 ?_));unfold Builtin.List.listTouch Builtin.List.listUpdate;refine J6 (ZZ E rfl ?_);have B:=YZ (Obj.mapSeq (·.push Value.none)) E rfl;refine ZZ B rfl ?_;have H:=YZ (Obj.mapSeq (·.pop)) B rfl
 have i:∀ b o,b≠L->s.heap.get? b=some o->((s.heap.update L (Obj.mapSeq (·.push Value.none))).update L (Obj.mapSeq (·.pop))).get? b=some o :=
  λ_ _ away u=>(Yp _ _ (Ne.symm away)).trans ((Yp _ _ (Ne.symm away)).trans u)
 have ne:=λc (r:c∈[z,TI,TO,i1,i2]++f1++f2)=>(λq=>p (q ▸ r):c≠L);refine Jm ⟨Wm W9 _,li (J:=J) (L:=L) S G F hle p hn I C n 0 _ #[] _ (by lia) rfl ⟨i _ _ (ne TI (by simp)) O,G.frame _ _ _ d1 λb t o e=>i b o (ne b (by simp[t])) e,F.frame _ _ _ d2 λb t o e=>i b o (ne b (by simp[t])) e,.inl ⟨rfl,i _ _ (ne z (by simp)) hz,_,_,i _ _ (ne TO (by simp)) D⟩⟩ (λj v N=>by simp at N) H ?_ (C #[] s _ s.toks M λc o r e=>i c o (λq=>r (by simp[q])) e) λh' k d m U K T Q W=>h h' k d m U K T Q⟩;rw[ZU,ZU];exact Jc D
theorem gQ {Q:Value->Shared->Prop}{J:Array Value->Shared->Prop}(S:Sep z TI TO i1 i2 f1 f2) (k:Draws prog w A.in1.in1.in1 i1 f1 n P1 S1) (j:Draws prog w A.in1.in1.in1 i2 f2 n2 P2 S2) (hle:n<=n2) (hz:IsZip s.heap z TI TO .none) (r:IsPair s.heap TI (.ref i1) (.ref i2)) {a b:Value}(q:IsPair s.heap TO a b) (d1:S1 0 s.heap) (d2:S2 0 s.heap)
  (low:∀ c∈f1++f2,c<s.heap.objs.size) (hn:n<=sizeLine)
  (B:∀ (acc:Array Value) (f:Shared) (h':Heap) g x y,J acc f->s.heap.objs.size<f.heap.objs.size->P1 acc.size x->P2 acc.size y->IsPair h' f.heap.objs.size x y->(∀ c o,c∉[z,TO,i1,i2]->f.heap.get? c=some o->h'.get? c=some o)->J (acc.push (.ref f.heap.objs.size)) { f with heap:=h',toks:=g })
  (p:∀ (acc:Array Value) (f:Shared) (h':Heap) g,J acc f->(∀ c o,c∉[z,TO,i1,i2,s.heap.objs.size]->f.heap.get? c=some o->h'.get? c=some o)->J acc { f with heap:=h',toks:=g })
  (D:J #[] s)
  (h:∀ h' g d i,d.size=n->J d { s with heap:=h',toks:=g }->Kept [z,TI,TO,i1,i2,s.heap.objs.size] P1 P2 d h'->h'.get? s.heap.objs.size=some (seqObj "list" d i)->Q (.ref s.heap.objs.size) { s with heap:=h',toks:=g }):wpAny (model prog w) A (call (.type "list") [.ref z]) Q E s:=by
 obtain⟨O,H⟩:=k.live _ _ d1;obtain⟨N,e2⟩:=j.live _ _ d2
 have u:s.heap.objs.size∉[z,TI,TO,i1,i2]++f1++f2:=λm=>by
  simp only[Jz,Jn,Jq,JW]at m;rcases m with ((m|m|m|m|m)|m)|m
  ·exact JV (Jc hz) m
  ·exact JV (Jc r) m
  ·exact JV (Jc q) m
  ·exact JV (Jc H) m
  ·exact JV (Jc e2) m
  ·exact YK _ (low _ (Z5 _ m))
  ·exact YK _ (low _ (JJ _ m))
 refine callType_codes (Q₁:=λobj t=>obj=.ref s.heap.objs.size/\t={ s with heap:=s.heap.push (seqObj "list" #[] 0) }) F.called_list (F.typeCall_list_1 _) F.entry_list_init (code_list_new _ ⟨rfl,rfl⟩) λobj t G=>?_;obtain⟨rfl,rfl⟩:=G;have new:(s.heap.push (seqObj "list" #[] 0)).get? s.heap.objs.size=some (seqObj "list" #[] 0):=Jw _ rfl;have old:∀ c o,s.heap.get? c=some o->((s.heap.push (seqObj "list" #[] 0)).update s.heap.objs.size (Obj.mapSeq (λ_=>(#[]:Array Value)))).get? c=some o:=λc o e=>(Yp _ _ (JV (Jc e))).trans (J8 _ e);have v:=YZ (Obj.mapSeq (λ_=>(#[]:Array Value))) new rfl;refine⟨⟨_,new,rfl⟩,F.args_list_init_2 _ _,?_⟩;show wpAny _ _ (do let l <- Builtin.List.listItems (.ref s.heap.objs.size);Builtin.List.listUpdate (.ref s.heap.objs.size) (λ_=>#[]);letGo l.toList.reverse;Builtin.List.listExtendWith (.ref s.heap.objs.size) (.ref z) .none) _ _ _;refine J6 (m:=Builtin.List.listItems _) ?_;unfold Builtin.List.listItems;refine J6 (Yf new rfl (Jm ?_));refine J6 (m:=updateSeq _ _) (ZZ new rfl (J6 (wpAny_letGo ?_)));refine jy (A:=A.in1) (J:=J) (L:=s.heap.objs.size) S k j hle (old _ _ hz) (old _ _ r) (old _ _ q) (k.frame _ _ _ d1 λc _ o e=>old c o e) (j.frame _ _ _ d2 λc _ o e=>old c o e) v u hn B p (p #[] s _ s.toks D λc o _ e=>old c o e) λh' g d i M C K I=>?_;exact⟨rfl,h h' g d i M C K I⟩
end
end Own
namespace Own
open PySem PySem.Spec PyProof.Rows Ts
section
variable {prog:Program}{w:World}{A:Around}{E:Value->Shared->Prop}{s:Shared}
theorem lE {x:Value}{Q:Value->Shared->Prop}
  (h:wpAny (model prog w) A.in1 (collect x) (λvs s1=>∃ (κ:SortKind) (a:Value->Int),vs.length<=10000 /\
   (∀ h':Heap,(∀ c o,s1.heap.get? c=some o->h'.get? c=some o)->2<=vs.length->∀ (b:Around) {Q:SortKind->Shared->Prop}{E:Value->Shared->Prop},Q κ { s1 with heap:=h' }->wpAny (model prog w) b (keyKind' vs.toArray) Q E { s1 with heap:=h' }) /\
   (∀ h':Heap,(∀ c o,s1.heap.get? c=some o->h'.get? c=some o)->∀ (b:Around),b.units<=A.units+8->Cmp prog w b { s1 with heap:=h' } κ (λp=>p.1∈vs) (λp=>a p.1)) /\
   ∀ (h':Heap) (l:Addr) (e:Nat) (out:List Value),s1.heap.objs.size<=l->h'.get? l=some (seqObj "list" out.toArray e)->out.Perm vs->out.Pairwise (λx y=>a x<=a y)->(∀ c o,s1.heap.get? c=some o->h'.get? c=some o)->Q (.ref l) { s1 with heap:=h' }) E s) :
  wpAny (model prog w) A (call (.builtin "sorted") [x]) Q E s:=by
 refine Calls.call_function_entry kind_sorted plain_sorted entry_sorted (args_sorted1 _) ?_;unfold Builtin.«sorted»;refine J6 (m:=checkCount "sorted" 1 1 _) (Jm (J6 (JU h (λvs s1 z=>?_) λ_ _ e=>e)));obtain⟨κ,a,d,n,t,fin⟩:=z;have f:vs.length<=sizeLine:=JM d (by decide);refine J6 (wpAny_newList ?_ (hsz:=f));have new:(s1.heap.push (seqObj "list" vs.toArray 0)).get? s1.heap.objs.size=some (seqObj "list" vs.toArray 0):=Jw _ rfl;have up:∀ h':Heap,(∀ c o,c≠s1.heap.objs.size->(s1.heap.push (seqObj "list" vs.toArray 0)).get? c=some o->h'.get? c=some o)->∀ c o,s1.heap.get? c=some o->h'.get? c=some o:=λh' k c o e=>k c o (JH (Jc e)) (J8 _ e);refine J6 (Yx (YS slot_list_sort ⟨_,new,rfl⟩ entry_list_sort (ko new d κ a (λh' k j=>n h' (up h' k) j _) (λh' k=>t h' (up h' k) _ ?_) λout i g=>⟨_,rfl,?_⟩) (args_list_sort _)))
 ·show A.units+1+1<=A.units+8
  lia
 obtain⟨e,r⟩:=sortedHeap_at (out:=out.toArray) new;refine Jm ⟨_,rfl,fin _ _ e out (Jf _) r i g λc o q=>?_⟩;have lt:=Jc q;rw[sortedHeap_old (JH lt) (by rw[size_push'];exact Nat.lt_succ_of_lt lt)];exact J8 _ q
end
end Own
namespace L2
open PySem PySem.Spec PyProof.Rows Own Ts
inductive Lx (H:Hp):Nat->V->V->Ordering->Prop where
 | int (n:Nat) (i j:Int):Lx H n (.int i) (.int j) (compare i j)
 | row {n:Nat}{a b:Addr}{xs ys:List V}{cs:List Ordering}(ha:H a=some (.tup xs)) (hb:H b=some (.tup ys)) (l1:xs.length=cs.length) (l2:ys.length=cs.length) (h:∀ (i:Nat) u v c,xs[i]?=some u->ys[i]?=some v->cs[i]?=some c->Lx H n u v c) :
   Lx H (n+1) (.ref a) (.ref b) (cs.foldr Ordering.then .eq)
theorem Lx.pair {H:Hp}{n:Nat}{a b:Addr}{l k j h:V}{f d:Ordering}(ha:H a=some (.tup [l,k]))(hb:H b=some (.tup [j,h]))(q:Lx H n l j f)(p:Lx H n k h d):Lx H (n+1) (.ref a) (.ref b) (f.then d):=by
 have e:f.then d=[f,d].foldr Ordering.then .eq:=by cases f<;>cases d<;>rfl
 rw[e];refine .row ha hb rfl rfl λi u v c g m o=>?_;rcases i with _|_|i
 ·cases g;cases m;cases o;exact q
 ·cases g;cases m;cases o;exact p
 ·simp at g
theorem uv:∀ {cs:List Ordering},cs.foldr Ordering.then .eq=.eq↔∀ c∈cs,c=.eq
 | []=>by simp
 | c::cs=>by
  rw[List.foldr_cons];constructor
  ·intro h
   cases c<;>simp[Ordering.then]at h;intro d hd;rcases Jn.mp hd with rfl|a
   ·rfl
   ·exact uv.mp h d a
  ·intro h
   rw[h c Ju];exact uv.mpr λd hd=>h d (Jr _ hd)
theorem r8:∀ {cs:List Ordering},cs.foldr Ordering.then .eq≠.eq->∃ (k:Nat) (c:Ordering),cs[k]?=some c/\c≠.eq/\cs.foldr Ordering.then .eq=c/\∀ j:Nat,j<k->cs[j]?=some Ordering.eq
 | [],h=>absurd rfl h
 | c::cs,h=>by
  by_cases z:c=.eq
  ·subst z
   have e:(Ordering.eq::cs).foldr Ordering.then .eq=cs.foldr Ordering.then .eq:=rfl;rw[e]at h ⊢;obtain⟨k,d,i,g,f,b⟩:=r8 h;refine⟨k+1,d,by simpa using i,g,f,λj a=>?_⟩
   cases j with
   | zero=>rfl
   | succ j=>simpa using b j (by simp_all)
  ·refine⟨0,c,rfl,z,?_,λj a=>by simp_all⟩
   rw[List.foldr_cons];cases c<;>first|rfl|exact absurd rfl z
section
variable {X:Cx}
theorem vi (i j:Int):(compare i j == .eq)=decide (i=j)/\(compare i j == .lt)=decide (i<j):=by
 rw[show compare i j=compareOfLessAndEq i j from rfl];unfold compareOfLessAndEq;by_cases b:i<j
 ·rw[Jb b,JA b,Js (by lia)];exact⟨rfl,rfl⟩
 ·rw[Ja b,Js b]
  by_cases a:i=j
  ·rw[Jb a,JA a];exact⟨rfl,rfl⟩
  ·rw[Ja a,Js a];exact⟨rfl,rfl⟩
theorem Lx.refl {H:Hp}{n:Nat}{x y:V}{c:Ordering}(h:Lx H n x y c):x=y->c=.eq:=by
 induction h with
 | int n i j =>
  intro e;cases e;have:=(vi i i).1;rw[JA rfl]at this
  simpa using this
 | @row n a b m l cs k f p o h ih =>
  intro e;cases e;rw[k]at f;cases f;refine uv.mpr λc g=>?_;obtain⟨i,d⟩:=Ys.mp g;have q:=(J9.mp d).1;exact ih i _ _ c (J0 (by simp_all)) (J0 (by simp_all)) d rfl
theorem gM {pins:List (Addr × Obj)}{σ:St}{H:Hp}{s:Shared}(I:Inv X pins σ H s){n:Nat}{x y:V}{c:Ordering}(h:Lx H n x y c):∀ (A:Around) (u v:Value),A.units+n<cLine->RelV x u->RelV y v->SeqAt.EqAt A s u v (c == .eq):=by
 induction h with
 | int n i j =>
  intro A u v _ p o;have:=pA (A:=A) (s:=s) (x:=.int j) (y:=.int i) p o rfl rfl;rw[(vi i j).1]
  have e:eqV (.int i) (.int j)=decide (i=j):=by
   show (i == j)=decide (i=j);by_cases z:i=j<;>simp[z]
  rwa [e]at this
 | @row n a b Q P cs F E B w h ih =>
  intro A u v hu p o;cases p;cases o;by_cases M:a=b
  ·subst M
   have:cs.foldr Ordering.then .eq=.eq:=Lx.refl (.row F E B w h) rfl;rw[this];exact SeqAt.EqAt.same _
  ·obtain⟨g,K,Y,_⟩:=I.tuple (SqT.of F)
   obtain⟨f,J,W,_⟩:=I.tuple (SqT.of E);have r:=K.length;have q:=J.length;refine SeqAt.EqAt.of_refs M ?_
   have e:((List.range (min g.toArray.size f.toArray.size)).all (λj=>(cs.getD j .eq) == .eq) && g.toArray.size == f.toArray.size)=(cs.foldr Ordering.then .eq == .eq):=by
    rw[Jd,Jd,<- r,<- q,B,w,beq_self_eq_true,Bool.and_true,Nat.min_self];by_cases z:cs.foldr Ordering.then .eq=.eq
    ·rw[z]
     refine(YE.mpr λj hj=>?_).trans rfl;have D:=JC.mp hj;rw[J7,J0 D,Option.getD_some,uv.mp z _ (Yb D)];rfl
    ·obtain⟨k,d,G,h2,h3,_⟩:=r8 z
     have Z:=(J9.mp G).1;rw[h3];have L:(d == Ordering.eq)=false:=by simpa using h2
     rw[L];refine Bool.eq_false_iff.mpr λt=>?_;have:=YE.mp t k (JC.mpr Z);rw[J7,G,Option.getD_some,L]at this;cases this
   have:=SeqAt.RcAt.tuples (e:=λj=>(cs.getD j .eq) == .eq) Y W (A:=A) (s:=s) (by lia) (λj k1 k2=>?_)
   ·rwa [e]at this
   ·have m:j<Q.length:=by simpa [r] using k1
    have l:j<P.length:=by simpa [q] using k2
    obtain⟨S,e1,U⟩:=K.get (J0 m);obtain⟨R,e2,T⟩:=J.get (J0 l);have O:g.toArray[j]=S:=by simpa using (J9.mp e1).2
    have N:f.toArray[j]=R:=by simpa using (J9.mp e2).2
    have C:j<cs.length:=by lia
    rw[O,N,J7,J0 C,Option.getD_some];exact ih j _ _ _ (J0 m) (J0 l) (J0 C) A.in1 _ _ (by show A.units+1+n<cLine;lia) U T
theorem zab {pins:List (Addr × Obj)}{σ:St}{H:Hp}{s:Shared}(I:Inv X pins σ H s){n:Nat}{x y:V}{c:Ordering}(h:Lx H n x y c):c≠.eq->∀ (A:Around) (u v:Value),A.units+n<cLine->RelV x u->RelV y v->LtAt A s u v (c == .lt):=by
 induction h with
 | int n i j =>
  intro _ A u v _ ⟨P,C⟩ ⟨O,e2⟩;subst C e2;rw[(vi i j).2]
  exact LtAt.ints i j P O
 | @row n a b z w cs ha Z l1 l2 h ih =>
  intro ne A u v hu l g;cases l;cases g;obtain⟨f,F,T,_⟩:=I.tuple (SqT.of ha);obtain⟨e,E,S,_⟩:=I.tuple (SqT.of Z);have W:=F.length;have U:=E.length;obtain⟨k,d,B,D,h3,h4⟩:=r8 ne;have kl:=(J9.mp B).1
  have at_:∀ j (t:j<f.toArray.size) (r:j<e.toArray.size),∃ (o:j<z.length) (m:j<w.length),RelV z[j] f.toArray[j]/\RelV w[j] e.toArray[j]:=λj t r=>by
   have q:j<z.length:=by simpa [W] using t
   have p:j<w.length:=by simpa [U] using r
   obtain⟨N,C,R⟩:=F.get (J0 q);obtain⟨M,e2,Q⟩:=E.get (J0 p);have L:f.toArray[j]=N:=by simpa using (J9.mp C).2
   have K:e.toArray[j]=M:=by simpa using (J9.mp e2).2
   rw[L,K];exact⟨q,p,R,Q⟩
  rw[h3];have J:k<f.toArray.size:=by rw[Jd];simp_all
  have G:k<e.toArray.size:=by rw[Jd];simp_all
  obtain⟨o,m,l,g⟩:=at_ k J G;refine LtAt.tuples (k:=k) T S (by lia) J G (λj t r Y=>?_) ?_ ?_
  ·obtain⟨o,m,l,g⟩:=at_ j t r
   exact gM I (h j _ _ _ (J0 o) (J0 m) (h4 j Y)) A.in1 _ _ (by show A.units+1+n<cLine;lia) l g
  ·have:=gM I (h k _ _ _ (J0 o) (J0 m) B) A.in1 _ _ (by show A.units+1+n<cLine;lia) l g
   rwa [show (d == Ordering.eq)=false from by simpa using D]at this
  ·exact ih k _ _ _ (J0 o) (J0 m) B D A.in1 _ _ (by show A.units+1+n<cLine;lia) l g
end
def Rk (H:Hp)(xs:List V)(rk:V->Int):Prop:=(∀ x∈xs,∃ i,x=.int i/\rk x=i)\/∃ n,n<=20/\∀ x∈xs,(∃ a f r,x=.ref a/\H a=some (.tup (.int f::r)))/\∀ y∈xs,Lx H n x y (compare (rk x) (rk y))
def vOf:Value->V
 | .int i _=>.int i
 | .ref a=>.ref a
 | _=>.non
theorem uu:∀ {xs:List V}{us:List Value},Vals xs us->(∀ x∈xs,(∃ i,x=.int i)\/∃ a,x=.ref a)->xs=us.map vOf/\∀ u∈us,RelV (vOf u) u
 | _,_,.nil,_=>⟨rfl,λu g=>by simp at g⟩
 | x::xs,u::us,.cons r rs,h=>by
  obtain⟨e,f⟩:=uu rs λy c=>h y (Jr _ c)
  have one:vOf u=x/\RelV (vOf u) u:=by
   rcases h x Ju with ⟨i,rfl⟩|⟨a,rfl⟩
   ·obtain⟨t,rfl⟩:=r;exact⟨rfl,t,rfl⟩
   ·cases r;exact⟨rfl,rfl⟩
  refine⟨by rw[Y5,one.1,<- e],λv d=>?_⟩;rcases Jn.mp d with rfl|b
  ·exact one.2
  ·exact f v b
theorem uI:∀ {us:List Value},(∀ u∈us,RelV (vOf u) u)->Vals (us.map vOf) us
 | [],_=>.nil
 | u::us,h=>.cons (h u Ju) (uI λv a=>h v (Jr _ a))
theorem Rk.kinds {H:Hp}{xs:List V}{rk:V->Int}(h:Rk H xs rk):∀ x∈xs,(∃ i,x=.int i)\/∃ a,x=.ref a:=λx b=>by
 rcases h with h|⟨n,_,h⟩
 ·obtain⟨i,e,_⟩:=h x b;exact .inl ⟨i,e⟩
 ·obtain⟨⟨a,_,_,e,_⟩,_⟩:=h x b;exact .inr ⟨a,e⟩
section
variable {prog:Program}{w:World}{A:Around}{E:Value->Shared->Prop}{s:Shared}
theorem i6 {u v:Value}{b:Bool}{Q:Bool->Shared->Prop}(l:LtAt A s u v b)(h:Q b s):wpAny (model prog w) A (oneLt' false u v) Q E s:=by
 rw[oneLt'_eq,Ja Jp];exact J6 (l prog w _ _ (ZP h))
theorem cD {Q:Bool->Shared->Prop}(cs:List Ordering):∀ (us vs:List Value) (i:Nat),us.length=cs.length->vs.length=cs.length->(∀ (j:Nat) u v c,us[j]?=some u->vs[j]?=some v->cs[j]?=some c->SeqAt.EqAt A s u v (c == .eq)/\(c≠.eq->LtAt A s u v (c == .lt))) ->
  (i=0->∀ u v c,us[0]?=some u->vs[0]?=some v->cs[0]?=some c->∃ a b t t',u=.int a t/\v=.int b t'/\c=compare a b)->Q (cs.foldr Ordering.then .eq == .lt) s->PySem.W.KatLex prog w A true false Q (us.zip vs) i s:=by
 induction cs with
 | nil =>
  intro us vs i d f _ _ q;rw[List.length_eq_zero_iff.mp d]
  exact PySem.W.kat_nil q
 | cons c cs ih =>
  intro us vs i d f h n q
  obtain⟨u,us,rfl⟩:∃ u l,us=u::l:=by
   cases us with
   | nil=>simp at d
   | cons u us=>exact⟨u,us,rfl⟩
  obtain⟨v,vs,rfl⟩:∃ v k,vs=v::k:=by
   cases vs with
   | nil=>simp at f
   | cons v vs=>exact⟨v,vs,rfl⟩
  have m:=h 0 u v c rfl rfl rfl;refine PySem.W.kat_cons (m.1 prog w _ _ ?_);by_cases z:c=.eq
  ·subst z
   refine PySem.W.kat_yes (ih us vs (i+1) (by simpa using d) (by simpa using f) (λj u v c y x r=>h (j+1) u v c (by simpa using y) (by simpa using x) (by simpa using r)) (λe=>by simp_all) q)
  ·have p:(c == Ordering.eq)=false:=by simpa using z
   have e2:(c::cs).foldr Ordering.then .eq=c:=by
    rw[List.foldr_cons];cases c<;>first|rfl|exact absurd rfl z
   rw[e2]at q;rw[p];refine PySem.W.kat_no ?_;by_cases g:i=0
   ·obtain⟨a,b,t,t',rfl,rfl,o⟩:=n g u v c rfl rfl rfl
    subst g;rw[o,(vi a b).2]at q;exact oneLt_int q
   ·have:(true && i == 0)=false:=by simpa using g
    rw[this];exact i6 (m.2 z) q
end
section
variable {X:Cx}
theorem zaw {pins:List (Addr × Obj)}{σ:St}{H:Hp}{s1:Shared}(I:Inv X pins σ H s1)(s:X.A.units+64<cLine){xs:List V}{vs:List Value}{rk:V->Int}(r:Vals xs vs)(R:Rk H xs rk) :
  ∃ κ:SortKind,(∀ h':Heap,(∀ c o,s1.heap.get? c=some o->h'.get? c=some o)->2<=vs.length->∀ (l:Around) {Q:SortKind->Shared->Prop}{E:Value->Shared->Prop},Q κ { s1 with heap:=h' }->wpAny (model X.prog X.w) l (keyKind' vs.toArray) Q E { s1 with heap:=h' }) /\
   (∀ h':Heap,(∀ c o,s1.heap.get? c=some o->h'.get? c=some o)->∀ (l:Around),l.units<=X.A.units+8->Cmp X.prog X.w l { s1 with heap:=h' } κ (λp=>p.1∈vs) (λp=>rk (vOf p.1))):=by
 obtain⟨ex,rel⟩:=uu r R.kinds;have mem:∀ u∈vs,vOf u∈xs:=λu s=>by rw[ex];exact Yj.mpr ⟨u,s,rfl⟩
 rcases R with R|⟨n,hn,R⟩
 ·have z:∀ u∈vs,∃ i t,u=.int i t/\rk (vOf u)=i:=λu s=>by
   obtain⟨i,e,ei⟩:=R _ (mem u s);have ru:=rel u s;rw[e]at ru;obtain⟨t,rfl⟩:=ru;exact⟨i,t,rfl,ei⟩
  refine⟨oneType',λh' k Z l Q E q=>PySem.W.kas_kind Z (T:=.type "int") (λv d=>?_) (by decide) (by decide) q,λh' k l _=>⟨λx y S J Q E q=>?_⟩⟩
  ·obtain⟨i,t,rfl,_⟩:=z v d
   exact PySem.W.Looks.of_pure rfl
  ·obtain⟨P,x2⟩:=x
   obtain⟨G,y2⟩:=y;obtain⟨i,t,w,D⟩:=z P S;obtain⟨j,t',e2,Y⟩:=z G J;simp only at q;rw[D,Y]at q;subst w e2;show wpAny _ _ (keyLt' oneType' (.int i t) (.int j t')) _ _ _;rw[keyLt'_oneType];exact oneLt_int q
 ·refine⟨tuples' (Value.type "int" != Value.type "tuple"),λh' k Z l Q E q=>?_,λh' k l hA=>⟨λx y S J Q E q=>?_⟩⟩
  ·have F:Inv X pins σ H { s1 with heap:=h',toks:=s1.toks }:=I.kept k
   have kt:∀ C:List Value,(∀ u∈C,vOf u∈xs/\RelV (vOf u) u)->∃ fs,PySem.W.KatTups h' C fs/\fs.length=C.length/\∀ f∈fs,∃ i t,f=Value.int i t:=by
    intro C
    induction C with
    | nil=>intro _;exact⟨[],PySem.W.KatTups.nil,rfl,λf K=>by simp at K⟩
    | cons u C ih =>
     intro h;obtain⟨fs,k1,k2,k3⟩:=ih λv d=>h v (Jr _ d);obtain⟨m1,D⟩:=h u Ju;obtain⟨⟨a,f,rr,e,U⟩,_⟩:=R _ m1;rw[e]at D;cases D;obtain⟨A,g,⟨o,eo,co,no,dt⟩,_⟩:=F.tuple (SqT.of U);obtain⟨f0,ef,⟨t0,rfl⟩⟩:=g.get (i:=0) (x:=.int f) rfl
     exact⟨_,PySem.W.KatTups.cons eo co dt (by simpa using ef) k1,by rw[JE,JE,k2],λf' K=>by
      rcases Jn.mp K with rfl|K
      ·exact⟨_,_,rfl⟩
      ·exact k3 f' K⟩
   obtain⟨fs,k1,k2,k3⟩:=kt vs λu s=>⟨mem u s,rel u s⟩;refine PySem.W.kat_kind (T:=.type "int") k1 (by lia) (λv d=>?_) (by decide) q;obtain⟨i,t,rfl⟩:=k3 v d;exact PySem.W.Looks.of_pure rfl
  ·have F:Inv X pins σ H { s1 with heap:=h',toks:=s1.toks }:=I.kept k
   obtain⟨P,x2⟩:=x;obtain⟨G,y2⟩:=y;have rx:=rel P S;have ry:=rel G J;obtain⟨⟨a,f,xr,ea,U⟩,lx⟩:=R _ (mem P S);obtain⟨⟨b,g,yr,eb,hb⟩,_⟩:=R _ (mem G J);have L:=lx _ (mem G J);simp only at q;rw[ea]at rx L q;rw[eb]at ry L q;cases rx;cases ry;generalize hc:compare (rk (V.ref a)) (rk (V.ref b))=c at L;rw[<- (vi (rk (V.ref a)) (rk (V.ref b))).2,hc]at q
   cases L with
   | @row n _ _ a0 aC cs O N l1 Z hL =>
    rw[U]at O;cases O;rw[hb]at N;cases N;obtain⟨A,g1,⟨o1,ak,a6,a4,ax⟩,_⟩:=F.tuple (SqT.of U);obtain⟨M,g2,⟨o2,ab,a5,a3,ao⟩,_⟩:=F.tuple (SqT.of hb);have m1:=g1.length;have m2:=g2.length;show wpAny _ _ (keyLt' (tuples' true) (.ref a) (.ref b)) _ _ _;refine PySem.W.kat_lt ak ax ab ao ?_;have ds:decide (A.toArray.size<M.toArray.size)=false:=Js (by rw[Jd,Jd];simp_all);rw[ds];refine cD cs A M 0 (by simp_all) (by simp_all) (λj u v c m d B=>?_) (λ_ u v c m d B=>?_) q
    ·have j1:j<(V.int f::xr).length:=by have:=(J9.mp m).1;simp_all
     have j2:j<(V.int g::yr).length:=by have:=(J9.mp d).1;simp_all
     obtain⟨u',w,q1⟩:=g1.get (J0 j1);obtain⟨v',e2,q2⟩:=g2.get (J0 j2);rw[m]at w;obtain rfl:=Jv w;rw[d]at e2;obtain rfl:=Jv e2;have W:=hL j _ _ c (J0 j1) (J0 j2) B;exact⟨gM F W l _ _ (by lia) q1 q2,λne=>zab F W ne l _ _ (by lia) q1 q2⟩
    ·obtain⟨u',w,t1,D⟩:=g1.get (i:=0) (x:=.int f) rfl
     obtain⟨v',e2,t2,Y⟩:=g2.get (i:=0) (x:=.int g) rfl;rw[m]at w;obtain rfl:=Jv w;rw[d]at e2;obtain rfl:=Jv e2;have W:=hL 0 (.int f) (.int g) c rfl rfl B;cases W;exact⟨f,g,t1,t2,D,Y,rfl⟩
theorem uE (b:Bool)(f:X.A.units+64<cLine):CallR X (.builtin "sorted") (λvs H Q=>∃ a xs rk,vs=[.ref a]/\SqB b X.K H a xs/\xs.length<=10000/\Rk H xs rk/\∀ (l:Addr) (ys:List V),H l=none->ys.Perm xs->ys.Pairwise (λx y=>rk x<=rk y)->Q (.ref l) (upd H l (.lst ys))):=by
 intro pins s σ H vs F Q I t h;obtain⟨a,xs,rk,rfl,z,G,R,q⟩:=h;obtain⟨u,rfl,v⟩:=t.one;cases v;obtain⟨g,r,p⟩:=I.sq z;have J:=r.length;have i:g.length<=sizeLine:=JM (show _<=10000 by simp_all) (by decide);refine lE (aE p i λC d j=>?_);have E:Inv X pins σ H { s with heap:=C,toks:=s.toks }:=I.kept j;obtain⟨k,A,B⟩:=zaw E f r R;refine⟨k,λu=>rk (vOf u),by simp_all,A,B,λK l e out lo D pm n w=>?_⟩;obtain⟨ex,rel⟩:=uu r R.kinds;have m:Vals (out.map vOf) out:=uI λu f=>rel u (pm.mem_iff.mp f);refine⟨.ref l,_,I.laid (t':=s.toks) (o:=.lst (out.map vOf)) (λc o q=>w c o (j c o q)) (JM d lo) ⟨?_,out,e,m,D⟩,rfl,q l _ (I.hok.fresh (JM d lo)) ?_ ?_⟩
 ·rw[Je,pm.length_eq];exact i
 ·rw[ex];exact pm.map vOf
 ·exact Zc.mpr n
end
def Zip2 (H:Hp)(b xs ys:List V):Prop:=b.length=xs.length/\∀ (i:Nat) t,b[i]?=some t->∃ a x y,t=.ref a/\xs[i]?=some x/\ys[i]?=some y/\H a=some (.tup [x,y])
def iE (K:PySem.W.Frag)(n m:Bool)(k:TA):TE:=λσ H Q=>k σ H λj g=>∃ i h b d,j=[.ref i,.ref h]/\SqB n K g i b/\SqB m K g h d/\d.length=b.length/\b.length<=10000 /\
 ∀ e a,Same g a->Zip2 a e b d->∃ f,Rk a e f/\∀ l c,a l=none->c.Perm e->c.Pairwise (λx y=>f x<=f y)->Q (.ref l) (upd a l (.lst c))
theorem mG {X:Cx}{a b:Expr}{ta:TA}{p p2 pos f:Pos}(b1 b2:Bool) (hg:Gl X "sorted") (hm:X.mg "sorted" = none) (bS:Gl X "zip") (bx:X.mg "zip" = none) (hc:X.calm=true) (hu:X.A.units+64<cLine) (ha:PA X [a,b] ta)
  (he:starEach [Expr.Call (.Name "zip" p2) [a,b] [] f] X.env=[(false,eval (Expr.Call (.Name "zip" p2) [a,b] [] f) X.env)]:=by rfl)
  (hs:starEach [a,b] X.env=[(false,eval a X.env),(false,eval b X.env)]:=by rfl) (a4:starEach [b] X.env=[(false,eval b X.env)]:=by rfl) :
  PE X (.Call (.Name "sorted" p) [.Call (.Name "zip" p2) [a,b] [] f] [] pos) (iE X.K b1 b2 ta):=by
 intro pins s σ H Q I h;refine YT (xC I hg hm (u:=.builtin "sorted") (by rfl) (PyProof.Rows.callWith_builtin1 ?_ he rfl));rw[he];show wpAny _ _ (spliced ((false,eval (Expr.Call (.Name "zip" p2) [a,b] [] f) X.env)::[])) _ _ s;refine Wd ?_;refine Call_ (xC I bS bx (u:=.type "zip") (by rfl) (Y3 (thn (ha f pins s σ H _ I h) λus s1 ⟨vs,H1,K,r1,q1⟩=>?_) (by rw[hs,a4]) (by rw[a4];rfl)));obtain⟨a1,Z,xs,ys,rfl,a6,a5,hl,hz,q⟩:=q1;obtain⟨u,v,rfl,ru,rv⟩:=r1.two;cases ru;cases rv;obtain⟨d,rx,ax⟩:=K.sq a6;obtain⟨r,ry,ao⟩:=K.sq a5;have lx:=rx.length;have ly:=ry.length;refine callType_new F.called_zip (by decide) (F.typeCall_zip_2 _ _) (F.newCall_zip_2 _ _) (λobj=>F.args_object_init_3 obj _ _) F.entry_zip_new (rq b1 b2 a1 Z d.toArray r.toArray) ⟨ax,ao,λC z ⟨TI,TO,k,j,nd,a8,D,hI,hO,h1,h2⟩ hk=>⟨⟨_,D,rfl⟩,?_⟩⟩;refine Wj ?_;have I2:Inv X pins σ H1 { s1 with heap:=C,toks:=s1.toks }:=K.kept hk;have fp:∀ c∈[z,TI,TO,k,j],FpOk X pins H1 c:=λc hc=>K.fpOk (a8 c hc) (K.hok.fresh (a8 c hc));have R:∀ c∈[z,TI,TO,k,j],c≠a1:=λc hm=>K.sq_ne a6 (fp c hm);have P:∀ c∈[z,TI,TO,k,j],c≠Z:=λc hm=>K.sq_ne a5 (fp c hm);have aC:=nd;simp only[JY,Jn,Jq,JW,Zd]at aC;obtain⟨⟨zI,zO,z1,z2⟩,⟨IO,b5,b4⟩,⟨O1,O2⟩,a0,_⟩:=aC;have S:Sep z TI TO k j [k,a1] [j,Z]:=⟨nd,by simp[z1,R z (by simp)],by simp[O1,R TO (by simp)],by simp[Ne.symm a0,R j (by simp)],by simp[z2,P z (by simp)],by simp[O2,P TO (by simp)],by simp[a0,P k (by simp)]⟩;have hd:=K.ok.hd hc;have O:SqO b1 C a1 d.toArray:=ax.mv λo e=>hk _ _ e;have N:SqO b2 C Z r.toArray:=ao.mv λo e=>hk _ _ e;have ab:d.toArray.size=r.toArray.size:=by rw[Jd,Jd];simp_all
 have D1:=uC (prog:=X.prog) (w:=X.w) (A:=X.A.in1.in1.in1) hd b1 k a1 d.toArray (O.ne h1);have D2:=uC (prog:=X.prog) (w:=X.w) (A:=X.A.in1.in1.in1) hd b2 j Z r.toArray (N.ne h2);rw[<- ab]at D2
 have low:∀ c∈[k,a1]++[j,Z],c<C.objs.size:=λc hc=>by
  obtain⟨o1,n1,e1,_⟩:=O.ob;obtain⟨o2,n2,e2,_⟩:=N.ob;simp only[ZW,YH,Jn,Jq,JW]at hc;rcases hc with rfl|rfl|rfl|rfl
  ·exact Jc h1
  ·exact Jc e1
  ·exact Jc h2
  ·exact Jc e2
 have b0:FpOk X pins H1 C.objs.size:=I2.fpOk (Jf _) (I2.hok.fresh (Jf _))
 have lows:∀ c∈[z,TO,k,j],c<C.objs.size:=λc hc=>by
  simp only[Jn,Jq,JW]at hc;rcases hc with rfl|rfl|rfl|rfl
  ·exact Jc D
  ·exact Jc hO
  ·exact Jc h1
  ·exact Jc h2
 refine lE (mZ (J:=λacc L=>∃ (g:List Addr) (n:Hp),Inv X pins σ n L/\Same H1 n/\acc.toList=g.map Value.ref/\(∀ (i:Nat) t,g[i]?=some t->∃ x y,xs[i]?=some x/\ys[i]?=some y/\n t=some (.tup [x,y]))/\(∀ c∈[z,TO,k,j,C.objs.size],FpOk X pins n c)) S D1 D2 (Jf _) D hI hO ⟨h1,O⟩ ⟨h2,N⟩ low ?_ ?_ ?_ ?_ ?_)
 ·rw[Jd];exact JM (show _<=10000 by simp_all) (by decide)
 ·rintro acc L a7 tk x y ⟨g,n,G,sm,E,Y,M⟩ lt px py new kk
  have il:acc.size<xs.length:=by
   have b:acc.size<d.toArray.size:=(JQ.mp px).1;have b2:d.toArray.size=d.length:=Jd ..
   simp_all
  obtain⟨u,e1,r1⟩:=rx.get (J0 il);obtain⟨v,e2,r2⟩:=ry.get (J0 (show acc.size<ys.length by lia));have bl:d[acc.size]?=some x:=by simpa using px
  have a9:r[acc.size]?=some y:=by simpa using py
  rw[bl]at e1;obtain rfl:=Jv e1;rw[a9]at e2;obtain rfl:=Jv e2
  have nT:∀ c∈[z,TO,k,j,C.objs.size],c≠L.heap.objs.size:=λc hc=>by
   simp only[Jn,Jq,JW]at hc;rcases hc with rfl|rfl|rfl|rfl|rfl
   ·exact JH (Zb (Jc D) lt)
   ·exact JH (Zb (Jc hO) lt)
   ·exact JH (Zb (Jc h1) lt)
   ·exact JH (Zb (Jc h2) lt)
   ·exact JH lt
  have b3:∀ c∈[z,TO,k,j],FpOk X pins n c:=λc hc=>M c (by simp only[Jn,Jq,JW]at hc ⊢;rcases hc with m|m|m|m<;>simp[m]);have fr:n L.heap.objs.size=none:=G.fresh;have al:acc.size=g.length:=by rw[<- JB,E,Je]
  refine⟨g++[L.heap.objs.size],_,G.spunN (fp:=[z,TO,k,j]) kk b3 (Jf _) (tD new r1 r2),sm.trans (zC fr _),by rw[Z9,E,JF];rfl,λi t B=>?_,λc hc=>⟨by rw[zH (nT c hc)];exact(M c hc).1,(M c hc).2⟩⟩;by_cases q:i<g.length
  ·rw[Y8 q]at B
   obtain⟨x',y',W,U,T⟩:=Y i t B;exact⟨x',y',W,U,zC fr _ _ _ T⟩
  ·have a3:=(J9.mp B).1
   rw[Jj]at a3;have bo:i=g.length:=by simp at a3;lia
   subst bo;rw[Ye (Jf _),Nat.sub_self]at B;obtain rfl:L.heap.objs.size=t:=by simpa using B
   rw[<- al];exact⟨_,_,J0 il,J0 (show acc.size<ys.length by lia),zG⟩
 ·rintro acc L a7 tk ⟨g,n,G,sm,E,Y,M⟩ kk
  exact⟨g,n,G.spun (fp:=[z,TO,k,j,C.objs.size]) kk M,sm,E,Y,M⟩
 ·refine⟨[],H1,I2,Same.refl _,rfl,λi t B=>by simp at B,λc hc=>?_⟩
  simp only[Jn,Jq,JW]at hc;rcases hc with rfl|rfl|rfl|rfl|rfl
  ·exact fp _ (by simp)
  ·exact fp _ (by simp)
  ·exact fp _ (by simp)
  ·exact fp _ (by simp)
  ·exact b0
 ·rintro a7 tk acc hn ⟨g,n,G,sm,E,Y,M⟩ _ kk lt
  have tl:g.length=xs.length:=by
   have:acc.toList.length=g.length:=by rw[E,Je]
   rw[JB,hn,Jd]at this;simp_all
  obtain⟨rk,Rr,fin⟩:=q (g.map V.ref) n sm ⟨by rw[Je];exact tl,λi t B=>by
   rw[JD]at B;obtain⟨t',e',rfl⟩:=Zs.mp B;obtain⟨x,y,W,U,T⟩:=Y i t' e'
   exact⟨t',x,y,rfl,W,U,T⟩⟩
  have vr:Vals (g.map V.ref) acc.toList:=by
   rw[E];clear Y E tl Rr fin
   induction g with
   | nil=>exact .nil
   | cons t g ih=>exact .cons rfl ih
  obtain⟨κ,ak,ac⟩:=zaw G hu vr Rr;refine⟨κ,λu=>rk (vOf u),by rw[JB,hn,Jd];simp_all,ak,ac,λh3 l e out lo eo pm so k3=>?_⟩;obtain⟨ex,rel⟩:=uu vr Rr.kinds;have vo:Vals (out.map vOf) out:=uI λu hu=>rel u (pm.mem_iff.mp hu);refine⟨.ref l,_,G.laid (t':=tk) (o:=.lst (out.map vOf)) k3 lo ⟨?_,out,e,vo,eo⟩,rfl,fin l _ (G.hok.fresh lo) ?_ ?_⟩
  ·rw[Je,pm.length_eq,JB,hn,Jd];exact JM (show _<=10000 by simp_all) (by decide)
  ·rw[ex];exact pm.map vOf
  ·exact Zc.mpr so
end L2
namespace Bn
open PySem L2 Own
theorem zS {H:Hp}{a:Addr}(_:H a=none)(o:HO):L2.upd H a o a=some o:=zG
def pC (H:Hp):V->Fk
 | .ref g=>match H g with
  | some (.tup [.int a,.int b])=>(a.toNat,b.toNat)
  | _=>(0,0)
 | _=>(0,0)
def dec (H:Hp):V->Int × Fk
 | .ref t=>match H t with
  | some (.tup [.int l,x])=>(l,pC H x)
  | _=>(0,(0,0))
 | _=>(0,(0,0))
theorem kD {H:Hp}{g:Addr}{f:Fk}(h:H g=some (.tup [.int f.1,.int f.2])):pC H (.ref g)=f:=by
 simp only[pC,h];obtain⟨a,b⟩:=f;simp
theorem aI {H:Hp}{t g:Addr}{l:Int}{f:Fk}(h:H t=some (.tup [.int l,.ref g]))(a:H g=some (.tup [.int f.1,.int f.2])):dec H (.ref t)=(l,f):=by
 show (match H t with|some (.tup [.int l,x])=>(l,pC H x)|_=>(0,(0,0)))=(l,f);rw[h];show (l,pC H (.ref g))=(l,f);rw[kD a]
def Trp (H:Hp)(x:V)(p:Int × Fk):Prop:=∃ t g,x=.ref t/\H t=some (.tup [.int p.1,.ref g])/\H g=some (.tup [.int p.2.1,.int p.2.2])
theorem Trp.dec {H:Hp}{x:V}{p:Int × Fk}(h:Trp H x p):dec H x=p:=by
 obtain⟨t,g,rfl,b,a⟩:=h;exact aI b a
theorem xw {i j:Int}:(compare i j=.lt↔i<j)/\(compare i j=.eq↔i=j)/\(compare i j=.gt↔j<i):=by
 rw[show compare i j=compareOfLessAndEq i j from rfl];unfold compareOfLessAndEq;by_cases b:i<j
 ·rw[Jb b];simp[b];lia
 ·rw[Ja b]
  by_cases a:i=j
  ·rw[Jb a];simp[a]
  ·rw[Ja a];simp[b,a];lia
theorem fX {i j:Int}{c:Ordering}(h:(c=.lt->i<j)/\(c=.eq->i=j)/\(c=.gt->j<i)):compare i j=c:=by
 cases c with
 | lt=>exact xw.1.mpr (h.1 rfl)
 | eq=>exact xw.2.1.mpr (h.2.1 rfl)
 | gt=>exact xw.2.2.mpr (h.2.2 rfl)
theorem zba {a b d c:Int}(j:0<=b/\b<32)(i:0<=c/\c<32):compare (a*32+b) (d*32+c)=(compare a d).then (compare b c):=by
 apply fX;have h:=@xw a d;have g:=@xw b c;cases e:compare a d<;>rw[e]at h<;>simp at h
 ·refine⟨λ_=>by lia,λz=>?_,λz=>?_⟩<;>cases z
 ·cases f:compare b c<;>rw[f]at g<;>simp at g
  ·refine⟨λ_=>by simp_all,λz=>?_,λz=>?_⟩<;>cases z
  ·refine⟨λz=>?_,λ_=>by simp_all,λz=>?_⟩<;>cases z
  ·refine⟨λz=>?_,λz=>?_,λ_=>by simp_all⟩<;>cases z
 ·refine⟨λz=>?_,λz=>?_,λ_=>by lia⟩<;>cases z
theorem dv {H:Hp}{n:Nat}{g g':Addr}{f a:Fk}(h:H g=some (.tup [.int f.1,.int f.2]))(h':H g'=some (.tup [.int a.1,.int a.2]))(b:f.2<32)(c:a.2<32) :
  Lx H (n+1) (.ref g) (.ref g') (compare ((f.1:Int)*32+f.2) ((a.1:Int)*32+a.2)):=by
 rw[zba (by lia) (by lia)];exact Lx.pair h h' (.int _ _ _) (.int _ _ _)
theorem bn {H:Hp}{x y:V}{p q:Int × Fk}(h:Trp H x p)(d:Trp H y q)(b:p.2.1<32/\p.2.2<32)(m:q.2.1<32/\q.2.2<32):Lx H 2 x y (compare (rnk p) (rnk q)):=by
 obtain⟨t,g,rfl,l,k⟩:=h;obtain⟨n,o,rfl,j,i⟩:=d
 have e:compare (rnk p) (rnk q)=(compare p.1 q.1).then (compare ((p.2.1:Int)*32+p.2.2) ((q.2.1:Int)*32+q.2.2)):=by
  apply fX;have c:=@xw p.1 q.1;have a:=@xw ((p.2.1:Int)*32+p.2.2) ((q.2.1:Int)*32+q.2.2);unfold rnk;cases e:compare p.1 q.1<;>rw[e]at c<;>simp at c
  ·refine⟨λ_=>by lia,λz=>?_,λz=>?_⟩<;>cases z
  ·cases f:compare ((p.2.1:Int)*32+p.2.2) ((q.2.1:Int)*32+q.2.2)<;>rw[f]at a<;>simp at a
   ·refine⟨λ_=>by lia,λz=>?_,λz=>?_⟩<;>cases z
   ·refine⟨λz=>?_,λ_=>by lia,λz=>?_⟩<;>cases z
   ·refine⟨λz=>?_,λz=>?_,λ_=>by lia⟩<;>cases z
  ·refine⟨λz=>?_,λz=>?_,λ_=>by lia⟩<;>cases z
 rw[e];exact Lx.pair l j (.int _ _ _) (dv k i b.2 m.2)
theorem fv {H:Hp}{b ps:List V}{ls:List Int}{fs:List Fk}(z:Zip2 H b (ls.map V.int) ps)(pr:Prs H ps fs):b.map (dec H)=ls.zip fs/\∀ x∈b,Trp H x (dec H x):=by
 have r:=pr.len;have k:=z.1;rw[Je]at k
 have at_:∀ (i:Nat) t,b[i]?=some t->∃ l f,ls[i]?=some l/\fs[i]?=some f/\Trp H t (l,f):=λi t n=>by
  obtain⟨a,x,y,rfl,d,m,q⟩:=z.2 i t n;rw[JD]at d;obtain⟨l,h,rfl⟩:=Zs.mp d;obtain⟨g,f,rfl,j,p⟩:=pr.get m;exact⟨l,f,h,j,a,g,rfl,q,p⟩
 refine⟨List.ext_getElem? λi=>?_,λx d=>?_⟩
 ·rw[JD]
  cases e:b[i]? with
  | none =>
   have s:=Z3.mp e
   exact(Z3.mpr (by rw[Zw];lia)).symm
  | some t =>
   obtain⟨l,f,h,j,c⟩:=at_ i t e;rw[Option.map_some,c.dec];exact(ZD.mpr ⟨h,j⟩).symm
 ·obtain⟨i,o⟩:=Ys.mp d
  obtain⟨l,f,_,_,c⟩:=at_ i x o;rw[c.dec];exact c
def IsFk (H:Hp)(x:V)(f:Fk):Prop:=∃ g,x=.ref g/\H g=some (.tup [.int f.1,.int f.2])
theorem IsFk.dec {H:Hp}{x:V}{f:Fk}(h:IsFk H x f):pC H x=f:=by
 obtain⟨g,rfl,e⟩:=h;exact kD e
theorem ip {H:Hp}:∀ {ps:List V},(∀ x∈ps,IsFk H x (pC H x))->Prs H ps (ps.map (pC H))
 | [],_=>trivial
 | x::ps,h=>by
  obtain⟨g,e,b⟩:=h x Ju;exact⟨⟨g,e,b⟩,ip λy a=>h y (Jr _ a)⟩
theorem Prs.app {H:Hp}:∀ {ps a:List V}{fs b:List Fk},Prs H ps fs->Prs H a b->Prs H (ps++a) (fs++b)
 | [],_,[],_,_,h=>h
 | _::_,_,_::_,_,⟨x,r⟩,h=>⟨x,Prs.app r h⟩
theorem bO (N:Nt):pz N=(wF N).zip N.forks:=by
 rw[<- jB,<- wL]
 induction pz N with
 | nil=>rfl
 | cons x l ih=>rw[Y5,Y5,List.zip_cons_cons,<- ih]
end Bn
namespace K89
open PySem L2 Own Bn
abbrev n6:Stmt:=top 8
def ux:Sp:=λf H Q _=>∃ r fr e g N,f=[.ref r]/\Nt.Ok N/\NetAt H r fr e g N/\∀ d c b a,Same H a->NetAt a d c e b (zV N)->Q (.ref d) a
section
variable {P:Program}{w:World}{K:PySem.W.Frag}{mg:Str->Option Value}{base:Heap}
theorem eK:FnScope ["net","lanes","forks","ends"] ["net"] (zP n6):=by trivial
theorem gB {f fY:Addr}{fd dY:FuncData}(F:Fun K "plain" "plain" n6 f fd) (G:Mgs mg) (M:Use P w K mg base "layers" ["net"] 1 tV fY dY):FnOk P w K mg base CX0 2 f fd ["net"] ux:=by
 refine F.ok eK (λvs H Q E h=>?_) (λab A outer s H vs Q E hr h=>?_)
 ·obtain⟨r,fr,W,U,N,rfl,_⟩:=h
  rfl
 obtain⟨r,fr,W,U,N,rfl,ok,na,k⟩:=h;refine⟨_,(@zD _ _ _ _ _ (@yH _ _ _ _ _ _ (@qv _ 0 _ _ (by trivial)) (@yQ _ _ _ _ _ _ rfl (@zN _ _ _ _ _ (@zM _ _ 1 _ eK.nd rfl (.inl rfl) (by trivial)) (@zN _ _ _ _ _ (@zM _ _ 2 _ eK.nd rfl (.inl rfl) (by trivial)) (@zN _ _ _ _ _ (@zM _ _ 3 _ eK.nd rfl (.inl rfl) (by trivial)) yD (by rfl)) (by rfl)) (by rfl)) (by rfl) (by rfl)) (by rfl) (by rfl) (by rfl)) (@zL _ _ _ (@zj _ _ _ _ (@yM _ _ _ _ _ (@zA _ _ _ _ _ (@qv _ 1 _ _ (by trivial)) (@zA _ _ _ _ _ (@yA _ _ _ _ _ _ _ _ _ zw (by rfl) G.tuple (by rfl) (@zA _ _ _ _ _ (@ue _ _ _ _ none _ _ _ (cI K 2 (sX (wt 0) (sX (wt 1) cJ))) _ _ ["layer","fork"] [none,none] rfl (@lM _ _ _ _ (@mG _ _ _ _ _ _ _ _ false false (by rfl) G.sorted (by rfl) G.zip rfl hr.units (@zA _ _ _ _ _ (@zQ _ _ _ _ _ _ _ _ _ _ _ _ _ _ _ _ M.ok hr (by rfl) M.m M.kp M.b .nil zZ (@zA _ _ _ _ _ (@qv _ 0 _ _ (by trivial)) zB (by rfl)) (by decide) (by rfl) (by rfl)) (@zA _ _ _ _ _ (@qv _ 2 _ _ (by trivial)) zB (by rfl)) (by rfl)) (by rfl) (by rfl) (by rfl))) (CapOk.of (by kernel_rfl)) (λ_ _ _ _ _=>(@yQ _ _ _ _ _ _ rfl (@zN _ _ _ _ _ (@zM _ _ 0 _ (show (["layer","fork"]:List Str).Nodup from by decide +kernel) rfl (.inl rfl) (.inr rfl)) (@zN _ _ _ _ _ (@zM _ _ 1 _ (show (["layer","fork"]:List Str).Nodup from by decide +kernel) rfl (.inl rfl) (.inr rfl)) yD (by rfl)) (by rfl)) (by rfl) (by rfl))) (λ_ _ _ _ _=>xX) (λ_ _ _ _ _=>(@qv _ 1 _ _ (by trivial))) (by intro _;rfl)) zB (by rfl)) (by decide) (by decide) (by rfl) (by rfl)) (@zA _ _ _ _ _ (@qv _ 3 _ _ (by trivial)) zB (by rfl)) (by rfl)) (by rfl)))))),?_⟩;have fm:=ok.fm;have pl:=na.prs.len;have ll:=mV N;refine⟨_,rfl,r,_,rfl,SqT.of na.net,rfl,_,_,rfl,_,_,rfl,_,_,rfl,rfl,?_⟩;refine⟨_,rfl,_,rfl,r,fr,W,U,N,rfl,ok,na,λp H1 s1 hp=>?_⟩;have z:=na.tups (Tups.of s1);refine⟨_,rfl,p,fr,_,U,rfl,SqT.of hp,SqT.of z.forks,by rw[Je];lia,by rw[Je];lia,λts i s2 Y=>?_⟩;have v:=z.tups (Tups.of s2);obtain⟨S,C⟩:=fv Y v.prs;rw[<- bO]at S;have low:∀ x∈ts,(dec i x).2.1<32/\(dec i x).2.2<32:=λx d=>qW ok _ (by rw[<- S];exact Yj.mpr ⟨x,d,rfl⟩);refine⟨λx=>rnk (dec i x),.inr ⟨2,by decide,λx d=>⟨?_,λy hy=>bn (C x d) (C y hy) (low x d) (low y hy)⟩⟩,λl c J pm so=>?_⟩
 ·obtain⟨t,g,rfl,V,_⟩:=C x d
  exact⟨t,_,_,rfl,V⟩
 have Z:=zC J (.lst c);have zl:c.length=N.forks.length:=by rw[pm.length_eq,Y.1,Je];exact ll
 have ze:c.map (dec i)=uj (pz N):=ur ok (by rw[<- S];exact pm.map _) (Zc.mpr so);have X:∀ x∈c,Trp i x (dec i x):=λx d=>C x (pm.mem_iff.mp d);refine⟨l,rfl,⟨_,SqL.of (zS J (.lst c))⟩,λI m=>?_⟩;refine cA (K:=K) (a:=l) (xs:=c) (λj acc σ n=>(∃ R O,σ=[R,O])/\Same i n/\n l=some (.lst c)/\n I=some (.lst acc)/\acc.length=j/\Prs n acc ((c.take j).map λx=>(dec i x).2)) ⟨⟨_,_,rfl⟩,Z.trans (zC m _),zC m _ _ _ (zS J (.lst c)),zG,rfl,trivial⟩ (λj acc σ n q=>⟨q.2.2.2.1,SqL.of q.2.2.1⟩) ?_ ?_
 ·rintro j x acc σ n d ⟨⟨R,O,rfl⟩,u,l4,L,al,pr⟩
  have jl:=(J9.mp d).1;obtain⟨t,g,e,V,h2⟩:=X x (Ya d);have ne:I≠l:=by rintro rfl;rw[zS J (.lst c)]at m;cases m
  have keep:Same i (upd n I (.lst (acc++[.ref g]))):=λb o e=>by rw[zH (zF (Z b o e) m)];exact u b o e
  refine⟨t,_,e,SqT.of (u _ _ V),rfl,_,_,rfl,_,_,rfl,rfl,_,rfl,L,JG (show _<1000 by lia) (by decide),nx jl ⟨⟨_,_,rfl⟩,keep,by rw[zH ne.symm];exact l4,zG,by simp[al],?_⟩⟩;have xe:c[j]=x:=(J9.mp d).2;rw[JR jl,JF,xe];exact Prs.add (f:=(dec i x).2) (keep _ _ h2) (pr.tups (Tups.lst L))
 ·rintro acc σ n ⟨⟨R,O,rfl⟩,u,l4,L,al,pr⟩
  rw[YB]at pr
  have pe:(c.map λx=>(dec i x).2)=yh N:=by
   unfold yh;rw[<- ze,YL];rfl
  rw[pe]at pr;refine⟨I,_,rfl,.inl ⟨SqL.of L,λq hq=>?_⟩⟩;have T:=zC hq (.tup acc);refine⟨_,rfl,(by show 3<=sizeLine;decide),λr' B=>?_⟩;have D:=zC B (.tup [.int N.lanes,.ref q,.ref W]);refine k r' q acc _ ((((s1.trans s2).trans u).trans T).trans D) ⟨zS B _,D _ _ (zS hq _),pr.tups (Tups.of (T.trans D)),?_⟩;exact D _ _ (T _ _ (u _ _ v.ends))
end
end K89
namespace Bn
open PySem L2 Own
def nmq (p:List Nat)(i:Nat):Nat:=p.getD i 0
def xx (p:List Nat)(f:Fk):Fk:=(nmq p f.1,nmq p f.2)
theorem qj {p:List Nat}(nd:p.Nodup){i j:Nat}(hi:i<p.length)(a:j<p.length)(e:nmq p i=nmq p j):i=j:=by
 unfold nmq at e;rw[J7,J7,J0 hi,J0 a]at e;have ne:=List.pairwise_iff_getElem.mp (YX.mp nd);have e:p[i]=p[j]:=e;by_cases c:i<j
 ·exact absurd e (ne i j hi a c)
 ·by_cases b:j<i
  ·exact absurd e.symm (ne j i a hi b)
  ·lia
theorem dh {p:List Nat}{i:Nat}(inside:i<p.length):nmq p i∈p:=by
 unfold nmq;rw[J7,J0 inside];exact Yb inside
theorem vR {p:List Nat}{n:Nat}(h:p.Perm (List.range n)):p.Nodup:=h.nodup_iff.mpr Zn
theorem yi {p:List Nat}{n:Nat}(h:p.Perm (List.range n)):p.length=n:=by rw[h.length_eq,Jx]
theorem gF {p:List Nat}{n:Nat}(h:p.Perm (List.range n)){i:Nat}(hi:i<n):nmq p i<n:=JC.mp (h.mem_iff.mp (dh (by rw[yi h];exact hi)))
theorem vn {p:List Nat}{n:Nat}(h:p.length=n):(List.range n).map (nmq p)=p:=by
 subst h;apply Zk (by simp);intro i b a;simp only[Zm,ZK];unfold nmq;rw[J7,J0 a];rfl
theorem oO {p q:List Nat}{n:Nat}(hp:p.Perm (List.range n))(a:q.Perm (List.range n)):(q.map (nmq p)).Perm (List.range n):=by
 have:=a.map (nmq p);rw[vn (yi hp)]at this;exact this.trans hp
def yo (a b:Nt):Nt:=⟨a.lanes,a.forks++b.forks.map (xx a.ends),b.ends.map (nmq a.ends)⟩
theorem nA {p:List Nat}{n:Nat}(hp:p.Perm (List.range n)){f:Fk}(h:f.1<n/\f.2<n/\f.1≠f.2):(xx p f).1<n/\(xx p f).2<n/\(xx p f).1≠(xx p f).2 :=
 ⟨gF hp h.1,gF hp h.2.1,λe=>h.2.2 (qj (vR hp) (by rw[yi hp];exact h.1) (by rw[yi hp];exact h.2.1) e)⟩
theorem uZ {a b:Nt}(c:a.Ok)(d:b.Ok)(i:b.lanes=a.lanes)(fm:a.forks.length+b.forks.length<=128):(yo a b).Ok:=⟨c.l1,c.l16,by
 show (a.forks++b.forks.map (xx a.ends)).length<=128;rw[Jj,Je];exact fm,λf k=>by
 rcases Jz.mp k with h|h
 ·exact c.fk f h
 ·obtain⟨g,j,rfl⟩:=Yj.mp h
  have:=d.fk g j;rw[i]at this;exact nA c.en this,by
 have e:=d.en;rw[i]at e
 exact oO c.en e⟩
theorem gG {q:List Nat}{j:Nat}(h:j<q.length):atI (zJ q) ((j:Nat):Int)=some (.int (nmq q j:Nat)):=yR (by
 unfold zJ nmq
 rw[JD,J0 h,J7,J0 h];rfl)
end Bn
namespace L2
open PySem PySem.Spec PyProof.Rows Own Ts
section
variable {X:Cx}{pins:List (Addr × Obj)}{σ:St}{H:Hp}{s:Shared}
theorem Inv.adopt {T:Addr}{o:HO}(I:Inv X pins σ H s)(d:FpOk X pins H T)(new:ObjOk X.prog X.w (upd H T o) s.heap T o):Inv X pins σ (upd H T o) s:=by
 have a:=d.1
 have J:Inv X pins σ (upd H T o) { s with heap:=s.heap,gens:=s.gens,drawn:=s.drawn,toks:=s.toks }:=by
  refine I.step (ch:=[T]) (λb f=>?_) (λb u _ _ _ e _=>e) (λb u _ _ _ e _=>⟨u.slots,e⟩) (λb u i _ n=>by rw[zH λq=>i (JZ.mpr q)];exact n)
   (λb u _ e=>⟨u,e⟩) (λb g e=>by rw[zH (zF e a)];exact e) (λb u x e=>by rw[zH (zF e a)];exact e) (λb j e=>⟨#[],by rw[zH (zF e a),e];simp⟩) (λm h=>h) (λb u e=>?_) I.bare
  ·have only:=JZ.mp f
   subst only;exact⟨d.2.2.2.1,d.2.1,d.2.2.2.2.1,d.2.2.2.2.2⟩
  ·by_cases f:b=T
   ·subst f;rw[zG]at e;cases e;exact new
   ·rw[zH f]at e
    exact(I.hok b u e).stay (λc v _ q=>q) (λc q=>by rw[zH (zF q a)];exact q) λc g q=>by rw[zH (zF q a)];exact q
 exact J
end
def eD (K:PySem.W.Frag)(k j:Bool)(i:TA):TE:=λσ H Q=>i σ H λh c=>∃ g f a d,h=[.ref g,.ref f]/\SqB k K c g a/\SqB j K c f d/\a.length<=d.length/\a.length<=10000 /\
 ∀ l e b,Same c b->c l=none->b l=none->Zip2 b e a d->Q (.ref l) (upd b l (.lst e))
theorem uQ {X:Cx}{a b:Expr}{ta:TA}{p p2 pos g:Pos}(b1 W:Bool) (hg:Gl X "list") (hm:X.mg "list" = none) (bx:Gl X "zip") (bo:X.mg "zip" = none) (hc:X.calm=true) (ha:PA X [a,b] ta)
  (he:starEach [Expr.Call (.Name "zip" p2) [a,b] [] g] X.env=[(false,eval (Expr.Call (.Name "zip" p2) [a,b] [] g) X.env)]:=by rfl)
  (hs:starEach [a,b] X.env=[(false,eval a X.env),(false,eval b X.env)]:=by rfl) (a0:starEach [b] X.env=[(false,eval b X.env)]:=by rfl) :
  PE X (.Call (.Name "list" p) [.Call (.Name "zip" p2) [a,b] [] g] [] pos) (eD X.K b1 W ta):=by
 intro pins s σ H Q I h;refine YT (xC I hg hm (u:=.type "list") (by rfl) (Y3 ?_ he rfl));rw[he];refine Wd ?_;refine Call_ (xC I bx bo (u:=.type "zip") (by rfl) (Y3 (thn (ha g pins s σ H _ I h) λus s1 ⟨vs,H1,E,r1,q1⟩=>?_) (by rw[hs,a0]) (by rw[a0];rfl)));obtain⟨Z,Y,xs,ys,rfl,a5,a4,hl,hz,q⟩:=q1;obtain⟨u,v,rfl,ru,rv⟩:=r1.two;cases ru;cases rv;obtain⟨d,rx,ak⟩:=E.sq a5;obtain⟨C,ry,ab⟩:=E.sq a4;have lx:=rx.length;have ly:=ry.length;refine callType_new F.called_zip (by decide) (F.typeCall_zip_2 _ _) (F.newCall_zip_2 _ _) (λobj=>F.args_object_init_3 obj _ _) F.entry_zip_new (rq b1 W Z Y d.toArray C.toArray) ⟨ak,ab,λn z ⟨TI,TO,k,j,nd,a7,R,hI,hO,h1,h2⟩ hk=>⟨⟨_,R,rfl⟩,?_⟩⟩;refine Wj ?_;have I2:Inv X pins σ H1 { s1 with heap:=n,toks:=s1.toks }:=E.kept hk;have fp:∀ c∈[z,TI,TO,k,j],FpOk X pins H1 c:=λc hc=>E.fpOk (a7 c hc) (E.hok.fresh (a7 c hc));have P:∀ c∈[z,TI,TO,k,j],c≠Z:=λc hm=>E.sq_ne a5 (fp c hm);have O:∀ c∈[z,TI,TO,k,j],c≠Y:=λc hm=>E.sq_ne a4 (fp c hm);have ao:=nd;simp only[JY,Jn,Jq,JW,Zd]at ao;obtain⟨⟨zI,zO,z1,z2⟩,⟨IO,b6,b5⟩,⟨O1,O2⟩,ax,_⟩:=ao;have S:Sep z TI TO k j [k,Z] [j,Y]:=⟨nd,by simp[z1,P z (by simp)],by simp[O1,P TO (by simp)],by simp[Ne.symm ax,P j (by simp)],by simp[z2,O z (by simp)],by simp[O2,O TO (by simp)],by simp[ax,O k (by simp)]⟩;have hd:=E.ok.hd hc;have N:SqO b1 n Z d.toArray:=ak.mv λo e=>hk _ _ e;have M:SqO W n Y C.toArray:=ab.mv λo e=>hk _ _ e;have D1:=uC (prog:=X.prog) (w:=X.w) (A:=X.A.in1.in1.in1) hd b1 k Z d.toArray (N.ne h1);have D2:=uC (prog:=X.prog) (w:=X.w) (A:=X.A.in1.in1.in1) hd W j Y C.toArray (M.ne h2)
 have low:∀ c∈[k,Z]++[j,Y],c<n.objs.size:=λc hc=>by
  obtain⟨o1,n1,U,_⟩:=N.ob;obtain⟨o2,n2,e2,_⟩:=M.ob;simp only[ZW,YH,Jn,Jq,JW]at hc;rcases hc with rfl|rfl|rfl|rfl
  ·exact Jc h1
  ·exact Jc U
  ·exact Jc h2
  ·exact Jc e2
 have a6:FpOk X pins H1 n.objs.size:=I2.fpOk (Jf _) (I2.hok.fresh (Jf _));refine gQ (J:=λacc G=>∃ (f:List Addr) (r:Hp),Inv X pins σ r G/\Same H1 r/\acc.toList=f.map Value.ref/\(∀ (i:Nat) t,f[i]?=some t->∃ x y,xs[i]?=some x/\ys[i]?=some y/\r t=some (.tup [x,y]))/\(∀ c∈[z,TO,k,j,n.objs.size],FpOk X pins r c)) S D1 D2 (by rw[Jd,Jd];simp_all) R hI hO ⟨h1,N⟩ ⟨h2,M⟩ low ?_ ?_ ?_ ?_ ?_
 ·rw[Jd];exact JM (show _<=10000 by simp_all) (by decide)
 ·rintro acc G T tk x y ⟨f,r,Ik,sm,L,ht,D⟩ lt px py new kk
  have il:acc.size<xs.length:=by
   have b:acc.size<d.toArray.size:=(JQ.mp px).1;have W:d.toArray.size=d.length:=Jd ..
   simp_all
  obtain⟨u,U,r1⟩:=rx.get (J0 il);obtain⟨v,e2,r2⟩:=ry.get (J0 (show acc.size<ys.length by lia));have a9:d[acc.size]?=some x:=by simpa using px
  have a8:C[acc.size]?=some y:=by simpa using py
  rw[a9]at U;obtain rfl:=Jv U;rw[a8]at e2;obtain rfl:=Jv e2
  have nT:∀ c∈[z,TO,k,j,n.objs.size],c≠G.heap.objs.size:=λc hc=>by
   simp only[Jn,Jq,JW]at hc;rcases hc with rfl|rfl|rfl|rfl|rfl
   ·exact JH (Zb (Jc R) lt)
   ·exact JH (Zb (Jc hO) lt)
   ·exact JH (Zb (Jc h1) lt)
   ·exact JH (Zb (Jc h2) lt)
   ·exact JH lt
  have bS:∀ c∈[z,TO,k,j],FpOk X pins r c:=λc hc=>D c (by simp only[Jn,Jq,JW]at hc ⊢;rcases hc with m|m|m|m<;>simp[m]);have fr:r G.heap.objs.size=none:=Ik.fresh;have al:acc.size=f.length:=by rw[<- JB,L,Je]
  refine⟨f++[G.heap.objs.size],_,Ik.spunN (fp:=[z,TO,k,j]) kk bS (Jf _) (tD new r1 r2),sm.trans (zC fr _),by rw[Z9,L,JF];rfl,λi t B=>?_,λc hc=>⟨by rw[zH (nT c hc)];exact(D c hc).1,(D c hc).2⟩⟩;by_cases q:i<f.length
  ·rw[Y8 q]at B
   obtain⟨x',y',b4,b3,b0⟩:=ht i t B;exact⟨x',y',b4,b3,zC fr _ _ _ b0⟩
  ·have aC:=(J9.mp B).1
   rw[Jj]at aC;have bl:i=f.length:=by simp at aC;lia
   subst bl;rw[Ye (Jf _),Nat.sub_self]at B;obtain rfl:G.heap.objs.size=t:=by simpa using B
   rw[<- al];exact⟨_,_,J0 il,J0 (show acc.size<ys.length by lia),zG⟩
 ·rintro acc G T tk ⟨f,r,Ik,sm,L,ht,D⟩ kk
  exact⟨f,r,Ik.spun (fp:=[z,TO,k,j,n.objs.size]) kk D,sm,L,ht,D⟩
 ·refine⟨[],H1,I2,Same.refl _,rfl,λi t B=>by simp at B,λc hc=>?_⟩
  simp only[Jn,Jq,JW]at hc;rcases hc with rfl|rfl|rfl|rfl|rfl
  ·exact fp _ (by simp)
  ·exact fp _ (by simp)
  ·exact fp _ (by simp)
  ·exact fp _ (by simp)
  ·exact a6
 ·rintro T tk acc c' an ⟨f,r,Ik,sm,L,ht,D⟩ K a3
  have fL:=D n.objs.size (by simp)
  have tl:f.length=xs.length:=by
   have:acc.size=f.length:=by rw[<- JB,L,Je]
   have W:d.toArray.size=d.length:=Jd ..
   simp_all
  have vals:∀ l:List Addr,Vals (l.map V.ref) (l.map Value.ref):=λl=>by
   induction l with
   | nil=>exact .nil
   | cons x l ih=>exact .cons rfl ih
  have new:ObjOk X.prog X.w (upd r n.objs.size (.lst (f.map V.ref))) T n.objs.size (.lst (f.map V.ref)):=⟨by rw[Je,tl];exact JM hz (by decide),f.map Value.ref,c',vals f,by rw[a3,<- L]⟩;refine⟨.ref _,_,Ik.adopt fL new,rfl,q n.objs.size (f.map V.ref) r sm a6.1 fL.1 ⟨by rw[Je];exact tl,λi t B=>?_⟩⟩;rw[JD]at B;obtain⟨t',et,rfl⟩:=Zs.mp B;obtain⟨x,y,U,e2,e3⟩:=ht i t' et;exact⟨t',x,y,rfl,U,e2,e3⟩
end L2
namespace Bn
open PySem L2 Own
def pw (e:Nat):Int:=((2 ^ e:Nat):Int)
def more (cs xs:List Int)(k:Int):List Int:=(List.range cs.length).map λi=>cs.getD i 0+k*xs.getD i 0
def yt:Nat->List Nat->List Fk
 | 0,_=>[]
 | m+1,row=>if row.length<2 then [] else (row.take (row.length / 2)).zip row.reverse++yt m (row.take (row.length / 2))++yt m (row.drop (row.length / 2))
def yk (k:Nat):Nt:=⟨2 ^ k,(List.replicate k (yt k (List.range (2 ^ k)))).flatten,List.range (2 ^ k)⟩
def zaU (size b:Nat):List Fk:=(List.range (size / 2)).map λi=>(b*size+i,b*size+size-1-i)
def bq (k j:Nat):List Fk:=(List.range (2 ^ j)).flatMap (zaU (2 ^ (k-j)))
def aN (k:Nat):List Fk:=(List.range k).flatMap (bq k)
def aG (k:Nat):Nt:=⟨2 ^ k,(List.replicate k (aN k)).flatten,List.range (2 ^ k)⟩
theorem mB:∀ k,k<5->(yk k).forks.length<=128/\∀ f∈(yk k).forks,f.1<2 ^ k/\f.2<2 ^ k/\f.1≠f.2:=by decide +kernel
theorem xG {k:Nat}(h:k<5):(yk k).Ok:=by
 obtain⟨a,b⟩:=mB k h;refine⟨Y7,?_,a,b,.refl _⟩;show 2 ^ k<=2 ^ 4;exact YN (show 0<2 by decide) (show k<=4 by lia)
theorem qT:∀ k,k<5->yh (yk k)=(aG k).forks:=by decide +kernel
theorem sA {k:Nat}(h:k<5):zV (yk k)=aG k:=by
 unfold zV;rw[qT k h];rfl
theorem wS:∀ (m:Nat) (row:List Nat),(yt m row).length<=m*row.length
 | 0,_=>JX _
 | m+1,row=>by
  unfold yt;split
  ·exact JX _
  ·rw[Jj,Jj,Zw,JN]
   have a:=wS m (row.take (row.length / 2));have b:=wS m (row.drop (row.length / 2));rw[JN]at a;rw[YR]at b
   have c:m*min (row.length / 2) row.length+m*(row.length-row.length / 2)=m*row.length:=by
    rw[<- Nat.mul_add];congr 1;lia
   rw[Nat.succ_mul]
   grind
theorem qZ {H:Hp}{d:List V}{a b:List Nat}(z:Zip2 H d (zJ a) (zJ b))(q:a.length<=b.length):Prs H d (a.zip b):=by
 have l:=z.1;rw[zK]at l
 have all:∀ (i:Nat) t,d[i]?=some t->IsFk H t ((a.zip b).getD i (0,0)):=λi t n=>by
  obtain⟨c,x,y,rfl,f,g,o⟩:=z.2 i t n;unfold zJ at f g;rw[JD]at f g;obtain⟨k,ex,rfl⟩:=Zs.mp f;obtain⟨j,p,rfl⟩:=Zs.mp g;have both:(a.zip b)[i]?=some (k,j):=ZD.mpr ⟨ex,p⟩;rw[J7,both];exact⟨c,rfl,o⟩
 have mp:d.map (pC H)=a.zip b:=by
  refine List.ext_getElem? λi=>?_;rw[JD]
  cases e:d[i]? with
  | none =>
   have m:=Z3.mp e
   exact(Z3.mpr (by rw[Zw];simp_all)).symm
  | some t =>
   have m:=(J9.mp e).1;rw[Option.map_some,(all i t e).dec,J7,J0 (by rw[Zw];simp_all)];rfl
 rw[<- mp];refine ip λx f=>?_;obtain⟨i,h⟩:=Ys.mp f;rw[(all i x h).dec];exact all i x h
end Bn
namespace K89
open PySem L2 Own Bn
abbrev bH:Stmt:=top 17
abbrev n5:Stmt:=top 22
abbrev tf:Stmt:=top 23
def iI:Sp:=λa H Q _=>∃ m:Nat,a=[.int m]/\m<=20/\Q (.int ((2 ^ m:Nat):Int)) H
def vd:Sp:=λa H Q _=>∃ m:Nat,a=[.int m]/\m<=10/\∀ l,H l=none->Q (.ref l) (upd H l (.lst (zJ (List.range (2 ^ m)))))
def wK:Sp:=λi H Q _=>∃ (p c lf le:Addr) (h:List V) (fs:List Fk) (row a:List Nat),i=[.ref p,.ref c]/\H p=some (.lst (zJ row))/\H c=some (.tup [.ref lf,.ref le])/\H lf=some (.lst h)/\Prs H h fs/\H le=some (.lst (zJ a))/\Nt.Ok ⟨row.length,fs,a⟩ /\
 ∀ g e f d b,Same H b->NetAt b g e f d (zV ⟨row.length,fs,a⟩)->Q (.ref g) b
section
variable {P:Program}{w:World}{K:PySem.W.Frag}{mg:Str->Option Value}{base:Heap}
theorem eL:FnScope ["many","power","doubling"] ["many"] (zP bH):=by trivial
theorem ba {f:Addr}{fd:FuncData}(F:Fun K "power_of_two" "power_of_two" bH f fd) (G:Mgs mg):FnOk P w K mg base CX0 1 f fd ["many"] iI:=by
 refine F.ok eL (λc H Q E h=>?_) (λd A outer s H c Q E e h=>?_)
 ·obtain⟨m,rfl,_⟩:=h
  rfl
 obtain⟨m,rfl,g,k⟩:=h;refine⟨_,(@zD _ _ _ _ _ (@zr _ _ 1 _ _ _ _ eL.nd rfl (.inl rfl) zE (by rfl) (by trivial)) (@zD _ _ _ _ _ (@xp _ _ _ _ _ _ _ _ YC rfl (@y4 _ _ _ _ _ _ rfl G.range (@zA _ _ _ _ _ (@qv _ 0 _ _ (by trivial)) zB (by rfl)) (by rfl)) (@zM _ _ 2 _ eL.nd rfl (.inl rfl) (by trivial)) (@zL _ _ _ (@ii _ _ 1 _ _ _ _ _ _ eL.nd rfl (.inl rfl) zE cE (by trivial))) (by intro _;rfl)) (@zL _ _ _ (@zj _ _ _ _ (@qv _ 1 _ _ (by trivial)))))),?_⟩;refine⟨_,rfl,m,rfl,by lia,by lia,wP (lo:=0) (n:=((m:Nat):Int).toNat) (λi σ b=>b=H/\∃ a,σ=[some (.int m),some (.int ((2 ^ i:Nat):Int)),a]) ⟨rfl,_,rfl⟩ ?_ ?_⟩
 ·rintro i σ b j ⟨rfl,a,rfl⟩
  refine⟨_,rfl,_,_,rfl,rfl,.inr ⟨by decide,by decide⟩,rfl,some (.int (0+(i:Nat))),?_⟩;rw[<- show ((2 ^ i:Nat):Int)*2=((2 ^ (i+1):Nat):Int) from by rw[Yq,Int.natCast_mul];rfl];rfl
 ·rintro σ b ⟨rfl,a,rfl⟩
  refine⟨_,rfl,?_⟩;rw[show ((m:Nat):Int).toNat=m from by lia];exact k
theorem zaP:FnScope ["k"] ["k"] (zP n5):=by trivial
theorem gA {f i:Addr}{fd j:FuncData}(F:Fun K "row_of" "row_of" n5 f fd) (G:Mgs mg) (a:Use P w K mg base "power_of_two" ["many"] 1 iI i j):FnOk P w K mg base CX0 2 f fd ["k"] vd:=by
 refine F.ok zaP (λc H Q E h=>?_) (λn A outer s H c Q E d h=>?_)
 ·obtain⟨m,rfl,_⟩:=h
  rfl
 obtain⟨m,rfl,e,k⟩:=h;refine⟨_,(@zL _ _ _ (@zj _ _ _ _ (@wM _ _ _ _ _ _ _ rfl (by rfl) G.list (by rfl) G.range (@zA _ _ _ _ _ (@zQ _ _ _ _ _ _ _ _ _ _ _ _ _ _ _ _ a.ok d (by rfl) a.m a.kp a.b .nil zZ (@zA _ _ _ _ _ (@qv _ 0 _ _ (by trivial)) zB (by rfl)) (by decide) (by rfl) (by rfl)) zB (by rfl)) (by rfl) (by rfl)))),?_⟩;have b:2 ^ m<=2 ^ 10:=YN (by decide) e;exact⟨_,rfl,m,rfl,by lia,2 ^ m,rfl,JM b (by decide),λl g=>k l g⟩
theorem bG:FnScope ["row","made","forks","ends"] ["row","made"] (zP tf):=by trivial
theorem mM {f I:Addr}{fd J:FuncData}(F:Fun K "net_of" "net_of" tf f fd) (G:Mgs mg) (j:Use P w K mg base "plain" ["net"] 2 ux I J):FnOk P w K mg base CX0 3 f fd ["row","made"] wK:=by
 refine F.ok bG (λu H Q E h=>?_) (λM A outer s H u Q E B h=>?_)
 ·obtain⟨p,c,lf,le,g,fs,row,i,rfl,_⟩:=h
  rfl
 obtain⟨p,c,lf,le,g,fs,row,i,rfl,C,D,q,pr,hle,ok,k⟩:=h;refine⟨_,(@zD _ _ _ _ _ (@yH _ _ _ _ _ _ (@qv _ 1 _ _ (by trivial)) (@yQ _ _ _ _ _ _ rfl (@zN _ _ _ _ _ (@zM _ _ 2 _ bG.nd rfl (.inl rfl) (by trivial)) (@zN _ _ _ _ _ (@zM _ _ 3 _ bG.nd rfl (.inl rfl) (by trivial)) yD (by rfl)) (by rfl)) (by rfl) (by rfl)) (by rfl) (by rfl) (by rfl)) (@zL _ _ _ (@zj _ _ _ _ (@zQ _ _ _ _ _ _ _ _ _ _ _ _ _ _ _ _ j.ok B (by rfl) j.m j.kp j.b .nil zZ (@zA _ _ _ _ _ (@yM _ _ _ _ _ (@zA _ _ _ _ _ (@zp _ _ _ _ _ _ _ _ _ zY (by rfl) G.len Y4 (@zA _ _ _ _ _ (@qv _ 0 _ _ (by trivial)) zB (by rfl)) (by decide) (by decide) (by rfl) (by rfl)) (@zA _ _ _ _ _ (@yA _ _ _ _ _ _ _ _ _ zw (by rfl) G.tuple (by rfl) (@zA _ _ _ _ _ (@qv _ 2 _ _ (by trivial)) zB (by rfl)) (by decide) (by decide) (by rfl) (by rfl)) (@zA _ _ _ _ _ (@yA _ _ _ _ _ _ _ _ _ zw (by rfl) G.tuple (by rfl) (@zA _ _ _ _ _ (@qv _ 3 _ _ (by trivial)) zB (by rfl)) (by decide) (by decide) (by rfl) (by rfl)) zB (by rfl)) (by rfl)) (by rfl))) zB (by rfl)) (by decide) (by rfl) (by rfl))))),?_⟩;refine⟨_,rfl,c,_,rfl,SqT.of D,rfl,_,_,rfl,_,_,rfl,rfl,?_⟩;refine⟨_,rfl,p,_,rfl,.inl (SqL.of C),_,rfl,lf,_,rfl,.inl ⟨SqL.of q,λfr b=>?_⟩⟩;have m:=zC b (.tup g);refine⟨_,rfl,le,_,rfl,.inl ⟨SqL.of (m _ _ hle),λa d=>?_⟩⟩;have l:=zC d (.tup (zJ i));refine⟨(by show 3<=sizeLine;decide),λr o=>?_⟩;have e:=zC o (.tup [.int ((zJ row).length:Nat),.ref fr,.ref a]);have y:L2.upd (L2.upd (L2.upd H fr (.tup g)) a (.tup (zJ i))) r (.tup [.int ((zJ row).length:Nat),.ref fr,.ref a]) r=some (.tup [.int (row.length:Nat),.ref fr,.ref a]):=by rw[zG,zK]
 refine⟨r,fr,a,g,⟨row.length,fs,i⟩,rfl,ok,⟨y,e _ _ (l _ _ (zS b _)),pr.tups (Tups.of ((m.trans l).trans e)),e _ _ (zS d _)⟩,λx t n L v z=>k x t a n L (((m.trans l).trans e).trans v) z⟩
end
end K89
namespace L2
open PySem PySem.Spec PyProof.Rows
abbrev e2 (elt tg iter b a:Expr)(ifs:List Expr)(scope:Scope)(pos:Pos):Expr:=.ListComp elt [⟨tg,iter,[],0⟩,⟨b,a,ifs,0⟩] scope pos
theorem kZ (elt tg iter b a:Expr)(ifs:List Expr)(scope:Scope)(pos:Pos)(it acc:Value)(env:Env) :
  compTurn (e2 elt tg iter b a ifs scope pos) 0 it acc env=(standAt iter.pos >>= λ_=>pyNext it >>= λr=>match r with
   | none=>pure (.done .next)
   | some v=>letOwnedTupleGo tg it v >>= λ_=>assign tg env v >>= λ_ =>
    (eval a env >>= λx=>standAt a.pos >>= λ_=>foldedSetIterable a env x >>= λx=>holding [x] (pyIter x) >>= λi1=>runOwn (.compStart (e2 elt tg iter b a ifs scope pos) 1 i1 acc env) env >>= λ_ =>
     again (.compLoop (e2 elt tg iter b a ifs scope pos) 0 it acc env))):=by rfl
theorem kY (elt tg iter b a:Expr)(scope:Scope)(pos:Pos)(it acc:Value)(env:Env) :
  compTurn (e2 elt tg iter b a [] scope pos) 1 it acc env=(standAt a.pos >>= λ_=>pyNext it >>= λr=>match r with
   | none=>pure (.done .next)
   | some v=>letOwnedTupleGo b it v >>= λ_=>assign b env v >>= λ_ =>
    ((eval elt env >>= λx=>call (.builtin "list.append") [acc,x] >>= λ_=>pure ()) >>= λ_ =>
     again (.compLoop (e2 elt tg iter b a [] scope pos) 1 it acc env))):=by rfl
theorem nH (elt tg iter b a c:Expr)(scope:Scope)(pos:Pos)(it acc:Value)(env:Env) :
  compTurn (e2 elt tg iter b a [c] scope pos) 1 it acc env=(standAt a.pos >>= λ_=>pyNext it >>= λr=>match r with
   | none=>pure (.done .next)
   | some v=>letOwnedTupleGo b it v >>= λ_=>assign b env v >>= λ_=>(forIn [c] true λc r=>if r=true then (isTrue c env (eval c env) >>= λok=>pure (ForInStep.yield ok)) else pure (ForInStep.yield r)) >>= λok =>
    if ok=true then
    ((eval elt env >>= λx=>call (.builtin "list.append") [acc,x] >>= λ_=>pure ()) >>= λ_ =>
     again (.compLoop (e2 elt tg iter b a [c] scope pos) 1 it acc env)) else again (.compLoop (e2 elt tg iter b a [c] scope pos) 1 it acc env)):=by rfl
section
variable {prog:Program}{w:World}{A:Around}{R:Result->Shared->Prop}{s:Shared}{elt tg iter tg1 iter1:Expr}{scope:Scope}{pos:Pos}{it acc:Value}{env:Env}
theorem ow {ifs:List Expr}(c:codeAny (model prog w) A (.compLoop (e2 elt tg iter tg1 iter1 ifs scope pos) 1 it acc env) R s)(h:wpAny (model prog w) A (pyIter it) (λi2 z=>codeAny (model prog w) A (.compLoop (e2 elt tg iter tg1 iter1 ifs scope pos) 1 i2 acc env) R z) NoX s) :
  codeAny (model prog w) A (.compStart (e2 elt tg iter tg1 iter1 ifs scope pos) 1 it acc env) R s:=by
 refine codeAny_of_tree ?_;show wpAny _ A ((compStart (e2 elt tg iter tg1 iter1 ifs scope pos) 1 it acc env).onRaise (λx=>do noteFrame x env;standAt theWindowsPlace)) _ _ s;refine wpAny_notedAt ?_;unfold compStart;refine(show wpAny _ _ (ask >>= _) _ _ s from J6 (wpAny_askSetting (wpAny_ite ?_)));split
 ·first
   | exact J6 (Jm (Jm ⟨rfl,c⟩))
   | exact Jm ⟨rfl,c⟩
 ·apply J6;refine Zq ?_
  first
   | exact J6 (Zx (J6 (JU h (λb d a=>Jm ⟨rfl,a⟩) λ_ _ z=>z.elim)))
   | (show wpAny _ _ (standAt iter1.pos >>= _) _ _ s;exact J6 (Zx (J6 (JU h (λb d a=>Jm ⟨rfl,a⟩) λ_ _ z=>z.elim))))
theorem kU {o:Option Expr}(J:Nat->Shared->Prop)(turn:∀ n s,J n s->Go (model prog w) A tg1 elt o it acc env R (λz=>∃ m,m<n/\J m z) s)(n:Nat)(h:J n s) :
  codeAny (model prog w) A (.compLoop (.ListComp elt [⟨tg,iter,[],0⟩,⟨tg1,iter1,o.toList,0⟩] scope pos) 1 it acc env) R s:=by
 cases o with
 | none =>
  refine codeAny_loop rfl J (λn s k=>?_) n h;show wpAny _ A ((compTurn (e2 elt tg iter tg1 iter1 [] scope pos) 1 it acc env).onRaise (λx=>do noteFrame x env;theTreesLotGoes x)) _ _ s;refine wpAny_noted ?_;rw[kY];refine J6 (Zx (J6 (JU (turn n s k) (λr a i=>?_) λ_ _ z=>z.elim)))
  cases r with
  | none=>exact Jm i
  | some v =>
   refine J6 (JU i (λ_ b q=>?_) λ_ _ z=>z.elim);refine J6 (JU q (λ_ c p=>?_) λ_ _ z=>z.elim);have g:wpAny (model prog w) A (eval elt env) (λx e=>wpAny (model prog w) A (call (.builtin "list.append") [acc,x]) (λ_ f=>∃ m,m<n/\J m f) NoX e) NoX c:=p
   exact J6 (J6 (JU g (λx d j=>J6 (JU j (λ_ e l=>Jm (Jm ⟨rfl,l⟩)) λ_ _ z=>z.elim)) λ_ _ z=>z.elim))
 | some t =>
  refine codeAny_loop rfl J (λn s k=>?_) n h;show wpAny _ A ((compTurn (e2 elt tg iter tg1 iter1 [t] scope pos) 1 it acc env).onRaise (λx=>do noteFrame x env;theTreesLotGoes x)) _ _ s;refine wpAny_noted ?_;rw[nH];refine J6 (Zx (J6 (JU (turn n s k) (λr a i=>?_) λ_ _ z=>z.elim)))
  cases r with
  | none=>exact Jm i
  | some v =>
   refine J6 (JU i (λ_ b q=>?_) λ_ _ z=>z.elim);refine J6 (JU q (λ_ c p=>?_) λ_ _ z=>z.elim);have g:wpAny (model prog w) A (isTrue t env (eval t env)) (λyes d=>if yes=true then wpAny (model prog w) A (eval elt env) (λx e=>wpAny (model prog w) A (call (.builtin "list.append") [acc,x]) (λ_ f=>∃ m,m<n/\J m f) NoX e) NoX d else ∃ m,m<n/\J m d) NoX c:=p;refine J6 (wpAny_tests_one (JU g (λyes d j=>?_) λ_ _ z=>z.elim))
   cases yes with
   | false=>exact Jm ⟨rfl,j⟩
   | true=>exact J6 (J6 (JU j (λx e l=>J6 (JU l (λ_ f u=>Jm (Jm ⟨rfl,u⟩)) λ_ _ z=>z.elim)) λ_ _ z=>z.elim))
theorem kW {ifs:List Expr}(J:Nat->Shared->Prop)(turn:∀ n s,J n s->wpAny (model prog w) A (pyNext it) (λr a=>match r with
   | none=>R (.ok .next) a
   | some v=>wpAny (model prog w) A (letOwnedTupleGo tg it v) (λ_ b=>wpAny (model prog w) A (assign tg env v) (λ_ c=>wpAny (model prog w) A (eval iter1 env) (λx d=>wpAny (model prog w) A (pyIter x) (λi1 e =>
     codeAny (model prog w) A (.compStart (e2 elt tg iter tg1 iter1 ifs scope pos) 1 i1 acc env) (λr f=>match r with|.ok _=>∃ m,m<n/\J m f|.error _=>False) e) NoX d) NoX c) NoX b) NoX a) NoX s)(n:Nat)(h:J n s)(hs:∀ x,foldedSetIterable iter1 env x=pure x) :
  codeAny (model prog w) A (.compLoop (e2 elt tg iter tg1 iter1 ifs scope pos) 0 it acc env) R s:=by
 refine codeAny_loop rfl J (λn s j=>?_) n h;show wpAny _ A ((compTurn (e2 elt tg iter tg1 iter1 ifs scope pos) 0 it acc env).onRaise (λx=>do noteFrame x env;theTreesLotGoes x)) _ _ s;refine wpAny_noted ?_;rw[kZ];refine J6 (Zx (J6 (JU (turn n s j) (λr a i=>?_) λ_ _ z=>z.elim)))
 cases r with
 | none=>exact Jm i
 | some v =>
  refine J6 (JU i (λ_ b p=>?_) λ_ _ z=>z.elim);refine J6 (JU p (λ_ c o=>?_) λ_ _ z=>z.elim);refine J6 (JU o (λx d l=>?_) λ_ _ z=>z.elim);refine J6 (Zx (J6 (wpAny_of_eq (hs x) (J6 (Yx (JU l (λi1 e k=>?_) λ_ _ z=>z.elim))))));refine J6 (wpAny_runOwn (codeAny_mono k (λr f g=>?_)))
  cases r with
  | ok q=>exact Jm ⟨rfl,g⟩
  | error x=>exact g.elim
end
def LCW1 (J:It)(g:TG)(tt:TT)(k:TE)(l:Addr)(Q:List V->St->Hp->Prop)(W:Nat->Nat->List V->St->Hp->Prop):Prop :=
 ∀ i m acc c d,W i m acc c d->d l=some (.lst acc) /\
  ((J.stop i d/\Q acc c d)\/(J.go i d/\∀ x j,J.yld i d x j->g x c j λa n=>tt a n λb h =>
   if b=true then k a h λy f=>f l=some (.lst acc)/\acc.length<sizeLine/\∃ e,e<m/\W (i+1) e (acc++[y]) a (upd f l (.lst (acc++[y])))
   else ∃ e,e<m/\W (i+1) e acc a h))
def aT (cap:List (Option Nat))(n:TI)(g:TG)(d:TI)(q:TG)(tt:TT)(o:TE):TE:=λσ H Q=>n σ H λJ j=>∀ l,j l=none ->
 ∃ W:Nat->Nat->List V->St->Hp->Prop,(∃ m,W 0 m [] (ju cap σ) (upd j l (.lst []))) /\
  ∀ i m acc c a,W i m acc c a->a l=some (.lst acc)/\((J.stop i a/\Q (.ref l) a)\/(J.go i a/\∀ x h,J.yld i a x h->g x c h λb t=>d b t λr s =>
   ∃ f:Nat->Nat->List V->St->Hp->Prop,(∃ p,f 0 p acc b s)/\LCW1 r q tt o l (λac k G=>∃ e,e<m/\W (i+1) e ac k G) f))
theorem gS {X:Cx}{elt tg iter P B:Expr}{o:Option Expr}{scope:Scope}{pos a9:Pos}{wi bS:TI}{g g1:TG}{tt:TT}{te:TE}{N':List Str}{cap:List (Option Nat)}{use:Option (Value->Sem Unit)}{Q0:Value->Shared->Prop}(hc:X.calm=true)(hi:PI X tg iter wi)(ck:CapOk X.N N' X.env.scope scope cap)(hg:∀ C s₀ H₀ fp pins,PG (yW X N' scope C s₀ H₀ fp pins) tg g)(c0:∀ C s₀ H₀ fp pins,PI (yW X N' scope C s₀ H₀ fp pins) P B bS)(c1:∀ C s₀ H₀ fp pins,PG (yW X N' scope C s₀ H₀ fp pins) P g1)(ht:∀ C s₀ H₀ fp pins,PTo (yW X N' scope C s₀ H₀ fp pins) o tt)(he:∀ C s₀ H₀ fp pins,PE (yW X N' scope C s₀ H₀ fp pins) elt te)(hs:∀ x,foldedSetIterable iter X.env x=pure x)(ct:∀ C x,foldedSetIterable B (compEnvC scope (va X.env.cells scope.names []) C X.env) x=pure x){pins:List (Addr × Obj)}{s:Shared}{σ:St}{H:Hp}{Q:VK}(I:Inv X pins σ H s)(h:aT cap wi g bS g1 tt te σ H Q)(fin:∀ (l C:Addr) (H4:Hp) (s5:Shared) (m:Str->Option Value),Inv X pins σ H4 s5->Q (.ref l) H4->s5.heap.Ns C m->FpOk X pins H4 C->compPost (model X.prog X.w) X.A X.xe use Q0 (.ref l) C (.ok .next) s5) :
  wpAny (model X.prog X.w) X.A (comprehension (.ListComp elt [⟨tg,iter,[],0⟩,⟨P,B,o.toList,0⟩] scope pos) scope X.env a9 (newList []) false (eval iter X.env) use) Q0 X.xe s:=by
 have N:∀ y∈scope.names,y.2=.free->∃ c,X.env.cells.lookup y.1=some c:=λy hy hf=>I.ok.has y.1 (ck.free y hy hf);refine wpAny_comprehension_free (use:=use) rfl hs (ss N) ck.kind ck.names (thn (hi pins s σ H _ I h) λv s1 h1=>thn h1 λdt F h2=>?_);obtain⟨it,fp,tn,J,H2,e,I2,T,b3,f2,body⟩:=h2;subst e;have bo:H2 F.heap.objs.size=none:=I2.hok.fresh (Jf _);obtain⟨W,⟨m0,w0⟩,turn⟩:=body F.heap.objs.size bo;have A:Inv X pins σ (upd H2 F.heap.objs.size (.lst [])) { F with heap:=F.heap.push { cls:=.type "list",data:=.seq ([]:List Value).toArray },toks:=F.toks }:=I2.lnew (its:=[]) (t':=F.toks) .nil (JX _);refine Zy (wpAny_newFunctionEnv ck.nocell (by intro y hy;simp at hy) (λE M L=>?_) ck.kind);dsimp only at M L ⊢;generalize hl:F.heap.objs.size=l at *;generalize hP:F.heap.push { cls:=.type "list",dict:=none,data:=.seq ([]:List Value).toArray }=P2 at *;generalize c5:upd H2 l (.lst [])=H3 at *;have old:∀ b o,P2.get? b=some o->E.get? b=some o:=λb o e=>L.extBut b o (JH (Jc e)) (J8 _ e);have bl:∀ b o,F.heap.get? b=some o->P2.get? b=some o:=λb o e=>hP ▸ J8 _ e
 have b8:∀ b∈fp,b<l:=λb a=>by
  obtain⟨o,e,_⟩:=T.obj _ _ b3 b a;rw[<- hl];exact Jc e
 have c7:∀ b∈fp,H3 b=none:=λb a=>by
  rw[<- c5,zH (JH (b8 b a))];exact(f2 b a).1
 have c4:P2.objs.size=l+1:=by rw[<- hP,Zh,hl]
 have D:∀ x c,(va X.env.cells scope.names []).lookup x=some c->X.env.cells.lookup x=some c:=λx c e=>uD _ _ x c N (λ_ _ z=>by simp at z) e;generalize b5:({ F with heap:=P2,toks:=F.toks }:Shared)=s3 at *;have w:s3.heap=P2:=by rw[<- b5]
 let Y:=yW X N' scope P2.objs.size s3 H3 fp pins
 have K:Y.Ok:=by
  refine⟨A.ok.mod,ck.kind,A.ok.glob,A.ok.blt,by show s3.heap.objs.size<=P2.objs.size;rw[w];exact Jf _,λx y c e1 e2=>A.ok.inj x y c (D x c e1) (D y c e2),λx hx=>?_,λx c hx=>absurd (show false=true from hx) Jp,A.ok.hd,A.ok.frames,.inl rfl,λb a=>⟨?_,λx c e=>?_⟩,A.bs,
   JM A.ok.bsz A.sz,λb o e a=>?_,λb a hz=>?_,A.stack,A.stkFree⟩
  ·have cn:scope.names.lookup x=some .free:=by
    rcases hx with hx|hx
    ·rcases xW hx with z|z
     ·exact absurd rfl (ck.nocell _ (vV z))
     ·exact z.2
    ·rcases xW hx with z|z
     ·exact z
     ·exact z.2
   exact wR _ _ x cn
  ·exact JH (by show b<P2.objs.size;rw[c4];exact Nat.lt_succ_of_lt (b8 b a))
  ·exact(f2 b a).2.2.2.2.1 x c (D x c e)
  ·rcases (f2 b a).2.2.2.1 with z|z
   ·exact A.ok.noex b o e z
   ·exact absurd (JG (Jc e) (JM A.ok.bsz z)) (YK _)
  ·rcases Jn.mp (A.stkSub b hz) with z|z
   ·exact(f2 b a).2.1 z
   ·exact(f2 b a).2.2.1 z
 have c3:Inv Y [] (ju cap σ) H3 { F with heap:=E,toks:=F.toks }:=by
  refine⟨K,by show F.os=s3.os;rw[<- b5],I2.bare,by show Un _ _ _ _ s3.heap E;rw[w];exact Un.kept old,⟨_,M,λj x v e1 e2 e3=>?_⟩,λx c e=>?_,?_,λx c e=>A.freeC x c (D x c e),λp hp=>?_,λb o e=>?_,?_⟩
  ·have da:N'[j]?=some x:=e1
   unfold ju at e2;rw[JD]at e2
   cases ec:cap[j]? with
   | none=>rw[ec]at e2;cases e2
   | some oc =>
    rw[ec]at e2
    cases oc with
    | none=>cases e2
    | some i =>
     have c8:σ[i]?=some (some v):=by
      cases ei:σ[i]? with
      | none=>simp[ei]at e2
      | some v' =>
       simp[ei]at e2;rw[e2]
     have hz:(x,some i)∈N'.zip cap:=by
      refine Ya (i:=j) ?_;rw[ZD];exact⟨da,ec⟩
     obtain⟨hN,hf,hk⟩:=ck.cap _ hz i rfl;obtain⟨m,hn,cx⟩:=A.loc;obtain⟨u,r,lk⟩:=cx i x v hN c8 (by rcases hk with z|z;exact .inr (.inl z);exact .inr (.inr z));refine⟨u,r,.inr ⟨?_,?_⟩⟩
     ·exact vg hf
     ·rcases lk with ⟨z,_⟩|⟨_,c,c2,ax⟩
      ·have z':X.env.scope.names.lookup x=some .local:=z
       rcases hk with q|q
       ·rw[q]at z';cases z'
       ·rw[q]at z';cases z'
      ·obtain⟨c',b6⟩:=wR (cells:=X.env.cells) scope.names [] x hf
       have:=D x c' b6;rw[c2]at this;cases this;obtain⟨ob,e,d⟩:=ax;rw[w]at e;exact⟨c,b6,ob,old c ob e,d⟩
  ·obtain⟨v,ob,e',d⟩:=A.cell x c (D x c e)
   rw[w]at e';exact⟨v,ob,old c ob e',d⟩
  ·refine A.hok.fresh ?_
   rw[w];exact Jf _
  ·have a7:p∈X.pn++pins:=(Jz.mp hp).elim (λz=>z) (λz=>nomatch z)
   obtain⟨e,n,ne,nf,d⟩:=A.pin p a7;rw[w]at e;refine⟨old _ _ e,n,JH (Jc e),λz=>?_,d⟩;rcases Jn.mp (A.stkSub _ z) with q|q
   ·exact ne q
   ·exact nf q
  ·have:=A.hok.kept (h':=E) (λb u q=>old b u (by rw[<- w];exact q))
   exact this b o e
  ·show (cap.map _).length=N'.length
   rw[Je,ck.len]
 have S:∀ {t:Hp},(∀ b∈fp,t b=none)->∀ b∈fp,FpOk Y [] t b:=λ{t} hn b a=>by
  refine⟨hn b a,(K.exf b a).1,K.exfs b a,.inl a,(K.exf b a).2,λp hp=>?_⟩;have a7:p∈X.pn++pins:=(Jz.mp hp).elim (λz=>z) (λz=>nomatch z);exact(f2 b a).2.2.2.2.2 p a7
 have b4:tn 0 E:=T.keep 0 _ _ b3 λb a o e=>old b o (bl b o e)
 have loop:codeAny (model X.prog X.w) X.A (.compLoop (.ListComp elt [⟨tg,iter,[],0⟩,⟨P,B,o.toList,0⟩] scope pos) 0 (.ref it) (.ref l) Y.env) (compPost (model X.prog X.w) X.A X.xe use Q0 (.ref l) P2.objs.size) { F with heap:=E,toks:=F.toks }:=by
  refine kW (λn s'=>∃ i acc f t,Inv Y [] f t s'/\tn i s'.heap/\(∀ b∈fp,t b=none)/\W i n acc f t) ?_ m0 ⟨0,[],_,H3,c3,b4,c7,w0⟩ (ct _);rintro n s4 ⟨i,acc,a4,H4,I4,b2,b7,w4⟩;obtain⟨dn,q4⟩:=turn i n acc a4 H4 w4;rcases q4 with ⟨stop,qn⟩|⟨go,step⟩
  ·refine thn (T.done Y rfl rfl rfl hc i [] s4 a4 H4 Y.xe I4 (S b7) b2 stop) λr s5 ⟨hr,I5⟩=>?_
   subst hr;obtain⟨m,hn,_⟩:=id I5.loc;have un:Un (frs X.stack) fp H3 H4 s3.heap s5.heap:=I5.base;have b9:s3.heap.objs.size<=P2.objs.size:=by rw[w];exact Jf _
   have IX:Inv X pins σ H4 s5:=A.call' (ch:=fp) I5.os un I5.hok I5.bare λb a=>⟨(f2 b a).2.2.2.1,(f2 b a).2.1,(f2 b a).2.2.2.2.1,(f2 b a).2.2.2.2.2⟩;exact fin l P2.objs.size H4 s5 m IX qn hn (A.fpOk b9 I5.free)
  ·refine thn (T.item Y rfl rfl rfl hc i [] s4 a4 H4 Y.xe I4 (S b7) b2 go) λr s5 ⟨u,hr,h5⟩=>?_
   subst hr;refine thn h5 λ_ s6 ⟨x,H6,I6,r6,y6,a6,c6⟩=>?_;have dj:=I6.pinned (S c6) (T.obj _ _ a6);refine thn (hg _ _ _ _ _ _ s6 a4 H6 x u _ dj r6 (step x H6 y6)) λ_ s7 ⟨bx,H7,I7,q7⟩=>?_
   have again:∀ {a3:St}{H9:Hp}{s9:Shared}{U:List V},Inv Y ([]++wm fp s6.heap) a3 H9 s9->(∃ m',m'<n/\W (i+1) m' U a3 H9)->∃ m,m<n/\∃ i acc f t,Inv Y [] f t s9/\tn i s9.heap/\(∀ b∈fp,t b=none)/\W i m acc f t:=λ{a3 H9 s9 U} I9 ⟨m',hm,w9⟩=>by
    refine⟨m',hm,i+1,U,a3,H9,I9.unpinned,T.keep _ _ _ a6 λb a o e=>(I9.pin (b,o) (JJ _ (JJ _ (yj a e)))).1,λb a=>?_,w9⟩;obtain⟨o,e,d⟩:=T.obj _ _ a6 b a;exact(I9.pin (b,o) (JJ _ (JJ _ (yj a e)))).2.1
   generalize ([]++wm fp s6.heap:List (Addr × Obj))=pz at again I7;refine thn (c0 _ _ _ _ _ _ s7 bx H7 _ I7 q7) λv1 s8 h8=>thn h8 λdm s9 h9=>?_;obtain⟨cb,R,b0,J1,H9,e1,I9,T1,b1,f9,W1,⟨m1,w1⟩,ab⟩:=h9;subst e1;have G:∀ {t:Hp},(∀ b∈R,t b=none)->∀ b∈R,FpOk Y pz t b:=λhn b a=>⟨hn b a,(f9 b a).2⟩
   have Z:codeAny (model X.prog X.w) X.A (.compLoop (.ListComp elt [⟨tg,iter,[],0⟩,⟨P,B,o.toList,0⟩] scope pos) 1 (.ref cb) (.ref l) Y.env) (λr z=>match r with|.ok _=>∃ m,m<n/\∃ i acc f t,Inv Y [] f t z/\tn i z.heap/\(∀ b∈fp,t b=none)/\W i m acc f t|.error _=>False) s9:=by
    refine kU (λn s'=>∃ i acc f t,Inv Y pz f t s'/\b0 i s'.heap/\(∀ b∈R,t b=none)/\W1 i n acc f t) ?_ m1 ⟨0,acc,bx,H9,I9,b1,λb a=>(f9 b a).1,w1⟩;rintro k t4 ⟨j,ac,a0,G4,K4,u4,v4,z4⟩;obtain⟨dp,p4⟩:=ab j k ac a0 G4 z4;rcases p4 with ⟨ak,pn⟩|⟨go1,ao⟩
    ·refine thn (T1.done Y rfl rfl rfl hc j pz t4 a0 G4 Y.xe K4 (G v4) u4 ak) λr t5 ⟨hr,K5⟩=>?_
     subst hr;exact again K5 pn
    ·refine thn (T1.item Y rfl rfl rfl hc j pz t4 a0 G4 Y.xe K4 (G v4) u4 go1) λr t5 ⟨u,hr,h5⟩=>?_
     subst hr;refine thn h5 λ_ t6 ⟨y,G6,K6,e6,d6,u6,v6⟩=>?_;have dc:=K6.pinned (G v6) (T1.obj _ _ u6);refine thn (c1 _ _ _ _ _ _ t6 a0 G6 y u _ dc e6 (ao y G6 d6)) λ_ t7 ⟨a5,G7,K7,p7⟩=>?_;refine pL (ht _ _ _ _ _ _ t7 a5 G7 _ K7 p7) λb t8 ⟨G8,K8,p8⟩=>?_
     have O:∀ {aC:St}{G9:Hp}{t9:Shared}{a8:List V},Inv Y (pz++wm R t6.heap) aC G9 t9->(∃ m',m'<k/\W1 (j+1) m' a8 aC G9)->∃ m,m<k/\∃ i acc f t,Inv Y pz f t t9/\b0 i t9.heap/\(∀ b∈R,t b=none)/\W1 i m acc f t:=λ{aC G9 t9 a8} K9 ⟨m',hm,z9⟩=>by
      refine⟨m',hm,j+1,a8,aC,G9,K9.unpinned,T1.keep _ _ _ u6 λb a o e=>(K9.pin (b,o) (JJ _ (JJ _ (yj a e)))).1,λb a=>?_,z9⟩;obtain⟨o,e,d⟩:=T1.obj _ _ u6 b a;exact(K9.pin (b,o) (JJ _ (JJ _ (yj a e)))).2.1
     cases b with
     | false =>
      rw[Ja Jp]at p8 ⊢
      exact O K8 p8
     | true =>
      rw[Jb rfl]at p8 ⊢;refine thn (he _ _ _ _ _ _ t8 a5 G8 _ K8 p8) λyv t9 ⟨yy,G9,K9,e9,cz,cm,p9⟩=>?_;refine thn (y7 (X:=Y) _ t9 a5 G9 (.ref l) [yy] (.ref l) [yv] (λ_ t=>t=upd G9 l (.lst (ac++[yy]))) K9 rfl (.cons e9 .nil) ⟨l,ac,yy,rfl,rfl,cz,cm,rfl⟩) λ_ dr ⟨_,du,dd,_,c9⟩=>?_;subst c9;exact O dd p9
   exact ow Z (T1.self X.A 0 _ _ _ b1 Z)
 exact codeAny_compStart_list loop (T.self X.A 0 _ _ _ b4 loop)
theorem bV {X:Cx}{elt tg iter b a:Expr}{o:Option Expr}{scope:Scope}{pos:Pos}{j c:TI}{g n:TG}{tt:TT}{k:TE}{N':List Str}{cap:List (Option Nat)}(hc:X.calm=true)(hi:PI X tg iter j)(w:CapOk X.N N' X.env.scope scope cap)(u:∀ C s₀ H₀ fp pins,PG (yW X N' scope C s₀ H₀ fp pins) tg g)(e:∀ C s₀ H₀ fp pins,PI (yW X N' scope C s₀ H₀ fp pins) b a c)(i:∀ C s₀ H₀ fp pins,PG (yW X N' scope C s₀ H₀ fp pins) b n)(r:∀ C s₀ H₀ fp pins,PTo (yW X N' scope C s₀ H₀ fp pins) o tt)(v:∀ C s₀ H₀ fp pins,PE (yW X N' scope C s₀ H₀ fp pins) elt k)(hs:∀ x,foldedSetIterable iter X.env x=pure x:=by intro _;rfl)(d:∀ C x,foldedSetIterable a (compEnvC scope (va X.env.cells scope.names []) C X.env) x=pure x:=by intro _ _;rfl) :
  PE X (.ListComp elt [⟨tg,iter,[],0⟩,⟨b,a,o.toList,0⟩] scope pos) (aT cap j g c n tt k):=by
 intro pins s σ H Q I h;rw[eval_ListComp];exact gS (use:=none) hc hi w u e i r v hs d I h λl C z A m y q t f=>⟨m,t,λB p=>⟨.ref l,z,y.gone f p,rfl,q⟩⟩
end L2
namespace Own
open PySem PySem.Spec PyProof.Rows
abbrev IsZipC (h:Heap)(z TI TO:Addr)(own:Value)(c:Bool):Prop:=h.get? z=some { cls:=.type "zip",dict:=none,data:=.fields #[own,.bool c,.bool false,.ref TI,.ref TO],slots:=#[] }
section
variable {prog:Program}{w:World}{A:Around}{E:Value->Shared->Prop}{s:Shared}{z TI TO i1 i2:Addr}{f1 f2:List Addr}{n1 n2 k:Nat}{P1 P2:Nat->Value->Prop}{S1 S2:Nat->Heap->Prop}{a b:Value}
theorem js {a:Addr}{Q:Option Obj->Shared->Prop}(b:s.heap.get? a=none)(h:Q none s):wpAny (model prog w) A (loadIfAlive a) Q E s:=by
 have c:Q (s.heap.get? a) s:=b.symm ▸ h;exact λ_ _ _=>c
theorem pI {α:Type}{t:Addr}{c:Bool}{f:Bool->Sem α}{Q:α->Shared->Prop}(hz:IsZipN s.heap z TI TO t c)(a:s.heap.get? t=none)(h:wpAny (model prog w) A (f true) Q E s) :
  wpAny (model prog w) A (Builtin.SmallTypes.ownedTupleIsFree (.ref z) >>= f) Q E s:=by
 refine J6 ?_;unfold Builtin.SmallTypes.ownedTupleIsFree;refine rf 0 hz rfl rfl ?_;show wpAny _ _ (loadIfAlive ((t:Int).toNat) >>= _) _ _ _;rw[Yc];refine J6 (js a ?_);simp only[Option.isNone_none,Yz];exact Jm h
theorem kR (S:Sep z TI TO i1 i2 f1 f2)(F:Draws prog w A i1 f1 n1 P1 S1)(D:Draws prog w A i2 f2 n2 P2 S2){Q:Value->Shared->Prop}{t:Addr}{i:Bool}(hz:IsZipN s.heap z TI TO t i)(hn:s.heap.get? t=none)(hI:IsPair s.heap TI (.ref i1) (.ref i2))(hO:IsPair s.heap TO a b)(d1:S1 k s.heap)(d2:S2 k s.heap)(l1:k<n1)(l2:k<n2)(h:∀ x y h' X,P1 k x->P2 k y->IsZip h' z TI TO (rawInt s.heap.objs.size)->IsPair h' TO x y->S1 (k+1) h'->S2 (k+1) h'->IsPair h' s.heap.objs.size x y ->
   (∀ c o,c∉[z,TO,i1,i2]->s.heap.get? c=some o->h'.get? c=some o)->Q (.ref s.heap.objs.size) { s with heap:=h',toks:=X }) :
  wpAny (model prog w) A (Builtin.«zip.__next__» ⟨[.ref z],[]⟩) (λr Z=>∃ v,r=.done (.ret v)/\Q v Z) E s:=by
 have M:=S.all;simp only[JY,Jn,Jq,JW,Zd]at M;obtain⟨⟨zI,B,W,V⟩,⟨IO,I1,I2⟩,⟨O1,O2⟩,ab,_⟩:=M;refine rf 2 hz rfl rfl (rf 3 hz rfl rfl (J6 (Yf hI rfl (pI hz hn ?_))));rw[Jb rfl];refine J6 (Zq (rf 4 hz rfl rfl (J6 (Yi hz (show 0<5 by decide) λha U n=>J6 ?_))));have G:IsZipC ha z TI TO .ellipsis i:=U;simp only[List.zipIdx_cons,List.zipIdx_nil,Zu,ZQ];refine J6 (J6 (Wk (J6 (F.item k _ _ _ l1 (F.frame _ _ _ d1 λc g o e=>(n.2 c λq=>S.z1 (q ▸ g)).trans e) λx hb tb px db m=>Jm ?_))));have P:IsPair hb TO a b:=(m.2 TO O1).trans ((n.2 TO (Ne.symm B)).trans hO);refine J6 (Yf P rfl (J6 (wpAny_updateSeq_pair P λg Oc sc=>J6 (wpAny_letGo (Jm ?_)))));have I:IsPair g TO x b:=Oc;have H:S2 k g:=D.frame _ _ _ d2 λc d o e=>(sc.2 c λq=>S.t2 (q ▸ d)).trans ((m.2 c λq=>S.o2 (q ▸ d)).trans ((n.2 c λq=>S.z2 (q ▸ d)).trans e));refine J6 (J6 (Wk (J6 (D.item k _ _ _ l2 H λy hd Y py dd l=>Jm ?_))));have O:IsPair hd TO x b:=(l.2 TO O2).trans I;refine J6 (Yf O rfl (J6 (wpAny_updateSeq_pair O λf Oe j=>J6 (wpAny_letGo (Jm (Jm ?_))))));have u:IsPair f TO x y:=Oe;refine J6 (Yf u rfl (J6 (wpAny_newTuple (J6 ?_))));have sz:f.objs.size=s.heap.objs.size:=by rw[j.1,l.1,sc.1,m.1,n.1]
 have J:IsZipC f z TI TO .ellipsis i:=(j.2 z B).trans ((l.2 z V).trans ((sc.2 z B).trans ((m.2 z W).trans G)));have zn:f.objs.size≠z:=JV (Jc J);unfold Builtin.SmallTypes.ownedTupleHandOut;refine J6 (Yi (J8 _ J) (show 0<5 by decide) λhf T L=>Yi T (show 1<5 by decide) λC R K=>Jm ⟨_,rfl,?_⟩);have up:∀ c o,c≠z->f.get? c=some o->C.get? c=some o:=λc o q e=>(K.2 c q).trans ((L.2 c q).trans (J8 _ e));have new:IsPair C f.objs.size x y:=(K.2 _ zn).trans ((L.2 _ zn).trans (Jw _ rfl));have p:IsZip C z TI TO (rawInt f.objs.size):=R;rw[sz]at new p;show Q (.ref f.objs.size) _;rw[sz];refine h x y C Y px py p (up _ _ (Ne.symm B) u) ?_ ?_ new λc o g e=>?_
 ·exact F.frame _ _ _ db λc d o e=>up c o (λq=>S.z1 (q ▸ d)) ((j.2 c λq=>S.t1 (q ▸ d)).trans ((l.2 c λq=>S.o1 (q ▸ d)).trans ((sc.2 c λq=>S.t1 (q ▸ d)).trans e)))
 ·exact D.frame _ _ _ dd λc d o e=>up c o (λq=>S.z2 (q ▸ d)) ((j.2 c λq=>S.t2 (q ▸ d)).trans e)
 ·simp only[Jn,Jq,JW,Zd]at g
  obtain⟨i,N,c3,c4⟩:=g;exact up c o i ((j.2 c N).trans ((l.2 c c4).trans ((sc.2 c N).trans ((m.2 c c3).trans ((n.2 c i).trans e)))))
theorem kN (S:Sep z TI TO i1 i2 f1 f2) (m:Draws prog w A i1 f1 n1 P1 S1) {Q:Fin->Shared->Prop}{t:Addr}{d:Bool}(hz:IsZipN s.heap z TI TO t d) (hn:s.heap.get? t=none) (y:IsPair s.heap TI (.ref i1) (.ref i2)) (d1:S1 n1 s.heap)
  (h:∀ h' x,(∀ c o,c∉[z,TO,i1,i2]->s.heap.get? c=some o->h'.get? c=some o)->(∃ o,h'.get? x=some o/\o.cls=.type "StopIteration")->E (.ref x) { s with heap:=h' }):wpAny (model prog w) A (Builtin.«zip.__next__» ⟨[.ref z],[]⟩) Q E s:=by
 have j:=S.all;simp only[JY,Jn,Jq,JW,Zd]at j;obtain⟨⟨D,C,p,F⟩,⟨IO,J,I⟩,⟨H,G⟩,B,_⟩:=j;refine rf 2 hz rfl rfl (rf 3 hz rfl rfl (J6 (Yf y rfl (pI hz hn ?_))));rw[Jb rfl];refine J6 (Zq (rf 4 hz rfl rfl (J6 (Yi hz (show 0<5 by decide) λv n i=>J6 ?_))));have f:IsZipC v z TI TO .ellipsis d:=n;simp only[List.zipIdx_cons,List.zipIdx_nil,Zu,ZQ];refine J6 (J6 (Wk (J6 (m.done _ _ _ (m.frame _ _ _ d1 λc b o e=>(i.2 c λq=>S.z1 (q ▸ b)).trans e) λu x k ⟨r,ex,l⟩=>?_))));have g:IsZipC u z TI TO .ellipsis d:=k z _ p f;have xz:x≠z:=λq=>by rw[q,g]at ex;cases ex;exact absurd (show Value.type "zip" = Value.type "StopIteration" from l) (by decide)
 refine Yi g (show 0<5 by decide) λb _ sc=>h b x (λc o a e=>?_) ⟨r,(sc.2 x xz).trans ex,l⟩;simp only[Jn,Jq,JW,Zd]at a;exact(sc.2 c a.1).trans (k c o a.2.2.1 ((i.2 c a.1).trans e))
theorem kQ {t:Addr}{c:Bool}{o:Obj}(S:Sep z TI TO i1 i2 f1 f2)(l:Draws prog w A i1 f1 n1 P1 S1)(j:Draws prog w A i2 f2 n2 P2 S2){Q:Value->Shared->Prop}(hz:IsZipN s.heap z TI TO t c)(I:s.heap.get? t=some o)(K:IsPair s.heap TI (.ref i1) (.ref i2))(d1:S1 k s.heap)(d2:S2 k s.heap)(l1:k<n1)(l2:k<n2)(h:∀ x y h' D,P1 k x->P2 k y->IsZipN h' z TI TO t true->S1 (k+1) h'->S2 (k+1) h'->IsPair h' s.heap.objs.size x y ->
   (∀ c o,c∉[z,i1,i2]->s.heap.get? c=some o->h'.get? c=some o)->Q (.ref s.heap.objs.size) { s with heap:=h',toks:=D }) :
  wpAny (model prog w) A (Builtin.«zip.__next__» ⟨[.ref z],[]⟩) (λr G=>∃ v,r=.done (.ret v)/\Q v G) E s:=by
 have n:=S.all;simp only[JY,Jn,Jq,JW,Zd]at n;obtain⟨⟨O,N,C,B⟩,⟨IO,W,V⟩,⟨U,T⟩,M,_⟩:=n;refine rf 2 hz rfl rfl (rf 3 hz rfl rfl (J6 (Yf K rfl (tI hz I λR u g=>?_))));rw[Ja Jp];refine J6 ?_;simp only[List.forIn_toArray,Zu,ZQ];refine J6 (J6 (Yx (J6 (l.item k _ _ _ l1 (l.frame _ _ _ d1 λc a o e=>(g.2 c λq=>S.z1 (q ▸ a)).trans e) λx J P H db f=>Jm (Jm ?_)))));have m:S2 k J:=j.frame _ _ _ d2 λc b o e=>(f.2 c λq=>S.o2 (q ▸ b)).trans ((g.2 c λq=>S.z2 (q ▸ b)).trans e);refine J6 (J6 (Yx (J6 (j.item k _ _ _ l2 m λy i F py L d=>Jm (Jm (Jm ?_))))));refine J6 (wpAny_newTuple (Jm ⟨_,rfl,?_⟩) (hsz:=by show 2<=sizeLine;decide));have sz:i.objs.size=s.heap.objs.size:=by rw[d.1,f.1,g.1]
 show Q (.ref i.objs.size) _;rw[sz];have p:IsZipN i z TI TO t true:=(d.2 z B).trans ((f.2 z C).trans u);have new:(i.push { cls:=.type "tuple",data:=.seq #[x,y] }).get? s.heap.objs.size=some { cls:=.type "tuple",data:=.seq #[x,y] }:=by rw[<- sz];exact Jw _ rfl
 refine h x y _ F H py (J8 _ p) ?_ ?_ new λc o a e=>?_
 ·exact l.frame _ _ _ db λc b o e=>J8 _ ((d.2 c λq=>S.o1 (q ▸ b)).trans e)
 ·exact j.frame _ _ _ L λc b o e=>J8 _ e
 ·simp only[Jn,Jq,JW,Zd]at a
  exact J8 _ ((d.2 c a.2.2).trans ((f.2 c a.2.1).trans ((g.2 c a.1).trans e)))
def AnyZip (h:Heap)(z TI TO:Addr):Prop:=IsZip h z TI TO .none\/∃ t c,IsZipN h z TI TO t c
theorem AnyZip.obj {h:Heap}(x:AnyZip h z TI TO):∃ o,h.get? z=some o/\o.cls=.type "zip"/\∀ v,o.data≠.cell v:=by
 rcases x with x|⟨t,c,x⟩
 ·exact⟨_,x,rfl,λv q=>by cases q⟩
 ·exact⟨_,x,rfl,λv q=>by cases q⟩
theorem kS (S:Sep z TI TO i1 i2 f1 f2)(B:Draws prog w A i1 f1 n1 P1 S1)(u:Draws prog w A i2 f2 n2 P2 S2){Q:Value->Shared->Prop}(hz:AnyZip s.heap z TI TO)(q:IsPair s.heap TI (.ref i1) (.ref i2))(p:IsPair s.heap TO a b)(d1:S1 k s.heap)(d2:S2 k s.heap)(l1:k<n1)(l2:k<n2)(h:∀ x y h' d,P1 k x->P2 k y->AnyZip h' z TI TO->(∃ a b,IsPair h' TO a b)->S1 (k+1) h'->S2 (k+1) h'->IsPair h' s.heap.objs.size x y ->
   (∀ c o,c∉[z,TO,i1,i2]->s.heap.get? c=some o->h'.get? c=some o)->Q (.ref s.heap.objs.size) { s with heap:=h',toks:=d }) :
  wpAny (model prog w) A (Builtin.«zip.__next__» ⟨[.ref z],[]⟩) (λr G=>∃ v,r=.done (.ret v)/\Q v G) E s:=by
 rcases hz with hz|⟨t,c,hz⟩
 ·exact pH S B u hz q p d1 d2 l1 l2 λx y h' d l py g n j i nw f=>h x y h' d l py (.inr ⟨_,_,g⟩) ⟨_,_,n⟩ j i nw f
 ·cases D:s.heap.get? t with
  | none=>exact kR S B u hz D q p d1 d2 l1 l2 λx y h' d l py g n j i nw f=>h x y h' d l py (.inr ⟨_,_,g⟩) ⟨_,_,n⟩ j i nw f
  | some o =>
   have C:=S.all;simp only[JY,Jn,Jq,JW,Zd]at C;obtain⟨⟨L,F,N,M⟩,⟨IO,P,O⟩,⟨J,I⟩,K,_⟩:=C;refine kQ S B u hz D q d1 d2 l1 l2 λx y h' d l py g j i nw f=>h x y h' d l py (.inr ⟨_,_,g⟩) ⟨_,_,f TO _ (by simp[Ne.symm F,J,I]) p⟩ j i nw λc o H e=>f c o (λm=>H ?_) e;simp only[Jn,Jq,JW]at m ⊢;rcases m with m|m|m
   ·exact .inl m
   ·exact .inr (.inr (.inl m))
   ·exact .inr (.inr (.inr m))
theorem kO (S:Sep z TI TO i1 i2 f1 f2) (b:Draws prog w A i1 f1 n1 P1 S1) {Q:Fin->Shared->Prop}(hz:AnyZip s.heap z TI TO) (a:IsPair s.heap TI (.ref i1) (.ref i2)) (d1:S1 n1 s.heap)
  (h:∀ h' x,(∀ c o,c∉[z,TO,i1,i2]->s.heap.get? c=some o->h'.get? c=some o)->(∃ o,h'.get? x=some o/\o.cls=.type "StopIteration")->E (.ref x) { s with heap:=h' }):wpAny (model prog w) A (Builtin.«zip.__next__» ⟨[.ref z],[]⟩) Q E s:=by
 rcases hz with hz|⟨t,c,hz⟩
 ·exact pG S b hz a d1 h
 ·cases d:s.heap.get? t with
  | none=>exact kN S b hz d a d1 h
  | some o=>exact rH S b hz d a d1 h
theorem jZ {s:Shared}{E:Value->Shared->Prop}{Q:Value->Shared->Prop}(hz:AnyZip s.heap z TI TO)(h:Q (.ref z) s):wpAny (model prog w) A (pyIter (.ref z)) Q E s:=by
 obtain⟨a,b,c,_⟩:=hz.obj;have ty:s.TypeIs (.ref z) "zip":=⟨a,b,c⟩;exact wpAny_pyIter_slot ty F.slot_zip_iter (YS F.slot_zip_iter ty F.entry_zip_iter (show wpAny _ _ (ret (.ref z)) _ _ s from Jm ⟨_,rfl,"zip",_,ty,F.slot_zip_next.lookup,h⟩) (F.args_zip_iter_1 _))
end
end Own
namespace L2
open PySem PySem.Spec PyProof.Rows Own
theorem kX {P:Program}{w:World}{K:PySem.W.Frag}{y1:Str}{C:Pos}(V b2:Bool)(B O z TI TO i1 i2:Addr)(nd:[z,TI,TO,i1,i2].Nodup) :
  Turn P w K (.Name y1 C) (Itz K V b2 B O) [z,TI,TO,i1,i2] z (λi h=>AnyZip h z TI TO/\IsPair h TI (.ref i1) (.ref i2)/\(∃ a b,IsPair h TO a b)/\RIt V h i1 B i/\RIt b2 h i2 O i) where
 mem:=Ju
 obj:=λi h ⟨p,r,⟨a,b,F⟩,n,u⟩ c M=>by
  simp only[Jn,Jq,JW]at M;rcases M with rfl|rfl|rfl|rfl|rfl
  ·obtain⟨o,e,_,d⟩:=p.obj;exact⟨o,e,d⟩
  ·exact⟨_,r,λv q=>by cases q⟩
  ·exact⟨_,F,λv q=>by cases q⟩
  ·exact⟨_,n,λv q=>by cases q⟩
  ·exact⟨_,u,λv q=>by cases q⟩
 keep:=λi h h' ⟨p,r,⟨a,b,F⟩,n,u⟩ L=>⟨p.imp (λq=>L z (by simp) _ q) (λ⟨t,c,q⟩=>⟨t,c,L z (by simp) _ q⟩),L TI (by simp) _ r,⟨a,b,L TO (by simp) _ F⟩,L i1 (by simp) _ n,L i2 (by simp) _ u⟩
 item:=by
  intro X hP hw hK M i pins s σ H E I D ⟨p,r,⟨a,b,F⟩,n,u⟩ ⟨xs,ys,x,y,J,q2,R,hy⟩;subst hP hw hK;obtain⟨Q,Z,C⟩:=I.sq J;obtain⟨u2,r2,p2⟩:=I.sq q2;obtain⟨v1,e1,rx⟩:=Z.get R;obtain⟨v2,e2,ry⟩:=r2.get hy;have k:=nd;simp only[JY,Jn,Jq,JW,Zd]at k;obtain⟨⟨zI,zO,Y,W⟩,⟨IO,I1,I2⟩,⟨O1,O2⟩,m,_⟩:=k;have g:∀ c∈[z,TI,TO,i1,i2],c≠B:=λc f=>I.sq_ne J (D c f);have G:∀ c∈[z,TI,TO,i1,i2],c≠O:=λc f=>I.sq_ne q2 (D c f);have S:Sep z TI TO i1 i2 [i1,B] [i2,O]:=⟨nd,by simp[Y,g z (by simp)],by simp[O1,g TO (by simp)],by simp[Ne.symm m,g i2 (by simp)],by simp[W,G z (by simp)],by simp[O2,G TO (by simp)],by simp[m,G i1 (by simp)]⟩;have hd:=I.ok.hd M;have D1:=uC (prog:=X.prog) (w:=X.w) (A:=X.A.in1) hd V i1 B Q.toArray (C.ne n);have D2:=uC (prog:=X.prog) (w:=X.w) (A:=X.A.in1) hd b2 i2 O u2.toArray (p2.ne u);obtain⟨oz,N,cz,dz⟩:=p.obj;have j:s.TypeIs (.ref z) "zip":=⟨oz,N,cz⟩;unfold pyNext
  refine J6 (ZY (wpAny_callSpecial?_slot (name:="__next__") j YD (YS YD j ZX (kS S D1 D2 p r F ⟨n,C⟩ ⟨u,p2⟩ (by simpa using (J9.mp e1).1) (by simpa using (J9.mp e2).1)
   λw1 w2 h' tk ak ab zh ⟨oa,ob,Oh⟩ d1 d2 new U=>Jm ?_) (ZS _))))
  obtain rfl:v1=w1:=Jv (e1.symm.trans (by simpa using ak));obtain rfl:v2=w2:=Jv (e2.symm.trans (by simpa using ab));refine⟨_,rfl,Jm ?_⟩;have nz:s.heap.objs.size≠z:=JV (Jc N)
  have ax:∀ c∈[z,TI,TO,i1,i2],c≠s.heap.objs.size:=λc f=>by
   simp only[Jn,JW,Jq]at f;rcases f with rfl|rfl|rfl|rfl|rfl
   ·exact JH (Jc N)
   ·exact JH (Jc r)
   ·exact JH (Jc F)
   ·exact JH (Jc n)
   ·exact JH (Jc u)
  refine⟨.ref s.heap.objs.size,_,I.spunN (fp:=[z,TI,TO,i1,i2]) (λc o f q=>?_) D (Jf _) (tD new rx ry),rfl,⟨x,y,λl hl=>by rw[I.sq_inj hl J];exact R,λl hl=>by rw[I.sq_inj hl q2];exact hy,_,I.fresh,rfl,rfl⟩,
   ⟨zh,U TI _ (by simp[Ne.symm zI,IO,I1,I2]) r,⟨_,_,Oh⟩,d1.1,d2.1⟩,λc f=>by rw[zH (ax c f),(D c f).1]⟩
  simp only[Jn,Jq,JW,Zd]at f;exact U c o (by simp[f]) q
 done:=by
  intro X hP hw hK M i pins s σ H E I D ⟨p,r,⟨a,b,F⟩,n,u⟩ ⟨xs,J,R⟩;subst hP hw hK;obtain⟨Q,Z,C⟩:=I.sq J;have k:=nd;simp only[JY,Jn,Jq,JW,Zd]at k;obtain⟨⟨zI,zO,Y,W⟩,⟨IO,I1,I2⟩,⟨O1,O2⟩,m,_⟩:=k;have g:∀ c∈[z,TI,TO,i1,i2],c≠B:=λc f=>I.sq_ne J (D c f);have S:Sep z TI TO i1 i2 [i1,B] [i2]:=⟨nd,by simp[Y,g z (by simp)],by simp[O1,g TO (by simp)],by simp[Ne.symm m,g i2 (by simp)],by simp[W],by simp[O2],by simp[m]⟩;have ao:i=Q.toArray.size:=by rw[Jd,<- Z.length,R]
  obtain⟨oz,N,cz,dz⟩:=p.obj;have j:s.TypeIs (.ref z) "zip":=⟨oz,N,cz⟩;unfold pyNext
  refine J6 (ZY (wpAny_callSpecial?_slot (name:="__next__") j YD (YS YD j ZX
   (kO S (uC (prog:=X.prog) (w:=X.w) (A:=X.A.in1) (I.ok.hd M) V i1 B Q.toArray (C.ne n)) p r ⟨by rw[<- ao];exact n,C⟩ λh' x U ⟨o,eo,co⟩=>?_) (ZS _))))
  refine J6 (wpAny_isInstance (T:="StopIteration") (b:=true) ⟨o,eo,co⟩ isSubtype_stop (Jm ⟨rfl,I.spun (t':=s.toks) (fp:=[z,TI,TO,i1,i2]) (λc o f q=>U c o ?_ q) D⟩));simp only[Jn,Jq,JW,Zd]at f ⊢;exact⟨f.1,f.2.2.1,f.2.2.2.1,f.2.2.2.2⟩
 self:=λ_ _ _ _ _ st h=>jZ st.1 h
theorem eU {X:Cx}{a b:Expr}{t:TA}{p pos L:Pos}{C:Str}(j i:Bool) (O:Gl X "zip") (hm:X.mg "zip" = none) (ha:PA X [a,b] t) (hs:starEach [a,b] X.env=[(false,eval a X.env),(false,eval b X.env)]:=by rfl) (e:starEach [b] X.env=[(false,eval b X.env)]:=by rfl) :
  PI X (.Name C L) (.Call (.Name "zip" p) [a,b] [] pos) (za8 X.K j i t):=by
 intro pins s σ H R I h;refine Call_ (xC I O hm (u:=.type "zip") (by rfl) (Y3 (thn (ha pos pins s σ H _ I h) λZ D ⟨Y,U,d,J,K⟩=>?_) (by rw[hs,e]) (by rw[e];rfl)));obtain⟨B,A,W,V,rfl,r,o,q⟩:=K;obtain⟨u,v,rfl,G,E⟩:=J.two;cases G;cases E;obtain⟨n,_,l⟩:=d.sq r;obtain⟨m,_,k⟩:=d.sq o;refine callType_new F.called_zip (by decide) (F.typeCall_zip_2 _ _) (F.newCall_zip_2 _ _) (λobj=>F.args_object_init_3 obj _ _) F.entry_zip_new (rq j i B A n.toArray m.toArray) ⟨l,k,λh' z ⟨TI,TO,x,w,M,f,g,Q,P,T,S⟩ N=>⟨⟨_,g,rfl⟩,?_⟩⟩;exact wpAny_pyIter_zip g ⟨_,[z,TI,TO,x,w],_,_,U,rfl,d.kept (t':=D.toks) N,kX j i B A z TI TO x w M,⟨.inl g,Q,⟨_,_,P⟩,T,S⟩,λc y=>d.fpOk (f c y) (d.hok.fresh (f c y)),q⟩
theorem cB {K:PySem.W.Frag}{j h:Bool}{n k:Addr}{xs ys:List V}(N:xs.length=ys.length){g D:TG}{f:TI}{tt:TT}{A:TE}{l:Addr}{σ:St}{H:Hp}{Q:VK}(b:Nat->List V->St->Hp->Prop)(J:b 0 [] σ H)(F:∀ i acc σ H,b i acc σ H->H l=some (.lst acc)/\SqB j K H n xs/\SqB h K H k ys)(hs:∀ i acc σ H x y T,xs[i]?=some x->ys[i]?=some y->H T=none->b i acc σ H->g (.ref T) σ (upd H T (.tup [x,y])) λa u=>f a u λs t =>
   ∃ c:Nat->Nat->List V->St->Hp->Prop,(∃ r,c 0 r acc a t)/\LCW1 s D tt A l (λac o G=>Nx xs.length i (b (i+1) ac o G)) c)(hd:∀ acc σ H,b xs.length acc σ H->Q (.ref l) H):∃ W:Nat->Nat->List V->St->Hp->Prop,(∃ m,W 0 m [] σ H) /\
   ∀ i m acc d H',W i m acc d H'->H' l=some (.lst acc)/\(((Itz K j h n k).stop i H'/\Q (.ref l) H')\/((Itz K j h n k).go i H'/\∀ x w,(Itz K j h n k).yld i H' x w->g x d w λa u=>f a u λs t =>
    ∃ c:Nat->Nat->List V->St->Hp->Prop,(∃ r,c 0 r acc a t)/\LCW1 s D tt A l (λac o G=>∃ C,C<m/\W (i+1) C ac o G) c)):=by
 refine⟨λi m acc σ H=>m=xs.length-i/\i<=xs.length/\b i acc σ H,⟨xs.length,by simp,JX _,J⟩,?_⟩;rintro i m acc σ H ⟨rfl,O,p⟩;obtain⟨E,q,B⟩:=F i acc σ H p;refine⟨E,?_⟩;by_cases z:i<xs.length
 ·refine .inr ⟨⟨xs,ys,_,_,q,B,J0 z,J0 (by simp_all)⟩,λv w ⟨x,y,ex,L,T,I,M,e2⟩=>?_⟩
  subst M e2;exact hs i acc σ H x y T (ex xs q) (L ys B) I p
 ·have e:i=xs.length:=by lia
  subst e;exact .inl ⟨⟨xs,q,rfl⟩,hd acc σ H p⟩
theorem cC {K:PySem.W.Frag}{a:Addr}{zs:List V}{g:TG}{h:TE}{l:Addr}{ac:List V}{σ:St}{H:Hp}{Q:List V->St->Hp->Prop}(b:Nat->List V->St->Hp->Prop)(o:b 0 ac σ H)(n:∀ i acc σ H,b i acc σ H->H l=some (.lst acc)/\SqT K H a zs)(hs:∀ i x acc σ H,zs[i]?=some x->b i acc σ H->g x σ H λc q=>h c q λy j=>j l=some (.lst acc)/\acc.length<sizeLine/\Nx zs.length i (b (i+1) (acc++[y]) c (upd j l (.lst (acc++[y])))))(hd:∀ acc σ H,b zs.length acc σ H->Q acc σ H):∃ W:Nat->Nat->List V->St->Hp->Prop,(∃ m,W 0 m ac σ H)/\LCW1 (Itt K a) g j9 h l Q W:=by
 refine⟨λi m acc σ H=>m=zs.length-i/\i<=zs.length/\b i acc σ H,⟨_,rfl,JX _,o⟩,?_⟩;rintro i m acc σ H ⟨rfl,r,p⟩;obtain⟨k,d⟩:=n i acc σ H p;refine⟨k,?_⟩;by_cases f:i<zs.length
 ·refine .inr ⟨⟨zs,zs[i],d,J0 f⟩,λx s ⟨e,y⟩=>?_⟩
  subst e;exact hs i x acc σ _ (y zs d) p
 ·obtain rfl:i=zs.length:=by lia
  exact .inl ⟨⟨zs,d,Jf _⟩,hd acc σ H p⟩
def zW {α:Type}(xs ys:List α):List α:=(xs.zip ys).flatMap λp=>[p.1,p.2]
theorem xF {α:Type}:∀ (xs ys:List α),xs.length=ys.length->(zW xs ys).length=2*xs.length
 | [],[],_=>rfl
 | x::xs,y::ys,h=>by
  have h':xs.length=ys.length:=by simpa using h
  have:=xF xs ys h';show (zW xs ys).length+2=2*(xs.length+1);rw[this];lia
theorem xi {α β:Type}(f:α->β)(xs ys:List α):zW (xs.map f) (ys.map f)=(zW xs ys).map f:=by
 induction xs generalizing ys with
 | nil=>rfl
 | cons x xs ih =>
  cases ys with
  | nil=>rfl
  | cons y ys =>
   show f x::f y::zW (xs.map f) (ys.map f)=f x::f y::(zW xs ys).map f;rw[ih ys]
theorem xu {α β:Type}{f g:α->Option β}:∀ (l:List α),(∀ x∈l,f x=g x)->l.filterMap f=l.filterMap g
 | [],_=>rfl
 | x::l,h=>by
  have e:=xu l λy a=>h y (Jr _ a);simp only[ZE,h x Ju,e]
def by2 {α:Type}(off:Nat)(xs:List α):List α:=(List.range ((xs.length+1-off) / 2)).filterMap λk=>xs[off+2*k]?
theorem wc {α:Type}(off:Nat)(a:off<=1)(xs:List α):(by2 off xs).length=(xs.length+1-off) / 2:=by
 unfold by2
 have e:(List.range ((xs.length+1-off) / 2)).filterMap (λk=>xs[off+2*k]?)=(List.range ((xs.length+1-off) / 2)).pmap (λk (h:k<(xs.length+1-off) / 2)=>xs[off+2*k]'(by omega)) (λk h=>JC.mp h):=by
  rw[List.pmap_eq_map_attach,<- List.filterMap_eq_map]
  conv=>lhs;rw[<- List.attach_map_subtype_val (List.range ((xs.length+1-off) / 2)),Zt]
  refine xu _ λk b=>?_;have:=JC.mp k.2;show xs[off+2*k.1]?=some _;rw[J0 (by omega)]
 rw[e,List.length_pmap,Jx]
theorem yL {α β:Type}(f:α->β)(off:Nat)(xs:List α):by2 off (xs.map f)=(by2 off xs).map f:=by
 unfold by2;rw[Je,List.map_filterMap];refine xu _ λk _=>?_;rw[JD]
theorem kT {xs:List V}{us:List Value}(r:Vals xs us)(a:List Nat):Vals (a.filterMap λk=>xs[k]?) (a.filterMap λk=>us[k]?):=by
 induction a with
 | nil=>exact .nil
 | cons i a ih =>
  cases e:xs[i]? with
  | none =>
   have e2:us[i]?=none:=Z3.mpr (by rw[<- r.length];exact Z3.mp e)
   rw[List.filterMap_cons_none e,List.filterMap_cons_none e2];exact ih
  | some x =>
   obtain⟨u,e2,b⟩:=r.get e;rw[List.filterMap_cons_some e,List.filterMap_cons_some e2];exact .cons b ih
theorem ir (items:Array Value):slicePick items none none (some 2)=((List.range ((items.size+1) / 2)).filterMap λk=>items.toList[2*k]?).toArray:=by
 have b:sliceBounds none none (some 2) items.size=(0,(items.size:Int),2):=rfl
 have c:sliceRange 0 (items.size:Int) 2=(List.range ((items.size+1) / 2)).map λk=>2*k:=by
  unfold sliceRange;have a:(2:Int) > 0:=by decide
  by_cases h:(0:Int)<items.size
  ·have e:(((items.size:Int)-0+2-1) / 2).toNat=(items.size+1) / 2:=by lia
   simp only[a,Yz,h,e];apply JP;intro k _;lia
  ·have e:items.size=0:=by simp_all
   rw[e];rfl
 unfold slicePick;rw[b];show ((sliceRange 0 (items.size:Int) 2).filterMap (items[·]?)).toArray=_;rw[c,Zt];refine Yh List.toArray (xu _ λk _=>?_);simp
theorem jE (items:Array Value):slicePick items (some 1) none (some 2)=((List.range (items.size / 2)).filterMap λk=>items.toList[1+2*k]?).toArray:=by
 have b:sliceBounds (some 1) none (some 2) items.size=(max 0 (min 1 (items.size:Int)),(items.size:Int),2):=rfl
 have c:sliceRange (max 0 (min 1 (items.size:Int))) (items.size:Int) 2=(List.range (items.size / 2)).map λk=>1+2*k:=by
  unfold sliceRange;have a:(2:Int) > 0:=by decide
  by_cases h:(1:Int)<items.size
  ·have m:max 0 (min 1 (items.size:Int))=1:=by lia
   rw[m];have e:(((items.size:Int)-1+2-1) / 2).toNat=items.size / 2:=by lia
   simp only[a,Yz,h,e];apply JP;intro k _;lia
  ·have e:items.size=0\/items.size=1:=by lia
   rcases e with e|e<;>rw[e]<;>rfl
 unfold slicePick;rw[b];show ((sliceRange (max 0 (min 1 (items.size:Int))) (items.size:Int) 2).filterMap (items[·]?)).toArray=_;rw[c,Zt];refine Yh List.toArray (xu _ λk _=>?_);simp
def zaH (K:PySem.W.Frag)(f:TE)(e d:TO):TE:=λσ H Q=>f σ H λx h=>e σ h λlo g=>d σ g λo b=>o=some 2/\∃ off a c,((lo=none/\off=0)\/(lo=some 1/\off=1))/\x=.ref a/\SqL K b a c/\∀ p,b p=none->Q (.ref p) (upd b p (.lst (by2 off c)))
theorem qf {X:Cx}{e st:Expr}{lo:Option Expr}{t:TE}{p n:TO}{u pos:Pos}(L:PE X e t)(K:PO X lo p)(hs:PO X (some st) n):PE X (.Subscript e (.Slice lo none (some st) u) pos) (zaH X.K t p n):=by
 intro pins s σ H Q I h;refine Subscript_ (thn (L pins s σ H _ I h) λv z ⟨x,R,N,B,D⟩=>wpAny_Slice (thn (K pins z σ R _ N D) λm A ⟨ol,S,O,F,E⟩=>?_));rw[evalPart_none];refine Jm (thn (hs pins A σ S _ O E) λg d ⟨o,P,M,po,C⟩=>?_);obtain⟨rfl,off,a,l,f,rfl,J,k⟩:=C;cases B;have i:Inv X pins σ P { d with heap:=d.heap.push { cls:=.type "slice",data:=.fields #[m,.none,g] } }:=M.kept (t':=d.toks) λb ob q=>J8 _ q;obtain⟨c,r,w,T⟩:=i.list J;have hlen:=r.length;show wpAny (model X.prog X.w) X.A (subscriptTail e (.Slice lo none (some st) u) (.ref a) (.ref d.heap.objs.size)) (EP X pins σ Q) X.xe { d with heap:=d.heap.push { cls:=.type "slice",data:=.fields #[m,.none,g] } };refine tail_any (ops:=[.ref a,.ref d.heap.objs.size]) w.isList.typeIs slot_list_getitem.lookup (wpAny_getItem_list_slice w.isList (Heap.IsSliceOf.new ..) F .none po (by simp) ?_ (by rw[Jd]<;>simp_all)) (by with_unfolding_all rfl)
 have G:slicePick c.toArray ol none (some 2)=((List.range ((c.length+1-off) / 2)).filterMap λk=>c[off+2*k]?).toArray:=by
  rcases f with ⟨rfl,rfl⟩|⟨rfl,rfl⟩
  ·rw[ir];simp only[Jd,Nat.sub_zero,YA]
  ·rw[jE];simp only[Jd,Nat.add_sub_cancel]
 rw[G];have j:off<=1:=by rcases f with ⟨_,rfl⟩|⟨_,rfl⟩<;>decide
 have y:Vals (by2 off l) ((List.range ((c.length+1-off) / 2)).filterMap λk=>c[off+2*k]?):=by
  have:=kT r ((List.range ((c.length+1-off) / 2)).map λk=>off+2*k);rw[Zt,Zt]at this;unfold by2;rw[hlen];exact this
 refine⟨.ref _,_,i.laid (t':=d.toks) (o:=.lst (by2 off l)) (λb ob q=>J8 _ q) (Jf _) ⟨by rw[wc off j];omega,_,0,y,?_⟩,rfl,k _ (i.hok.fresh (Jf _))⟩;exact Jw _ rfl
end L2
namespace K89
open PySem L2 Own Bn
abbrev sBy:Stmt:=top 28
def pQ:Sp:=λf H Q _=>∃ e d a b,f=[.ref e,.ref d]/\H e=some (.lst a)/\H d=some (.lst b)/\a.length=b.length/\a.length<=1000/\∀ l c,Same H c->c l=some (.lst (zW a b))->Q (.ref l) c
theorem nF {α:Type}(xs ys:List α)(i:Nat)(x y:α)(d:xs[i]?=some x)(c:ys[i]?=some y):zW (xs.take (i+1)) (ys.take (i+1))=zW (xs.take i) (ys.take i)++[x,y]:=by
 obtain⟨b,ex⟩:=J9.mp d;obtain⟨a,e⟩:=J9.mp c;rw[JR b,JR a,ex,e];unfold zW;rw[List.zip_append (by rw[JN,JN];lia),List.flatMap_append];rfl
section
variable {P:Program}{w:World}{K:PySem.W.Frag}{mg:Str->Option Value}{base:Heap}
theorem zaS:FnScope ["one","other"] ["one","other"] (zP sBy):=by trivial
theorem aw {f:Addr}{fd:FuncData}(F:Fun K "by_turns" "by_turns" sBy f fd) (G:Mgs mg):FnOk P w K mg base CX0 1 f fd ["one","other"] pQ:=by
 refine F.ok zaS (λU H Q E h=>?_) (λZ A outer s H U Q E hr h=>?_)
 ·obtain⟨L,J,t,r,rfl,_⟩:=h
  rfl
 obtain⟨L,J,t,r,rfl,S,R,b,hz,k⟩:=h;refine⟨_,(@zL _ _ _ (@zj _ _ _ _ (@bV _ _ _ _ _ _ none _ _ _ (zaf K (iC 0)) _ _ _ _ ["pair","thing"] [none,none] rfl (@eU _ _ _ _ _ _ _ _ true true rfl G.zip (@zA _ _ _ _ _ (@qv _ 0 _ _ (by trivial)) (@zA _ _ _ _ _ (@qv _ 1 _ _ (by trivial)) zB (by rfl)) (by rfl)) (by rfl) (by rfl)) (CapOk.of (by kernel_rfl)) (λ_ _ _ _ _=>(@zM _ _ 0 _ (show (["pair","thing"]:List Str).Nodup from by decide +kernel) rfl (.inl rfl) (.inr rfl))) (λ_ _ _ _ _=>(@wn _ _ _ _ (@qv _ 0 _ _ (by trivial)))) (λ_ _ _ _ _=>(@zM _ _ 1 _ (show (["pair","thing"]:List Str).Nodup from by decide +kernel) rfl (.inl rfl) (.inr rfl))) (λ_ _ _ _ _=>xX) (λ_ _ _ _ _=>(@qv _ 1 _ _ (by trivial))) (by intro _;rfl) (by intro _ _;rfl)))),?_⟩;refine⟨_,rfl,_,rfl,L,J,t,r,rfl,SqL.of S,SqL.of R,λl O=>?_⟩;refine cB b (λi acc σ m=>(∃ I g,σ=[I,g])/\Same H m/\m l=some (.lst acc)/\acc=zW (t.take i) (r.take i)) ⟨⟨_,_,rfl⟩,zC O _,zG,rfl⟩ (λi acc σ m z=>⟨z.2.2.1,SqL.of (z.2.1 _ _ S),SqL.of (z.2.1 _ _ R)⟩) ?_ ?_
 ·rintro i acc σ m x y T M X n ⟨⟨I,g,rfl⟩,C,a,e2⟩
  have W:=(J9.mp M).1
  have al:acc.length<=2000:=by
   rw[e2,xF _ _ (by rw[JN,JN,b]),JN];lia
  refine⟨_,rfl,T,rfl,⟨_,.inl (.inl (zS n _))⟩,?_⟩;have V:l≠T:=zF a n;refine cC (zs:=[x,y]) (λj ac q G=>(∃ g,q=[some (.ref T),g])/\Same H G/\G T=some (.tup [x,y])/\G l=some (.lst ac)/\ac=acc++[x,y].take j) ⟨⟨_,rfl⟩,C.trans (zC n _),zS n _,zC n _ _ _ a,(Yy _).symm⟩ (λj ac q G z=>⟨z.2.2.2.1,.inl (.inl z.2.2.1)⟩) ?_ ?_
  ·rintro j u ac q G N ⟨⟨g,rfl⟩,B,p,d,v⟩
   have D:=(J9.mp N).1;refine⟨_,rfl,d,?_,nx D ⟨⟨_,rfl⟩,λc o e=>?_,?_,zG,?_⟩⟩
   ·rw[v,Jj,JN,Y1]
    simp only[JE,Zv]at D ⊢;lia
   ·rw[zH (zF e O)];exact B c o e
   ·rw[zH (Ne.symm V)];exact p
   ·obtain⟨_,Y⟩:=J9.mp N
    rw[v,JL,JR D,Y]
  ·rintro ac q G ⟨⟨g,rfl⟩,B,p,d,v⟩
   refine nx W ⟨⟨_,_,rfl⟩,B,d,?_⟩;rw[v,e2,nF t r i x y M X];rfl
 ·rintro acc σ m ⟨_,C,a,e2⟩
  refine k l m C ?_;rw[a,e2,YB,b,YB]
end
end K89
namespace L2
open PySem PySem.Spec PyProof.Rows Own
theorem FnOk.any {P:Program}{w:World}{K:PySem.W.Frag}{mg:Str->Option Value}{base:Heap}{CX:CXT}{k:Nat}{f:Addr}{fd:FuncData}{ps:List Str}{sp:Nat->Sp}(M:Nat)(F:∀ m,m<=M->FnOk P w K mg base CX k f fd ps (sp m)) :
  FnOk P w K mg base CX k f fd ps (λvs H Q E=>∃ m,m<=M/\sp m vs H Q E) :=
 ⟨λvs H Q E ⟨m,a,q⟩=>(F m a).len vs H Q E q,λA outer s H args b vs Q E d e g c ⟨m,a,q⟩=>(F m a).run A outer s H args b vs Q E d e g c q⟩
end L2
namespace Bn
open PySem L2 Own
def yg:Nat->List Nat->List Fk × List Nat
 | 0,row=>([],row)
 | m+1,row=>((row.getD 0 0,row.getD (row.length / 2) 0)::((yg m (row.take (row.length / 2))).1++(yg m (row.drop (row.length / 2))).1),zW (yg m (row.take (row.length / 2))).2 (yg m (row.drop (row.length / 2))).2)
def yF:Nat->List Nat->List Nat->List Fk × List Nat
 | 0,a,b=>(a.zip b,a++b)
 | m+1,a,b=>((yF m (by2 0 a) (by2 1 b)).1++(yF m (by2 1 a) (by2 0 b)).1++(yF m (by2 0 a) (by2 1 b)).2.zip (yF m (by2 1 a) (by2 0 b)).2,zW (yF m (by2 0 a) (by2 1 b)).2 (yF m (by2 1 a) (by2 0 b)).2)
def yG:Nat->List Nat->List Fk × List Nat
 | 0,row=>([],row)
 | m+1,row=>((yG m (row.take (row.length / 2))).1++(yG m (row.drop (row.length / 2))).1++(yF m (yG m (row.take (row.length / 2))).2 (yG m (row.drop (row.length / 2))).2).1,(yF m (yG m (row.take (row.length / 2))).2 (yG m (row.drop (row.length / 2))).2).2)
theorem tM {m n:Nat}(h:n=2 ^ (m+1)):n / 2=2 ^ m/\n-n / 2=2 ^ m/\n / 2<=n:=by
 rw[Yq]at h;lia
theorem wO {m:Nat}{row:List Nat}(h:row.length=2 ^ (m+1)):(row.take (row.length / 2)).length=2 ^ m/\(row.drop (row.length / 2)).length=2 ^ m:=by
 obtain⟨a,b,c⟩:=tM h;rw[JN,YR];exact⟨by rw[Nat.min_eq_left c];exact a,b⟩
theorem ye {α:Type}{m:Nat}{a:List α}(h:a.length=2 ^ (m+1)):(by2 0 a).length=2 ^ m/\(by2 1 a).length=2 ^ m:=by
 rw[wc 0 (by decide),wc 1 (by decide),h,Yq];lia
theorem vb:∀ (m:Nat) (row:List Nat),row.length=2 ^ m->(yg m row).2.length=2 ^ m/\(yg m row).1.length+1=2 ^ m
 | 0,row,h=>⟨h,rfl⟩
 | m+1,row,h=>by
  obtain⟨a,b⟩:=wO h;obtain⟨c,f⟩:=vb m _ a;obtain⟨d,e⟩:=vb m _ b;show (zW _ _).length=_/\(_::(_++_)).length+1=_;rw[xF _ _ (c.trans d.symm),JE,Jj,c,Yq];exact⟨by lia,by grind⟩
theorem xc:∀ (m:Nat) (a b:List Nat),a.length=2 ^ m->b.length=2 ^ m->(yF m a b).2.length=2 ^ (m+1)/\(yF m a b).1.length=(m+1)*2 ^ m
 | 0,a,b,ha,hb=>by
  show (a++b).length=_/\(a.zip b).length=_
  rw[Jj,Zw,ha,hb];exact⟨rfl,rfl⟩
 | m+1,a,b,ha,hb=>by
  obtain⟨k,j⟩:=ye ha;obtain⟨i,h⟩:=ye hb;obtain⟨d,g⟩:=xc m _ _ k h;obtain⟨c,f⟩:=xc m _ _ j i;show (zW _ _).length=_/\(_++_++List.zip _ _).length=_;rw[xF _ _ (d.trans c.symm),Jj,Jj,Zw,d,c,g,f,Nat.min_self];have e:(m+1)*2 ^ m+(m+1)*2 ^ m=(m+1)*2 ^ (m+1):=by rw[<- Nat.two_mul,Yq,Nat.mul_left_comm,Nat.mul_comm 2 (2 ^ m)]
  refine⟨by rw[Yq 2 (m+1),Nat.mul_comm],?_⟩;rw[e,<- Nat.succ_mul]
def uK:Nat->Nat
 | 0=>0
 | m+1=>uK m+uK m+(m+1)*2 ^ m
theorem vc:∀ m,m<=10->uK m<=100000/\(m+1)*2 ^ m<=20000:=by decide +kernel
theorem wz:∀ (m:Nat) (row:List Nat),row.length=2 ^ m->(yG m row).2.length=2 ^ m/\(yG m row).1.length=uK m
 | 0,row,h=>⟨h,rfl⟩
 | m+1,row,h=>by
  obtain⟨a,b⟩:=wO h;obtain⟨i,g⟩:=wz m _ a;obtain⟨f,e⟩:=wz m _ b;obtain⟨d,c⟩:=xc m _ _ i f;refine⟨d,?_⟩;show (List.append (List.append _ _) _).length=uK m+uK m+(m+1)*2 ^ m;rw[List.append_eq,List.append_eq,Jj,Jj,c,g,e]
def xj (k:Nat):Nt:=⟨2 ^ k,(yg k (List.range (2 ^ k))).1,(yg k (List.range (2 ^ k))).2⟩
def yU (k:Nat):Nt:=⟨2 ^ k,(yG k (List.range (2 ^ k))).1,(yG k (List.range (2 ^ k))).2⟩
theorem j7:∀ k,k<5->(xj k).forks.length<=128/\(∀ f∈(xj k).forks,f.1<2 ^ k/\f.2<2 ^ k/\f.1≠f.2)/\(xj k).ends.Perm (List.range (2 ^ k)):=by decide +kernel
theorem kn:∀ k,k<5->(yU k).forks.length<=128/\(∀ f∈(yU k).forks,f.1<2 ^ k/\f.2<2 ^ k/\f.1≠f.2)/\(yU k).ends.Perm (List.range (2 ^ k)):=by decide +kernel
theorem vD {k:Nat}(h:k<5):1<=2 ^ k/\2 ^ k<=16:=⟨Y7,YN (show 0<2 by decide) (show k<=4 by lia)⟩
theorem wy {k:Nat}(h:k<5):(xj k).Ok:=let ⟨a,b,c⟩:=j7 k h;⟨(vD h).1,(vD h).2,a,b,c⟩
theorem wH {k:Nat}(h:k<5):(yU k).Ok:=let ⟨a,b,c⟩:=kn k h;⟨(vD h).1,(vD h).2,a,b,c⟩
end Bn
namespace K89
open PySem L2 Own Bn
abbrev wj:Stmt:=top 24
def wJ (m:Nat):Sp:=λh H Q _=>∃ g f a b,h=[.ref g,.ref f]/\H g=some (.lst (zJ a))/\H f=some (.lst (zJ b))/\a.length=2 ^ m/\b.length=2 ^ m/\m<=8/\∀ c lf le e d,Same H d->d c=some (.tup [.ref lf,.ref le])->d lf=some (.lst e)->Prs d e (yF m a b).1->d le=some (.lst (zJ (yF m a b).2))->Q (.ref c) d
theorem bj (row:List Nat)(i:Nat)(h:i<=row.length):vG (zJ row) none (some (i:Int))=zJ (row.take i):=by
 rw[sj _ _ (by rw[zK];exact h)];unfold zJ;rw[Wp]
theorem bm (row:List Nat)(i:Nat)(h:i<=row.length):vG (zJ row) (some (i:Int)) none=zJ (row.drop i):=by
 rw[sn _ _ (by rw[zK];exact h)];unfold zJ;rw[List.map_drop]
theorem dq (a b:List Nat):zW (zJ a) (zJ b)=zJ (zW a b):=by unfold zJ;exact xi _ a b
theorem lU (off:Nat)(a:List Nat):by2 off (zJ a)=zJ (by2 off a):=by unfold zJ;exact yL _ off a
theorem zaa (a b:List Nat):zJ a++zJ b=zJ (a++b):=by unfold zJ;exact(JF ..).symm
section
variable {P:Program}{w:World}{K:PySem.W.Frag}{mg:Str->Option Value}{base:Heap}
theorem ku:FnScope ["one","other","first_forks","first_ends","second_forks","second_ends","last_forks"] ["one","other"] (zP wj):=by trivial
theorem ug {f fB:Addr}{fd dB:FuncData}(F:Fun K "merger_of" "merger_of" wj f fd) (G:Mgs mg) (UB:Use P w K mg base "by_turns" ["one","other"] 1 pQ fB dB) (bS:Binds K fd ["one","other"] []) (mS:mg "merger_of" = some (.ref f)) (n:Nat)
  (GS:FnOk P w K mg base CX0 (n+1) f fd ["one","other"] (λvs H Q E=>∃ m,n=m+1/\wJ m vs H Q E)):FnOk P w K mg base CX0 (n+2) f fd ["one","other"] (wJ n):=by
 have e:Use P w K mg base "merger_of" ["one","other"] (n+1) (λvs H Q E=>∃ m,n=m+1/\wJ m vs H Q E) f fd:=⟨GS,bS,F.kp,mS⟩;refine F.ok ku (λvs H Q E h=>?_) (λbo A outer s H vs Q E hr h=>?_)
 ·obtain⟨q,x,a,b,rfl,_⟩:=h
  rfl
 obtain⟨q,x,a,b,rfl,C,h2,al,bl,ao,k⟩:=h;have a3:Room 1 _:=hr.mono (by lia);refine⟨_,(@zD _ _ _ _ _ (@yu _ _ _ _ _ _ _ _ (@zu _ _ _ _ _ _ _ _ sH (@zp _ _ _ _ _ _ _ _ _ zY (by rfl) G.len Y4 (@zA _ _ _ _ _ (@qv _ 0 _ _ (by trivial)) zB (by rfl)) (by decide) (by decide) (by rfl) (by rfl)) zE (yE _)) (@zL _ _ _ (@zj _ _ _ _ (@yM _ _ _ _ _ (@zA _ _ _ _ _ (@uQ _ _ _ _ _ _ _ _ true true (by rfl) G.list (by rfl) G.zip rfl (@zA _ _ _ _ _ (@qv _ 0 _ _ (by trivial)) (@zA _ _ _ _ _ (@qv _ 1 _ _ (by trivial)) zB (by rfl)) (by rfl)) (by rfl) (by rfl) (by rfl)) (@zA _ _ _ _ _ (@zU _ _ _ _ _ _ _ _ wV (@qv _ 0 _ _ (by trivial)) (@qv _ 1 _ _ (by trivial))) zB (by rfl)) (by rfl))))) yO) (@zD _ _ _ _ _ (@yH _ _ _ _ _ _ (@zQ _ _ _ _ _ _ _ _ _ _ _ _ _ _ _ _ e.ok hr (by rfl) e.m e.kp e.b .nil zZ (@zA _ _ _ _ _ (@qf _ _ _ _ _ _ _ _ _ (@qv _ 0 _ _ (by trivial)) y9 (@yY _ _ _ zE)) (@zA _ _ _ _ _ (@qf _ _ _ _ _ _ _ _ _ (@qv _ 1 _ _ (by trivial)) (@yY _ _ _ zE) (@yY _ _ _ zE)) zB (by rfl)) (by rfl)) (by decide) (by rfl) (by rfl)) (@yQ _ _ _ _ _ _ rfl (@zN _ _ _ _ _ (@zM _ _ 2 _ ku.nd rfl (.inl rfl) (by trivial)) (@zN _ _ _ _ _ (@zM _ _ 3 _ ku.nd rfl (.inl rfl) (by trivial)) yD (by rfl)) (by rfl)) (by rfl) (by rfl)) (by rfl) (by rfl) (by rfl)) (@zD _ _ _ _ _ (@yH _ _ _ _ _ _ (@zQ _ _ _ _ _ _ _ _ _ _ _ _ _ _ _ _ e.ok hr (by rfl) e.m e.kp e.b .nil zZ (@zA _ _ _ _ _ (@qf _ _ _ _ _ _ _ _ _ (@qv _ 0 _ _ (by trivial)) (@yY _ _ _ zE) (@yY _ _ _ zE)) (@zA _ _ _ _ _ (@qf _ _ _ _ _ _ _ _ _ (@qv _ 1 _ _ (by trivial)) y9 (@yY _ _ _ zE)) zB (by rfl)) (by rfl)) (by decide) (by rfl) (by rfl)) (@yQ _ _ _ _ _ _ rfl (@zN _ _ _ _ _ (@zM _ _ 4 _ ku.nd rfl (.inl rfl) (by trivial)) (@zN _ _ _ _ _ (@zM _ _ 5 _ ku.nd rfl (.inl rfl) (by trivial)) yD (by rfl)) (by rfl)) (by rfl) (by rfl)) (by rfl) (by rfl) (by rfl)) (@zD _ _ _ _ _ (@zr _ _ 6 _ _ _ _ ku.nd rfl (.inl rfl) (@uQ _ _ _ _ _ _ _ _ true true (by rfl) G.list (by rfl) G.zip rfl (@zA _ _ _ _ _ (@qv _ 3 _ _ (by trivial)) (@zA _ _ _ _ _ (@qv _ 5 _ _ (by trivial)) zB (by rfl)) (by rfl)) (by rfl) (by rfl) (by rfl)) (by rfl) (by trivial)) (@zL _ _ _ (@zj _ _ _ _ (@yM _ _ _ _ _ (@zA _ _ _ _ _ (@zU _ _ _ _ _ _ _ _ wV (@zU _ _ _ _ _ _ _ _ wV (@qv _ 2 _ _ (by trivial)) (@qv _ 4 _ _ (by trivial))) (@qv _ 6 _ _ (by trivial))) (@zA _ _ _ _ _ (@zQ _ _ _ _ _ _ _ _ _ _ _ _ _ _ _ _ UB.ok a3 (by rfl) UB.m UB.kp UB.b .nil zZ (@zA _ _ _ _ _ (@qv _ 3 _ _ (by trivial)) (@zA _ _ _ _ _ (@qv _ 5 _ _ (by trivial)) zB (by rfl)) (by rfl)) (by decide) (by rfl) (by rfl)) zB (by rfl)) (by rfl))))))))),?_⟩;have na:=zK a;have nb:=zK b;have p8:2 ^ n<=2 ^ 8:=YN (by decide) ao;have e8:2 ^ 8=256:=rfl;refine⟨_,rfl,q,_,rfl,.inl (SqL.of C),_,_,rfl,rfl,_,rfl,?_⟩
 cases n with
 | zero =>
  have b2:a.length=1:=al;have bx:b.length=1:=bl;rw[JA (show (((zJ a).length:Nat):Int)<2 by lia)];refine xO ⟨_,rfl,_,rfl,q,x,_,_,rfl,SqL.of C,SqL.of h2,by lia,by lia,λlz u H2 s3 n1 y z=>?_⟩;have pz:=qZ z (by lia);have v:=zC y (.lst u);have u4:=s3.trans v;refine⟨_,rfl,_,rfl,q,x,_,_,rfl,rfl,u4 _ _ C,u4 _ _ h2,by rw[Y1];lia,λl5 Y=>⟨(by show 2<=sizeLine;decide),λc B=>?_⟩⟩;have p:=zC Y (.lst (zJ a++zJ b));have o:=zC B (.tup [.ref lz,.ref l5]);refine k c lz l5 u _ ((u4.trans p).trans o) (zS B _) (o _ _ (p _ _ (zS y _))) (((pz.tups (Tups.of v)).tups (Tups.of p)).tups (Tups.of o)) ?_
  rw[o _ _ (zS Y _),zaa];rfl
 | succ m =>
  obtain⟨a0,a1⟩:=ye al;obtain⟨b0,b1⟩:=ye bl;have pw:2 ^ (m+1)=2 ^ m*2:=Yq ..;have p0:=Y7 (n:=m);rw[Js (show ¬(((zJ a).length:Nat):Int)<2 by lia)];refine yK ⟨_,rfl,2,rfl,rfl,0,q,_,.inl ⟨rfl,rfl⟩,rfl,SqL.of C,λq1 W=>?_⟩;rw[lU];have s1:=zC W (.lst (zJ (by2 0 a)));refine⟨_,rfl,1,rfl,2,rfl,rfl,1,x,_,.inr ⟨rfl,rfl⟩,rfl,SqL.of (s1 _ _ h2),λq2 V=>?_⟩;rw[lU];have s2:=zC V (.lst (zJ (by2 1 b)));refine⟨m,rfl,q1,q2,by2 0 a,by2 1 b,rfl,s2 _ _ (zS W _),zS V _,a0,b1,by lia,λc3 aC O J H3 s3 a7 a5 M ab=>?_⟩;have u3:=(s1.trans s2).trans s3;refine⟨c3,_,rfl,SqT.of a7,rfl,_,_,rfl,_,_,rfl,rfl,?_⟩;refine⟨_,rfl,1,rfl,2,rfl,rfl,1,q,_,.inr ⟨rfl,rfl⟩,rfl,SqL.of (u3 _ _ C),λq4 U=>?_⟩;rw[lU];have v:=zC U (.lst (zJ (by2 1 a)));refine⟨_,rfl,2,rfl,rfl,0,x,_,.inl ⟨rfl,rfl⟩,rfl,SqL.of (v _ _ (u3 _ _ h2)),λq5 T=>?_⟩;rw[lU];have p:=zC T (.lst (zJ (by2 0 b)));refine⟨m,rfl,q4,q5,by2 1 a,by2 0 b,rfl,p _ _ (zS U _),zS T _,a1,b0,by lia,λc6 ax N I H6 o a6 a4 L Z=>?_⟩;have t:=(v.trans p).trans o;refine⟨c6,_,rfl,SqT.of a6,rfl,_,_,rfl,_,_,rfl,rfl,?_⟩;obtain⟨l,xf⟩:=xc m _ _ a0 b1;obtain⟨yl,yf⟩:=xc m _ _ a1 b0;have bd:=(vc m (by lia)).2;have a9:=M.len;have a8:=L.len;refine⟨_,rfl,_,rfl,O,N,_,_,rfl,SqL.of (t _ _ ab),SqL.of Z,by rw[zK,zK,l,yl];exact Jf _,by rw[zK,l];lia,λlz u H7 s7 n1 y z=>?_⟩;have pz:=qZ z (by rw[l,yl];exact Jf _);have s8:=zC y (.lst u);have r:=s7.trans s8;have tl:=pz.len;rw[Zw,l,yl,Nat.min_self]at tl;refine⟨_,rfl,_,rfl,aC,ax,_,_,rfl,rfl,r _ _ (t _ _ a5),r _ _ a4,by rw[Y1];lia,λl9 X=>?_⟩;have s9:=zC X (.lst (J++I));refine⟨_,rfl,l9,lz,_,_,rfl,rfl,zS X _,s9 _ _ (zS y _),by rw[Y1,Jj];lia,λS g=>?_⟩;have D:=zC g (.lst ((J++I)++u));have i:=(r.trans s9).trans D;refine⟨_,rfl,_,rfl,O,N,_,_,rfl,i _ _ (t _ _ ab),i _ _ Z,by rw[zK,zK,l,yl],by rw[zK,l];lia,λR b3 j ak=>?_⟩;rw[dq]at ak;refine⟨(by show 2<=sizeLine;decide),λc B=>?_⟩;have d:=zC B (.tup [.ref S,.ref R]);refine k c S R _ _ ((u3.trans t).trans ((i.trans j).trans d)) (zS B _) (d _ _ (j _ _ (zS g _))) ?_ (d _ _ ak);refine Prs.tups (Tups.of ((s9.trans D).trans (j.trans d))) ?_;exact Prs.app (Prs.app ((M.tups (Tups.of t)).tups (Tups.of r)) (L.tups (Tups.of r))) (pz.tups (Tups.of s8))
theorem sK {f d:Addr}{fd e:FuncData}(F:Fun K "merger_of" "merger_of" wj f fd) (G:Mgs mg) (c:Use P w K mg base "by_turns" ["one","other"] 1 pQ d e) (b:Binds K fd ["one","other"] []) (a:mg "merger_of" = some (.ref f)):∀ n:Nat,FnOk P w K mg base CX0 (n+2) f fd ["one","other"] (wJ n)
 | 0=>ug F G c b a 0 ⟨λvs H Q E ⟨m,h,_⟩=>by lia,λA outer s H args us vs Q E _ _ _ _ ⟨m,h,_⟩=>by lia⟩
 | m+1=>ug F G c b a (m+1) ((sK F G c b a m).imp λvs H Q E ⟨g,h,q⟩=>by cases h;exact q)
abbrev xn:Sp:=λa H Q E=>∃ m,m<=4/\wJ m a H Q E
theorem oF {f b:Addr}{fd c:FuncData}(F:Fun K "merger_of" "merger_of" wj f fd) (G:Mgs mg) (e:Use P w K mg base "by_turns" ["one","other"] 1 pQ b c) (d:Binds K fd ["one","other"] []) (a:mg "merger_of" = some (.ref f)):FnOk P w K mg base CX0 6 f fd ["one","other"] xn :=
 FnOk.any 4 λm g=>(sK F G e d a m).mono (by lia)
abbrev wg:Stmt:=top 25
abbrev uO:Stmt:=top 19
def wI (m:Nat):Sp:=λd H Q _=>∃ p row,d=[.ref p]/\H p=some (.lst (zJ row))/\row.length=2 ^ m/\m<=4/\∀ c lf le b a,Same H a->a c=some (.tup [.ref lf,.ref le])->a lf=some (.lst b)->Prs a b (yG m row).1->a le=some (.lst (zJ (yG m row).2))->Q (.ref c) a
def vO:Sp:=λf H Q _=>∃ k:Nat,f=[.int k]/\k<5/\∀ e c d b a,Same H a->NetAt a e c d b (zV (yU k))->Q (.ref e) a
theorem pS:FnScope ["row","half","first_forks","first_ends","second_forks","second_ends","last_forks","ends"] ["row"] (zP wg):=by trivial
theorem uf {f fB:Addr}{fd dB:FuncData}(F:Fun K "stairway_of" "stairway_of" wg f fd) (G:Mgs mg) (C:Use P w K mg base "merger_of" ["one","other"] 6 xn fB dB) (bS:Binds K fd ["row"] []) (mS:mg "stairway_of" = some (.ref f)) (n:Nat)
  (GS:FnOk P w K mg base CX0 (n+6) f fd ["row"] (λvs H Q E=>∃ m,n=m+1/\wI m vs H Q E)):FnOk P w K mg base CX0 (n+7) f fd ["row"] (wI n):=by
 have a:Use P w K mg base "stairway_of" ["row"] (n+6) (λvs H Q E=>∃ m,n=m+1/\wI m vs H Q E) f fd:=⟨GS,bS,F.kp,mS⟩;refine F.ok pS (λvs H Q E h=>?_) (λa4 A outer s H vs Q E J h=>?_)
 ·obtain⟨p,row,rfl,_⟩:=h
  rfl
 obtain⟨p,row,rfl,e,I,M,k⟩:=h;have T:Room 6 _:=J.mono (by lia);refine⟨_,(@zD _ _ _ _ _ (@yu _ _ _ _ _ _ _ _ (@zu _ _ _ _ _ _ _ _ sH (@zp _ _ _ _ _ _ _ _ _ zY (by rfl) G.len Y4 (@zA _ _ _ _ _ (@qv _ 0 _ _ (by trivial)) zB (by rfl)) (by decide) (by decide) (by rfl) (by rfl)) zE (yE _)) (@zL _ _ _ (@zj _ _ _ _ (@yM _ _ _ _ _ (@zA _ _ _ _ _ (@yS _ _ _ _ zB) (@zA _ _ _ _ _ (@qv _ 0 _ _ (by trivial)) zB (by rfl)) (by rfl))))) yO) (@zD _ _ _ _ _ (@zr _ _ 1 _ _ _ _ pS.nd rfl (.inl rfl) (@zU _ _ _ _ _ _ _ _ wB (@zp _ _ _ _ _ _ _ _ _ zY (by rfl) G.len Y4 (@zA _ _ _ _ _ (@qv _ 0 _ _ (by trivial)) zB (by rfl)) (by decide) (by decide) (by rfl) (by rfl)) zE) (by rfl) (by trivial)) (@zD _ _ _ _ _ (@yH _ _ _ _ _ _ (@zQ _ _ _ _ _ _ _ _ _ _ _ _ _ _ _ _ a.ok J (by rfl) a.m a.kp a.b .nil zZ (@zA _ _ _ _ _ (@xB _ _ _ _ _ _ _ _ _ _ xT (@qv _ 0 _ _ (by trivial)) y9 (@yY _ _ _ (@qv _ 1 _ _ (by trivial)))) zB (by rfl)) (by decide) (by rfl) (by rfl)) (@yQ _ _ _ _ _ _ rfl (@zN _ _ _ _ _ (@zM _ _ 2 _ pS.nd rfl (.inl rfl) (by trivial)) (@zN _ _ _ _ _ (@zM _ _ 3 _ pS.nd rfl (.inl rfl) (by trivial)) yD (by rfl)) (by rfl)) (by rfl) (by rfl)) (by rfl) (by rfl) (by rfl)) (@zD _ _ _ _ _ (@yH _ _ _ _ _ _ (@zQ _ _ _ _ _ _ _ _ _ _ _ _ _ _ _ _ a.ok J (by rfl) a.m a.kp a.b .nil zZ (@zA _ _ _ _ _ (@xB _ _ _ _ _ _ _ _ _ _ xT (@qv _ 0 _ _ (by trivial)) (@yY _ _ _ (@qv _ 1 _ _ (by trivial))) y9) zB (by rfl)) (by decide) (by rfl) (by rfl)) (@yQ _ _ _ _ _ _ rfl (@zN _ _ _ _ _ (@zM _ _ 4 _ pS.nd rfl (.inl rfl) (by trivial)) (@zN _ _ _ _ _ (@zM _ _ 5 _ pS.nd rfl (.inl rfl) (by trivial)) yD (by rfl)) (by rfl)) (by rfl) (by rfl)) (by rfl) (by rfl) (by rfl)) (@zD _ _ _ _ _ (@yH _ _ _ _ _ _ (@zQ _ _ _ _ _ _ _ _ _ _ _ _ _ _ _ _ C.ok T (by rfl) C.m C.kp C.b .nil zZ (@zA _ _ _ _ _ (@qv _ 3 _ _ (by trivial)) (@zA _ _ _ _ _ (@qv _ 5 _ _ (by trivial)) zB (by rfl)) (by rfl)) (by decide) (by rfl) (by rfl)) (@yQ _ _ _ _ _ _ rfl (@zN _ _ _ _ _ (@zM _ _ 6 _ pS.nd rfl (.inl rfl) (by trivial)) (@zN _ _ _ _ _ (@zM _ _ 7 _ pS.nd rfl (.inl rfl) (by trivial)) yD (by rfl)) (by rfl)) (by rfl) (by rfl)) (by rfl) (by rfl) (by rfl)) (@zL _ _ _ (@zj _ _ _ _ (@yM _ _ _ _ _ (@zA _ _ _ _ _ (@zU _ _ _ _ _ _ _ _ wV (@zU _ _ _ _ _ _ _ _ wV (@qv _ 2 _ _ (by trivial)) (@qv _ 4 _ _ (by trivial))) (@qv _ 6 _ _ (by trivial))) (@zA _ _ _ _ _ (@qv _ 7 _ _ (by trivial)) zB (by rfl)) (by rfl)))))))))),?_⟩;have nl:=zK row;have p8:2 ^ n<=2 ^ 4:=YN (by decide) M;have e8:2 ^ 4=16:=rfl;refine⟨_,rfl,p,_,rfl,.inl (SqL.of e),_,_,rfl,rfl,_,rfl,?_⟩
 cases n with
 | zero =>
  have ax:row.length=1:=I;rw[JA (show (((zJ row).length:Nat):Int)<2 by lia)];refine xO ⟨(by show 0<=sizeLine;decide),λl hl=>⟨_,rfl,(by show 2<=sizeLine;decide),λc g=>?_⟩⟩;have B:=zC hl (.lst []);have d:=zC g (.tup [.ref l,.ref p])
  exact k c l p [] _ (B.trans d) (zS g _) (d _ _ (zS hl _)) trivial (d _ _ (B _ _ e))
 | succ m =>
  obtain⟨t1,t2,t3⟩:=tM I;obtain⟨la,lb⟩:=wO I;have pw:2 ^ (m+1)=2 ^ m*2:=Yq ..;have p0:=Y7 (n:=m);rw[Js (show ¬(((zJ row).length:Nat):Int)<2 by lia)];refine yK ⟨_,rfl,p,_,rfl,.inl (SqL.of e),_,_,rfl,rfl,⟨by decide,by decide⟩,?_⟩;have eh:(((zJ row).length:Nat):Int) / 2=((row.length / 2:Nat):Int):=by rw[nl];lia
  simp only[eh];refine⟨_,rfl,_,rfl,_,rfl,p,_,rfl,SqL.of e,λp1 v=>?_⟩;rw[bj row _ t3];have B:=zC v (.lst (zJ (row.take (row.length / 2))));refine⟨m,rfl,p1,row.take (row.length / 2),rfl,zS v _,la,by lia,λc2 R le2 j H2 d ao W r Z=>?_⟩;have u2:=B.trans d;refine⟨c2,_,rfl,SqT.of ao,rfl,_,_,rfl,_,_,rfl,rfl,?_⟩;refine⟨_,rfl,_,rfl,_,rfl,p,_,rfl,SqL.of (u2 _ _ e),λp3 u=>?_⟩;rw[bm row _ t3];have s3:=zC u (.lst (zJ (row.drop (row.length / 2))));refine⟨m,rfl,p3,row.drop (row.length / 2),rfl,zS u _,lb,by lia,λc4 O S i H4 s4 ak V q Y=>?_⟩;have z:=s3.trans s4;refine⟨c4,_,rfl,SqT.of ak,rfl,_,_,rfl,_,_,rfl,rfl,?_⟩;obtain⟨xl,xf⟩:=wz m _ la;obtain⟨yl,yf⟩:=wz m _ lb;obtain⟨zl,zf⟩:=xc m _ _ xl yl;have a3:=r.len;have a0:=q.len;obtain⟨a6,a5⟩:=vc m (by lia);refine⟨_,rfl,_,rfl,m,by lia,le2,S,_,_,rfl,z _ _ Z,Y,xl,yl,by lia,λc6 N t L H6 b ab U o X=>?_⟩;refine⟨c6,_,rfl,SqT.of ab,rfl,_,_,rfl,_,_,rfl,rfl,?_⟩;have aC:=o.len;refine⟨_,rfl,_,rfl,R,O,_,_,rfl,rfl,b _ _ (z _ _ W),b _ _ V,by rw[Y1];lia,λl7 y=>?_⟩;have s7:=zC y (.lst (j++i));refine⟨_,rfl,l7,N,_,_,rfl,rfl,zS y _,s7 _ _ U,by rw[Y1,Jj];lia,λl8 x=>?_⟩;have s8:=zC x (.lst ((j++i)++L));refine⟨_,rfl,(by show 2<=sizeLine;decide),λc g=>?_⟩;have s9:=zC g (.tup [.ref l8,.ref t]);have D:=(s7.trans s8).trans s9;refine k c l8 t _ _ ((u2.trans z).trans (b.trans D)) (zS g _) (s9 _ _ (zS x _)) ?_ (D _ _ X);refine Prs.tups (Tups.of D) ?_;exact Prs.app (Prs.app ((r.tups (Tups.of z)).tups (Tups.of b)) (q.tups (Tups.of b))) o
theorem sJ {f d:Addr}{fd e:FuncData}(F:Fun K "stairway_of" "stairway_of" wg f fd) (G:Mgs mg) (c:Use P w K mg base "merger_of" ["one","other"] 6 xn d e) (b:Binds K fd ["row"] []) (a:mg "stairway_of" = some (.ref f)):∀ n:Nat,FnOk P w K mg base CX0 (n+7) f fd ["row"] (wI n)
 | 0=>uf F G c b a 0 ⟨λvs H Q E ⟨m,h,_⟩=>by lia,λA outer s H args us vs Q E _ _ _ _ ⟨m,h,_⟩=>by lia⟩
 | m+1=>uf F G c b a (m+1) ((sJ F G c b a m).imp λvs H Q E ⟨g,h,q⟩=>by cases h;exact q)
abbrev vP:Sp:=λa H Q E=>∃ m,m<=4/\wI m a H Q E
theorem oE {f b:Addr}{fd c:FuncData}(F:Fun K "stairway_of" "stairway_of" wg f fd) (G:Mgs mg) (e:Use P w K mg base "merger_of" ["one","other"] 6 xn b c) (d:Binds K fd ["row"] []) (a:mg "stairway_of" = some (.ref f)):FnOk P w K mg base CX0 11 f fd ["row"] vP :=
 FnOk.any 4 λm g=>(sJ F G e d a m).mono (by lia)
theorem ad:FnScope ["k","row"] ["k"] (zP uO):=by trivial
theorem oC {f J I L:Addr}{fd M dT N:FuncData}(F:Fun K "stairway" "stairway" uO f fd) (b:Use P w K mg base "row_of" ["k"] 2 vd J M) (a:Use P w K mg base "stairway_of" ["row"] 11 vP I dT) (d:Use P w K mg base "net_of" ["row","made"] 3 wK L N):FnOk P w K mg base CX0 12 f fd ["k"] vO:=by
 refine F.ok ad (λu H Q E h=>?_) (λR A outer s H u Q E e h=>?_)
 ·obtain⟨k,rfl,_⟩:=h
  rfl
 obtain⟨k,rfl,B,q⟩:=h;have l:Room 2 _:=e.mono (by decide);have j:Room 3 _:=e.mono (by decide);refine⟨_,(@zD _ _ _ _ _ (@zr _ _ 1 _ _ _ _ ad.nd rfl (.inl rfl) (@zQ _ _ _ _ _ _ _ _ _ _ _ _ _ _ _ _ b.ok l (by rfl) b.m b.kp b.b .nil zZ (@zA _ _ _ _ _ (@qv _ 0 _ _ (by trivial)) zB (by rfl)) (by decide) (by rfl) (by rfl)) (by rfl) (by trivial)) (@zL _ _ _ (@zj _ _ _ _ (@zQ _ _ _ _ _ _ _ _ _ _ _ _ _ _ _ _ d.ok j (by rfl) d.m d.kp d.b .nil zZ (@zA _ _ _ _ _ (@qv _ 1 _ _ (by trivial)) (@zA _ _ _ _ _ (@zQ _ _ _ _ _ _ _ _ _ _ _ _ _ _ _ _ a.ok e (by rfl) a.m a.kp a.b .nil zZ (@zA _ _ _ _ _ (@qv _ 1 _ _ (by trivial)) zB (by rfl)) (by decide) (by rfl) (by rfl)) zB (by rfl)) (by rfl)) (by decide) (by rfl) (by rfl))))),?_⟩;refine⟨_,rfl,k,rfl,by lia,λp g=>?_⟩;have v:=zC g (.lst (zJ (List.range (2 ^ k))));refine⟨_,rfl,_,rfl,k,by lia,p,List.range (2 ^ k),rfl,zS g _,Jx,by lia,λc lf le z S o G C pr D=>?_⟩;have t:(⟨(List.range (2 ^ k)).length,(yG k (List.range (2 ^ k))).1,(yG k (List.range (2 ^ k))).2⟩:Nt)=yU k:=by rw[Jx];rfl
 refine⟨p,c,lf,le,z,_,List.range (2 ^ k),_,rfl,o _ _ (zS g _),G,C,pr,D,by rw[t];exact wH B,λy m n i O x r=>?_⟩;rw[t]at r;exact q y m n i O ((v.trans o).trans x) r
abbrev qP:Stmt:=top 26
abbrev qM:Stmt:=top 20
def vA (m:Nat):Sp:=λc H Q _=>∃ p row,c=[.ref p]/\H p=some (.lst (zJ row))/\row.length<=2 ^ m/\row.length<=1000/\m<=20/\∀ l b a,Same H a->a l=some (.lst b)->Prs a b (yt m row)->Q (.ref l) a
def tU:Sp:=λf H Q _=>∃ k:Nat,f=[.int k]/\k<5/\∀ e c d b a,Same H a->NetAt a e c d b (aG k)->Q (.ref e) a
theorem oq (row:List Nat)(i:Nat)(h:i<=row.length):vG (zJ row) none (some (i:Int))=zJ (row.take i):=by
 rw[sj _ _ (by rw[zK];exact h)];unfold zJ;rw[Wp]
theorem g8 (row:List Nat)(i:Nat)(h:i<=row.length):vG (zJ row) (some (i:Int)) none=zJ (row.drop i):=by
 rw[sn _ _ (by rw[zK];exact h)];unfold zJ;rw[List.map_drop]
theorem ag:FnScope ["row","half"] ["row"] (zP qP):=by trivial
theorem rS {f:Addr}{fd:FuncData}(F:Fun K "block_of" "block_of" qP f fd) (G:Mgs mg) (bS:Binds K fd ["row"] []) (mS:mg "block_of" = some (.ref f)) (n:Nat)
  (GS:FnOk P w K mg base CX0 n f fd ["row"] (λvs H Q E=>∃ m,n=m+1/\vA m vs H Q E)):FnOk P w K mg base CX0 (n+1) f fd ["row"] (vA n):=by
 have a:Use P w K mg base "block_of" ["row"] n (λvs H Q E=>∃ m,n=m+1/\vA m vs H Q E) f fd:=⟨GS,bS,F.kp,mS⟩;refine F.ok ag (λvs H Q E h=>?_) (λax A outer s H vs Q E hr h=>?_)
 ·obtain⟨p,row,rfl,_⟩:=h
  rfl
 obtain⟨p,row,rfl,i,Z,W,ao,k⟩:=h;refine⟨_,(@zD _ _ _ _ _ (@yu _ _ _ _ _ _ _ _ (@zu _ _ _ _ _ _ _ _ sH (@zp _ _ _ _ _ _ _ _ _ zY (by rfl) G.len Y4 (@zA _ _ _ _ _ (@qv _ 0 _ _ (by trivial)) zB (by rfl)) (by decide) (by decide) (by rfl) (by rfl)) zE (yE _)) (@zL _ _ _ (@zj _ _ _ _ (@yS _ _ _ _ zB))) yO) (@zD _ _ _ _ _ (@zr _ _ 1 _ _ _ _ ag.nd rfl (.inl rfl) (@zU _ _ _ _ _ _ _ _ wB (@zp _ _ _ _ _ _ _ _ _ zY (by rfl) G.len Y4 (@zA _ _ _ _ _ (@qv _ 0 _ _ (by trivial)) zB (by rfl)) (by decide) (by decide) (by rfl) (by rfl)) zE) (by rfl) (by trivial)) (@zL _ _ _ (@zj _ _ _ _ (@zU _ _ _ _ _ _ _ _ wV (@zU _ _ _ _ _ _ _ _ wV (@uQ _ _ _ _ _ _ _ _ true true (by rfl) G.list (by rfl) G.zip rfl (@zA _ _ _ _ _ (@xB _ _ _ _ _ _ _ _ _ _ xT (@qv _ 0 _ _ (by trivial)) y9 (@yY _ _ _ (@qv _ 1 _ _ (by trivial)))) (@zA _ _ _ _ _ (@bT _ _ _ _ _ _ _ (@qv _ 0 _ _ (by trivial)) (@yY _ _ _ (@cg _ _ _ _ _ _ j5 zE))) zB (by rfl)) (by rfl)) (by rfl) (by rfl) (by rfl)) (@zQ _ _ _ _ _ _ _ _ _ _ _ _ _ _ _ _ a.ok hr (by rfl) a.m a.kp a.b .nil zZ (@zA _ _ _ _ _ (@xB _ _ _ _ _ _ _ _ _ _ xT (@qv _ 0 _ _ (by trivial)) y9 (@yY _ _ _ (@qv _ 1 _ _ (by trivial)))) zB (by rfl)) (by decide) (by rfl) (by rfl))) (@zQ _ _ _ _ _ _ _ _ _ _ _ _ _ _ _ _ a.ok hr (by rfl) a.m a.kp a.b .nil zZ (@zA _ _ _ _ _ (@xB _ _ _ _ _ _ _ _ _ _ xT (@qv _ 0 _ _ (by trivial)) (@yY _ _ _ (@qv _ 1 _ _ (by trivial))) y9) zB (by rfl)) (by decide) (by rfl) (by rfl))))))),?_⟩;have nl:=zK row;refine⟨_,rfl,p,_,rfl,.inl (SqL.of i),_,_,rfl,rfl,_,rfl,?_⟩;by_cases c:row.length<2
 ·rw[JA (show (((zJ row).length:Nat):Int)<2 by lia)]
  refine xO ⟨(by show 0<=sizeLine;decide),λl hl=>k l [] _ (zC hl _) (zS hl _) ?_⟩
  have e:yt n row=[]:=by
   cases n with
   | zero=>rfl
   | succ m=>unfold yt;rw[Jb c]
  rw[e];trivial
 rw[Js (show ¬(((zJ row).length:Nat):Int)<2 by lia)]
 obtain⟨m,rfl⟩:∃ m,n=m+1:=by
  cases n with
  | zero=>rw[show 2 ^ 0=1 from rfl]at Z;lia
  | succ m=>exact⟨m,rfl⟩
 rw[Yq]at Z;refine yK ⟨_,rfl,p,_,rfl,.inl (SqL.of i),_,_,rfl,rfl,⟨by decide,by decide⟩,?_⟩;have eh:(((zJ row).length:Nat):Int) / 2=((row.length / 2:Nat):Int):=by rw[nl];lia
 simp only[eh];have R:row.length / 2<=row.length:=by lia
 refine⟨_,rfl,_,rfl,_,rfl,p,_,rfl,SqL.of i,λp1 B=>?_⟩;rw[oq row _ R];have Y:=zC B (.lst (zJ (row.take (row.length / 2))));refine⟨_,rfl,_,rfl,_,rfl,rfl,p,_,rfl,SqL.of (Y _ _ i),λp2 y=>?_⟩;have er:(zJ row).reverse=zJ row.reverse:=by unfold zJ;rw[List.map_reverse]
 rw[er];have X:=zC y (.lst (zJ row.reverse));refine⟨p1,p2,_,_,rfl,SqL.of (X _ _ (zS B _)),SqL.of (zS y _),by rw[zK,zK,JN,Zg];lia,by rw[zK,JN];lia,λlz g H2 s3 n1 n2 z=>?_⟩;have pz:=qZ z (by rw[JN,Zg];lia);have O:=zC n2 (.lst g);have M:=((Y.trans X).trans s3).trans O;have o:=pz.tups (Tups.of O);have u:=zS n2 (.lst g);have tl:=pz.len;rw[Zw,JN,Zg]at tl;generalize upd H2 lz (.lst g)=H4 at O M o u;have V:=M _ _ i;refine⟨_,rfl,_,rfl,_,rfl,p,_,rfl,SqL.of V,λp5 x=>?_⟩;rw[oq row _ R];have s5:=zC x (.lst (zJ (row.take (row.length / 2))));refine⟨m,rfl,p5,row.take (row.length / 2),rfl,zS x _,by rw[JN];lia,by rw[JN];lia,by lia,λl6 d H6 s6 h6 t=>?_⟩;have L:=s5.trans s6;have b6:=wS m (row.take (row.length / 2));rw[JN]at b6;have a0:m*min (row.length / 2) row.length<=20*1000:=Nat.mul_le_mul (by lia) (by lia);have ak:=t.len;refine⟨lz,l6,_,_,rfl,rfl,L _ _ u,h6,by rw[Y1];lia,λl7 C=>?_⟩;have N:=zC C (.lst (g++d));have r:=(Prs.app (o.tups (Tups.of L)) t).tups (Tups.of N);have h7:=zS C (.lst (g++d));have J:=M.trans (L.trans N);generalize upd H6 l7 _=H7 at N r h7 J;have U:=J _ _ i;refine⟨_,rfl,_,rfl,_,rfl,p,_,rfl,SqL.of U,λp8 v=>?_⟩;rw[g8 row _ R];have s8:=zC v (.lst (zJ (row.drop (row.length / 2))));refine⟨m,rfl,p8,row.drop (row.length / 2),rfl,zS v _,by rw[YR];lia,by rw[YR];lia,by lia,λl9 S H9 s9 h9 q=>?_⟩;have I:=s8.trans s9;have b9:=wS m (row.drop (row.length / 2));rw[YR]at b9;have aC:m*(row.length-row.length / 2)<=20*1000:=Nat.mul_le_mul (by lia) (by lia);have ab:=q.len;refine⟨l7,l9,_,_,rfl,rfl,I _ _ h7,h9,by rw[Jj,Y1];lia,λT b=>?_⟩;have j:=zC b (.lst ((g++d)++S));have D:=(Prs.app (r.tups (Tups.of I)) q).tups (Tups.of j);refine k T _ _ (J.trans (I.trans j)) (zS b _) ?_
 have e:yt (m+1) row=(row.take (row.length / 2)).zip row.reverse++yt m (row.take (row.length / 2))++yt m (row.drop (row.length / 2)):=by
  conv=>lhs;unfold yt
  rw[Ja c]
 rw[e];exact D
theorem oG {f:Addr}{fd:FuncData}(F:Fun K "block_of" "block_of" qP f fd) (G:Mgs mg) (b:Binds K fd ["row"] []) (a:mg "block_of" = some (.ref f)):∀ n:Nat,FnOk P w K mg base CX0 (n+1) f fd ["row"] (vA n)
 | 0=>rS F G b a 0 ⟨λvs H Q E ⟨m,h,_⟩=>by lia,λA outer s H args us vs Q E _ _ _ _ ⟨m,h,_⟩=>by lia⟩
 | m+1=>rS F G b a (m+1) ((oG F G b a m).imp λvs H Q E ⟨c,h,q⟩=>by cases h;exact q)
theorem mq:∀ k,k<5->yt 4 (List.range (2 ^ k))=yt k (List.range (2 ^ k)):=by decide +kernel
theorem lK {H:Hp}{ps:List V}{fs:List Fk}(h:Prs H ps fs):∀ n:Nat,Prs H (List.replicate n ps).flatten (List.replicate n fs).flatten
 | 0=>trivial
 | n+1=>by
  rw[Yr,Yr,Z7,Z7];exact Prs.app h (lK h n)
theorem ae:FnScope ["k","row"] ["k"] (zP qM):=by trivial
theorem jJ {f S U T:Addr}{fd V X W:FuncData}(F:Fun K "rounds" "rounds" qM f fd) (g:Use P w K mg base "row_of" ["k"] 2 vd S V) (j:Use P w K mg base "block_of" ["row"] 5 (vA 4) U X) (i:Use P w K mg base "net_of" ["row","made"] 3 wK T W):FnOk P w K mg base CX0 6 f fd ["k"] tU:=by
 refine F.ok ae (λL H Q E h=>?_) (λZ A outer s H L Q E r h=>?_)
 ·obtain⟨k,rfl,_⟩:=h
  rfl
 obtain⟨k,rfl,o,q⟩:=h;have y:Room 2 _:=r.mono (by decide);have x:Room 3 _:=r.mono (by decide);refine⟨_,(@zD _ _ _ _ _ (@zr _ _ 1 _ _ _ _ ae.nd rfl (.inl rfl) (@zQ _ _ _ _ _ _ _ _ _ _ _ _ _ _ _ _ g.ok y (by rfl) g.m g.kp g.b .nil zZ (@zA _ _ _ _ _ (@qv _ 0 _ _ (by trivial)) zB (by rfl)) (by decide) (by rfl) (by rfl)) (by rfl) (by trivial)) (@zL _ _ _ (@zj _ _ _ _ (@zQ _ _ _ _ _ _ _ _ _ _ _ _ _ _ _ _ i.ok x (by rfl) i.m i.kp i.b .nil zZ (@zA _ _ _ _ _ (@qv _ 1 _ _ (by trivial)) (@zA _ _ _ _ _ (@yM _ _ _ _ _ (@zA _ _ _ _ _ (@zU _ _ _ _ _ _ _ _ qh (@zQ _ _ _ _ _ _ _ _ _ _ _ _ _ _ _ _ j.ok r (by rfl) j.m j.kp j.b .nil zZ (@zA _ _ _ _ _ (@qv _ 1 _ _ (by trivial)) zB (by rfl)) (by decide) (by rfl) (by rfl)) (@qv _ 0 _ _ (by trivial))) (@zA _ _ _ _ _ (@qv _ 1 _ _ (by trivial)) zB (by rfl)) (by rfl))) zB (by rfl)) (by rfl)) (by decide) (by rfl) (by rfl))))),?_⟩;have a:2 ^ k<=2 ^ 4:=YN (by decide) (by lia);refine⟨_,rfl,k,rfl,by lia,λp t=>?_⟩;have M:=zC t (.lst (zJ (List.range (2 ^ k))));refine⟨_,rfl,_,rfl,p,List.range (2 ^ k),rfl,zS t _,by rw[Jx];exact a,by rw[Jx];exact JM a (by decide),by decide,λl n H2 C R pr=>?_⟩;rw[mq k o]at pr;have pl:=pr.len;have bl:=wS k (List.range (2 ^ k));rw[Jx]at bl;have b2:k*2 ^ k<=4*2 ^ 4:=Nat.mul_le_mul (by lia) a;have b3:n.length*k<=(4*2 ^ 4)*4:=Nat.mul_le_mul (by lia) (by lia);refine⟨_,rfl,l,k,n,rfl,rfl,R,by lia,by lia,by rw[Yc,Y1];lia,λG d=>?_⟩;rw[Yc];have m:=zC d (.lst (List.replicate k n).flatten);refine⟨_,rfl,(by show 2<=sizeLine;decide),λc I=>?_⟩;have e:=zC I (.tup [.ref G,.ref p]);have b:=e _ _ (m _ _ (C _ _ (zS t (.lst (zJ (List.range (2 ^ k)))))));have v:=xG o;have J:(⟨(List.range (2 ^ k)).length,(List.replicate k (yt k (List.range (2 ^ k)))).flatten,List.range (2 ^ k)⟩:Nt)=yk k:=by rw[Jx];rfl
 refine⟨p,c,G,p,_,_,List.range (2 ^ k),List.range (2 ^ k),rfl,b,zS I _,e _ _ (zS d _),(lK pr k).tups (Tups.of (m.trans e)),b,by rw[J];exact v,λO z B u Y N D=>?_⟩;rw[J,sA o]at D;exact q O z B u Y ((((M.trans C).trans m).trans e).trans N) D
abbrev vf:Stmt:=top 27
abbrev iQ:Stmt:=top 21
def wf (m:Nat):Sp:=λd H Q _=>∃ p row,d=[.ref p]/\H p=some (.lst (zJ row))/\row.length=2 ^ m/\m<=8/\∀ c lf le b a,Same H a->a c=some (.tup [.ref lf,.ref le])->a lf=some (.lst b)->Prs a b (yg m row).1->a le=some (.lst (zJ (yg m row).2))->Q (.ref c) a
def nZ:Sp:=λf H Q _=>∃ k:Nat,f=[.int k]/\k<5/\∀ e c d b a,Same H a->NetAt a e c d b (zV (xj k))->Q (.ref e) a
theorem cv (row:List Nat)(i:Nat)(h:i<=row.length):vG (zJ row) none (some (i:Int))=zJ (row.take i):=by
 rw[sj _ _ (by rw[zK];exact h)];unfold zJ;rw[Wp]
theorem cw (row:List Nat)(i:Nat)(h:i<=row.length):vG (zJ row) (some (i:Int)) none=zJ (row.drop i):=by
 rw[sn _ _ (by rw[zK];exact h)];unfold zJ;rw[List.map_drop]
theorem mO (a b:List Nat):zW (zJ a) (zJ b)=zJ (zW a b):=by unfold zJ;exact xi _ a b
theorem lQ (row:List Nat)(i:Nat)(h:i<row.length):(zJ row)[i]?=some (.int ((row.getD i 0:Nat):Int)):=by
 unfold zJ;rw[JD,J0 h,J7,J0 h];rfl
theorem kr:FnScope ["row","half","first_forks","first_ends","second_forks","second_ends"] ["row"] (zP vf):=by trivial
theorem sI {f fB:Addr}{fd dB:FuncData}(F:Fun K "tree_of" "tree_of" vf f fd) (G:Mgs mg) (J:Use P w K mg base "by_turns" ["one","other"] 1 pQ fB dB) (bS:Binds K fd ["row"] []) (mS:mg "tree_of" = some (.ref f)) (n:Nat)
  (GS:FnOk P w K mg base CX0 (n+1) f fd ["row"] (λvs H Q E=>∃ m,n=m+1/\wf m vs H Q E)):FnOk P w K mg base CX0 (n+2) f fd ["row"] (wf n):=by
 have b:Use P w K mg base "tree_of" ["row"] (n+1) (λvs H Q E=>∃ m,n=m+1/\wf m vs H Q E) f fd:=⟨GS,bS,F.kp,mS⟩;refine F.ok kr (λvs H Q E h=>?_) (λa5 A outer s H vs Q E S h=>?_)
 ·obtain⟨p,row,rfl,_⟩:=h
  rfl
 obtain⟨p,row,rfl,d,R,U,k⟩:=h;have Y:Room 1 _:=S.mono (by lia);refine⟨_,(@zD _ _ _ _ _ (@yu _ _ _ _ _ _ _ _ (@zu _ _ _ _ _ _ _ _ sH (@zp _ _ _ _ _ _ _ _ _ zY (by rfl) G.len Y4 (@zA _ _ _ _ _ (@qv _ 0 _ _ (by trivial)) zB (by rfl)) (by decide) (by decide) (by rfl) (by rfl)) zE (yE _)) (@zL _ _ _ (@zj _ _ _ _ (@yM _ _ _ _ _ (@zA _ _ _ _ _ (@yS _ _ _ _ zB) (@zA _ _ _ _ _ (@qv _ 0 _ _ (by trivial)) zB (by rfl)) (by rfl))))) yO) (@zD _ _ _ _ _ (@zr _ _ 1 _ _ _ _ kr.nd rfl (.inl rfl) (@zU _ _ _ _ _ _ _ _ wB (@zp _ _ _ _ _ _ _ _ _ zY (by rfl) G.len Y4 (@zA _ _ _ _ _ (@qv _ 0 _ _ (by trivial)) zB (by rfl)) (by decide) (by decide) (by rfl) (by rfl)) zE) (by rfl) (by trivial)) (@zD _ _ _ _ _ (@yH _ _ _ _ _ _ (@zQ _ _ _ _ _ _ _ _ _ _ _ _ _ _ _ _ b.ok S (by rfl) b.m b.kp b.b .nil zZ (@zA _ _ _ _ _ (@xB _ _ _ _ _ _ _ _ _ _ xT (@qv _ 0 _ _ (by trivial)) y9 (@yY _ _ _ (@qv _ 1 _ _ (by trivial)))) zB (by rfl)) (by decide) (by rfl) (by rfl)) (@yQ _ _ _ _ _ _ rfl (@zN _ _ _ _ _ (@zM _ _ 2 _ kr.nd rfl (.inl rfl) (by trivial)) (@zN _ _ _ _ _ (@zM _ _ 3 _ kr.nd rfl (.inl rfl) (by trivial)) yD (by rfl)) (by rfl)) (by rfl) (by rfl)) (by rfl) (by rfl) (by rfl)) (@zD _ _ _ _ _ (@yH _ _ _ _ _ _ (@zQ _ _ _ _ _ _ _ _ _ _ _ _ _ _ _ _ b.ok S (by rfl) b.m b.kp b.b .nil zZ (@zA _ _ _ _ _ (@xB _ _ _ _ _ _ _ _ _ _ xT (@qv _ 0 _ _ (by trivial)) (@yY _ _ _ (@qv _ 1 _ _ (by trivial))) y9) zB (by rfl)) (by decide) (by rfl) (by rfl)) (@yQ _ _ _ _ _ _ rfl (@zN _ _ _ _ _ (@zM _ _ 4 _ kr.nd rfl (.inl rfl) (by trivial)) (@zN _ _ _ _ _ (@zM _ _ 5 _ kr.nd rfl (.inl rfl) (by trivial)) yD (by rfl)) (by rfl)) (by rfl) (by rfl)) (by rfl) (by rfl) (by rfl)) (@zL _ _ _ (@zj _ _ _ _ (@yM _ _ _ _ _ (@zA _ _ _ _ _ (@zU _ _ _ _ _ _ _ _ wV (@zU _ _ _ _ _ _ _ _ wV (@yS _ _ _ _ (@zA _ _ _ _ _ (@yM _ _ _ _ _ (@zA _ _ _ _ _ (@zt _ _ _ _ _ _ _ zy (@qv _ 0 _ _ (by trivial)) zE (λ_ _=>rfl)) (@zA _ _ _ _ _ (@zt _ _ _ _ _ _ _ zy (@qv _ 0 _ _ (by trivial)) (@qv _ 1 _ _ (by trivial)) (λ_ _=>rfl)) zB (by rfl)) (by rfl))) zB (by rfl))) (@qv _ 2 _ _ (by trivial))) (@qv _ 4 _ _ (by trivial))) (@zA _ _ _ _ _ (@zQ _ _ _ _ _ _ _ _ _ _ _ _ _ _ _ _ J.ok Y (by rfl) J.m J.kp J.b .nil zZ (@zA _ _ _ _ _ (@qv _ 3 _ _ (by trivial)) (@zA _ _ _ _ _ (@qv _ 5 _ _ (by trivial)) zB (by rfl)) (by rfl)) (by decide) (by rfl) (by rfl)) zB (by rfl)) (by rfl))))))))),?_⟩;have nl:=zK row;have p8:2 ^ n<=2 ^ 8:=YN (by decide) U;have e8:2 ^ 8=256:=rfl;refine⟨_,rfl,p,_,rfl,.inl (SqL.of d),_,_,rfl,rfl,_,rfl,?_⟩
 cases n with
 | zero =>
  have a0:row.length=1:=R;rw[JA (show (((zJ row).length:Nat):Int)<2 by lia)];refine xO ⟨(by show 0<=sizeLine;decide),λl hl=>⟨_,rfl,(by show 2<=sizeLine;decide),λc o=>?_⟩⟩;have I:=zC hl (.lst []);have i:=zC o (.tup [.ref l,.ref p])
  exact k c l p [] _ (I.trans i) (zS o _) (i _ _ (zS hl _)) trivial (i _ _ (I _ _ d))
 | succ m =>
  obtain⟨t1,t2,t3⟩:=tM R;obtain⟨la,lb⟩:=wO R;have pw:2 ^ (m+1)=2 ^ m*2:=Yq ..;have p0:=Y7 (n:=m);rw[Js (show ¬(((zJ row).length:Nat):Int)<2 by lia)];refine yK ⟨_,rfl,p,_,rfl,.inl (SqL.of d),_,_,rfl,rfl,⟨by decide,by decide⟩,?_⟩;have eh:(((zJ row).length:Nat):Int) / 2=((row.length / 2:Nat):Int):=by rw[nl];lia
  simp only[eh];refine⟨_,rfl,_,rfl,_,rfl,p,_,rfl,SqL.of d,λp1 y=>?_⟩;rw[cv row _ t3];have I:=zC y (.lst (zJ (row.take (row.length / 2))));refine⟨m,rfl,p1,row.take (row.length / 2),rfl,zS y _,la,by lia,λc2 W le2 q H2 i aC ab u ao=>?_⟩;have L:=I.trans i;refine⟨c2,_,rfl,SqT.of aC,rfl,_,_,rfl,_,_,rfl,rfl,?_⟩;refine⟨_,rfl,_,rfl,_,rfl,p,_,rfl,SqL.of (L _ _ d),λp3 x=>?_⟩;rw[cw row _ t3];have s3:=zC x (.lst (zJ (row.drop (row.length / 2))));refine⟨m,rfl,p3,row.drop (row.length / 2),rfl,zS x _,lb,by lia,λc4 V X T H4 s4 ax Z r ak=>?_⟩;have g:=s3.trans s4;refine⟨c4,_,rfl,SqT.of ax,rfl,_,_,rfl,_,_,rfl,rfl,?_⟩;have v:=g _ _ (L _ _ d);obtain⟨xl,xf⟩:=vb m _ la;obtain⟨yl,yf⟩:=vb m _ lb;have a4:=u.len;have a3:=r.len;refine⟨_,rfl,p,_,0,_,rfl,rfl,SqL.of v,yR (j:=0) (lQ row 0 (by lia)),?_⟩;refine⟨_,rfl,_,rfl,p,_,_,_,rfl,rfl,SqL.of v,yR (lQ row (row.length / 2) (by lia)),(by show 2<=sizeLine;decide),λt ht=>?_⟩;have O:=zC ht (.tup [.int ((row.getD 0 0:Nat):Int),.int ((row.getD (row.length / 2) 0:Nat):Int)]);refine⟨(by show 1<=sizeLine;decide),λl6 C=>?_⟩;have D:=zC C (.lst [.ref t]);refine⟨_,rfl,l6,W,_,_,rfl,rfl,zS C _,D _ _ (O _ _ (g _ _ ab)),by rw[Y1];simp only[JE,Zv];lia,λl7 B=>?_⟩;have N:=zC B (.lst ([.ref t]++q));refine⟨_,rfl,l7,V,_,_,rfl,rfl,zS B _,N _ _ (D _ _ (O _ _ Z)),by rw[Y1,Jj];simp only[JE,Zv];lia,λl8 z=>?_⟩;have s8:=zC z (.lst (([.ref t]++q)++T));have e:=((O.trans D).trans N).trans s8;refine⟨_,rfl,_,rfl,le2,X,_,_,rfl,e _ _ (g _ _ ao),e _ _ ak,by rw[zK,zK,xl,yl],by rw[zK,xl];lia,λl9 H9 M h9=>?_⟩;rw[mO]at h9;refine⟨(by show 2<=sizeLine;decide),λc o=>?_⟩;have a:=zC o (.tup [.ref l8,.ref l9]);have t8:=s8 _ _ (N _ _ (D _ _ (zS ht (.tup [.int ((row.getD 0 0:Nat):Int),.int ((row.getD (row.length / 2) 0:Nat):Int)]))));refine k c l8 l9 _ _ ((L.trans g).trans ((e.trans M).trans a)) (zS o _) (a _ _ (M _ _ (zS z _))) ?_ (a _ _ h9);refine Prs.tups (Tups.of (M.trans a)) ?_;rw[JL];exact Prs.app (ps:=[.ref t]) (fs:=[(row.getD 0 0,row.getD (row.length / 2) 0)]) (show Prs _ [.ref t] [(row.getD 0 0,row.getD (row.length / 2) 0)] from⟨⟨t,rfl,t8⟩,trivial⟩) (Prs.app ((u.tups (Tups.of g)).tups (Tups.of e)) (r.tups (Tups.of e)))
theorem rR {f d:Addr}{fd e:FuncData}(F:Fun K "tree_of" "tree_of" vf f fd) (G:Mgs mg) (c:Use P w K mg base "by_turns" ["one","other"] 1 pQ d e) (b:Binds K fd ["row"] []) (a:mg "tree_of" = some (.ref f)):∀ n:Nat,FnOk P w K mg base CX0 (n+2) f fd ["row"] (wf n)
 | 0=>sI F G c b a 0 ⟨λvs H Q E ⟨m,h,_⟩=>by lia,λA outer s H args us vs Q E _ _ _ _ ⟨m,h,_⟩=>by lia⟩
 | m+1=>sI F G c b a (m+1) ((rR F G c b a m).imp λvs H Q E ⟨g,h,q⟩=>by cases h;exact q)
abbrev uL:Sp:=λa H Q E=>∃ m,m<=4/\wf m a H Q E
theorem mK {f b:Addr}{fd c:FuncData}(F:Fun K "tree_of" "tree_of" vf f fd) (G:Mgs mg) (e:Use P w K mg base "by_turns" ["one","other"] 1 pQ b c) (d:Binds K fd ["row"] []) (a:mg "tree_of" = some (.ref f)):FnOk P w K mg base CX0 6 f fd ["row"] uL :=
 FnOk.any 4 λm g=>(rR F G e d a m).mono (by lia)
theorem iM:FnScope ["k","row"] ["k"] (zP iQ):=by trivial
theorem dL {f J I L:Addr}{fd M dT N:FuncData}(F:Fun K "tree" "tree" iQ f fd) (b:Use P w K mg base "row_of" ["k"] 2 vd J M) (a:Use P w K mg base "tree_of" ["row"] 6 uL I dT) (d:Use P w K mg base "net_of" ["row","made"] 3 wK L N):FnOk P w K mg base CX0 7 f fd ["k"] nZ:=by
 refine F.ok iM (λu H Q E h=>?_) (λR A outer s H u Q E e h=>?_)
 ·obtain⟨k,rfl,_⟩:=h
  rfl
 obtain⟨k,rfl,B,q⟩:=h;have l:Room 2 _:=e.mono (by decide);have j:Room 3 _:=e.mono (by decide);refine⟨_,(@zD _ _ _ _ _ (@zr _ _ 1 _ _ _ _ iM.nd rfl (.inl rfl) (@zQ _ _ _ _ _ _ _ _ _ _ _ _ _ _ _ _ b.ok l (by rfl) b.m b.kp b.b .nil zZ (@zA _ _ _ _ _ (@qv _ 0 _ _ (by trivial)) zB (by rfl)) (by decide) (by rfl) (by rfl)) (by rfl) (by trivial)) (@zL _ _ _ (@zj _ _ _ _ (@zQ _ _ _ _ _ _ _ _ _ _ _ _ _ _ _ _ d.ok j (by rfl) d.m d.kp d.b .nil zZ (@zA _ _ _ _ _ (@qv _ 1 _ _ (by trivial)) (@zA _ _ _ _ _ (@zQ _ _ _ _ _ _ _ _ _ _ _ _ _ _ _ _ a.ok e (by rfl) a.m a.kp a.b .nil zZ (@zA _ _ _ _ _ (@qv _ 1 _ _ (by trivial)) zB (by rfl)) (by decide) (by rfl) (by rfl)) zB (by rfl)) (by rfl)) (by decide) (by rfl) (by rfl))))),?_⟩;refine⟨_,rfl,k,rfl,by lia,λp g=>?_⟩;have v:=zC g (.lst (zJ (List.range (2 ^ k))));refine⟨_,rfl,_,rfl,k,by lia,p,List.range (2 ^ k),rfl,zS g _,Jx,by lia,λc lf le z S o G C pr D=>?_⟩;have t:(⟨(List.range (2 ^ k)).length,(yg k (List.range (2 ^ k))).1,(yg k (List.range (2 ^ k))).2⟩:Nt)=xj k:=by rw[Jx];rfl
 refine⟨p,c,lf,le,z,_,List.range (2 ^ k),_,rfl,o _ _ (zS g _),G,C,pr,D,by rw[t];exact wy B,λy m n i O x r=>?_⟩;rw[t]at r;exact q y m n i O ((v.trans o).trans x) r
abbrev tm:Stmt:=top 31
def uN:Sp:=λe H Q _=>∃ r fr g f N p q,e=[.ref r,.ref p]/\Nt.Ok N/\NetAt H r fr g f N/\H p=some (.tup (zJ q))/\N.lanes<=q.length /\
 ∀ t c d b a,Same H a->a t=some (.tup [.ref c,.ref d])->a c=some (.tup b)->Prs a b (N.forks.map (xx q))->a d=some (.tup (zJ (N.ends.map (nmq q))))->Q (.ref t) a
theorem lH:FnScope ["net","names","lanes","forks","ends"] ["net","names"] (zP tm):=by trivial
theorem mN {f:Addr}{fd:FuncData}(F:Fun K "called" "called" tm f fd) (G:Mgs mg):FnOk P w K mg base CX0 1 f fd ["net","names"] uN:=by
 refine F.ok lH (λvs H Q E h=>?_) (λao A outer s H vs Q E hr h=>?_)
 ·obtain⟨r,fr,Y,V,N,p,q,rfl,_⟩:=h
  rfl
 obtain⟨r,fr,Y,V,N,p,q,rfl,ok,na,W,ql,k⟩:=h;refine⟨_,(@zD _ _ _ _ _ (@yH _ _ _ _ _ _ (@qv _ 0 _ _ (by trivial)) (@yQ _ _ _ _ _ _ rfl (@zN _ _ _ _ _ (@zM _ _ 2 _ lH.nd rfl (.inl rfl) (by trivial)) (@zN _ _ _ _ _ (@zM _ _ 3 _ lH.nd rfl (.inl rfl) (by trivial)) (@zN _ _ _ _ _ (@zM _ _ 4 _ lH.nd rfl (.inl rfl) (by trivial)) yD (by rfl)) (by rfl)) (by rfl)) (by rfl) (by rfl)) (by rfl) (by rfl) (by rfl)) (@zL _ _ _ (@zj _ _ _ _ (@yM _ _ _ _ _ (@zA _ _ _ _ _ (@yA _ _ _ _ _ _ _ _ _ zw (by rfl) G.tuple (by rfl) (@zA _ _ _ _ _ (@ue _ _ _ _ none _ _ _ (cI K 2 (sX (wt 0) (sX (wt 1) cJ))) _ _ ["one","other","names"] [none,none,some 1] rfl (@wn _ _ _ _ (@qv _ 3 _ _ (by trivial))) (CapOk.of (by kernel_rfl)) (λ_ _ _ _ _=>(@yQ _ _ _ _ _ _ rfl (@zN _ _ _ _ _ (@zM _ _ 0 _ (show (["one","other","names"]:List Str).Nodup from by decide +kernel) rfl (.inl rfl) (.inr rfl)) (@zN _ _ _ _ _ (@zM _ _ 1 _ (show (["one","other","names"]:List Str).Nodup from by decide +kernel) rfl (.inl rfl) (.inr rfl)) yD (by rfl)) (by rfl)) (by rfl) (by rfl))) (λ_ _ _ _ _=>xX) (λ_ _ _ _ _=>(@yM _ _ _ _ _ (@zA _ _ _ _ _ (@zt _ _ _ _ _ _ (iY K) yJ (@qv _ 2 _ _ (by trivial)) (@qv _ 0 _ _ (by trivial)) (λ_ _=>rfl)) (@zA _ _ _ _ _ (@zt _ _ _ _ _ _ (iY K) yJ (@qv _ 2 _ _ (by trivial)) (@qv _ 1 _ _ (by trivial)) (λ_ _=>rfl)) zB (by rfl)) (by rfl)))) (by intro _;rfl)) zB (by rfl)) (by decide) (by decide) (by rfl) (by rfl)) (@zA _ _ _ _ _ (@yA _ _ _ _ _ _ _ _ _ zw (by rfl) G.tuple (by rfl) (@zA _ _ _ _ _ (@ue _ _ _ _ none _ _ _ _ _ _ ["lane","names"] [none,some 1] rfl (@wn _ _ _ _ (@qv _ 4 _ _ (by trivial))) (CapOk.of (by kernel_rfl)) (λ_ _ _ _ _=>(@zM _ _ 0 _ (show (["lane","names"]:List Str).Nodup from by decide +kernel) rfl (.inl rfl) (.inr rfl))) (λ_ _ _ _ _=>xX) (λ_ _ _ _ _=>(@zt _ _ _ _ _ _ (iY K) yJ (@qv _ 1 _ _ (by trivial)) (@qv _ 0 _ _ (by trivial)) (λ_ _=>rfl))) (by intro _;rfl)) zB (by rfl)) (by decide) (by decide) (by rfl) (by rfl)) zB (by rfl)) (by rfl)))))),?_⟩;have ak:=ok.l16;have fm:=ok.fm;have pl:=na.prs.len;have el:=sY ok;refine⟨_,rfl,r,_,rfl,SqT.of na.net,rfl,_,_,rfl,_,_,rfl,_,_,rfl,rfl,?_⟩;refine⟨_,rfl,fr,rfl,⟨_,SqT.of na.forks⟩,λlq L=>?_⟩;refine qt (K:=K) (a:=fr) (xs:=V) (λi acc σ c=>(∃ T S,σ=[T,S,some (.ref p)])/\Same H c/\c lq=some (.lst acc)/\acc.length=i/\Prs c acc ((N.forks.take i).map (xx q))) ⟨⟨_,_,rfl⟩,zC L _,zG,rfl,trivial⟩ (λi acc σ c z=>⟨z.2.2.1,SqT.of (z.2.1 _ _ na.forks)⟩) ?_ ?_
 ·rintro i x acc σ c n ⟨⟨T,S,rfl⟩,y,X,al,pr⟩
  obtain⟨a,g,rfl,Z,ha⟩:=(na.prs.tups (Tups.of y)).get n;have ab:=ok.fk g (Ya Z);have B:i<V.length:=(J9.mp n).1;have ig:i<N.forks.length:=(J9.mp Z).1;refine⟨a,_,rfl,SqT.of ha,rfl,_,_,rfl,_,_,rfl,rfl,?_⟩;refine⟨_,rfl,_,rfl,p,_,_,_,rfl,rfl,SqT.of (y _ _ W),gG (by lia),_,rfl,_,rfl,p,_,_,_,rfl,rfl,SqT.of (y _ _ W),gG (by lia),(by show 2<=sizeLine;decide),λt I=>?_⟩;have m:=zC I (.tup [.int (nmq q g.1:Nat),.int (nmq q g.2:Nat)]);have C:=m _ _ X;refine⟨C,JG (show _<1000 by lia) (by decide),nx B ⟨⟨_,_,rfl⟩,λb o e=>?_,zG,by simp[al],?_⟩⟩
  ·rw[zH (zF e L)];exact m _ _ (y b o e)
  ·rw[JR ig,JF,(J9.mp Z).2]
   exact Prs.add (f:=xx q g) (Tups.lst C _ _ (zS I _)) ((pr.tups (Tups.of m)).tups (Tups.lst C))
 rintro acc σ c ⟨⟨T,S,rfl⟩,y,X,al,pr⟩;rw[pl,YB]at pr;refine⟨lq,_,rfl,.inl ⟨SqL.of X,λu d=>?_⟩⟩;have m:=zC d (.tup acc);have C:=zS d (.tup acc);have D:=y.trans m;have J:=pr.tups (Tups.of m);generalize upd c u (.tup acc)=H5 at m C D J;refine⟨_,rfl,Y,rfl,⟨_,SqT.of (D _ _ na.ends)⟩,λl hl=>?_⟩;refine qt (K:=K) (a:=Y) (xs:=zJ N.ends) (λi acc σ c=>(∃ v,σ=[v,some (.ref p)])/\Same H5 c/\c l=some (.lst acc)/\acc=zJ ((N.ends.take i).map (nmq q))) ⟨⟨_,rfl⟩,zC hl _,zG,rfl⟩ (λi acc σ c z=>⟨z.2.2.1,SqT.of (z.2.1 _ _ (D _ _ na.ends))⟩) ?_ ?_
 ·rintro i x acc σ H6 n ⟨⟨v,rfl⟩,O,R,rfl⟩
  have B:i<N.ends.length:=by have:=(J9.mp n).1;rwa [zK]at this
  have ex:x=.int N.ends[i]:=by
   unfold zJ at n;rw[JD,J0 B]at n;exact(Jv n).symm
  subst ex;have lt':=lj ok (Yb B);refine⟨_,rfl,_,rfl,p,_,_,_,rfl,rfl,SqT.of (O _ _ (D _ _ W)),gG (by lia),R,?_,nx (by rw[zK];exact B) ⟨⟨_,rfl⟩,λb o e=>?_,zG,?_⟩⟩
  ·rw[zK,Je,JN];exact Nat.lt_of_le_of_lt (Nat.min_le_left _ _) (JG (show i<1000 by lia) (by decide))
  ·rw[zH (zF e hl)];exact O b o e
  ·rw[JR B,JF]
   unfold zJ;rw[JF];rfl
 rintro acc σ H6 ⟨⟨v,rfl⟩,O,R,rfl⟩;rw[zK,YB]at R;refine⟨l,_,rfl,.inl ⟨SqL.of R,λM j=>?_⟩⟩;have s7:=zC j (.tup (zJ (N.ends.map (nmq q))));refine⟨(by show 2<=sizeLine;decide),λt I=>?_⟩;have s8:=zC I (.tup [.ref u,.ref M]);have U:=(O.trans s7).trans s8;exact k t u M acc _ (D.trans U) (zS I _) (U _ _ C) (J.tups (Tups.of U)) (s8 _ _ (zS j _))
abbrev qQ:Stmt:=top 30
def tX:Sp:=λj H Q _=>∃ r fr l k A h d f b B,j=[.ref r,.ref h]/\Nt.Ok A/\NetAt H r fr l k A/\Nt.Ok B/\NetAt H h d f b B/\B.lanes=A.lanes/\A.forks.length+B.forks.length<=128/\∀ i e g c a,Same H a->NetAt a i e g c (zV (yo A B))->Q (.ref i) a
theorem kx:FnScope ["one","other","lanes","forks","ends","more_forks","more_ends"] ["one","other"] (zP qQ):=by trivial
theorem jM {f fC Z:Addr}{fd dC dP:FuncData}(F:Fun K "behind" "behind" qQ f fd) (l:Use P w K mg base "called" ["net","names"] 1 uN fC dC) (j:Use P w K mg base "plain" ["net"] 2 ux Z dP):FnOk P w K mg base CX0 3 f fd ["one","other"] tX:=by
 refine F.ok kx (λO H Q E h=>?_) (λab A outer s H O Q E I h=>?_)
 ·obtain⟨r,fr,M,G,A,D,g,i,a,B,rfl,_⟩:=h
  rfl
 obtain⟨r,fr,M,G,N,D,g,i,a,B,rfl,ok,na,c,nb,J,Y,k⟩:=h;have q:Room 1 _:=I.mono (by decide);refine⟨_,(@zD _ _ _ _ _ (@yH _ _ _ _ _ _ (@qv _ 0 _ _ (by trivial)) (@yQ _ _ _ _ _ _ rfl (@zN _ _ _ _ _ (@zM _ _ 2 _ kx.nd rfl (.inl rfl) (by trivial)) (@zN _ _ _ _ _ (@zM _ _ 3 _ kx.nd rfl (.inl rfl) (by trivial)) (@zN _ _ _ _ _ (@zM _ _ 4 _ kx.nd rfl (.inl rfl) (by trivial)) yD (by rfl)) (by rfl)) (by rfl)) (by rfl) (by rfl)) (by rfl) (by rfl) (by rfl)) (@zD _ _ _ _ _ (@yH _ _ _ _ _ _ (@zQ _ _ _ _ _ _ _ _ _ _ _ _ _ _ _ _ l.ok q (by rfl) l.m l.kp l.b .nil zZ (@zA _ _ _ _ _ (@qv _ 1 _ _ (by trivial)) (@zA _ _ _ _ _ (@qv _ 4 _ _ (by trivial)) zB (by rfl)) (by rfl)) (by decide) (by rfl) (by rfl)) (@yQ _ _ _ _ _ _ rfl (@zN _ _ _ _ _ (@zM _ _ 5 _ kx.nd rfl (.inl rfl) (by trivial)) (@zN _ _ _ _ _ (@zM _ _ 6 _ kx.nd rfl (.inl rfl) (by trivial)) yD (by rfl)) (by rfl)) (by rfl) (by rfl)) (by rfl) (by rfl) (by rfl)) (@zL _ _ _ (@zj _ _ _ _ (@zQ _ _ _ _ _ _ _ _ _ _ _ _ _ _ _ _ j.ok I (by rfl) j.m j.kp j.b .nil zZ (@zA _ _ _ _ _ (@yM _ _ _ _ _ (@zA _ _ _ _ _ (@qv _ 2 _ _ (by trivial)) (@zA _ _ _ _ _ (@zU _ _ _ _ _ _ _ _ eY (@qv _ 3 _ _ (by trivial)) (@qv _ 5 _ _ (by trivial))) (@zA _ _ _ _ _ (@qv _ 6 _ _ (by trivial)) zB (by rfl)) (by rfl)) (by rfl))) zB (by rfl)) (by decide) (by rfl) (by rfl)))))),?_⟩;have pl:=na.prs.len;refine⟨_,rfl,r,_,rfl,SqT.of na.net,rfl,_,_,rfl,_,_,rfl,_,_,rfl,rfl,?_⟩;refine⟨_,rfl,_,rfl,D,g,i,a,B,M,N.ends,rfl,c,nb,na.ends,by rw[sY ok,J];exact Jf _,λt f1 n V H1 C X v b x=>?_⟩;refine⟨t,_,rfl,SqT.of X,rfl,_,_,rfl,_,_,rfl,rfl,?_⟩;have d:=na.tups (Tups.of C);have p:=b.len;rw[Je]at p;refine⟨_,rfl,_,rfl,_,rfl,fr,f1,G,V,rfl,rfl,d.forks,v,by rw[Y1];lia,λL H2 R u=>?_⟩;refine⟨_,rfl,(by show 3<=sizeLine;decide),λT e=>?_⟩;have z:=zC e (.tup [.int N.lanes,.ref L,.ref n]);have m:=R.trans z;exact⟨T,L,n,_,yo N B,rfl,uZ ok c J Y,⟨zS e _,z _ _ u,(Prs.app d.prs b).tups (Tups.of m),m _ _ x⟩,λU y o H' S W=>k U y n o H' ((C.trans m).trans S) W⟩
end
end K89
namespace L2
open PySem PySem.Spec PyProof.Rows Own
theorem gR {K:PySem.W.Frag}{b:Bool}{a:Addr}{xs:List V}{g:TG}{tt:TT}{h:TE}{l:Addr}{σ:St}{H:Hp}{Q:VK}(d:Nat->List V->St->Hp->Prop)(r:d 0 [] σ H)(o:∀ i acc σ H,d i acc σ H->H l=some (.lst acc)/\SqB b K H a xs)(hs:∀ (i:Nat) acc σ H x T,xs[i]?=some x->H T=none->d i acc σ H->g (.ref T) σ (upd H T (.tup [.int i,x])) λc u=>tt c u λb k=>if b=true then h c k λz j=>j l=some (.lst acc)/\acc.length<sizeLine/\Nx xs.length i (d (i+1) (acc++[z]) c (upd j l (.lst (acc++[z])))) else Nx xs.length i (d (i+1) acc c k))(hd:∀ acc σ H,d xs.length acc σ H->Q (.ref l) H):∃ W:Nat->Nat->List V->St->Hp->Prop,(∃ m,W 0 m [] σ H)/\LCW (Ite K b a) g tt h l Q W:=by
 refine⟨λi m acc σ H=>m=xs.length-i/\i<=xs.length/\d i acc σ H,⟨_,rfl,JX _,r⟩,?_⟩;rintro i m acc σ H ⟨rfl,w,p⟩;obtain⟨n,e⟩:=o i acc σ H p;refine⟨n,?_⟩;by_cases f:i<xs.length
 ·refine .inr ⟨⟨xs,_,e,J0 f⟩,λv A ⟨y,s,T,q,t,e2⟩=>?_⟩
  subst t e2;exact hs i acc σ H y T (s xs e) q p
 ·obtain rfl:i=xs.length:=by lia
  exact .inl ⟨⟨xs,e,rfl⟩,hd acc σ H p⟩
end L2
namespace Bn
open PySem L2 Own
theorem zae (h a b:Nat):inV (V.int h) [V.int a,V.int b]=decide (h=a\/h=b):=by
 by_cases c:h=a
 ·subst c;simp[inV,eqV]
 ·by_cases e2:h=b
  ·subst e2;simp[inV,eqV]
  ·have e:¬((h:Int)=a):=by lia
   have d:¬((h:Int)=b):=by lia
   simp[inV,eqV,c,e2];lia
structure IsNext (fs:List (Nat × Nat)) (lane n k:Nat):Prop where
 from_:n<=k
 upto:k<=fs.length
 none:∀ j g,n<=j->j<k->fs[j]?=some g->¬(lane=g.1\/lane=g.2)
 here:∀ g,fs[k]?=some g->lane=g.1\/lane=g.2
structure Grp where
 many:Int
 lane:Nat
 fork:Nat
end Bn
namespace L2
open PySem PySem.Spec PyProof.Rows Own
def am (K:PySem.W.Frag):V->V->Hp->VK->Prop:=λo i H Q=>∃ (p:Addr) (a:List V) (j:Nat) (v:V),o=.ref p/\i=.int j/\SqL K H p a/\a[j]?=some v/\Q v H
theorem gj {X:Cx}:PGet X (am X.K):=by
 intro pins s σ H o i n x Q I c d h;obtain⟨p,m,j,v,rfl,rfl,f,a,q⟩:=h;cases c;obtain⟨t,rfl⟩:=d;obtain⟨l,r,e,y⟩:=I.list f;obtain⟨u,g,b⟩:=r.get a;have w:=(J9.mp a).1;have k:sizeLine<2 ^ 63:=by rw[Y1];decide
 exact wpAny_getItem_list e.isList (Int.natCast_nonneg _) (by lia) (by simpa using g) ⟨v,H,I,b,q⟩
structure UseM (P:Program) (w:World) (K:PySem.W.Frag) (mg:Str->Option Value) (base:Heap) (C:Addr) (x:Str) (ps:List Str) (k:Nat) (sp:Sp) (f:Addr) (fd:FuncData):Prop where
 ok:FnOk P w K mg base CX0 k f fd ps sp
 b:Binds K fd ps []
 mt:Meth K C x f
end L2
namespace Bn
open PySem L2 Own
def yw (n s p c u:Addr):List (Str × V):=zx "numbers" (.ref u) (zx "came" (.ref c) (zx "spots" (.ref p) (zx "settings" (.ref s) (zx "net" (.ref n) []))))
section
variable {n s p c u:Addr}
theorem vX:(yw n s p c u).lookup ("net":Str)=some (.ref n):=by
 unfold yw;rw[zX,Ja (by decide +kernel),zX,Ja (by decide +kernel),zX,Ja (by decide +kernel),zX,Ja (by decide +kernel),zX,Jb rfl]
theorem gn:(yw n s p c u).lookup ("settings":Str)=some (.ref s):=by
 unfold yw;rw[zX,Ja (by decide +kernel),zX,Ja (by decide +kernel),zX,Ja (by decide +kernel),zX,Jb rfl]
theorem wv:(yw n s p c u).lookup ("spots":Str)=some (.ref p):=by
 unfold yw;rw[zX,Ja (by decide +kernel),zX,Ja (by decide +kernel),zX,Jb rfl]
theorem gq:(yw n s p c u).lookup ("came":Str)=some (.ref c):=by
 unfold yw;rw[zX,Ja (by decide +kernel),zX,Jb rfl]
theorem gp:(yw n s p c u).lookup ("numbers":Str)=some (.ref u):=by
 unfold yw;rw[zX,Jb rfl]
theorem oi {m:Str}(f:¬ m = "numbers") (e:¬ m = "came") (d:¬ m = "spots") (b:¬ m = "settings") (a:¬ m = "net"):(yw n s p c u).lookup m=none:=by
 unfold yw;rw[zX,Ja f,zX,Ja e,zX,Ja d,zX,Ja b,zX,Ja a];rfl
end
structure Tst where
 sets:List Nat
 spots:List (Option (Nat × Nat))
 came:List Nat
 nms:List Nat
structure Tad where
 t:Addr
 r:Addr
 fr:Addr
 er:Addr
 ps:List V
 ls:Addr
 lp:Addr
 lc:Addr
 ln:Addr
def SpotAt (H:Hp)(v:V):Option (Nat × Nat)->Prop
 | none=>v=.non
 | some (l,k)=>∃ q,v=.ref q/\H q=some (.tup [.int (l:Nat),.int (k:Nat)])
def Spots (H:Hp)(sp:List V)(os:List (Option (Nat × Nat))):Prop:=sp.length=os.length/\∀ (i:Nat) (v:V) (o:Option (Nat × Nat)),sp[i]?=some v->os[i]?=some o->SpotAt H v o
theorem SpotAt.tups {H H':Hp}(t:Tups H H'){v:V}:∀ {o:Option (Nat × Nat)},SpotAt H v o->SpotAt H' v o
 | none,h=>h
 | some (l,k),⟨q,e,h⟩=>⟨q,e,t _ _ h⟩
theorem Spots.tups {H H':Hp}(t:Tups H H'){sp:List V}{os:List (Option (Nat × Nat))}(h:Spots H sp os):Spots H' sp os:=⟨h.1,λi v o a b=>(h.2 i v o a b).tups t⟩
theorem Spots.add {H:Hp}{sp:List V}{os:List (Option (Nat × Nat))}(h:Spots H sp os){v:V}{o:Option (Nat × Nat)}(j:SpotAt H v o):Spots H (sp++[v]) (os++[o]):=by
 refine⟨by rw[Jj,Jj,h.1];rfl,λi f g a b=>?_⟩;by_cases c:i<sp.length
 ·rw[Y8 c]at a
  rw[Y8 (by rw[<- h.1];exact c)]at b;exact h.2 i f g a b
 ·rw[Ye (by lia)]at a
  rw[Ye (by rw[<- h.1];lia),<- h.1]at b;obtain⟨z,e⟩:=J9.mp a;have d:i-sp.length=0:=by simpa using z
  rw[d]at a b;cases a;cases b;exact j
theorem Spots.set {H:Hp}{sp:List V}{os:List (Option (Nat × Nat))}(h:Spots H sp os){v:V}{o:Option (Nat × Nat)}(g:SpotAt H v o)(k:Nat):Spots H (sp.set k v) (os.set k o):=by
 refine⟨by rw[Yd,Yd,h.1],λi e f a b=>?_⟩;rw[Yt]at a b;by_cases c:k=i
 ·rw[Jb c]at a b
  by_cases d:k<sp.length
  ·rw[Jb d]at a
   rw[Jb (by rw[<- h.1];exact d)]at b;cases a;cases b;exact g
  ·rw[Ja d]at a;cases a
 ·rw[Ja c]at a b
  exact h.2 i e f a b
structure TelAt (C:Addr) (H:Hp) (A:Tad) (N:Nt) (S:Tst):Prop where
 ob:∃ dx,H A.t=some (.ins C dx (yw A.r A.ls A.lp A.lc A.ln))
 na:NetAt H A.r A.fr A.er A.ps N
 hs:H A.ls=some (.lst (zJ S.sets))
 hp:∃ sp,H A.lp=some (.lst sp)/\Spots H sp S.spots
 hc:H A.lc=some (.lst (zJ S.came))
 hn:H A.ln=some (.lst (zJ S.nms))
 d1:A.ls≠A.lp
 d2:A.ls≠A.lc
 d3:A.ls≠A.ln
 d4:A.lp≠A.lc
 d5:A.lp≠A.ln
 d6:A.lc≠A.ln
def But4 (A:Tad)(H H':Hp):Prop:=∀ b o,H b=some o->b≠A.ls->b≠A.lp->b≠A.lc->b≠A.ln->H' b=some o
theorem TelAt.keep {C:Addr}{H H':Hp}{A:Tad}{N:Nt}{S:Tst}(T:TelAt C H A N S)(s:Same H H'):TelAt C H' A N S:=by
 obtain⟨c,e⟩:=T.ob;obtain⟨sp,b,a⟩:=T.hp;exact⟨⟨c,s _ _ e⟩,T.na.tups (Tups.of s),s _ _ T.hs,⟨sp,s _ _ b,a.tups (Tups.of s)⟩,s _ _ T.hc,s _ _ T.hn,T.d1,T.d2,T.d3,T.d4,T.d5,T.d6⟩
structure OkS (N:Nt) (S:Tst):Prop where
 sl:S.sets.length=N.forks.length
 sv:∀ x∈S.sets,x<2
 sp:∀ l k,some (l,k)∈S.spots->l<N.lanes/\k<=N.forks.length
 cl:S.came.length=N.lanes
def yq (os:List (Option (Nat × Nat))):List Nat:=(List.range os.length).filter λi=>(os.getD i none).isSome
def S0 (N:Nt):Tst:=⟨List.replicate N.forks.length 0,[],List.replicate N.lanes 0,[]⟩
theorem ok0 (N:Nt):OkS N (S0 N):=⟨YY,λx a=>by rw[List.eq_of_mem_replicate a];decide,λl k h=>by simp[S0]at h,YY⟩
def y8 (N:Nt)(lane:Nat):Nat:=N.ends.idxOf lane
theorem mh {N:Nt}(ok:N.Ok){lane:Nat}(h:lane<N.lanes):y8 N lane<N.lanes:=by
 have a:N.ends.length=N.lanes:=by rw[ok.en.length_eq,Jx]
 rw[<- a];exact Wa (ok.en.mem_iff.mpr (JC.mpr h))
def i4 (N:Nt)(S:Tst)(ball lane:Nat):Tst:=⟨S.sets,S.spots.set ball none,S.came.set (y8 N lane) (S.came.getD (y8 N lane) 0+1),S.nms++[y8 N lane+N.lanes*S.came.getD (y8 N lane) 0]⟩
def onT (N:Nt)(S:Tst)(ball k:Nat):Nat:=if S.sets.getD k 0=0 then (N.forks.getD k (0,0)).1 else (N.forks.getD k (0,0)).2
def goT (N:Nt)(S:Tst)(ball k k':Nat):Tst:=⟨S.sets.set k (1-S.sets.getD k 0),S.spots.set ball (some (onT N S ball k,k')),S.came,S.nms⟩
theorem vC {α:Type}{l:List α}{i:Nat}{a x:α}(h:x∈l.set i a):x∈l\/x=a:=by
 obtain⟨j,b⟩:=Ys.mp h;rw[Yt]at b;split at b
 ·split at b
  ·exact .inr (Jv b).symm
  ·cases b
 ·exact .inl (Ya b)
theorem OkS.start {N:Nt}{S:Tst}(h:OkS N S){lane k:Nat}(b:lane<N.lanes)(c:k<=N.forks.length):OkS N { S with spots:=S.spots++[some (lane,k)] } :=
 ⟨h.sl,h.sv,λl a m=>by
  rcases Jz.mp m with m|m
  ·exact h.sp l a m
  ·have:=JZ.mp m
   cases this;exact⟨b,c⟩,h.cl⟩
theorem OkS.out {N:Nt}{S:Tst}(h:OkS N S)(ball lane:Nat):OkS N (i4 N S ball lane):=by
 refine⟨h.sl,h.sv,λl k m=>?_,?_⟩
 ·rcases vC m with m|m
  ·exact h.sp l k m
  ·cases m
 ·show (S.came.set _ _).length=_
  rw[Yd];exact h.cl
theorem OkS.go {N:Nt}{S:Tst}(ok:N.Ok)(h:OkS N S){ball k k':Nat}(b:k<N.forks.length)(a:k'<=N.forks.length):onT N S ball k<N.lanes/\OkS N (goT N S ball k k'):=by
 have f:=ok.fk _ (Yb b);have c:N.forks.getD k (0,0)=N.forks[k]:=by rw[J7,J0 b];rfl
 have on:onT N S ball k<N.lanes:=by
  unfold onT;rw[c];split
  ·exact f.1
  ·exact f.2.1
 refine⟨on,by show (S.sets.set _ _).length=_;rw[Yd];exact h.sl,λx m=>?_,λl q m=>?_,h.cl⟩
 ·rcases vC m with m|m
  ·exact h.sv x m
  ·lia
 ·rcases vC m with m|m
  ·exact h.sp l q m
  ·cases m;exact⟨on,a⟩
def KpT (t:Addr)(a H:Hp):Prop:=∀ b o,a b=some o->b≠t->H b=some o
theorem KpT.step {t:Addr}{a H H':Hp}(k:KpT t a H)(s:Same H H')(o:HO):KpT t a (L2.upd H' t o):=λb c e ne=>by rw[zH ne];exact s _ _ (k b c e ne)
theorem KpT.free {t a:Addr}{b H:Hp}{o:HO}(k:KpT t b H)(d:H t=some o)(h:H a=none):b a=none/\a≠t:=by
 have ne:a≠t:=λe=>by rw[e,d]at h;cases h
 refine⟨?_,ne⟩
 cases e:b a with
 | none=>rfl
 | some c=>rw[k a c e ne]at h;cases h
end Bn
namespace Bn
open PySem L2 Own
theorem o7 {p p':Nat->Bool}{b:Nat}(hp:p b=true)(a:p' b=false)(h:∀ i,i≠b->p' i=p i):∀ n,((List.range n).filter p).length=((List.range n).filter p').length+(if b<n then 1 else 0)
 | 0=>by simp
 | n+1=>by
  rw[Yk,ZM,ZM,Jj,Jj,o7 hp a h n];by_cases e:n=b
  ·subst e
   rw[Zp,Zp,hp,a];simp
  ·rw[Zp,Zp,h n e]
   have:(if b<n+1 then 1 else 0)=(if b<n then 1 else 0):=by
    by_cases c:b<n
    ·rw[Jb c,Jb (by lia)]
    ·rw[Ja c,Ja (by lia)]
   rw[this,List.filter_nil,List.filter_nil];lia
theorem fz (os:List (Option (Nat × Nat)))(o:Nat × Nat):yq (os++[some o])=yq os++[os.length]:=by
 unfold yq;rw[Jj];show (List.range (os.length+1)).filter _=_;rw[Yk,ZM]
 congr 1
 ·refine List.filter_congr λi a=>?_
  have:=JC.mp a;rw[J7,J7,Y8 this]
 ·rw[Zp,J7,Ye (Jf _)]
  simp
theorem qx (os:List (Option (Nat × Nat)))(b:Nat)(o:Option (Nat × Nat))(i:Nat):(os.set b o).getD i none=if b=i/\b<os.length then o else os.getD i none:=by
 rw[J7,J7,Yt];by_cases e:b=i
 ·subst e
  by_cases c:b<os.length
  ·rw[Jb rfl,Jb c,Jb ⟨rfl,c⟩];rfl
  ·rw[Jb rfl,Ja c,Ja (λz=>c z.2),List.getElem?_eq_none (by lia)]
 ·rw[Ja e,Ja (λz=>e z.1)]
theorem lA {os:List (Option (Nat × Nat))}{b:Nat}{o:Nat × Nat}(h:os[b]?=some (some o)):(yq os).length=(yq (os.set b none)).length+1:=by
 have bl:=(J9.mp h).1;have c:os.getD b none=some o:=by rw[J7,h];rfl
 unfold yq;rw[Yd,o7 (p:=λi=>(os.getD i none).isSome) (p':=λi=>((os.set b none).getD i none).isSome) (b:=b) (by show (os.getD b none).isSome=true;rw[c];rfl) (by show ((os.set b none).getD b none).isSome=false;rw[qx,Jb ⟨rfl,bl⟩];rfl) (λi a=>by show ((os.set b none).getD i none).isSome=(os.getD i none).isSome;rw[qx,Ja (λz=>a z.1.symm)]),Jb bl]
theorem jz {os:List (Option (Nat × Nat))}{b:Nat}{o o':Nat × Nat}(h:os[b]?=some (some o)):yq (os.set b (some o'))=yq os:=by
 have a:os.getD b none=some o:=by rw[J7,h];rfl
 unfold yq;rw[Yd];refine List.filter_congr λi _=>?_;rw[qx];by_cases c:b=i/\b<os.length
 ·rw[Jb c,<- c.1,a];rfl
 ·rw[Ja c]
theorem lR {os:List (Option (Nat × Nat))}{b:Nat}:b∈yq os↔∃ o,os[b]?=some (some o):=by
 unfold yq;rw[List.mem_filter,JC];constructor
 ·rintro⟨bl,a⟩
  rw[J7,J0 bl]at a
  cases e:os[b] with
  | none=>rw[e]at a;cases a
  | some o=>exact⟨o,by rw[J0 bl,e]⟩
 ·rintro⟨o,h⟩
  exact⟨(J9.mp h).1,by rw[J7,h];rfl⟩
structure Fine (N:Nt) (S:Tst):Prop where
 num:∀ e,e<N.lanes->(S.nms.filter λn=>decide (n%N.lanes=e))=(List.range (S.came.getD e 0)).map λj=>e+N.lanes*j
 cnt:S.nms.length+(yq S.spots).length=S.spots.length
 all:∀ n∈S.nms,n%N.lanes<N.lanes
theorem zam {N:Nt}(h:1<=N.lanes):Fine N (S0 N):=by
 refine⟨λe b=>?_,rfl,λn a=>by simp[S0]at a⟩;show _=(List.range ((List.replicate N.lanes 0).getD e 0)).map _;rw[J7,Zi,Jb b];rfl
theorem Fine.start {N:Nt}{S:Tst}(f:Fine N S)(o:Nat × Nat):Fine N { S with spots:=S.spots++[some o] }:=by
 refine⟨f.num,?_,f.all⟩;show S.nms.length+(yq (S.spots++[some o])).length=(S.spots++[some o]).length;rw[fz,Jj,Jj,<- f.cnt];simp only[Zv,JE];lia
theorem Fine.out {N:Nt}{S:Tst}(ok:N.Ok)(os:OkS N S)(f:Fine N S){ball lane k:Nat}(hb:S.spots[ball]?=some (some (lane,k)))(i:lane<N.lanes) :
  Fine N (i4 N S ball lane)/\(y8 N lane+N.lanes*S.came.getD (y8 N lane) 0)∉S.nms:=by
 have a:=mh ok i;generalize o:y8 N lane=e at a;have q:=ok.l1;have em:(e+N.lanes*S.came.getD e 0)%N.lanes=e:=by rw[Wi,ZV a]
 refine⟨⟨λb d=>?_,?_,λn r=>Nat.mod_lt _ (by lia)⟩,λh=>?_⟩
 ·show ((S.nms++[y8 N lane+N.lanes*S.came.getD (y8 N lane) 0]).filter _)=(List.range ((S.came.set (y8 N lane) (S.came.getD (y8 N lane) 0+1)).getD b 0)).map _
  rw[o,ZM,Zp,em,f.num b d,J7 (l:=S.came.set _ _),Yt];by_cases c:e=b
  ·subst c
   have p:e<S.came.length:=by rw[os.cl];exact a
   rw[Jb rfl,Jb p,Jb (JA rfl)];show _=(List.range (S.came.getD e 0+1)).map _;rw[Yk,JF];rfl
  ·have cd:¬ decide (e=b)=true:=by simpa using c
   rw[Ja c,Ja cd,<- J7,List.filter_nil,Yy]
 ·show (S.nms++[_]).length+(yq (S.spots.set ball none)).length=(S.spots.set ball none).length
  have:=lA hb;rw[Yd,Jj,<- f.cnt];simp only[Zv,JE];lia
 ·have m:(e+N.lanes*S.came.getD e 0)∈S.nms.filter λn=>decide (n%N.lanes=e):=List.mem_filter.mpr ⟨h,by rw[em,JA rfl]⟩
  rw[f.num e a]at m;obtain⟨j,g,s⟩:=Yj.mp m;have g:=JC.mp g;have:N.lanes*j=N.lanes*S.came.getD e 0:=by lia
  have:=Nat.eq_of_mul_eq_mul_left (by lia) this;lia
theorem Fine.go {N:Nt}{S:Tst}(f:Fine N S){ball lane k k':Nat}(hb:S.spots[ball]?=some (some (lane,k))):Fine N (goT N S ball k k'):=by
 refine⟨f.num,?_,f.all⟩;show S.nms.length+(yq (S.spots.set ball (some _))).length=(S.spots.set ball (some _)).length;rw[jz hb,Yd];exact f.cnt
theorem sL:∀ {a b:List Nat},a.Perm b->a.Pairwise (·<=·)->b.Pairwise (·<=·)->a=b
 | [],b,p,_,_=>by rw[List.nil_perm.mp p]
 | x::a,[],p,_,_=>by simpa using p.length_eq
 | x::a,y::b,p,ha,hb=>by
  have e:x=y:=by
   rcases Jn.mp (p.mem_iff.mp Ju:x∈y::b) with d|d
   ·exact d
   rcases Jn.mp (p.mem_iff.mpr Ju:y∈x::a) with c|c
   ·exact c.symm
   ·have:=(Yv.mp ha).1 y c
    have:=(Yv.mp hb).1 x d;lia
  subst e;rw[sL (List.perm_cons x |>.mp p) (Yv.mp ha).2 (Yv.mp hb).2]
theorem TelAt.but {C l:Addr}{H H':Hp}{A:Tad}{N:Nt}{S:Tst}{xs:List V}(T:TelAt C H A N S)(B:But l H H')(c:H l=some (.lst xs))(i:l≠A.ls)(g:l≠A.lp)(f:l≠A.lc)(d:l≠A.ln):TelAt C H' A N S:=by
 obtain⟨m,e⟩:=T.ob;obtain⟨sp,k,j⟩:=T.hp;have b:Tups H H':=λa n h=>B a _ h (wN h c (by intro z;cases z));exact⟨⟨m,B _ _ e (wN e c (by intro z;cases z))⟩,T.na.tups b,B _ _ T.hs i.symm,⟨sp,B _ _ k g.symm,j.tups b⟩,B _ _ T.hc f.symm,B _ _ T.hn d.symm,T.d1,T.d2,T.d3,T.d4,T.d5,T.d6⟩
def dl (lane l:Nat):Int:=if l=lane then 1 else 0
def yN (f:Fk)(t:Int)(g:Nat->Int):Nat->Int:=λl=>if l=f.1 then (t+1) / 2 else if l=f.2 then t / 2 else g l
def yP (N:Nt)(k:Nat):Fk:=N.forks.getD k (0,0)
def vq (N:Nt)(c T:Nat->Int):Nat->Nat->Int
 | 0=>c
 | k+1=>yN (yP N k) (T k) (vq N c T k)
theorem iG (f:Fk)(t:Int){g h:Nat->Int}{lane:Nat}(e:∀ l,h l=g l+dl lane l)(on:lane=f.1\/lane=f.2):yN f t h=yN f t g:=by
 funext l
 unfold yN;by_cases a:l=f.1
 ·rw[Jb a,Jb a]
 ·rw[Ja a,Ja a]
  by_cases b:l=f.2
  ·rw[Jb b,Jb b]
  ·rw[Ja b,Ja b,e l]
   unfold dl;rw[Ja (λz=>by rcases on with o|o;exact a (z.trans o);exact b (z.trans o))];lia
theorem ki (f:Fk)(t:Int){g h:Nat->Int}{lane:Nat}(e:∀ l,h l=g l+dl lane l)(off:¬(lane=f.1\/lane=f.2)):∀ l,yN f t h l=yN f t g l+dl lane l:=λl=>by
 unfold yN;by_cases a:l=f.1
 ·rw[Jb a,Jb a]
  unfold dl;rw[Ja (λz=>off (.inl (z.symm.trans a)))];lia
 ·rw[Ja a,Ja a]
  by_cases b:l=f.2
  ·rw[Jb b,Jb b]
   unfold dl;rw[Ja (λz=>off (.inr (z.symm.trans b)))];lia
  ·rw[Ja b,Ja b];exact e l
theorem zbb {N:Nt}{X Y:Nat->Nat->Int}{T:Nat->Int}{i0 lane k:Nat}(b:∀ j,i0<=j->X (j+1)=yN (yP N j) (T j) (X j))(a:∀ j,i0<=j->Y (j+1)=yN (yP N j) (T j) (Y j))(g:∀ l,Y i0 l=X i0 l+dl lane l)(nx:IsNext N.forks lane i0 k) :
  (∀ j,i0<=j->j<=k->∀ l,Y j l=X j l+dl lane l)/\(∀ j,k<N.forks.length->k<j->Y j=X j):=by
 have first:∀ d,i0+d<=k->∀ l,Y (i0+d) l=X (i0+d) l+dl lane l:=λd=>by
  induction d with
  | zero=>intro _;exact g
  | succ d ih =>
   intro i;have c:i0+d<N.forks.length:=JG (by lia) nx.upto;have e:N.forks[i0+d]?=some (yP N (i0+d)):=by unfold yP;rw[J7,J0 c];rfl
   have off:=nx.none (i0+d) _ (by lia) (by lia) e;rw[show i0+(d+1)=(i0+d)+1 by lia,b _ (by lia),a _ (by lia)];exact ki _ _ (ih (by lia)) off
 have fst:∀ j,i0<=j->j<=k->∀ l,Y j l=X j l+dl lane l:=λj n m=>by
  have:=first (j-i0) (by lia)
  rw[show i0+(j-i0)=j by lia]at this;exact this
 refine⟨fst,λj f h=>?_⟩;have e:N.forks[k]?=some (yP N k):=by unfold yP;rw[J7,J0 f];rfl
 have on:=nx.here _ e
 have all:∀ d,Y (k+1+d)=X (k+1+d):=λd=>by
  induction d with
  | zero =>
   rw[Za,b _ nx.from_,a _ nx.from_]
   exact iG _ _ (fst k nx.from_ (Jf _)) on
  | succ d ih =>
   rw[show k+1+(d+1)=(k+1+d)+1 by lia,b _ (by have:=nx.from_;lia),a _ (by have:=nx.from_;lia),ih]
 have:=all (j-(k+1));rw[show k+1+(j-(k+1))=j by lia]at this;exact this
theorem oZ (f:Fk)(d:f.1≠f.2)(t:Int)(g:Nat->Int):∀ l,yN f (t+1) g l=yN f t g l+dl (if t%2=0 then f.1 else f.2) l:=λl=>by
 unfold yN dl;by_cases c:t%2=0
 ·rw[Jb c]
  by_cases a:l=f.1
  ·rw[Jb a,Jb a,Jb a];lia
  ·rw[Ja a,Ja a,Ja a]
   by_cases b:l=f.2
   ·rw[Jb b,Jb b];lia
   ·rw[Ja b,Ja b];lia
 ·rw[Ja c]
  by_cases a:l=f.1
  ·rw[Jb a,Jb a,Ja (λz=>d (a.symm.trans z))];lia
  ·rw[Ja a,Ja a]
   by_cases b:l=f.2
   ·rw[Jb b,Jb b,Jb b];lia
   ·rw[Ja b,Ja b,Ja b];lia
def oX (p:Nat × Nat->Bool):Option (Nat × Nat)->Bool
 | some o=>p o
 | none=>false
def cnt (os:List (Option (Nat × Nat)))(p:Nat × Nat->Bool):Int:=(os.countP (oX p):Nat)
def b2i (b:Bool):Int:=if b=true then 1 else 0
theorem kH (os:List (Option (Nat × Nat)))(o:Nat × Nat)(p:Nat × Nat->Bool):cnt (os++[some o]) p=cnt os p+b2i (p o):=by
 unfold cnt b2i;rw[List.countP_append,List.countP_cons,List.countP_nil];show ((_+(0+if p o=true then 1 else 0):Nat):Int)=_;split<;>lia
theorem um {α:Type}(q:α->Bool):∀ (l:List α) (i:Nat) (old x:α),l[i]?=some old->((l.set i x).countP q:Int)+(if q old=true then 1 else 0)=(l.countP q:Int)+(if q x=true then 1 else 0)
 | [],i,old,x,h=>by simp at h
 | a::l,0,old,x,h=>by
  obtain rfl:=Jv h;rw[List.set_cons_zero,List.countP_cons,List.countP_cons]
  split<;>split<;>lia
 | a::l,i+1,old,x,h=>by
  have ih:=um q l i old x (by simpa using h);rw[List.set_cons_succ,List.countP_cons,List.countP_cons];generalize (if q a=true then 1 else 0:Nat)=z;lia
theorem kG {os:List (Option (Nat × Nat))}{b:Nat}{old:Nat × Nat}(h:os[b]?=some (some old))(x:Option (Nat × Nat))(p:Nat × Nat->Bool):cnt (os.set b x) p+b2i (p old)=cnt os p+b2i (oX p x):=um (oX p) os b (some old) x h
theorem o6 {os:List (Option (Nat × Nat))}(h:yq os=[])(p:Nat × Nat->Bool):cnt os p=0:=by
 unfold cnt
 have:os.countP (oX p)=0:=by
  rw[List.countP_eq_zero];intro o a
  cases o with
  | none=>intro z;cases z
  | some o =>
   obtain⟨i,b⟩:=Ys.mp a;have:=lR.mpr ⟨o,b⟩;rw[h]at this;simp at this
 rw[this];rfl
def atK (k:Nat):Nat × Nat->Bool:=λo=>decide (o.2=k)
def atL (lane k:Nat):Nat × Nat->Bool:=λo=>decide (o=(lane,k))
structure RanT (N:Nt) (c T:Nat->Int) (S:Tst):Prop where
 st:∀ k,k<N.forks.length->((S.sets.getD k 0:Nat):Int)=T k%2
 on:∀ l k,some (l,k)∈S.spots->k<N.forks.length->l=(yP N k).1\/l=(yP N k).2
 fk:∀ k,k<N.forks.length->vq N c T k (yP N k).1+vq N c T k (yP N k).2=T k+cnt S.spots (atK k)
 en:∀ l,l<N.lanes->vq N c T N.forks.length l=(S.came.getD (y8 N l) 0:Nat)+cnt S.spots (atL l N.forks.length)
theorem cj {N:Nt}(ok:N.Ok){k:Nat}(h:k<N.forks.length):(yP N k).1≠(yP N k).2:=by
 have e:yP N k=N.forks[k]:=by unfold yP;rw[J7,J0 h];rfl
 rw[e];exact(ok.fk _ (Yb h)).2.2
theorem bE {f:Fk}{lane:Nat}{g h:Nat->Int}(e:∀ l,h l=g l+dl lane l)(ne:f.1≠f.2)(on:lane=f.1\/lane=f.2):h f.1+h f.2=g f.1+g f.2+1:=by
 rw[e,e];unfold dl;rcases on with o|o
 ·rw[Jb o.symm,Ja (λz=>ne (o.symm.trans z.symm))];lia
 ·rw[Jb o.symm,Ja (λz=>ne (z.trans o))];lia
theorem eG {f:Fk}{lane:Nat}{g h:Nat->Int}(e:∀ l,h l=g l+dl lane l)(off:¬(lane=f.1\/lane=f.2)):h f.1+h f.2=g f.1+g f.2:=by
 rw[e,e];unfold dl;rw[Ja (λz=>off (.inl z.symm)),Ja (λz=>off (.inr z.symm))];lia
theorem zau:b2i true=1:=rfl
theorem kJ:b2i false=0:=rfl
theorem rV {N:Nt}(ok:N.Ok){X Y:Nat->Nat->Int}{T:Nat->Int}{i0 lane k:Nat}(o:∀ j,i0<=j->X (j+1)=yN (yP N j) (T j) (X j))(n:∀ j,i0<=j->Y (j+1)=yN (yP N j) (T j) (Y j))(p:∀ l,Y i0 l=X i0 l+dl lane l)(nx:IsNext N.forks lane i0 k) :
  (∀ j,i0<=j->j<N.forks.length->Y j (yP N j).1+Y j (yP N j).2=X j (yP N j).1+X j (yP N j).2+b2i (atK j (lane,k)))/\(∀ l,i0<=N.forks.length->Y N.forks.length l=X N.forks.length l+b2i (atL l N.forks.length (lane,k))):=by
 obtain⟨e,i⟩:=zbb o n p nx;refine⟨λj d g=>?_,λl d=>?_⟩
 ·have h:N.forks[j]?=some (yP N j):=by unfold yP;rw[J7,J0 g];rfl
  unfold atK;by_cases a:k=j
  ·subst a
   rw[JA rfl,zau,bE (e k d (Jf _)) (cj ok g) (nx.here _ h)]
  ·rw[Js (show ¬(lane,k).2=j from a),kJ]
   by_cases b:j<k
   ·rw[eG (e j d (by lia)) (nx.none j _ d b h)];lia
   ·rw[i j (by lia) (by lia)];lia
 ·unfold atL
  by_cases a:k=N.forks.length
  ·rw[e N.forks.length d (by lia) l]
   congr 1
   unfold dl b2i;rw[a];by_cases c:l=lane
   ·rw[Jb c,c,Jb (JA rfl)]
   ·rw[Ja c,Ja (by simpa using λz=>c z.symm)]
  ·have f:k<N.forks.length:=by have:=nx.upto;lia
   rw[i N.forks.length f f,Js (show ¬(lane,k)=(l,N.forks.length) by intro z;injection z with q m;exact a m),kJ];lia
theorem zaV {N:Nt}:RanT N (λ_=>0) (λ_=>0) (S0 N):=by
 have z:∀ k l,vq N (λ_=>0) (λ_=>0) k l=0:=λk=>by
  induction k with
  | zero=>intro l;rfl
  | succ k ih =>
   intro l;show yN _ 0 _ l=0;unfold yN;split
   ·rfl
   ·split
    ·rfl
    ·exact ih l
 refine⟨λk a=>?_,λl k h=>by simp[S0]at h,λk a=>by rw[z,z];rfl,λl b=>?_⟩
 ·show (((List.replicate N.forks.length 0).getD k 0:Nat):Int)=_
  rw[J7,Zi,Jb a];rfl
 ·rw[z]
  show _=(((List.replicate N.lanes 0).getD (y8 N l) 0:Nat):Int)+_;rw[J7,Zi];split<;>rfl
theorem RanT.start {N:Nt}(ok:N.Ok){c T:Nat->Int}{S:Tst}(R:RanT N c T S){lane k:Nat}(nx:IsNext N.forks lane 0 k):RanT N (λl=>c l+dl lane l) T { S with spots:=S.spots++[some (lane,k)] }:=by
 obtain⟨f,d⟩:=rV ok (X:=vq N c T) (Y:=vq N (λl=>c l+dl lane l) T) (T:=T) (i0:=0) (λ_ _=>rfl) (λ_ _=>rfl) (λl=>rfl) nx;refine⟨R.st,λl q h a=>?_,λj b=>?_,λl g=>?_⟩
 ·rcases Jz.mp h with z|z
  ·exact R.on l q z a
  ·have:=JZ.mp z
   cases this;have e:N.forks[k]?=some (yP N k):=by unfold yP;rw[J7,J0 a];rfl
   exact nx.here _ e
 ·rw[f j (JX _) b,R.fk j b]
  show _=T j+cnt (S.spots++[some (lane,k)]) (atK j);rw[kH];lia
 ·rw[d l (JX _),R.en l g]
  show _=((S.came.getD (y8 N l) 0:Nat):Int)+cnt (S.spots++[some (lane,k)]) _;rw[kH];lia
theorem RanT.go {N:Nt}(ok:N.Ok){c T:Nat->Int}{S:Tst}(os:OkS N S)(R:RanT N c T S){ball lane k k':Nat}(hb:S.spots[ball]?=some (some (lane,k)))(i:k<N.forks.length)(nx:IsNext N.forks (onT N S ball k) (k+1) k') :
  RanT N c (λj=>if j=k then T k+1 else T j) (goT N S ball k k'):=by
 have t:k<S.sets.length:=by rw[os.sl];exact i
 have x:=R.st k i
 have m:onT N S ball k=if T k%2=0 then (yP N k).1 else (yP N k).2:=by
  unfold onT yP;by_cases z:S.sets.getD k 0=0
  ·rw[Jb z,Jb (by lia)]
  ·rw[Ja z,Ja (by lia)]
 have low:∀ j,j<=k->vq N c (λj=>if j=k then T k+1 else T j) j=vq N c T j:=λj=>by
  induction j with
  | zero=>intro _;rfl
  | succ j ih =>
   intro d;show yN _ (if j=k then T k+1 else T j) _=yN _ (T j) _;rw[Ja (by lia),ih (by lia)]
 have v:∀ l,vq N c (λj=>if j=k then T k+1 else T j) (k+1) l=vq N c T (k+1) l+dl (onT N S ball k) l:=λl=>by
  show yN _ (if k=k then T k+1 else T k) _ l=yN _ (T k) _ l+_;rw[Jb rfl,low k (Jf _),m];exact oZ _ (cj ok i) _ _ l
 obtain⟨s,r⟩:=rV ok (X:=vq N c T) (Y:=vq N c (λj=>if j=k then T k+1 else T j)) (T:=T) (i0:=k+1) (λ_ _=>rfl) (λj d=>by
  show yN _ (if j=k then T k+1 else T j) _=_
  rw[Ja (by lia)]) v nx
 have cs:=λp=>kG hb (some (onT N S ball k,k')) p;refine⟨λj d=>?_,λl q h n=>?_,λj d=>?_,λl u=>?_⟩
 ·show (((S.sets.set k (1-S.sets.getD k 0)).getD j 0:Nat):Int)=_
  rw[J7,Yt];by_cases e:k=j
  ·subst e
   rw[Jb rfl,Jb t];show ((1-S.sets.getD k 0:Nat):Int)=(if k=k then T k+1 else T k)%2;rw[Jb rfl];lia
  ·rw[Ja e]
   show _=(if j=k then T k+1 else T j)%2;rw[Ja (λz=>e z.symm),<- J7];exact R.st j d
 ·rcases vC h with z|z
  ·exact R.on l q z n
  ·cases z
   have e:N.forks[k']?=some (yP N k'):=by unfold yP;rw[J7,J0 n];rfl
   exact nx.here _ e
 ·have b:=cs (atK j)
  show _=(if j=k then T k+1 else T j)+cnt (S.spots.set ball (some (onT N S ball k,k'))) (atK j);have w:=R.fk j d;have g:oX (atK j) (some (onT N S ball k,k'))=atK j (onT N S ball k,k'):=rfl;rw[g]at b
  have f:b2i (atK j (lane,k))=if j=k then 1 else 0:=by
   unfold atK b2i;by_cases z:k=j
   ·rw[Jb (JA z),Jb z.symm]
   ·rw[Ja (by simpa using z),Ja (λy=>z y.symm)]
  rw[f]at b;by_cases a:j<=k
  ·rw[low j a]
   have o:b2i (atK j (onT N S ball k,k'))=0:=by
    unfold atK b2i;have:=nx.from_;rw[Ja (by simp;lia)]
   rw[o]at b;by_cases z:j=k
   ·subst z
    rw[Jb rfl]at b ⊢;lia
   ·rw[Ja z]at b ⊢
    lia
  ·rw[s j (by lia) d]
   rw[Ja (by lia)]at b ⊢;lia
 ·have b:=cs (atL l N.forks.length)
  have g:oX (atL l N.forks.length) (some (onT N S ball k,k'))=atL l N.forks.length (onT N S ball k,k'):=rfl;rw[g]at b
  have f:b2i (atL l N.forks.length (lane,k))=0:=by
   unfold atL b2i;rw[Ja (by simp;lia)]
  rw[f]at b;rw[r l (by lia),R.en l u];show _=((S.came.getD (y8 N l) 0:Nat):Int)+cnt (S.spots.set ball (some (onT N S ball k,k'))) _;lia
theorem cO {N:Nt}(ok:N.Ok){a b:Nat}(ha:a<N.lanes)(hb:b<N.lanes)(h:y8 N a=y8 N b):a=b:=by
 have d:a∈N.ends:=ok.en.mem_iff.mpr (JC.mpr ha);have c:b∈N.ends:=ok.en.mem_iff.mpr (JC.mpr hb);have f:=List.getElem_idxOf (Wa d);have e:=List.getElem_idxOf (Wa c);unfold y8 at h;rw[<- f,<- e]
 congr 1
theorem RanT.out {N:Nt}(ok:N.Ok){c T:Nat->Int}{S:Tst}(os:OkS N S)(R:RanT N c T S){ball lane:Nat}(hb:S.spots[ball]?=some (some (lane,N.forks.length)))(f:lane<N.lanes):RanT N c T (i4 N S ball lane):=by
 have cs:=λp=>kG hb none p;refine⟨R.st,λl q h g=>?_,λj i=>?_,λl d=>?_⟩
 ·rcases vC h with z|z
  ·exact R.on l q z g
  ·cases z
 ·have b:=cs (atK j)
  have a:b2i (atK j (lane,N.forks.length))=0:=by
   unfold atK b2i;rw[Ja (by simp;lia)]
  rw[a,show oX (atK j) none=false from rfl,kJ]at b;rw[R.fk j i];show _=T j+cnt (S.spots.set ball none) _;lia
 ·have b:=cs (atL l N.forks.length)
  rw[show oX (atL l N.forks.length) none=false from rfl,kJ]at b;rw[R.en l d];show _=(((S.came.set (y8 N lane) (S.came.getD (y8 N lane) 0+1)).getD (y8 N l) 0:Nat):Int)+cnt (S.spots.set ball none) _;rw[J7 (l:=S.came.set _ _),Yt];by_cases e:l=lane
  ·subst e
   have a:b2i (atL l N.forks.length (l,N.forks.length))=1:=by unfold atL b2i;rw[Jb (JA rfl)]
   rw[a]at b;rw[Jb rfl,Jb (by rw[os.cl];exact mh ok f)];show _=((S.came.getD (y8 N l) 0+1:Nat):Int)+_;lia
  ·have a:b2i (atL l N.forks.length (lane,N.forks.length))=0:=by
    unfold atL b2i;rw[Ja (by simp;exact λz=>e z.symm)]
   rw[a]at b;rw[Ja (λz=>e (cO ok f d z).symm),<- J7];lia
theorem RanT.done {N:Nt}(ok:N.Ok){c T:Nat->Int}{S:Tst}(os:OkS N S)(R:RanT N c T S)(none:yq S.spots=[]){cs:List Int}(cl:cs.length=N.lanes)(hc:∀ l,l<N.lanes->cs.getD l 0=c l) :
  S.sets.map Int.ofNat=nG N cs/\S.came.map Int.ofNat=yB N cs:=by
 have key:∀ j,j<=N.forks.length->(∀ l,l<N.lanes->(yz (N.forks.take j) cs).1.getD l 0=vq N c T j l)/\(yz (N.forks.take j) cs).2=(List.range j).map λq=>T q%2:=λj=>by
  induction j with
  | zero=>intro _;exact⟨hc,rfl⟩
  | succ j ih =>
   intro v;obtain⟨h,p⟩:=ih (by lia);have o:N.forks[j]?=some (yP N j):=by unfold yP;rw[J7,J0 (by lia)];rfl
   have e:=ok.fk _ (Ya o);have w:(yz (N.forks.take j) cs).1.length=N.lanes:=by rw[wu,cl]
   have k:(yz (N.forks.take j) cs).1.getD (yP N j).1 0+(yz (N.forks.take j) cs).1.getD (yP N j).2 0=T j:=by
    rw[h _ e.1,h _ e.2.1,R.fk j (by lia),o6 none];lia
   rw[uT o cs];generalize yz (N.forks.take j) cs=st at *;unfold xk;refine⟨λl r=>?_,?_⟩
   ·show ((st.1.set (yP N j).1 ((st.1.getD (yP N j).1 0+st.1.getD (yP N j).2 0+1) / 2)).set (yP N j).2 ((st.1.getD (yP N j).1 0+st.1.getD (yP N j).2 0) / 2)).getD l 0=yN (yP N j) (T j) _ l
    rw[k,J7,Yt,Yt,Yd];unfold yN;by_cases a:l=(yP N j).1
    ·rw[Jb a,Ja (λz=>e.2.2 (a.symm.trans z.symm)),Jb a.symm,Jb (by lia)];rfl
    ·rw[Ja a]
     by_cases b:l=(yP N j).2
     ·rw[Jb b,Jb b.symm,Jb (by lia)];rfl
     ·rw[Ja b,Ja (λz=>b z.symm),Ja (λz=>a z.symm),<- J7];exact h l r
   ·show st.2++[(st.1.getD (yP N j).1 0+st.1.getD (yP N j).2 0)%2]=_
    rw[k,p,Yk,JF];rfl
 obtain⟨n,m⟩:=key N.forks.length (Jf _);rw[YB]at n m;constructor
 ·unfold nG
  rw[m];refine Zk (by rw[Je,Je,Jx,os.sl]) λi f g=>?_;rw[Je]at f;have s:i<N.forks.length:=by rw[<- os.sl];exact f
  rw[Zm,Zm,ZK,<- R.st i s,J7,J0 f];rfl
 ·unfold yB
  have t:N.ends.length=N.lanes:=by rw[ok.en.length_eq,Jx]
  refine Zk (by rw[Je,Je,os.cl,t]) λi f g=>?_;rw[Je]at f g;have d:N.ends[i]<N.lanes:=JC.mp (ok.en.mem_iff.mp (Yb g))
  have u:y8 N N.ends[i]=i:=by
   unfold y8;exact ok.en.nodup_iff.mpr Zn |>.idxOf_getElem i g
  rw[Zm,Zm,n _ d,R.en _ d,o6 none,u,J7,J0 f];exact(Int.add_zero _).symm
theorem rZ (k:Nat):∀ ls:List Nat,(ls.map Int.ofNat).count (k:Int)=ls.count k
 | []=>rfl
 | x::ls=>by
  rw[Y5,List.count_cons,List.count_cons,rZ k ls]
  congr 1
  by_cases e:x=k
  ·subst e;simp
  ·rw[Ja (by simp;lia),Ja (by simpa using e)]
theorem wd (a:List Nat):zJ a=(a.map Int.ofNat).map V.int:=by unfold zJ;rw[YL];rfl
def x6 (lanes:Nat)(came:List Nat)(m:Nat):List Nat:=(List.range m).flatMap λe=>(List.range (came.getD e 0)).map λj=>e+lanes*j
theorem sZ (lanes:Nat)(came:List Nat)(m:Nat):x6 lanes came (m+1)=x6 lanes came m++(List.range (came.getD m 0)).map λj=>m+lanes*j:=by
 unfold x6;rw[Yk,List.flatMap_append,List.flatMap_singleton]
theorem lw (lanes:Nat)(came:List Nat)(m:Nat):∀ d,(x6 lanes came m).length<=(x6 lanes came (m+d)).length
 | 0=>Jf _
 | d+1=>by
  rw[show m+(d+1)=(m+d)+1 by lia,sZ,Jj];exact JM (lw lanes came m d) (Nat.le_add_right _ _)
theorem Fine.due {N:Nt}{S:Tst}(f:Fine N S):S.nms.Perm (x6 N.lanes S.came N.lanes):=by
 have key:∀ m,m<=N.lanes->(S.nms.filter λn=>decide (n%N.lanes<m)).Perm (x6 N.lanes S.came m):=λm=>by
  induction m with
  | zero =>
   intro _;rw[List.filter_eq_nil_iff.mpr (λn _=>by simp)]
   exact ZR _
  | succ m ih =>
   intro b;rw[sZ,<- f.num m (by lia)];have p:=List.filter_append_perm (λn=>decide (n%N.lanes<m)) (S.nms.filter λn=>decide (n%N.lanes<m+1));rw[List.filter_filter,List.filter_filter]at p;refine p.symm.trans (List.Perm.append ?_ ?_)
   ·refine(List.Perm.of_eq (List.filter_congr λn _=>?_)).trans (ih (by lia))
    rw[YF,Zj,YU,YU];lia
   ·refine List.Perm.of_eq (List.filter_congr λn _=>?_)
    rw[YF,Zj,Zz,JK,YU,YU];lia
 have:=key N.lanes (Jf _)
 rwa [List.filter_eq_self.mpr (λn a=>JA (f.all n a))]at this
def mX (n:Nat):Option (Nat × Nat)->Nat
 | none=>0
 | some o=>n+1-o.2
def pot (n:Nat)(os:List (Option (Nat × Nat))):Nat:=(os.map (mX n)).sum
theorem qb (n:Nat):∀ (os:List (Option (Nat × Nat))) (i:Nat) (old x:Option (Nat × Nat)),os[i]?=some old->pot n (os.set i x)+mX n old=pot n os+mX n x
 | [],i,old,x,h=>by simp at h
 | a::os,0,old,x,h=>by
  obtain rfl:=Jv h;unfold pot
  rw[List.set_cons_zero,Y5,Y5,Wn,Wn];lia
 | a::os,i+1,old,x,h=>by
  have ih:=qb n os i old x (by simpa using h);unfold pot at ih ⊢;rw[List.set_cons_succ,Y5,Y5,Wn,Wn];lia
def cOf (ls:List Nat):Nat->Int:=λl=>(ls.count l:Nat)
theorem cT (ls:List Nat)(x:Nat):cOf (ls++[x])=λl=>cOf ls l+dl x l:=by
 funext l
 unfold cOf dl;rw[List.count_append,List.count_singleton];by_cases e:l=x
 ·rw[Jb e,Jb (by simp[e])];lia
 ·rw[Ja e,Ja (by simpa using λz=>e z.symm)];lia
def WentTo (N:Nt)(S:Tst)(ball lane k:Nat)(v:V)(b:Tst):Prop :=
 (k=N.forks.length/\v=.int (y8 N lane+N.lanes*S.came.getD (y8 N lane) 0:Nat)/\b=i4 N S ball lane)\/(k<N.forks.length/\v=.non/\∃ a,IsNext N.forks (onT N S ball k) (k+1) a/\b=goT N S ball k a)
def tR (C:Addr):Sp:=λe H Q _=>∃ (A:Tad) (N:Nt) (S:Tst) (a b k:Nat),e=[.ref A.t,.int a]/\Nt.Ok N/\TelAt C H A N S/\OkS N S/\S.spots[a]?=some (some (b,k))/\S.spots.length<=1000/\S.nms.length<=1000 /\
 ∀ v d c,WentTo N S a b k v d->TelAt C c A N d->But4 A H c->Q v c
structure Runs (N:Nt) (c:Nat->Int) (S:Tst):Prop where
 os:OkS N S
 fi:Fine N S
 ra:∃ T,RanT N c T S
theorem Runs.went {N:Nt}{c:Nat->Int}{S a:Tst}{ball lane k:Nat}{v:V}(ok:N.Ok)(r:Runs N c S)(hb:S.spots[ball]?=some (some (lane,k)))(h:WentTo N S ball lane k v a) :
  Runs N c a/\a.spots.length=S.spots.length/\pot N.forks.length a.spots+1<=pot N.forks.length S.spots/\((yq a.spots=yq S.spots/\∃ i k',k<k'/\a.spots[ball]?=some (some (i,k')))\/(yq a.spots).length+1=(yq S.spots).length):=by
 obtain⟨f,l⟩:=r.os.sp lane k (Ya hb);obtain⟨T,d⟩:=r.ra;have bl:=(J9.mp hb).1;rcases h with ⟨j,_,rfl⟩|⟨e,_,k',b,rfl⟩
 ·subst j
  refine⟨⟨r.os.out ball lane,(r.fi.out ok r.os hb f).1,T,d.out ok r.os hb f⟩,Yd,?_,.inr ?_⟩
  ·have:=qb N.forks.length S.spots ball _ none hb
   have g:mX N.forks.length (some (lane,N.forks.length))=N.forks.length+1-N.forks.length:=rfl;have n:mX N.forks.length none=0:=rfl;show pot N.forks.length (S.spots.set ball none)+1<=_;lia
  ·exact(lA hb).symm
 ·refine⟨⟨(OkS.go ok r.os e b.upto).2,r.fi.go hb,_,d.go ok r.os hb e b⟩,Yd,?_,.inl ⟨jz hb,onT N S ball k,k',by have:=b.from_;lia,?_⟩⟩
  ·have:=qb N.forks.length S.spots ball _ (some (onT N S ball k,k')) hb
   have g:mX N.forks.length (some (lane,k))=N.forks.length+1-k:=rfl;have m:mX N.forks.length (some (onT N S ball k,k'))=N.forks.length+1-k':=rfl;have:=b.from_;have:=b.upto;show pot N.forks.length (S.spots.set ball (some (onT N S ball k,k')))+1<=_;lia
  ·show (S.spots.set ball (some (onT N S ball k,k')))[ball]?=_
   rw[Yt,Jb rfl,Jb bl]
theorem ah {N:Nt}(ok:N.Ok):Runs N (cOf []) (S0 N):=⟨ok0 N,zam ok.l1,_,zaV⟩
theorem Runs.start {N:Nt}{ls:List Nat}{S:Tst}(ok:N.Ok)(r:Runs N (cOf ls) S){lane k:Nat}(b:lane<N.lanes)(nx:IsNext N.forks lane 0 k):Runs N (cOf (ls++[lane])) { S with spots:=S.spots++[some (lane,k)] }:=by
 obtain⟨T,a⟩:=r.ra;exact⟨r.os.start b nx.upto,r.fi.start _,T,by rw[cT];exact a.start ok nx⟩
theorem TelAt.tupk {C:Addr}{H H':Hp}{B:Tad}{N:Nt}{S:Tst}(T:TelAt C H B N S)(b:But4 B H H'):Tups H H':=λa d e=>by
 obtain⟨sp,c,_⟩:=T.hp;exact b _ _ e (wN e T.hs (by intro z;cases z)) (wN e c (by intro z;cases z)) (wN e T.hc (by intro z;cases z)) (wN e T.hn (by intro z;cases z))
end Bn
namespace L2
open PySem PySem.Spec PyProof.Rows Own Bn
def rCountN:V->List V->Hp->VK->Prop:=λx a H Q=>∃ l ls k,x=.ref l/\a=[.int ((k:Nat):Int)]/\H l=some (.lst (zJ ls))/\Q (.int ((ls.count k:Nat):Int)) H
theorem jQ {X:Cx}:MtM X "list.count" rCountN:=by
 intro pins s σ H x g v i Q I b c h;obtain⟨l,ls,k,rfl,rfl,a,q⟩:=h;cases b;obtain⟨u,rfl,d⟩:=c.one;obtain⟨t,rfl⟩:=d;rw[wd]at a;obtain⟨z,f,n,r,j,e⟩:=I.lstM a;refine count_list_ints ⟨_,e,rfl,n,rfl⟩ (lB r) ?_;rw[rZ];exact⟨.int _,H,I.kept (t':=s.toks+1) (λ_ _ e=>e),⟨_,rfl⟩,q⟩
end L2
namespace Bn
open PySem L2 Own
def za5 (N:Nt)(j:Int):List Nat:=(N.forks.zip (wF N)).flatMap λp=>if p.2=j then [p.1.1,p.1.2] else []
structure Told (N:Nt) (k due:Nat):Prop where
 ok:N.Ok
 lanes:N.lanes=2 ^ k
 pl:zV N=N
 dle:∀ z∈wF N,0<=z/\z<=(due:Int)
 din:(due:Int)∈0::wF N
def Full (N:Nt)(d:Nat):Prop:=∀ j,j<d->(za5 N ((j+1:Nat):Int)).Perm (List.range N.lanes)
theorem pf {N:Nt}(ok:N.Ok):zV (zV N)=zV N:=by
 show (⟨N.lanes,yh (zV N),N.ends⟩:Nt)=⟨N.lanes,yh N,N.ends⟩;rw[ph ok]
def pM (N:Nt)(due many:Nat):Bool:=(wF N).all (λz=>decide (0<=z/\z<=(due:Int))) && decide ((due:Int)∈0::wF N) && decide (N.forks.length=many)
theorem rz {N:Nt}{k due many:Nat}(ok:N.Ok)(a:N.lanes=2 ^ k)(h:pM (zV N) due many=true):Told (zV N) k due/\(zV N).forks.length=many:=by
 unfold pM at h;simp only[Zj,YE,JT]at h;exact⟨⟨pi ok,a,pf ok,h.1.1,h.1.2⟩,h.2⟩
theorem pP:∀ k,k<5->pM (zV (yU k)) (k*(k+1) / 2) (2 ^ k / 2*(k*(k+1) / 2))=true/\Full (zV (yU k)) (k*(k+1) / 2):=by unfold Full;decide +kernel
theorem qR:∀ k,k<5->pM (zV (yk k)) (k*k) (2 ^ k / 2*(k*k))=true/\Full (zV (yk k)) (k*k):=by unfold Full;decide +kernel
theorem nM:∀ k,k<5->pM (zV (xj k)) k (2 ^ k-1)=true:=by decide +kernel
theorem nR {k:Nat}(h:k<5):Told (zV (yU k)) k (k*(k+1) / 2)/\(zV (yU k)).forks.length=2 ^ k / 2*(k*(k+1) / 2):=rz (wH h) rfl (pP k h).1
theorem pU {k:Nat}(h:k<5):Told (zV (yk k)) k (k*k)/\(zV (yk k)).forks.length=2 ^ k / 2*(k*k):=rz (xG h) rfl (qR k h).1
theorem kg {k:Nat}(h:k<5):Told (zV (xj k)) k k/\(zV (xj k)).forks.length=2 ^ k-1:=rz (wy h) rfl (nM k h)
end Bn
namespace Bn
open PySem L2 Own
def zT (total:Int)(many:Nat):List Int:=(List.range many).map λ(p:Nat)=>(total-p+many-1) / (many:Int)
theorem ud (total:Int)(many i:Nat)(h:i<=many):(zT total many).take i=(List.range i).map λp=>(total-(p:Nat)+many-1) / (many:Int):=by
 unfold zT;rw[<- Wp,List.take_range,Nat.min_eq_left h]
theorem rN (q m r p:Int)(b:0<=r)(a:r<m)(d:0<=p)(c:p<m):(q*m+r-p+m-1) / m=q+if p<r then 1 else 0:=by
 by_cases h:p<r
 ·rw[Jb h]
  exact((Int.ediv_emod_unique (r:=r-p-1) (by lia)).mpr ⟨by rw[Int.mul_add,Int.mul_one,Int.mul_comm m q];lia,by lia,by lia⟩).1
 ·rw[Ja h]
  exact((Int.ediv_emod_unique (r:=r-p+m-1) (by lia)).mpr ⟨by rw[Int.add_zero,Int.mul_comm m q];lia,by lia,by lia⟩).1
def wq (total:Int)(many i:Nat):Int:=total / many*(many-i)+max (total%many-i) 0
theorem jU (total:Int)(many:Nat)(h:1<=many):wq total many 0=total:=by
 unfold wq;have a:=Z4 total (show (many:Int)≠0 by lia);have b:(many:Int)*(total / many)+total%many=total:=Int.mul_ediv_add_emod total many;rw[Int.mul_comm]at b;simp only[Int.ofNat_zero,Int.sub_zero];lia
theorem ce (total:Int)(many i:Nat)(hi:i<many):(total-i+many-1) / (many:Int)=total / many+if (i:Int)<total%many then 1 else 0:=by
 have a:(0:Int)<many:=by lia
 have e:total=total / many*many+total%many:=by
  have:=Int.mul_ediv_add_emod total many;rw[Int.mul_comm]at this;lia
 have z:=rN (total / many) many (total%many) i (Z4 _ (by lia)) (YV _ a) (by lia) (by lia);rw[<- z]
 congr 1
 lia
theorem jV (total:Int)(many i:Nat)(hi:i<many):wq total many i-(total-i+many-1) / (many:Int)=wq total many (i+1):=by
 rw[ce total many i hi];unfold wq
 have e:total / (many:Int)*((many:Int)-(i+1:Nat))=total / many*((many:Int)-i)-total / many:=by
  have:((many:Int)-(i+1:Nat))=((many:Int)-i)-1:=by lia
  rw[this,Int.mul_sub,Int.mul_one]
 rw[e];by_cases h:(i:Int)<total%many
 ·rw[Jb h];lia
 ·rw[Ja h];lia
theorem pN (total:Int)(many:Nat)(h:1<=many):∀ i,i<=many->((zT total many).take i).sum=total-wq total many i
 | 0,_=>by rw[jU total many h];simp
 | i+1,hi=>by
  have ih:=pN total many h i (by lia);rw[ud _ _ _ (by lia)]at ih;rw[ud _ _ _ hi,Yk,JF,W0,ih,<- jV total many i hi];simp only[Wn,List.sum_nil,Y5,List.map_nil];lia
theorem nX (total:Int)(many:Nat)(h:1<=many):(zT total many).sum=total:=by
 have e:=pN total many h many (Jf _);rw[Zr (by unfold zT;simp)]at e
 have z:wq total many many=0:=by
  unfold wq;have b:=YV total (show (0:Int)<many by lia);rw[Int.sub_self,Int.mul_zero];lia
 lia
theorem xm (total:Int)(many:Nat):(zT total many).length=many:=by unfold zT;simp
theorem jg (s q n:Int):(s-2*q+2*n-1) / (2*n)=((s+1) / 2-q+n-1) / n:=by
 rw[<- Int.ediv_ediv_of_nonneg (show (0:Int)<=2 by decide)]
 congr 1
 lia
theorem gc (s q n:Int):(s-(2*q+1)+2*n-1) / (2*n)=(s / 2-q+n-1) / n:=by
 rw[<- Int.ediv_ediv_of_nonneg (show (0:Int)<=2 by decide)]
 congr 1
 lia
def stV (s:Int)(n p:Nat):Int:=(s-p+n-1) / (n:Int)
theorem qB (s:Int)(n:Nat)(h:1<=n)(q:Nat)(a:q<n):stV s (2*n) (2*q)=stV ((s+1) / 2) n q/\stV s (2*n) (2*q+1)=stV (s / 2) n q:=by
 unfold stV;constructor
 ·have:=jg s q n
  rw[<- this]
  congr 1<;>lia
 ·have:=gc s q n
  rw[<- this]
  congr 1<;>lia
theorem iH (s:Int)(n p:Nat)(h:1<=n):stV s n (p+1)<=stV s n p/\stV s n p<=stV s n (p+1)+1:=by
 unfold stV;have a:(0:Int)<n:=by lia
 constructor
 ·exact Int.ediv_le_ediv a (by lia)
 ·have:=Int.add_mul_ediv_right (s-((p+1:Nat):Int)+n-1) 1 (show (n:Int)≠0 by lia)
  rw[Int.one_mul]at this;rw[<- this];exact Int.ediv_le_ediv a (by lia)
theorem xa (s:Int)(n:Nat):zT s n=(List.range n).map (stV s n):=rfl
theorem yn (s:Int)(n:Nat)(h:1<=n):by2 0 (zT s (2*n))=zT ((s+1) / 2) n/\by2 1 (zT s (2*n))=zT (s / 2) n:=by
 have l:=xm s (2*n)
 have at':∀ p,p<2*n->(zT s (2*n))[p]?=some (stV s (2*n) p):=λp b=>by
  rw[xa,JD,ZF b];rfl
 unfold by2;rw[l];constructor
 ·rw[show (2*n+1-0) / 2=n by lia,xa ((s+1) / 2) n,<- List.filterMap_eq_map]
  refine xu _ λq a=>?_;have:=JC.mp a;rw[at' _ (by lia),show 0+2*q=2*q by lia,(qB s n h q this).1];rfl
 ·rw[show (2*n+1-1) / 2=n by lia,xa (s / 2) n,<- List.filterMap_eq_map]
  refine xu _ λq a=>?_;have:=JC.mp a;rw[at' _ (by lia),show 1+2*q=2*q+1 by lia,(qB s n h q this).2];rfl
theorem lZ {α β:Type}{f g:α->List β}:∀ (l:List α),(∀ x∈l,f x=g x)->l.flatMap f=l.flatMap g
 | [],_=>rfl
 | x::l,h=>by
  rw[List.flatMap_cons,List.flatMap_cons,h x Ju,lZ l λy a=>h y (Jr _ a)]
def yp (p:Int × Int):List Int:=[(p.1+p.2+1) / 2,(p.1+p.2) / 2]
def vT:Nat->List Int->List Int->List Int
 | 0,x,y=>(x.zip y).flatMap yp
 | m+1,x,y=>((vT m (by2 0 x) (by2 1 y)).zip (vT m (by2 1 x) (by2 0 y))).flatMap yp
theorem jA (n:Nat):List.range (2*n)=(List.range n).flatMap λq=>[2*q,2*q+1]:=by
 induction n with
 | zero=>rfl
 | succ n ih =>
  rw[show 2*(n+1)=2*n+1+1 by lia,Yk,Yk,ih,Yk,List.flatMap_append,List.flatMap_singleton,JL];rfl
theorem ui (u v:Int)(n:Nat)(h:1<=n)(near:u-v<=1/\v-u<=1):((zT u n).zip (zT v n)).flatMap yp=zT (u+v) (2*n):=by
 rw[xa,xa,xa,List.zip_map',List.flatMap_map,jA,List.map_flatMap];refine lZ _ λq f=>?_;have f:=JC.mp f;obtain⟨a,b⟩:=qB (u+v) n h q f;obtain⟨c,d⟩:=iH (u+v) (2*n) (2*q) (by lia);show [(stV u n q+stV v n q+1) / 2,(stV u n q+stV v n q) / 2]=[stV (u+v) (2*n) (2*q),stV (u+v) (2*n) (2*q+1)];have e:(u=(u+v+1) / 2/\v=(u+v) / 2)\/(v=(u+v+1) / 2/\u=(u+v) / 2):=by lia
 rw[a,b]at c d ⊢
 have g:(stV u n q+stV v n q+1) / 2=stV ((u+v+1) / 2) n q/\(stV u n q+stV v n q) / 2=stV ((u+v) / 2) n q:=by
  rcases e with ⟨i,e2⟩|⟨i,e2⟩
  ·have k:stV u n q=stV ((u+v+1) / 2) n q:=Yh (λz=>stV z n q) i
   have j:stV v n q=stV ((u+v) / 2) n q:=Yh (λz=>stV z n q) e2;lia
  ·have k:stV v n q=stV ((u+v+1) / 2) n q:=Yh (λz=>stV z n q) i
   have j:stV u n q=stV ((u+v) / 2) n q:=Yh (λz=>stV z n q) e2;lia
 rw[g.1,g.2]
theorem xY:∀ (m:Nat) (s t:Int),vT m (zT s (2 ^ m)) (zT t (2 ^ m))=zT (s+t) (2 ^ (m+1))
 | 0,s,t=>by
  have e:∀ z:Int,zT z 1=[z]:=λz=>by
   show [(z-((0:Nat):Int)+((1:Nat):Int)-1) / ((1:Nat):Int)]=[z];rw[show z-((0:Nat):Int)+((1:Nat):Int)-1=z by lia]
   congr 1
   lia
  show ((zT s 1).zip (zT t 1)).flatMap yp=zT (s+t) 2;rw[e,e];show [(s+t+1) / 2,(s+t) / 2]=[(s+t-((0:Nat):Int)+((2:Nat):Int)-1) / ((2:Nat):Int),(s+t-((1:Nat):Int)+((2:Nat):Int)-1) / ((2:Nat):Int)]
  congr 1
  ·lia
  ·congr 1
   lia
 | m+1,s,t=>by
  have p:=Y7 (n:=m);have e:2 ^ (m+1)=2*2 ^ m:=by rw[Yq,Nat.mul_comm]
  unfold vT;rw[e,(yn s _ p).1,(yn s _ p).2,(yn t _ p).1,(yn t _ p).2,xY m,xY m,ui _ _ _ Y7 (by lia)]
  congr 1
  ·lia
  ·rw[Yq 2 (m+1)];lia
def fn1 (g:Nat->Int)(f:Fk):Nat->Int:=yN f (g f.1+g f.2) g
def fnF (fs:List Fk)(g:Nat->Int):Nat->Int:=fs.foldl fn1 g
theorem xL (a b:List Fk)(g:Nat->Int):fnF (a++b) g=fnF b (fnF a g):=List.foldl_append
def InR (fs:List Fk)(R:List Nat):Prop:=∀ f∈fs,f.1∈R/\f.2∈R
theorem InR.app {a b:List Fk}{R:List Nat}(ha:InR a R)(hb:InR b R):InR (a++b) R:=λf c=>by
 rcases Jz.mp c with h|h
 ·exact ha f h
 ·exact hb f h
theorem InR.mono {a:List Fk}{R S:List Nat}(ha:InR a R)(h:∀ x∈R,x∈S):InR a S:=λf b=>⟨h _ (ha f b).1,h _ (ha f b).2⟩
theorem xE:∀ {fs:List Fk}{R:List Nat}{g:Nat->Int}{l:Nat},InR fs R->l∉R->fnF fs g l=g l
 | [],R,g,l,_,_=>rfl
 | f::fs,R,g,l,h,a=>by
  obtain⟨d,c⟩:=h f Ju;have e:fnF (f::fs) g l=fnF fs (fn1 g f) l:=rfl;rw[e,xE (λx b=>h x (Jr _ b)) a];unfold fn1 yN;rw[Ja (λz=>a (by rw[z];exact d)),Ja (λz=>a (by rw[z];exact c))]
theorem xH:∀ {fs:List Fk}{R:List Nat}{g h:Nat->Int},InR fs R->(∀ l∈R,g l=h l)->∀ l∈R,fnF fs g l=fnF fs h l
 | [],R,g,h,_,e,l,b=>e l b
 | f::fs,R,g,h,i,e,l,b=>by
  obtain⟨d,c⟩:=i f Ju;refine xH (fs:=fs) (g:=fn1 g f) (h:=fn1 h f) (λx a=>i x (Jr _ a)) (λx a=>?_) l b;unfold fn1 yN;rw[e _ d,e _ c,e _ a]
theorem uH (a b:List Nat):InR (a.zip b) (a++b):=λf c=>by
 obtain⟨e,d⟩:=List.of_mem_zip (show (f.1,f.2)∈a.zip b from c);exact⟨Jz.mpr (.inl e),Jz.mpr (.inr d)⟩
theorem vz:∀ (a b:List Nat) (g:Nat->Int),a.length=b.length->(a++b).Nodup->(zW a b).map (fnF (a.zip b) g)=((a.map g).zip (b.map g)).flatMap yp
 | [],[],g,_,_=>rfl
 | [],_::_,_,h,_=>by simp at h
 | _::_,[],_,h,_=>by simp at h
 | x::a,y::b,g,n,nd=>by
  have d:a.length=b.length:=by simpa using n
  obtain⟨nx,m⟩:=JY.mp (show (x::(a++y::b)).Nodup from nd);obtain⟨e,k⟩:=JY.mp (List.perm_middle.nodup_iff.mp m)
  have c:x∉a++b:=λz=>nx (by
   rcases Jz.mp z with z|z
   ·exact Jz.mpr (.inl z)
   ·exact Jz.mpr (.inr (Jr _ z)))
  have f:¬ y=x:=λz=>nx (by rw[<- z];exact Jz.mpr (.inr Ju));have ih:=vz a b (fn1 g (x,y)) d k
  have same:∀ l∈a++b,fn1 g (x,y) l=g l:=λl h=>by
   unfold fn1 yN;rw[Ja (λz=>c (by rw[<- (show l=x from z)];exact h)),Ja (λz=>e (by rw[<- (show l=y from z)];exact h))]
  have p:a.map (fn1 g (x,y))=a.map g:=JP λl h=>same l (Jz.mpr (.inl h));have o:b.map (fn1 g (x,y))=b.map g:=JP λl h=>same l (Jz.mpr (.inr h));rw[p,o]at ih
  have j:fnF (a.zip b) (fn1 g (x,y)) x=(g x+g y+1) / 2:=by
   rw[xE (uH a b) c];unfold fn1 yN;rw[Jb rfl]
  have i:fnF (a.zip b) (fn1 g (x,y)) y=(g x+g y) / 2:=by
   rw[xE (uH a b) e];unfold fn1 yN;rw[Ja f,Jb rfl]
  show fnF (a.zip b) (fn1 g (x,y)) x::fnF (a.zip b) (fn1 g (x,y)) y::(zW a b).map (fnF (a.zip b) (fn1 g (x,y)))=(g x+g y+1) / 2::(g x+g y) / 2::((a.map g).zip (b.map g)).flatMap yp;rw[j,i,ih]
theorem yZ {α:Type}(x y:α)(l:List α):by2 0 (x::y::l)=x::by2 0 l/\by2 1 (x::y::l)=y::by2 1 l:=by
 unfold by2;constructor
 ·rw[show ((x::y::l).length+1-0) / 2=(l.length+1-0) / 2+1 by rw[JE,JE];lia,List.range_succ_eq_map,ZE,Zt]
  show x::_=_
  congr 1
 ·rw[show ((x::y::l).length+1-1) / 2=(l.length+1-1) / 2+1 by rw[JE,JE];lia,List.range_succ_eq_map,ZE,Zt]
  show y::_=_
  congr 1
theorem yx {α:Type}:∀ l:List α,(by2 0 l++by2 1 l).Perm l
 | []=>by
  have e:(by2 0 []++by2 1 []:List α)=[]:=by simp[by2]
  rw[e]
 | [x]=>by
  have e:by2 0 [x]++by2 1 [x]=[x]:=by simp[by2]
  rw[e]
 | x::y::l=>by
  rw[(yZ x y l).1,(yZ x y l).2];exact((List.perm_middle.trans ((yx l).cons y)).cons x)
theorem xh {α:Type}:∀ (a b:List α),a.length=b.length->(zW a b).Perm (a++b)
 | [],[],_=>ZR _
 | [],_::_,h=>by simp at h
 | _::_,[],h=>by simp at h
 | x::a,y::b,h=>by
  show (x::y::zW a b).Perm (x::(a++y::b));exact((xh a b (by simpa using h)).cons y |>.trans List.perm_middle.symm).cons x
theorem vS:∀ (m:Nat) (a b:List Nat) (g:Nat->Int),a.length=2 ^ m->b.length=2 ^ m->(a++b).Nodup ->
  InR (yF m a b).1 (a++b)/\(yF m a b).2.Perm (a++b)/\(yF m a b).2.map (fnF (yF m a b).1 g)=vT m (a.map g) (b.map g)
 | 0,a,b,g,ha,hb,nd=>by
  refine⟨uH a b,ZR _,?_⟩
  match a,b,ha,hb with
  | [x],[y],_,_ =>
   exact vz [x] [y] g rfl nd
 | m+1,a,b,g,ha,hb,nd=>by
  obtain⟨r,q⟩:=ye ha;obtain⟨p,o⟩:=ye hb;have A:=yx a;have w:=yx b
  have pp:((by2 0 a++by2 1 b)++(by2 1 a++by2 0 b)).Perm (a++b):=by
   refine List.Perm.trans ?_ (A.append w);rw[JL,JL];refine ZT (by2 0 a) ?_;refine List.Perm.trans (YJ (l₁:=by2 1 b)) ?_;rw[JL]
  have i:=pp.nodup_iff.mpr nd;obtain⟨H,G,n⟩:=ZA.mp i;obtain⟨k,f,D⟩:=vS m (by2 0 a) (by2 1 b) g r o H;obtain⟨h,e,C⟩:=vS m (by2 1 a) (by2 0 b) g q p G;generalize F:yF m (by2 0 a) (by2 1 b)=M1 at *;generalize e2:yF m (by2 1 a) (by2 0 b)=M2 at *
  have E:yF (m+1) a b=(M1.1++M2.1++M1.2.zip M2.2,zW M1.2 M2.2):=by
   show ((yF m (by2 0 a) (by2 1 b)).1++(yF m (by2 1 a) (by2 0 b)).1++(yF m (by2 0 a) (by2 1 b)).2.zip (yF m (by2 1 a) (by2 0 b)).2,zW (yF m (by2 0 a) (by2 1 b)).2 (yF m (by2 1 a) (by2 0 b)).2)=_;rw[F,e2]
  have d:(M1.2++M2.2).Perm (a++b):=(f.append e).trans pp;have j:M1.2.length=M2.2.length:=by rw[f.length_eq,e.length_eq,Jj,Jj,r,q,p,o]
  have v:∀ x∈by2 0 a++by2 1 b,x∈a++b:=λx c=>pp.mem_iff.mp (Jz.mpr (.inl c));have u:∀ x∈by2 1 a++by2 0 b,x∈a++b:=λx c=>pp.mem_iff.mp (Jz.mpr (.inr c));rw[E];refine⟨((k.mono v).app (h.mono u)).app ((uH _ _).mono λx c=>d.mem_iff.mp c),(xh _ _ j).trans d,?_⟩;show (zW M1.2 M2.2).map (fnF (M1.1++M2.1++M1.2.zip M2.2) g)=_;rw[xL,xL,vz _ _ _ j (d.nodup_iff.mpr nd)]
  have t:M1.2.map (fnF M2.1 (fnF M1.1 g))=M1.2.map (fnF M1.1 g):=JP λx c=>by
   have c:=f.mem_iff.mp c;exact xE h λz=>n x c x z rfl
  have s:M2.2.map (fnF M2.1 (fnF M1.1 g))=M2.2.map (fnF M2.1 g):=JP λx c=>by
   refine xH h (λl B=>xE k λz=>n l z l B rfl) x (e.mem_iff.mp c)
  rw[t,s,D,C];show _=((vT m (by2 0 (a.map g)) (by2 1 (b.map g))).zip (vT m (by2 1 (a.map g)) (by2 0 (b.map g)))).flatMap yp;rw[yL,yL,yL,yL]
theorem tO (z:Int):zT z 1=[z]:=by
 show [(z-((0:Nat):Int)+((1:Nat):Int)-1) / ((1:Nat):Int)]=[z];rw[show z-((0:Nat):Int)+((1:Nat):Int)-1=z by lia]
 congr 1
 lia
theorem vN:∀ (m:Nat) (row:List Nat) (g:Nat->Int),row.length=2 ^ m->row.Nodup ->
  InR (yG m row).1 row/\(yG m row).2.Perm row/\(yG m row).2.map (fnF (yG m row).1 g)=zT (row.map g).sum (2 ^ m)
 | 0,row,g,h,nd=>by
  refine⟨λf y=>by simp[yG]at y,ZR _,?_⟩
  match row,h with
  | [x],_ =>
   show [g x]=zT (g x+0) 1
   rw[tO,Int.add_zero]
 | m+1,row,g,h,nd=>by
  obtain⟨r,q⟩:=wO h;have c:row.take (row.length / 2)++row.drop (row.length / 2)=row:=Z0 _ _;have b:(row.take (row.length / 2)++row.drop (row.length / 2)).Nodup:=by rw[c];exact nd
  have F:(row.map g).sum=((row.take (row.length / 2)).map g).sum+((row.drop (row.length / 2)).map g).sum:=by rw[<- W0,<- JF,c]
  have G:yG (m+1) row=((yG m (row.take (row.length / 2))).1++(yG m (row.drop (row.length / 2))).1++(yF m (yG m (row.take (row.length / 2))).2 (yG m (row.drop (row.length / 2))).2).1,(yF m (yG m (row.take (row.length / 2))).2 (yG m (row.drop (row.length / 2))).2).2):=rfl;rw[G,F];have inr:∀ x,x∈row.take (row.length / 2)++row.drop (row.length / 2)->x∈row:=λx a=>by rw[c]at a;exact a
  have o:=c;generalize row.take (row.length / 2)=e at *;generalize row.drop (row.length / 2)=d at *;obtain⟨I,H,s⟩:=ZA.mp b;obtain⟨p,k,E⟩:=vN m e g r I;obtain⟨n,j,D⟩:=vN m d g q H;generalize yG m e=A at *;generalize yG m d=B at *;have i:(A.2++B.2).Perm (e++d):=k.append j;obtain⟨im,v,C⟩:=vS m A.2 B.2 (fnF B.1 (fnF A.1 g)) (by rw[k.length_eq,r]) (by rw[j.length_eq,q]) (i.nodup_iff.mpr b);have u:A.2.map (fnF B.1 (fnF A.1 g))=A.2.map (fnF A.1 g):=JP λx a=>xE n λz=>s x (k.mem_iff.mp a) x z rfl;have t:B.2.map (fnF B.1 (fnF A.1 g))=B.2.map (fnF B.1 g):=JP λx a=>xH n (λl w=>xE p λz=>s l z l w rfl) x (j.mem_iff.mp a);refine⟨((p.mono λx a=>inr x (Jz.mpr (.inl a))).app (n.mono λx a=>inr x (Jz.mpr (.inr a)))).app (im.mono λx a=>inr x (i.mem_iff.mp a)),by rw[<- o];exact v.trans i,?_⟩;show (yF m A.2 B.2).2.map (fnF (A.1++B.1++(yF m A.2 B.2).1) g)=_;rw[xL,xL,C,u,t,E,D,xY]
theorem ld {n:Nat}:∀ (fs:List Fk) (cs:List Int),cs.length=n->(∀ f∈fs,f.1<n/\f.2<n/\f.1≠f.2)->∀ l,l<n->(yz fs cs).1.getD l 0=fnF fs (λl=>cs.getD l 0) l:=by
 intro fs cs k ok
 have key:∀ j,j<=fs.length->∀ l,l<n->(yz (fs.take j) cs).1.getD l 0=fnF (fs.take j) (λl=>cs.getD l 0) l:=λj=>by
  induction j with
  | zero=>intro _ l _;rfl
  | succ j ih =>
   intro q l e;have d:=ih (by lia);have c:j<fs.length:=by lia
   have o:fs[j]?=some fs[j]:=J0 c;obtain⟨i,h,g⟩:=ok _ (Yb c);have r:(yz (fs.take j) cs).1.length=n:=by rw[wu,k]
   rw[uT o cs,JR c,xL];show (xk (yz (fs.take j) cs) fs[j]).1.getD l 0=fn1 (fnF (fs.take j) λl=>cs.getD l 0) fs[j] l;have p:=d _ i;have e2:=d _ h;have m:=d l e;generalize yz (fs.take j) cs=st at *;generalize fnF (fs.take j) (λl=>cs.getD l 0)=G at *;unfold xk fn1 yN;show ((st.1.set fs[j].1 ((st.1.getD fs[j].1 0+st.1.getD fs[j].2 0+1) / 2)).set fs[j].2 ((st.1.getD fs[j].1 0+st.1.getD fs[j].2 0) / 2)).getD l 0=_;rw[p,e2,J7,Yt,Yt,Yd];by_cases a:l=fs[j].1
   ·rw[Jb a,Ja (λz=>g (a.symm.trans z.symm)),Jb a.symm,Jb (by lia)];rfl
   ·rw[Ja a]
    by_cases b:l=fs[j].2
    ·rw[Jb b,Jb b.symm,Jb (by lia)];rfl
    ·rw[Ja b,Ja (λz=>b z.symm),Ja (λz=>a z.symm),<- J7];exact m
 intro l e;have:=key fs.length (Jf _) l e
 rwa [YB]at this
theorem rE {k:Nat}(h:k<5)(cs:List Int)(b:cs.length=2 ^ k):yB (yU k) cs=zT cs.sum (2 ^ k):=by
 have ok:=wH h;obtain⟨_,q,f⟩:=vN k (List.range (2 ^ k)) (λl=>cs.getD l 0) Jx Zn
 have d:(List.range (2 ^ k)).map (λl=>cs.getD l 0)=cs:=by
  refine Zk (by rw[Je,Jx,b]) λi e c=>?_;rw[Zm,ZK,J7,J0 c];rfl
 rw[d]at f;rw[<- f];unfold yB;refine JP λl a=>?_;exact ld (n:=2 ^ k) _ cs b ok.fk l (JC.mp (q.mem_iff.mp a))
def sw (k:Nat):Nt:=⟨2 ^ k,yt k (List.range (2 ^ k)),List.range (2 ^ k)⟩
theorem cU:∀ k,k<5->(sw k).forks.length<=32/\∀ f∈(sw k).forks,f.1<2 ^ k/\f.2<2 ^ k/\f.1≠f.2:=by decide +kernel
theorem pc {k:Nat}(h:k<5):2 ^ k<=16:=by
 show 2 ^ k<=2 ^ 4;exact YN (show 0<2 by decide) (show k<=4 by lia)
theorem fe {k:Nat}(h:k<5):(sw k).Ok:=by
 obtain⟨a,b⟩:=cU k h;exact⟨Y7,pc h,JM a (by decide),b,.refl _⟩
theorem ay {a b:Nt}(e:a.lanes=b.lanes)(d:a.forks=b.forks)(c:a.ends=b.ends):a=b:=by
 cases a;cases b;cases e;cases d;cases c;rfl
theorem kz {σ α β:Type}{step:σ->Fk->σ × α}(C:Commutes step){a b:List (β × Fk)}(h:Sw a b):∀ s,(run step s (b.map Prod.snd)).1=(run step s (a.map Prod.snd)).1:=by
 induction h with
 | refl l=>exact λs=>rfl
 | swap pre x y post e =>
  induction pre with
  | nil =>
   intro s;obtain⟨f,i,g⟩:=C s x.2 y.2 e;simp only[YH,Y5,run]
   rw[f]
  | cons z pre ih =>
   intro s;simp only[ZW,Y5,run]
   exact ih _
 | trans _ _ d c=>exact λs=>(c s).trans (d s)
def uA (cs:List Int)(f:Fk):List Int × Int:=((cs.set f.1 ((cs.getD f.1 0+cs.getD f.2 0+1) / 2)).set f.2 ((cs.getD f.1 0+cs.getD f.2 0) / 2),(cs.getD f.1 0+cs.getD f.2 0)%2)
theorem jm:Commutes uA:=λs f g h=>by
 obtain⟨d,c,b,a⟩:=oN h;unfold uA;simp only[yI d,yI c,yI b,yI a,yI d.symm,yI c.symm,yI b.symm,yI a.symm];exact⟨aY _ d c b a,trivial,trivial⟩
theorem oh:∀ (fs:List Fk) (cs a:List Int),xP (cs,a) fs=((run uA cs fs).1,a++(run uA cs fs).2.map Prod.fst)
 | [],cs,a=>by
  show (cs,a)=(cs,a++[])
  rw[Yy]
 | f::fs,cs,a=>by
  unfold xP;rw[List.foldl_cons];show xP ((uA cs f).1,a++[(uA cs f).2]) fs=_;rw[oh fs];show (_,a++[(uA cs f).2]++_)=(_,a++((uA cs f).2::_));rw[JL];rfl
theorem om (N:Nt)(cs:List Int):yB N cs=N.ends.map λe=>(run uA cs N.forks).1.getD e 0:=by
 unfold yB yz;rw[oh]
theorem cL {β:Type}{N N':Nt}{a b:List (β × Fk)}(c:N'.ends=N.ends)(h:Sw a b)(ha:a.map Prod.snd=N.forks)(hb:b.map Prod.snd=N'.forks)(cs:List Int):yB N' cs=yB N cs:=by
 rw[om,om,c,<- hb,<- ha,kz jm h]
theorem xJ {N:Nt}(ok:N.Ok)(cs:List Int):yB (zV N) cs=yB N cs:=cL (N:=N) (N':=zV N) rfl (sE ok) (wL N) rfl cs
theorem wx {α:Type}:∀ (l:List α),l.length%2=0->zW (by2 0 l) (by2 1 l)=l
 | [],_=>by
  have a:(by2 0 []:List α)=[]:=by simp[by2]
  rw[a];rfl
 | [x],h=>by simp at h
 | x::y::l,h=>by
  rw[(yZ x y l).1,(yZ x y l).2];show x::y::zW (by2 0 l) (by2 1 l)=_;rw[wx l (by rw[JE,JE]at h;lia)]
theorem xg {α:Type}:∀ (a b:List α),a.length=b.length->by2 0 (zW a b)=a/\by2 1 (zW a b)=b
 | [],[],_=>by
  have f:(by2 0 []:List α)=[]:=by simp[by2]
  have e:(by2 1 []:List α)=[]:=by simp[by2]
  exact⟨f,e⟩
 | [],y::b,h=>absurd h (by simp)
 | x::a,[],h=>absurd h (by simp)
 | x::a,y::b,h=>by
  obtain⟨d,c⟩:=xg a b (by simpa using h);show by2 0 (x::y::zW a b)=_/\by2 1 (x::y::zW a b)=_;rw[(yZ x y _).1,(yZ x y _).2,d,c];exact⟨rfl,rfl⟩
def xV {α:Type}(row:List α):List α:=zW (by2 0 (by2 0 row)) (by2 1 (by2 1 row))
def xU {α:Type}(row:List α):List α:=zW (by2 0 (by2 1 row)) (by2 1 (by2 0 row))
def abN:Nat->List Nat->List Fk
 | 0,_=>[]
 | m+1,row=>abN m (xV row)++abN m (xU row)++(by2 0 row).zip (by2 1 row)
theorem lX:∀ (e o:List Int),e.length=o.length->e.length%2=0->((zW (by2 0 e) (by2 1 o)).zip (zW (by2 0 o) (by2 1 e))).flatMap yp=(e.zip o).flatMap yp
 | [],[],_,_=>by
  have d:(by2 0 []:List Int)=[]:=by simp[by2]
  rw[d];rfl
 | [],y::o,h,_=>absurd h (by simp)
 | x::e,[],h,_=>absurd h (by simp)
 | [x],[y],_,h=>by simp at h
 | [x],_::_::_,h,_=>by simp at h
 | _::_::_,[y],h,_=>by simp at h
 | x::b::e,y::a::o,h,c=>by
  have ih:=lX e o (by simpa using h) (by rw[JE,JE]at c;lia);rw[(yZ x b e).1,(yZ x b e).2,(yZ y a o).1,(yZ y a o).2];show yp (x,y)++(yp (a,b)++((zW (by2 0 e) (by2 1 o)).zip (zW (by2 0 o) (by2 1 e))).flatMap yp)=yp (x,y)++(yp (b,a)++(e.zip o).flatMap yp);rw[ih];have:yp (a,b)=yp (b,a):=by unfold yp;rw[Int.add_comm a b]
  rw[this]
theorem rD {α:Type}{m:Nat}{row:List α}(h:row.length=2 ^ (m+2)):(by2 0 row).length=2 ^ (m+1)/\(by2 1 row).length=2 ^ (m+1)/\(by2 0 (by2 0 row)).length=2 ^ m/\(by2 1 (by2 0 row)).length=2 ^ m/\(by2 0 (by2 1 row)).length=2 ^ m/\(by2 1 (by2 1 row)).length=2 ^ m:=by
 obtain⟨a,b⟩:=ye h;obtain⟨c,d⟩:=ye a;obtain⟨e,f⟩:=ye b;exact⟨a,b,c,d,e,f⟩
theorem wT {α:Type}{m:Nat}{row:List α}(h:row.length=2 ^ (m+2)):(xV row++xU row).Perm row:=by
 obtain⟨_,_,c,d,e,f⟩:=rD h;refine List.Perm.trans ((xh _ _ (by rw[c,f])).append (xh _ _ (by rw[e,d]))) ?_;refine List.Perm.trans ?_ (yx row);refine List.Perm.trans ?_ ((yx (by2 0 row)).append (yx (by2 1 row)));rw[JL,JL];refine ZT (by2 0 (by2 0 row)) ?_;rw[<- JL (by2 1 (by2 1 row)),<- JL (by2 1 (by2 0 row))];exact(YJ (l₁:=by2 1 (by2 1 row)++by2 0 (by2 1 row))).trans (ZT _ YJ |>.trans (by rw[<- JL]))
theorem kM {m:Nat}{row:List Nat}(h:row.length=2 ^ (m+2))(nd:row.Nodup)(q:InR (abN (m+1) (xV row)) (xV row))(k:InR (abN (m+1) (xU row)) (xU row))(g:Nat->Int) :
  row.map (fnF (abN (m+2) row) g)=(((xV row).map (fnF (abN (m+1) (xV row)) g)).zip ((xU row).map (fnF (abN (m+1) (xU row)) g))).flatMap yp:=by
 obtain⟨a,b,c,d,e,f⟩:=rD h;have pp:=wT h;obtain⟨t,s,n⟩:=ZA.mp (pp.nodup_iff.mpr nd);have ev:row.length%2=0:=by rw[h,Yq];lia
 have j:(by2 0 row).length%2=0:=by rw[a,Yq];lia
 show row.map (fnF (abN (m+1) (xV row)++abN (m+1) (xU row)++(by2 0 row).zip (by2 1 row)) g)=_;rw[xL,xL];have z:=vz (by2 0 row) (by2 1 row) (fnF (abN (m+1) (xU row)) (fnF (abN (m+1) (xV row)) g)) (by rw[a,b]) ((yx row).nodup_iff.mpr nd);rw[wx row ev]at z;rw[z,<- lX _ _ (by rw[Je,Je,a,b]) (by rw[Je];exact j),yL,yL,yL,yL,xi,xi];have p:(xV row).map (fnF (abN (m+1) (xU row)) (fnF (abN (m+1) (xV row)) g))=(xV row).map (fnF (abN (m+1) (xV row)) g):=JP λx i=>xE k λw=>n x i x w rfl;have o:(xU row).map (fnF (abN (m+1) (xU row)) (fnF (abN (m+1) (xV row)) g))=(xU row).map (fnF (abN (m+1) (xU row)) g):=JP λx i=>xH k (λl r=>xE q λw=>n l w l r rfl) x i;show ((xV row).map _ |>.zip ((xU row).map _)).flatMap yp=_;rw[p,o]
theorem uP {α:Type}{m:Nat}{row:List α}(h:row.length=2 ^ (m+2)):(xV row).length=2 ^ (m+1)/\(xU row).length=2 ^ (m+1):=by
 obtain⟨_,_,c,d,e,f⟩:=rD h;unfold xV xU;rw[xF _ _ (by rw[c,f]),xF _ _ (by rw[e,d]),c,e,Yq];lia
theorem rp:∀ (m:Nat) (row:List Nat),row.length=2 ^ m->InR (abN m row) row
 | 0,row,_=>λf d=>by simp[abN]at d
 | 1,row,h=>by
  have e:abN 1 row=[]++[]++(by2 0 row).zip (by2 1 row):=rfl;rw[e]
  exact(uH _ _).mono λx a=>(yx row).mem_iff.mp a
 | m+2,row,h=>by
  obtain⟨c,b⟩:=uP h;have pp:=wT h;exact(((rp (m+1) _ c).mono λx a=>pp.mem_iff.mp (Jz.mpr (.inl a))).app ((rp (m+1) _ b).mono λx a=>pp.mem_iff.mp (Jz.mpr (.inr a)))).app ((uH _ _).mono λx a=>(yx row).mem_iff.mp a)
theorem fq:∀ k,k<5->yh (⟨2 ^ k,abN k (List.range (2 ^ k)),List.range (2 ^ k)⟩:Nt)=yh (sw k):=by decide +kernel
theorem uc:∀ (m:Nat) (row:List Nat) (g:Nat->Int) (s t:Int),row.length=2 ^ (m+1)->row.Nodup->(by2 0 row).map g=zT s (2 ^ m)->(by2 1 row).map g=zT t (2 ^ m)->row.map (fnF (abN (m+1) row) g)=zT (s+t) (2 ^ (m+1))
 | 0,row,g,s,t,h,nd,j,i=>by
  have e:abN 1 row=[]++[]++(by2 0 row).zip (by2 1 row):=rfl;obtain⟨a,b⟩:=ye h;have z:=vz (by2 0 row) (by2 1 row) g (by rw[a,b]) ((yx row).nodup_iff.mpr nd);rw[wx row (by rw[h]),j,i]at z;have w:=xY 0 s t;rw[e,YH,YH,z]
  exact w
 | m+1,row,g,s,t,h,nd,j,i=>by
  obtain⟨a,b,c,d,e,f⟩:=rD h;obtain⟨A,y⟩:=uP h;have pp:=wT h;obtain⟨E,D,F⟩:=ZA.mp (pp.nodup_iff.mpr nd);obtain⟨q,o⟩:=xg (by2 0 (by2 0 row)) (by2 1 (by2 1 row)) (by rw[c,f]);obtain⟨l,k⟩:=xg (by2 0 (by2 1 row)) (by2 1 (by2 0 row)) (by rw[e,d]);have p:=Y7 (n:=m);have e2:2 ^ (m+1)=2*2 ^ m:=by rw[Yq,Nat.mul_comm]
  rw[e2]at j i;have x:=Yh (by2 0) j;have v:=Yh (by2 1) j;have u:=Yh (by2 0) i;have r:=Yh (by2 1) i;rw[yL,(yn s _ p).1]at x;rw[yL,(yn s _ p).2]at v;rw[yL,(yn t _ p).1]at u;rw[yL,(yn t _ p).2]at r;have C:=uc m (xV row) g _ _ A E (by show (by2 0 (zW _ _)).map g=_;rw[q];exact x) (by show (by2 1 (zW _ _)).map g=_;rw[o];exact r);have B:=uc m (xU row) g _ _ y D (by show (by2 0 (zW _ _)).map g=_;rw[l];exact u) (by show (by2 1 (zW _ _)).map g=_;rw[k];exact v);rw[kM h nd (rp _ _ A) (rp _ _ y) g,C,B,ui _ _ _ Y7 (by lia)]
  congr 1
  ·lia
  ·rw[Yq 2 (m+1)];lia
def IsSt (x:List Int):Prop:=∃ q r:Int,0<=r/\r<x.length/\∀ p (h:p<x.length),x[p]=q+if (p:Int)<r then 1 else 0
theorem tP (s:Int)(n p:Nat)(h:p<(zT s n).length):(zT s n)[p]=stV s n p:=by simp[zT,stV]
theorem vW {x:List Int}(h:IsSt x):∃ s,x=zT s x.length:=by
 obtain⟨q,r,b,a,e⟩:=h;refine⟨q*x.length+r,Zk (xm _ _).symm λp c d=>?_⟩;rw[e p c,tP];exact(rN q x.length r p b a (by lia) (by lia)).symm
theorem nV (s:Int)(n:Nat)(h:1<=n):IsSt (zT s n):=by
 have b:(0:Int)<n:=by lia
 refine⟨s / n,s%n,Z4 _ (by lia),by rw[xm];exact YV _ b,λp a=>?_⟩;rw[tP];rw[xm]at a;exact ce s n p a
theorem je {x y:List Int}(c:Int)(hc:c=0\/c=1)(o:x.length=y.length)(i:IsSt x)(h:IsSt y):IsSt (List.zipWith (λa b=>(a+b+c) / 2) x y):=by
 obtain⟨q,r,n,m,e⟩:=i;obtain⟨f,d,l,k,j⟩:=h;have ln:(List.zipWith (λa b=>(a+b+c) / 2) x y).length=x.length:=by rw[List.length_zipWith];lia
 refine⟨(q+f+c) / 2,if (q+f+c)%2=0 then min r d else max r d,by split<;>lia,by rw[ln];split<;>lia,λp g=>?_⟩;rw[ln]at g;rw[List.getElem_zipWith,e p g,j p (by lia)];by_cases a:(p:Int)<r
 ·by_cases b:(p:Int)<d
  ·rw[Jb a,Jb b]
   rw[Jb (by split<;>lia)];lia
  ·rw[Jb a,Ja b]
   by_cases z:(q+f+c)%2=0
   ·rw[Jb z,Ja (by lia)];lia
   ·rw[Ja z,Jb (by lia)];lia
 ·by_cases b:(p:Int)<d
  ·rw[Ja a,Jb b]
   by_cases z:(q+f+c)%2=0
   ·rw[Jb z,Ja (by lia)];lia
   ·rw[Ja z,Jb (by lia)];lia
  ·rw[Ja a,Ja b]
   rw[Ja (by split<;>lia)];lia
def chS:Nat->List Int->Prop
 | 0,x=>IsSt x
 | j+1,x=>chS j (by2 0 x)/\chS j (by2 1 x)
theorem uo (f:Int->Int->Int):∀ (x y:List Int),x.length=y.length->by2 0 (List.zipWith f x y)=List.zipWith f (by2 0 x) (by2 0 y)/\by2 1 (List.zipWith f x y)=List.zipWith f (by2 1 x) (by2 1 y)
 | [],[],_=>by simp[by2]
 | [],y::b,h=>absurd h (by simp)
 | x::a,[],h=>absurd h (by simp)
 | [x],[y],_=>by simp[by2]
 | [x],y::c::b,h=>absurd h (by simp)
 | x::d::a,[y],h=>absurd h (by simp)
 | x::d::a,y::c::b,h=>by
  obtain⟨i0,i1⟩:=uo f a b (by simpa using h);show by2 0 (f x y::f d c::List.zipWith f a b)=_/\by2 1 (f x y::f d c::List.zipWith f a b)=_;rw[(yZ _ _ _).1,(yZ _ _ _).2,(yZ x d a).1,(yZ x d a).2,(yZ y c b).1,(yZ y c b).2,i0,i1];exact⟨rfl,rfl⟩
theorem vw (c:Int)(hc:c=0\/c=1):∀ (j:Nat) (x y:List Int),x.length=y.length->chS j x->chS j y->chS j (List.zipWith (λa b=>(a+b+c) / 2) x y)
 | 0,x,y,d,f,e=>je c hc d f e
 | j+1,x,y,d,f,e=>by
  obtain⟨h,g⟩:=uo (λa b=>(a+b+c) / 2) x y d;refine⟨?_,?_⟩
  ·rw[h];exact vw c hc j _ _ (by rw[wc 0 (by lia),wc 0 (by lia),d]) f.1 e.1
  ·rw[g];exact vw c hc j _ _ (by rw[wc 1 (by lia),wc 1 (by lia),d]) f.2 e.2
theorem sV:∀ (x y:List Int),(x.zip y).flatMap yp=zW (List.zipWith (λa b=>(a+b+1) / 2) x y) (List.zipWith (λa b=>(a+b+0) / 2) x y)
 | [],y=>rfl
 | x::a,[]=>rfl
 | x::a,y::b=>by
  show (x+y+1) / 2::(x+y) / 2::(a.zip b).flatMap yp=(x+y+1) / 2::(x+y+0) / 2::zW _ _;rw[sV a b,Int.add_zero]
theorem mz:∀ (m j:Nat) (row:List Nat) (g:Nat->Int),row.length=2 ^ (m+1)->row.Nodup->j<=m->chS (j+1) (row.map g)->chS j (row.map (fnF (abN (m+1) row) g))
 | m,0,row,g,h,nd,_,hc=>by
  obtain⟨a,b⟩:=ye h;obtain⟨F,E⟩:=hc;obtain⟨s,B⟩:=vW F;obtain⟨t,A⟩:=vW E;rw[yL,Je,a]at B;rw[yL,Je,b]at A;rw[uc m row g s t h nd B A]
  exact nV _ _ Y7
 | 0,j+1,_,_,_,_,z,_=>absurd z (by lia)
 | m+1,j+1,row,g,h,nd,z,hc=>by
  obtain⟨a,b,c,d,e,f⟩:=rD h;obtain⟨k,i⟩:=uP h;obtain⟨H,G,_⟩:=ZA.mp ((wT h).nodup_iff.mpr nd);obtain⟨p,o⟩:=xg (by2 0 (by2 0 row)) (by2 1 (by2 1 row)) (by rw[c,f]);obtain⟨n,l⟩:=xg (by2 0 (by2 1 row)) (by2 1 (by2 0 row)) (by rw[e,d]);obtain⟨⟨v,u⟩,⟨r,q⟩⟩:=hc;rw[yL,yL]at v u r q;have x:=mz m j (xV row) g k H (by lia) ⟨by rw[yL];show chS j ((by2 0 (zW _ _)).map g);rw[p];exact v,by rw[yL];show chS j ((by2 1 (zW _ _)).map g);rw[o];exact q⟩;have w:=mz m j (xU row) g i G (by lia) ⟨by rw[yL];show chS j ((by2 0 (zW _ _)).map g);rw[n];exact r,by rw[yL];show chS j ((by2 1 (zW _ _)).map g);rw[l];exact u⟩;have y:((xV row).map (fnF (abN (m+1) (xV row)) g)).length=((xU row).map (fnF (abN (m+1) (xU row)) g)).length:=by rw[Je,Je,k,i]
  rw[kM h nd (rp _ _ k) (rp _ _ i) g,sV];obtain⟨D,C⟩:=xg (List.zipWith (λa b=>(a+b+1) / 2) ((xV row).map (fnF (abN (m+1) (xV row)) g)) ((xU row).map (fnF (abN (m+1) (xU row)) g))) (List.zipWith (λa b=>(a+b+0) / 2) ((xV row).map (fnF (abN (m+1) (xV row)) g)) ((xU row).map (fnF (abN (m+1) (xU row)) g))) (by rw[List.length_zipWith,List.length_zipWith]);refine⟨?_,?_⟩
  ·rw[D];exact vw 1 (.inr rfl) j _ _ y x w
  ·rw[C];exact vw 0 (.inl rfl) j _ _ y x w
def fu (k:Nat):Nt:=⟨2 ^ k,abN k (List.range (2 ^ k)),List.range (2 ^ k)⟩
theorem aM:∀ k,k<5->(fu k).forks.length<=128/\∀ f∈(fu k).forks,f.1<2 ^ k/\f.2<2 ^ k/\f.1≠f.2:=by decide +kernel
theorem cp {k:Nat}(h:k<5):(fu k).Ok:=by
 obtain⟨a,b⟩:=aM k h;exact⟨Y7,pc h,a,b,.refl _⟩
theorem vF {N:Nt}(ok:N.Ok)(g:Nat->Int):yB N ((List.range N.lanes).map g)=N.ends.map (fnF N.forks g):=by
 unfold yB;refine JP λl d=>?_;have a:l<N.lanes:=JC.mp (ok.en.mem_iff.mp d);have i:InR N.forks (List.range N.lanes):=λf b=>⟨JC.mpr (ok.fk f b).1,JC.mpr (ok.fk f b).2.1⟩;rw[ld (n:=N.lanes) N.forks _ (by rw[Je,Jx]) ok.fk l a];refine xH i (λx c=>?_) l (JC.mpr a);have:=JC.mp c;rw[J7,JD,ZF this];rfl
theorem fc {k:Nat}(h:k<5)(g:Nat->Int):(List.range (2 ^ k)).map (fnF (sw k).forks g)=(List.range (2 ^ k)).map (fnF (abN k (List.range (2 ^ k))) g):=by
 have a:=vF (fe h) g;have b:=vF (cp h) g;have c:zV (fu k)=zV (sw k):=ay rfl (fq k h) rfl
 have e:yB (sw k) ((List.range (2 ^ k)).map g)=yB (fu k) ((List.range (2 ^ k)).map g):=by
  rw[<- xJ (fe h),<- xJ (cp h),c]
 exact a.symm.trans (e.trans b)
theorem pD:∀ (k:Nat) (x:List Int),x.length=2 ^ k->chS k x
 | 0,x,h=>by
  match x,h with
  | [z],_=>exact⟨z,0,by decide,by show (0:Int)<1;decide,λp hp=>by
    have:p=0:=by have:p<1:=hp;lia
    subst this;show z=z+0
    lia⟩
 | k+1,x,h=>by
  obtain⟨a,b⟩:=ye h;exact⟨pD k _ a,pD k _ b⟩
theorem sB {k:Nat}(h:k<5)(g:Nat->Int):∀ j,j<=k->chS (k-j) ((List.range (2 ^ k)).map (fnF (List.replicate j (sw k).forks).flatten g))
 | 0,_=>pD k _ (by rw[Je,Jx])
 | j+1,a=>by
  have ih:=sB h g j (by lia)
  have e:(List.replicate (j+1) (sw k).forks).flatten=(List.replicate j (sw k).forks).flatten++(sw k).forks:=by
   rw[List.replicate_succ',List.flatten_append,List.flatten_singleton]
  rw[e,xL,fc h];obtain⟨m,rfl⟩:∃ m,k=m+1:=⟨k-1,by lia⟩;rw[show m+1-j=(m+1-(j+1))+1 by lia]at ih;exact mz m (m+1-(j+1)) _ _ Jx Zn (by lia) ih
theorem pV {k:Nat}(h:k<5)(g:Nat->Int):∃ s,yB (yk k) ((List.range (2 ^ k)).map g)=zT s (2 ^ k):=by
 have c:=sB h g k (Jf _);rw[Nat.sub_self]at c;obtain⟨s,e⟩:=vW c;rw[Je,Jx]at e;exact⟨s,(vF (xG h) g).trans e⟩
theorem fJ {n:Nat}{cs:List Int}(h:cs.length=n):(List.range n).map (λl=>cs.getD l 0)=cs:=by
 refine Zk (by rw[Je,Jx,h]) λi b a=>?_;rw[Zm,ZK,J7,J0 a];rfl
theorem tN {k:Nat}(h:k<5)(cs:List Int)(a:cs.length=2 ^ k):yB (zV (yU k)) cs=zT cs.sum (2 ^ k):=by
 rw[xJ (wH h),rE h cs a]
theorem qS {k:Nat}(h:k<5)(cs:List Int)(a:cs.length=2 ^ k):yB (zV (yk k)) cs=zT cs.sum (2 ^ k):=by
 rw[xJ (xG h)];obtain⟨s,e⟩:=pV h λl=>cs.getD l 0;rw[fJ a]at e;have:=oj (xG h) (cs:=cs) a;rw[e,nX _ _ Y7]at this;rw[e,this]
theorem pK (s:Int)(n:Nat)(h:1<=n):zW (zT ((s+1) / 2) n) (zT (s / 2) n)=zT s (2*n):=by
 obtain⟨a,b⟩:=yn s n h;rw[<- a,<- b,wx _ (by rw[xm];lia)]
theorem uJ:∀ (m:Nat) (row:List Nat) (g:Nat->Int),row.length=2 ^ m->row.Nodup->(∀ x∈row.drop 1,g x=0) ->
  InR (yg m row).1 row/\(yg m row).2.Perm row/\(yg m row).2.map (fnF (yg m row).1 g)=zT (g (row.getD 0 0)) (2 ^ m)
 | 0,row,g,h,nd,z=>by
  refine⟨λf j=>by simp[yg]at j,ZR _,?_⟩
  match row,h with
  | [x],_ =>
   show [g x]=zT (g x) 1
   rw[tO]
 | m+1,row,g,h,nd,z=>by
  obtain⟨i,d⟩:=wO h;have F:1<=2 ^ m:=Y7;have u:row.take (row.length / 2)++row.drop (row.length / 2)=row:=Z0 _ _
  have P:row.getD 0 0=(row.take (row.length / 2)).getD 0 0:=by
   conv=>lhs;rw[<- u]
   rw[J7,Y8 (by lia),<- J7]
  have N:row.getD (row.length / 2) 0=(row.drop (row.length / 2)).getD 0 0:=by
   rw[J7,J7,ZL,Za]
  have O:yg (m+1) row=((row.getD 0 0,row.getD (row.length / 2) 0)::((yg m (row.take (row.length / 2))).1++(yg m (row.drop (row.length / 2))).1),zW (yg m (row.take (row.length / 2))).2 (yg m (row.drop (row.length / 2))).2):=rfl;rw[O,P,N];generalize row.take (row.length / 2)=c at *;generalize row.drop (row.length / 2)=b at *;subst u
  match c,b,i,d with
  | [],_,i,_=>simp at i;lia
  | _::_,[],_,d=>simp at d;lia
  | x::c,y::b,i,d =>
   show InR ((x,y)::_) _/\_/\(zW _ _).map (fnF ((x,y)::(_++_)) g)=zT (g x) _;obtain⟨w,v,k⟩:=ZA.mp nd;have C:x≠y:=k x Ju y Ju;have q:∀ l∈c++y::b,g l=0:=z
   have K:fn1 g (x,y) x=(g x+1) / 2:=by
    unfold fn1 yN;rw[Jb rfl,q y (by simp),Int.add_zero]
   have J:fn1 g (x,y) y=g x / 2:=by
    unfold fn1 yN;rw[Ja C.symm,Jb rfl,q y (by simp),Int.add_zero]
   have go:∀ l,l∈c\/l∈b->fn1 g (x,y) l=0:=λl a=>by
    have H:l≠x:=λe=>by
     subst e;rcases a with a|a
     ·exact(JY.mp w).1 a
     ·exact k l Ju l (Jr _ a) rfl
    have G:l≠y:=λe=>by
     subst e;rcases a with a|a
     ·exact k l (Jr _ a) l Ju rfl
     ·exact(JY.mp v).1 a
    unfold fn1 yN;rw[Ja H,Ja G];exact q l (by rcases a with a|a<;>simp[a])
   obtain⟨t,o,M⟩:=uJ m (x::c) (fn1 g (x,y)) i w λl a=>go l (.inl a);obtain⟨p,n,L⟩:=uJ m (y::b) (fn1 g (x,y)) d v λl a=>go l (.inr a);generalize yg m (x::c)=A at *;generalize yg m (y::b)=B at *;have I:A.2.length=B.2.length:=by rw[o.length_eq,n.length_eq,i,d]
   refine⟨λf j=>?_,(xh _ _ I).trans (o.append n),?_⟩
   ·rcases Jn.mp j with rfl|j
    ·exact⟨by simp,by simp⟩
    ·exact((t.mono λl a=>Jz.mpr (.inl a)).app (p.mono λl a=>Jz.mpr (.inr a))) f j
   ·show (zW A.2 B.2).map (fnF (A.1++B.1) (fn1 g (x,y)))=_
    rw[xL,<- xi];have E:A.2.map (fnF B.1 (fnF A.1 (fn1 g (x,y))))=A.2.map (fnF A.1 (fn1 g (x,y))):=JP λl a=>xE p λz=>k l (o.mem_iff.mp a) l z rfl;have D:B.2.map (fnF B.1 (fnF A.1 (fn1 g (x,y))))=B.2.map (fnF B.1 (fn1 g (x,y))):=JP λl a=>xH p (λs r=>xE t λz=>k s z s r rfl) l (n.mem_iff.mp a);rw[E,D,M,L];show zW (zT (fn1 g (x,y) x) _) (zT (fn1 g (x,y) y) _)=_;rw[K,J,pK _ _ F,Yq,Nat.mul_comm]
theorem nO {k:Nat}(h:k<5)(s:Int):yB (zV (xj k)) (s::List.replicate (2 ^ k-1) 0)=zT s (2 ^ k):=by
 have g:1<=2 ^ k:=Y7;rw[xJ (wy h)];have b:(s::List.replicate (2 ^ k-1) (0:Int)).length=2 ^ k:=by rw[JE,YY];lia
 have e:=vF (wy h) λl=>(s::List.replicate (2 ^ k-1) (0:Int)).getD l 0;have e2:(List.range (xj k).lanes).map (λl=>(s::List.replicate (2 ^ k-1) (0:Int)).getD l 0)=s::List.replicate (2 ^ k-1) 0:=fJ b;rw[e2]at e;rw[e]
 obtain⟨_,_,f⟩:=uJ k (List.range (2 ^ k)) (λl=>(s::List.replicate (2 ^ k-1) (0:Int)).getD l 0) Jx Zn (λx c=>by
  obtain⟨i,a⟩:=List.getElem?_of_mem c;rw[ZL]at a;obtain⟨q,rfl⟩:=J9.mp a;rw[ZK];rw[Nat.add_comm 1 i,List.getD_cons_succ,J7,Zi]
  split<;>rfl)
 refine f.trans ?_;have d:(List.range (2 ^ k)).getD 0 0=0:=by rw[J7,ZF (by lia)];rfl
 rw[d];rfl
def lng:List Fk->Nat->Nat
 | [],_=>0
 | f::fs,l=>if l=f.1\/l=f.2 then 1+max (lng fs f.1) (lng fs f.2) else lng fs l
theorem sQ:∀ (fs:List Fk) (l:Nat),lng fs l<=fs.length
 | [],_=>Jf _
 | f::fs,l=>by
  unfold lng;have a:=sQ fs f.1;have b:=sQ fs f.2;have c:=sQ fs l;rw[JE];split
  ·have:=Nat.max_le.mpr ⟨a,b⟩;lia
  ·lia
theorem wX {f:Fk}{fs:List Fk}{l:Nat}(h:l=f.1\/l=f.2):lng (f::fs) l=1+max (lng fs f.1) (lng fs f.2):=by
 show (if _ then _ else _)=_;rw[Jb h]
theorem yb {f:Fk}{fs:List Fk}{l:Nat}(h:¬(l=f.1\/l=f.2)):lng (f::fs) l=lng fs l:=by
 show (if _ then _ else _)=_;rw[Ja h]
theorem gO {f:Fk}{fs:List Fk}{l a:Nat}(h:l=f.1\/l=f.2)(h':a=f.1\/a=f.2):lng fs a+1<=lng (f::fs) l:=by
 rw[wX h];rcases h' with rfl|rfl
 ·have:=Nat.le_max_left (lng fs f.1) (lng fs f.2);lia
 ·have:=Nat.le_max_right (lng fs f.1) (lng fs f.2);lia
theorem gP {fs:List Fk}{l:Nat}:∀ {n k:Nat},n<=k->k<=fs.length->(∀ j g,n<=j->j<k->fs[j]?=some g->¬(l=g.1\/l=g.2))->lng (fs.drop n) l=lng (fs.drop k) l:=by
 intro n k
 induction f:k-n generalizing n with
 | zero =>
  intro a _ _
  rw[show n=k by lia]
 | succ d ih =>
  intro a b c;have nl:n<fs.length:=by lia
  rw[Yn nl,yb (c n _ (Jf _) (by lia) (J0 nl))];exact ih (by lia) (by lia) b λj g h e=>c j g (by lia) e
theorem oS {fs:List Fk}{l n k:Nat}(nx:IsNext fs l n k):lng (fs.drop n) l=lng (fs.drop k) l:=gP nx.from_ nx.upto nx.none
def wD (fs:List Fk):Option (Nat × Nat)->Nat
 | none=>0
 | some o=>1+lng (fs.drop o.2) o.1
def wk (fs:List Fk)(os:List (Option (Nat × Nat))):Nat:=(os.map (wD fs)).sum
theorem sD (fs:List Fk):∀ (os:List (Option (Nat × Nat))) (i:Nat) (old x:Option (Nat × Nat)),os[i]?=some old->wk fs (os.set i x)+wD fs old=wk fs os+wD fs x
 | [],i,old,x,h=>by cases h
 | a::os,0,old,x,h=>by
  cases h;show (wD fs x+(os.map (wD fs)).sum)+_=(_+(os.map (wD fs)).sum)+_
  lia
 | a::os,i+1,old,x,h=>by
  have ih:=sD fs os i old x h;show (wD fs a+wk fs (os.set i x))+_=(wD fs a+wk fs os)+_;lia
theorem iq (fs:List Fk)(os:List (Option (Nat × Nat)))(x:Option (Nat × Nat)):wk fs (os++[x])=wk fs os+wD fs x:=by
 unfold wk;rw[JF,W0];show _+(_+0)=_;lia
theorem ji {fs:List Fk}{k k' l a:Nat}{f:Fk}(e:fs[k]?=some f)(h:l=f.1\/l=f.2)(h':a=f.1\/a=f.2)(nx:IsNext fs a (k+1) k'):wD fs (some (a,k'))+1<=wD fs (some (l,k)):=by
 obtain⟨b,c⟩:=J9.mp e;show 1+lng (fs.drop k') a+1<=1+lng (fs.drop k) l;rw[<- oS nx,Yn b,c];have:=gO (fs:=fs.drop (k+1)) h h';lia
theorem gf {fs:List Fk}{l k:Nat}(nx:IsNext fs l 0 k):wD fs (some (l,k))=1+lng fs l:=by
 show 1+lng (fs.drop k) l=_;rw[<- oS nx,Wg]
theorem vp {a b:List Fk}(h:∀ l,lng a l=lng b l):∀ (pre:List Fk) (l:Nat),lng (pre++a) l=lng (pre++b) l
 | [],l=>h l
 | f::pre,l=>by
  show (if _ then 1+max (lng (pre++a) f.1) (lng (pre++a) f.2) else lng (pre++a) l)=(if _ then 1+max (lng (pre++b) f.1) (lng (pre++b) f.2) else lng (pre++b) l);rw[vp h pre f.1,vp h pre f.2,vp h pre l]
theorem gN {f g:Fk}(h:wC f g=false)(fs:List Fk)(l:Nat):lng (f::g::fs) l=lng (g::f::fs) l:=by
 unfold wC at h;rw[Bool.or_eq_false_iff,JK,JK]at h;obtain⟨d,c⟩:=h;have j:¬(g.1=f.1\/g.1=f.2):=λz=>z.elim (λe=>d (.inl e.symm)) λe=>c (.inl e.symm);have i:¬(g.2=f.1\/g.2=f.2):=λz=>z.elim (λe=>d (.inr e.symm)) λe=>c (.inr e.symm);by_cases a:l=f.1\/l=f.2
 ·have b:¬(l=g.1\/l=g.2):=by rcases a with rfl|rfl<;>assumption
  rw[wX a,yb b,wX a,yb d,yb c]
 ·rw[yb a]
  by_cases b:l=g.1\/l=g.2
  ·rw[wX b,wX b,yb j,yb i]
  ·rw[yb b,yb b,yb a]
theorem bp {α:Type}{a b:List (α × Fk)}(h:Sw a b):∀ l,lng (a.map Prod.snd) l=lng (b.map Prod.snd) l:=by
 induction h with
 | refl _=>exact λl=>rfl
 | swap pre x y post h =>
  intro l;rw[JF,JF]
  exact vp (λl=>gN h _ l) _ l
 | trans _ _ d c=>exact λl=>(d l).trans (c l)
theorem tE {b:List Fk}{D:Nat}(h:∀ l,lng b l<=D):∀ (a:List Fk) (l:Nat),lng (a++b) l<=lng a l+D
 | [],l=>by show lng b l<=0+D;have:=h l;lia
 | f::a,l=>by
  have x:=tE h a f.1;have y:=tE h a f.2;have z:=tE h a l;by_cases c:l=f.1\/l=f.2
  ·rw[ZW,wX c,wX c]
   have:=Nat.le_max_left (lng a f.1) (lng a f.2);have:=Nat.le_max_right (lng a f.1) (lng a f.2);have:max (lng (a++b) f.1) (lng (a++b) f.2)<=max (lng a f.1) (lng a f.2)+D:=Nat.max_le.mpr ⟨by lia,by lia⟩;lia
  ·rw[ZW,yb c,yb c];exact z
theorem sP:∀ {fs:List Fk}{l:Nat},(∀ f∈fs,l≠f.1/\l≠f.2)->lng fs l=0
 | [],_,_=>rfl
 | f::fs,l,h=>by
  have:=h f (.head _);rw[yb λz=>z.elim this.1 this.2];exact sP λg a=>h g (.tail _ a)
theorem oT {p:List Nat}{n:Nat}(hp:p.Perm (List.range n)):∀ {fs:List Fk},(∀ f∈fs,f.1<n/\f.2<n)->∀ l,l<n->lng (fs.map (xx p)) (nmq p l)=lng fs l
 | [],_,_,_=>rfl
 | f::fs,h,l,a=>by
  have b:=h f (.head _);have ih:=λl a=>oT hp (fs:=fs) (λg m=>h g (.tail _ m)) l a;have inj:∀ {i j:Nat},i<n->j<n->(nmq p i=nmq p j↔i=j):=λ{i j} k d=>⟨λe=>qj (vR hp) (by rw[yi hp];exact k) (by rw[yi hp];exact d) e,λe=>by rw[e]⟩;rw[Y5];by_cases c:l=f.1\/l=f.2
  ·rw[wX c,wX (show nmq p l=(xx p f).1\/nmq p l=(xx p f).2 from c.imp (λe=>by rw[e];rfl) λe=>by rw[e];rfl)]
   show 1+max (lng _ (nmq p f.1)) (lng _ (nmq p f.2))=_;rw[ih f.1 b.1,ih f.2 b.2]
  ·rw[yb c,yb (λz=>c (z.imp (λe=>(inj a b.1).mp e) λe=>(inj a b.2).mp e))]
   exact ih l a
theorem jS {N:Nt}(ok:N.Ok)(l:Nat):lng (yh N) l=lng N.forks l:=by
 have:=bp (sE ok) l;rw[wL]at this;exact this.symm
theorem dw {N:Nt}(ok:N.Ok){l:Nat}(h:N.lanes<=l):lng N.forks l=0:=sP λf c=>by
 obtain⟨a,b,_⟩:=ok.fk f c;exact⟨by lia,by lia⟩
def Dpt (N:Nt)(D:Nat):Prop:=∀ l,lng N.forks l<=D
theorem mi {N:Nt}(ok:N.Ok){D:Nat}(h:∀ l,l<N.lanes->lng N.forks l<=D):Dpt N D:=λl=>by
 by_cases z:l<N.lanes
 ·exact h l z
 ·rw[dw ok (by lia)];exact JX _
theorem cP (N:Nt):Dpt N N.forks.length:=λl=>sQ _ l
theorem Dpt.plain {N:Nt}{D:Nat}(ok:N.Ok)(h:Dpt N D):Dpt (zV N) D:=λl=>by
 show lng (yh N) l<=D;rw[jS ok];exact h l
theorem Dpt.behind {A B:Nt}{D E:Nat}(d:A.Ok)(h:B.Ok)(e:B.lanes=A.lanes)(p:Dpt A D)(o:Dpt B E):Dpt (yo A B) (D+E):=λl=>by
 show lng (A.forks++B.forks.map (xx A.ends)) l<=D+E
 have all:∀ m,lng (B.forks.map (xx A.ends)) m<=E:=λm=>by
  by_cases z:m<A.lanes
  ·have:m∈A.ends:=d.en.mem_iff.mpr (JC.mpr z)
   obtain⟨i,k,q⟩:=List.getElem_of_mem this;rw[yi d.en]at k
   have em:nmq A.ends i=m:=by
    unfold nmq;rw[J7,J0 (by rw[yi d.en];exact k),q];rfl
   rw[<- em,oT d.en (λf j=>⟨e ▸ (h.fk f j).1,e ▸ (h.fk f j).2.1⟩) i k];exact o i
  ·rw[sP λf j=>?_]
   ·exact JX _
   ·obtain⟨g,n,rfl⟩:=Yj.mp j
    obtain⟨a,b,c⟩:=nA d.en (f:=g) (by rw[<- e];exact h.fk g n);exact⟨by lia,by lia⟩
 have:=tE all A.forks l;have:=p l;lia
theorem Runs.wentD {N:Nt}{c:Nat->Int}{S f:Tst}{ball lane k:Nat}{v:V}(r:Runs N c S)(hb:S.spots[ball]?=some (some (lane,k)))(h:WentTo N S ball lane k v f):wk N.forks f.spots+1<=wk N.forks S.spots:=by
 obtain⟨T,i⟩:=r.ra;rcases h with ⟨l,_,rfl⟩|⟨b,_,d,j,rfl⟩
 ·have:=sD N.forks S.spots ball _ none hb
  have n:wD N.forks none=0:=rfl;have m:1<=wD N.forks (some (lane,k)):=Nat.le_add_right 1 _;show wk N.forks (S.spots.set ball none)+1<=_;lia
 ·have:=sD N.forks S.spots ball _ (some (onT N S ball k,d)) hb
  have on:=i.on lane k (Ya hb) b
  have e:N.forks[k]?=some (yP N k):=by
   unfold yP;rw[J7,J0 b];rfl
  have a:onT N S ball k=(yP N k).1\/onT N S ball k=(yP N k).2:=by
   unfold onT yP;split
   ·exact .inl rfl
   ·exact .inr rfl
  have g:=ji e on a j;show wk N.forks (S.spots.set ball (some (onT N S ball k,d)))+1<=_;lia
theorem mF {N:Nt}{D:Nat}(h:Dpt N D){S:Tst}{lane k:Nat}(nx:IsNext N.forks lane 0 k):wk N.forks (S.spots++[some (lane,k)])<=wk N.forks S.spots+(1+D):=by
 rw[iq,gf nx];have:=h lane;lia
theorem nW:∀ k,k<5->∀ l,l<2 ^ k->lng (yU k).forks l<=10:=by decide +kernel
theorem kh:∀ k,k<5->∀ l,l<2 ^ k->lng (xj k).forks l<=10:=by decide +kernel
theorem pW:∀ k,k<5->∀ l,l<2 ^ k->lng (yk k).forks l<=16:=by decide +kernel
theorem lS {m:Nat}{came:List Nat}(hm:0<m)(x:Nat):x∈x6 m came m↔x / m<came.getD (x%m) 0:=by
 unfold x6;constructor
 ·intro h
  obtain⟨e,a,h⟩:=List.mem_flatMap.mp h;obtain⟨j,b,rfl⟩:=Yj.mp h;rw[JC]at a b;rw[Nat.add_mul_div_left _ _ hm,Nat.div_eq_of_lt a,YA,Wi,ZV a];exact b
 ·intro h
  exact List.mem_flatMap.mpr ⟨x%m,JC.mpr (Nat.mod_lt _ hm),Yj.mpr ⟨x / m,JC.mpr h,Nat.mod_add_div x m⟩⟩
theorem rT {m:Nat}{came:List Nat}:(x6 m came m).Nodup:=by
 unfold x6;rw[YX,List.pairwise_flatMap];refine⟨λe k=>?_,?_⟩
 ·rw[JC]at k
  refine Zc.mpr ((YX.mp Zn).imp λ{a b} c z=>c ?_);exact Nat.eq_of_mul_eq_mul_left (show 0<m by lia) (Nat.add_left_cancel z)
 ·refine List.Pairwise.imp_of_mem (λ{a b} f d c x h y g z=>?_) (YX.mp (Zn (n:=m)))
  obtain⟨i,_,rfl⟩:=Yj.mp h;obtain⟨j,_,rfl⟩:=Yj.mp g;rw[JC]at f d;refine c ?_;have:=Yh (· % m) z
  rwa [Wi,Wi,ZV f,ZV d]at this
theorem jr {n m:Nat}{came:List Nat}(hm:0<m)(h:came.map Int.ofNat=zT (n:Nat) m)(x:Nat):x∈x6 m came m↔x<n:=by
 rw[lS hm]
 have e:((came.getD (x%m) 0:Nat):Int)=(((n:Nat):Int)-((x%m:Nat):Int)+m-1) / (m:Int):=by
  have b:=Nat.mod_lt x hm
  have len:came.length=m:=by
   have a:=Yh List.length h;unfold zT at a
   rwa [Je,Je,Jx]at a
  have:=Yh (λl=>l[x%m]?) h;unfold zT at this;rw[JD,JD,ZF b,J0 (by lia)]at this;rw[J7,J0 (by lia)];exact Jv this
 have c:=Nat.mod_add_div x m;have mp:(0:Int)<(m:Int):=by lia
 have key:(((x / m:Nat):Int)+1<=(((n:Nat):Int)-((x%m:Nat):Int)+m-1) / (m:Int))↔(((x / m:Nat):Int)+1)*m<=((n:Nat):Int)-((x%m:Nat):Int)+m-1:=Int.le_ediv_iff_mul_le mp
 have ex:(((x / m:Nat):Int)+1)*m=((m*(x / m):Nat):Int)+m:=by
  rw[Int.add_mul,Int.one_mul,Int.natCast_mul,Int.mul_comm]
 rw[ex,<- e]at key;constructor
 ·intro z
  have:=key.mp (by lia);lia
 ·intro z
  have:=key.mpr (by lia);lia
theorem qH {n:Nat}{ms:List Nat}(s:ms.Pairwise (·<=·))(nd:ms.Nodup)(h:∀ x,x∈ms↔x<n):ms=List.range n:=by
 have p:ms.Perm (List.range n):=(List.perm_ext_iff_of_nodup nd Zn).mpr λx=>by rw[h,JC]
 exact p.eq_of_pairwise (λa b _ _ x y=>Nat.le_antisymm x y) s (List.pairwise_lt_range.imp Nat.le_of_lt)
theorem jq {n m:Nat}{came ms:List Nat}(hm:0<m)(h:came.map Int.ofNat=zT (n:Nat) m)(p:ms.Perm (x6 m came m))(s:ms.Pairwise (·<=·)):ms=List.range n :=
 qH s (p.nodup_iff.mpr rT) λx=>by rw[p.mem_iff,jr hm h]
theorem Fine.down {N:Nt}{S:Tst}(f:Fine N S){x:Nat}(l1:1<=N.lanes)(a:x∈S.nms)(ge:N.lanes<=x):x-N.lanes∈S.nms:=by
 rw[f.due.mem_iff,lS l1]at a ⊢;have b:(x-N.lanes)%N.lanes=x%N.lanes:=(Nat.mod_eq_sub_mod ge).symm;have e2:(x-N.lanes) / N.lanes+1=x / N.lanes:=(Nat.div_eq_sub_div l1 ge).symm;rw[b];lia
theorem Fine.nodup {N:Nt}{S:Tst}(f:Fine N S):S.nms.Nodup:=f.due.nodup_iff.mpr rT
theorem lY {e:Nat->Nat}:∀ {fs:List Fk}{R:List Nat}{h:Nat->Int},InR fs R->(∀ a∈R,∀ b∈R,e a=e b->a=b)->∀ l∈R,fnF (fs.map λf=>(e f.1,e f.2)) h (e l)=fnF fs (λx=>h (e x)) l
 | [],_,_,_,_,_,_=>rfl
 | f::fs,R,h,i,inj,l,k=>by
  have i2:InR fs R:=λg m=>i g (Jr _ m);obtain⟨o,n⟩:=i f Ju;show fnF (fs.map λf=>(e f.1,e f.2)) (fn1 h (e f.1,e f.2)) (e l)=fnF fs (fn1 (λx=>h (e x)) f) l;rw[lY i2 inj l k];refine xH i2 (λx j=>?_) l k;unfold fn1 yN;show (if e x=e f.1 then _ else if e x=e f.2 then _ else _)=if x=f.1 then _ else if x=f.2 then _ else _;by_cases d:x=f.1
  ·rw[Jb d,Jb (by rw[d])]
  ·rw[Ja d,Ja λz=>d (inj _ j _ o z)]
   by_cases c:x=f.2
   ·rw[Jb c,Jb (by rw[c])]
   ·rw[Ja c,Ja λz=>c (inj _ j _ n z)]
theorem gZ {N:Nt}(ok:N.Ok):InR N.forks (List.range N.lanes):=λf a=>⟨JC.mpr (ok.fk f a).1,JC.mpr (ok.fk f a).2.1⟩
theorem cM {N:Nt}(ok:N.Ok){l:Nat}(h:l∈N.ends):l<N.lanes:=JC.mp (ok.en.mem_iff.mp h)
theorem gw {N:Nt}(ok:N.Ok){cs:List Int}(cl:cs.length=N.lanes):yB N cs=N.ends.map (fnF N.forks λl=>cs.getD l 0):=by
 have:=vF ok λl=>cs.getD l 0
 rwa [fJ cl]at this
theorem jp {N:Nt}(ok:N.Ok)(cs:List Int):(yB N cs).length=N.lanes:=by
 unfold yB;rw[Je,ok.en.length_eq,Jx]
theorem oo {a b:Nt}(c:a.Ok)(d:b.Ok)(f:b.lanes=a.lanes)(fm:a.forks.length+b.forks.length<=128){cs:List Int}(cl:cs.length=a.lanes):yB (yo a b) cs=yB b (yB a cs):=by
 rw[gw (uZ c d f fm) cl]
 have e2:yB a cs=(List.range b.lanes).map λx=>fnF a.forks (λl=>cs.getD l 0) (nmq a.ends x):=by
  rw[gw c cl]
  conv=>lhs;rw[<- vn (p:=a.ends) (n:=b.lanes) (by rw[yi c.en,f])]
  rw[YL];rfl
 rw[e2,vF d];show (b.ends.map (nmq a.ends)).map (fnF (a.forks++b.forks.map (xx a.ends)) _)=_;rw[xL,YL];refine JP λx h=>?_;refine lY (e:=nmq a.ends) (gZ d) (λu j v i z=>?_) x (JC.mpr (cM d h));have g:=JC.mp j;have lv:=JC.mp i;exact qj (vR c.en) (by rw[yi c.en,<- f];exact g) (by rw[yi c.en,<- f];exact lv) z
def csO (lanes:Nat)(ls:List Nat):List Int:=((List.range lanes).map λq=>ls.count q).map Int.ofNat
theorem cS (lanes:Nat)(ls:List Nat):(csO lanes ls).length=lanes:=by unfold csO;rw[Je,Je,Jx]
theorem fU (lanes l:Nat)(ls:List Nat):csO lanes (l::ls)=(List.range lanes).map λq=>((ls.count q:Nat):Int)+if q=l then 1 else 0:=by
 unfold csO;rw[YL];refine JP λq _=>?_;show Int.ofNat ((l::ls).count q)=_;rw[List.count_cons];by_cases z:q=l
 ·rw[Jb z,Jb (by simpa using z.symm)];rfl
 ·rw[Ja z,Ja (by simpa using λe=>z e.symm)]
  show ((ls.count q+0:Nat):Int)=_;lia
theorem lC (g:Nat->Int)(l:Nat):∀ n,((List.range n).map λq=>g q+if q=l then 1 else 0).sum=((List.range n).map g).sum+if l<n then 1 else 0
 | 0=>rfl
 | n+1=>by
  rw[Yk,JF,JF,W0,W0,lC g l n];show _+(g n+(if n=l then 1 else 0)+0)=_+(g n+0)+_;by_cases a:n=l
  ·rw[Jb a,Ja (by lia),Jb (by lia)];lia
  ·rw[Ja a]
   by_cases b:l<n
   ·rw[Jb b,Jb (by lia)];lia
   ·rw[Ja b,Ja (by lia)];lia
theorem kF {lanes:Nat}:∀ {ls:List Nat},(∀ x∈ls,x<lanes)->(csO lanes ls).sum=(ls.length:Nat)
 | [],_=>by
  have:∀ n,(((List.range n).map λq=>([]:List Nat).count q).map Int.ofNat).sum=0:=λn=>by
   induction n with
   | zero=>rfl
   | succ n ih=>rw[Yk,JF,JF,W0,ih];rfl
  exact this lanes
 | l::ls,h=>by
  have ih:=kF (ls:=ls) λx a=>h x (.tail _ a);have e:csO lanes ls=(List.range lanes).map λq=>((ls.count q:Nat):Int):=by unfold csO;rw[YL];rfl
  rw[fU,lC,<- e,ih,Jb (h l (.head _)),JE];lia
def GoodFor (N:Nt)(sm:List Nat):Prop:=∀ ls:List Nat,(∀ x∈ls,x∈sm)->yB N (csO N.lanes ls)=zT (ls.length:Nat) N.lanes
theorem oe {N:Nt}(h:∀ cs:List Int,cs.length=N.lanes->yB N cs=zT cs.sum N.lanes):GoodFor N (List.range N.lanes):=λls a=>by
 rw[h _ (cS _ _),kF λx m=>JC.mp (a x m)]
theorem fQ {lanes:Nat}(h:0<lanes):∀ {ls:List Nat},(∀ x∈ls,x=0)->csO lanes ls=(ls.length:Int)::List.replicate (lanes-1) 0
 | ls,a=>by
  refine List.ext_getElem? λi=>?_;unfold csO;by_cases z:i<lanes
  ·rw[JD,JD,ZF z]
   have e:ls=List.replicate ls.length 0:=List.eq_replicate_iff.mpr ⟨rfl,a⟩
   cases i with
   | zero =>
    show some (Int.ofNat (ls.count 0))=some _
    rw[e,List.count_replicate_self,YY];rfl
   | succ i =>
    rw[List.getElem?_cons_succ,Zi,Jb (by lia)];show some (Int.ofNat (ls.count (i+1)))=some 0;rw[e,List.count_replicate,Ja (by simp)];rfl
  ·rw[List.getElem?_eq_none (by rw[Je,Je,Jx];lia),List.getElem?_eq_none (by rw[JE,YY];lia)]
theorem jh {k:Nat}(h:k<5):GoodFor (zV (xj k)) [0]:=λls a=>by
 have p:(0:Nat)<2 ^ k:=Nat.two_pow_pos k;show yB (zV (xj k)) (csO (2 ^ k) ls)=zT (ls.length:Nat) (2 ^ k);rw[fQ p λx m=>JZ.mp (a x m)];exact nO h _
theorem my {A B:Nt}(a:A.Ok)(c:B.Ok)(e:B.lanes=A.lanes)(fm:A.forks.length+B.forks.length<=128)(h:∀ cs:List Int,cs.length=B.lanes->yB B cs=zT cs.sum B.lanes)(b:(yo A B).Ok):∀ cs:List Int,cs.length=A.lanes->yB (zV (yo A B)) cs=zT cs.sum A.lanes:=λcs cl=>by
 rw[xJ b,oo a c e fm cl,h _ (by rw[jp a,e]),oj a cl,e]
end Bn
namespace L2
open PySem PySem.Spec PyProof.Rows
def eE (f1 f2:Addr)(d c:Sp)(i h:XK)(f:TE)(t:TA):TE:=λσ H Q=>f σ H λg e=>(g=.ref f1/\t σ e λa b=>d (a++[]) b Q i)\/(g=.ref f2/\t σ e λa b=>c (a++[]) b Q h)
theorem cK (o i:Expr)(q:Pos)(as:List Expr)(a:List Keyword)(pos:Pos)(env:Env):eval (.Call (.Subscript o i q) as a pos) env=(do
 let f <- eval (.Subscript o i q) env
 callWith pos f [] (backTo pos (starEach as env)) (backToKw pos (keywordEach a env))):=rfl
theorem jG {X:Cx}{G F:Nat}{f1 f2:Addr}{d1 d2:FuncData}{j f:List Str}{d c:Sp}{M L:XK}{o i e:Expr}{a:List Expr}{q pos:Pos}{C:TE}{t:TA}(R:PE X (.Subscript o i q) C)(U:FnOk X.prog X.w X.K X.mg X.base CX0 G f1 d1 j d)(w:Room G X.A)(y:PySem.W.keepIn X.K (.ref f1)=true)(B:Binds X.K d1 j [])(p:Passes CX0 X M)(T:FnOk X.prog X.w X.K X.mg X.base CX0 F f2 d2 f c)(u:Room F X.A)(x:PySem.W.keepIn X.K (.ref f2)=true)(A:Binds X.K d2 f [])(n:Passes CX0 X L)(ha:PA X (e::a) t)(J:starEach (e::a) X.env=(false,eval e X.env)::starEach a X.env:=by rfl)(k:(backTo pos (starEach a X.env)).any (·.1)=false:=by rfl) :
  PE X (.Call (.Subscript o i q) (e::a) [] pos) (eE f1 f2 d c M L C t):=by
 intro pins s σ H Q I h;rw[cK];refine J6 (thn (R pins s σ H _ I h) λg D ⟨v,K,l,E,alt⟩=>?_);rcases alt with ⟨ev,m⟩|⟨ev,m⟩
 ·subst ev
  obtain rfl:g=.ref f1:=E;exact We (h₀:=X.base) l.ok.mod.kin y (thn (ha pos pins D σ K _ l m) λO P ⟨N,S,b,r,z⟩=>⟨b.kIn,tz U w B .nil p b r z⟩) J k
 ·subst ev
  obtain rfl:g=.ref f2:=E;exact We (h₀:=X.base) l.ok.mod.kin x (thn (ha pos pins D σ K _ l m) λO P ⟨N,S,b,r,z⟩=>⟨b.kIn,tz T u A .nil n b r z⟩) J k
section
variable {κ:Type}[DecidableEq κ]
def uq (kvs:List (κ × V))(k:κ)(v:V):List (κ × V) :=
 if (kvs.any λa=>decide (a.1=k))=true then kvs.map (λa=>if a.1=k then (a.1,v) else a) else kvs++[(k,v)]
theorem oU (kvs:List (κ × V))(k:κ)(v:V):(uq kvs k v).length<=kvs.length+1:=by
 unfold uq;split
 ·rw[Je];lia
 ·rw[Jj,JE,Zv];simp_all
theorem KV.any {kvs:List (κ × V)}{vs:List (κ × Value)}(r:KV kvs vs)(k:κ):(kvs.any λa=>decide (a.1=k))=vs.any λa=>decide (a.1=k):=by
 unfold KV at r
 induction r with
 | nil=>rfl
 | cons h t ih=>rw[List.any_cons,List.any_cons,ih,h.1]
theorem KV.repl {kvs:List (κ × V)}{vs:List (κ × Value)}(r:KV kvs vs)(k:κ){y:V}{u:Value}(c:RelV y u) :
  KV (kvs.map λa=>if a.1=k then (a.1,y) else a) (vs.map λa=>if a.1=k then (a.1,u) else a):=by
 unfold KV at r ⊢
 induction r with
 | nil=>exact .nil
 | @cons p q g f h t ih =>
  rw[Y5,Y5];refine .cons ?_ ih;obtain⟨b,d⟩:=h;by_cases e:p.1=k
  ·rw[Jb e,Jb (b.symm.trans e)];exact⟨b,c⟩
  ·rw[Ja e,Ja (λz=>e (b.trans z))];exact⟨b,d⟩
theorem KV.put {kvs:List (κ × V)}{vs:List (κ × Value)}(r:KV kvs vs)(k:κ){y:V}{u:Value}(a:RelV y u):KV (uq kvs k y) (stored vs k u):=by
 unfold uq stored;rw[r.any k];by_cases e:(vs.any λb=>decide (b.1=k))=true
 ·rw[Jb e,Jb e];exact r.repl k a
 ·rw[Ja e,Ja e];exact Paired.snoc r ⟨rfl,a⟩
theorem KV.length {kvs:List (κ × V)}{vs:List (κ × Value)}(r:KV kvs vs):kvs.length=vs.length:=Paired.length r
end
theorem zad {P:Program}{w:World}{k:Key}{u:Value}(r:RelV (kV k) u):(xK P w).is k u=true:=by
 cases k with
 | inl i=>obtain⟨t,e⟩:=(show ∃ t,u=Value.int i t from r);subst e;exact oM P w i t
 | inr x=>obtain⟨t,e⟩:=(show ∃ t,u=Value.str x t from r);subst e;exact oK P w x t
section
variable {P:Program}{w:World}{H:Hp}{h:Heap}{a:Addr}
theorem ai {u:HO}(ok:HOk P w H h)(e:Rd H a u):ObjOk P w H h a u:=e.ok ok
theorem zan {kvs:List (Key × V)}(ok:HOk P w H h)(e:Rd H a (.dK kvs)):kvs.length<=sizeLine/\(a == sysModules)=false/\∃ vs,KV kvs vs/\h.DictOf (xK P w) a vs :=
 show ObjOk P w H h a (.dK kvs) from ai ok e
theorem zao {kvs:List (Key × V)}(ok:HOk P w H h)(e:H a=some (.dK kvs)):kvs.length<=sizeLine/\(a == sysModules)=false/\∃ vs,KV kvs vs/\h.DictOf (xK P w) a vs:=zan ok (.inl e)
end
section
variable {a:Addr}
theorem aH {P:Program}{w:World}{H':Hp}{h':Heap}{kvs:List (Key × V)}{vs:List (Key × Value)}(z:kvs.length<=sizeLine)(hd:(a == sysModules)=false)(rel:KV kvs vs)(b:h'.DictOf (xK P w) a vs) :
  ObjOk P w H' h' a (.dK kvs):=⟨z,hd,vs,rel,b⟩
end
def wp (kvs more:List (Key × V)):List (Key × V):=more.foldl (λacc a=>uq acc a.1 a.2) kvs
theorem KV.merge:∀ {more:List (Key × V)}{rs:List (Key × Value)}{kvs:List (Key × V)}{vs:List (Key × Value)},KV more rs->KV kvs vs->KV (wp kvs more) (merged vs rs):=by
 intro more rs kvs vs r;unfold KV at r
 induction r generalizing kvs vs with
 | nil=>intro q;exact q
 | @cons p q c b h t ih =>
  intro a
  have e:KV (uq kvs p.1 p.2) (stored vs q.1 q.2):=by
   have:=a.put p.1 h.2;rw[<- h.1];exact this
  exact ih e
theorem vM:∀ (more kvs:List (Key × V)),(wp kvs more).length<=kvs.length+more.length
 | [],kvs=>by show kvs.length<=kvs.length+0;simp_all
 | p::r,kvs=>by
  have b:=vM r (uq kvs p.1 p.2);have a:=oU kvs p.1 p.2;show (wp (uq kvs p.1 p.2) r).length<=_;rw[JE];lia
structure M1 (X:Cx) (o:Expr) (m:Str) (apos:Pos) (e:Expr) (cpos:Pos):Prop where
 base:attributeBase o m X.env (eval o X.env)=eval o X.env
 few:((backTo cpos (starEach [e] X.env)).all (λx=>!x.1) && (backToKw cpos (keywordEach [] X.env)).all (λx=>x.1.isSome)
  && decide (([e]:List Expr).length+([]:List Keyword).length+(if ([]:List Keyword).isEmpty then 0 else 1)<30))=true
 line:(apos.endLine == cpos.line)=true
 trees:backTo cpos (starEach [e] X.env)=[(false,eval e X.env)]
structure M2 (X:Cx) (o:Expr) (m:Str) (apos:Pos) (e f:Expr) (cpos:Pos):Prop where
 base:attributeBase o m X.env (eval o X.env)=eval o X.env
 few:((backTo cpos (starEach [e,f] X.env)).all (λx=>!x.1) && (backToKw cpos (keywordEach [] X.env)).all (λx=>x.1.isSome)
  && decide (([e,f]:List Expr).length+([]:List Keyword).length+(if ([]:List Keyword).isEmpty then 0 else 1)<30))=true
 line:(apos.endLine == cpos.line)=true
 trees:backTo cpos (starEach [e,f] X.env)=[(false,eval e X.env),(false,eval f X.env)]
end L2
namespace L2
open PySem PySem.Spec PyProof.Rows Own
abbrev KI:=Int ⊕ List Int
abbrev KN:=List KI
variable {prog:Program}{w:World}
def dI:KI->PyData
 | .inl i=>.int i
 | .inr xs=>.tuple (xs.map PyData.int)
def dN (a:KN):PyData:=.tuple (a.map dI)
variable (prog w)
end L2
namespace Own
open PySem PySem.Spec PyProof.Rows
theorem qk:typeLookup (.type "list") "keys" = pure none:=by
 exact(by rw[typeLookup_type,builtinLookup_eq_fast];kernel_rfl)
theorem qo:typeLookup (.type "list") "__getattr__" = pure none:=by
 exact(by rw[typeLookup_type,builtinLookup_eq_fast];kernel_rfl)
section
variable {prog:Program}{w:World}{A:Around}{E:Value->Shared->Prop}{s:Shared}{l:Addr}{its:Array Value}{n:Nat}
theorem mW {u:Tok}{Q:Fin->Shared->Prop}(c:s.heap.get? l=some { cls:=.type "list",data:=.seq its n }) (f:A.handled=none)
  (h:∀ b a e,Heap.NewAttrErr s.heap b e (.ref l) "keys"->E (.ref e) { s with heap:=b,toks:=a }) :
  wpAny (model prog w) A (Builtin.«object.__getattribute__» ⟨[.ref l,.str "keys" u],[]⟩) Q E s:=by
 obtain⟨d,g,i,a,os⟩:=s;have ty:(⟨d,g,i,a,os⟩:Shared).TypeIs (.ref l) "list":=⟨_,c,rfl⟩;have j:=qk;unfold Builtin.«object.__getattribute__»
 repeat any_goals (first|assumption|wp_step)
 repeat any_goals (first|assumption|wp_step)
 exact wpAny_raiseAttrError f h (attrMsg_fits (by decide +kernel) (by size_fits))
theorem jW {u:Tok}{R:Result->Shared->Prop}(a:s.heap.get? l=some { cls:=.type "list",data:=.seq its n }) (d:A.handled=none)
  (h:∀ b c e,Heap.NewAttrErr s.heap b e (.ref l) "keys"->R (.error (.ref e)) { s with heap:=b,toks:=c }) :
  codeAny (model prog w) A (.call (.builtin "list.__getattribute__") ⟨[.ref l,.str "keys" u],[]⟩) R s :=
 codeAny_call_builtin F.slot_list_getattribute.plain F.entry_list_ga (F.slot_list_getattribute.check _ _ _ _ _ _ _ _ (show s.TypeIs (.ref l) "list" from⟨_,a,rfl⟩) (F.args_list_getattribute_2 _ _) (mW (A:=A.in1) a d h))
theorem jT {Q:Option Value->Shared->Prop}(f:s.heap.get? l=some { cls:=.type "list",data:=.seq its n }) (m:A.handled=none)
  (h:∀ a d,(∀ b o,s.heap.get? b=some o->a.get? b=some o)->Q none { s with heap:=a,toks:=d }) :
  wpAny (model prog w) A (getAttr? (.ref l) "keys") Q E s:=by
 obtain⟨j,g,i,d,os⟩:=s;have ty:(⟨j,g,i,d,os⟩:Shared).TypeIs (.ref l) "list":=⟨_,f,rfl⟩;have x:=sub_AttributeError;have t:=F.slot_list_getattribute.lookup;have v:=F.slot_list_getattribute.bind (.ref l);have u:=qo;unfold getAttr? getAttrBy? getAttrBy
 repeat any_goals (first|assumption|wp_step)
 refine jW f m λa c e ne=>?_;obtain⟨r,p,k⟩:=ne.there;have q:({ heap:=a,gens:=g,drawn:=i,toks:=c,os:=os }:Shared).TypeIs (.ref e) "AttributeError":=⟨_,k,rfl⟩;dsimp only;unfold getattributeRaised
 repeat any_goals (first|assumption|wp_step)
 exact h a c ne.keeps
end
theorem ww:entryFor table "dict.update.loop" = some Builtin.«dict.update.loop»:=entryFor_of_fast (by kernel_rfl)
theorem xA:plainId "dict.update.loop" = true:=by decide +kernel
section
variable {prog:Program}{w:World}{K:Type}[DecidableEq K]{knd:KeyKind prog w K}{A:Around}{E:Value->Shared->Prop}{d it l:Addr}{its:Array Value}{ps:List (K × Value)}{res:Value}
def PairsIn (knd:KeyKind prog w K)(h:Heap)(its:Array Value)(ps:List (K × Value)):Prop :=
 its.size=ps.length/\∀ (i:Nat) (x:Value),its[i]?=some x->∃ t key v k ob m,x=.ref t/\h.get? t=some ob/\ob.cls=.type "tuple"/\ob.data=.seq #[key,v] m/\knd.is k key=true/\ps[i]?=some (k,v)
theorem PairsIn.keep {h h':Heap}(p:PairsIn knd h its ps) (f:∀ b o,o.cls=.type "tuple"->h.get? b=some o->h'.get? b=some o):PairsIn knd h' its ps :=
 ⟨p.1,λi x e=>let ⟨t,key,v,k,ob,m,d,e2,a,c⟩:=p.2 i x e;⟨t,key,v,k,ob,m,d,f t ob a e2,a,c⟩⟩
theorem nQ (kvs:List (K × Value))(k:K)(v:Value):(stored kvs k v).length<=kvs.length+1:=by
 unfold stored;split
 ·rw[Je];lia
 ·rw[Jj];exact Jf _
theorem mH {R:Result->Shared->Prop}(hh:A.handled=none):∀ (m i:Nat) (s:Shared) (kvs:List (K × Value)),i+m=its.size->s.heap.IsListIter it l i->s.heap.IsList l its->s.heap.DictOf knd d kvs->PairsIn knd s.heap its ps->it≠d->kvs.length+m<=sizeLine ->
  (∀ h' I,h'.DictOf knd d (merged kvs (ps.drop i))->(∀ b o,b≠d->b≠it->s.heap.get? b=some o->h'.get? b=some o)->R (.ok (.ret res)) { s with heap:=h',toks:=I }) ->
  codeAny (model prog w) A (.builtin "dict.update.loop" ⟨[.ref d,.ref it,rawInt (i:Int),res],[]⟩) R s:=by
 intro m
 induction m with
 | zero =>
  intro i s kvs im hit n p h ne hz fin;refine YQ ww ?_;rw[YM xA];show wpAny _ A.in1 (pyNext (Value.ref it) >>= _) _ _ _;refine J6 (wpAny_pyNext_list_end (A:=A.in1) hh hit n (Array.getElem?_eq_none (by simp_all)) λh' E=>?_);refine J6 (Jm (Jm (fin h' s.toks ?_ λb o _ nb e=>E b o nb e)));rw[List.drop_eq_nil_of_le (by rw[<- h.1];simp_all)]
  exact p.extBut E (Ne.symm ne)
 | succ m ih =>
  intro i s kvs im hit n p h ne hz fin;obtain⟨x,ex⟩:∃ x,its[i]?=some x:=⟨_,getElem?_pos its i (by lia)⟩;obtain⟨t,key,v,k,ob,mm,rfl,J,ct,dt,hk,T⟩:=h.2 i x ex;refine YQ ww ?_;rw[YM xA];show wpAny _ A.in1 (pyNext (Value.ref it) >>= _) _ _ _;refine J6 (wpAny_pyNext_list_item (A:=A.in1) hit n ex λV D f=>?_)
  have nt:t≠it:=by
   rintro rfl;obtain⟨o,e,c,_⟩:=hit;rw[J]at e;obtain rfl:=Jv e;rw[ct]at c;exact absurd (Value.type.inj c) (by decide)
  have nd:t≠d:=by
   rintro rfl;obtain⟨o,W,X,e,_,a,_⟩:=p;rw[J]at e;obtain rfl:=Jv e;rw[dt]at a;cases a
  have nl:l≠it:=by
   rintro rfl;obtain⟨o,e,c,_⟩:=hit;obtain⟨o',L,c',_⟩:=n;rw[L]at e;obtain rfl:=Jv e;rw[c']at c;exact absurd (Value.type.inj c) (by decide)
  have N:l≠d:=by
   rintro rfl;obtain⟨o',L,c',n',M⟩:=n;obtain⟨o,W,X,e,_,a,_⟩:=p;rw[L]at e;obtain rfl:=Jv e;rw[M]at a;cases a
  have z:V.get? t=some ob:=(f.2 t nt).trans J;have ty:({ s with heap:=V }:Shared).TypeIs (.ref t) "tuple":=⟨ob,z,ct⟩;have S:=p.sameBut f (Ne.symm ne);refine J6 (Yx (J6 (wpAny_tryCatch ?_)));unfold Builtin.Dict.pairItems;refine J6 (wpAny_typeOf ty ?_);rw[Jb (by decide)];refine J6 (Yf z dt (Jm ?_));refine Yx (wpAny_dictSet_pairs hk S (λF Q q=>?_) (by lia));refine Jm ⟨Wm xA _,?_⟩;have g:∀ b o,b≠d->b≠it->s.heap.get? b=some o->F.get? b=some o:=λb o H G e=>(q.2 b H).trans ((f.2 b G).trans e);have sl:=nQ kvs k v
  have C:F.IsListIter it l (i+1):=by
   obtain⟨o,e,r⟩:=D;exact⟨o,(q.2 it ne).trans e,r⟩
  have P:F.IsList l its:=by
   obtain⟨o,e,r⟩:=n;exact⟨o,g l o N nl e,r⟩
  have O:PairsIn knd F its ps:=⟨h.1,λj y ey=>by
   obtain⟨U,B,v',k',u,m',e1,e2,Z,Y,e5⟩:=h.2 j y ey;refine⟨U,B,v',k',u,m',e1,g U u ?_ ?_ e2,Z,Y,e5⟩
   ·rintro rfl
    obtain⟨o,W,X,e,_,a,_⟩:=p;rw[e2]at e;obtain rfl:=Jv e;rw[Y]at a;cases a
   ·rintro rfl
    obtain⟨o,e,c,_⟩:=hit;rw[e2]at e;obtain rfl:=Jv e
    rw[Z]at c;exact absurd (Value.type.inj c) (by decide)⟩
  have eq:rawInt ((i:Int)+1)=rawInt (((i+1:Nat):Int)):=rfl;refine ih (i+1) _ (stored kvs k v) (by lia) C P Q O ne (by lia) λh' I M E=>fin h' I ?_ λb o H G e=>E b o H G (g b o H G e);have il:i<ps.length:=by rw[<- h.1];lia
  rw[Yn il,show ps[i]=(k,v) from (J9.mp T).2];exact M
theorem mj {s:Shared}{n:Nat}{Q:Value->Shared->Prop}(q:A.handled=none) (y:s.heap.get? l=some { cls:=.type "list",data:=.seq its n }) (x:PairsIn knd s.heap its ps) (v:its.size<=sizeLine)
  (h:∀ f k,f.DictOf knd s.heap.objs.size (merged [] ps)->(∀ b o,s.heap.get? b=some o->f.get? b=some o)->Q (.ref s.heap.objs.size) { s with heap:=f,toks:=k }) :
  wpAny (model prog w) A (call (.type "dict") [.ref l]) Q E s:=by
 refine callType_codes (Q₁:=λob p=>ob=.ref s.heap.objs.size/\p={ s with heap:=s.heap.push { cls:=.type "dict",data:=.dict #[] } }) F.kt_called_dict (F.kt_typeCall_dict_1 _) F.entry_dict_init (kt_code_dict_new _ ⟨rfl,rfl⟩) ?_;rintro ob p ⟨rfl,rfl⟩;have nw:(s.heap.push { cls:=.type "dict",data:=.dict #[] }).DictOf knd s.heap.objs.size []:=Heap.DictOf.new s.heap;have d:=J8 ({ cls:=.type "dict",data:=.dict #[] }:Obj) y;have t:({ s with heap:=s.heap.push { cls:=.type "dict",data:=.dict #[] } }:Shared).TypeIs (.ref l) "list":=⟨_,d,rfl⟩;refine⟨nw.typeIs,F.args_dict_init_2 _ _,?_⟩;unfold Builtin.«dict.__init__» Builtin.Dict.selfAndRest;refine J6 (J6 (wpAny_notOrdered_dict nw.typeIs (Jm ?_)));show wpAny _ _ (Builtin.Dict.updateFrom "dict.__init__" s.heap.objs.size (Value.ref l) [] Value.none) _ _ _;unfold Builtin.Dict.updateFrom;refine J6 (wpAny_typeOf t ?_);rw[Jb (by decide)];refine J6 (jT d q λj m c=>?_);rw[Jb (by rfl)];refine J6 (Zq ?_);have g:=c _ _ d;refine J6 (wpAny_pyIter_list ⟨_,g,rfl,_,rfl⟩ ?_);refine Jm ⟨Wm xA _,?_⟩;have a:∀ b o,(s.heap.push { cls:=.type "dict",data:=.dict #[] }).get? b=some o->(j.push ({ cls:=.type "list_iterator",data:=.fields #[.ref l,.int 0 0] }:Obj)).get? b=some o:=λb o e=>J8 _ (c b o e)
 have dl:s.heap.objs.size<j.objs.size:=by
  obtain⟨o,_,_,e,_⟩:=nw;exact Jc (c _ _ e)
 refine mH (A:=A.in1) (R:=wants (λr i=>r=Value.none/\Q (.ref s.heap.objs.size) i) E) (knd:=knd) (it:=j.objs.size) (ps:=ps) (l:=l) (its:=its) q its.size 0 { s with heap:=j.push { cls:=.type "list_iterator",data:=.fields #[.ref l,.int 0 0] },toks:=m } [] (by lia) ⟨_,Jw _ rfl,rfl,rfl⟩ ⟨_,J8 _ g,rfl,_,rfl⟩ (nw.keep a) (x.keep λb o _ e=>a b o (J8 _ e)) (JV dl) (by simpa using v) λf k z u=>⟨rfl,h f k z λb o e=>?_⟩;have bl:=Jc e;exact u b o (JH bl) (JH (Zb bl dl)) (a b o (J8 _ e))
end
end Own
namespace L2
open PySem PySem.Spec PyProof.Rows Own
def PrK (H:Hp)(b:List V)(kvs:List (Key × V)):Prop:=b.length=kvs.length/\∀ (i:Nat) t,b[i]?=some t->∃ a k v,t=.ref a/\kvs[i]?=some (k,v)/\H a=some (.tup [kV k,v])
section
variable {X:Cx}{pins:List (Addr × Obj)}{σ:St}{H:Hp}{s:Shared}{A:Around}{E:Value->Shared->Prop}
theorem pZ (I:Inv X pins σ H s):∀ {c:List V}{kvs:List (Key × V)}{its:List Value},Vals c its->PrK H c kvs->∃ ps,KV kvs ps/\its.length=ps.length/\∀ (i:Nat) (x:Value),its[i]?=some x->∃ t key v k ob m,x=.ref t/\s.heap.get? t=some ob/\ob.cls=.type "tuple"/\ob.data=.seq #[key,v] m/\(xK X.prog X.w).is k key=true/\ps[i]?=some (k,v)
 | [],[],_,.nil,_=>⟨[],.nil,rfl,λi x e=>by simp at e⟩
 | [],_::_,_,_,h=>by have:=h.1;simp at this
 | _::_,[],_,_,h=>by have:=h.1;simp at this
 | t::c,kv::kvs,_,.cons (b:=u) r rs,h=>by
  obtain⟨ps,rel,len,n⟩:=pZ I rs ⟨by have:=h.1;simpa using this,λi f e=>by
   have:=h.2 (i+1) f (by simpa using e)
   simpa using this⟩
  obtain⟨a,k,v,rfl,e2,p⟩:=h.2 0 t rfl;obtain rfl:kv=(k,v):=by simpa using e2
  cases r;obtain⟨d,g,⟨o,q,co,m,w⟩,_⟩:=I.tuple (SqT.of (K:=X.K) p);obtain⟨x,y,rfl,l,j⟩:=j4 g;refine⟨(k,y)::ps,.cons ⟨rfl,j⟩ rel,by simp[len],λi z e=>?_⟩
  cases i with
  | zero =>
   obtain rfl:Value.ref a=z:=by simpa using e
   exact⟨a,x,y,k,o,m,rfl,q,co,w,zad l,rfl⟩
  | succ i=>exact n i z (by simpa using e)
theorem cQ {l:Addr}{b:List V}{kvs:List (Key × V)}{Q:Value->Shared->Prop}(j:A.handled=none)(I:Inv X pins σ H s)(e:H l=some (.lst b))(p:PrK H b kvs)(h:∀ q c,H q=none->Inv X pins σ (upd H q (.dK (wp [] kvs))) c->Q (.ref q) c):wpAny (model X.prog X.w) A (call (.type "dict") [.ref l]) Q E s:=by
 obtain⟨z,o,n,r,k⟩:=I.hok _ _ e;obtain⟨ps,rel,len,g⟩:=pZ I r p;have t:kvs.length<=sizeLine:=by rw[<- p.1];exact z
 refine mj (knd:=xK X.prog X.w) (ps:=ps) j k ⟨by simpa using len,λi x ex=>g i x (by simpa using ex)⟩ (by rw[Jd,<- r.length];exact z) λu d m f=>?_;refine h _ _ (I.hok.fresh (Jf _)) (I.laid (a:=s.heap.objs.size) (t':=d) f (Jf _) (aH ?_ (W7.mpr (Ne.symm (JH I.big))) (rel.merge .nil) m));have:=vM kvs [];simp at this;lia
end
def eQ:List V->Hp->VK->Prop:=λc H Q=>∃ l b a,c=[.ref l]/\H l=some (.lst b)/\PrK H b a/\∀ q,H q=none->Q (.ref q) (upd H q (.dK (wp [] a)))
section
variable {X:Cx}
theorem mo (hc:X.calm=true):CallR X (.type "dict") eQ:=by
 intro pins s σ H f g Q I r h;obtain⟨l,i,e,rfl,c,p,q⟩:=h;obtain⟨u,rfl,a⟩:=tK r;obtain rfl:u=Value.ref l:=a;exact cQ (I.ok.hd hc) I c p λx j b d=>⟨.ref x,_,d,rfl,q x b⟩
end
structure MgD (mg:Str->Option Value):Prop where
 dict:mg "dict" = none
end L2
namespace L2
open PySem PySem.Spec PyProof.Rows Own
abbrev KVN:=List (KN × Addr × V)
end L2
namespace L2
open PySem PySem.Spec PyProof.Rows Own
section
def le2 (p q p' a:Int):Prop:=p<p'\/p=p'/\q<=a
end
def zaq:List Int->List Int->Ordering
 | [],[]=>.eq
 | [],_::_=>.lt
 | _::_,[]=>.gt
 | a::x,b::y=>(compare a b).then (zaq x y)
def za4 (x y:List Int):List Int:=if zaq y x=.lt then y else x
end L2
namespace Bn
open PySem L2 Own
def part (m:Int)(lane k:Nat):List Grp:=if m=0 then [] else [⟨m,lane,k⟩]
end Bn
namespace Bn
open PySem L2 Own
abbrev Sn:=List Int × List Grp × List Int
abbrev Sn.none (N:Nt):Sn:=(List.replicate N.forks.length 0,[],List.replicate N.lanes 0)
end Bn
namespace L2
open PySem PySem.Spec PyProof.Rows Own
structure Lam where
 params:Arguments
 body:Expr
 scope:Scope
 qual:Str
def back (cl:List (Str × Addr))(H H':Hp):Hp:=λb=>if b∈cl.map (·.2) then H b else H' b
abbrev LSpc:=List V->List V->Hp->VK->XK->Prop
abbrev LvL:=List (KN × List Int)
def aD (ps:LvL)(k:KN):Option (List Int):=(ps.find? λx=>decide (x.1=k)).map (·.2)
def za1 (ps:LvL)(k:KN)(c:List Int):LvL:=if (aD ps k).isSome then ps.map λx=>if x.1=k then (x.1,c) else x else ps++[(k,c)]
def bZ (c:List Int)(m:Nat):List Int:=Bn.zax c m 1
structure LAcc where
 on:LvL
 fl:List (List Int)
section
variable (step:KN->Nat->Option KN)(seen:LvL)
def go1 (s:KN)(c:List Int)(a:LAcc)(m:Nat):LAcc :=
 match step s m with
 | none=>⟨a.on,a.fl++[bZ c m]⟩
 | some t=>if (aD seen t).isSome then a else ⟨za1 a.on t (za4 (bZ c m) ((aD a.on t).getD (bZ c m))),a.fl⟩
end
end L2
namespace L2
open PySem PySem.Spec PyProof.Rows Own Bn
theorem lG {a u:TS}{D:Ends}{σ:St}{H:Hp}(I:St->Hp->Prop)(key:∀ σ H,I σ H->u D σ H)(h:∀ b:Ends,(∀ σ H,I σ H->b.nx σ H)->b.rt=D.rt->a b σ H):pO a u D σ H:=h { D with nx:=u D } key rfl
theorem zak {i:Nat}{v:V}{σ:St}{H:Hp}{a u:TS}{D:Ends}(R:VK)(h:pO a u D (σ.set i (some v)) H):(λx b=>wt i x σ b ({ nx:=pO a u D,rt:=R }:Ends).nx) v H:=h
end L2
namespace K89
open PySem L2 Own Bn
abbrev iV:Stmt:=top 36
theorem bg {a u:TS}{D:Ends}{R:VK}{σ:St}{H:Hp}(h:pO a u D σ H):cY ({ nx:=pO a u D,rt:=R }:Ends) σ H:=h
structure CaseAt (H:Hp) (l c:Addr) (N:Nt) (sm:List Nat) (right:Bool) (r fr er:Addr) (ps:List V) (ls:Addr):Prop where
 tup:H c=some (.tup [.ref r,.ref ls,.bl right])
 ok:Nt.Ok N
 net:NetAt H r fr er ps N
 lst:H ls=some (.lst (zJ sm))
 ne:ls≠l
 s1:1<=sm.length
 s16:sm.length<=16
 lt:∀ x∈sm,x<N.lanes
 dpt:Dpt N 30
 good:right=true->GoodFor N sm
def nj:Sp:=λb H Q _=>∃ (l:Addr) (n:Nat),b=[.ref l]/\StAt H l n/\n<2 ^ 58/\∀ c N d right r fr f e ls a,CaseAt a l c N d right r fr f e ls->StAt a l (n+600)->But l H a->Q (.ref c) a
section
variable {P:Program}{w:World}{K:PySem.W.Frag}{mg:Str->Option Value}{base:Heap}
theorem iP:FnScope ["_law_state","_law_way","_law_k","_law_net_here","_law_ahead"] ["_law_state"] (zP iV):=by trivial
theorem de {f fK fN fT fS fR fB:Addr}{fd dK dN dT dS dR dB:FuncData}(F:Fun K "_law_case" "_law_case" iV f fd) (G:Mgs mg) (Z:Use P w K mg base "_law_take" ["_law_state","_law_many"] 1 (tQ K) fK dK) (Y:Use P w K mg base "_law_net" ["_law_state","_law_lanes_most","_law_forks_most"] 2 iJ fN dN) (UT:Use P w K mg base "tree" ["k"] 7 nZ fT dT) (US:Use P w K mg base "stairway" ["k"] 12 vO fS dS)
  (UR:Use P w K mg base "rounds" ["k"] 6 tU fR dR) (UB:Use P w K mg base "behind" ["one","other"] 3 tX fB dB):FnOk P w K mg base CX0 13 f fd ["_law_state"] nj:=by
 refine F.ok iP (λvs H Q E h=>?_) (λb7 A outer s H vs Q E hr h=>?_)
 ·obtain⟨l,n,rfl,_⟩:=h
  rfl
 obtain⟨l,n,rfl,S0,hn,q⟩:=h;have a6:Room 1 _:=hr.mono (by decide);have a5:Room 2 _:=hr.mono (by decide);have bx:Room 3 _:=hr.mono (by decide);have bo:Room 6 _:=hr.mono (by decide);have bl:Room 7 _:=hr.mono (by decide);refine⟨_,(@zD _ _ _ _ _ (@mE _ _ 1 2 _ _ _ _ _ _ _ _ _ _ _ rfl iP.nd rfl rfl (by decide) rfl rfl (@zA _ _ _ _ _ (@zQ _ _ _ _ _ _ _ _ _ _ _ _ _ _ _ _ Z.ok a6 (by rfl) Z.m Z.kp Z.b .nil zZ (@zA _ _ _ _ _ (@qv _ 0 _ _ (by trivial)) (@zA _ _ _ _ _ zE zB (by rfl)) (by rfl)) (by decide) (by rfl) (by rfl)) (@zA _ _ _ _ _ (@zQ _ _ _ _ _ _ _ _ _ _ _ _ _ _ _ _ Z.ok a6 (by rfl) Z.m Z.kp Z.b .nil zZ (@zA _ _ _ _ _ (@qv _ 0 _ _ (by trivial)) (@zA _ _ _ _ _ zE zB (by rfl)) (by rfl)) (by decide) (by rfl) (by rfl)) zB (by rfl)) (by rfl)) (by rfl) (by rfl)) (@zD _ _ _ _ _ (@yu _ _ _ _ _ _ _ _ (@zu _ _ _ _ _ _ _ _ vL (@qv _ 1 _ _ (by trivial)) zE (yE _)) (@zD _ _ _ _ _ (@zr _ _ 3 _ _ _ _ iP.nd rfl (.inl rfl) (@zQ _ _ _ _ _ _ _ _ _ _ _ _ _ _ _ _ Y.ok a5 (by rfl) Y.m Y.kp Y.b .nil zZ (@zA _ _ _ _ _ (@qv _ 0 _ _ (by trivial)) (@zA _ _ _ _ _ zE (@zA _ _ _ _ _ zE zB (by rfl)) (by rfl)) (by rfl)) (by decide) (by rfl) (by rfl)) (by rfl) (by trivial)) (@zL _ _ _ (@zj _ _ _ _ (@yM _ _ _ _ _ (@zA _ _ _ _ _ (@qv _ 3 _ _ (by trivial)) (@zA _ _ _ _ _ (@wM _ _ _ _ _ _ _ rfl (by rfl) G.list (by rfl) G.range (@zA _ _ _ _ _ (@zt _ _ _ _ _ _ _ yJ (@qv _ 3 _ _ (by trivial)) zE (λ_ _=>rfl)) zB (by rfl)) (by rfl) (by rfl)) (@zA _ _ _ _ _ vK zB (by rfl)) (by rfl)) (by rfl)))))) yO) (@zD _ _ _ _ _ (@yu _ _ _ _ _ _ _ _ (@zu _ _ _ _ _ _ _ _ vL (@qv _ 1 _ _ (by trivial)) zE (yE _)) (@zL _ _ _ (@zj _ _ _ _ (@yM _ _ _ _ _ (@zA _ _ _ _ _ (@zQ _ _ _ _ _ _ _ _ _ _ _ _ _ _ _ _ UT.ok bl (by rfl) UT.m UT.kp UT.b .nil zZ (@zA _ _ _ _ _ (@qv _ 2 _ _ (by trivial)) zB (by rfl)) (by decide) (by rfl) (by rfl)) (@zA _ _ _ _ _ (@yS _ _ _ _ (@zA _ _ _ _ _ zE zB (by rfl))) (@zA _ _ _ _ _ vK zB (by rfl)) (by rfl)) (by rfl))))) yO) (@zD _ _ _ _ _ (@zr _ _ 3 _ _ _ _ iP.nd rfl (.inl rfl) (@jG _ _ _ _ _ _ _ _ _ _ _ _ _ _ _ _ _ _ _ _ _ (@zt _ _ _ _ _ _ _ zy (@yS _ _ _ _ (@zA _ _ _ _ _ (@qe _ _ (.ref _) _ _ (by rfl) US.m rfl (by decide)) (@zA _ _ _ _ _ (@qe _ _ (.ref _) _ _ (by rfl) UR.m rfl (by decide)) (@zA _ _ _ _ _ (@qe _ _ (.ref _) _ _ (by rfl) US.m rfl (by decide)) zB (by rfl)) (by rfl)) (by rfl))) (@qv _ 1 _ _ (by trivial)) (λ_ _=>rfl)) US.ok hr US.kp US.b zZ UR.ok bo UR.kp UR.b zZ (@zA _ _ _ _ _ (@zp _ _ _ _ _ _ _ _ _ (uX rfl) (by rfl) G.min (by rfl) (@zA _ _ _ _ _ (@qv _ 2 _ _ (by trivial)) (@zA _ _ _ _ _ (@zU _ _ _ _ _ _ _ _ ya zE (@yA _ _ _ _ _ _ _ _ _ uY (by rfl) G.int (by rfl) (@zA _ _ _ _ _ (@uz _ _ _ _ _ _ _ _ ar (@qv _ 1 _ _ (by trivial)) zE (yE _)) zB (by rfl)) (by decide) (by decide) (by rfl) (by rfl))) zB (by rfl)) (by rfl)) (by decide) (by decide) (by rfl) (by rfl)) zB (by rfl)) (by rfl) (by rfl)) (by rfl) (by trivial)) (@zD _ _ _ _ _ (@yu _ _ _ _ _ _ _ _ (@zu _ _ _ _ _ _ _ _ vL (@qv _ 1 _ _ (by trivial)) zE (yE _)) (@zD _ _ _ _ _ (@zr _ _ 4 _ _ _ _ iP.nd rfl (.inl rfl) (@zQ _ _ _ _ _ _ _ _ _ _ _ _ _ _ _ _ Y.ok a5 (by rfl) Y.m Y.kp Y.b .nil zZ (@zA _ _ _ _ _ (@qv _ 0 _ _ (by trivial)) (@zA _ _ _ _ _ (@zt _ _ _ _ _ _ _ yJ (@qv _ 3 _ _ (by trivial)) zE (λ_ _=>rfl)) (@zA _ _ _ _ _ zE zB (by rfl)) (by rfl)) (by rfl)) (by decide) (by rfl) (by rfl)) (by rfl) (by trivial)) (@zL _ _ _ (@yu _ _ _ _ _ _ _ _ (@zu _ _ _ _ _ _ _ _ vL (@zt _ _ _ _ _ _ _ yJ (@qv _ 4 _ _ (by trivial)) zE (λ_ _=>rfl)) (@zt _ _ _ _ _ _ _ yJ (@qv _ 3 _ _ (by trivial)) zE (λ_ _=>rfl)) (yE _)) (@zL _ _ _ (@zj _ _ _ _ (@yM _ _ _ _ _ (@zA _ _ _ _ _ (@zQ _ _ _ _ _ _ _ _ _ _ _ _ _ _ _ _ UB.ok bx (by rfl) UB.m UB.kp UB.b .nil zZ (@zA _ _ _ _ _ (@qv _ 4 _ _ (by trivial)) (@zA _ _ _ _ _ (@qv _ 3 _ _ (by trivial)) zB (by rfl)) (by rfl)) (by decide) (by rfl) (by rfl)) (@zA _ _ _ _ _ (@wM _ _ _ _ _ _ _ rfl (by rfl) G.list (by rfl) G.range (@zA _ _ _ _ _ (@zt _ _ _ _ _ _ _ yJ (@qv _ 3 _ _ (by trivial)) zE (λ_ _=>rfl)) zB (by rfl)) (by rfl) (by rfl)) (@zA _ _ _ _ _ vK zB (by rfl)) (by rfl)) (by rfl))))) yO))) yO) (@zL _ _ _ (@zj _ _ _ _ (@yM _ _ _ _ _ (@zA _ _ _ _ _ (@qv _ 3 _ _ (by trivial)) (@zA _ _ _ _ _ (@wM _ _ _ _ _ _ _ rfl (by rfl) G.list (by rfl) G.range (@zA _ _ _ _ _ (@zt _ _ _ _ _ _ _ yJ (@qv _ 3 _ _ (by trivial)) zE (λ_ _=>rfl)) zB (by rfl)) (by rfl) (by rfl)) (@zA _ _ _ _ _ vK zB (by rfl)) (by rfl)) (by rfl)))))))))),?_⟩;refine⟨_,rfl,l,5,n,rfl,by decide,by decide,S0,by lia,λv H1 v0 v1 S1 B1=>?_⟩;obtain⟨way,rfl⟩:=Yg v0;refine⟨_,rfl,l,5,n+1,rfl,by decide,by decide,S1,by lia,λv2 H2 v20 b6 S2 B2=>?_⟩;obtain⟨k,rfl⟩:=Yg v20;refine⟨_,_,rfl,?_⟩;have J:k<5:=by lia
 have b3:way<5:=by lia
 have ax:=B1.trans B2
 have W:∀ (a b:Nat),decide (V.int (a:Nat)=V.int (b:Nat))=decide (a=b):=λa b=>by
  rw[YF,YU,YU];exact⟨λe=>by have:=V.int.inj e;lia,λe=>by rw[e]⟩
 have all:∀ {N:Nt}{r fr R:Addr}{O:List V}{I:Hp}{right:Bool}(ls c:Addr),Nt.Ok N->NetAt I r fr R O N->StAt I l (n+600)->But l H I->Dpt N 30->(right=true->GoodFor N (List.range N.lanes))->I ls=none->(L2.upd I ls (.lst (zJ (List.range N.lanes)))) c=none->Q (.ref c) (L2.upd (L2.upd I ls (.lst (zJ (List.range N.lanes)))) c (.tup [.ref r,.ref ls,.bl right])):=λ{N r fr R O I right} ls c ok na S B3 d g f1 f2=>by
  have s1:=zC f1 (.lst (zJ (List.range N.lanes)));have s2:=zC f2 (.tup [.ref r,.ref ls,.bl right]);have u:=s1.trans s2;exact q c N (List.range N.lanes) right r fr R O ls _ ⟨zG,ok,na.tups (Tups.of u),s2 _ _ zG,(S.ne f1).symm,by rw[Jx];exact ok.l1,by rw[Jx];exact ok.l16,λx hx=>JC.mp hx,d,g⟩ (S.keep u) (B3.trans (But.of u))
 refine⟨_,rfl,rfl,_,rfl,?_⟩;rw[show decide (V.int (way:Nat)=V.int 4)=decide (way=4) from W way 4];by_cases w4:way=4
 ·rw[JA w4]
  refine xO ⟨_,rfl,l,n+2,16,30,rfl,by decide,by decide,by decide,S2,by lia,λr fr R O N I ok nl fl na S B3=>?_⟩;refine⟨_,rfl,_,rfl,r,_,_,_,rfl,rfl,SqT.of na.net,rfl,N.lanes,rfl,by have:=ok.l16;lia,λls B=>⟨by show 3<=sizeLine;decide,λc hc=>?_⟩⟩;exact all ls c ok na (S.mono (by lia)) (ax.trans B3) (λx=>JM (sQ _ x) fl) (λz=>nomatch z) B hc
 rw[Js w4];refine yK ⟨_,rfl,rfl,_,rfl,?_⟩;rw[show decide (V.int (way:Nat)=V.int 3)=decide (way=3) from W way 3];by_cases w3:way=3
 ·rw[JA w3]
  refine xO ⟨_,rfl,k,rfl,J,λr fr R O I X na=>⟨by show 1<=sizeLine;decide,λls B=>⟨by show 3<=sizeLine;decide,λc hc=>?_⟩⟩⟩;obtain⟨tt,_⟩:=kg J;have s4:=zC B (.lst [.int 0]);have s5:=zC hc (.tup [.ref r,.ref ls,.bl true]);have u:=s4.trans s5;have S:=S2.keep X;refine q c (zV (xj k)) [0] true r fr R O ls _ ⟨zG,tt.ok,na.tups (Tups.of u),s5 _ _ zG,(S.ne B).symm,Jf 1,by show 1<=16;decide,λx hx=>?_,?_,λ_=>jh J⟩ ((S.keep u).mono (by lia)) (ax.trans ((But.of X).trans (But.of u)))
  ·rw[JZ.mp hx];exact tt.ok.l1
  ·exact Dpt.plain (wy J) (mi (wy J) λl hl=>JM (kh k J l hl) (by decide))
 rw[Js w3];refine yK ?_;have b5:way<3:=by lia
 refine bg ?_;refine lG (λσ I=>∃ r fr R O N v4,σ=[some (.ref l),some (.int (way:Nat)),some (.int (k:Nat)),some (.ref r),v4]/\NetAt I r fr R O N/\Nt.Ok N/\N.forks.length<=100/\Dpt N 16/\(way=2->Dpt N 10)/\(∀ cs:List Int,cs.length=N.lanes->yB N cs=zT cs.sum N.lanes)/\Same H2 I) ?_ λD L rt=>?_
 rotate_left
 ·refine⟨by show 3<=sizeLine;decide,λp hp=>?_⟩
  have X:=zC hp (.lst [.ref fS,.ref fR,.ref fS])
  have aC:∀ {Q':Addr->Hp->Prop},(∀ C m o i M,Same H2 M->NetAt M C m o i (zV (yU k))->Nt.Ok (zV (yU k))->(zV (yU k)).forks.length<=100->Dpt (zV (yU k)) 10->(∀ cs:List Int,cs.length=(zV (yU k)).lanes->yB (zV (yU k)) cs=zT cs.sum (zV (yU k)).lanes)->Q' C M)->∀ C m o i M,Same (L2.upd H2 p (.lst [.ref fS,.ref fR,.ref fS])) M->NetAt M C m o i (zV (yU k))->Q' C M:=λ{Q'} kk C m o i M s' y=>by
   obtain⟨t,fl⟩:=nR J;refine kk C m o i M (X.trans s') y t.ok ?_ (Dpt.plain (wH J) (mi (wH J) λl hl=>nW k J l hl)) λcs cl=>?_
   ·rw[fl]
    rcases (by lia:k=0\/k=1\/k=2\/k=3\/k=4) with rfl|rfl|rfl|rfl|rfl<;>decide
   ·rw[t.lanes]at cl ⊢;exact tN J cs cl
  rcases (by lia:way=0\/way=1\/way=2) with rfl|rfl|rfl
  ·refine⟨_,rfl,p,_,_,_,rfl,rfl,SqL.of (zS hp _),yR (j:=0) rfl,.inl ⟨rfl,_,rfl,_,rfl,rfl,.inr ⟨true,rfl,_,_,rfl,rfl,_,_,rfl,k,?_,J,aC λC m o i M s' y ao f' d' ab=>L _ _ ⟨C,m,o,i,_,_,rfl,y,ao,f',λx=>JM (d' x) (by decide),λ_=>d',ab,s'⟩⟩⟩⟩
   exact Yh (λz=>[V.int z]) (Ja (by show ¬((3:Int)+1<(k:Nat));lia))
  ·refine⟨_,rfl,p,_,_,_,rfl,rfl,SqL.of (zS hp _),yR (j:=1) rfl,.inr ⟨rfl,_,rfl,_,rfl,rfl,.inr ⟨false,rfl,_,_,rfl,rfl,_,_,rfl,min k 3,?_,by lia,λC m o i M s' y=>?_⟩⟩⟩
   ·refine Yh (λz=>[V.int z]) ?_
    show (if (3:Int)+0<(k:Nat) then (3:Int)+0 else (k:Nat))=_;split<;>lia
   ·have m5:min k 3<5:=by lia
    obtain⟨t,fl⟩:=pU m5;rw[<- sA m5]at y;refine L _ _ ⟨C,m,o,i,_,_,rfl,y,t.ok,?_,Dpt.plain (xG m5) (mi (xG m5) λl hl=>pW _ m5 l hl),λz=>(nomatch z),λcs cl=>?_,X.trans s'⟩
    ·rw[fl]
     rcases (by lia:k=0\/k=1\/k=2\/k=3\/k=4) with rfl|rfl|rfl|rfl|rfl<;>decide
    ·rw[t.lanes]at cl ⊢;exact qS m5 cs cl
  ·refine⟨_,rfl,p,_,_,_,rfl,rfl,SqL.of (zS hp _),yR (j:=2) rfl,.inl ⟨rfl,_,rfl,_,rfl,rfl,.inr ⟨true,rfl,_,_,rfl,rfl,_,_,rfl,k,?_,J,aC λC m o i M s' y ao f' d' ab=>L _ _ ⟨C,m,o,i,_,_,rfl,y,ao,f',λx=>JM (d' x) (by decide),λ_=>d',ab,s'⟩⟩⟩⟩
   exact Yh (λz=>[V.int z]) (Ja (by show ¬((3:Int)+1<(k:Nat));lia))
 rintro σ I ⟨r,fr,R,O,N,v4,rfl,na,ok,b4,b1,b2,a0,X⟩;have S:=S2.keep X;have B3:But l H I:=ax.trans (But.of X);refine lG (λσ H4=>(∃ v4,σ=[some (.ref l),some (.int (way:Nat)),some (.int (k:Nat)),some (.ref r),v4])/\NetAt H4 r fr R O N/\StAt H4 l (n+600)/\But l H H4) ?_ λD L rt=>?_
 ·rintro σ H4 ⟨⟨v4,rfl⟩,a4,S4,B4⟩
  refine⟨_,rfl,_,rfl,r,_,_,_,rfl,rfl,SqT.of a4.net,rfl,N.lanes,rfl,by have:=ok.l16;lia,λls B=>⟨by show 3<=sizeLine;decide,λc hc=>?_⟩⟩;exact all ls c ok a4 S4 B4 (λx=>JM (b1 x) (by decide)) (λ_=>oe a0) B hc
 refine⟨_,rfl,rfl,_,rfl,?_⟩;rw[show decide (V.int (way:Nat)=V.int 2)=decide (way=2) from W way 2];by_cases w2:way=2
 rotate_left
 ·rw[Js w2]
  exact yK (L _ _ ⟨⟨_,rfl⟩,na,S.mono (by lia),B3⟩)
 rw[JA w2];refine xO ⟨_,rfl,_,rfl,r,_,_,_,rfl,rfl,SqT.of na.net,rfl,l,n+2,N.lanes,20,rfl,ok.l1,ok.l16,by decide,S,by lia,λr2 bS b0 a7 A H5 T nl fl a3 S5 B5=>?_⟩;have U:=na.tups (wG B5 S);refine⟨_,rfl,r2,_,_,_,rfl,rfl,SqT.of a3.net,rfl,_,rfl,r,_,_,_,rfl,rfl,SqT.of U.net,rfl,rfl,_,rfl,?_⟩;rw[show decide (V.int (A.lanes:Nat)=V.int (N.lanes:Nat))=decide (A.lanes=N.lanes) from W _ _];by_cases el:A.lanes=N.lanes
 rotate_left
 ·rw[Js el]
  exact yK (L _ _ ⟨⟨_,rfl⟩,U,S5.mono (by lia),B3.trans B5⟩)
 rw[JA el];have fm:A.forks.length+N.forks.length<=128:=by lia
 have ak:=uZ T ok el.symm fm;refine xO ⟨_,rfl,_,rfl,r2,bS,b0,a7,A,r,fr,R,O,N,rfl,T,a3,ok,U,el.symm,fm,λC m o i H6 s6 a9=>?_⟩;refine⟨_,rfl,r,_,_,_,rfl,rfl,SqT.of (s6 _ _ U.net),rfl,N.lanes,rfl,by have:=ok.l16;lia,λls B=>⟨by show 3<=sizeLine;decide,λc hc=>?_⟩⟩;rw[rt];have a8:Nt.Ok (zV (yo A N)):=pi ak;have ln:(zV (yo A N)).lanes=N.lanes:=el;have dd:Dpt (zV (yo A N)) 30:=λx=>JM (Dpt.plain ak (Dpt.behind T ok el.symm (cP A) (b2 w2)) x) (by lia);have gg:GoodFor (zV (yo A N)) (List.range (zV (yo A N)).lanes):=oe (my T ok el.symm fm a0 ak);have:=all (N:=zV (yo A N)) (right:=true) ls c a8 a9 ((S5.keep s6).mono (by lia)) ((B3.trans B5).trans (But.of s6)) dd (λ_=>gg) B;rw[ln]at this;exact this hc
abbrev nr:Stmt:=top 4
abbrev n9:Stmt:=top 5
def qC (K:PySem.W.Frag):Sp:=λa H Q _=>∃ x,a=[x]/\AnyT K H x/\Q (.bl (cr x)) H
def uy (K:PySem.W.Frag):Sp:=λa H Q _=>∃ x b,a=[x,.int b]/\AnyT K H x/\Q (.bl (mw b x)) H
theorem zaQ:FnScope ["thing"] ["thing"] (zP nr):=by trivial
theorem i7 {f:Addr}{fd:FuncData}(F:Fun K "is_whole" "is_whole" nr f fd) (G:Mgs mg):FnOk P w K mg base CX0 1 f fd ["thing"] (qC K):=by
 refine F.ok zaQ (λa H Q E h=>?_) (λd A outer s H a Q E e h=>?_)
 ·obtain⟨x,rfl,_⟩:=h
  rfl
 obtain⟨x,rfl,c,k⟩:=h;refine⟨_,(@zL _ _ _ (@zj _ _ _ _ (@iz _ _ _ _ _ _ _ (@zp _ _ _ _ _ _ _ _ _ o9 (by rfl) G.isi (by rfl) (@zA _ _ _ _ _ (@qv _ 0 _ _ (by trivial)) (@zA _ _ _ _ _ (@lN _ _ (.ty "int") (.type "int") _ (by rfl) G.int (by rfl) rfl (by decide) (by decide)) zB (by rfl)) (by rfl)) (by decide) (by decide) (by rfl) (by rfl)) (@iu _ _ _ _ _ (@bU _ _ _ _ (@zp _ _ _ _ _ _ _ _ _ o9 (by rfl) G.isi (by rfl) (@zA _ _ _ _ _ (@qv _ 0 _ _ (by trivial)) (@zA _ _ _ _ _ (@lN _ _ (.ty "bool") (.type "bool") _ (by rfl) G.bool (by rfl) rfl (by decide) (by decide)) zB (by rfl)) (by rfl)) (by decide) (by decide) (by rfl) (by rfl))))))),?_⟩;obtain⟨t,I⟩:=c.isi;refine⟨_,rfl,_,"int",_,_,rfl,I.ty,I.int,_,rfl,?_⟩
 cases x with
 | int i=>exact xO ⟨_,rfl,_,"bool",_,_,rfl,I.ty,I.bool,_,rfl,k⟩
 | bl b=>exact xO ⟨_,rfl,_,"bool",_,_,rfl,I.ty,I.bool,_,rfl,k⟩
 | non=>exact yK k
 | str z=>exact yK k
 | flt z=>exact yK k
 | byt z=>exact yK k
 | ref z=>exact yK k
 | ty z=>exact yK k
theorem zaR:FnScope ["thing","bound"] ["thing","bound"] (zP n9):=by trivial
theorem gD {f g:Addr}{fd j:FuncData}(F:Fun K "is_below" "is_below" n9 f fd) (G:Mgs mg) (a:Use P w K mg base "is_whole" ["thing"] 1 (qC K) g j):FnOk P w K mg base CX0 2 f fd ["thing","bound"] (uy K):=by
 refine F.ok zaR (λc H Q E h=>?_) (λm A outer s H c Q E d h=>?_)
 ·obtain⟨x,b,rfl,_⟩:=h
  rfl
 obtain⟨x,b,rfl,l,k⟩:=h;refine⟨_,(@zL _ _ _ (@zj _ _ _ _ (@iz _ _ _ _ _ _ _ (@zQ _ _ _ _ _ _ _ _ _ _ _ _ _ _ _ _ a.ok d (by rfl) a.m a.kp a.b .nil zZ (@zA _ _ _ _ _ (@qv _ 0 _ _ (by trivial)) zB (by rfl)) (by decide) (by rfl) (by rfl)) (@iu _ _ _ _ _ (@iw _ _ _ _ _ _ _ _ _ _ _ _ au sH zE (@qv _ 0 _ _ (by trivial)) (@qv _ 1 _ _ (by trivial)) (by with_unfolding_all rfl)))))),?_⟩;refine⟨_,rfl,_,rfl,l,_,rfl,?_⟩
 cases x with
 | int i =>
  refine xO ⟨_,rfl,_,_,rfl,rfl,_,rfl,?_⟩;have e:mw b (.int i)=(decide (0<=i) && decide (i<b)):=rfl;rw[e]at k;by_cases z:(0:Int)<=i
  ·rw[JA z]at k ⊢
   exact xO ⟨_,rfl,_,_,rfl,rfl,k⟩
  ·rw[Js z]at k ⊢
   exact yK k
 | bl z=>exact yK k
 | non=>exact yK k
 | str z=>exact yK k
 | flt z=>exact yK k
 | byt z=>exact yK k
 | ref z=>exact yK k
 | ty z=>exact yK k
abbrev bK:Stmt:=top 10
theorem scD:FnScope ["net","lane"] ["net","lane"] (zP bK):=by trivial
theorem be {f:Addr}{fd:FuncData}(F:Fun K "end_of" "end_of" bK f fd):FnOk P w K mg base CX0 1 f fd ["net","lane"] iK:=by
 refine F.ok scD (λd H Q E h=>?_) (λj A outer s H d Q E g h=>?_)
 ·obtain⟨r,fr,c,e,N,a,rfl,_⟩:=h
  rfl
 obtain⟨r,fr,c,e,N,a,rfl,ok,na,i,k⟩:=h;refine⟨_,(@zL _ _ _ (@zj _ _ _ _ (@eV _ _ _ _ _ _ _ g.units (@zt _ _ _ _ _ _ _ yJ (@qv _ 0 _ _ (by trivial)) zE (λ_ _=>rfl)) (@zA _ _ _ _ _ (@qv _ 1 _ _ (by trivial)) zB (by rfl)) (by rfl) (by rfl) (by rfl) (by rfl)))),?_⟩;have b:=na.ends;rw[gE]at b;refine⟨_,rfl,r,_,_,_,rfl,rfl,SqT.of na.net,rfl,c,_,rfl,b,_,rfl,(a:Int),rfl,b,?_,?_⟩
 ·exact Yj.mpr ⟨a,ok.en.mem_iff.mpr (JC.mpr i),rfl⟩
 ·rw[oY];exact k
abbrev iT:Stmt:=top 9
def qG:Sp:=λb H Q _=>∃ r fr d c N,∃ a n:Nat,b=[.ref r,.int a,.int n]/\Nt.Ok N/\NetAt H r fr d c N/\n<=N.forks.length/\∀ k:Nat,IsNext N.forks a n k->Q (.int k) H
theorem bF:FnScope ["net","lane","number","forks"] ["net","lane","number"] (zP iT):=by trivial
theorem dU {f:Addr}{fd:FuncData}(F:Fun K "next_fork" "next_fork" iT f fd) (G:Mgs mg):FnOk P w K mg base CX0 1 f fd ["net","lane","number"] qG:=by
 refine F.ok bF (λC H Q E h=>?_) (λO A outer s H C Q E S h=>?_)
 ·obtain⟨r,fr,L,l,N,b,n,rfl,_⟩:=h
  rfl
 obtain⟨r,fr,L,l,N,b,n,rfl,ok,na,nl,k⟩:=h;refine⟨_,(@zD _ _ _ _ _ (@zr _ _ 3 _ _ _ _ bF.nd rfl (.inl rfl) (@zt _ _ _ _ _ _ _ yJ (@qv _ 0 _ _ (by trivial)) zE (λ_ _=>rfl)) (by rfl) (by trivial)) (@zD _ _ _ _ _ (@iZ _ _ _ _ _ _ YC (@vQ _ _ _ _ _ _ _ (@zu _ _ _ _ _ _ _ _ sH (@qv _ 2 _ _ (by trivial)) (@zp _ _ _ _ _ _ _ _ _ zY (by rfl) G.len Y4 (@zA _ _ _ _ _ (@qv _ 3 _ _ (by trivial)) zB (by rfl)) (by decide) (by decide) (by rfl) (by rfl)) (yE _)) (@wU _ _ _ _ (@zu _ _ _ _ _ _ _ _ vj (@qv _ 1 _ _ (by trivial)) (@zt _ _ _ _ _ _ _ yJ (@qv _ 3 _ _ (by trivial)) (@qv _ 2 _ _ (by trivial)) (λ_ _=>rfl)) (by rfl)))).pt (@zL _ _ _ (@ii _ _ 2 _ _ _ _ _ _ bF.nd rfl (.inl rfl) zE gW (by trivial)))) (@zL _ _ _ (@zj _ _ _ _ (@qv _ 2 _ _ (by trivial)))))),?_⟩;have R:=na.prs.len;have T:=ok.fm;refine⟨_,rfl,r,_,_,_,rfl,rfl,SqT.of na.net,rfl,?_⟩
 refine⟨λm σ B=>B=H/\∃ q:Nat,σ=[some (.ref r),some (.int b),some (.int q),some (.ref fr)]/\n<=q/\q<=N.forks.length/\m=N.forks.length-q/\∀ j g,n<=j->j<q->N.forks[j]?=some g->¬(b=g.1\/b=g.2),
  ⟨_,rfl,n,rfl,Jf _,nl,rfl,λj g x J=>by lia⟩,?_⟩
 rintro m σ B ⟨rfl,q,rfl,v,u,em,d⟩;refine⟨_,rfl,_,rfl,fr,_,rfl,.inr (SqT.of na.forks),_,_,rfl,rfl,_,rfl,?_⟩;by_cases z:q<N.forks.length
 ·rw[JA (show (q:Int)<l.length by lia)]
  obtain⟨a,g,ex,y,D⟩:=na.prs.get (i:=q) (J0 (show q<l.length by lia));have t:atI l ((q:Nat):Int)=some (.ref a):=yR (by rw[J0 (show q<l.length by lia),ex]);refine xO ⟨_,rfl,_,rfl,_,rfl,fr,_,_,_,rfl,rfl,SqT.of na.forks,t,a,_,rfl,.inr (SqT.of D),rfl,rfl,_,rfl,?_⟩;show if (if true=true then !inV (V.int (b:Nat)) [V.int (g.1:Nat),V.int (g.2:Nat)] else inV (V.int (b:Nat)) [V.int (g.1:Nat),V.int (g.2:Nat)])=true then _ else _;rw[Jb rfl,zae];by_cases on:b=g.1\/b=g.2
  ·rw[JA on]
   refine yK ⟨_,rfl,k q ⟨v,u,d,λp c=>?_⟩⟩;rw[y]at c;obtain rfl:=Jv c;exact on
  ·rw[Js on]
   refine xO ⟨_,λM U I=>⟨m-1,by lia,I⟩,?_⟩;refine⟨_,rfl,_,_,rfl,rfl,rfl,q+1,rfl,by lia,by lia,by lia,λj p x J o=>?_⟩;by_cases e:j=q
   ·subst e;rw[y]at o;obtain rfl:=Jv o;exact on
   ·exact d j p x (by lia) o
 ·rw[Js (show ¬(q:Int)<l.length by lia)]
  refine yK (yK ⟨_,rfl,k q ⟨v,u,d,λp c=>?_⟩⟩);have:=(J9.mp c).1;lia
end
abbrev nv:Stmt:=wZ (top 12) 0
abbrev qK:Stmt:=wZ (top 12) 1
abbrev nu:Stmt:=wZ (top 12) 2
abbrev tZ:Stmt:=wZ (top 12) 3
abbrev iS:Stmt:=wZ (top 12) 4
abbrev qL:Stmt:=wZ (top 12) 5
abbrev eO:Stmt:=wZ (top 12) 6
def qE (C:Addr):Sp:=λf H Q _=>∃ (t g r fr e:Addr) (c:List V) (N:Nt),f=[.ref t,.ref r]/\H t=some (.ins C g [])/\Nt.Ok N/\NetAt H r fr e c N/\∀ (ls d lc ln:Addr) (a:Hp),H ls=none->H d=none->H lc=none->H ln=none ->
 TelAt C a ⟨t,r,fr,e,c,ls,d,lc,ln⟩ N (S0 N)->(∀ b o,H b=some o->b≠t->a b=some o)->Q .non a
def tS (C:Addr):Sp:=λc H Q _=>∃ (A:Tad) (N:Nt) (S:Tst) (a:Nat),c=[.ref A.t,.int a]/\Nt.Ok N/\TelAt C H A N S/\OkS N S/\a<N.lanes/\S.spots.length<=1000 /\
 ∀ (k:Nat) (b:Hp),IsNext N.forks a 0 k->TelAt C b A N { S with spots:=S.spots++[some (a,k)] }->But4 A H b->Q (.int (S.spots.length:Nat)) b
def uM (C:Addr):Sp:=λb H Q _=>∃ (A:Tad) (N:Nt) (S:Tst) (e:Nat),b=[.ref A.t,.int e]/\Nt.Ok N/\TelAt C H A N S/\OkS N S/\e<N.lanes/\S.nms.length<=1000 /\
 ∀ (a:Hp),TelAt C a A N { S with came:=S.came.set e (S.came.getD e 0+1),nms:=S.nms++[e+N.lanes*S.came.getD e 0] }->But4 A H a->Q (.int (e+N.lanes*S.came.getD e 0:Nat)) a
def qD (C:Addr):Sp:=λe H Q _=>∃ (A:Tad) (N:Nt) (S:Tst) (a b k:Nat),e=[.ref A.t,.int a]/\Nt.Ok N/\TelAt C H A N S/\OkS N S/\S.spots[a]?=some (some (b,k))/\S.spots.length<=1000/\S.nms.length<=1000 /\
 (k=N.forks.length->∀ c,TelAt C c A N (i4 N S a b)->But4 A H c->Q (.int (y8 N b+N.lanes*S.came.getD (y8 N b) 0:Nat)) c) /\
 (k<N.forks.length->∀ d c,IsNext N.forks (onT N S a k) (k+1) d->TelAt C c A N (goT N S a k d)->But4 A H c->Q .non c)
def ng (C:Addr):Sp:=λb H Q _=>∃ (A:Tad) (N:Nt) (S:Tst),b=[.ref A.t]/\TelAt C H A N S/\S.spots.length<=1000/\∀ p a,Same H a->a p=some (.tup (zJ (yq S.spots)))->Q (.ref p) a
def tT (C:Addr):Sp:=λb H Q _=>∃ (A:Tad) (N:Nt) (S:Tst),b=[.ref A.t]/\TelAt C H A N S/\S.nms.length<=1000/\∀ p ms a,Same H a->ms.Perm S.nms->ms.Pairwise (·<=·)->a p=some (.tup (zJ ms))->Q (.ref p) a
structure Txt (K:PySem.W.Frag) (mg:Str->Option Value) (C:Addr):Prop where
 cl:Cls K C
 nN:NoAttr K C "net"
 nS:NoAttr K C "settings"
 nP:NoAttr K C "spots"
 nC:NoAttr K C "came"
 nU:NoAttr K C "numbers"
 mgC:mg "Teller" = some (.ref C)
theorem kL {K:PySem.W.Frag}{H:Hp}(i:Int):AnyT K H (.int i):=⟨_,.int i,_,rfl⟩
theorem nD {i b:Nat}(h:i<b):mw (b:Nat) (.int (i:Nat))=true:=by
 show (decide ((0:Int)<=(i:Nat)) && decide (((i:Nat):Int)<(b:Nat)))=true;rw[JA (by lia),JA (by lia)];rfl
theorem pX (n:Nat):(List.replicate n [V.int 0]).flatten=zJ (List.replicate n 0):=by
 induction n with
 | zero=>rfl
 | succ n ih=>rw[Yr,Z7,ih,Yr];rfl
theorem vk (row:List Nat)(i:Nat)(h:i<row.length):(zJ row)[i]?=some (.int ((row.getD i 0:Nat):Int)):=by
 unfold zJ;rw[JD,J0 h,J7,J0 h];rfl
theorem oH (row:List Nat)(i x:Nat):(zJ row).set i (.int (x:Nat))=zJ (row.set i x):=by
 unfold zJ;rw[List.map_set]
section
variable {P:Program}{w:World}{K:PySem.W.Frag}{mg:Str->Option Value}{base:Heap}{C:Addr}
theorem zaN:FnScope ["self","net"] ["self","net"] (zP nv):=by trivial
theorem i8 {f:Addr}{fd:FuncData}(F:Fun K "__init__" "Teller.__init__" nv f fd) (G:Mgs mg) (T:Txt K mg C):FnOk P w K mg base CX0 1 f fd ["self","net"] (qE C):=by
 refine F.ok zaN (λvs H Q E h=>?_) (λa3 A outer s H vs Q E hr h=>?_)
 ·obtain⟨t,c,r,fr,er,n,N,rfl,_⟩:=h
  rfl
 obtain⟨t,c,r,fr,er,n,N,rfl,ht,ok,na,k⟩:=h;refine⟨_,(@zD _ _ _ _ _ (@sC _ _ _ _ _ _ _ _ (@qv _ 0 _ _ (by trivial)) (@qv _ 1 _ _ (by trivial)) rfl) (@zD _ _ _ _ _ (@sC _ _ _ _ _ _ _ _ (@qv _ 0 _ _ (by trivial)) (@zU _ _ _ _ _ _ _ _ qh (@yS _ _ _ _ (@zA _ _ _ _ _ zE zB (by rfl))) (@zp _ _ _ _ _ _ _ _ _ zY (by rfl) G.len Y4 (@zA _ _ _ _ _ (@zt _ _ _ _ _ _ _ yJ (@qv _ 1 _ _ (by trivial)) zE (λ_ _=>rfl)) zB (by rfl)) (by decide) (by decide) (by rfl) (by rfl))) rfl) (@zD _ _ _ _ _ (@sC _ _ _ _ _ _ _ _ (@qv _ 0 _ _ (by trivial)) (@yS _ _ _ _ zB) rfl) (@zD _ _ _ _ _ (@sC _ _ _ _ _ _ _ _ (@qv _ 0 _ _ (by trivial)) (@zU _ _ _ _ _ _ _ _ qh (@yS _ _ _ _ (@zA _ _ _ _ _ zE zB (by rfl))) (@zt _ _ _ _ _ _ _ yJ (@qv _ 1 _ _ (by trivial)) zE (λ_ _=>rfl))) rfl) (@zL _ _ _ (@sC _ _ _ _ _ _ _ _ (@qv _ 0 _ _ (by trivial)) (@yS _ _ _ _ zB) rfl)))))),?_⟩;have pl:=na.prs.len;have fm:=ok.fm;have a0:=ok.l16;have rt:r≠t:=λe=>by have:=na.net;rw[e,ht]at this;cases this
 have ft:fr≠t:=λe=>by have:=na.forks;rw[e,ht]at this;cases this
 refine⟨_,rfl,_,rfl,t,C,c,[],rfl,ht,T.cl,T.nN,(by show 0<1000;decide),?_⟩;have R:KpT t H (L2.upd H t (.ins C c (zx "net" (.ref r) []))):=λb o e ne=>by rw[zH ne];exact e
 have t1:L2.upd H t (.ins C c (zx "net" (.ref r) [])) t=some (.ins C c (zx "net" (.ref r) [])):=zG;generalize L2.upd H t (.ins C c (zx "net" (.ref r) []))=H1 at R t1;refine⟨(by show 1<=sizeLine;decide),λa1 W=>?_⟩;have O:=zC W (.lst [.int 0]);refine⟨_,rfl,r,_,1,_,rfl,rfl,SqT.of (O _ _ (R _ _ na.net rt)),rfl,fr,_,rfl,.inr (SqT.of (O _ _ (R _ _ na.forks ft))),a1,_,_,rfl,rfl,zS W _,by lia,by lia,(by rw[Yc,Y1];show 1*_<=_;lia),λls D=>?_⟩;rw[Yc,pX];have s2:=zC D (.lst (zJ (List.replicate n.length 0)));have u2:=O.trans s2;have t2:=u2 _ _ t1;obtain⟨ak,l⟩:=KpT.free (λb o e ne=>O _ _ (R b o e ne)) (O _ _ t1) D;refine⟨_,rfl,t,C,c,_,rfl,t2,T.cl,T.nS,(by show 1<1000;decide),?_⟩;have k3:=R.step u2 (.ins C c (zx "settings" (.ref ls) (zx "net" (.ref r) [])));have x:L2.upd (L2.upd (L2.upd H1 a1 (.lst [.int 0])) ls (.lst (zJ (List.replicate n.length 0)))) t (.ins C c (zx "settings" (.ref ls) (zx "net" (.ref r) []))) ls=some (.lst (zJ (List.replicate n.length 0))):=by rw[zH l];exact zS D _
 have t3:=zG (H:=L2.upd (L2.upd H1 a1 (.lst [.int 0])) ls (.lst (zJ (List.replicate n.length 0)))) (a:=t) (o:=.ins C c (zx "settings" (.ref ls) (zx "net" (.ref r) [])));generalize L2.upd (L2.upd (L2.upd H1 a1 (.lst [.int 0])) ls (.lst (zJ (List.replicate n.length 0)))) t (.ins C c (zx "settings" (.ref ls) (zx "net" (.ref r) [])))=H3 at k3 x t3;refine⟨(by show 0<=sizeLine;decide),λd m=>?_⟩;have s4:=zC m (.lst []);obtain⟨ao,p⟩:=k3.free t3 m;refine⟨_,rfl,t,C,c,_,rfl,s4 _ _ t3,T.cl,T.nP,(by show 2<1000;decide),?_⟩;have Z:=k3.step s4 (.ins C c (zx "spots" (.ref d) (zx "settings" (.ref ls) (zx "net" (.ref r) []))));have u:L2.upd (L2.upd H3 d (.lst [])) t (.ins C c (zx "spots" (.ref d) (zx "settings" (.ref ls) (zx "net" (.ref r) [])))) ls=some (.lst (zJ (List.replicate n.length 0))):=by rw[zH l];exact s4 _ _ x
 have B:L2.upd (L2.upd H3 d (.lst [])) t (.ins C c (zx "spots" (.ref d) (zx "settings" (.ref ls) (zx "net" (.ref r) [])))) d=some (.lst []):=by rw[zH p];exact zS m _
 have t5:=zG (H:=L2.upd H3 d (.lst [])) (a:=t) (o:=.ins C c (zx "spots" (.ref d) (zx "settings" (.ref ls) (zx "net" (.ref r) []))));generalize L2.upd (L2.upd H3 d (.lst [])) t (.ins C c (zx "spots" (.ref d) (zx "settings" (.ref ls) (zx "net" (.ref r) []))))=S at Z u B t5;refine⟨(by show 1<=sizeLine;decide),λM V=>?_⟩;have L:=zC V (.lst [.int 0]);refine⟨_,rfl,r,_,0,_,rfl,rfl,SqT.of (L _ _ (Z _ _ na.net rt)),rfl,M,_,_,rfl,rfl,zS V _,by lia,by lia,(by rw[Yc,Y1];show 1*_<=_;lia),λlc j=>?_⟩;rw[Yc,pX];have s7:=zC j (.lst (zJ (List.replicate N.lanes 0)));have X:=L.trans s7;obtain⟨aC,U⟩:=KpT.free (λb o e ne=>L _ _ (Z b o e ne)) (L _ _ t5) j;refine⟨_,rfl,t,C,c,_,rfl,X _ _ t5,T.cl,T.nC,(by show 3<1000;decide),?_⟩;have d2:ls≠lc:=zF (L _ _ u) j;have d4:d≠lc:=zF (L _ _ B) j;have Y:=Z.step X (.ins C c (zx "came" (.ref lc) (zx "spots" (.ref d) (zx "settings" (.ref ls) (zx "net" (.ref r) [])))));have q:L2.upd (L2.upd (L2.upd S M (.lst [.int 0])) lc (.lst (zJ (List.replicate N.lanes 0)))) t (.ins C c (zx "came" (.ref lc) (zx "spots" (.ref d) (zx "settings" (.ref ls) (zx "net" (.ref r) []))))) ls=some (.lst (zJ (List.replicate n.length 0))):=by rw[zH l];exact X _ _ u
 have y:L2.upd (L2.upd (L2.upd S M (.lst [.int 0])) lc (.lst (zJ (List.replicate N.lanes 0)))) t (.ins C c (zx "came" (.ref lc) (zx "spots" (.ref d) (zx "settings" (.ref ls) (zx "net" (.ref r) []))))) d=some (.lst []):=by rw[zH p];exact X _ _ B
 have I:L2.upd (L2.upd (L2.upd S M (.lst [.int 0])) lc (.lst (zJ (List.replicate N.lanes 0)))) t (.ins C c (zx "came" (.ref lc) (zx "spots" (.ref d) (zx "settings" (.ref ls) (zx "net" (.ref r) []))))) lc=some (.lst (zJ (List.replicate N.lanes 0))):=by rw[zH U];exact zS j _
 have t8:=zG (H:=L2.upd (L2.upd S M (.lst [.int 0])) lc (.lst (zJ (List.replicate N.lanes 0)))) (a:=t) (o:=.ins C c (zx "came" (.ref lc) (zx "spots" (.ref d) (zx "settings" (.ref ls) (zx "net" (.ref r) [])))));generalize L2.upd (L2.upd (L2.upd S M (.lst [.int 0])) lc (.lst (zJ (List.replicate N.lanes 0)))) t (.ins C c (zx "came" (.ref lc) (zx "spots" (.ref d) (zx "settings" (.ref ls) (zx "net" (.ref r) [])))))=H8 at Y q y I t8;refine⟨(by show 0<=sizeLine;decide),λln g=>?_⟩;have J:=zC g (.lst []);obtain⟨ax,ab⟩:=Y.free t8 g;refine⟨_,rfl,t,C,c,_,rfl,J _ _ t8,T.cl,T.nU,(by show 4<1000;decide),?_⟩;have d1:ls≠d:=zF x m;refine k ls d lc ln _ ak ao aC ax ⟨⟨c,zG⟩,?_,?_,⟨[],?_,rfl,λi v o a=>by simp at a⟩,?_,?_,d1,d2,zF q g,d4,zF y g,zF I g⟩ (Y.step J _)
 ·refine na.tups (λa xs e=>?_)
  have ne:a≠t:=λz=>by rw[z,ht]at e;cases e
  exact Y.step J _ _ _ e ne
 ·show L2.upd (L2.upd H8 ln (.lst [])) t _ ls=some (.lst (zJ (List.replicate N.forks.length 0)))
  rw[zH l,<- pl];exact J _ _ q
 ·rw[zH p];exact J _ _ y
 ·rw[zH U];exact J _ _ I
 ·rw[zH ab];exact zS g _
theorem zaM:FnScope ["self","lane"] ["self","lane"] (zP qK):=by trivial
theorem jH {f X W:Addr}{fd Z dN:FuncData}(F:Fun K "start" "Teller.start" qK f fd) (G:Mgs mg) (T:Txt K mg C) (r:Use P w K mg base "is_below" ["thing","bound"] 2 (uy K) X Z) (p:Use P w K mg base "next_fork" ["net","lane","number"] 1 qG W dN):FnOk P w K mg base CX0 3 f fd ["self","lane"] (tS C):=by
 refine F.ok zaM (λL H Q E h=>?_) (λab A outer s H L Q E I h=>?_)
 ·obtain⟨c,N,S,a,rfl,_⟩:=h
  rfl
 obtain⟨c,N,S,a,rfl,ok,d,os,U,hz,k⟩:=h;have y:Room 1 _:=I.mono (by decide);refine⟨_,(@zD _ _ _ _ _ (@yu _ _ _ _ _ _ _ _ (@mD _ _ _ _ (@qY _ _ _ (@zQ _ _ _ _ _ _ _ _ _ _ _ _ _ _ _ _ r.ok I (by rfl) r.m r.kp r.b .nil zZ (@zA _ _ _ _ _ (@qv _ 1 _ _ (by trivial)) (@zA _ _ _ _ _ (@zt _ _ _ _ _ _ _ yJ (@yV _ _ _ _ _ (@qv _ 0 _ _ (by trivial)) rfl) zE (λ_ _=>rfl)) zB (by rfl)) (by rfl)) (by decide) (by rfl) (by rfl)) (by intro _;rfl))) (@zL _ _ _ lJ) yO) (@zD _ _ _ _ _ (@wA _ _ _ _ (@vh _ _ _ _ _ _ _ _ _ _ _ _ Ym Ze Zf y7 (@yV _ _ _ _ _ (@qv _ 0 _ _ (by trivial)) rfl) (@zA _ _ _ _ _ (@yM _ _ _ _ _ (@zA _ _ _ _ _ (@qv _ 1 _ _ (by trivial)) (@zA _ _ _ _ _ (@zQ _ _ _ _ _ _ _ _ _ _ _ _ _ _ _ _ p.ok y (by rfl) p.m p.kp p.b .nil zZ (@zA _ _ _ _ _ (@yV _ _ _ _ _ (@qv _ 0 _ _ (by trivial)) rfl) (@zA _ _ _ _ _ (@qv _ 1 _ _ (by trivial)) (@zA _ _ _ _ _ zE zB (by rfl)) (by rfl)) (by rfl)) (by decide) (by rfl) (by rfl)) zB (by rfl)) (by rfl))) zB (by rfl)) (by rfl) (by rfl) (by rfl) (by rfl) (by rfl)) (by rfl)) (@zL _ _ _ (@zj _ _ _ _ (@zU _ _ _ _ _ _ _ _ qg (@zp _ _ _ _ _ _ _ _ _ zY (by rfl) G.len Y4 (@zA _ _ _ _ _ (@yV _ _ _ _ _ (@qv _ 0 _ _ (by trivial)) rfl) zB (by rfl)) (by decide) (by decide) (by rfl) (by rfl)) zE))))),?_⟩;obtain⟨j,ob⟩:=d.ob;obtain⟨sp,n,D⟩:=d.hp;refine⟨_,rfl,_,rfl,c.t,C,j,_,_,rfl,ob,T.cl,T.nN,vX,c.r,_,0,_,rfl,rfl,SqT.of d.na.net,rfl,_,_,rfl,kL _,_,rfl,?_⟩;rw[nD U];refine yK ?_;refine⟨_,rfl,c.t,C,j,_,_,rfl,ob,T.cl,T.nP,wv,.inl ⟨rfl,_,SqL.of n⟩,_,rfl,_,rfl,c.t,C,j,_,_,rfl,ob,T.cl,T.nN,vX,_,rfl,c.r,c.fr,c.er,c.ps,N,a,0,rfl,ok,d.na,JX _,λm nm=>?_⟩;refine⟨(by show 2<=sizeLine;decide),λq J=>?_⟩;have i:=zC J (.tup [.int (a:Nat),.int (m:Nat)]);have M:=D.1;refine⟨c.lp,sp,_,rfl,rfl,i _ _ n,by rw[Y1];lia,?_⟩;have g:=d.keep i;have t:Tups (L2.upd H q (.tup [.int (a:Nat),.int (m:Nat)])) (L2.upd (L2.upd H q (.tup [.int (a:Nat),.int (m:Nat)])) c.lp (.lst (sp++[.ref q]))):=Tups.lst (i _ _ n);have l:c.t≠c.lp:=wN ob n (by intro z;cases z)
 have u:TelAt C (L2.upd (L2.upd H q (.tup [.int (a:Nat),.int (m:Nat)])) c.lp (.lst (sp++[.ref q]))) c N { S with spots:=S.spots++[some (a,m)] }:=by
  obtain⟨B,x⟩:=g.ob;refine⟨⟨B,by rw[zH l];exact x⟩,g.na.tups t,by rw[zH d.d1];exact g.hs,⟨_,zG,?_⟩,by rw[zH d.d4.symm];exact g.hc,by rw[zH d.d5.symm];exact g.hn,d.d1,d.d2,d.d3,d.d4,d.d5,d.d6⟩;exact((D.tups (Tups.of i)).tups t).add ⟨q,rfl,t _ _ (zS J _)⟩
 have v:L2.upd (L2.upd H q (.tup [.int (a:Nat),.int (m:Nat)])) c.lp (.lst (sp++[.ref q])) c.t=some (.ins C j (yw c.r c.ls c.lp c.lc c.ln)):=by rw[zH l];exact i _ _ ob
 refine⟨_,rfl,c.t,C,j,_,_,rfl,v,T.cl,T.nP,wv,c.lp,_,rfl,.inl (SqL.of zG),_,_,rfl,rfl,?_⟩;have e:(((sp++[V.ref q]).length:Nat):Int)-1=((S.spots.length:Nat):Int):=by rw[Jj,M];simp only[JE,Zv];lia
 have R:=k m _ nm u λb o Y _ O _ _=>by rw[zH O];exact i _ _ Y
 show Q (.int _) _;rw[e];exact R
theorem aa:FnScope ["self","end","number"] ["self","end"] (zP tZ):=by trivial
theorem mL {f:Addr}{fd:FuncData}(F:Fun K "number_at" "Teller.number_at" tZ f fd) (G:Mgs mg) (T:Txt K mg C):FnOk P w K mg base CX0 1 f fd ["self","end"] (uM C):=by
 refine F.ok aa (λt H Q E h=>?_) (λI A outer s H t Q E L h=>?_)
 ·obtain⟨c,N,S,e,rfl,_⟩:=h
  rfl
 obtain⟨c,N,S,e,rfl,ok,a,os,M,J,k⟩:=h;refine⟨_,(@zD _ _ _ _ _ (@zr _ _ 2 _ _ _ _ aa.nd rfl (.inl rfl) (@zU _ _ _ _ _ _ _ _ ya (@qv _ 1 _ _ (by trivial)) (@zU _ _ _ _ _ _ _ _ xR (@zt _ _ _ _ _ _ _ yJ (@yV _ _ _ _ _ (@qv _ 0 _ _ (by trivial)) rfl) zE (λ_ _=>rfl)) (@zt _ _ _ _ _ _ _ zy (@yV _ _ _ _ _ (@qv _ 0 _ _ (by trivial)) rfl) (@qv _ 1 _ _ (by trivial)) (λ_ _=>rfl)))) (by rfl) (by trivial)) (@zD _ _ _ _ _ (@eS _ _ _ _ _ _ _ _ _ _ _ _ _ (@yV _ _ _ _ _ (@qv _ 0 _ _ (by trivial)) rfl) (@qv _ 1 _ _ (by trivial)) gj zE gW yd (by intros;rfl)) (@zD _ _ _ _ _ (@wA _ _ _ _ (@vh _ _ _ _ _ _ _ _ _ _ _ _ Ym Ze Zf y7 (@yV _ _ _ _ _ (@qv _ 0 _ _ (by trivial)) rfl) (@zA _ _ _ _ _ (@qv _ 2 _ _ (by trivial)) zB (by rfl)) (by rfl) (by rfl) (by rfl) (by rfl) (by rfl)) (by rfl)) (@zL _ _ _ (@zj _ _ _ _ (@qv _ 2 _ _ (by trivial))))))),?_⟩;obtain⟨g,ob⟩:=a.ob;obtain⟨sp,y,u⟩:=a.hp;have cl:=os.cl;have D:=ok.l16;have r:e<S.came.length:=by lia
 have m:=vk S.came e r;refine⟨_,rfl,_,rfl,c.t,C,g,_,_,rfl,ob,T.cl,T.nN,vX,c.r,_,0,_,rfl,rfl,SqT.of a.na.net,rfl,_,rfl,c.t,C,g,_,_,rfl,ob,T.cl,T.nC,gq,_,rfl,c.lc,_,_,_,rfl,rfl,SqL.of a.hc,yR m,_,_,rfl,rfl,.inl ⟨by lia,by lia⟩,_,_,rfl,rfl,?_⟩;have ev:((e:Nat):Int)+((N.lanes:Nat):Int)*((S.came.getD e 0:Nat):Int)=((e+N.lanes*S.came.getD e 0:Nat):Int):=by rw[Int.natCast_add,Int.natCast_mul]
 simp only[ev];refine⟨_,rfl,c.t,C,g,_,_,rfl,ob,T.cl,T.nC,gq,_,rfl,c.lc,_,e,_,rfl,rfl,SqL.of a.hc,m,_,_,rfl,rfl,c.lc,_,_,e,rfl,rfl,a.hc,vt (by rw[zK];exact r),?_⟩;have p:((S.came.getD e 0:Nat):Int)+1=((S.came.getD e 0+1:Nat):Int):=by lia
 dsimp only;rw[p,oH];have q:c.t≠c.lc:=wN ob a.hc (by intro z;cases z);have n:c.t≠c.ln:=wN ob a.hn (by intro z;cases z);have l:L2.upd H c.lc (.lst (zJ (S.came.set e (S.came.getD e 0+1)))) c.t=some (.ins C g (yw c.r c.ls c.lp c.lc c.ln)):=by rw[zH q];exact ob
 have d:L2.upd H c.lc (.lst (zJ (S.came.set e (S.came.getD e 0+1)))) c.ln=some (.lst (zJ S.nms)):=by rw[zH a.d6.symm];exact a.hn
 refine⟨_,rfl,c.t,C,g,_,_,rfl,l,T.cl,T.nU,gp,.inl ⟨rfl,_,SqL.of d⟩,_,rfl,c.ln,_,_,rfl,rfl,d,by rw[zK,Y1];lia,?_⟩;have j:Tups H (L2.upd H c.lc (.lst (zJ (S.came.set e (S.came.getD e 0+1))))):=Tups.lst a.hc;have i:=Tups.lst (ys:=zJ S.nms++[.int ((e+N.lanes*S.came.getD e 0:Nat):Int)]) d;have B:zJ S.nms++[V.int ((e+N.lanes*S.came.getD e 0:Nat):Int)]=zJ (S.nms++[e+N.lanes*S.came.getD e 0]):=by unfold zJ;rw[JF];rfl
 refine⟨_,rfl,?_⟩;refine k _ ⟨⟨g,by rw[zH n];exact l⟩,(a.na.tups j).tups i,?_,⟨sp,?_,(u.tups j).tups i⟩,?_,?_,a.d1,a.d2,a.d3,a.d4,a.d5,a.d6⟩ λb o p _ _ x v=>?_
 ·rw[zH a.d3,zH a.d2];exact a.hs
 ·rw[zH a.d5,zH a.d4];exact y
 ·rw[zH a.d6,zG]
 ·rw[zG,B]
 ·rw[zH v,zH x];exact p
theorem zaO:FnScope ["self"] ["self"] (zP qL):=by trivial
theorem jI {f:Addr}{fd:FuncData}(F:Fun K "given" "Teller.given" qL f fd) (G:Mgs mg) (T:Txt K mg C):FnOk P w K mg base CX0 1 f fd ["self"] (tT C):=by
 refine F.ok zaO (λm H Q E h=>?_) (λt A outer s H m Q E o h=>?_)
 ·obtain⟨d,N,S,rfl,_⟩:=h
  rfl
 obtain⟨d,N,S,rfl,e,u,k⟩:=h;refine⟨_,(@zL _ _ _ (@zj _ _ _ _ (@yA _ _ _ _ _ _ _ _ _ zw (by rfl) G.tuple (by rfl) (@zA _ _ _ _ _ (@zp _ _ _ _ _ _ _ _ _ (uE true o.units) (by rfl) G.sorted (by rfl) (@zA _ _ _ _ _ (@yV _ _ _ _ _ (@qv _ 0 _ _ (by trivial)) rfl) zB (by rfl)) (by decide) (by decide) (by rfl) (by rfl)) zB (by rfl)) (by decide) (by decide) (by rfl) (by rfl)))),?_⟩;obtain⟨r,ob⟩:=e.ob;refine⟨_,rfl,d.t,C,r,_,_,rfl,ob,T.cl,T.nU,gp,d.ln,_,(λx=>match x with|.int i=>i|_=>0),rfl,SqL.of e.hn,by rw[zK];lia,.inl λx c=>?_,λl a j pm b=>?_⟩
 ·obtain⟨i,_,rfl⟩:=Yj.mp c
  exact⟨_,rfl,rfl⟩
 have n:=zC j (.lst a)
 obtain⟨ms,q,e2⟩:∃ ms:List Nat,a=zJ ms/\ms.Perm S.nms:=by
  refine⟨a.map λx=>match x with|.int i=>i.toNat|_=>0,?_,?_⟩
  ·unfold zJ
   rw[YL]
   conv=>lhs;rw[<- List.map_id a]
   refine JP λx c=>?_;obtain⟨i,_,rfl⟩:=Yj.mp (pm.mem_iff.mp c);rfl
  ·have:=pm.map λx=>match x with|.int i=>i.toNat|_=>0
   refine this.trans (List.Perm.of_eq ?_);unfold zJ;rw[YL]
   conv=>rhs;rw[<- List.map_id S.nms]
   exact JP λx _=>rfl
 subst q;refine⟨l,_,rfl,.inl ⟨SqL.of (zS j _),λp g=>k p ms _ (n.trans (zC g _)) e2 ?_ (zS g _)⟩⟩;unfold zJ at b;rw[Zc]at b;exact b.imp λh=>by simpa using h
theorem zaL:FnScope ["self"] ["self"] (zP iS):=by trivial
theorem dJ {f:Addr}{fd:FuncData}(F:Fun K "way" "Teller.way" iS f fd) (G:Mgs mg) (T:Txt K mg C):FnOk P w K mg base CX0 1 f fd ["self"] (ng C):=by
 refine F.ok zaL (λU H Q E h=>?_) (λY A outer s H U Q E hr h=>?_)
 ·obtain⟨u,N,S,rfl,_⟩:=h
  rfl
 obtain⟨u,N,S,rfl,B,hz,k⟩:=h;refine⟨_,(@zL _ _ _ (@zj _ _ _ _ (@yA _ _ _ _ _ _ _ _ _ zw (by rfl) G.tuple (by rfl) (@zA _ _ _ _ _ (@ue _ _ _ _ (some _) _ _ _ (cI K 2 (sX (wt 0) (sX (wt 1) cJ))) _ _ ["ball","spot"] [none,none] rfl (@qc _ _ _ _ _ _ _ _ true rfl G.enum (@zA _ _ _ _ _ (@yV _ _ _ _ _ (@qv _ 0 _ _ (by trivial)) rfl) zB (by rfl)) (by rfl)) (CapOk.of (by kernel_rfl)) (λ_ _ _ _ _=>(@yQ _ _ _ _ _ _ rfl (@zN _ _ _ _ _ (@zM _ _ 0 _ (show (["ball","spot"]:List Str).Nodup from by decide +kernel) rfl (.inl rfl) (.inr rfl)) (@zN _ _ _ _ _ (@zM _ _ 1 _ (show (["ball","spot"]:List Str).Nodup from by decide +kernel) rfl (.inl rfl) (.inr rfl)) yD (by rfl)) (by rfl)) (by rfl) (by rfl))) (λ_ _ _ _ _=>(@eR _ _ _ (@zu _ _ _ _ _ _ _ _ lO (@qv _ 1 _ _ (by trivial)) sG (by rfl)))) (λ_ _ _ _ _=>(@qv _ 0 _ _ (by trivial))) (by intro _;rfl)) zB (by rfl)) (by decide) (by decide) (by rfl) (by rfl)))),?_⟩;obtain⟨W,ob⟩:=B.ob;obtain⟨sp,L,D⟩:=B.hp;have V:=D.1;refine⟨_,rfl,u.t,C,W,_,_,rfl,ob,T.cl,T.nP,wv,u.lp,_,rfl,SqL.of L,λl M=>?_⟩;refine gR (K:=K) (b:=true) (a:=u.lp) (xs:=sp) (λi acc σ d=>(∃ y v,σ=[y,v])/\Same H d/\d l=some (.lst acc)/\acc=zJ ((List.range i).filter λj=>(S.spots.getD j none).isSome)) ⟨⟨_,_,rfl⟩,zC M _,zG,rfl⟩ (λi acc σ d z=>⟨z.2.2.1,SqL.of (z.2.1 _ _ L)⟩) ?_ ?_
 ·rintro i acc σ d x X J O ⟨⟨y,v,rfl⟩,r,c,e2⟩
  have I:=(J9.mp J).1;have io:i<S.spots.length:=by lia
  have n:=zC O (.tup [.int (i:Nat),x]);refine⟨X,_,rfl,SqT.of (zS O _),rfl,_,_,rfl,_,_,rfl,rfl,?_⟩;refine⟨_,rfl,rfl,_,rfl,?_⟩;have m:=D.2 i x _ J (J0 io);have R:S.spots.getD i none=S.spots[i]:=by rw[J7,J0 io];rfl
  have al:acc.length<=1000:=by
   rw[e2,zK];exact JM (List.length_filter_le _ _) (by rw[Jx];lia)
  cases t:S.spots[i] with
  | none =>
   rw[t]at m;obtain rfl:x=.non:=m;rw[JA rfl];refine yK (nx I ⟨⟨_,_,rfl⟩,r.trans n,n _ _ c,?_⟩)
   rw[e2,Yk,ZM,Zp,R,t];simp
  | some o =>
   rw[t]at m
   obtain⟨q,rfl,_⟩:∃ q,x=.ref q/\True:=by
    obtain⟨Z,k1⟩:=o;obtain⟨q,rfl,_⟩:=m;exact⟨q,rfl,trivial⟩
   rw[Js (by intro z;cases z)];refine xO ⟨_,rfl,n _ _ c,by rw[Y1];lia,nx I ⟨⟨_,_,rfl⟩,λb o e=>?_,zG,?_⟩⟩
   ·rw[zH (zF e M)];exact n _ _ (r b o e)
   ·rw[e2,Yk,ZM,Zp,R,t]
    unfold zJ;rw[JF];rfl
 rintro acc σ d ⟨⟨y,v,rfl⟩,r,c,e2⟩;rw[V]at e2;rw[e2]at c;exact⟨l,_,rfl,.inl ⟨SqL.of c,λp g=>k p _ (r.trans (zC g _)) (zS g _)⟩⟩
theorem cu (f:Nat × Nat)(t:Nat)(h:t<2):([V.int (f.1:Nat),V.int (f.2:Nat)]:List V)[t]?=some (.int ((if t=0 then f.1 else f.2:Nat):Int)):=by
 match t,h with
 | 0,_=>rfl
 | 1,_=>rfl
theorem iN:FnScope ["self","ball","lane","number","turn","onward"] ["self","ball"] (zP nu):=by trivial
theorem oB {f fB fN fE fM:Addr}{fd dB dN dE dM:FuncData}(F:Fun K "step" "Teller.step" nu f fd) (G:Mgs mg) (T:Txt K mg C) (Z:Use P w K mg base "is_below" ["thing","bound"] 2 (uy K) fB dB) (X:Use P w K mg base "next_fork" ["net","lane","number"] 1 qG fN dN) (Y:Use P w K mg base "end_of" ["net","lane"] 1 iK fE dE)
  (UM:UseM P w K mg base C "number_at" ["self","end"] 1 (uM C) fM dM):FnOk P w K mg base CX0 3 f fd ["self","ball"] (qD C):=by
 refine F.ok iN (λvs H Q E h=>?_) (λa4 A outer s H vs Q E hr h=>?_)
 ·obtain⟨a,N,S,ball,n,k,rfl,_⟩:=h
  rfl
 obtain⟨a,N,S,ball,n,k,rfl,ok,c,os,hb,hz,hn,L,ax⟩:=h;have y:Room 1 _:=hr.mono (by decide);refine⟨_,(@zD _ _ _ _ _ (@yu _ _ _ _ _ _ _ _ (@pY _ _ _ _ _ _ _ (@mD _ _ _ _ (@qY _ _ _ (@zQ _ _ _ _ _ _ _ _ _ _ _ _ _ _ _ _ Z.ok hr (by rfl) Z.m Z.kp Z.b .nil zZ (@zA _ _ _ _ _ (@qv _ 1 _ _ (by trivial)) (@zA _ _ _ _ _ (@zp _ _ _ _ _ _ _ _ _ zY (by rfl) G.len Y4 (@zA _ _ _ _ _ (@yV _ _ _ _ _ (@qv _ 0 _ _ (by trivial)) rfl) zB (by rfl)) (by decide) (by decide) (by rfl) (by rfl)) zB (by rfl)) (by rfl)) (by decide) (by rfl) (by rfl)) (by intro _;rfl))) (@qX _ _ _ _ (@zu _ _ _ _ _ _ _ _ bX (@zt _ _ _ _ _ _ _ zy (@yV _ _ _ _ _ (@qv _ 0 _ _ (by trivial)) rfl) (@qv _ 1 _ _ (by trivial)) (λ_ _=>rfl)) sG (by rfl)))).pt (@zL _ _ _ lJ) yO) (@zD _ _ _ _ _ (@yH _ _ _ _ _ _ (@zt _ _ _ _ _ _ _ zy (@yV _ _ _ _ _ (@qv _ 0 _ _ (by trivial)) rfl) (@qv _ 1 _ _ (by trivial)) (λ_ _=>rfl)) (@yQ _ _ _ _ _ _ rfl (@zN _ _ _ _ _ (@zM _ _ 2 _ iN.nd rfl (.inl rfl) (by trivial)) (@zN _ _ _ _ _ (@zM _ _ 3 _ iN.nd rfl (.inl rfl) (by trivial)) yD (by rfl)) (by rfl)) (by rfl) (by rfl)) (by rfl) (by rfl) (by rfl)) (@zD _ _ _ _ _ (@yu _ _ _ _ _ _ _ _ (@zu _ _ _ _ _ _ _ _ vL (@qv _ 3 _ _ (by trivial)) (@zp _ _ _ _ _ _ _ _ _ zY (by rfl) G.len Y4 (@zA _ _ _ _ _ (@zt _ _ _ _ _ _ _ yJ (@yV _ _ _ _ _ (@qv _ 0 _ _ (by trivial)) rfl) zE (λ_ _=>rfl)) zB (by rfl)) (by decide) (by decide) (by rfl) (by rfl)) (yE _)) (@zD _ _ _ _ _ (@yH _ _ _ _ _ _ sG (@xq _ _ _ _ _ _ _ (@yV _ _ _ _ _ (@qv _ 0 _ _ (by trivial)) rfl) (@qv _ 1 _ _ (by trivial)) yd (by intro _;rfl)) (by rfl) (by rfl) (by rfl)) (@zL _ _ _ (@zj _ _ _ _ (@qd _ _ _ _ _ _ _ _ _ _ _ _ _ _ _ _ _ _ _ _ (@qv _ 0 _ _ (by trivial)) T.cl UM.mt UM.ok y UM.b .nil zZ (@zA _ _ _ _ _ (@zQ _ _ _ _ _ _ _ _ _ _ _ _ _ _ _ _ Y.ok y (by rfl) Y.m Y.kp Y.b .nil zZ (@zA _ _ _ _ _ (@yV _ _ _ _ _ (@qv _ 0 _ _ (by trivial)) rfl) (@zA _ _ _ _ _ (@qv _ 2 _ _ (by trivial)) zB (by rfl)) (by rfl)) (by decide) (by rfl) (by rfl)) zB (by rfl)) (by rfl) (by rfl) (by rfl))))) yO) (@zD _ _ _ _ _ (@zr _ _ 4 _ _ _ _ iN.nd rfl (.inl rfl) (@zt _ _ _ _ _ _ _ zy (@yV _ _ _ _ _ (@qv _ 0 _ _ (by trivial)) rfl) (@qv _ 3 _ _ (by trivial)) (λ_ _=>rfl)) (by rfl) (by trivial)) (@zD _ _ _ _ _ (@yH _ _ _ _ _ _ (@zU _ _ _ _ _ _ _ _ qg zE (@qv _ 4 _ _ (by trivial))) (@xq _ _ _ _ _ _ _ (@yV _ _ _ _ _ (@qv _ 0 _ _ (by trivial)) rfl) (@qv _ 3 _ _ (by trivial)) yd (by intro _;rfl)) (by rfl) (by rfl) (by rfl)) (@zD _ _ _ _ _ (@zr _ _ 5 _ _ _ _ iN.nd rfl (.inl rfl) (@zt _ _ _ _ _ _ _ yJ (@zt _ _ _ _ _ _ _ yJ (@zt _ _ _ _ _ _ _ yJ (@yV _ _ _ _ _ (@qv _ 0 _ _ (by trivial)) rfl) zE (λ_ _=>rfl)) (@qv _ 3 _ _ (by trivial)) (λ_ _=>rfl)) (@qv _ 4 _ _ (by trivial)) (λ_ _=>rfl)) (by rfl) (by trivial)) (@zD _ _ _ _ _ (@yH _ _ _ _ _ _ (@yM _ _ _ _ _ (@zA _ _ _ _ _ (@qv _ 5 _ _ (by trivial)) (@zA _ _ _ _ _ (@zQ _ _ _ _ _ _ _ _ _ _ _ _ _ _ _ _ X.ok y (by rfl) X.m X.kp X.b .nil zZ (@zA _ _ _ _ _ (@yV _ _ _ _ _ (@qv _ 0 _ _ (by trivial)) rfl) (@zA _ _ _ _ _ (@qv _ 5 _ _ (by trivial)) (@zA _ _ _ _ _ (@zU _ _ _ _ _ _ _ _ ya (@qv _ 3 _ _ (by trivial)) zE) zB (by rfl)) (by rfl)) (by rfl)) (by decide) (by rfl) (by rfl)) zB (by rfl)) (by rfl))) (@xq _ _ _ _ _ _ _ (@yV _ _ _ _ _ (@qv _ 0 _ _ (by trivial)) rfl) (@qv _ 1 _ _ (by trivial)) yd (by intro _;rfl)) (by rfl) (by rfl) (by rfl)) (@zL _ _ _ (@zj _ _ _ _ sG))))))))),?_⟩;obtain⟨d,ob⟩:=c.ob;obtain⟨sp,t,M⟩:=c.hp;have sl:=M.1;have bl:=(J9.mp hb).1;have bs:ball<sp.length:=by lia
 obtain⟨hl,hk⟩:=os.sp n k (Ya hb);have W:sp[ball]?=some sp[ball]:=J0 bs;obtain⟨q,eq,hq⟩:=M.2 ball _ _ W hb;rw[eq]at W;have pl:=c.na.prs.len;refine⟨_,rfl,_,rfl,a.t,C,d,_,_,rfl,ob,T.cl,T.nP,wv,a.lp,_,rfl,.inl (SqL.of t),_,_,rfl,kL _,_,rfl,?_⟩;rw[nD bs];refine yK ⟨_,rfl,a.t,C,d,_,_,rfl,ob,T.cl,T.nP,wv,_,rfl,a.lp,_,_,_,rfl,rfl,SqL.of t,yR W,rfl,_,rfl,?_⟩;rw[Js (by intro z;cases z)];refine yK ⟨_,rfl,a.t,C,d,_,_,rfl,ob,T.cl,T.nP,wv,_,rfl,a.lp,_,_,_,rfl,rfl,SqL.of t,yR W,q,_,rfl,SqT.of hq,rfl,_,_,rfl,_,_,rfl,rfl,?_⟩;refine⟨_,rfl,_,rfl,a.t,C,d,_,_,rfl,ob,T.cl,T.nN,vX,a.r,_,1,_,rfl,rfl,SqT.of c.na.net,rfl,a.fr,_,rfl,.inr (SqT.of c.na.forks),rfl,_,rfl,?_⟩;have x:a.t≠a.lp:=wN ob t (by intro z;cases z);by_cases ke:k=N.forks.length
 ·rw[JA (show V.int ((k:Nat):Int)=V.int ((a.ps.length:Nat):Int) by rw[pl,ke])]
  refine xO ⟨_,rfl,a.t,C,d,_,_,rfl,ob,T.cl,T.nP,wv,_,rfl,a.lp,_,_,ball,rfl,rfl,t,vt bs,?_⟩;have tp:Tups H (L2.upd H a.lp (.lst (sp.set ball .non))):=Tups.lst t
  have D:TelAt C (L2.upd H a.lp (.lst (sp.set ball .non))) a N { S with spots:=S.spots.set ball none } :=
   ⟨⟨d,by rw[zH x];exact ob⟩,c.na.tups tp,by rw[zH c.d1];exact c.hs,⟨_,zG,(M.tups tp).set (o:=none) rfl ball⟩,by rw[zH c.d4.symm];exact c.hc,by rw[zH c.d5.symm];exact c.hn,c.d1,c.d2,c.d3,c.d4,c.d5,c.d6⟩
  have ao:OkS N { S with spots:=S.spots.set ball none }:=by
   refine⟨os.sl,os.sv,λl k' m=>?_,os.cl⟩;rcases vC m with m|m
   ·exact os.sp l k' m
   ·cases m
  have j:L2.upd H a.lp (.lst (sp.set ball .non)) a.t=some (.ins C d (yw a.r a.ls a.lp a.lc a.ln)):=by rw[zH x];exact ob
  refine⟨_,rfl,a.t,d,_,rfl,j,oi (by decide +kernel) (by decide +kernel) (by decide +kernel) (by decide +kernel) (by decide +kernel),_,rfl,a.t,C,d,_,_,rfl,j,T.cl,T.nN,vX,_,rfl,a.r,a.fr,a.er,a.ps,N,n,rfl,ok,D.na,hl,?_⟩;refine⟨a,N,_,y8 N n,rfl,ok,D,ao,mh ok hl,hn,λH2 ak b2=>?_⟩;exact L ke H2 ak λb o e n1 O n3 n4=>b2 b o (by rw[zH O];exact e) n1 O n3 n4
 ·have U:k<N.forks.length:=by lia
  rw[Js (show ¬ V.int ((k:Nat):Int)=V.int ((a.ps.length:Nat):Int) by intro z;injection z with z;rw[pl]at z;lia)];refine yK ?_;have R:k<S.sets.length:=by rw[os.sl];exact U
  have a3:=vk S.sets k R
  have t2:S.sets.getD k 0<2:=by
   rw[J7,J0 R];exact os.sv _ (Yb R)
  refine⟨_,rfl,a.t,C,d,_,_,rfl,ob,T.cl,T.nS,gn,_,rfl,a.ls,_,_,_,rfl,rfl,SqL.of c.hs,yR a3,?_⟩;refine⟨_,rfl,_,_,rfl,rfl,_,rfl,a.t,C,d,_,_,rfl,ob,T.cl,T.nS,gn,_,rfl,a.ls,_,_,k,rfl,rfl,c.hs,vt (by rw[zK];exact R),?_⟩;have e1:(1:Int)-((S.sets.getD k 0:Nat):Int)=((1-S.sets.getD k 0:Nat):Int):=by lia
  dsimp only;rw[e1,oH];have ab:a.t≠a.ls:=wN ob c.hs (by intro z;cases z);have B:Tups H (L2.upd H a.ls (.lst (zJ (S.sets.set k (1-S.sets.getD k 0))))):=Tups.lst c.hs;have p:=c.na.tups B;have j:L2.upd H a.ls (.lst (zJ (S.sets.set k (1-S.sets.getD k 0)))) a.t=some (.ins C d (yw a.r a.ls a.lp a.lc a.ln)):=by rw[zH ab];exact ob
  have J:L2.upd H a.ls (.lst (zJ (S.sets.set k (1-S.sets.getD k 0)))) a.lp=some (.lst sp):=by rw[zH c.d1.symm];exact t
  obtain⟨g,f,eg,ef,hg⟩:=p.prs.get (i:=k) (J0 (show k<a.ps.length by lia));have aC:a.ps[k]?=some (.ref g):=by rw[J0 (show k<a.ps.length by lia),eg]
  have a0:onT N S ball k=if S.sets.getD k 0=0 then f.1 else f.2:=by
   unfold onT;rw[J7 (l:=N.forks),ef];rfl
  have at2:=cu f _ t2;rw[<- a0]at at2;have on:onT N S ball k<N.lanes:=(OkS.go (ball:=ball) (k':=0) ok os U (JX _)).1;refine⟨_,rfl,a.t,C,d,_,_,rfl,j,T.cl,T.nN,vX,a.r,_,1,_,rfl,rfl,SqT.of p.net,rfl,_,rfl,a.fr,_,_,_,rfl,rfl,SqT.of p.forks,yR aC,_,rfl,g,_,_,_,rfl,rfl,SqT.of hg,yR at2,?_⟩;refine⟨_,rfl,_,rfl,a.t,C,d,_,_,rfl,j,T.cl,T.nN,vX,_,rfl,_,rfl,_,_,rfl,rfl,a.r,a.fr,a.er,a.ps,N,onT N S ball k,k+1,rfl,ok,p,U,λk' nk=>?_⟩;refine⟨(by show 2<=sizeLine;decide),λq2 I=>?_⟩;have r:=zC I (.tup [.int (onT N S ball k:Nat),.int (k':Nat)]);refine⟨_,rfl,a.t,C,d,_,_,rfl,r _ _ j,T.cl,T.nP,wv,_,rfl,a.lp,_,_,ball,rfl,rfl,r _ _ J,vt bs,?_⟩;have u:=Tups.lst (ys:=sp.set ball (.ref q2)) (r _ _ J);refine ax U k' _ nk ⟨⟨d,by rw[zH x];exact r _ _ j⟩,(p.tups (Tups.of r)).tups u,?_,⟨_,zG,?_⟩,?_,?_,c.d1,c.d2,c.d3,c.d4,c.d5,c.d6⟩ λb o e n1 O n3 n4=>?_
  ·rw[zH c.d1];exact r _ _ zG
  ·exact(((M.tups B).tups (Tups.of r)).tups u).set (v:=.ref q2) (o:=some (onT N S ball k,k')) ⟨q2,rfl,u _ _ (zS I _)⟩ ball
  ·rw[zH c.d4.symm];refine r _ _ ?_;rw[zH c.d2.symm];exact c.hc
  ·rw[zH c.d5.symm];refine r _ _ ?_;rw[zH c.d3.symm];exact c.hn
  ·rw[zH O];refine r _ _ ?_;rw[zH n1];exact e
end
abbrev iU:Stmt:=top 14
abbrev qO:Stmt:=top 15
section
variable {P:Program}{w:World}{K:PySem.W.Frag}{mg:Str->Option Value}{base:Heap}
theorem scF:FnScope ["net","counts","on_lanes","turns","one","other","come"] ["net","counts"] (zP qO):=by trivial
theorem jL {f:Addr}{fd:FuncData}(F:Fun K "flowed" "flowed" qO f fd) (G:Mgs mg):FnOk P w K mg base CX0 1 f fd ["net","counts"] tW:=by
 refine F.ok scF (λL H Q E h=>?_) (λU A outer s H L Q E W h=>?_)
 ·obtain⟨r,fr,S,B,N,c,cs,rfl,_⟩:=h
  rfl
 obtain⟨r,fr,S,B,N,c,cs,rfl,ok,na,M,cl,k⟩:=h;refine⟨_,(@zD _ _ _ _ _ (@zr _ _ 2 _ _ _ _ scF.nd rfl (.inl rfl) (@yA _ _ _ _ _ _ _ _ _ uF (by rfl) G.list (by rfl) (@zA _ _ _ _ _ (@qv _ 1 _ _ (by trivial)) zB (by rfl)) (by decide) (by decide) (by rfl) (by rfl)) (by rfl) (by trivial)) (@zD _ _ _ _ _ (@zr _ _ 3 _ _ _ _ scF.nd rfl (.inl rfl) (@yS _ _ _ _ zB) (by rfl) (by trivial)) (@zD _ _ _ _ _ (@xp _ _ _ _ _ _ _ _ YC rfl (@wn _ _ _ _ (@zt _ _ _ _ _ _ _ yJ (@qv _ 0 _ _ (by trivial)) zE (λ_ _=>rfl))) (@yQ _ _ _ _ _ _ rfl (@zN _ _ _ _ _ (@zM _ _ 4 _ scF.nd rfl (.inl rfl) (by trivial)) (@zN _ _ _ _ _ (@zM _ _ 5 _ scF.nd rfl (.inl rfl) (by trivial)) yD (by rfl)) (by rfl)) (by rfl) (by rfl)) (@zD _ _ _ _ _ (@zr _ _ 6 _ _ _ _ scF.nd rfl (.inl rfl) (@zU _ _ _ _ _ _ _ _ ya (@zt _ _ _ _ _ _ _ zy (@qv _ 2 _ _ (by trivial)) (@qv _ 4 _ _ (by trivial)) (λ_ _=>rfl)) (@zt _ _ _ _ _ _ _ zy (@qv _ 2 _ _ (by trivial)) (@qv _ 5 _ _ (by trivial)) (λ_ _=>rfl))) (by rfl) (by trivial)) (@zD _ _ _ _ _ (@yH _ _ _ _ _ _ (@zU _ _ _ _ _ _ _ _ wB (@zU _ _ _ _ _ _ _ _ ya (@qv _ 6 _ _ (by trivial)) zE) zE) (@xq _ _ _ _ _ _ _ (@qv _ 2 _ _ (by trivial)) (@qv _ 4 _ _ (by trivial)) yd (by intro _;rfl)) (by rfl) (by rfl) (by rfl)) (@zD _ _ _ _ _ (@yH _ _ _ _ _ _ (@zU _ _ _ _ _ _ _ _ wB (@qv _ 6 _ _ (by trivial)) zE) (@xq _ _ _ _ _ _ _ (@qv _ 2 _ _ (by trivial)) (@qv _ 5 _ _ (by trivial)) yd (by intro _;rfl)) (by rfl) (by rfl) (by rfl)) (@zL _ _ _ (@wA _ _ _ _ (@vh _ _ _ _ _ _ _ _ _ _ _ _ Ym Ze Zf y7 (@qv _ 3 _ _ (by trivial)) (@zA _ _ _ _ _ (@zU _ _ _ _ _ _ _ _ xS (@qv _ 6 _ _ (by trivial)) zE) zB (by rfl)) (by rfl) (by rfl) (by rfl) (by rfl) (by rfl)) (by rfl)))))) (by intro _;rfl)) (@zL _ _ _ (@zj _ _ _ _ (@yM _ _ _ _ _ (@zA _ _ _ _ _ (@qv _ 2 _ _ (by trivial)) (@zA _ _ _ _ _ (@qv _ 3 _ _ (by trivial)) zB (by rfl)) (by rfl)))))))),?_⟩;refine⟨_,rfl,c,_,rfl,.inr (SqT.of M),λlo l=>?_⟩;have C:=zC l (.lst (cs.map V.int));refine⟨(by show 0<=sizeLine;decide),λlt j=>?_⟩;have z:=C.trans (zC j (.lst []));have ne:lo≠lt:=zF zG j;refine⟨_,rfl,r,_,_,_,rfl,rfl,SqT.of (z _ _ na.net),rfl,fr,rfl,⟨_,SqT.of (z _ _ na.forks)⟩,?_⟩
 refine qy (K:=K) (a:=fr) (xs:=B) (λi σ d=>(∃ y x v,σ=[some (.ref r),some (.ref c),some (.ref lo),some (.ref lt),y,x,v])/\Same H d/\d lo=some (.lst ((yz (N.forks.take i) cs).1.map V.int))/\d lt=some (.lst ((yz (N.forks.take i) cs).2.map V.int)))
  ⟨⟨_,_,_,rfl⟩,z,by rw[zH ne];exact zG,zG⟩ (λi σ d _ q=>SqT.of (q.2.1 _ _ na.forks)) ?_ ?_
 ·rintro i p σ d n ⟨⟨y,x,v,rfl⟩,t,m,u⟩
  obtain⟨a,g,rfl,J,O⟩:=(na.prs.tups (Tups.of t)).get n;have T:=ok.fk g (Ya J);have X:(yz (N.forks.take i) cs).1.length=N.lanes:=by rw[wu,cl]
  have R:(yz (N.forks.take i) cs).2.length<=128:=by rw[md,JN];have:=ok.fm;lia
  have I:=uT J cs;generalize yz (N.forks.take i) cs=st at *;refine⟨a,_,rfl,SqT.of O,rfl,_,_,rfl,_,_,rfl,rfl,?_⟩;refine⟨_,rfl,_,rfl,lo,_,_,_,rfl,rfl,SqL.of m,rC (by lia),_,rfl,_,rfl,lo,_,_,_,rfl,rfl,SqL.of m,rC (by lia),_,_,rfl,rfl,?_⟩;refine⟨_,rfl,_,_,rfl,rfl,_,_,rfl,rfl,⟨by decide,by decide⟩,_,rfl,_,rfl,lo,_,_,g.1,rfl,rfl,m,vt (by rw[Je];lia),?_⟩;refine⟨_,rfl,_,_,rfl,rfl,⟨by decide,by decide⟩,_,rfl,_,rfl,lo,_,_,g.2,rfl,rfl,zG,vt (by rw[Yd,Je];lia),?_⟩
  have D:upd (upd d lo (.lst ((st.1.map V.int).set g.1 (.int ((st.1.getD g.1 0+st.1.getD g.2 0+1) / 2))))) lo (.lst (((st.1.map V.int).set g.1 (.int ((st.1.getD g.1 0+st.1.getD g.2 0+1) / 2))).set g.2 (.int ((st.1.getD g.1 0+st.1.getD g.2 0) / 2)))) lt=some (.lst (st.2.map V.int)):=by
   rw[zH ne.symm,zH ne.symm];exact u
  refine⟨_,rfl,.inl ⟨rfl,_,SqL.of D⟩,_,rfl,_,_,rfl,rfl,(by show (0:Int)<2;decide),lt,_,_,rfl,rfl,D,by rw[Je];exact Nat.lt_of_le_of_lt R (by decide),⟨_,_,_,rfl⟩,λb o e=>?_,?_,?_⟩
  ·rw[zH (zF (C b o e) j),zH (zF e l),zH (zF e l)];exact t b o e
  ·rw[zH ne,zG,I]
   unfold xk;rw[ve,ve]
  ·rw[zG,I]
   unfold xk;rw[JF];rfl
 ·rintro σ d ⟨⟨y,x,v,rfl⟩,t,m,u⟩
  have e:N.forks.take B.length=N.forks:=by rw[na.prs.len];exact YB
  rw[e]at m u;exact⟨_,rfl,_,rfl,(by show 2<=sizeLine;decide),λp n=>k p lo lt _ (t.trans (zC n _)) zG (zC n _ _ _ m) (zC n _ _ _ u)⟩
theorem scE:FnScope ["net","counts","on_lanes","turns"] ["net","counts"] (zP iU):=by trivial
theorem dZ {f R:Addr}{fd U:FuncData}(F:Fun K "ends_of" "ends_of" iU f fd) (G:Mgs mg) (u:Use P w K mg base "flowed" ["net","counts"] 1 tW R U):FnOk P w K mg base CX0 2 f fd ["net","counts"] ni:=by
 refine F.ok scE (λI H Q E h=>?_) (λY A outer s H I Q E J h=>?_)
 ·obtain⟨r,fr,t,C,N,c,cs,rfl,_⟩:=h
  rfl
 obtain⟨r,fr,t,C,N,c,cs,rfl,ok,na,O,cl,k⟩:=h;refine⟨_,(@zD _ _ _ _ _ (@yH _ _ _ _ _ _ (@zQ _ _ _ _ _ _ _ _ _ _ _ _ _ _ _ _ u.ok J (by rfl) u.m u.kp u.b .nil zZ (@zA _ _ _ _ _ (@qv _ 0 _ _ (by trivial)) (@zA _ _ _ _ _ (@qv _ 1 _ _ (by trivial)) zB (by rfl)) (by rfl)) (by decide) (by rfl) (by rfl)) (@yQ _ _ _ _ _ _ rfl (@zN _ _ _ _ _ (@zM _ _ 2 _ scE.nd rfl (.inr rfl) (by trivial)) (@zN _ _ _ _ _ (@zM _ _ 3 _ scE.nd rfl (.inl rfl) (by trivial)) yD (by rfl)) (by rfl)) (by rfl) (by rfl)) (by rfl) (by rfl) (by rfl)) (@zL _ _ _ (@zj _ _ _ _ (@yA _ _ _ _ _ _ _ _ _ zw (by rfl) G.tuple (by rfl) (@zA _ _ _ _ _ (@ue _ _ _ _ none _ _ _ _ _ _ ["lane","on_lanes"] [none,some 2] rfl (@wn _ _ _ _ (@zt _ _ _ _ _ _ _ yJ (@qv _ 0 _ _ (by trivial)) zE (λ_ _=>rfl))) (CapOk.of (by kernel_rfl)) (λ_ _ _ _ _=>(@zM _ _ 0 _ (show (["lane","on_lanes"]:List Str).Nodup from by decide +kernel) rfl (.inl rfl) (.inr rfl))) (λ_ _ _ _ _=>xX) (λ_ _ _ _ _=>(@zt _ _ _ _ _ _ (bN K) zy (@qv _ 1 _ _ (by trivial)) (@qv _ 0 _ _ (by trivial)) (λ_ _=>rfl))) (by intro _;rfl)) zB (by rfl)) (by decide) (by decide) (by rfl) (by rfl))))),?_⟩;refine⟨_,rfl,_,rfl,r,fr,t,C,N,c,cs,rfl,ok,na,O,cl,λp lo lt W B M D Z=>?_⟩;refine⟨p,_,rfl,SqT.of M,rfl,_,_,rfl,_,_,rfl,rfl,?_⟩;have d:=na.tups (Tups.of B);refine⟨_,rfl,r,_,_,_,rfl,rfl,SqT.of d.net,rfl,t,rfl,⟨_,SqT.of d.ends⟩,λl y=>?_⟩;have X:lo≠l:=zF D y;refine qt (K:=K) (a:=t) (xs:=zJ N.ends) (λi acc σ g=>(∃ v,σ=[v,some (.ref lo)])/\Same W g/\g l=some (.lst acc)/\acc=((yB N cs).take i).map V.int) ⟨⟨_,rfl⟩,zC y _,zG,rfl⟩ (λi acc σ g q=>⟨q.2.2.1,SqT.of (q.2.1 _ _ d.ends)⟩) ?_ ?_
 ·rintro i x acc σ g n ⟨⟨v,rfl⟩,j,z,rfl⟩
  have m:i<N.ends.length:=by have:=(J9.mp n).1;rwa [zK]at this
  have ex:x=.int N.ends[i]:=by
   unfold zJ at n;rw[JD,J0 m]at n;exact(Jv n).symm
  subst ex;have lt':=lj ok (Yb m);refine⟨_,rfl,_,rfl,lo,_,_,_,rfl,rfl,SqL.of (j _ _ D),rC (by rw[wu,cl];exact lt'),z,?_,nx (by rw[zK];exact m) ⟨⟨_,rfl⟩,λb o e=>?_,zG,?_⟩⟩
  ·rw[Je,JN];exact Nat.lt_of_le_of_lt (Nat.min_le_left _ _) (JG (show i<1000 by have:=sY ok;have:=ok.l16;lia) (by decide))
  ·rw[zH (zF e y)];exact j b o e
  ·have S:i<(yB N cs).length:=by unfold yB;rw[Je];exact m
   have T:(yB N cs)[i]=(yz N.forks cs).1.getD N.ends[i] 0:=by simp[yB]
   rw[JR S,JF,T];rfl
 ·rintro acc σ g ⟨⟨v,rfl⟩,j,z,rfl⟩
  refine⟨l,_,rfl,.inl ⟨SqL.of z,λq L=>k q _ ((B.trans j).trans (zC L _)) ?_⟩⟩;rw[zG,zK,Zr (by unfold yB;rw[Je];exact Jf _)]
end
abbrev bL:Stmt:=top 38
def uV (lanes:Nat)(ls:List Nat):List Int:=((List.range lanes).map λq=>ls.count q).map Int.ofNat
theorem g9 (lanes:Nat)(ls:List Nat):(uV lanes ls).length=lanes:=by unfold uV;rw[Je,Je,Jx]
def iL:Sp:=λd H Q _=>∃ (r fr f:Addr) (e:List V) (N:Nt) (c:Addr) (ls a:List Nat),d=[.ref r,.ref c]/\Nt.Ok N/\NetAt H r fr f e N/\H c=some (.lst (zJ ls))/\ls.length<=1000/\a.map Int.ofNat=yB N (uV N.lanes ls)/\a.length=N.lanes/\(x6 N.lanes a N.lanes).length<=1000 /\
 ∀ p ms b,Same H b->ms.Perm (x6 N.lanes a N.lanes)->ms.Pairwise (·<=·)->b p=some (.tup (zJ ms))->Q (.ref p) b
section
variable {P:Program}{w:World}{K:PySem.W.Frag}{mg:Str->Option Value}{base:Heap}{C:Addr}
theorem i9 {f:Addr}{fd:FuncData}{ps:List Str}(h:FnOk P w K mg base CX0 3 f fd ps (qD C)):FnOk P w K mg base CX0 3 f fd ps (tR C) :=
 h.imp λs H Q E ⟨A,N,S,c,b,k,e,ok,i,os,o,r,p,q⟩=>⟨A,N,S,c,b,k,e,ok,i,os,o,r,p,λm g a d=>q _ _ g (.inl ⟨m,rfl,rfl⟩) a d,λl n g j a d=>q _ _ g (.inr ⟨l,rfl,n,j,rfl⟩) a d⟩
theorem bh {n s p c u:Addr}:(yw n s p c u).lookup ("given":Str)=none:=oi (by decide +kernel) (by decide +kernel) (by decide +kernel) (by decide +kernel) (by decide +kernel)
theorem za2 {n s p c u:Addr}:(yw n s p c u).lookup ("step":Str)=none:=oi (by decide +kernel) (by decide +kernel) (by decide +kernel) (by decide +kernel) (by decide +kernel)
theorem az {n s p c u:Addr}:(yw n s p c u).lookup ("way":Str)=none:=oi (by decide +kernel) (by decide +kernel) (by decide +kernel) (by decide +kernel) (by decide +kernel)
theorem iO:FnScope ["_law_net_here","_law_lanes","_law_counts","_law_found","_law_end","_law_many"] ["_law_net_here","_law_lanes"] (zP bL):=by trivial
theorem bf {f fE:Addr}{fd dE:FuncData}(F:Fun K "_law_due" "_law_due" bL f fd) (G:Mgs mg) (Z:Use P w K mg base "ends_of" ["net","counts"] 2 ni fE dE):FnOk P w K mg base CX0 3 f fd ["_law_net_here","_law_lanes"] iL:=by
 refine F.ok iO (λvs H Q E h=>?_) (λa4 A outer s H vs Q E hr h=>?_)
 ·obtain⟨r,fr,er,ps,N,Y,ls,d,rfl,_⟩:=h
  rfl
 obtain⟨r,fr,er,ps,N,Y,ls,d,rfl,ok,na,ak,ax,ee,el,hz,k⟩:=h;refine⟨_,(@zD _ _ _ _ _ (@zr _ _ 2 _ _ _ _ iO.nd rfl (.inl rfl) (@yA _ _ _ _ _ _ _ _ _ zw (by rfl) G.tuple (by rfl) (@zA _ _ _ _ _ (@ue _ _ _ _ none _ _ _ _ _ (tBM K "list" rCountN (iC 1) (cc (iC 0) bA)) ["_law_lane","_law_lanes"] [none,some 1] rfl (@y4 _ _ _ _ _ _ rfl G.range (@zA _ _ _ _ _ (@zt _ _ _ _ _ _ _ yJ (@qv _ 0 _ _ (by trivial)) zE (λ_ _=>rfl)) zB (by rfl)) (by rfl)) (CapOk.of (by kernel_rfl)) (λ_ _ _ _ _=>(@zM _ _ 0 _ (show (["_law_lane","_law_lanes"]:List Str).Nodup from by decide +kernel) rfl (.inl rfl) (.inr rfl))) (λ_ _ _ _ _=>xX) (λ_ _ _ _ _=>(@vh _ _ _ _ _ _ _ _ _ _ _ _ Ym PySem.F.slot_list_count PySem.F.type_list_count jQ (@qv _ 1 _ _ (by trivial)) (@zA _ _ _ _ _ (@qv _ 0 _ _ (by trivial)) zB (by rfl)) (by rfl) (by rfl) (by rfl) (by rfl) (by rfl))) (by intro _;rfl)) zB (by rfl)) (by decide) (by decide) (by rfl) (by rfl)) (by rfl) (by trivial)) (@zD _ _ _ _ _ (@zr _ _ 3 _ _ _ _ iO.nd rfl (.inl rfl) (@yS _ _ _ _ zB) (by rfl) (by trivial)) (@zD _ _ _ _ _ (@xp _ _ _ _ _ _ _ _ YC rfl (@qc _ _ _ _ _ _ _ _ false rfl G.enum (@zA _ _ _ _ _ (@zQ _ _ _ _ _ _ _ _ _ _ _ _ _ _ _ _ Z.ok hr (by rfl) Z.m Z.kp Z.b .nil zZ (@zA _ _ _ _ _ (@qv _ 0 _ _ (by trivial)) (@zA _ _ _ _ _ (@qv _ 2 _ _ (by trivial)) zB (by rfl)) (by rfl)) (by decide) (by rfl) (by rfl)) zB (by rfl)) (by rfl)) (@yQ _ _ _ _ _ _ rfl (@zN _ _ _ _ _ (@zM _ _ 4 _ iO.nd rfl (.inr rfl) (by trivial)) (@zN _ _ _ _ _ (@zM _ _ 5 _ iO.nd rfl (.inl rfl) (by trivial)) yD (by rfl)) (by rfl)) (by rfl) (by rfl)) (@zL _ _ _ (@wA _ _ _ _ (@vh _ _ _ _ _ _ _ _ _ _ _ _ Ym PySem.F.slot_list_extend PySem.F.type_list_extend jP (@qv _ 3 _ _ (by trivial)) (@zA _ _ _ _ _ (@ue _ _ _ _ none _ _ _ _ _ _ ["_law_k","_law_end","_law_net_here"] [none,some 4,some 0] rfl (@y4 _ _ _ _ _ _ rfl G.range (@zA _ _ _ _ _ (@qv _ 5 _ _ (by trivial)) zB (by rfl)) (by rfl)) (CapOk.of (by kernel_rfl)) (λ_ _ _ _ _=>(@zM _ _ 0 _ (show (["_law_k","_law_end","_law_net_here"]:List Str).Nodup from by decide +kernel) rfl (.inl rfl) (.inr rfl))) (λ_ _ _ _ _=>xX) (λ_ _ _ _ _=>(@zU _ _ _ _ _ _ _ _ ya (@qv _ 1 _ _ (by trivial)) (@zU _ _ _ _ _ _ _ _ xR (@zt _ _ _ _ _ _ (iY K) yJ (@qv _ 2 _ _ (by trivial)) zE (λ_ _=>rfl)) (@qv _ 0 _ _ (by trivial))))) (by intro _;rfl)) zB (by rfl)) (by rfl) (by rfl) (by rfl) (by rfl) (by rfl)) (by rfl))) (by intro _;rfl)) (@zL _ _ _ (@zj _ _ _ _ (@yA _ _ _ _ _ _ _ _ _ zw (by rfl) G.tuple (by rfl) (@zA _ _ _ _ _ (@zp _ _ _ _ _ _ _ _ _ (uE true hr.units) (by rfl) G.sorted (by rfl) (@zA _ _ _ _ _ (@qv _ 3 _ _ (by trivial)) zB (by rfl)) (by decide) (by decide) (by rfl) (by rfl)) zB (by rfl)) (by decide) (by decide) (by rfl) (by rfl))))))),?_⟩;have aC:=ok.l16;refine⟨_,rfl,r,_,0,_,rfl,rfl,SqT.of na.net,rfl,((N.lanes:Nat):Int),rfl,by lia,by lia,λlc g=>?_⟩;refine sR (lo:=0) (n:=((N.lanes:Nat):Int).toNat) (λj acc σ m=>(∃ u,σ=[u,some (.ref Y)])/\Same H m/\m lc=some (.lst acc)/\acc=zJ ((List.range j).map λq=>ls.count q)) ⟨⟨_,rfl⟩,zC g _,zG,rfl⟩ (λj acc σ m z=>z.2.2.1) ?_ ?_
 ·rintro j acc σ m hj ⟨⟨u,rfl⟩,U,h9,L⟩
  have jl:j<N.lanes:=by lia
  have t:=U _ _ ak;refine⟨_,rfl,.inl ⟨rfl,_,SqL.of t⟩,_,rfl,Y,ls,j,rfl,Yh (λz=>[V.int z]) (Int.zero_add _),t,?_⟩;refine⟨h9,by rw[L,zK,Je,Jx,Y1];lia,nx hj ⟨⟨_,rfl⟩,λb o e=>?_,zG,?_⟩⟩
  ·rw[zH (zF e g)];exact U b o e
  ·rw[L,Yk,JF]
   unfold zJ;rw[JF];rfl
 rintro acc σ m ⟨⟨u,rfl⟩,U,h9,L⟩;rw[Yc]at L;refine⟨lc,_,rfl,.inl ⟨SqL.of h9,λc ab=>?_⟩⟩;have ec:acc=(uV N.lanes ls).map V.int:=by rw[L,wd];rfl
 rw[ec];clear L;obtain⟨cs,R⟩:∃ cs,cs=uV N.lanes ls:=⟨_,rfl⟩;have cl:cs.length=N.lanes:=by rw[R];exact g9 _ _
 rw[<- R]at ee ⊢;have s0:Same H (L2.upd m c (.tup (cs.map V.int))):=U.trans (zC ab _);have hc:L2.upd m c (.tup (cs.map V.int)) c=some (.tup (cs.map V.int)):=zG;have na:=na.tups (Tups.of s0);have k:=λp ms H' (s':Same (L2.upd m c (.tup (cs.map V.int))) H')=>k p ms H' (s0.trans s');refine zak Q ?_;show pO _ _ _ _ (L2.upd m c (.tup (cs.map V.int)));generalize L2.upd m c (.tup (cs.map V.int))=H at *;refine⟨(by show 0<=sizeLine;decide),λlf I=>?_⟩;have s1:=zC I (.lst []);refine⟨_,rfl,_,rfl,r,fr,er,ps,N,c,cs,rfl,ok,na.tups (Tups.of s1),s1 _ _ hc,cl,λpe H2 s2 D=>?_⟩;rw[<- ee,<- wd]at D;refine⟨pe,_,rfl,SqT.of D,?_⟩;have u2:=s1.trans s2;refine og (K:=K) (b:=false) (a:=pe) (xs:=zJ d) (λi σ B=>(∃ v4 v5,σ=[some (.ref r),some (.ref Y),some (.ref c),some (.ref lf),v4,v5])/\Same H B/\B pe=some (.tup (zJ d))/\B lf=some (.lst (zJ (x6 N.lanes d i)))) ⟨⟨_,_,rfl⟩,u2,D,s2 _ _ (zS I _)⟩ (λi σ B _ z=>SqT.of z.2.2.1) ?_ ?_
 ·rintro i x σ B T v hT ⟨⟨v3,v4,rfl⟩,X,C,y⟩
  have il:i<d.length:=by have:=(J9.mp v).1;rwa [zK]at this
  rw[vk d i il]at v;cases v;have W:=zC hT (.tup [.int (i:Nat),.int (d.getD i 0:Nat)]);have S:=sZ N.lanes d i
  have a3:(x6 N.lanes d (i+1)).length<=(x6 N.lanes d N.lanes).length:=by
   have:=lw N.lanes d (i+1) (N.lanes-(i+1))
   rwa [show i+1+(N.lanes-(i+1))=N.lanes by lia]at this
  have a0:(x6 N.lanes d (i+1)).length=(x6 N.lanes d i).length+d.getD i 0:=by rw[S,Jj,Je,Jx]
  have cm:d.getD i 0<=1000:=by lia
  refine⟨T,_,rfl,SqT.of (zS hT _),rfl,_,_,rfl,_,_,rfl,rfl,?_⟩;refine⟨_,rfl,.inl ⟨rfl,_,SqL.of (W _ _ y)⟩,_,rfl,((d.getD i 0:Nat):Int),rfl,by lia,by lia,λlc g=>?_⟩;have cne:lc≠lf:=(zF (W _ _ y) g).symm;refine sR (lo:=0) (n:=((d.getD i 0:Nat):Int).toNat) (λj acc σ O=>(∃ u,σ=[u,some (.int (i:Nat)),some (.ref r)])/\Same B O/\O lc=some (.lst acc)/\acc=zJ ((List.range j).map λq=>i+N.lanes*q)) ⟨⟨_,rfl⟩,W.trans (zC g _),zG,rfl⟩ (λj acc σ O z=>z.2.2.1) ?_ ?_
  ·rintro j acc σ O hj ⟨⟨u,rfl⟩,J,h6,M⟩
   have jl:j<d.getD i 0:=by lia
   refine⟨_,rfl,_,rfl,r,_,0,_,rfl,rfl,SqT.of (J _ _ (X _ _ na.net)),rfl,?_⟩;refine⟨_,rfl,_,_,rfl,rfl,.inr ⟨by lia,by lia⟩,_,_,rfl,rfl,?_⟩;have ev:((i:Nat):Int)+((N.lanes:Nat):Int)*(0+(j:Nat))=((i+N.lanes*j:Nat):Int):=by rw[Int.zero_add,Int.natCast_add,Int.natCast_mul]
   simp only[ev];refine⟨h6,by rw[M,zK,Je,Jx,Y1];lia,nx hj ⟨⟨_,rfl⟩,λb o e=>?_,zG,?_⟩⟩
   ·rw[zH (zF (W _ _ e) g)];exact J b o e
   ·rw[M,Yk,JF]
    unfold zJ;rw[JF];rfl
  rintro acc σ O ⟨⟨u,rfl⟩,J,h6,M⟩;rw[Yc]at M;have ao:=J _ _ y;refine⟨lf,lc,_,_,rfl,rfl,ao,h6,by rw[M,zK,zK,Je,Jx,Y1];lia,⟨_,_,rfl⟩,λb o e=>?_,?_,?_⟩
  ·rw[zH (zF e I)];exact J _ _ (X b o e)
  ·rw[zH (wN C y (by intro z;cases z))];exact J _ _ C
  ·rw[zG,S,M]
   unfold zJ;rw[JF]
 rintro σ B ⟨⟨v3,v4,rfl⟩,X,C,y⟩;rw[zK,el]at y;refine⟨_,rfl,lf,_,(λx=>match x with|.int i=>i|_=>0),rfl,SqL.of y,by rw[zK];lia,.inl λx v=>?_,λl ys hl pm so=>?_⟩
 ·obtain⟨i,_,rfl⟩:=Yj.mp v
  exact⟨_,rfl,rfl⟩
 obtain⟨ms,e1,e2⟩:∃ ms:List Nat,ys=zJ ms/\ms.Perm (x6 N.lanes d N.lanes):=by
  refine⟨ys.map λx=>match x with|.int i=>i.toNat|_=>0,?_,?_⟩
  ·unfold zJ
   rw[YL]
   conv=>lhs;rw[<- List.map_id ys]
   refine JP λx v=>?_;obtain⟨i,_,rfl⟩:=Yj.mp (pm.mem_iff.mp v);rfl
  ·have:=pm.map λx=>match x with|.int i=>i.toNat|_=>0
   refine this.trans (List.Perm.of_eq ?_);unfold zJ;rw[YL]
   conv=>rhs;rw[<- List.map_id (x6 N.lanes d N.lanes)]
   exact JP λx _=>rfl
 subst e1;refine⟨l,_,rfl,.inl ⟨SqL.of (zS hl _),λp hp=>k p ms _ (X.trans ((zC hl _).trans (zC hp _))) e2 ?_ (zS hp _)⟩⟩;unfold zJ at so;rw[Zc]at so;exact so.imp λh=>by simpa using h
end
end K89
namespace L2
open PySem PySem.Spec PyProof.Rows
theorem jx {X:Cx}:CallR X (.builtin "len") (λvs H Q=>∃ a kvs,vs=[.ref a]/\H a=some (.dK kvs)/\Q (.int kvs.length) H):=by
 intro pins s σ H vs g Q I b h;obtain⟨a,kvs,rfl,e,q⟩:=h;obtain⟨u,rfl,c⟩:=b.one;cases (show u=Value.ref a from c);obtain⟨z,d,vs,rel,f⟩:=zao I.hok e;refine call_len_dict d f (by rw[<- rel.length];rw[Y1]at z;lia) ?_;exact⟨.int kvs.length,H,I.tok _,⟨_,by rw[rel.length]⟩,q⟩
theorem jC {kvs:List (Key × V)}{k:Key}{v:V}(h:∀ p∈kvs,p.1≠k):uq kvs k v=kvs++[(k,v)]:=by
 unfold uq;rw[Ja];rw[List.any_eq_true];rintro⟨p,a,e⟩;exact h p a (of_decide_eq_true e)
theorem vm:∀ (more kvs:List (Key × V)),((kvs++more).map (·.1)).Nodup->wp kvs more=kvs++more
 | [],kvs,_=>(Yy _).symm
 | p::r,kvs,nd=>by
  have e:uq kvs p.1 p.2=kvs++[p]:=jC λq a z=>by
   rw[JF,ZA]at nd;exact nd.2.2 _ (Yj.mpr ⟨q,a,rfl⟩) _ (Yj.mpr ⟨p,.head _,rfl⟩) z
  show wp (uq kvs p.1 p.2) r=_;rw[e,vm r (kvs++[p]) (by rw[JL];exact nd),JL];rfl
end L2
namespace K89
open PySem L2 Own Bn
abbrev n8:Stmt:=top 37
def qF:Sp:=λb H Q _=>∃ (r fr d:Addr) (c:List V) (N:Nt) (p:Addr) (ms:List Nat),b=[.ref r,.ref p]/\Nt.Ok N/\NetAt H r fr d c N/\H p=some (.tup (zJ ms))/\ms.Nodup/\(∀ x∈ms,N.lanes<=x->x-N.lanes∈ms)/\ms.length<=1000/\∀ a,Same H a->Q (.bl true) a
theorem cF (x:Nat)(a:List Nat):inV (.int (x:Nat)) (zJ a)=decide (x∈a):=by
 rw[YF,YU];unfold inV zJ;rw[List.any_map,List.any_eq_true];constructor
 ·rintro⟨y,b,e⟩
  have z:((y:Nat):Int)=(x:Nat):=by simpa [eqV] using e
  have:y=x:=by lia
  exact this ▸ b
 ·intro h
  exact⟨x,h,by simp[eqV]⟩
section
variable {P:Program}{w:World}{K:PySem.W.Frag}{mg:Str->Option Value}{base:Heap}
theorem af:FnScope ["_law_net_here","_law_numbers","_law_number"] ["_law_net_here","_law_numbers"] (zP n8):=by trivial
theorem gC {f:Addr}{fd:FuncData}(F:Fun K "_law_on_the_way" "_law_on_the_way" n8 f fd) (G:Mgs mg) (GD:MgD mg):FnOk P w K mg base CX0 1 f fd ["_law_net_here","_law_numbers"] qF:=by
 refine F.ok af (λY H Q E h=>?_) (λak A outer s H Y Q E hr h=>?_)
 ·obtain⟨r,fr,er,ps,N,p,ms,rfl,_⟩:=h
  rfl
 obtain⟨r,fr,er,ps,N,p,ms,rfl,ok,na,B,nd,dn,ml,k⟩:=h;refine⟨_,(@zD _ _ _ _ _ (@xp _ _ _ _ _ _ _ _ YC rfl (@wn _ _ _ _ (@qv _ 1 _ _ (by trivial))) (@zM _ _ 2 _ af.nd rfl (.inl rfl) (by trivial)) (@zL _ _ _ (@yu _ _ _ _ _ _ _ _ (@pY _ _ _ _ _ _ _ (@zu _ _ _ _ _ _ _ _ sH (@qv _ 2 _ _ (by trivial)) zE (yE _)) (@qX _ _ _ _ (@vQ _ _ _ _ _ _ _ (@zu _ _ _ _ _ _ _ _ ci (@qv _ 2 _ _ (by trivial)) (@zt _ _ _ _ _ _ _ yJ (@qv _ 0 _ _ (by trivial)) zE (λ_ _=>rfl)) (yE _)) (@wU _ _ _ _ (@zu _ _ _ _ _ _ _ _ vj (@zU _ _ _ _ _ _ _ _ qg (@qv _ 2 _ _ (by trivial)) (@zt _ _ _ _ _ _ _ yJ (@qv _ 0 _ _ (by trivial)) zE (λ_ _=>rfl))) (@qv _ 1 _ _ (by trivial)) (by rfl)))).pt)).pt (@zL _ _ _ (@zj _ _ _ _ vK)) yO)) (by intro _;rfl)) (@zL _ _ _ (@zj _ _ _ _ (@uz _ _ _ _ _ _ _ _ vL (@zp _ _ _ _ _ _ _ _ _ jx (by rfl) G.len Y4 (@zA _ _ _ _ _ (@yA _ _ _ _ _ _ _ _ _ (mo rfl) (by rfl) GD.dict (by rfl) (@zA _ _ _ _ _ (@ue _ _ _ _ none _ _ _ _ _ _ ["_law_number"] [none] rfl (@wn _ _ _ _ (@qv _ 1 _ _ (by trivial))) (CapOk.of (by kernel_rfl)) (λ_ _ _ _ _=>(@zM _ _ 0 _ (show (["_law_number"]:List Str).Nodup from by decide +kernel) rfl (.inl rfl) (.inr rfl))) (λ_ _ _ _ _=>xX) (λ_ _ _ _ _=>(@yM _ _ _ _ _ (@zA _ _ _ _ _ (@qv _ 0 _ _ (by trivial)) (@zA _ _ _ _ _ vK zB (by rfl)) (by rfl)))) (by intro _;rfl)) zB (by rfl)) (by decide) (by decide) (by rfl) (by rfl)) zB (by rfl)) (by decide) (by decide) (by rfl) (by rfl)) (@zp _ _ _ _ _ _ _ _ _ zY (by rfl) G.len Y4 (@zA _ _ _ _ _ (@qv _ 1 _ _ (by trivial)) zB (by rfl)) (by decide) (by decide) (by rfl) (by rfl)) (yE _))))),?_⟩;have l1:=ok.l1;refine⟨_,rfl,p,rfl,⟨_,SqT.of B⟩,?_⟩;refine qy (K:=K) (a:=p) (xs:=zJ ms) (λi σ I=>(∃ J,σ=[some (.ref r),some (.ref p),J])/\I=H) ⟨⟨_,rfl⟩,rfl⟩ (λi σ I _ z=>by rw[z.2];exact SqT.of B) ?_ ?_
 ·rintro i x σ I m ⟨⟨J,rfl⟩,C⟩
  rw[C];clear C;obtain⟨n,M,rfl⟩:=Yj.mp (Ya m);refine⟨_,rfl,_,_,rfl,rfl,_,rfl,?_⟩;rw[Js (show ¬(((n:Nat):Int)<0) by lia)];refine yK ?_;refine⟨_,rfl,_,rfl,r,_,_,_,rfl,rfl,SqT.of na.net,rfl,_,_,rfl,rfl,_,rfl,?_⟩;by_cases ge:N.lanes<=n
  rotate_left
  ·rw[Js (by lia)]
   exact yK (yK ⟨⟨_,rfl⟩,rfl⟩)
  rw[JA (show ((N.lanes:Nat):Int)<=(n:Nat) by lia)];refine xO ⟨_,rfl,_,rfl,r,_,_,_,rfl,rfl,SqT.of na.net,rfl,_,_,rfl,rfl,_,rfl,p,_,rfl,.inr (SqT.of B),rfl,YE.mpr (λy hy=>by obtain⟨i,_,rfl⟩:=Yj.mp hy;rfl),_,rfl,?_⟩;show if (if true=true then !inV (V.int (((n:Nat):Int)-(N.lanes:Nat))) (zJ ms) else inV (V.int (((n:Nat):Int)-(N.lanes:Nat))) (zJ ms))=true then _ else _;rw[Jb rfl,show ((n:Nat):Int)-(N.lanes:Nat)=((n-N.lanes:Nat):Int) by lia,cF,JA (dn n M ge)];exact yK ⟨⟨_,rfl⟩,rfl⟩
 rintro σ I ⟨⟨J,rfl⟩,C⟩;rw[C];clear C;refine⟨_,rfl,p,rfl,⟨_,SqT.of B⟩,λl W=>?_⟩;have s1:=zC W (.lst []);refine qt (K:=K) (a:=p) (xs:=zJ ms) (λi acc σ g=>(∃ v,σ=[v])/\Same H g/\g l=some (.lst acc)/\acc.length=i/\PrK g acc ((ms.take i).map λn=>((Sum.inl ((n:Nat):Int):Key),V.bl true))) ⟨⟨_,rfl⟩,s1,zG,rfl,rfl,λi t e=>(nomatch e)⟩ (λi acc σ g q=>⟨q.2.2.1,SqT.of (q.2.1 _ _ B)⟩) ?_ ?_
 ·rintro i x acc σ g m ⟨⟨v,rfl⟩,D,O,al,pr⟩
  have U:=(J9.mp m).1;rw[zK]at U
  obtain⟨n,M,rfl⟩:∃ n,ms[i]?=some n/\x=.int (n:Nat):=by
   unfold zJ at m;rw[JD]at m;obtain⟨n,e,rfl⟩:=Zs.mp m;exact⟨n,e,rfl⟩
  refine⟨_,rfl,by show 2<=sizeLine;decide,λt ht=>?_⟩;have L:=zC ht (.tup [.int (n:Nat),.bl true]);have X:=L _ _ O;have R:Tups _ (L2.upd (L2.upd g t (.tup [.int (n:Nat),.bl true])) l (.lst (acc++[.ref t]))):=Tups.lst X;refine⟨X,by rw[al,Y1];lia,nx (by rw[zK];exact U) ⟨⟨_,rfl⟩,λc o e=>?_,zG,by rw[Jj,al];rfl,?_⟩⟩
  ·rw[zH (zF e W)];exact L _ _ (D c o e)
  ·rw[List.take_succ,M,JF]
   refine⟨by rw[Jj,Jj,pr.1];rfl,λj u e=>?_⟩;by_cases z:j<acc.length
   ·rw[Y8 z]at e
    obtain⟨a,k0,Z,e1,e2,e3⟩:=pr.2 j u e;exact⟨a,k0,Z,e1,by rw[Y8 (by rw[<- pr.1];exact z)];exact e2,R _ _ (L _ _ e3)⟩
   ·rw[Ye (by lia)]at e
    have T:j-acc.length=0:=by
     have:=(J9.mp e).1;have:j-acc.length<1:=this;lia
    rw[T]at e;cases e;exact⟨t,.inl ((n:Nat):Int),.bl true,rfl,by rw[Ye (by rw[<- pr.1];lia),<- pr.1,T];rfl,R _ _ zG⟩
 rintro acc σ g ⟨⟨v,rfl⟩,D,O,al,pr⟩;rw[zK,YB]at pr
 have mg:wp [] (ms.map λn=>((Sum.inl ((n:Nat):Int):Key),V.bl true))=ms.map λn=>((Sum.inl ((n:Nat):Int):Key),V.bl true):=vm _ [] (by
  rw[YH,YL]
  exact(YX.mpr (Zc.mpr ((YX.mp nd).imp λ{a b} ab e=>ab (by
   have:=Sum.inl.inj e
   lia)))))
 refine⟨l,acc,_,rfl,O,pr,λd hd=>?_⟩;rw[mg];have S:=zC hd (.dK (ms.map λn=>((Sum.inl ((n:Nat):Int):Key),V.bl true)));refine⟨d,_,rfl,zG,_,rfl,p,_,rfl,.inr (SqT.of (S _ _ (D _ _ B))),rfl,?_⟩;rw[Je,zK,show decide (V.int (ms.length:Nat)=V.int (ms.length:Nat))=true from JA rfl];exact k _ (D.trans S)
end
end K89
namespace L2
open PySem
def cf (K:PySem.W.Frag):List V->Hp->VK->Prop:=λb H Q=>∃ p a,b=[V.ref p]/\(SqL K H p a\/SqT K H p a)/\Q (V.int a.length) H
theorem jv {X:Cx}:CallR X (.builtin "len") (cf X.K):=zY
end L2
namespace K89
open PySem L2 Own Bn
abbrev bJ:Stmt:=top 39
def lD (K:PySem.W.Frag):Sp:=λb H Q _=>∃ (a:Addr) (ns:List Int),b=[.ref a]/\SqL K H a (ns.map V.int)/\ns.length<=63/\∀ c,Q (.bl true) c
theorem qz (a:List Nat):((List.range (min (zJ a).length ([]:List V).length)).all (λj=>eqV ((zJ a).getD j .non) (([]:List V).getD j .non)) && (zJ a).length == ([]:List V).length)=decide (a=[]):=by
 have:=fj (a.map Int.ofNat) [];rw[<- wd]at this;rw[show ([]:List V)=([]:List Int).map V.int from rfl,this,YF];simp
theorem nE (a:List Nat):((List.range (min (zJ a).length (zJ a).length)).all (λj=>eqV ((zJ a).getD j .non) ((zJ a).getD j .non)) && (zJ a).length == (zJ a).length)=true:=by
 rw[wd,fj,JA rfl]
theorem StAt.but4 {H H':Hp}{A:Tad}{l:Addr}{n:Nat}(S:StAt H l n)(b:But4 A H H')(e:l≠A.ls)(d:l≠A.lp)(c:l≠A.lc)(a:l≠A.ln):StAt H' l n:=by
 obtain⟨x,y,z,h,r⟩:=S.ex;exact⟨x,y,z,b _ _ h e d c a,r⟩
theorem StAt.beside {H:Hp}{l p:Addr}{n:Nat}{o:HO}(S:StAt H l n)(h:l≠p):StAt (L2.upd H p o) l n:=by
 obtain⟨x,y,z,e,r⟩:=S.ex;exact⟨x,y,z,by rw[zH h];exact e,r⟩
theorem dk:∀ (v:Nat),v<5->∃ m:Nat,m<=80/\([V.int 0,.int 1,.int 7,.int 30,.int 80]:List V)[v]?=some (.int (m:Nat))
 | 0,_=>⟨0,by decide,rfl⟩
 | 1,_=>⟨1,by decide,rfl⟩
 | 2,_=>⟨7,by decide,rfl⟩
 | 3,_=>⟨30,by decide,rfl⟩
 | 4,_=>⟨80,by decide,rfl⟩
theorem za3 {n s p c u:Addr}:(yw n s p c u).lookup ("start":Str)=none:=oi (by decide +kernel) (by decide +kernel) (by decide +kernel) (by decide +kernel) (by decide +kernel)
theorem gIf {i:Nat}{v:V}{c:TT}{t u:TS}{D:Ends}{σ:St}{H:Hp}(R:VK)(F:Hp->Prop)(b:∀ a,F a->u D (σ.set i (some v)) a)(main:(∀ a,F a->u D (σ.set i (some v)) a)->bB c t u D (σ.set i (some v)) H):(λx a=>wt i x σ a ({ nx:=bB c t u D,rt:=R }:Ends).nx) v H:=main b
theorem gOr {a b:TT}{σ:St}{H:Hp}{A B:Hp->Prop}(F:Hp->Prop)(e:∀ d,F d->A d)(main:(∀ d,F d->A d)->tOr a b σ H λc d=>if c=true then A d else B d):tOr a b σ H λc d=>if c=true then A d else B d:=main e
structure Off (l:Addr) (A:Tad):Prop where
 o1:l≠A.ls
 o2:l≠A.lp
 o3:l≠A.lc
 o4:l≠A.ln
theorem StAt.off {H H':Hp}{A:Tad}{l:Addr}{n:Nat}(S:StAt H l n)(b:But4 A H H')(o:Off l A):StAt H' l n:=S.but4 b o.o1 o.o2 o.o3 o.o4
theorem uw {C l:Addr}{H H':Hp}{A:Tad}{N:Nt}{S:Tst}{n:Nat}(T:TelAt C H A N S)(B:But l H H')(s:StAt H l n)(o:Off l A):TelAt C H' A N S:=by
 obtain⟨x,y,z,h,_⟩:=s.ex;exact T.but B h o.o1 o.o2 o.o3 o.o4
theorem uG {l:Addr}{H H':Hp}{n:Nat}(B:But l H H')(s:StAt H l n):Tups H H':=λa b e=>by
 obtain⟨x,y,z,h,_⟩:=s.ex;exact B _ _ e (wN e h (by intro z;cases z))
theorem zap {lanes:Nat}{ls:List Nat}{l:Nat}(h:l<lanes):(uV lanes ls).getD l 0=cOf ls l:=by
 unfold uV cOf;rw[J7,JD,JD,ZF h];rfl
theorem tw {N:Nt}{c:Nat->Int}{S:Tst}(r:Runs N c S):S.nms.length<=S.spots.length:=by have:=r.fi.cnt;lia
theorem ky {N:Nt}{S:Tst}{ls:List Nat}(ok:N.Ok)(r:Runs N (cOf ls) S)(w:yq S.spots=[]):S.sets.map Int.ofNat=nG N (uV N.lanes ls)/\S.came.map Int.ofNat=yB N (uV N.lanes ls):=by
 obtain⟨T,a⟩:=r.ra;exact a.done ok r.os w (g9 _ _) λl b=>zap b
section
variable {P:Program}{w:World}{K:PySem.W.Frag}{mg:Str->Option Value}{base:Heap}{C:Addr}
theorem scW:FnScope ["_law_script","_law_state","_law_turn","_law_net_here","_law_some","_law_is_right","_law_teller","_law_lanes","_law_left","_law_step","_law_there","_law_told"] ["_law_script"] (zP bJ):=by trivial
theorem bc {f fH fK fA fI fG fS fW fP fD fO:Addr}{fd dH dK dA dI dG dS dW dP dD dO:FuncData}(F:Fun K "law" "law" bJ f fd) (G:Mgs mg) (T:Txt K mg C) (MT:Mk K C fI) (UH:Use P w K mg base "_law_hand" ["_law_script"] 1 (nh K) fH dH) (UK:Use P w K mg base "_law_take" ["_law_state","_law_many"] 1 (tQ K) fK dK) (UC:Use P w K mg base "_law_case" ["_law_state"] 13 nj fA dA)
  (UI:UseM P w K mg base C "__init__" ["self","net"] 1 (qE C) fI dI) (UG:UseM P w K mg base C "given" ["self"] 1 (tT C) fG dG) (US:UseM P w K mg base C "start" ["self","lane"] 3 (tS C) fS dS) (UW:UseM P w K mg base C "way" ["self"] 1 (ng C) fW dW) (UP:UseM P w K mg base C "step" ["self","ball"] 3 (tR C) fP dP)
  (UO:Use P w K mg base "_law_on_the_way" ["_law_net_here","_law_numbers"] 1 qF fO dO) (UD:Use P w K mg base "_law_due" ["_law_net_here","_law_lanes"] 3 iL fD dD):FnOk P w K mg base CX0 14 f fd ["_law_script"] (lD K):=by
 refine F.ok scW (λvs H Q E h=>?_) (λgs A outer s H vs Q E hr h=>?_)
 ·obtain⟨a,ns,rfl,_⟩:=h
  rfl
 obtain⟨a,ns,rfl,hS,fp,k⟩:=h;have J:Room 1 _:=hr.mono (by decide);have fl:Room 2 _:=hr.mono (by decide);have dB:Room 3 _:=hr.mono (by decide);refine⟨_,(@zD _ _ _ _ _ (@zr _ _ 1 _ _ _ _ scW.nd rfl (.inr rfl) (@zQ _ _ _ _ _ _ _ _ _ _ _ _ _ _ _ _ UH.ok J (by rfl) UH.m UH.kp UH.b .nil zZ (@zA _ _ _ _ _ (@qv _ 0 _ _ (by trivial)) zB (by rfl)) (by decide) (by rfl) (by rfl)) (by rfl) (by trivial)) (@zD _ _ _ _ _ (@xp _ _ _ _ _ _ _ _ YC rfl (@y4 _ _ _ _ _ _ rfl G.range (@zA _ _ _ _ _ zE zB (by rfl)) (by rfl)) (@zM _ _ 2 _ scW.nd rfl (.inl rfl) (by trivial)) (@zD _ _ _ _ _ (@yH _ _ _ _ _ _ (@zQ _ _ _ _ _ _ _ _ _ _ _ _ _ _ _ _ UC.ok hr (by rfl) UC.m UC.kp UC.b .nil zZ (@zA _ _ _ _ _ (@qv _ 1 _ _ (by trivial)) zB (by rfl)) (by decide) (by rfl) (by rfl)) (@yQ _ _ _ _ _ _ rfl (@zN _ _ _ _ _ (@zM _ _ 3 _ scW.nd rfl (.inl rfl) (by trivial)) (@zN _ _ _ _ _ (@zM _ _ 4 _ scW.nd rfl (.inr rfl) (by trivial)) (@zN _ _ _ _ _ (@zM _ _ 5 _ scW.nd rfl (.inl rfl) (by trivial)) yD (by rfl)) (by rfl)) (by rfl)) (by rfl) (by rfl)) (by rfl) (by rfl) (by rfl)) (@zD _ _ _ _ _ (@zr _ _ 6 _ _ _ _ scW.nd rfl (.inl rfl) (@eW _ _ _ _ _ _ _ _ _ _ _ _ _ _ _ _ _ MT UI.ok fl rfl T.mgC UI.b .nil zZ (@zA _ _ _ _ _ (@qv _ 3 _ _ (by trivial)) zB (by rfl)) (by decide) (by rfl) (by rfl)) (by rfl) (by trivial)) (@zD _ _ _ _ _ (@ie _ 7 _ _ _ _ none _ _ _ _ _ _ _ _ ["_law_k","_law_some","_law_state"] [none,some 4,some 1] scW.nd rfl rfl rfl (@y4 _ _ _ _ _ _ rfl G.range (@zA _ _ _ _ _ (@zt _ _ _ _ _ _ _ zy (@yS _ _ _ _ (@zA _ _ _ _ _ zE (@zA _ _ _ _ _ zE (@zA _ _ _ _ _ zE (@zA _ _ _ _ _ zE (@zA _ _ _ _ _ zE zB (by rfl)) (by rfl)) (by rfl)) (by rfl)) (by rfl))) (@zQ _ _ _ _ _ _ _ _ _ _ _ _ _ _ _ _ UK.ok J (by rfl) UK.m UK.kp UK.b .nil zZ (@zA _ _ _ _ _ (@qv _ 1 _ _ (by trivial)) (@zA _ _ _ _ _ zE zB (by rfl)) (by rfl)) (by decide) (by rfl) (by rfl)) (λ_ _=>rfl)) zB (by rfl)) (by rfl)) (CapOk.of (by kernel_rfl)) (λ_ _ _ _ _=>(@zM _ _ 0 _ (show (["_law_k","_law_some","_law_state"]:List Str).Nodup from by decide +kernel) rfl (.inl rfl) (.inr rfl))) (λ_ _ _ _ _=>xX) (λ_ _ _ _ _=>(@zt _ _ _ _ _ _ (bN K) zy (@qv _ 1 _ _ (by trivial)) (@zQ _ _ _ _ _ _ _ _ _ _ _ _ _ _ _ _ UK.ok J (by rfl) UK.m UK.kp UK.b .nil zZ (@zA _ _ _ _ _ (@qv _ 2 _ _ (by trivial)) (@zA _ _ _ _ _ (@zp _ _ _ _ _ _ _ _ (cf K) jv (by rfl) G.len Y4 (@zA _ _ _ _ _ (@qv _ 1 _ _ (by trivial)) zB (by rfl)) (by decide) (by decide) (by rfl) (by rfl)) zB (by rfl)) (by rfl)) (by decide) (by rfl) (by rfl)) (λ_ _=>rfl))) (by intro _;rfl) (by with_unfolding_all rfl)) (@zD _ _ _ _ _ (@zr _ _ 8 _ _ _ _ scW.nd rfl (.inl rfl) (@yA _ _ _ _ _ _ _ _ _ uF (by rfl) G.list (by rfl) (@zA _ _ _ _ _ (@qv _ 7 _ _ (by trivial)) zB (by rfl)) (by decide) (by decide) (by rfl) (by rfl)) (by rfl) (by trivial)) (@zD _ _ _ _ _ (@xp _ _ _ _ _ _ _ _ YC rfl (@y4 _ _ _ _ _ _ rfl G.range (@zA _ _ _ _ _ (@zU _ _ _ _ _ _ _ _ xR zE zE) zB (by rfl)) (by rfl)) (@zM _ _ 9 _ scW.nd rfl (.inl rfl) (by trivial)) (@zD _ _ _ _ _ (@zr _ _ 10 _ _ _ _ scW.nd rfl (.inl rfl) (@wo _ _ _ _ _ _ _ _ _ _ _ _ _ _ _ _ _ (@qv _ 6 _ _ (by trivial)) T.cl UW.mt UW.ok J UW.b .nil zZ (by rfl)) (by rfl) (by trivial)) (@zL _ _ _ (@yu _ _ _ _ _ _ _ _ (@vQ _ _ _ _ _ _ _ (@zu _ _ _ _ _ _ _ _ (mJ hr.units0) (@qv _ 8 _ _ (by trivial)) (@yS _ _ _ _ zB) (yE _)) (@wU _ _ _ _ (@pY _ _ _ _ _ _ _ (@zu _ _ _ _ _ _ _ _ (bY hr.units0) (@qv _ 10 _ _ (by trivial)) (@yM _ _ _ _ _ zB) (yE _)) (@qX _ _ _ _ (@zu _ _ _ _ _ _ _ _ vL (@zQ _ _ _ _ _ _ _ _ _ _ _ _ _ _ _ _ UK.ok J (by rfl) UK.m UK.kp UK.b .nil zZ (@zA _ _ _ _ _ (@qv _ 1 _ _ (by trivial)) (@zA _ _ _ _ _ zE zB (by rfl)) (by rfl)) (by decide) (by rfl) (by rfl)) zE (yE _)))).pt)).pt (@zL _ _ _ (@wA _ _ _ _ (@qd _ _ _ _ _ _ _ _ _ _ _ _ _ _ _ _ _ _ _ _ (@qv _ 6 _ _ (by trivial)) T.cl US.mt US.ok dB US.b .nil zZ (@zA _ _ _ _ _ (@bW _ _ _ _ _ _ _ _ _ Ym PySem.F.slot_list_pop PySem.F.type_list_pop bi (@qv _ 8 _ _ (by trivial)) (by rfl) (by rfl)) zB (by rfl)) (by rfl) (by rfl) (by rfl)) (by rfl))) (@zL _ _ _ (@yu _ _ _ _ _ _ _ _ (@zu _ _ _ _ _ _ _ _ (qi hr.units0) (@qv _ 10 _ _ (by trivial)) (@yM _ _ _ _ _ zB) (yE _)) (@zD _ _ _ _ _ (@zr _ _ 11 _ _ _ _ scW.nd rfl (.inl rfl) (@qd _ _ _ _ _ _ _ _ _ _ _ _ _ _ _ _ _ _ _ _ (@qv _ 6 _ _ (by trivial)) T.cl UP.mt UP.ok dB UP.b .nil zZ (@zA _ _ _ _ _ (@zt _ _ _ _ _ _ _ yJ (@qv _ 10 _ _ (by trivial)) (@zQ _ _ _ _ _ _ _ _ _ _ _ _ _ _ _ _ UK.ok J (by rfl) UK.m UK.kp UK.b .nil zZ (@zA _ _ _ _ _ (@qv _ 1 _ _ (by trivial)) (@zA _ _ _ _ _ (@zp _ _ _ _ _ _ _ _ _ zY (by rfl) G.len Y4 (@zA _ _ _ _ _ (@qv _ 10 _ _ (by trivial)) zB (by rfl)) (by decide) (by decide) (by rfl) (by rfl)) zB (by rfl)) (by rfl)) (by decide) (by rfl) (by rfl)) (λ_ _=>rfl)) zB (by rfl)) (by rfl) (by rfl) (by rfl)) (by rfl) (by trivial)) (@zL _ _ _ (@yu _ _ _ _ _ _ _ _ (@vQ _ _ _ _ _ _ _ (@zu _ _ _ _ _ _ _ _ lO (@qv _ 11 _ _ (by trivial)) sG (by rfl)) (@wU _ _ _ _ (@mD _ _ _ _ (@qY _ _ _ (@zQ _ _ _ _ _ _ _ _ _ _ _ _ _ _ _ _ UO.ok J (by rfl) UO.m UO.kp UO.b .nil zZ (@zA _ _ _ _ _ (@qv _ 3 _ _ (by trivial)) (@zA _ _ _ _ _ (@wo _ _ _ _ _ _ _ _ _ _ _ _ _ _ _ _ _ (@qv _ 6 _ _ (by trivial)) T.cl UG.mt UG.ok J UG.b .nil zZ (by rfl)) zB (by rfl)) (by rfl)) (by decide) (by rfl) (by rfl)) (by intro _;rfl))))).pt (@zL _ _ _ (@zj _ _ _ _ vK)) yO))) yO))))) (by intro _;rfl)) (@zD _ _ _ _ _ (@yu _ _ _ _ _ _ _ _ (@pY _ _ _ _ _ _ _ (@zu _ _ _ _ _ _ _ _ (qi hr.units0) (@wo _ _ _ _ _ _ _ _ _ _ _ _ _ _ _ _ _ (@qv _ 6 _ _ (by trivial)) T.cl UW.mt UW.ok J UW.b .nil zZ (by rfl)) (@yM _ _ _ _ _ zB) (yE _)) (@pY _ _ _ _ _ _ _ (@zu _ _ _ _ _ _ _ _ (mJ hr.units0) (@qv _ 8 _ _ (by trivial)) (@yS _ _ _ _ zB) (yE _)) (@qX _ _ _ _ (@zu _ _ _ _ _ _ _ _ (qi hr.units0) (@wo _ _ _ _ _ _ _ _ _ _ _ _ _ _ _ _ _ (@qv _ 6 _ _ (by trivial)) T.cl UG.mt UG.ok J UG.b .nil zZ (by rfl)) (@zQ _ _ _ _ _ _ _ _ _ _ _ _ _ _ _ _ UD.ok dB (by rfl) UD.m UD.kp UD.b .nil zZ (@zA _ _ _ _ _ (@qv _ 3 _ _ (by trivial)) (@zA _ _ _ _ _ (@qv _ 7 _ _ (by trivial)) zB (by rfl)) (by rfl)) (by decide) (by rfl) (by rfl)) (yE _))))).pt (@zL _ _ _ (@zj _ _ _ _ vK)) yO) (@zL _ _ _ (@yu _ _ _ _ _ _ _ _ (@vQ _ _ _ _ _ _ _ (@qY _ _ _ (@qv _ 5 _ _ (by trivial)) (by intro _;rfl)) (@wU _ _ _ _ (@zu _ _ _ _ _ _ _ _ (qi hr.units0) (@wo _ _ _ _ _ _ _ _ _ _ _ _ _ _ _ _ _ (@qv _ 6 _ _ (by trivial)) T.cl UG.mt UG.ok J UG.b .nil zZ (by rfl)) (@jF _ _ _ _ _ _ _ rfl (by rfl) G.tuple (by rfl) G.range (@zA _ _ _ _ _ (@zp _ _ _ _ _ _ _ _ _ zY (by rfl) G.len Y4 (@zA _ _ _ _ _ (@qv _ 7 _ _ (by trivial)) zB (by rfl)) (by decide) (by decide) (by rfl) (by rfl)) zB (by rfl)) (by rfl) (by rfl)) (yE _)))).pt (@zL _ _ _ (@zj _ _ _ _ vK)) yO)))))))) (by intro _;rfl)) (@zL _ _ _ (@zj _ _ _ _ vK)))),?_⟩;refine⟨_,rfl,a,ns,rfl,hS,fp,λl H1 hl s1 S1=>?_⟩;refine⟨3,rfl,by lia,by lia,?_⟩;refine wP (lo:=0) (λi σ H2=>(∃ v2 v3 v4 v5 v6 v7 v8 v9 v10 v11,σ=[some (.ref a),some (.ref l),v2,v3,v4,v5,v6,v7,v8,v9,v10,v11])/\StAt H2 l (20000*i)) ⟨⟨_,_,_,_,_,_,_,_,_,_,rfl⟩,S1⟩ ?_ (λσ H2 _=>k H2);rintro i σ H2 hi ⟨⟨v2,v3,v4,v5,v6,v7,v8,v9,v10,v11,rfl⟩,S2⟩;have i3:i<3:=hi;refine⟨_,rfl,l,_,rfl,S2,by lia,λc N sm right r fr er ps ls H3 ca S3 B3=>?_⟩;have ok:=ca.ok;have l1:=ok.l1;have gg:=ok.l16;have dr:=ca.net;refine⟨c,_,rfl,SqT.of ca.tup,rfl,_,_,rfl,_,_,rfl,_,_,rfl,rfl,?_⟩;refine⟨_,rfl,?_⟩;intro t dx nt ee e8
 have s4:Same H3 (L2.upd (L2.upd H3 dx (.own t)) t (.ins C dx [])):=λb o e=>by
  rw[zH (zF e nt),zH (zF e ee)];exact e
 refine⟨t,dx,r,fr,er,ps,N,rfl,zG,ok,dr.tups (Tups.of s4),λfb ff fk fi H4 f1 f2 f3 f4 dm ei=>⟨rfl,?_⟩⟩;generalize hA:(⟨t,r,fr,er,ps,fb,ff,fk,fi⟩:Tad)=A1 at dm;have cx:Same H3 H4:=λb o e=>ei b o (s4 b o e) (zF e nt);have eT:A1.t=t:=by rw[<- hA]
 have ea:∀ {b o},H3 b=some o->Off b A1:=λ{b o} e=>by
  rw[<- hA];exact⟨zF (s4 _ _ e) f1,zF (s4 _ _ e) f2,zF (s4 _ _ e) f3,zF (s4 _ _ e) f4⟩
 clear f1 f2 f3 f4 ei hA;subst eT
 have lo1:Off l A1:=by
  obtain⟨x,y,z,h,_⟩:=S3.ex;exact ea h
 have f6:Off ls A1:=ea ca.lst;have S4:=S3.keep cx;have eg:=dr.tups (Tups.of cx);have ek:=cx _ _ ca.lst;clear s4 nt ee e8;refine⟨(by show 5<=sizeLine;decide),λl0 c1=>?_⟩;have s6:=zC c1 (.lst [V.int 0,.int 1,.int 7,.int 30,.int 80]);refine⟨_,rfl,l,5,_,rfl,by decide,by decide,S4.keep s6,by lia,λd H7 d0 d1 S7 B7=>?_⟩;obtain⟨d,rfl⟩:=Yg d0;obtain⟨m,gb,hm⟩:=dk d (by lia)
 have eh:l0≠l:=by
  obtain⟨x,y,z,h,_⟩:=S4.ex;exact(zF h c1).symm
 refine⟨l0,_,_,_,rfl,rfl,SqL.of (B7 _ _ (zS c1 _) eh),yR hm,m,rfl,by lia,by lia,λll a4=>?_⟩
 have b2:l≠ll:=by
  obtain⟨x,y,z,h,_⟩:=S7.ex;exact zF h a4
 have bS:TelAt C H7 A1 N (S0 N):=uw (dm.keep s6) B7 (S4.keep s6) lo1;have ef:=(eg.tups (Tups.of s6)).tups (uG B7 (S4.keep s6));have dz:=B7 _ _ (s6 _ _ ek) ca.ne
 have I:Off ll A1:=by
  obtain⟨sp,hp,_⟩:=bS.hp;exact⟨(zF bS.hs a4).symm,(zF hp a4).symm,(zF bS.hc a4).symm,(zF bS.hn a4).symm⟩
 have fa:ls≠ll:=zF dz a4;have s7:=zC a4 (.lst []);clear a4 c1 eh s6 B7;refine sR (lo:=0) (n:=((m:Nat):Int).toNat) (λj acc σ H8=>(∃ v0,σ=[v0,some (.ref ls),some (.ref l)])/\StAt H8 l (20000*i+602+j)/\TelAt C H8 A1 N (S0 N)/\NetAt H8 r fr er ps N/\H8 ls=some (.lst (zJ sm))/\H8 ll=some (.lst acc)/\∃ bs:List Nat,acc=zJ bs/\bs.length=j/\∀ x∈bs,x∈sm) ⟨⟨_,rfl⟩,(S7.beside b2).mono (by lia),bS.keep s7,ef.tups (Tups.of s7),s7 _ _ dz,zG,[],rfl,rfl,λx hx=>(nomatch hx)⟩ (λj acc σ H8 z=>z.2.2.2.2.2.1) ?_ ?_
 ·rintro j acc σ H8 hj ⟨⟨v0,rfl⟩,S8,Z,cz,c0,h8,bs,rfl,ck,ak⟩
  have gr:j<80:=by lia
  have f7:=ca.s1;have fR:=ca.s16;have sl:=zK sm;refine⟨_,rfl,_,rfl,_,rfl,ls,_,rfl,.inl (SqL.of c0),l,_,_,rfl,by lia,by lia,S8,by lia,λx H9 x0 x1 S9 B9=>?_⟩;obtain⟨x,rfl⟩:=Yg x0;have xl:x<sm.length:=by lia
  have h9:=B9 _ _ h8 b2.symm;have ej:=B9 _ _ c0 ca.ne;have fo:(zJ sm)[x]?=some (.int (sm[x]:Nat)):=by unfold zJ;rw[JD,J0 xl];rfl
  refine⟨ls,_,_,_,rfl,rfl,SqL.of ej,yR fo,?_⟩;have dj:=uw Z B9 S8 lo1;have dp:=cz.tups (uG B9 S8);have tu:But ll H9 (L2.upd H9 ll (.lst (zJ bs++[.int (sm[x]:Nat)]))):=λb o e ne=>by rw[zH ne];exact e
  refine⟨h9,by rw[zK,Y1];lia,nx hj ⟨⟨_,rfl⟩,(S9.beside b2).mono (by lia),dj.but tu h9 I.o1 I.o2 I.o3 I.o4,dp.tups (Tups.lst h9),by rw[zH fa];exact ej,zG,bs++[sm[x]],by unfold zJ;rw[JF];rfl,by rw[Jj,ck];rfl,λy hy=>?_⟩⟩;rcases Jz.mp hy with z|z
  ·exact ak y z
  ·rw[JZ.mp z];exact Yb xl
 rintro acc σ H8 ⟨⟨v0,rfl⟩,S8,Z,cz,c0,h8,bs,rfl,ck,ak⟩;refine⟨_,rfl,ll,_,rfl,.inl (SqL.of h8),λlf a5=>?_⟩;have f5:bs.length<=80:=by lia
 have f1:Off lf A1:=by
  obtain⟨sp,hp,_⟩:=Z.hp;exact⟨(zF Z.hs a5).symm,(zF hp a5).symm,(zF Z.hc a5).symm,(zF Z.hn a5).symm⟩
 have s9:=zC a5 (.lst (zJ bs))
 have dt:l≠lf:=by
  obtain⟨x,y,z,h,_⟩:=S8.ex;exact zF h a5
 have ed:ll≠lf:=zF h8 a5;have dj:=Z.keep s9;have dp:=cz.tups (Tups.of s9);have h9:=s9 _ _ h8;have S9:=S8.keep s9;have fm:L2.upd H8 lf (.lst (zJ bs)) lf=some (.lst (zJ bs)):=zG;refine zak (λ_ _=>True) ?_;show pO _ _ _ _ (L2.upd H8 lf (.lst (zJ bs)));generalize L2.upd H8 lf (.lst (zJ bs))=H9 at *;clear s9 a5 Z cz h8 S8 c0 s7 bS ef dz S7 dm eg ek S4 cx dr S3 B3;refine⟨_,_,rfl,rfl,.inl ⟨by decide,by decide⟩,_,rfl,by decide,by decide,?_⟩
 refine wP (lo:=0) (n:=((80:Int)*64).toNat) (λj σ a8=>∃ (S:Tst) (left gone:List Nat),(∃ v9 v10 v11,σ=[some (.ref a),some (.ref l),some (.int (0+(i:Nat))),some (.ref r),some (.ref ls),some (.bl right),some (.ref A1.t),some (.ref ll),some (.ref lf),v9,v10,v11])/\StAt a8 l (20000*i+682+2*j)/\TelAt C a8 A1 N S/\NetAt a8 r fr er ps N/\a8 ll=some (.lst (zJ bs))/\a8 lf=some (.lst (zJ left))/\bs=left++gone.reverse/\Runs N (cOf gone) S/\S.spots.length=gone.length/\((left=[]/\yq S.spots=[])\/left.length*32+wk N.forks S.spots+j<=2560))
  ⟨S0 N,bs,[],⟨_,_,_,rfl⟩,S9.mono (by lia),dj,dp,h9,fm,by simp,ah ok,rfl,.inr (by show _+wk N.forks []+0<=_;have:wk N.forks []=0:=rfl;lia)⟩ ?_ ?_
 ·rintro j σ a8 hj ⟨S,left,gone,⟨eH,dT,dR,rfl⟩,c5,u,ao,b4,aC,eb,ra,la,alt⟩
  have eF:j<5120:=hj;have nl:=tw ra;have lb:bs.length=left.length+gone.length:=by rw[eb,Jj,Zg]
  obtain⟨da,oa⟩:=u.ob;refine⟨_,rfl,A1.t,da,_,rfl,oa,az,A1,N,S,rfl,u,by lia,λpw dM a7 ax=>?_⟩;have b7:=u.keep a7;have cb:=ao.tups (Tups.of a7);have ep:=a7 _ _ b4;have ct:=a7 _ _ aC;have ey:=c5.keep a7;have fT:=ed;refine gIf (λ_ _=>True) (λg=>StAt g l (20000*i+682+2*j+1)/\TelAt C g A1 N S/\NetAt g r fr er ps N/\g ll=some (.lst (zJ bs))/\g lf=some (.lst (zJ left))/\g pw=some (.tup (zJ (yq S.spots)))/\(left=[]\/yq S.spots≠[])) (λg ⟨dE,O,bo,dC,U,d2,dV⟩=>?_) (λd6=>?_)
  ·refine⟨_,rfl,(by show 0<=sizeLine;decide),λpe a3=>?_⟩
   have B:=zC a3 (.tup []);have W:=B _ _ d2;refine⟨pw,pe,_,_,rfl,rfl,SqT.of W,SqT.of (zS a3 _),by rw[wd];exact xI _,rfl,_,rfl,?_⟩;rw[qz];have p:=O.keep B;have D:=bo.tups (Tups.of B);have b3:=B _ _ dC;have ab:=B _ _ U;have L:=dE.keep B;generalize L2.upd g pe (.tup [])=H14 at *;by_cases c:yq S.spots=[]
   ·rw[JA c]
    have cl:=dV.resolve_right λz=>z c;exact yK ⟨S,left,gone,⟨_,_,_,rfl⟩,L.mono (by lia),p,D,b3,ab,eb,ra,la,.inl ⟨cl,c⟩⟩
   rw[Js c];have pt:=alt.resolve_left λz=>c z.2;have cn:=ra.fi.cnt;have w0:0<(yq S.spots).length:=List.length_pos_iff.mpr c;obtain⟨db,ob⟩:=p.ob;refine xO ⟨_,rfl,A1.t,db,_,rfl,ob,za2,_,rfl,_,rfl,_,rfl,pw,_,rfl,.inr (SqT.of W),l,_,_,rfl,by rw[zK];lia,by rw[zK];lia,L,by lia,λy c6 y0 y1 c4 Y=>?_⟩;obtain⟨y,rfl⟩:=Yg y0;rw[zK]at y1;have yl:y<(yq S.spots).length:=by lia
   have M:=uw p Y L lo1;have b0:=uG Y L
   have ym:(yq S.spots).getD y 0∈yq S.spots:=by
    rw[J7,J0 yl];exact Yb yl
   obtain⟨⟨dY,q⟩,hb⟩:=lR.mp ym;have b1:=Y _ _ b3 b2.symm;have R:=Y _ _ ab dt.symm;refine⟨pw,_,_,_,rfl,rfl,SqT.of (b0 _ _ W),yR (vk _ _ yl),A1,N,S,_,dY,q,rfl,ok,M,ra.os,hb,by lia,by lia,λv S' fM went a9 c2=>?_⟩;obtain⟨bl,ez,_,_⟩:=ra.went ok hb went;have pd:=ra.wentD hb went;have fF:=c4.off c2 lo1;have b8:=(D.tups b0).tups (M.tupk c2);have fC:=c2 _ _ b1 I.o1 I.o2 I.o3 I.o4;have d3:=c2 _ _ R f1.o1 f1.o2 f1.o3 f1.o4;refine gIf (λ_ _=>True) (λdF=>Same fM dF) (λdF a0=>?_) (λfin=>?_)
   ·exact⟨S',left,gone,⟨_,_,_,rfl⟩,(fF.keep a0).mono (by lia),a9.keep a0,b8.tups (Tups.of a0),a0 _ _ fC,a0 _ _ d3,eb,bl,by lia,.inr (by lia)⟩
   have hv:v=.non\/∃ z,v=.int z:=by
    rcases went with ⟨_,e,_⟩|⟨_,e,_⟩
    ·exact .inr ⟨_,e⟩
    ·exact .inl e
   have fY:=tw bl;rcases hv with rfl|⟨z,rfl⟩
   ·exact⟨_,rfl,rfl,_,rfl,yK (yK (fin _ (Same.refl _)))⟩
   refine⟨_,rfl,rfl,_,rfl,xO ?_⟩;obtain⟨dc,oc⟩:=a9.ob;refine⟨_,rfl,_,rfl,A1.t,dc,_,rfl,oc,bh,A1,N,S',rfl,a9,by lia,λpg ms dF a0 pm so fB=>?_⟩;have dn:=bl.fi;refine⟨r,fr,er,ps,N,pg,ms,rfl,ok,b8.tups (Tups.of a0),fB,pm.nodup_iff.mpr dn.nodup,λx hx ge=>pm.mem_iff.mpr (dn.down l1 (pm.mem_iff.mp hx) ge),by rw[pm.length_eq];lia,λgV e4=>⟨true,rfl,yK (fin _ (a0.trans e4))⟩⟩
  refine⟨_,rfl,(by show 0<=sizeLine;decide),λle hle=>?_⟩;have X:=zC hle (.lst []);have b6:=b7.keep X;have b9:=cb.tups (Tups.of X);have eo:=X _ _ ep;have bx:=X _ _ ct;have cm:=X _ _ ax;have ew:=ey.keep X;have d4:=zS (H:=dM) hle (.lst []);clear b7 cb ep ct ey ax u ao b4 aC c5;refine⟨lf,le,_,rfl,rfl,SqL.of bx,SqL.of d4,_,rfl,?_⟩;generalize L2.upd dM le (.lst [])=fN at *;by_cases c:left=[]
  ·rw[show (!(zJ left).isEmpty)=false by rw[c];rfl]
   exact yK (yK (d6 _ ⟨ew.mono (by lia),b6,b9,eo,bx,cm,.inl c⟩))
  rw[show (!(zJ left).isEmpty)=true by cases left with|nil=>exact absurd rfl c|cons x y=>rfl];refine xO ?_;have d5:=alt.resolve_left λz=>c z.1;refine gOr (λg=>StAt g l (20000*i+682+2*j+1)/\TelAt C g A1 N S/\NetAt g r fr er ps N/\g ll=some (.lst (zJ bs))/\g lf=some (.lst (zJ left))) (λg ⟨dE,O,bo,dC,U⟩=>?_) (λes=>?_)
  ·obtain⟨lt,x,rfl⟩:∃ lt x,left=lt++[x]:=⟨left.dropLast,left.getLast c,(List.dropLast_concat_getLast c).symm⟩
   have en:zJ (lt++[x])=zJ lt++[V.int (x:Nat)]:=by unfold zJ;rw[JF];rfl
   rw[en]at U;have xb:x∈bs:=by rw[eb];simp
   have xl:=ca.lt _ (ak x xb);have tu:But lf g (L2.upd g lf (.lst (zJ lt++[V.int (x:Nat)]).dropLast)):=λb o e ne=>by rw[zH ne];exact e
   have p:=O.but tu U f1.o1 f1.o2 f1.o3 f1.o4;have L:=dE.beside (o:=.lst (zJ lt++[V.int (x:Nat)]).dropLast) dt;have D:NetAt (L2.upd g lf (.lst (zJ lt++[V.int (x:Nat)]).dropLast)) r fr er ps N:=bo.tups (Tups.lst U);obtain⟨db,ob⟩:=O.ob;rw[Jj]at d5 lb;have gd:[x].length=1:=rfl;refine⟨_,rfl,A1.t,db,_,rfl,ob,za3,_,rfl,.inl ⟨rfl,_,SqL.of U⟩,lf,_,V.int (x:Nat),rfl,rfl,U,by simp,A1,N,S,x,rfl,ok,p,ra.os,xl,by lia,λq c6 nq M c3=>?_⟩;have b1:=c3 _ _ ((zH ed).trans dC) I.o1 I.o2 I.o3 I.o4;have R:=c3 _ _ zG f1.o1 f1.o2 f1.o3 f1.o4;rw[List.dropLast_concat]at R;have ps:=mF ca.dpt (S:=S) nq;exact⟨_,lt,gone++[x],⟨_,_,_,rfl⟩,(L.off c3 lo1).mono (by lia),M,D.tups (p.tupk c3),b1,R,by rw[eb,List.reverse_append];simp,ra.start ok xl nq,by show (S.spots++[_]).length=_;rw[Jj,Jj,la];rfl,.inr (by show lt.length*32+wk N.forks (S.spots++[some (x,q)])+(j+1)<=2560;lia)⟩
  refine⟨_,rfl,(by show 0<=sizeLine;decide),λpe a3=>?_⟩;have B:=zC a3 (.tup []);have W:=B _ _ cm;refine⟨pw,pe,_,_,rfl,rfl,SqT.of W,SqT.of (zS a3 _),by rw[wd];exact xI _,rfl,_,rfl,?_⟩;rw[qz];have p:=b6.keep B;have D:=b9.tups (Tups.of B);have b3:=B _ _ eo;have ab:=B _ _ bx;have L:=ew.keep B;generalize L2.upd fN pe (.tup [])=H14 at *;by_cases w:yq S.spots=[]
  ·rw[JA w]
   exact xO (es _ ⟨L.mono (by lia),p,D,b3,ab⟩)
  rw[Js w];refine yK ⟨_,rfl,l,3,_,rfl,by decide,by decide,L,by lia,λy c6 y0 y1 c4 Y=>?_⟩;have M:=uw p Y L lo1;have b0:=uG Y L;have b1:=Y _ _ b3 b2.symm;have R:=Y _ _ ab dt.symm;have now:=d6 c6 ⟨c4,M,D.tups b0,b1,R,b0 _ _ W,.inr w⟩;have yes:=es c6 ⟨c4,M,D.tups b0,b1,R⟩;refine⟨rfl,_,rfl,?_⟩;by_cases e:V.int y=V.int 0
  ·rw[JA e]
   exact xO yes
  ·rw[Js e]
   exact yK now
 rintro σ a8 ⟨S,left,gone,⟨eH,dT,dR,rfl⟩,c5,u,ao,b4,aC,eb,ra,la,alt⟩;have a6:((80:Int)*64).toNat=5120:=rfl;obtain⟨rfl,wa⟩:left=[]/\yq S.spots=[]:=alt.resolve_right (by rw[a6];lia);have nl:=tw ra;have lb:bs.length=gone.length:=by rw[eb,YH,Zg]
 have ec:uV N.lanes bs=uV N.lanes gone:=by
  unfold uV;rw[eb];simp[List.count_reverse]
 obtain⟨_,dc⟩:=ky ok ra wa;rw[<- ec]at dc;obtain⟨da,oa⟩:=u.ob;refine⟨_,rfl,A1.t,da,_,rfl,oa,az,A1,N,S,rfl,u,by lia,λpw dM a7 ax=>?_⟩;refine⟨(by show 0<=sizeLine;decide),λpe a3=>?_⟩;have X:=zC a3 (.tup []);have eN:=a7.trans X;refine⟨pw,pe,_,_,rfl,rfl,SqT.of (X _ _ ax),SqT.of (zS a3 _),by rw[wd];exact xI _,rfl,_,rfl,?_⟩;rw[qz,wa,JA rfl];refine yK ?_;refine⟨_,rfl,(by show 0<=sizeLine;decide),λle hle=>?_⟩;have e5:=zC hle (.lst []);have c9:=eN.trans e5;refine⟨lf,le,_,rfl,rfl,SqL.of (c9 _ _ aC),SqL.of (zS hle _),_,rfl,yK ?_⟩;have O:=u.keep c9;obtain⟨db,ob⟩:=O.ob;refine⟨_,rfl,A1.t,db,_,rfl,ob,bh,A1,N,S,rfl,O,by lia,λp4 ms gy e3 pm so fy=>?_⟩;have c8:=c9.trans e3;have du:=ra.fi.due;refine⟨_,rfl,_,rfl,r,fr,er,ps,N,ll,bs,S.came,rfl,ok,ao.tups (Tups.of c8),c8 _ _ b4,by lia,dc,ra.os.cl,by rw[<- du.length_eq];lia,λp5 e9 fL d9 e7 e1 fx=>?_⟩;have em:e9=ms:=sL ((e7.trans du.symm).trans pm.symm) e1 so;subst em;refine⟨p4,p5,_,_,rfl,rfl,SqT.of (d9 _ _ fy),SqT.of fx,by rw[wd];exact xI _,by rw[wd];exact xI _,_,rfl,?_⟩;rw[nE];refine yK ?_;have c7:=c8.trans d9;have b5:=u.keep c7;have et:StAt fL l (20000*(i+1)):=(c5.keep c7).mono (by rw[a6];lia);refine⟨_,rfl,right,rfl,?_⟩
 cases right with
 | false=>exact yK (yK ⟨⟨_,_,_,_,_,_,_,_,_,_,rfl⟩,et⟩)
 | true =>
 have good:yB N (uV N.lanes bs)=_:=ca.good rfl bs ak;obtain⟨dd,od⟩:=b5.ob;refine xO ⟨_,rfl,A1.t,dd,_,rfl,od,bh,A1,N,S,rfl,b5,by lia,λp6 f9 gx d8 e6 e0 ft=>?_⟩;have eM:=c7.trans d8;refine⟨_,rfl,ll,_,rfl,.inl (SqL.of (eM _ _ b4)),_,rfl,by rw[zK];lia,λp7 el=>?_⟩;have fE:=jq l1 (dc.trans good) (e6.trans du) e0;subst fE;have eu:L2.tL (zJ bs).length=zJ (List.range bs.length):=by rw[zK];rfl
 rw[eu];have d7:=zC el (.tup (zJ (List.range bs.length)));refine⟨p6,p7,_,_,rfl,rfl,SqT.of (d7 _ _ ft),SqT.of (zS el (.tup (zJ (List.range bs.length)))),by rw[wd];exact xI _,by rw[wd];exact xI _,_,rfl,?_⟩;rw[nE];exact yK ⟨⟨_,_,_,_,_,_,_,_,_,_,rfl⟩,(et.keep d8).keep d7⟩
end
structure FnAt (K:PySem.W.Frag) (x:Str) (st:Stmt) (f:Addr) (fd:FuncData):Prop where
 ns:PySem.W.nsIn K mainGlobals x=some (some (.ref f))
 fn:Fun K x x st f fd
theorem yX {K:PySem.W.Frag}{x:Str}{st:Stmt}{f:Addr}{oc:Value}{od an:Option Addr}{osl:Array (Option Value)}{kV doc pm cdv ct:Value}(a:PySem.W.nsIn K mainGlobals x=some (some (.ref f)))(l:K.lookup f=some ⟨oc,od,.func (PySem.W.fnOf x x (wE st) (xM st) (zP st) .none kV doc pm an cdv ct),osl⟩)(c:PySem.W.codeIn K cdv x=true)(k:PySem.W.keepIn K (.ref f)=true):FnAt K x st f (PySem.W.fnOf x x (wE st) (xM st) (zP st) .none kV doc pm an cdv ct):=⟨a,gk l c k⟩
structure MethAt (K:PySem.W.Frag) (C:Addr) (x q:Str) (st:Stmt) (f:Addr) (fd:FuncData):Prop where
 mt:Meth K C x f
 fn:Fun K x q st f fd
theorem wW {K:PySem.W.Frag}{C:Addr}{x q:Str}{st:Stmt}{f:Addr}{oc:Value}{od an:Option Addr}{osl:Array (Option Value)}{kV doc pm cdv ct:Value}(a:PySem.W.findIn K (.ref C) x=some (some (.ref f)))(i:PySem.W.isFn K (.ref f)=true)(l:K.lookup f=some ⟨oc,od,.func (PySem.W.fnOf x q (wE st) (xM st) (zP st) .none kV doc pm an cdv ct),osl⟩)(c:PySem.W.codeIn K cdv q=true)(k:PySem.W.keepIn K (.ref f)=true):MethAt K C x q st f (PySem.W.fnOf x q (wE st) (xM st) (zP st) .none kV doc pm an cdv ct):=⟨⟨a,i,k⟩,gk (st:=st) l c k⟩
theorem us1 {us:List Value}(h:us.length=1):∃ a,us=[a]:=by
 match us,h with
 | [a],_=>exact⟨a,rfl⟩
theorem us2 {us:List Value}(h:us.length=2):∃ b a,us=[b,a]:=by
 match us,h with
 | [b,a],_=>exact⟨b,a,rfl⟩
theorem us3 {us:List Value}(h:us.length=3):∃ c b a,us=[c,b,a]:=by
 match us,h with
 | [c,b,a],_=>exact⟨c,b,a,rfl⟩
set_option maxHeartbeats 4000001 in
theorem aL {l:PySem.W.OpenLaw}{w:World}{K:PySem.W.Frag}{h:Heap}{mg:Str->Option Value}{fa f1 f2 f3 f4 f5 f6 f7 f8 f9 a8 a7 a6 a5 a4 a3 a0 ax ao ak Z Y W V U S R Q d0:Addr}{d1 d2 d3 d4 d5 d6 d7 d8 d9 c6 c5 c4 c3 c2 c1 c0 cz cx cn cm ck cb b0 bS bx bo bl a9:FuncData}(X:K.In h) (G:h.Ns mainGlobals mg) (dY:mg "law" = some (.ref fa))
  (A1:FnAt K "_law_hand" pT f1 d1)
  (A2:FnAt K "_law_take" iR f2 d2)
  (A3:FnAt K "_law_net" bI f3 d3)
  (A4:FnAt K "is_whole" nr f4 d4)
  (A5:FnAt K "is_below" n9 f5 d5)
  (A6:FnAt K "next_fork" iT f6 d6)
  (A7:FnAt K "end_of" bK f7 d7)
  (A8:FnAt K "layers" qN f8 d8)
  (A9:FnAt K "plain" n6 f9 d9)
  (B:FnAt K "power_of_two" bH a8 c6)
  (A:FnAt K "row_of" n5 a7 c5)
  (z:FnAt K "net_of" tf a6 c4)
  (y:FnAt K "block_of" qP a5 c3)
  (x:FnAt K "rounds" qM a4 c2)
  (u:FnAt K "by_turns" sBy a3 c1)
  (t:FnAt K "tree_of" vf a0 c0)
  (r:FnAt K "tree" iQ ax cz)
  (q:FnAt K "merger_of" wj ao cx)
  (p:FnAt K "stairway_of" wg ak cn)
  (o:FnAt K "stairway" uO Z cm)
  (n:FnAt K "flowed" qO Y ck)
  (m:FnAt K "ends_of" iU W cb)
  (k:FnAt K "called" tm V b0)
  (j:FnAt K "behind" qQ U bS)
  (i:FnAt K "_law_case" iV S bx)
  (g:FnAt K "_law_on_the_way" n8 R bo)
  (f:FnAt K "_law_due" bL Q bl)
  (F:FnAt K "law" bJ d0 a9)
  (z1:PySem.W.nsIn K mainGlobals "len" = some none)
  (z2:PySem.W.nsIn K mainGlobals "range" = some none)
  (z3:PySem.W.nsIn K mainGlobals "tuple" = some none)
  (z4:PySem.W.nsIn K mainGlobals "enumerate" = some none)
  (z5:PySem.W.nsIn K mainGlobals "abs" = some none)
  (z6:PySem.W.nsIn K mainGlobals "zip" = some none)
  (z7:PySem.W.nsIn K mainGlobals "isinstance" = some none)
  (z8:PySem.W.nsIn K mainGlobals "all" = some none)
  (z9:PySem.W.nsIn K mainGlobals "sum" = some none)
  (du:PySem.W.nsIn K mainGlobals "bool" = some none)
  (dt:PySem.W.nsIn K mainGlobals "int" = some none)
  (dr:PySem.W.nsIn K mainGlobals "str" = some none)
  (dp:PySem.W.nsIn K mainGlobals "max" = some none)
  (dn:PySem.W.nsIn K mainGlobals "min" = some none)
  (dm:PySem.W.nsIn K mainGlobals "sorted" = some none)
  (dj:PySem.W.nsIn K mainGlobals "list" = some none)
  (dd:PySem.W.nsIn K mainGlobals "dict" = some none)
  {C g1 g2 g3 g4 g5 g6 g7:Addr}{e1 e2 e3 e4 e5 e6 e7:FuncData}(aC:PySem.W.nsIn K mainGlobals "Teller" = some (some (.ref C)))
  (J:MethAt K C "__init__" "Teller.__init__" nv g1 e1)
  (B2:MethAt K C "start" "Teller.start" qK g2 e2)
  (I:MethAt K C "step" "Teller.step" nu g3 e3)
  (B4:MethAt K C "number_at" "Teller.number_at" tZ g4 e4)
  (B5:MethAt K C "way" "Teller.way" iS g5 e5)
  (B6:MethAt K C "given" "Teller.given" qL g6 e6)
  (B7:MethAt K C "turns" "Teller.turns" eO g7 e7)
  (pg:PySem.W.plainGet K C Str.empty=true) (hd:PySem.W.hasDictIn K C=true) (po:PySem.W.plainOver K C=true) (sa:PySem.W.findIn K (.ref C) "__setattr__" = some (some (.builtin "object.__setattr__"))) (mk:PySem.W.makesIn K C=true) (kc:PySem.W.keepIn K (.ref C)=true)
  (dC:PySem.W.findIn K (.ref C) "net" = some none) (dB:PySem.W.findIn K (.ref C) "settings" = some none) (dA:PySem.W.findIn K (.ref C) "spots" = some none) (dz:PySem.W.findIn K (.ref C) "came" = some none) (dx:PySem.W.findIn K (.ref C) "numbers" = some none)
  : ∃ fd:FuncData,(∀ (s:Shared) (v:Value),BindsTo s fd ⟨[v],[]⟩ [("_law_script",v)])/\∀ base:Heap,K.In base->base.Ns mainGlobals mg->FnOk l.prog w K mg base CX0 14 fa fd ["_law_script"] (lD K):=by
 have e:=dY.symm.trans (JS X G F.ns);cases e;have M:Mgs mg:=⟨Y0 X G z1,Y0 X G z2,Y0 X G z3,Y0 X G z4,Y0 X G z5,Y0 X G z6,Y0 X G z7,Y0 X G z8,Y0 X G z9,Y0 X G du,Y0 X G dt,Y0 X G dr,Y0 X G dp,Y0 X G dn,Y0 X G dm,Y0 X G dj⟩;have M2:MgD mg:=⟨Y0 X G dd⟩;have b1:=A1.fn.binds (ps:=["_law_script"]) λ_ _ _ _ _ _ b a=>by obtain⟨c,rfl⟩:=us1 a;rfl
 have m1:=JS X G A1.ns;have b2:=A2.fn.binds (ps:=["_law_state","_law_many"]) λ_ _ _ _ _ _ b a=>by obtain⟨c,d,rfl⟩:=us2 a;rfl
 have m2:=JS X G A2.ns;have b3:=A3.fn.binds (ps:=["_law_state","_law_lanes_most","_law_forks_most"]) λ_ _ _ _ _ _ b a=>by obtain⟨c,d,u2,rfl⟩:=us3 a;rfl
 have m3:=JS X G A3.ns;have b4:=A4.fn.binds (ps:=["thing"]) λ_ _ _ _ _ _ b a=>by obtain⟨c,rfl⟩:=us1 a;rfl
 have m4:=JS X G A4.ns;have b5:=A5.fn.binds (ps:=["thing","bound"]) λ_ _ _ _ _ _ b a=>by obtain⟨c,d,rfl⟩:=us2 a;rfl
 have m5:=JS X G A5.ns;have b6:=A6.fn.binds (ps:=["net","lane","number"]) λ_ _ _ _ _ _ b a=>by obtain⟨c,d,u2,rfl⟩:=us3 a;rfl
 have m6:=JS X G A6.ns;have b7:=A7.fn.binds (ps:=["net","lane"]) λ_ _ _ _ _ _ b a=>by obtain⟨c,d,rfl⟩:=us2 a;rfl
 have m7:=JS X G A7.ns;have b8:=A8.fn.binds (ps:=["net"]) λ_ _ _ _ _ _ b a=>by obtain⟨c,rfl⟩:=us1 a;rfl
 have m8:=JS X G A8.ns;have b9:=A9.fn.binds (ps:=["net"]) λ_ _ _ _ _ _ b a=>by obtain⟨c,rfl⟩:=us1 a;rfl
 have m9:=JS X G A9.ns;have ep:=B.fn.binds (ps:=["many"]) λ_ _ _ _ _ _ b a=>by obtain⟨c,rfl⟩:=us1 a;rfl
 have dW:=JS X G B.ns;have eo:=A.fn.binds (ps:=["k"]) λ_ _ _ _ _ _ b a=>by obtain⟨c,rfl⟩:=us1 a;rfl
 have dV:=JS X G A.ns;have en:=z.fn.binds (ps:=["row","made"]) λ_ _ _ _ _ _ b a=>by obtain⟨c,d,rfl⟩:=us2 a;rfl
 have dT:=JS X G z.ns;have da:=y.fn.binds (ps:=["row"]) λ_ _ _ _ _ _ b a=>by obtain⟨c,rfl⟩:=us1 a;rfl
 have P:=JS X G y.ns;have el:=x.fn.binds (ps:=["k"]) λ_ _ _ _ _ _ b a=>by obtain⟨c,rfl⟩:=us1 a;rfl
 have dS:=JS X G x.ns;have ek:=u.fn.binds (ps:=["one","other"]) λ_ _ _ _ _ _ b a=>by obtain⟨c,d,rfl⟩:=us2 a;rfl
 have dR:=JS X G u.ns;have c9:=t.fn.binds (ps:=["row"]) λ_ _ _ _ _ _ b a=>by obtain⟨c,rfl⟩:=us1 a;rfl
 have O:=JS X G t.ns;have ej:=r.fn.binds (ps:=["k"]) λ_ _ _ _ _ _ b a=>by obtain⟨c,rfl⟩:=us1 a;rfl
 have dP:=JS X G r.ns;have c8:=q.fn.binds (ps:=["one","other"]) λ_ _ _ _ _ _ b a=>by obtain⟨c,d,rfl⟩:=us2 a;rfl
 have N:=JS X G q.ns;have c7:=p.fn.binds (ps:=["row"]) λ_ _ _ _ _ _ b a=>by obtain⟨c,rfl⟩:=us1 a;rfl
 have L:=JS X G p.ns;have ei:=o.fn.binds (ps:=["k"]) λ_ _ _ _ _ _ b a=>by obtain⟨c,rfl⟩:=us1 a;rfl
 have dO:=JS X G o.ns;have eh:=n.fn.binds (ps:=["net","counts"]) λ_ _ _ _ _ _ b a=>by obtain⟨c,d,rfl⟩:=us2 a;rfl
 have dM:=JS X G n.ns;have eg:=m.fn.binds (ps:=["net","counts"]) λ_ _ _ _ _ _ b a=>by obtain⟨c,d,rfl⟩:=us2 a;rfl
 have dK:=JS X G m.ns;have ef:=k.fn.binds (ps:=["net","names"]) λ_ _ _ _ _ _ b a=>by obtain⟨c,d,rfl⟩:=us2 a;rfl
 have dH:=JS X G k.ns;have ee:=j.fn.binds (ps:=["one","other"]) λ_ _ _ _ _ _ b a=>by obtain⟨c,d,rfl⟩:=us2 a;rfl
 have dG:=JS X G j.ns;have ec:=i.fn.binds (ps:=["_law_state"]) λ_ _ _ _ _ _ b a=>by obtain⟨c,rfl⟩:=us1 a;rfl
 have dF:=JS X G i.ns;have eb:=g.fn.binds (ps:=["_law_net_here","_law_numbers"]) λ_ _ _ _ _ _ b a=>by obtain⟨c,d,rfl⟩:=us2 a;rfl
 have dE:=JS X G g.ns;have ea:=f.fn.binds (ps:=["_law_net_here","_law_lanes"]) λ_ _ _ _ _ _ b a=>by obtain⟨c,d,rfl⟩:=us2 a;rfl
 have dD:=JS X G f.ns;have T:Txt K mg C:=⟨⟨pg,hd,po,sa⟩,dC,dB,dA,dz,dx,JS X G aC⟩;have MT:Mk K C g1:=⟨mk,J.mt.at_,J.mt.fn,kc⟩;have q1:=J.fn.binds (ps:=["self","net"]) λ_ _ _ _ _ _ b a=>by obtain⟨c,d,rfl⟩:=us2 a;rfl
 have q2:=B2.fn.binds (ps:=["self","lane"]) λ_ _ _ _ _ _ b a=>by obtain⟨c,d,rfl⟩:=us2 a;rfl
 have q3:=I.fn.binds (ps:=["self","ball"]) λ_ _ _ _ _ _ b a=>by obtain⟨c,d,rfl⟩:=us2 a;rfl
 have q4:=B4.fn.binds (ps:=["self","end"]) λ_ _ _ _ _ _ b a=>by obtain⟨c,d,rfl⟩:=us2 a;rfl
 have q5:=B5.fn.binds (ps:=["self"]) λ_ _ _ _ _ _ b a=>by obtain⟨c,rfl⟩:=us1 a;rfl
 have q6:=B6.fn.binds (ps:=["self"]) λ_ _ _ _ _ _ b a=>by obtain⟨c,rfl⟩:=us1 a;rfl
 have q7:=B7.fn.binds (ps:=["self"]) λ_ _ _ _ _ _ b a=>by obtain⟨c,rfl⟩:=us1 a;rfl
 obtain⟨oc,od,kV,doc,pm,an,fb,ct,e9,ed,_,_⟩:=id F.fn.ex;refine⟨a9,λs v=>by rw[ed];exact .of_eq rfl,λbase _ _=>?_⟩;have U1:Use l.prog w K mg base "_law_hand" ["_law_script"] 1 (nh K) f1 d1:=⟨dX A1.fn M,b1,A1.fn.kp,m1⟩;have U2:Use l.prog w K mg base "_law_take" ["_law_state","_law_many"] 1 (tQ K) f2 d2:=⟨dQ A2.fn,b2,A2.fn.kp,m2⟩;have U3:Use l.prog w K mg base "_law_net" ["_law_state","_law_lanes_most","_law_forks_most"] 2 iJ f3 d3:=⟨bb A3.fn M U2,b3,A3.fn.kp,m3⟩;have U4:Use l.prog w K mg base "is_whole" ["thing"] 1 (qC K) f4 d4:=⟨i7 A4.fn M,b4,A4.fn.kp,m4⟩;have U5:Use l.prog w K mg base "is_below" ["thing","bound"] 2 (uy K) f5 d5:=⟨gD A5.fn M U4,b5,A5.fn.kp,m5⟩;have U6:Use l.prog w K mg base "next_fork" ["net","lane","number"] 1 qG f6 d6:=⟨dU A6.fn M,b6,A6.fn.kp,m6⟩;have U7:Use l.prog w K mg base "end_of" ["net","lane"] 1 iK f7 d7:=⟨be A7.fn,b7,A7.fn.kp,m7⟩;have W1:UseM l.prog w K mg base C "__init__" ["self","net"] 1 (qE C) g1 e1:=⟨i8 J.fn M T,q1,J.mt⟩;have W2:UseM l.prog w K mg base C "start" ["self","lane"] 3 (tS C) g2 e2:=⟨jH B2.fn M T U5 U6,q2,B2.mt⟩;have W4:UseM l.prog w K mg base C "number_at" ["self","end"] 1 (uM C) g4 e4:=⟨mL B4.fn M T,q4,B4.mt⟩;have W3:UseM l.prog w K mg base C "step" ["self","ball"] 3 (qD C) g3 e3:=⟨oB I.fn M T U5 U6 U7 W4,q3,I.mt⟩;have W5:UseM l.prog w K mg base C "way" ["self"] 1 (ng C) g5 e5:=⟨dJ B5.fn M T,q5,B5.mt⟩;have W6:UseM l.prog w K mg base C "given" ["self"] 1 (tT C) g6 e6:=⟨jI B6.fn M T,q6,B6.mt⟩;have U8:Use l.prog w K mg base "layers" ["net"] 1 tV f8 d8:=⟨jK A8.fn M,b8,A8.fn.kp,m8⟩;have U9:Use l.prog w K mg base "plain" ["net"] 2 ux f9 d9:=⟨gB A9.fn M U8,b9,A9.fn.kp,m9⟩;have e8:Use l.prog w K mg base "power_of_two" ["many"] 1 iI a8 c6:=⟨ba B.fn M,ep,B.fn.kp,dW⟩;have E:Use l.prog w K mg base "row_of" ["k"] 2 vd a7 c5:=⟨gA A.fn M e8,eo,A.fn.kp,dV⟩;have D:Use l.prog w K mg base "net_of" ["row","made"] 3 wK a6 c4:=⟨mM z.fn M U9,en,z.fn.kp,dT⟩;have e0:Use l.prog w K mg base "block_of" ["row"] 5 (vA 4) a5 c3:=⟨oG y.fn M da P 4,da,y.fn.kp,P⟩;have eT:Use l.prog w K mg base "rounds" ["k"] 6 tU a4 c2:=⟨jJ x.fn E e0 D,el,x.fn.kp,dS⟩;have dc:Use l.prog w K mg base "by_turns" ["one","other"] 1 pQ a3 c1:=⟨aw u.fn M,ek,u.fn.kp,dR⟩;have eN:Use l.prog w K mg base "tree_of" ["row"] 6 uL a0 c0:=⟨mK t.fn M dc c9 O,c9,t.fn.kp,O⟩;have eM:Use l.prog w K mg base "tree" ["k"] 7 nZ ax cz:=⟨dL r.fn E eN D,ej,r.fn.kp,dP⟩;have eH:Use l.prog w K mg base "merger_of" ["one","other"] 6 xn ao cx:=⟨oF q.fn M dc c8 N,c8,q.fn.kp,N⟩;have eF:Use l.prog w K mg base "stairway_of" ["row"] 11 vP ak cn:=⟨oE p.fn M eH c7 L,c7,p.fn.kp,L⟩;have ez:Use l.prog w K mg base "stairway" ["k"] 12 vO Z cm:=⟨oC o.fn E eF D,ei,o.fn.kp,dO⟩;have ey:Use l.prog w K mg base "flowed" ["net","counts"] 1 tW Y ck:=⟨jL n.fn M,eh,n.fn.kp,dM⟩;have ew:Use l.prog w K mg base "ends_of" ["net","counts"] 2 ni W cb:=⟨dZ m.fn M ey,eg,m.fn.kp,dK⟩;have H:Use l.prog w K mg base "called" ["net","names"] 1 uN V b0:=⟨mN k.fn M,ef,k.fn.kp,dH⟩;have eu:Use l.prog w K mg base "behind" ["one","other"] 3 tX U bS:=⟨jM j.fn H U9,ee,j.fn.kp,dG⟩;have ab:UseM l.prog w K mg base C "step" ["self","ball"] 3 (tR C) g3 e3:=⟨i9 (oB I.fn M T U5 U6 U7 W4),q3,I.mt⟩;have er:Use l.prog w K mg base "_law_due" ["_law_net_here","_law_lanes"] 3 iL Q bl:=⟨bf f.fn M ew,ea,f.fn.kp,dD⟩;have es:Use l.prog w K mg base "_law_on_the_way" ["_law_net_here","_law_numbers"] 1 qF R bo:=⟨gC g.fn M M2,eb,g.fn.kp,dE⟩;have et:Use l.prog w K mg base "_law_case" ["_law_state"] 13 nj S bx:=⟨de i.fn M U2 U3 eM ez eT eu,ec,i.fn.kp,dF⟩;exact bc F.fn M T MT U1 U2 et W1 W6 W2 W5 ab es er
theorem zay {l:PySem.W.OpenLaw}{q:Program}{loose:List Str}{m:(Str->Option Value)->Heap->Prop}{e:World->Heap->Prop}{d:DefRec}{K:Params->PySem.W.Frag}(hn:l.most=some 63) (b:d.params.defaults=[])
  (i:∀ (w:World) (h:Heap),e w h->(K w.params).In h)
  (F:∀ (w:World) (mg:Str->Option Value) (c:Addr) (h:Heap),(K w.params).In h->h.Ns mainGlobals mg->mg d.name=some (.ref c) ->
   ∃ fd:FuncData,(∀ (s:Shared) (u:Value),BindsTo s fd ⟨[u],[]⟩ [("_law_script",u)])/\∀ base:Heap,(K w.params).In base->base.Ns mainGlobals mg->FnOk l.prog w (K w.params) mg base CX0 14 c fd ["_law_script"] (lD (K w.params))) :
  PySem.W.WalkO q loose m e l.row.toRowW d [] (λf vs=>PySem.call f vs) :=
 L2.j3 (n:=63) (k:=14) (x:="_law_script") (CX:=CX0) (sp:=lD) hn (by decide) b ⟨rfl,by decide,by decide,rfl⟩ i F (λ_ _ a ns g _ j=>⟨a,ns,rfl,j,g,λ_=>rfl⟩) λ_ _ _ _ z=>z
end K89
theorem PySem.W.Fast.tw18333117369305052848:True:=trivial
theorem PySem.W.Fast.tw12833582563957207711:True:=trivial
theorem PySem.W.Fast.tw1215159063005783771:True:=trivial
theorem PySem.W.Fast.tw14611400781876258490:True:=trivial
theorem PySem.W.Fast.tw6762520776917847964:True:=trivial
theorem PySem.W.Fast.tw15700959737044432372:True:=trivial
theorem PySem.W.Fast.tw1356367596887667620:True:=trivial
theorem PySem.W.Fast.tw17335964490128684523:True:=trivial
theorem PySem.W.Fast.tw7787522746195717770:True:=trivial
theorem PySem.W.Fast.tw6048885541175638496:True:=trivial
theorem PySem.W.Fast.tw7612631774678494459:True:=trivial
theorem PySem.W.Fast.tw8991756800658203432:True:=trivial
theorem PySem.W.Fast.tw6042076348705518025:True:=trivial
theorem PySem.W.Fast.tw11940929986363590543:True:=trivial
theorem PySem.W.Fast.tw8231122546128123105:True:=trivial
theorem PySem.W.Fast.tw5919402569592035653:True:=trivial
theorem PySem.W.Fast.tw18209846208786198314:True:=trivial
theorem PySem.W.Fast.tw5670044930042233580:True:=trivial
theorem PySem.W.Fast.tw1016514012486532425:True:=trivial
theorem PySem.W.Fast.tw12677319368720169353:True:=trivial
theorem PySem.W.Fast.tw13970597729632864518:True:=trivial
theorem PySem.W.Fast.tw2282164102233070451:True:=trivial
theorem PySem.W.Fast.tw2264058519906895179:True:=trivial
theorem PySem.W.Fast.tw12447742507155271966:True:=trivial
theorem PySem.W.Fast.tw7610865699379352385:True:=trivial
theorem PySem.W.Fast.tw12220880982253276073:True:=trivial
theorem PySem.W.Fast.tw5396191030407473613:True:=trivial
theorem PySem.W.Fast.tw9714647164073166602:True:=trivial
theorem PySem.W.Fast.tw1534485884681252763:True:=trivial
theorem PySem.W.Fast.tw1808370748140369213:True:=trivial
theorem PySem.W.Fast.tw11889680223234989321:True:=trivial
theorem PySem.W.Fast.tw16276399464936397840:True:=trivial
theorem PySem.W.Fast.tw12565910079315464920:True:=trivial
theorem PySem.W.Fast.tw9157995327066437487:True:=trivial
open PySem PySem.W PyProof.Rows
set_option maxRecDepth 100000 in
set_option maxHeartbeats 0 in
theorem PySem.Challenge.cw_stairlanes_k89_whole_numbers_given_holds : PySem.Challenge.rw_stairlanes_k89_whole_numbers_given.Holds := by
 w_on;o_law;k_head;(case hw=>w_witness2)
 k_fill
 refine K89.zay (l:=PySem.Challenge.rw_stairlanes_k89_whole_numbers_given) rfl rfl (fun w h Y=>PySem.W.kIn_of Y) ?F
 case F =>
  intro w mg fa h KX G hmg
  refine' K89.aL KX G hmg (K89.yX ?a1 ?l1 ?c1 ?k1) (K89.yX ?a2 ?l2 ?c2 ?k2) (K89.yX ?a3 ?l3 ?c3 ?k3) (K89.yX ?a4 ?l4 ?c4 ?k4) (K89.yX ?a5 ?l5 ?c5 ?k5) (K89.yX ?a6 ?l6 ?c6 ?k6) (K89.yX ?a7 ?l7 ?c7 ?k7) (K89.yX ?a8 ?l8 ?c8 ?k8) (K89.yX ?a9 ?l9 ?c9 ?k9) (K89.yX ?a10 ?l10 ?c10 ?k10) (K89.yX ?a11 ?l11 ?c11 ?k11) (K89.yX ?a12 ?l12 ?c12 ?k12) (K89.yX ?a13 ?l13 ?c13 ?k13) (K89.yX ?a14 ?l14 ?c14 ?k14) (K89.yX ?a15 ?l15 ?c15 ?k15) (K89.yX ?a16 ?l16 ?c16 ?k16) (K89.yX ?a17 ?l17 ?c17 ?k17) (K89.yX ?a18 ?l18 ?c18 ?k18) (K89.yX ?a19 ?l19 ?c19 ?k19) (K89.yX ?a20 ?l20 ?c20 ?k20) (K89.yX ?a21 ?l21 ?c21 ?k21) (K89.yX ?a22 ?l22 ?c22 ?k22) (K89.yX ?a23 ?l23 ?c23 ?k23) (K89.yX ?a24 ?l24 ?c24 ?k24) (K89.yX ?a25 ?l25 ?c25 ?k25) (K89.yX ?a26 ?l26 ?c26 ?k26) (K89.yX ?a27 ?l27 ?c27 ?k27) (K89.yX ?a28 ?l28 ?c28 ?k28) ?z1 ?z2 ?z3 ?z4 ?z5 ?z6 ?z7 ?z8 ?z9 ?z10 ?z11 ?z12 ?z13 ?z14 ?z15 ?z16 ?z17 ?aC (K89.wW ?a_1 ?i_1 ?l_1 ?c_1 ?k_1) (K89.wW ?a_2 ?i_2 ?l_2 ?c_2 ?k_2) (K89.wW ?a_3 ?i_3 ?l_3 ?c_3 ?k_3) (K89.wW ?a_4 ?i_4 ?l_4 ?c_4 ?k_4) (K89.wW ?a_5 ?i_5 ?l_5 ?c_5 ?k_5) (K89.wW ?a_6 ?i_6 ?l_6 ?c_6 ?k_6) (K89.wW ?a_7 ?i_7 ?l_7 ?c_7 ?k_7) ?pg ?hd ?po ?sa ?mk ?kc ?na0 ?na1 ?na2 ?na3 ?na4
  (case a1=>k_is);(case l1=>k_is);(case c1=>k_is);(case k1=>k_is)
  (case a2=>k_is);(case l2=>k_is);(case c2=>k_is);(case k2=>k_is)
  (case a3=>k_is);(case l3=>k_is);(case c3=>k_is);(case k3=>k_is)
  (case a4=>k_is);(case l4=>k_is);(case c4=>k_is);(case k4=>k_is)
  (case a5=>k_is);(case l5=>k_is);(case c5=>k_is);(case k5=>k_is)
  (case a6=>k_is);(case l6=>k_is);(case c6=>k_is);(case k6=>k_is)
  (case a7=>k_is);(case l7=>k_is);(case c7=>k_is);(case k7=>k_is)
  (case a8=>k_is);(case l8=>k_is);(case c8=>k_is);(case k8=>k_is)
  (case a9=>k_is);(case l9=>k_is);(case c9=>k_is);(case k9=>k_is)
  (case a10=>k_is);(case l10=>k_is);(case c10=>k_is);(case k10=>k_is)
  (case a11=>k_is);(case l11=>k_is);(case c11=>k_is);(case k11=>k_is)
  (case a12=>k_is);(case l12=>k_is);(case c12=>k_is);(case k12=>k_is)
  (case a13=>k_is);(case l13=>k_is);(case c13=>k_is);(case k13=>k_is)
  (case a14=>k_is);(case l14=>k_is);(case c14=>k_is);(case k14=>k_is)
  (case a15=>k_is);(case l15=>k_is);(case c15=>k_is);(case k15=>k_is)
  (case a16=>k_is);(case l16=>k_is);(case c16=>k_is);(case k16=>k_is)
  (case a17=>k_is);(case l17=>k_is);(case c17=>k_is);(case k17=>k_is)
  (case a18=>k_is);(case l18=>k_is);(case c18=>k_is);(case k18=>k_is)
  (case a19=>k_is);(case l19=>k_is);(case c19=>k_is);(case k19=>k_is)
  (case a20=>k_is);(case l20=>k_is);(case c20=>k_is);(case k20=>k_is)
  (case a21=>k_is);(case l21=>k_is);(case c21=>k_is);(case k21=>k_is)
  (case a22=>k_is);(case l22=>k_is);(case c22=>k_is);(case k22=>k_is)
  (case a23=>k_is);(case l23=>k_is);(case c23=>k_is);(case k23=>k_is)
  (case a24=>k_is);(case l24=>k_is);(case c24=>k_is);(case k24=>k_is)
  (case a25=>k_is);(case l25=>k_is);(case c25=>k_is);(case k25=>k_is)
  (case a26=>k_is);(case l26=>k_is);(case c26=>k_is);(case k26=>k_is)
  (case a27=>k_is);(case l27=>k_is);(case c27=>k_is);(case k27=>k_is)
  (case a28=>k_is);(case l28=>k_is);(case c28=>k_is);(case k28=>k_is)
  (case z1=>k_is)
  (case z2=>k_is)
  (case z3=>k_is)
  (case z4=>k_is)
  (case z5=>k_is)
  (case z6=>k_is)
  (case z7=>k_is)
  (case z8=>k_is)
  (case z9=>k_is)
  (case z10=>k_is)
  (case z11=>k_is)
  (case z12=>k_is)
  (case z13=>k_is)
  (case z14=>k_is)
  (case z15=>k_is)
  (case z16=>k_is)
  (case z17=>k_is)
  (case aC=>k_is)
  (case a_1=>k_is);(case i_1=>k_is);(case l_1=>k_is);(case c_1=>k_is);(case k_1=>k_is)
  (case a_2=>k_is);(case i_2=>k_is);(case l_2=>k_is);(case c_2=>k_is);(case k_2=>k_is)
  (case a_3=>k_is);(case i_3=>k_is);(case l_3=>k_is);(case c_3=>k_is);(case k_3=>k_is)
  (case a_4=>k_is);(case i_4=>k_is);(case l_4=>k_is);(case c_4=>k_is);(case k_4=>k_is)
  (case a_5=>k_is);(case i_5=>k_is);(case l_5=>k_is);(case c_5=>k_is);(case k_5=>k_is)
  (case a_6=>k_is);(case i_6=>k_is);(case l_6=>k_is);(case c_6=>k_is);(case k_6=>k_is)
  (case a_7=>k_is);(case i_7=>k_is);(case l_7=>k_is);(case c_7=>k_is);(case k_7=>k_is)
  (case pg=>k_is);(case hd=>k_is);(case po=>k_is);(case sa=>k_is);(case mk=>k_is);(case kc=>k_is)
  (case na0=>k_is)
  (case na1=>k_is)
  (case na2=>k_is)
  (case na3=>k_is)
  (case na4=>k_is)
