import PyProof.Rows.All
import Wide.All
import OpenK.AllK
import Wide.FinOn
import Lean
import PyProof.EqAt
import PyProof.EqKinds
import PyProof.TupleCall
import PyProof.NeKinds
import KE.KIntText
import PyProof.TupleOfStr
import PyProof.ReprRoads
import PyProof.NeData
import PyProof.DictKinds
import PyProof.AttrMiss
import PyProof.IsiH_list
import KE.KDictOf
import KE.KSortTup
import KE.KItemsList
import KE.KDictSum
import PyProof.DictWalks
import PyProof.DictItems
import KE.KDictList
import KE.KEqDict
import KE.KPairComp
import PyProof.DictTruth
import PyProof.MeetsDict
import KE.KLam
import KE.KNestM
import PyProof.Defs
import PyProof.P3In
import PyProof.Rows.SortRev
import PyProof.Rows.Range3
import PyProof.DictCompW
import PyProof.EvalArms
import PyProof.StrBlockL
import PyProof.StrLawsTight
import PyProof.StrWalks
import PyProof.SliceStr2
import PyProof.StrLawsIdx
import PyProof.Rows.ReprOcc
import PyProof.Rows.StrBin
import PyProof.CollectIter
import PyProof.Rows.FStr
import PyProof.AutoIntG2
import PySem.Challenge.RW_stairlanes_k63_books_spoilt
set_option Elab.async false
set_option linter.all false
set_option maxRecDepth 100000
local macro_rules|`(tactic|trivial)=>`(tactic|first|exact⟨by rfl,by first|exact Or.inl rfl|exact Or.inr (.inl rfl)|exact Or.inr (.inr rfl),by decide,by decide⟩|exact⟨rfl,rfl,rfl,by decide +kernel,rfl,by decide +kernel,by decide +kernel⟩|exact True.intro|rfl|assumption|exact .inl rfl|exact .inr rfl)
section
open PySem PySem.Spec PyProof.Rows
def J0:=@wpAny_bind
def J6:=@Heap.get?_push_of_some
def J7:=@wpAny_pure
def J8:=@List.getElem?_eq_getElem
def J9:=@List.getElem?_eq_some_iff
def Ja:=@List.mem_cons
def Jb:=@Heap.lt_size
def Jc:=@List.not_mem_nil
def Jd:=@List.length_append
def Je:=@Nat.le_refl
def Jf:=@if_neg
def Jg:=@List.length_map
def Jh:=@wpS_pure
def Jj:=@List.size_toArray
def Jm:=@wpS_bind
def Jn:=@Bool.false_ne_true
def Jp:=@if_pos
def Jq:=@decide_eq_false
def Jr:=@Option.some.inj
def Js:=@List.mem_singleton
def Jt:=@Array.length_toList
def Ju:=@List.mem_append
def Jv:=@Array.size_push
def Jw:=@decide_eq_true
def Jx:=@Array.size_append
def Jy:=@List.mem_append_right
def Jz:=@List.mem_of_getElem?
def JA:=@Heap.get?_push_size
def JB:=@Nat.ne_of_lt
def JC:=@List.length_take
def JD:=@Nat.lt_of_lt_of_le
def JE:=@List.mem_cons_of_mem
def JF:=@PySem.W.mg_of
def JG:=@or_false
def JH:=@List.mem_cons_self
def JJ:=@List.mem_map
def JK:=@Array.getElem?_eq_some_iff
def JL:=@wpAny_mono
def JM:=@sizeLine_eq
def JN:=@List.getD_eq_getElem?_getD
def JP:=@List.nodup_cons
def JQ:=@Nat.ne_of_gt
def JR:=@Nat.le_trans
def JS:=@decide_eq_false_iff_not
def JT:=@List.map_append
def JU:=@List.getElem?_map
def JV:=@congrArg
def JW:=@wpAny_holding
def JX:=@PySem.boot_len
def JY:=@wpAny_newObj_type
def JZ:=@List.take_succ_eq_append_getElem
def Y0:=@PySem.W.mg_none_of
def Y1:=@Nat.zero_le
def Y2:=@Array.getElem?_toList
def Y3:=@wpAny_seqItems
def Y4:=@decide_eq_true_eq
def Y5:=@wpAny_call_entry
def Y6:=@Array.toList_append
def Y7:=@List.append_assoc
def Y8:=@Bool.false_eq_true
def Y9:=@List.replicate_succ
def Ya:=@List.length_cons
def Yb:=@List.take_length
def Yc:=@List.length_drop
def Yd:=@List.map_cons
def Ye:=@wpAny_setField_rec
def Yf:=@PyProof.Rows.callWith_type1
def Yg:=@PyProof.Rows.slot_tuple_getitem
def Yh:=@Bool.eq_iff_iff
def Yi:=@List.append_nil
def Yj:=@wpS_forRange
def Yk:=@if_true
def Ym:=@List.pairwise_append
def Yn:=@List.mem_iff_getElem
def Yp:=@Nat.lt_irrefl
def Yq:=@List.forIn_cons
def Yr:=@Heap.get?_update_other
def Ys:=@List.lookup_cons
def Yt:=@List.all_eq_true
def Yu:=@Option.map_eq_some_iff
def Yv:=@List.length_range
def Yw:=@Paired.length
def Yx:=@PySem.W.kia_one
def Yy:=@Nat.zero_add
def Yz:=@PassesOwn.never
def YA:=@F.slot_zip_next
def YB:=@List.mem_append_left
def YC:=@Bool.and_eq_true
def YD:=@wpAny_rule
def YE:=@List.getElem?_append_right
def YF:=@Int.toNat_natCast
def YG:=@wpAny_typeOf
def YH:=@List.forIn_nil
def YJ:=@List.getElem?_append_left
def YK:=@List.getElem?_zip_eq_some
def YL:=@Heap.get?_update_self
def YM:=@List.mem_iff_getElem?
def YN:=@List.mem_range
def YQ:=@wpAny_truthy_bool
def YR:=@of_decide_eq_true
def YS:=@PySem.F.plainAttrs_list
def YT:=@beq_eq_false_iff_ne
def YU:=@Int.natCast_emod
def YV:=@wpAny_Call_Name_kw
def YW:=@if_false
def YX:=@wpS_mono
def YY:=@List.drop_eq_getElem_cons
def YZ:=@List.extract_eq_take_drop
def Z0:=@List.getElem?_eq_none_iff
def Z2:=@wpAny_dictEpoch
def Z3:=@Nat.lt_trans
def Z4:=@Array.toList_push
def Z5:=@wpAny_standAt
def Z6:=@not_or
def Z7:=@PySem.mem_of_lookup
def Z8:=@Int.le_trans
def Z9:=@Nat.add_assoc
def Za:=@wpAny_attempt
def Zb:=@List.length_replicate
def Zc:=@List.perm_append_comm
def Zd:=@wpAny_field
def Ze:=@Heap.size_push
def Zf:=@Array.toList_extract
def Zg:=@Around.under_plainId
def Zh:=@Nat.add_zero
def Zi:=@Nat.pow_succ
def Zj:=@Array.getElem?_eq_getElem
def Zk:=@List.getElem?_take_of_lt
def Zm:=@PySem.F.slot_list_append
def Zn:=@PySem.F.type_list_append
def Zp:=@wpAny_passesOwn
def Zq:=@List.foldl_cons
def Zr:=@List.filterMap_map
def Zs:=@List.map_map
def Zt:=@Bool.not_eq_true'
def Zu:=@F.args_zip_next_1
def Zv:=@List.take_append_drop
def Zw:=@wpAny_isInstance
def Zx:=@F.entry_zip_next
def Zy:=@Int.le_refl
def Zz:=@List.mem_of_mem_drop
def ZA:=@List.mem_of_mem_take
def ZB:=@wpAny_typeNameOfWhole_keyiter
def ZC:=@Int.emod_nonneg
def ZD:=@wpAny_specialOf
def ZE:=@codeAny_builtin
def ZF:=@wpAny_updateSeq
def ZG:=@F.slot_dict_keyiterator_next
def ZH:=@List.length_zip
def ZJ:=@List.map_congr_left
def ZK:=@F.plain_extend_loop
def ZL:=@wpS_get
def ZM:=@slicePart_none
def ZN:=@Heap.IsSliceOf.new
def ZP:=@call_meets
def ZQ:=@List.drop_zero
def ZR:=@wpS_modify
def ZS:=@List.pairwise_cons
def ZT:=@Bool.not_eq_false'
def ZU:=@List.flatten_cons
def ZV:=@Nat.lt_succ_of_lt
def ZW:=@wpAny_dictEntries
def ZX:=@AutoSeq1.wpAny_loadPart'
def ZY:=@wpAny_onRaise
def ZZ:=@List.cons.inj
def W0:=@Bool.true_and
def W2:=@List.take_append_getElem
end
namespace L2
open PySem PySem.Spec PyProof.Rows
abbrev Key:=Sum Int Str
def uY:Key->Value->Bool
  | .inl k,v=>Value.isInt k v
  | .inr x,v=>Value.isStrOf x v
def aE (w:World):Key->Int
  | .inl k=>hashInt k
  | .inr x=>hashStr w x
theorem yL:∀ {k:Key}{v:Value},uY k v=true->(∃ i t,k=Sum.inl i/\v=Value.int i t)\/(∃ x t,k=Sum.inr x/\v=Value.str x t)
  | .inl i,v,h=>by
    obtain⟨t,e⟩:=Value.isInt_shape (k:=i) (v:=v) h
    exact .inl ⟨i,t,rfl,e⟩
  | .inr x,v,h=>by
    obtain⟨t,e⟩:=Value.isStrOf_shape (x:=x) (v:=v) h;exact .inr ⟨x,t,rfl,e⟩
theorem lJ (i:Int)(t:Tok):uY (.inl i) (.int i t)=true:=by simp[uY,Value.isInt]
theorem lI (x:Str)(t:Tok):uY (.inr x) (.str x t)=true:=by simp[uY,Value.isStrOf]
theorem eX (a b:Int):decide ((Sum.inl a:Key)=Sum.inl b)=(a == b):=by
  by_cases e:a=b
  · subst e;simp
  · have h:¬(Sum.inl a:Key)=Sum.inl b:=λq=>e (Sum.inl.inj q)
    rw[Jq h];exact(YT.mpr e).symm
theorem eR (a b:Str):decide ((Sum.inr a:Key)=Sum.inr b)=decide (a=b):=by
  by_cases e:a=b
  · subst e;simp
  · have h:¬(Sum.inr a:Key)=Sum.inr b:=λq=>e (Sum.inr.inj q)
    rw[Jq h,Jq e]
theorem eW (a:Int)(b:Str):decide ((Sum.inl a:Key)=Sum.inr b)=false:=Jq (λq=>nomatch q)
theorem eU (a:Str)(b:Int):decide ((Sum.inr a:Key)=Sum.inl b)=false:=Jq (λq=>nomatch q)
def yd (prog:Program)(w:World):PySem.KeyKind prog w Key where
  is:=uY
  hash:=aE w
  inj:=λv a b l f=>by
    rcases yL l with ⟨i,t,rfl,rfl⟩|⟨x,t,rfl,rfl⟩
    · rcases yL f with ⟨j,u,rfl,e⟩|⟨y,u,rfl,e⟩
      · injection e with c _;rw[c]
      · exact nomatch e
    · rcases yL f with ⟨j,u,rfl,e⟩|⟨y,u,rfl,e⟩
      · exact nomatch e
      · injection e with c _;rw[c]
  byValue:=λk v h=>by
    rcases yL h with ⟨i,t,rfl,rfl⟩|⟨x,t,rfl,rfl⟩<;>rfl
  pyHash:=λd h=>by
    rcases yL d with ⟨i,t,rfl,rfl⟩|⟨x,t,rfl,rfl⟩
    · exact wpAny_pyHash_int h
    · exact wpAny_pyHash_str h
  eqBool:=λg d h=>by
    rcases yL g with ⟨i,t,rfl,rfl⟩|⟨x,t,rfl,rfl⟩
    · rcases yL d with ⟨j,u,rfl,rfl⟩|⟨y,u,rfl,rfl⟩
      · rw[eX]at h;exact wpAny_eqBool_int h
      · rw[eW]at h;exact SeqAt.EqAt.int_str i t y u _ _ _ _ h
    · rcases yL d with ⟨j,u,rfl,rfl⟩|⟨y,u,rfl,rfl⟩
      · rw[eU]at h;exact SeqAt.EqAt.str_int x t j u _ _ _ _ h
      · rw[eR]at h;exact wpAny_eqBool_str h
  «strs»:=λk x t v h=>by
    rcases yL h with ⟨i,u,rfl,e⟩|⟨y,u,rfl,e⟩
    · exact nomatch e
    · injection e with c _
      subst c;cases v<;>rfl
theorem oZ (prog:Program)(w:World)(k:Key)(v:Value):(yd prog w).is k v=uY k v:=rfl
theorem qe (prog:Program)(w:World)(i:Int)(t:Tok):(yd prog w).is (.inl i) (.int i t)=true:=lJ i t
theorem qd (prog:Program)(w:World)(x:Str)(t:Tok):(yd prog w).is (.inr x) (.str x t)=true:=lI x t
inductive V where
  | non|bl (b:Bool)|int (i:Int)|str (x:Str)|byt (b:Array UInt8)|flt (b:UInt64)|ref (a:Addr)|ty (n:String)
  deriving DecidableEq
def RelV:V->Value->Prop
  | .non,u=>u=Value.none
  | .bl b,u=>u=Value.bool b
  | .int i,u=>∃ t,u=Value.int i t
  | .str x,u=>∃ t,u=Value.str x t
  | .byt b,u=>∃ t,u=Value.bytes b t
  | .flt b,u=>∃ t,u=Value.float b t
  | .ref a,u=>u=Value.ref a
  | .ty n,u=>u=Value.type n
abbrev Vals:List V->List Value->Prop:=Paired RelV
theorem Vals.length {xs:List V}{us:List Value}(r:Vals xs us):xs.length=us.length:=Yw r
theorem Vals.get:∀ {xs:List V}{us:List Value}{i:Nat}{x:V},Vals xs us->xs[i]?=some x->∃ u,us[i]?=some u/\RelV x u
  | _,_,_,_,.nil,e=>by simp at e
  | _,_,0,_,.cons r _,e=>by simp at e;subst e;exact⟨_,rfl,r⟩
  | _,_,i+1,x,.cons _ t,e=>by
    obtain⟨u,b,a⟩:=Vals.get (i:=i) (x:=x) t (by simpa using e);exact⟨u,by simpa using b,a⟩
theorem Vals.set {x:V}{u:Value}(r:RelV x u):∀ {xs:List V}{us:List Value}(i:Nat),Vals xs us->Vals (xs.set i x) (us.set i u)
  | _,_,_,.nil=>.nil
  | _,_,0,.cons _ t=>.cons r t
  | _,_,i+1,.cons q t=>.cons q (Vals.set r i t)
theorem Vals.append:∀ {xs ys:List V}{us ws:List Value},Vals xs us->Vals ys ws->Vals (xs++ys) (us++ws)
  | _,_,_,_,.nil,s=>s
  | _,_,_,_,.cons r t,s=>.cons r (Vals.append t s)
theorem Vals.take:∀ {xs:List V}{us:List Value}(n:Nat),Vals xs us->Vals (xs.take n) (us.take n)
  | _,_,0,_=>.nil
  | _,_,_+1,.nil=>.nil
  | _,_,n+1,.cons r t=>.cons r (Vals.take n t)
theorem Vals.drop:∀ {xs:List V}{us:List Value}(n:Nat),Vals xs us->Vals (xs.drop n) (us.drop n)
  | _,_,0,r=>r
  | _,_,_+1,.nil=>.nil
  | _,_,n+1,.cons _ t=>Vals.drop n t
def RelO:Option V->Option Value->Prop
  | some v,some u=>RelV v u
  | none,none=>True
  | _,_=>False
def KV {κ:Type}:List (κ × V)->List (κ × Value)->Prop:=Paired λ(p:κ × V) (q:κ × Value)=>p.1=q.1/\RelV p.2 q.2
def kV:Key->V
  | .inl i=>.int i
  | .inr x=>.str x
inductive HO where
  | lst (xs:List V)
  | tup (xs:List V)
  | dK (kvs:List (Key × V))|dT (kvs:List (List Key × V))
  | set (S:Int->Bool) (n:Nat)
  | ins (C dx:Addr) (fs:List (Str × V))
  | own (x:Addr)
  | xd (fs:List (Str × V))
  | met (f x:Addr)
  | rng (lo hi:Int)
  | frz (o:Obj) (u:HO)
  | tbl (ps:Array Value)
  | ext (φ:Heap->Prop)
abbrev Hp:=Addr->Option HO
def upd (H:Hp)(a:Addr)(o:HO):Hp:=λb=>if b=a then some o else H b
theorem zB {H:Hp}{a:Addr}{o:HO}:upd H a o a=some o:=by unfold upd;rw[Jp rfl]
theorem zJ {H:Hp}{a b:Addr}{o:HO}(h:b≠a):upd H a o b=H b:=by unfold upd;rw[Jf h]
theorem xL {H:Hp}{a b:Addr}{o u:HO}(h:H a=some o)(h':H b=some u)(d:o≠u):a≠b:=by
  intro e;subst e;rw[h]at h';exact d (Jr h')
theorem zH {H:Hp}{a b:Addr}{o:HO}(h:H a=some o)(h':H b=none):a≠b:=by
  intro e;subst e;rw[h]at h';cases h'
def TupX (h:Heap)(a:Addr)(items:Array Value):Prop:=∃ o,h.get? a=some o/\o.cls=.type "tuple"/\∃ n,o.data=.seq items n/\o.dict=none
theorem TupX.tup {h:Heap}{a:Addr}{items:Array Value}(x:TupX h a items):IsTup h a items:=let ⟨o,e,c,n,d,_⟩:=x;⟨o,e,c,n,d⟩
theorem TupX.new (h:Heap)(items:Array Value):TupX (h.push { cls:=.type "tuple",data:=.seq items }) h.objs.size items:=⟨_,JA _ rfl,rfl,0,rfl,rfl⟩
section
variable (P:Program)(w:World)
def ObjOk (H:Hp)(h:Heap)(a:Addr):HO->Prop
  | .lst xs=>xs.length<=sizeLine/\∃ (its:List Value) (n:Nat),Vals xs its/\h.get? a=some { cls:=.type "list",data:=.seq its.toArray n }
  | .tup xs=>xs.length<=sizeLine/\∃ its:List Value,Vals xs its/\TupX h a its.toArray
  | .dK b=>b.length<=sizeLine/\(a == sysModules)=false/\∃ g,KV b g/\h.DictOf (yd P w) a g
  | .dT b=>b.length<=sizeLine/\(a == sysModules)=false/\∃ xs:List (List Key × Addr × Value),
      Paired (λ(p:List Key × V) (q:List Key × Addr × Value)=>p.1=q.1/\H q.2.1=some (.tup (p.1.map kV))/\RelV p.2 q.2.2) b xs /\
      ∃ o k m,h.get? a=some o/\o.ExactDict/\o.data=.dict k m/\k.toList=xs.map (entryOfKey (tupleKind (yd P w)))/\(xs.map (·.1)).Nodup
  | .set S n=>h.SetOf (intKind P w) a S n
  | .ins C d fs=>H d=some (.own a)/\fs.length<=1000/\d≠a/\h.get? a=some (PySem.W.instObj C d) /\
      ∃ c,h.Ns1 d c/\(∀ f,RelO (fs.lookup f) (c f))/\PySem.Within c (fs.map (·.1))
  | .own _=>∃ o,h.get? a=some o
  | .xd fs=>∃ c,h.Ns1 a c/\∀ f,RelO (fs.lookup f) (c f)
  | .rng lo hi=>∃ t u v,h.get? a=some { cls:=.type "range",data:=.fields #[.int lo t,.int hi u,.int 1 v] }
  | .frz o u=>h.get? a=some o/\ObjOk H h a u
  | .tbl l=>h.get? a=some { cls:=.none,data:=.fields l }
  | .met f x=>h.get? a=some (PySem.W.methodObj (.ref f) (.ref x))
  | .ext e=>e h/\(∃ o,h.get? a=some o)/\∀ j i:Heap,e j->(∀ o,j.get? a=some o->i.get? a=some o)->e i
def HOk (H:Hp)(h:Heap):Prop:=∀ a o,H a=some o->ObjOk P w H h a o
end
section
variable {P:Program}{w:World}{H H':Hp}{h h':Heap}{a:Addr}{o:HO}
theorem ObjOk.lt (x:ObjOk P w H h a o):a<h.objs.size:=by
  cases o with
  | lst c=>obtain⟨_,_,_,_,e⟩:=x;exact Jb e
  | tup c=>obtain⟨_,_,_,p⟩:=x;exact p.tup.lt
  | dK b=>obtain⟨_,_,_,_,o,_,_,e,_⟩:=x;exact Jb e
  | dT b=>obtain⟨_,_,_,_,o,_,_,e,_⟩:=x;exact Jb e
  | set S n=>obtain⟨o,_,_,_,e,_⟩:=x;exact Jb e
  | ins C i fs=>obtain⟨_,_,_,e,_⟩:=x;exact Jb e
  | own y=>obtain⟨_,e⟩:=x;exact Jb e
  | xd fs=>obtain⟨_,⟨_,_,_,e,_⟩,_⟩:=x;exact Jb e
  | rng lo hi=>obtain⟨_,_,_,e⟩:=x;exact Jb e
  | frz ob u=>obtain⟨e,_⟩:=x;exact Jb e
  | tbl g=>exact Jb (show h.get? a=some _ from x)
  | met f y=>exact Jb (show h.get? a=some _ from x)
  | ext d=>obtain⟨_,⟨_,e⟩,_⟩:=x;exact Jb e
theorem Paired.mapP {α β:Type}{F G:α->β->Prop}:∀ {l₁:List α}{l₂:List β},Paired F l₁ l₂->(∀ a b,F a b->G a b)->Paired G l₁ l₂
  | _,_,.nil,_=>.nil
  | _,_,.cons r t,f=>.cons (f _ _ r) (Paired.mapP t f)
theorem ObjOk.stay (x:ObjOk P w H h a o)(k:∀ b u,(b=a\/H b=some (.own a))->h.get? b=some u->h'.get? b=some u)(E:∀ b,H b=some (.own a)->H' b=some (.own a))(D:∀ b xs,H b=some (.tup xs)->H' b=some (.tup xs)):ObjOk P w H' h' a o:=by
  induction o with
  | lst xs=>obtain⟨z,j,n,r,e⟩:=x;exact⟨z,j,n,r,k _ _ (.inl rfl) e⟩
  | tup xs=>obtain⟨z,j,r,ob,e,c⟩:=x;exact⟨z,j,r,ob,k _ _ (.inl rfl) e,c⟩
  | dK s=>obtain⟨z,y,B,r,ob,g,i,e,c⟩:=x;exact⟨z,y,B,r,ob,g,i,k _ _ (.inl rfl) e,c⟩
  | dT s =>
    obtain⟨z,y,xs,r,ob,g,i,e,c⟩:=x
    exact⟨z,y,xs,Paired.mapP r λp q z=>⟨z.1,D _ _ z.2.1,z.2.2⟩,ob,g,i,k _ _ (.inl rfl) e,c⟩
  | set S n=>obtain⟨ob,g,i,t,e,c⟩:=x;exact⟨ob,g,i,t,k _ _ (.inl rfl) e,c⟩
  | ins C G fs =>
    obtain⟨d,z,ne,e,m,⟨l,g,i,e2,c⟩,r⟩:=x
    exact⟨E _ d,z,ne,k _ _ (.inl rfl) e,m,⟨l,g,i,k _ _ (.inr d) e2,c⟩,r⟩
  | own y=>obtain⟨ob,e⟩:=x;exact⟨ob,k _ _ (.inl rfl) e⟩
  | xd fs=>obtain⟨m,⟨l,g,i,e,c⟩,r⟩:=x;exact⟨m,⟨l,g,i,k _ _ (.inl rfl) e,c⟩,r⟩
  | rng lo hi=>obtain⟨t,u,v,e⟩:=x;exact⟨t,u,v,k _ _ (.inl rfl) e⟩
  | frz ob u ih=>obtain⟨e,q⟩:=x;exact⟨k _ _ (.inl rfl) e,ih q⟩
  | tbl A =>
    have e:h.get? a=some { cls:=.none,data:=.fields A }:=x;show h'.get? a=some { cls:=.none,data:=.fields A }
    exact k a _ (.inl rfl) e
  | met f y =>
    have e:h.get? a=some (PySem.W.methodObj (.ref f) (.ref y)):=x;show h'.get? a=some (PySem.W.methodObj (.ref f) (.ref y))
    exact k a _ (.inl rfl) e
  | ext F=>obtain⟨p,⟨o,e⟩,st⟩:=x;exact⟨st _ _ p λo q=>k _ _ (.inl rfl) q,⟨o,k _ _ (.inl rfl) e⟩,st⟩
theorem HOk.lt (x:HOk P w H h)(e:H a=some o):a<h.objs.size:=(x a o e).lt
theorem HOk.fresh (x:HOk P w H h)(e:h.objs.size<=a):H a=none:=by
  cases q:H a with
  | none=>rfl
  | some u=>exact absurd (JD (x.lt q) e) (Yp _)
theorem HOk.kept (x:HOk P w H h)(k:∀ b u,h.get? b=some u->h'.get? b=some u):HOk P w H h':=λa o e =>
  (x a o e).stay (λb u _ q=>k b u q) (λ_ q=>q) λ_ _ q=>q
theorem HOk.laid (x:HOk P w H h)(k:∀ b u,h.get? b=some u->h'.get? b=some u)(g:h.objs.size<=a)(new:ObjOk P w (upd H a o) h' a o):HOk P w (upd H a o) h':=λb u e=>by
  have d:=x.fresh g;by_cases f:b=a
  · subst f;rw[zB]at e;cases e;exact new
  · rw[zJ f]at e
    exact(x b u e).stay (λc v _ q=>k c v q) (λc q=>by rw[zJ (zH q d)];exact q) λc i q=>by rw[zJ (zH q d)];exact q
end
def Rd (H:Hp)(a:Addr)(u:HO):Prop:=H a=some u\/∃ o,H a=some (.frz o u)
theorem Rd.ok {P:Program}{w:World}{H:Hp}{h:Heap}{a:Addr}{u:HO}(r:Rd H a u)(x:HOk P w H h):ObjOk P w H h a u:=by
  rcases r with r|⟨o,r⟩
  · exact x a u r
  · obtain⟨_,q⟩:=x a _ r
    exact q
def Mut:Option HO->Prop
  | some (.lst _)=>True
  | some (.dK _)=>True
  | some (.dT _)=>True
  | some (.set _ _)=>True
  | some (.ins _ _ _)=>True
  | some (.ext _)=>True
  | _=>False
section
variable {P:Program}{w:World}{H:Hp}{h h':Heap}{x e:Addr}{o':HO}
theorem HOk.write (ok:HOk P w H h)(i:Mut (H x))(o:e=x\/H e=some (.own x))(k:∀ b u,b≠e->h.get? b=some u->h'.get? b=some u)(m:∃ u,h'.get? e=some u)(new:ObjOk P w (upd H x o') h' x o'):HOk P w (upd H x o') h':=λb u q=>by
  have d:∀ c y,H c=some (.own y)->c≠x:=λc y r z=>by subst z;rw[r]at i;exact i
  have f:∀ c g,H c=some (.tup g)->c≠x:=λc g r z=>by subst z;rw[r]at i;exact i
  by_cases l:b=x
  · subst l;rw[zB]at q;cases q;exact new
  · rw[zJ l]at q
    by_cases a:b=e
    · have n:H b=some (.own x):=by
        rcases o with z|z
        · exact absurd (a.trans z) l
        · rw[a];exact z
      rw[q]at n;cases n;obtain⟨v,p⟩:=m;exact⟨v,by rw[a];exact p⟩
    · refine(ok b u q).stay (λc v j r=>k c v ?_ r) (λc r=>by rw[zJ (d c b r)];exact r) λc g r=>by rw[zJ (f c g r)];exact r
      rcases j with rfl|j
      · exact a
      · rintro rfl
        rcases o with z|z
        · exact d c b j z
        · rw[j]at z;cases z;exact l rfl
end
structure Un (fs ex:List Addr) (H H':Hp) (h h':Heap):Prop where
  keep:∀ b o,h.get? b=some o->H b=none->b∉fs->b∉ex->h'.get? b=some o
  slot:∀ b o,h.get? b=some o->H b=none->b∈fs->b∉ex->∃ sl,h'.get? b=some { o with slots:=sl }
  free:∀ b o,h.get? b=some o->H b=none->b∉ex->H' b=none
  there:∀ b o,h.get? b=some o->b∉ex->∃ o',h'.get? b=some o'
  tups:∀ b xs,H b=some (.tup xs)->H' b=some (.tup xs)
  frzs:∀ b o u,H b=some (.frz o u)->H' b=some (.frz o u)
  tbls:∀ b ps,H b=some (.tbl ps)->∃ more,H' b=some (.tbl (ps++more))
section
variable {fs ex:List Addr}{H H1:Hp}{h h1 h':Heap}{a x e:Addr}{o:HO}
theorem Un.any (u:Un fs ex H H1 h h1){b:Addr}{ob:Obj}(q:h.get? b=some ob)(n:H b=none)(a:b∉ex):∃ sl,h1.get? b=some { ob with slots:=sl }:=by
  by_cases c:b∈fs
  · exact u.slot b ob q n c a
  · exact⟨ob.slots,u.keep b ob q n c a⟩
theorem Un.kept (k:∀ b u,h.get? b=some u->h'.get? b=some u):Un fs ex H H h h' :=
  ⟨λb ob q _ _ _=>k b ob q,λb ob q _ _ _=>⟨ob.slots,k b ob q⟩,λ_ _ _ n _=>n,λb ob q _=>⟨ob,k b ob q⟩,λ_ _ q=>q,λ_ _ _ q=>q,λ_ a q=>⟨#[],by rw[q];simp⟩⟩
theorem Un.refl:Un fs ex H H h h:=Un.kept λ_ _ q=>q
theorem Un.laid (k:∀ b u,h.get? b=some u->h'.get? b=some u)(d:h.objs.size<=a)(hn:H a=none):Un fs ex H (upd H a o) h h' where
  keep:=λb u q _ _ _=>k b u q
  slot:=λb u q _ _ _=>⟨u.slots,k b u q⟩
  free:=λb u q n _=>by rw[zJ (JB (JD (Jb q) d))];exact n
  there:=λb u q _=>⟨u,k b u q⟩
  tups:=λb c q=>by rw[zJ (zH q hn)];exact q
  frzs:=λb u c q=>by rw[zJ (zH q hn)];exact q
  tbls:=λb e q=>⟨#[],by rw[zJ (zH q hn),q];simp⟩
theorem Un.write (c:Mut (H x))(l:e=x\/H e=some (.own x))(k:∀ b u,b≠e->h.get? b=some u->h'.get? b=some u)(f:∃ u,h'.get? e=some u):Un fs ex H (upd H x o) h h':=by
  have g:∀ b,H b=none->b≠x:=λb n z=>by subst z;rw[n]at c;exact c
  have i:∀ b,H b=none->b≠e:=λb n z=>by
    subst z;rcases l with r|r
    · exact g b n r
    · rw[n]at r;cases r
  have d:∀ b u,H b=some u->¬ Mut (some u)->b≠x:=λb u q nm z=>by subst z;rw[q]at c;exact nm c
  refine⟨λb u q n _ _=>k b u (i b n) q,λb u q n _ _=>⟨u.slots,k b u (i b n) q⟩,λb u q n _=>by rw[zJ (g b n)];exact n,λb u q _=>?_,
    λb j q=>by rw[zJ (d b _ q λz=>z)];exact q,λb u j q=>by rw[zJ (d b _ q λz=>z)];exact q,λb m q=>⟨#[],by rw[zJ (d b _ q λz=>z),q];simp⟩⟩
  by_cases a:b=e
  · subst a;exact f
  · exact⟨u,k b u a q⟩
end
def trk (h:Heap)(H:Hp):List Addr:=(List.range h.objs.size).filter λa=>(H a).isSome
def uw (h:Heap)(H:Hp):Heap:=PySem.W.hideAll h (trk h H)
theorem lN (h:Heap)(H:Hp):(uw h H).objs.size=h.objs.size:=PySem.W.hideAll_size _ _
theorem jw {h:Heap}{H:Hp}{b:Addr}{o:Obj}(e:h.get? b=some o)(n:H b=none):(uw h H).get? b=some o :=
  PySem.W.hideAll_get _ e λa=>by
    have q:(H b).isSome=true:=(List.mem_filter.mp a).2;rw[n]at q;simp at q
theorem gC {h:Heap}{H:Hp}{b:Addr}{o:Obj}(e:(uw h H).get? b=some o):h.get? b=some o/\H b=none:=by
  have a:h.get? b=some o:=PySem.W.of_hideAll (trk h H) e;refine⟨a,?_⟩
  cases q:H b with
  | none=>rfl
  | some x =>
    have c:b∈trk h H:=List.mem_filter.mpr ⟨YN.mpr (Jb a),by simp[q]⟩;have z:(uw h H).get? b=none:=PySem.W.hideAll_none (trk h H) c;rw[z]at e;cases e
def gk (g h:Heap)(L:Addr):List (Addr × Obj):=(List.range h.objs.size).filterMap λa=>if a=L\/(g.get? a).isSome=true then none else (h.get? a).map λo=>(a,o)
def rest (g h:Heap)(L d:Addr):List (Addr × Obj):=(gk g h L).filter λp=>decide (p.1≠d)
structure Mod (K:PySem.W.Frag) (mg:Str->Option Value) (base:Heap):Prop where
  kin:K.In base
  glob:base.Ns mainGlobals mg
  blt:∃ mb,base.Ns builtinsNs mb/\∀ x:Str,x≠"__name__"->mb x=bootBuiltins x
  nolimit:base.NoLimit
structure Cx where
  prog:Program
  w:World
  K:PySem.W.Frag
  mg:Str->Option Value
  base:Heap
  A:Around
  N:List Str
  s₀:Shared
  H₀:Hp
  env:Env
  outer:List Env
  stack:List Env
  ex:List Addr
  fn:Str->Bool
  calm:Bool
  pn:List (Addr × Obj)
  xe:Value->Shared->Prop
def frs (l:List Env):List Addr:=l.filterMap (·.frame)
abbrev Cx.fs (X:Cx):List Addr:=frs X.outer
def Vis (sc:Scope)(x:Str):Prop:=sc.names.lookup x=some .local \/ sc.names.lookup x=some .cell\/sc.names.lookup x=some .free
def Loc (sc:Scope)(x:Str):Prop:=sc.names.lookup x=some .local \/ sc.names.lookup x=some .cell
def Look (env:Env)(h:Heap)(m:Str->Option Value)(x:Str)(u:Value):Prop :=
  (env.kindOf x=some .local /\ m x=some u)\/((env.kindOf x=some .cell\/env.kindOf x=some .free)/\∃ c,env.cells.lookup x=some c/\h.IsCell c (some u))
structure Cx.Ok (X:Cx):Prop where
  mod:Mod X.K X.mg X.base
  kind:X.env.scope.kind=.function
  glob:X.env.globals=mainGlobals
  blt:X.env.builtins=builtinsNs
  above:X.s₀.heap.objs.size<=X.env.locals
  inj:∀ x y c,X.env.cells.lookup x=some c->X.env.cells.lookup y=some c->x=y
  has:∀ x,(X.env.kindOf x=some .cell\/X.env.kindOf x=some .free)->∃ c,X.env.cells.lookup x=some c
  cab:∀ x c,X.fn x=true->X.env.cells.lookup x=some c->X.s₀.heap.objs.size<=c
  hd:X.calm=true->X.A.handled=none
  frames:X.A.frames=some X.stack
  stk:X.stack=X.outer\/(X.stack=X.env::X.outer/\X.env.frame=some X.env.locals)
  exf:∀ b∈X.ex,b≠X.env.locals/\∀ x c,X.env.cells.lookup x=some c->c≠b
  bs:∀ b o,X.base.get? b=some o->X.s₀.heap.get? b=some o/\X.H₀ b=none
  bsz:X.base.objs.size<=X.s₀.heap.objs.size
  noex:∀ b o,X.base.get? b=some o->b∉X.ex
  exfs:∀ b∈X.ex,b∉X.fs
  funs:X.s₀.heap.FunFrames X.base X.outer
  frf:∀ b∈X.fs,X.H₀ b=none
structure Inv (X:Cx) (pins:List (Addr × Obj)) (σ:List (Option V)) (H:Hp) (s:Shared):Prop where
  ok:X.Ok
  os:s.os=X.s₀.os
  bare:AllBare s.gens
  base:Un X.fs X.ex X.H₀ H X.s₀.heap s.heap
  loc:∃ m,s.heap.Ns X.env.locals m/\∀ (i:Nat) (x:Str) (v:V),X.N[i]?=some x->σ[i]?=some (some v)->Vis X.env.scope x->∃ u,RelV v u/\Look X.env s.heap m x u
  cell:∀ x c,X.env.cells.lookup x=some c->∃ v,s.heap.IsCell c v
  free:H X.env.locals=none
  freeC:∀ x c,X.env.cells.lookup x=some c->H c=none
  pin:∀ p∈X.pn++pins,s.heap.get? p.1=some p.2/\H p.1=none/\p.1≠X.env.locals/\p.1∉X.fs/\∀ v,p.2.data≠.cell v
  hok:HOk X.prog X.w H s.heap
  len:σ.length=X.N.length
section
variable {X:Cx}{pins:List (Addr × Obj)}{σ:List (Option V)}{H H':Hp}{s:Shared}{h':Heap}
theorem Cx.Ok.nofr (ok:X.Ok){b:Addr}{o:Obj}(e:X.base.get? b=some o):b∉X.fs:=λa=>by
  have:=(ok.funs.mem a).1;rw[e]at this;cases this
theorem Inv.bs (I:Inv X pins σ H s):∀ b o,X.base.get? b=some o->s.heap.get? b=some o/\H b=none:=λb o e =>
  ⟨I.base.keep b o (I.ok.bs b o e).1 (I.ok.bs b o e).2 (I.ok.nofr e) (I.ok.noex b o e),I.base.free b o (I.ok.bs b o e).1 (I.ok.bs b o e).2 (I.ok.noex b o e)⟩
theorem Inv.bk (I:Inv X pins σ H s):∀ b o,X.base.get? b=some o->s.heap.get? b=some o:=λb o e=>(I.bs b o e).1
theorem Inv.mod (I:Inv X pins σ H s):Mod X.K X.mg X.base:=I.ok.mod
theorem Inv.kIn (I:Inv X pins σ H s):X.K.In s.heap:=I.ok.mod.kin.keeps I.bk
theorem Inv.lt (I:Inv X pins σ H s):X.env.locals<s.heap.objs.size:=let ⟨_,a,_⟩:=I.loc;a.lt
theorem Inv.sz (I:Inv X pins σ H s):X.s₀.heap.objs.size<=s.heap.objs.size:=JR I.ok.above (Nat.le_of_lt I.lt)
theorem Inv.nofs (I:Inv X pins σ H s){a:Addr}(h:s.heap.objs.size<=a):a∉X.fs:=λc=>by
  obtain⟨_,o,b,_⟩:=I.ok.funs.mem c;exact absurd (JD (Jb b) (JR I.sz h)) (Yp _)
theorem Inv.cne (I:Inv X pins σ H s):∀ x c,X.env.cells.lookup x=some c->c≠X.env.locals:=λx c e z=>by
  obtain⟨v,o,d,f⟩:=I.cell x c e;obtain⟨m,⟨g,h,i,a,b,_⟩,_⟩:=I.loc;rw[z,a]at d;cases d;rw[b]at f;cases f
theorem Inv.funs (I:Inv X pins σ H s):s.heap.FunFrames X.base X.outer:=by
  have all:∀ (l:List Env),(∀ b∈frs l,b∈X.fs)->X.s₀.heap.FunFrames X.base l->s.heap.FunFrames X.base l:=by
    intro l
    induction l with
    | nil=>intro _ _;trivial
    | cons env r ih =>
      intro f j;obtain⟨k,⟨L,o,a,i,h,m⟩,g⟩:=j;have d:L∈X.fs:=f L (by unfold frs;rw[List.filterMap_cons,a];exact JH);obtain⟨n,e⟩:=I.base.slot L o h (I.ok.frf L d) d λz=>I.ok.exfs L z d;exact⟨k,⟨L,_,a,i,e,m⟩,ih (λb c=>f b (by unfold frs;rw[List.filterMap_cons,a];exact JE _ c)) g⟩
  exact all X.outer (λ_ c=>c) I.ok.funs
theorem Inv.stack (I:Inv X pins σ H s):s.heap.FunFrames X.base X.stack:=by
  rcases I.ok.stk with e|⟨e,b⟩
  · rw[e];exact I.funs
  · rw[e]
    obtain⟨m,a,_⟩:=I.loc;refine .cons (by rw[I.ok.kind];decide) b a ?_ I.funs;exact Heap.get?_none_of_le (JR I.ok.bsz I.ok.above)
theorem Inv.stkSub (I:Inv X pins σ H s):∀ b∈frs X.stack,b∈X.env.locals::X.fs:=λb a=>by
  rcases I.ok.stk with e|⟨e,c⟩
  · rw[e]at a;exact JE _ a
  · rw[e]at a
    unfold frs at a;rw[List.filterMap_cons,c]at a;exact a
theorem Inv.stkFree (I:Inv X pins σ H s):∀ b∈frs X.stack,H b=none:=λb a=>by
  rcases Ja.mp (I.stkSub b a) with e|a
  · rw[e];exact I.free
  · obtain⟨_,o,c,_⟩:=I.ok.funs.mem a
    exact I.base.free b o c (I.ok.frf b a) λz=>I.ok.exfs b z a
theorem Inv.step {g':Array GenState}{t':Nat}{d':Drawn}{ch:List Addr}(I:Inv X pins σ H s)(g:∀ b∈ch,(b∈X.ex\/X.s₀.heap.objs.size<=b)/\b≠X.env.locals/\(∀ x c,X.env.cells.lookup x=some c->c≠b)/\∀ p∈X.pn++pins,p.1≠b)(keep:∀ b o,b≠X.env.locals->b∉X.fs->b∉ch->s.heap.get? b=some o->H b=none->h'.get? b=some o)(slot:∀ b o,b≠X.env.locals->b∈X.fs->b∉ch->s.heap.get? b=some o->H b=none->∃ sl,h'.get? b=some { o with slots:=sl })(free:∀ b o,b∉ch->s.heap.get? b=some o->H b=none->H' b=none)(there:∀ b o,b∉ch->s.heap.get? b=some o->∃ A,h'.get? b=some A)(tups:∀ b t,H b=some (.tup t)->H' b=some (.tup t))(D:∀ b o u,H b=some (.frz o u)->H' b=some (.frz o u))(C:∀ b E,H b=some (.tbl E)->∃ more,H' b=some (.tbl (E++more)))(ns:∀ m,s.heap.Ns X.env.locals m->h'.Ns X.env.locals m)(J:HOk X.prog X.w H' h')(R:AllBare g') :
    Inv X pins σ H' { s with heap:=h',gens:=g',drawn:=d',toks:=t' }:=by
  have B:∀ b o,X.s₀.heap.get? b=some o->b≠X.env.locals:=λb o e=>JB (JD (Jb e) I.ok.above)
  have j:∀ b o,X.s₀.heap.get? b=some o->b∉X.ex->b∉ch:=λb o e a w=>by
    rcases (g b w).1 with z|z
    · exact a z
    · exact absurd (JD (Jb e) z) (Yp _)
  have cellK:∀ x c,X.env.cells.lookup x=some c->∀ v,s.heap.IsCell c v->h'.IsCell c v:=λx c e v ⟨o,y,F⟩=>by
    have f:c∉ch:=λz=>(g c z).2.2.1 x c e rfl;by_cases M:c∈X.fs
    · obtain⟨sl,q⟩:=slot c o (I.cne x c e) M f y (I.freeC x c e)
      exact⟨_,q,F⟩
    · exact⟨o,keep c o (I.cne x c e) M f y (I.freeC x c e),F⟩
  refine⟨I.ok,I.os,R,⟨λb o e n w a=>?_,λb o e n w a=>?_,λb o e n a=>?_,λb o e a=>?_,λb t e=>tups b t (I.base.tups b t e),λb o t e=>D b o t (I.base.frzs b o t e),λb E e=>?_⟩,?_,λx c e=>?_,?_,λx c e=>?_,λp L=>?_,J,I.len⟩
  · exact keep b o (B b o e) w (j b o e a) (I.base.keep b o e n w a) (I.base.free b o e n a)
  · obtain⟨sl,h⟩:=I.base.slot b o e n w a
    obtain⟨G,e2⟩:=slot b _ (B b o e) w (j b o e a) h (I.base.free b o e n a);exact⟨G,e2⟩
  · obtain⟨A,h⟩:=I.base.there b o e a
    exact free b A (j b o e a) h (I.base.free b o e n a)
  · obtain⟨A,h⟩:=I.base.there b o e a
    exact there b A (j b o e a) h
  · obtain⟨O,h⟩:=I.base.tbls b E e
    obtain⟨N,e2⟩:=C b _ h;exact⟨O++N,by rw[e2,Array.append_assoc]⟩
  · obtain⟨m,P,Q⟩:=I.loc
    refine⟨m,ns m P,λi x v h e2 S=>?_⟩;obtain⟨u,r,l⟩:=Q i x v h e2 S;refine⟨u,r,?_⟩;rcases l with l|⟨k,c,e,z⟩
    · exact .inl l
    · exact .inr ⟨k,c,e,cellK x c e _ z⟩
  · obtain⟨v,z⟩:=I.cell x c e
    exact⟨v,cellK x c e v z⟩
  · obtain⟨m,⟨o,_,_,y,_⟩,_⟩:=I.loc
    exact free _ o (λz=>(g _ z).2.1 rfl) y I.free
  · obtain⟨v,o,y,F⟩:=I.cell x c e
    exact free c o (λz=>(g c z).2.2.1 x c e rfl) y (I.freeC x c e)
  · obtain⟨e,n,ne,K,d⟩:=I.pin p L
    have f:p.1∉ch:=λz=>(g p.1 z).2.2.2 p L rfl;exact⟨keep p.1 p.2 ne K f e n,free p.1 p.2 f e n,ne,K,d⟩
theorem Inv.un {t':Nat}(I:Inv X pins σ H s)(u:Un X.fs [] H H' s.heap h')(hok:HOk X.prog X.w H' h'):Inv X pins σ H' { s with heap:=h',toks:=t' }:=by
  obtain⟨m,⟨o,q,t,g,r⟩,_⟩:=id I.loc;obtain⟨k,j⟩:=u.any g I.free (by simp)
  exact I.step (g':=s.gens) (d':=s.drawn) (ch:=[]) (λ_ z=>nomatch z) (λb o _ c _ e n=>u.keep b o e n c (by simp)) (λb o _ c _ e n=>u.slot b o e n c (by simp)) (λb o _ e n=>u.free b o e n (by simp)) (λb o _ e=>u.there b o e (by simp)) u.tups u.frzs u.tbls (λp i=>by
    obtain⟨l,d,f,a,h⟩:=i;rw[g]at a;cases a
    exact⟨_,d,f,j,h⟩) hok I.bare
theorem Inv.call {g':Array GenState}{t':Nat}{d':Drawn}{ch:List Addr}(I:Inv X pins σ H s)(u:Un (frs X.stack) ch H H' s.heap h')(hok:HOk X.prog X.w H' h')(q:AllBare g')(f:∀ b∈ch,(b∈X.ex\/X.s₀.heap.objs.size<=b)/\b≠X.env.locals/\(∀ x c,X.env.cells.lookup x=some c->c≠b)/\∀ p∈X.pn++pins,p.1≠b) :
    Inv X pins σ H' { s with heap:=h',gens:=g',drawn:=d',toks:=t' }:=by
  obtain⟨m,⟨o,A,B,j,r⟩,_⟩:=id I.loc;obtain⟨v,g⟩:=u.any j I.free λz=>(f _ z).2.1 rfl
  exact I.step (ch:=ch) f (λb o g t a e n=>u.keep b o e n (λz=>(Ja.mp (I.stkSub b z)).elim g t) a) (λb o _ _ a e n=>u.any e n a) (λb o a e n=>u.free b o e n a) (λb o a e=>u.there b o e a) u.tups u.frzs u.tbls (λy l=>by
    obtain⟨w,h,i,d,k⟩:=l;rw[j]at d;cases d
    exact⟨_,h,i,g,k⟩) hok q
theorem Inv.turned {t':Nat}{it:Addr}(I:Inv X pins σ H s)(k:∀ b o,b≠it->s.heap.get? b=some o->h'.get? b=some o)(hn:H it=none)(f:it≠X.env.locals)(t:it∈X.ex\/X.s₀.heap.objs.size<=it)(l:∀ x c,X.env.cells.lookup x=some c->c≠it)(j:∀ p∈X.pn++pins,p.1≠it):Inv X pins σ H { s with heap:=h',toks:=t' }:=by
  have d:∀ b u,H b=some u->b≠it:=λb u e z=>by rw[z,hn]at e;cases e
  refine I.step (g':=s.gens) (d':=s.drawn) (ch:=[it]) (λb i=>?_) (λb o _ _ a e _=>k b o (λz=>a (by simp[z])) e) (λb o _ _ a e _=>⟨o.slots,k b o (λz=>a (by simp[z])) e⟩) (λ_ _ _ _ n=>n)
    (λb o a e=>⟨o,k b o (λz=>a (by simp[z])) e⟩) (λ_ _ e=>e) (λ_ _ _ e=>e) (λb A e=>⟨#[],by rw[e];simp⟩) (λm h=>?_) (λb u e=>?_) I.bare
  · have e:b=it:=by simpa using i
    subst e;exact⟨t,f,l,j⟩
  · obtain⟨o,w,y,g,r⟩:=h
    exact⟨o,w,y,k _ o (Ne.symm f) g,r⟩
  · refine(I.hok b u e).stay (λc v a q=>k c v ?_ q) (λ_ q=>q) λ_ _ q=>q
    rcases a with z|z
    · rw[z];exact d b u e
    · exact d c _ z
theorem Inv.tok (I:Inv X pins σ H s)(t:Nat):Inv X pins σ H { s with toks:=t }:=I.un (h':=s.heap) (t':=t) Un.refl I.hok
theorem Inv.kept {t':Nat}(I:Inv X pins σ H s)(k:∀ b u,s.heap.get? b=some u->h'.get? b=some u):Inv X pins σ H { s with heap:=h',toks:=t' }:=I.un (Un.kept k) (I.hok.kept k)
theorem Inv.laid {a:Addr}{o:HO}{t':Nat}(I:Inv X pins σ H s)(k:∀ b u,s.heap.get? b=some u->h'.get? b=some u)(c:s.heap.objs.size<=a)(new:ObjOk X.prog X.w (upd H a o) h' a o) :
    Inv X pins σ (upd H a o) { s with heap:=h',toks:=t' }:=I.un (Un.laid k c (I.hok.fresh c)) (I.hok.laid k c new)
theorem Inv.write {x e:Addr}{o:HO}{t':Nat}(I:Inv X pins σ H s)(c:Mut (H x))(d:e=x\/H e=some (.own x))(k:∀ b u,b≠e->s.heap.get? b=some u->h'.get? b=some u)(a:∃ u,h'.get? e=some u)(new:ObjOk X.prog X.w (upd H x o) h' x o):Inv X pins σ (upd H x o) { s with heap:=h',toks:=t' }:=I.un (Un.write c d k a) (I.hok.write c d k a new)
theorem Inv.pins_of {a:List (Addr × Obj)}(I:Inv X pins σ H s)(h:∀ p∈a,s.heap.get? p.1=some p.2/\H p.1=none/\p.1≠X.env.locals/\p.1∉X.fs/\∀ v,p.2.data≠.cell v):Inv X a σ H s :=
  ⟨I.ok,I.os,I.bare,I.base,I.loc,I.cell,I.free,I.freeC,λp b=>(Ju.mp b).elim (λz=>I.pin p (YB _ z)) (h p),I.hok,I.len⟩
theorem qY {N:List Str}(c:N.Nodup){i j:Nat}{x:Str}(a:N[i]?=some x)(b:N[j]?=some x):i=j:=by
  obtain⟨f,d⟩:=J9.mp a;obtain⟨e,e2⟩:=J9.mp b;exact(List.getElem_inj c).mp (d.trans e2.symm)
theorem mP {M:Model}{A:Around}{E:Value->Shared->Prop}{i:Nat}{x:Str}{v:V}{u:Value}{Q:Unit->Shared->Prop}(I:Inv X pins σ H s)(hN:X.N.Nodup)(hi:X.N[i]?=some x)(t:Loc X.env.scope x)(r:RelV v u)(h:∀ W,Inv X pins (σ.set i (some v)) H W->(∃ a,Heap.SameBut a s.heap W.heap/\(a=X.env.locals\/X.env.cells.lookup x=some a))->Q () W)(hf:X.fn x=true\/X.env.scope.names.lookup x=some .local:=by first|exact .inl rfl|exact .inr rfl|assumption):wpAny M A (storeName X.env x u) Q E s:=by
  obtain⟨m,hn,hl⟩:=id I.loc;have O:(X.env.scope.kind == .class || (X.env.scope.kind == .module && X.env.locals != X.env.globals))=false:=by rw[I.ok.kind];rfl
  have C:i<σ.length:=by rw[I.len];exact(J9.mp hi).1
  have cne:=I.cne
  have tracked:∀ {a:Addr}{h':Heap},(∃ o,s.heap.get? a=some o/\H a=none)->Heap.SameBut a s.heap h'->HOk X.prog X.w H h':=λ{a h'} ha f b ob e=>by
    obtain⟨_,_,w⟩:=ha;refine(I.hok b ob e).stay (λc P l q=>(f.2 c ?_).trans q) (λ_ q=>q) λ_ _ q=>q;rintro rfl;rcases l with rfl|l
    · rw[w]at e;cases e
    · rw[w]at l;cases l
  rcases t with B|B
  · refine wpAny_storeName_local B hn (λh' ab f=>?_) O
    obtain⟨oL,_,_,aa,_⟩:=id hn;refine h _ ⟨I.ok,I.os,I.bare,⟨λb o e n F t=>?_,λb o e n F t=>?_,I.base.free,λb o e t=>?_,I.base.tups,I.base.frzs,I.base.tbls⟩,⟨_,ab,λj y S g e2 e3=>?_⟩,λy c e=>?_,I.free,I.freeC,λp hp=>?_,tracked ⟨oL,aa,I.free⟩ f,by simpa using I.len⟩ ⟨_,f,.inl rfl⟩
    · exact(f.2 b (JB (JD (Jb e) I.ok.above))).trans (I.base.keep b o e n F t)
    · obtain⟨U,g⟩:=I.base.slot b o e n F t
      exact⟨U,(f.2 b (JB (JD (Jb e) I.ok.above))).trans g⟩
    · obtain⟨Z,g⟩:=I.base.there b o e t
      exact⟨Z,(f.2 b (JB (JD (Jb e) I.ok.above))).trans g⟩
    · by_cases D:j=i
      · subst D
        rw[hi]at g;cases g;rw[List.getElem?_set_self C]at e2;cases e2;exact⟨u,r,.inl ⟨B,by simp⟩⟩
      · rw[List.getElem?_set_ne (Ne.symm D)]at e2
        obtain⟨T,Y,q⟩:=hl j y S g e2 e3;refine⟨T,Y,?_⟩;rcases q with ⟨k,e⟩|⟨k,c,e,z⟩
        · refine .inl ⟨k,?_⟩
          have:y≠x:=λe=>D (qY hN g (e ▸ hi));simp[this,e]
        · exact .inr ⟨k,c,e,z.sameBut f (cne y c e)⟩
    · obtain⟨P,z⟩:=I.cell y c e
      exact⟨P,z.sameBut f (cne y c e)⟩
    · obtain⟨e,n,ne,nf,d⟩:=I.pin p hp
      exact⟨(f.2 p.1 ne).trans e,n,ne,nf,d⟩
  · have G:X.fn x=true:=by
      rcases hf with z|z
      · exact z
      · rw[z]at B;cases B
    obtain⟨c,l⟩:=I.ok.has x (.inl B);obtain⟨P,z⟩:=I.cell x c l;refine wpAny_storeName_cell I.ok.kind B l z (λh' L f=>?_);obtain⟨oc,J,N⟩:=id z;refine h { s with heap:=h' } ⟨I.ok,I.os,I.bare,⟨λb o e n F t=>?_,λb o e n F t=>?_,I.base.free,λb o e t=>?_,I.base.tups,I.base.frzs,I.base.tbls⟩,⟨m,hn.sameBut f (Ne.symm (cne x c l)),λj y S g e2 e3=>?_⟩,λy R e=>?_,I.free,I.freeC,λp hp=>?_,tracked ⟨oc,J,I.freeC x c l⟩ f,by simpa using I.len⟩ ⟨c,f,.inr l⟩
    · exact(f.2 b (JB (JD (Jb e) (I.ok.cab x c G l)))).trans (I.base.keep b o e n F t)
    · obtain⟨U,g⟩:=I.base.slot b o e n F t
      exact⟨U,(f.2 b (JB (JD (Jb e) (I.ok.cab x c G l)))).trans g⟩
    · obtain⟨Z,g⟩:=I.base.there b o e t
      exact⟨Z,(f.2 b (JB (JD (Jb e) (I.ok.cab x c G l)))).trans g⟩
    · by_cases D:j=i
      · subst D
        rw[hi]at g;cases g;rw[List.getElem?_set_self C]at e2;cases e2;exact⟨u,r,.inr ⟨.inl B,c,l,L⟩⟩
      · rw[List.getElem?_set_ne (Ne.symm D)]at e2
        obtain⟨T,Y,q⟩:=hl j y S g e2 e3;refine⟨T,Y,?_⟩;rcases q with q|⟨k,R,e,z'⟩
        · exact .inl q
        · refine .inr ⟨k,R,e,z'.sameBut f ?_⟩
          rintro rfl;exact D (qY hN g (I.ok.inj _ _ _ e l ▸ hi))
    · by_cases K:R=c
      · subst K;exact⟨_,L⟩
      · obtain⟨w2,z2⟩:=I.cell y R e
        exact⟨w2,z2.sameBut f K⟩
    · obtain⟨e,n,ne,nf,d⟩:=I.pin p hp
      refine⟨(f.2 p.1 ?_).trans e,n,ne,nf,d⟩;intro q;rw[q,J]at e;have q':oc=p.2:=Jr e;exact d P (by rw[<- q'];exact N)
theorem x8 {M:Model}{A:Around}{E:Value->Shared->Prop}{i:Nat}{x:Str}{v:V}{u:Value}{Q:Unit->Shared->Prop}(I:Inv X pins σ H s)(d:X.N.Nodup)(hi:X.N[i]?=some x)(b:Loc X.env.scope x)(r:RelV v u)(h:∀ a,Inv X pins (σ.set i (some v)) H a->Q () a)(c:X.fn x=true\/X.env.scope.names.lookup x=some .local:=by first|exact .inl rfl|exact .inr rfl|assumption):wpAny M A (storeName X.env x u) Q E s :=
  mP I d hi b r (λa e _=>h a e) c
theorem Inv.call' {a:Shared}{ch:List Addr}(I:Inv X pins σ H s)(g:a.os=s.os)(u:Un (frs X.stack) ch H H' s.heap a.heap)(hok:HOk X.prog X.w H' a.heap)(h:AllBare a.gens)(d:∀ b∈ch,(b∈X.ex\/X.s₀.heap.objs.size<=b)/\b≠X.env.locals/\(∀ x c,X.env.cells.lookup x=some c->c≠b)/\∀ p∈X.pn++pins,p.1≠b):Inv X pins σ H' a:=by
  obtain⟨h',g',d',t',f⟩:=a;have e:f=s.os:=g;subst e;exact I.call (g':=g') (t':=t') (d':=d') u hok h d
end
abbrev XK:=Value->Option Addr->Hp->Prop
abbrev St:=List (Option V)
abbrev VK:=V->Hp->Prop
abbrev TE:=St->Hp->VK->Prop
abbrev TT:=St->Hp->(Bool->Hp->Prop)->Prop
abbrev TA:=St->Hp->(List V->Hp->Prop)->Prop
structure Ends where
  nx:St->Hp->Prop
  rt:VK
  bk:St->Hp->Prop:=λ_ _=>False
  ct:St->Hp->Prop:=λ_ _=>False
abbrev TS:=Ends->St->Hp->Prop
def EP (X:Cx)(pins:List (Addr × Obj))(σ:St)(Q:VK)(u:Value)(b:Shared):Prop:=∃ v a,Inv X pins σ a b/\RelV v u/\Q v a
def TP (X:Cx)(pins:List (Addr × Obj))(σ:St)(Q:Bool->Hp->Prop)(b:Bool)(c:Shared):Prop:=∃ a,Inv X pins σ a c/\Q b a
def AP (X:Cx)(pins:List (Addr × Obj))(σ:St)(Q:List V->Hp->Prop)(us:List Value)(c:Shared):Prop:=∃ a b,Inv X pins σ b c/\Vals a us/\Q a b
def SP (X:Cx)(pins:List (Addr × Obj))(D:Ends)(f:Flow)(c:Shared):Prop :=
  match f with
  | .next=>∃ a b,Inv X pins a b c/\D.nx a b
  | .brk=>∃ a b,Inv X pins a b c/\D.bk a b
  | .cont=>∃ a b,Inv X pins a b c/\D.ct a b
  | .ret u=>∃ v a b,Inv X pins a b c/\RelV v u/\D.rt v b
def PE (X:Cx)(e:Expr)(t:TE):Prop :=
  ∀ (pins:List (Addr × Obj)) (s:Shared) (σ:St) (H:Hp) (Q:VK),Inv X pins σ H s->t σ H Q->wpAny (model X.prog X.w) X.A (eval e X.env) (EP X pins σ Q) X.xe s
def PT (X:Cx)(e:Expr)(t:TT):Prop :=
  ∀ (pins:List (Addr × Obj)) (s:Shared) (σ:St) (H:Hp) (Q:Bool->Hp->Prop),Inv X pins σ H s->t σ H Q->wpAny (model X.prog X.w) X.A (isTrue e X.env (eval e X.env)) (TP X pins σ Q) X.xe s
def PW (X:Cx)(e:Expr)(t:TT):Prop :=
  ∀ (whole:Sem Value) (pins:List (Addr × Obj)) (s:Shared) (σ:St) (H:Hp) (Q:Bool->Hp->Prop),Inv X pins σ H s->t σ H Q->wpAny (model X.prog X.w) X.A (isTrue e X.env whole) (TP X pins σ Q) X.xe s
theorem PW.pt {X:Cx}{e:Expr}{t:TT}(h:PW X e t):PT X e t:=h _
def PA (X:Cx)(a:List Expr)(t:TA):Prop :=
  ∀ (pos:Pos) (pins:List (Addr × Obj)) (s:Shared) (σ:St) (H:Hp) (Q:List V->Hp->Prop),Inv X pins σ H s->t σ H Q->wpAny (model X.prog X.w) X.A (spliced (backTo pos (starEach a X.env))) (AP X pins σ Q) X.xe s
def PS (X:Cx)(st:Stmt)(t:TS):Prop :=
  ∀ (pins:List (Addr × Obj)) (s:Shared) (σ:St) (H:Hp) (D:Ends),Inv X pins σ H s->t D σ H->wpAny (model X.prog X.w) X.A (exec st X.env) (SP X pins D) X.xe s
def PSs (X:Cx)(st:List Stmt)(t:TS):Prop :=
  ∀ (pins:List (Addr × Obj)) (s:Shared) (σ:St) (H:Hp) (D:Ends),Inv X pins σ H s->t D σ H->wpAny (model X.prog X.w) X.A (execs st X.env) (SP X pins D) X.xe s
theorem thn {α:Type}{t:Sem α}{Q b:α->Shared->Prop}{M:Model}{A:Around}{E:Value->Shared->Prop}{s:Shared}(h:wpAny M A t Q E s)(c:∀ a s,Q a s->b a s):wpAny M A t b E s:=JL h c λ_ _ x=>x
section
variable {X:Cx}
def kC (i:Nat):TE:=λσ H Q=>∃ v,σ[i]?=some (some v)/\Q v H
def tC (v:V):TE:=λ_ H Q=>Q v H
theorem fj {i:Nat}{x:Str}{pos:Pos}(o:X.N[i]?=some x) (g:Vis X.env.scope x) (hd:(x == ("__debug__":Str))=false:=by decide) (d:(x == ("__classdict__":Str))=false:=by decide):PE X (.Name x pos) (kC i):=by
  intro pins s σ H Q I h;obtain⟨v,e,h⟩:=h;obtain⟨m,j,n⟩:=I.loc;obtain⟨u,r,l⟩:=n i x v o e g;have fin:EP X pins σ Q u s:=⟨v,H,I,r,h⟩;rcases l with ⟨b,k⟩|⟨b,c,f,a⟩
  · exact wpAny_Name (wpAny_loadName_local I.ok.kind b j k fin) hd
  · rcases b with b|b
    · exact wpAny_Name (wpAny_loadName_cell I.ok.kind b f a fin) hd
    · exact wpAny_Name (wpAny_loadName_free I.ok.kind b f a fin d) hd
theorem zE {i j pos}:PE X (.Constant (.int i) j pos) (tC (.int i)):=λ_ _ _ H _ I h=>wpAny_Constant_int ⟨.int i,H,I.tok _,⟨_,rfl⟩,h⟩
theorem yu {b j pos}:PE X (.Constant (.bool b) j pos) (tC (.bl b)):=λ_ _ _ H _ I h=>Constant_bool ⟨.bl b,H,I,rfl,h⟩
theorem vJ {j pos}:PE X (.Constant .none j pos) (tC .non):=λ_ _ _ H _ I h=>Constant_none ⟨.non,H,I,rfl,h⟩
theorem rS {x j pos}:PE X (.Constant (.str x) j pos) (tC (.str x)):=λ_ _ _ H _ I h=>Calls.Constant_str ⟨.str x,H,I.tok _,⟨_,rfl⟩,h⟩
def Gl (X:Cx)(x:Str):Prop:=X.env.kindOf x=some .globalImplicit
theorem rZ {E:Value->Shared->Prop}{pins:List (Addr × Obj)}{s:Shared}{σ:St}{H:Hp}{x:Str}{u:Value}{pos:Pos}{Q:Value->Shared->Prop}(I:Inv X pins σ H s) (a:Gl X x) (hm:X.mg x=some u) (h:Q u s)
    (hd:(x == ("__debug__":Str))=false:=by decide):wpAny (model X.prog X.w) X.A (eval (.Name x pos) X.env) Q E s :=
  Calls.Name_function_global I.ok.kind a (Calls.loadGlobal_global (by rw[I.ok.glob];exact I.mod.glob.keeps I.bk) hm h) hd
theorem xJ {E:Value->Shared->Prop}{pins:List (Addr × Obj)}{s:Shared}{σ:St}{H:Hp}{x:Str}{u:Value}{pos:Pos}{Q:Value->Shared->Prop}(I:Inv X pins σ H s) (b:Gl X x) (hm:X.mg x=none) (a:bootBuiltins x=some u) (h:Q u s)
    (hn:x≠"__name__":=by decide) (c:(x == ("__debug__":Str))=false:=by decide):wpAny (model X.prog X.w) X.A (eval (.Name x pos) X.env) Q E s:=by
  obtain⟨f,e,d⟩:=I.mod.blt;exact Calls.Name_function_global I.ok.kind b (Calls.loadGlobal_builtin (by rw[I.ok.glob];exact I.mod.glob.keeps I.bk) hm (by rw[I.ok.blt];exact e.keeps I.bk) ((d x hn).trans a) h) c
theorem iq {x:Str}{v:V}{u:Value}{pos:Pos}(a:Gl X x) (hm:X.mg x=some u) (r:RelV v u) (hd:(x == ("__debug__":Str))=false:=by decide):PE X (.Name x pos) (tC v) :=
  λ_ _ _ H _ I h=>rZ I a hm ⟨v,H,I,r,h⟩ hd
theorem xC {x:Str}{v:V}{u:Value}{pos:Pos}(b:Gl X x) (hm:X.mg x=none) (a:bootBuiltins x=some u) (r:RelV v u) (hn:x≠"__name__":=by decide) (c:(x == ("__debug__":Str))=false:=by decide):PE X (.Name x pos) (tC v) :=
  λ_ _ _ H _ I h=>xJ I b hm a ⟨v,H,I,r,h⟩ hn c
variable {a b:Expr}{ta tb:TE}{pos:Pos}
def PC (X:Cx)(op:CmpOp)(a b:Expr)(t:TE):Prop :=
  ∀ (pins:List (Addr × Obj)) (s:Shared) (σ:St) (H:Hp) (Q:VK),Inv X pins σ H s->t σ H Q ->
    wpAny (model X.prog X.w) X.A (eval a X.env) (λv d=>wpAny (model X.prog X.w) X.A (eval b X.env) (λu c=>wpAny (model X.prog X.w) X.A (compareOp op v u) (EP X pins σ Q) X.xe c) X.xe d) X.xe s
def tB (t:TE):TT:=λσ H Q=>t σ H λx a=>∃ c,x=.bl c/\Q c a
theorem oS {op:CmpOp}{t:TE}(h:PC X op a b t)(e:behindInMarks op b=false:=by first|exact nobehind _ (by decide) (by decide)|rfl):PT X (.Compare a [op] [b] pos) (tB t):=by
  intro pins s σ H Q I i;refine wpAny_isTrue_Compare1 (thn (h pins s σ H _ I i) λv o e=>thn e λu n j=>thn j λc m ⟨x,l,k,f,g⟩=>?_) e;obtain⟨d,rfl,q⟩:=g;cases f;exact YQ ⟨l,k,q⟩
theorem xR {e:Expr}{t:TE}(h:PE X e t)(f:∀ whole,isTrue e X.env whole=(do let v <- whole;standAt e.pos;holding [v] (truthy v)):=by intro _;rfl):PT X e (tB t):=by
  intro pins s σ H Q I c;refine isTrue_plain (thn (h pins s σ H _ I c) λv j ⟨x,i,g,a,b⟩=>?_) (f _);obtain⟨d,rfl,q⟩:=b;cases a;exact YQ ⟨i,g,q⟩
variable {tA tB':TT}{rest:List Expr}
def bV (t u:TT):TT:=λσ H Q=>t σ H λc a=>if c=true then u σ a Q else Q false a
def tOr (t u:TT):TT:=λσ H Q=>t σ H λc a=>if c=true then Q true a else u σ a Q
def bM (t:TT):TT:=λσ H Q=>t σ H λc a=>Q (!c) a
theorem nJ (ha:PT X a tA):PW X (.BoolOp .And [a] pos) tA:=by
  intro b pins s σ H Q I h;refine isTrue_and (thn (ha pins s σ H Q I h) λc d e=>?_)
  cases c with
  | true=>exact isTrue_and_nil e
  | false=>exact e
theorem wC (ha:PT X a tA):PW X (.BoolOp .Or [a] pos) tA:=by
  intro b pins s σ H Q I h;refine isTrue_or (thn (ha pins s σ H Q I h) λc d e=>?_)
  cases c with
  | false=>exact isTrue_or_nil e
  | true=>exact e
theorem kn (ha:PT X a tA)(hb:PW X (.BoolOp .And (b::rest) pos) tB'):PW X (.BoolOp .And (a::b::rest) pos) (bV tA tB'):=by
  intro g pins s σ H Q I h;refine isTrue_and (thn (ha pins s σ H _ I h) λc i ⟨f,e,d⟩=>?_)
  cases c with
  | true=>exact hb g pins i σ f Q e d
  | false=>exact⟨f,e,d⟩
theorem wn (ha:PT X a tA)(hb:PW X (.BoolOp .Or (b::rest) pos) tB'):PW X (.BoolOp .Or (a::b::rest) pos) (tOr tA tB'):=by
  intro g pins s σ H Q I h;refine isTrue_or (thn (ha pins s σ H _ I h) λc i ⟨f,e,d⟩=>?_)
  cases c with
  | true=>exact⟨f,e,d⟩
  | false=>exact hb g pins i σ f Q e d
theorem xZ (ha:PT X a tA):PT X (.UnaryOp .Not a pos) (bM tA):=by
  intro pins s σ H Q I h;exact isTrue_not (ha pins s σ H (λc b=>Q (!c) b) I h)
def cJ (ta tb:TE):TE:=λσ H Q=>ta σ H λx a=>∃ c,x=.bl c/\if c=true then tb σ a Q else Q (.bl false) a
def dv (ta:TE):TE:=λσ H Q=>ta σ H λx a=>∃ c,x=.bl c/\Q (.bl (!c)) a
theorem wD {op}{t:TE}(h:PE X a t):PE X (.BoolOp op [a] pos) t:=λpins s σ H Q I b=>BoolOp_one (h pins s σ H Q I b)
theorem xb (ha:PE X a ta)(hb:PE X (.BoolOp .And (b::rest) pos) tb):PE X (.BoolOp .And (a::b::rest) pos) (cJ ta tb):=by
  intro pins s σ H Q I h;refine BoolOp_and (thn (ha pins s σ H _ I h) λv g ⟨x,f,e,i,d⟩=>?_);obtain⟨c,rfl,d⟩:=d;cases i;refine YQ ?_
  cases c with
  | true=>exact hb pins g σ f Q e d
  | false=>exact⟨.bl false,f,e,rfl,d⟩
theorem jE (ha:PE X a ta):PE X (.UnaryOp .Not a pos) (dv ta):=by
  intro pins s σ H Q I h;refine UnaryOp_ (thn (ha pins s σ H _ I h) λv g ⟨x,f,e,d,b⟩=>?_);obtain⟨c,rfl,b⟩:=b;cases d;exact not_of (YQ ⟨.bl (!c),f,e,rfl,b⟩)
def tIf (t:TT)(ta tb:TE):TE:=λσ H Q=>t σ H λc a=>if c=true then ta σ a Q else tb σ a Q
theorem qQ {c:Expr}(j:PT X c tA)(ha:PE X a ta)(hb:PE X b tb):PE X (.IfExp c a b pos) (tIf tA ta tb):=by
  intro pins s σ H Q I h;refine wpAny_IfExp (thn (j pins s σ H _ I h) λd e ⟨i,g,f⟩=>?_)
  cases d with
  | true=>exact ha pins e σ i Q g f
  | false=>exact hb pins e σ i Q g f
end
def SqL (K:PySem.W.Frag)(H:Hp)(a:Addr)(xs:List V):Prop :=
  Rd H a (.lst xs) \/
    ∃ (o:Obj) (b:Array Value) (n:Nat),K.lookup a=some o/\o.cls=.type "list"/\o.dict=none/\o.data=.seq b n/\b.size<=sizeLine/\Vals xs b.toList
def SqT (K:PySem.W.Frag)(H:Hp)(a:Addr)(xs:List V):Prop :=
  Rd H a (.tup xs) \/
    ∃ (o:Obj) (b:Array Value) (n:Nat),K.lookup a=some o/\o.cls=.type "tuple"/\o.data=.seq b n/\b.size<=sizeLine/\Vals xs b.toList
def aK:Value->Option V
  | .none=>some .non
  | .bool b=>some (.bl b)
  | .int i _=>some (.int i)
  | .str x _=>some (.str x)
  | .bytes b _=>some (.byt b)
  | .float b _=>some (.flt b)
  | .ref a=>some (.ref a)
  | .type n=>some (.ty n)
  | _=>none
theorem RelV.abs {x:V}{u:Value}(r:RelV x u):aK u=some x:=by
  cases x with
  | non=>cases r;rfl
  | bl _=>cases r;rfl
  | int _=>obtain⟨t,rfl⟩:=r;rfl
  | str _=>obtain⟨t,rfl⟩:=r;rfl
  | byt _=>obtain⟨t,rfl⟩:=r;rfl
  | flt _=>obtain⟨t,rfl⟩:=r;rfl
  | ref _=>cases r;rfl
  | ty _=>cases r;rfl
theorem RelV.inj {x y:V}{u:Value}(r:RelV x u)(q:RelV y u):x=y:=Jr (r.abs.symm.trans q.abs)
theorem Vals.inj:∀ {xs ys:List V}{us:List Value},Vals xs us->Vals ys us->xs=ys
  | _,_,_,.nil,.nil=>rfl
  | _,_,_,.cons r t,.cons a t'=>by rw[r.inj a,Vals.inj t t']
section
variable {X:Cx}{pins:List (Addr × Obj)}{σ:St}{H:Hp}{s:Shared}{a:Addr}{xs ys:List V}
theorem SqL.of {K:PySem.W.Frag}(h:H a=some (.lst xs)):SqL K H a xs:=.inl (.inl h)
theorem SqT.of {K:PySem.W.Frag}(h:H a=some (.tup xs)):SqT K H a xs:=.inl (.inl h)
theorem Inv.list (I:Inv X pins σ H s)(h:SqL X.K H a xs):∃ its:List Value,Vals xs its/\PlainL s.heap a its.toArray/\xs.length<=sizeLine:=by
  rcases h with h|⟨o,its,n,c,f,d,b,g,r⟩
  · obtain⟨z,its,n,r,e⟩:=h.ok I.hok
    exact⟨its,r,⟨_,n,e,rfl,rfl,rfl⟩,z⟩
  · refine⟨its.toList,r,⟨o,n,I.kIn a o c,f,d,by simpa using b⟩,?_⟩
    have e:=r.length;simp only[Jt]at e;omega
theorem Inv.tuple (I:Inv X pins σ H s)(h:SqT X.K H a xs):∃ its:List Value,Vals xs its/\IsTup s.heap a its.toArray/\xs.length<=sizeLine:=by
  rcases h with h|⟨o,its,n,c,d,b,f,r⟩
  · obtain⟨z,its,r,p⟩:=h.ok I.hok
    exact⟨its,r,p.tup,z⟩
  · refine⟨its.toList,r,⟨o,I.kIn a o c,d,n,by simpa using b⟩,?_⟩
    have e:=r.length;simp only[Jt]at e;omega
theorem Inv.list_inj (I:Inv X pins σ H s)(h:SqL X.K H a xs)(h':SqL X.K H a ys):xs=ys:=by
  obtain⟨c,r,⟨o,n,e,_,_,d⟩,_⟩:=I.list h;obtain⟨b,i,⟨k,l,f,_,_,g⟩,_⟩:=I.list h';rw[e]at f;cases f;rw[d]at g;injection g with j _;have:c=b:=by simpa using JV Array.toList j
  subst this;exact r.inj i
theorem Inv.tuple_inj (I:Inv X pins σ H s)(h:SqT X.K H a xs)(h':SqT X.K H a ys):xs=ys:=by
  obtain⟨c,r,⟨o,e,_,n,d⟩,_⟩:=I.tuple h;obtain⟨b,i,⟨k,f,_,l,g⟩,_⟩:=I.tuple h';rw[e]at f;cases f;rw[d]at g;injection g with j _;have:c=b:=by simpa using JV Array.toList j
  subst this;exact r.inj i
end
abbrev Cx.wish (X:Cx)(E:Value->Shared->Prop):Cx:={ X with xe:=E }
abbrev Cx.nox (X:Cx):Cx:=X.wish λ_ _=>False
theorem Cx.Ok.wish {X:Cx}(ok:X.Ok)(E:Value->Shared->Prop):(X.wish E).Ok :=
  ⟨ok.mod,ok.kind,ok.glob,ok.blt,ok.above,ok.inj,ok.has,ok.cab,ok.hd,ok.frames,ok.stk,ok.exf,ok.bs,ok.bsz,ok.noex,ok.exfs,ok.funs,ok.frf⟩
theorem Cx.Ok.unwish {X:Cx}{E:Value->Shared->Prop}(ok:(X.wish E).Ok):X.Ok :=
  ⟨ok.mod,ok.kind,ok.glob,ok.blt,ok.above,ok.inj,ok.has,ok.cab,ok.hd,ok.frames,ok.stk,ok.exf,ok.bs,ok.bsz,ok.noex,ok.exfs,ok.funs,ok.frf⟩
section
variable {X:Cx}{pins:List (Addr × Obj)}{σ:St}{H:Hp}{s:Shared}{E:Value->Shared->Prop}
theorem Inv.wish (I:Inv X pins σ H s)(E:Value->Shared->Prop):Inv (X.wish E) pins σ H s:=⟨I.ok.wish E,I.os,I.bare,I.base,I.loc,I.cell,I.free,I.freeC,I.pin,I.hok,I.len⟩
theorem Inv.unwish (I:Inv (X.wish E) pins σ H s):Inv X pins σ H s:=⟨I.ok.unwish,I.os,I.bare,I.base,I.loc,I.cell,I.free,I.freeC,I.pin,I.hok,I.len⟩
theorem SP.unwish {D:Ends}{f:Flow}{c:Shared}(h:SP (X.wish E) pins D f c):SP X pins D f c:=by
  cases f with
  | next=>obtain⟨a,b,I,q⟩:=h;exact⟨a,b,I.unwish,q⟩
  | brk=>obtain⟨a,b,I,q⟩:=h;exact⟨a,b,I.unwish,q⟩
  | cont=>obtain⟨a,b,I,q⟩:=h;exact⟨a,b,I.unwish,q⟩
  | ret u=>obtain⟨v,a,b,I,r,q⟩:=h;exact⟨v,a,b,I.unwish,r,q⟩
theorem PSs.nox {st:List Stmt}{t:TS}(h:PSs X.nox st t):PSs X st t:=λpins s σ H D I a =>
  JL (h pins s σ H D (I.wish _) a) (λ_ _ q=>q.unwish) λ_ _ z=>False.elim z
end
section
variable {X:Cx}{st:Stmt}{rest:List Stmt}{t u:TS}{e:Expr}{te:TE}{pos:Pos}
def d0:TS:=λD σ H=>D.nx σ H
def qL (t u:TS):TS:=λD σ H=>t { D with nx:=u D } σ H
theorem zw:PSs X [] d0:=λ_ _ σ H _ I h=>wpAny_execs_nil ⟨σ,H,I,h⟩
theorem zG (d:PS X st t)(c:PSs X rest u):PSs X (st::rest) (qL t u):=by
  intro pins s σ H D I h;refine wpAny_execs_cons (thn (d pins s σ H { D with nx:=u D } I h) λf b q=>?_)
  cases f with
  | next =>
    obtain⟨a,g,e,q⟩:=q
    exact c pins b a g D e q
  | ret v=>exact q
  | brk=>exact q
  | cont=>exact q
theorem zK (a:PS X st t):PSs X [st] t:=by
  intro pins s σ H D I h;refine wpAny_execs_cons (thn (a pins s σ H D I h) λf b q=>?_)
  cases f with
  | next=>exact wpAny_execs_nil q
  | ret v=>exact q
  | brk=>exact q
  | cont=>exact q
theorem Inv.quiet {pins:List (Addr × Obj)}{σ:St}{H:Hp}{s:Shared}(I:Inv X pins σ H s):interactive X.env=false:=by simp[interactive,I.ok.kind]
def cD (te:TE):TS:=λD σ H=>te σ H λ_ a=>D.nx σ a
theorem wp (c:PE X e te)(b:swapsWith e none pos.line X.env=pure false:=by rfl):PS X (.Expr e pos) (cD te):=by
  intro pins s σ H D I h;exact wpAny_Expr_any (thn (c pins s σ H _ I h) λv g ⟨x,f,d,i,a⟩=>⟨σ,f,d,a⟩) I.quiet b
def bK (te:TE):TS:=λD σ H=>te σ H D.rt
theorem zT (c:PE X e te):PS X (.Return (some e) pos) (bK te):=by
  intro pins s σ H D I h;exact wpAny_Return_some (thn (c pins s σ H _ I h) λv g ⟨x,f,d,a,b⟩=>⟨x,σ,f,d,a,b⟩)
def bP (c:TT)(t u:TS):TS:=λD σ H=>c σ H λb a=>if b=true then t D σ a else u D σ a
theorem ya {c:Expr}{a b:List Stmt}{e:TT}(k:PT X c e)(ha:PSs X a t)(hb:PSs X b u):PS X (.If c a b pos) (bP e t u):=by
  intro pins s σ H D I h;refine wpAny_If (thn (k pins s σ H _ I h) λd f ⟨j,i,g⟩=>?_)
  cases d with
  | true=>exact ha pins f σ j D i g
  | false=>exact hb pins f σ j D i g
end
abbrev TG:=V->St->Hp->(St->Hp->Prop)->Prop
abbrev TGs:=List V->St->Hp->(St->Hp->Prop)->Prop
def PG (X:Cx)(target:Expr)(t:TG):Prop :=
  ∀ (pins:List (Addr × Obj)) (s:Shared) (σ:St) (H:Hp) (v:V) (u:Value) (Q:St->Hp->Prop),Inv X pins σ H s->RelV v u->t v σ H Q ->
    wpAny (model X.prog X.w) X.A (assign target X.env u) (λ_ c=>∃ a b,Inv X pins a b c/\Q a b) X.xe s
def PGs (X:Cx)(ts:List Expr)(t:TGs):Prop :=
  ∀ (pins:List (Addr × Obj)) (s:Shared) (σ:St) (H:Hp) (b:List V) (c:List Value) (Q:St->Hp->Prop),Inv X pins σ H s->Vals b c->t b σ H Q ->
    wpAny (model X.prog X.w) X.A (assignInOrder ((assignEach ts X.env).map (·.2)) c) (λ_ e=>∃ a d,Inv X pins a d e/\Q a d) X.xe s
abbrev TSet:=V->V->V->Hp->(Hp->Prop)->Prop
def PSet (X:Cx)(t:TSet):Prop :=
  ∀ (pins:List (Addr × Obj)) (s:Shared) (σ:St) (H:Hp) (o i v:V) (a b u:Value) (Q:Hp->Prop),Inv X pins σ H s->RelV o a->RelV i b->RelV v u->t o i v H Q ->
    wpAny (model X.prog X.w) X.A (setItem a b u) (λ_ d=>∃ c,Inv X pins σ c d/\Q c) X.xe s
abbrev TIp:=V->V->Hp->VK->Prop
def PIp (X:Cx)(op:Operator)(t:TIp):Prop :=
  ∀ (pins:List (Addr × Obj)) (s:Shared) (σ:St) (H:Hp) (x y:V) (v u:Value) (Q:VK),Inv X pins σ H s->RelV x v->RelV y u->t x y H Q ->
    wpAny (model X.prog X.w) X.A (inplaceOp op v u) (EP X pins σ Q) X.xe s
section
variable {X:Cx}{pos:Pos}
def wF (i:Nat):TG:=λv σ H Q=>Q (σ.set i (some v)) H
theorem zN {i:Nat}{x:Str}(c:X.N.Nodup)(hi:X.N[i]?=some x)(a:Loc X.env.scope x)(b:X.fn x=true\/X.env.scope.names.lookup x=some .local:=by first|exact .inl rfl|exact .inr rfl|assumption):PG X (.Name x pos) (wF i):=by
  intro pins s σ H v u Q I r h;exact wpAny_assign_Name (x8 I c hi a r (λe d=>⟨_,H,d,h⟩) b)
def dG:TGs:=λa σ H Q=>a=[]/\Q σ H
def pB (t:TG)(u:TGs):TGs:=λb σ H Q=>∃ v r,b=v::r/\t v σ H λa c=>u r a c Q
theorem yJ:PGs X [] dG:=by
  intro pins s σ H a b Q I r h;obtain⟨e,h⟩:=h;subst e;cases r;exact assignInOrder_nil ⟨σ,H,I,h⟩
theorem zQ {e:Expr}{a:List Expr}{t:TG}{u:TGs}(j:PG X e t)(i:PGs X a u)(g:(assignEach (e::a) X.env).map (·.2)=assign e X.env::(assignEach a X.env).map (·.2):=by rfl):PGs X (e::a) (pB t u):=by
  intro pins s σ H n p Q I r h;obtain⟨v,o,k,h⟩:=h;subst k
  cases r with
  | cons r d =>
    rw[g];refine assignInOrder_cons (thn (j pins s σ H _ _ _ I r h) λ_ c ⟨b,m,l,f⟩=>?_);exact i pins c b m _ _ Q l d f
def dE (K:PySem.W.Frag)(n:Nat)(t:TGs):TG:=λv σ H Q=>∃ a b,v=.ref a/\SqT K H a b/\b.length=n/\t b σ H Q
theorem yW {c:List Expr}{k:Nat}{t:TGs}{n:Nat}(q:X.calm=true)(h:PGs X c t)(hn:(assignEach c X.env).length=n:=by rfl)(f:(assignEach c X.env).findIdx? (·.1)=none:=by rfl):PG X (.Tuple c k pos) (dE X.K n t):=by
  intro pins s σ H v u Q I r d;obtain⟨a,i,x,m,p,d⟩:=d;subst x;cases r;obtain⟨z,g,l,A⟩:=I.tuple m;refine assign_Tuple_tuple (I.ok.hd q) l (by simp[hn,<- p,g.length]) f λw j=>?_;have y:Inv X pins σ H { s with heap:=w }:=I.kept (t':=s.toks) λb o e=>j b o (JB (Jb e)) e;exact h pins _ σ H i _ Q y (by simpa using g) d
def aH (to a:TE)(t:TSet):TG:=λv σ H Q=>to σ H λo d=>a σ d λi c=>t o i v c λb=>Q σ b
theorem wc {o i:Expr}{to c:TE}{t:TSet}(n:PE X o to)(hi:PE X i c)(m:PSet X t)(ha:∀ v,assign (.Subscript o i pos) X.env v=(do
      let a <- holding [v] (eval o X.env)
      let b <- holding [v,a] (eval i X.env)
      standAt pos
      holding [v,a,b] (setItem a b v)
      release [v,a,b] []):=by intro _;rfl):PG X (.Subscript o i pos) (aH to c t):=by
  intro pins s σ H v u Q I r h;rw[ha];refine J0 (JW (thn (n pins s σ H _ I h) λa e ⟨x,B,w,g,l⟩=>?_));refine J0 (JW (thn (hi pins e σ B _ w l) λb d ⟨y,A,q,f,k⟩=>?_));refine J0 (Z5 (J0 (JW (thn (m pins d σ A x y v a b u _ q g f r k) λ_ C ⟨z,p,j⟩=>?_))));exact wpAny_release ⟨σ,z,p,j⟩
def cI (a:TE)(g:TG):TS:=λD σ H=>a σ H λx b=>g x σ b D.nx
theorem yV {tg e:Expr}{a:TE}{g:TG}(k:PE X e a)(j:PG X tg g)(i:swapsWithSole [tg] e pos.line X.env=pure false:=by rfl)(f:swappedStores [tg] e X.env=pure none:=by rfl)(l:(assignEach [tg] X.env).map (·.2)=[assign tg X.env]:=by rfl):PS X (.Assign [tg] e pos) (cI a g):=by
  intro pins s σ H D I h;refine wpAny_Assign_stores (thn (k pins s σ H _ I h) λv b ⟨x,n,m,c,d⟩=>?_) i f;rw[l];exact thn (j pins b σ n x v _ m c d) λ_ o q=>q
theorem zY {i:Nat}{x:Str}{e:Expr}{a:TE}{pos':Pos}(k:X.N.Nodup)(hi:X.N[i]?=some x)(d:Loc X.env.scope x)(j:PE X e a)(f:swapsWith e (some (.Name x pos')) pos.line X.env=pure false:=by rfl)(g:X.fn x=true\/X.env.scope.names.lookup x=some .local:=by first|exact .inl rfl|exact .inr rfl|assumption) :
    PS X (.Assign [.Name x pos'] e pos) (cI a (wF i)):=by
  intro pins s σ H D I h;refine wpAny_Assign_Name (thn (j pins s σ H _ I h) λv p ⟨y,n,m,b,c⟩=>?_) f;exact x8 m k hi d b (λo l=>⟨_,n,l,c⟩) g
def bL (i j:Nat)(b:TA):TS:=λD σ H=>b σ H λa c=>∃ v w,a=[v,w]/\D.nx ((σ.set i (some v)).set j (some w)) c
theorem kr {i j:Nat}{x y:Str}{a b:Expr}{r:TA}{k py pt:Pos}{kt k2 pt2}(N:X.calm=true)(z:X.N.Nodup)(hi:X.N[i]?=some x)(M:X.N[j]?=some y)(n:i≠j)(u:X.env.scope.names.lookup x=some .local)(t:X.env.scope.names.lookup y=some .local)(ha:PA X [a,b] r)(K:swappedStores [.Tuple [.Name x k,.Name y py] kt pt] (.Tuple [a,b] k2 pt2) X.env=pure (some [x,y]))(L:swapsWithSole [.Tuple [.Name x k,.Name y py] kt pt] (.Tuple [a,b] k2 pt2) pos.line X.env=pure false:=by rfl) :
    PS X (.Assign [.Tuple [.Name x k,.Name y py] kt pt] (.Tuple [a,b] k2 pt2) pos) (bL i j r):=by
  intro pins s σ H D I h;rw[exec_Assign_arm];refine J0 (Z5 ?_);rw[L];refine J0 (J7 ?_);rw[Jf (by decide)];refine J0 (Tuple_ (thn (ha _ pins s σ H _ I h) λC f ⟨T,B,S,F,g⟩=>?_));obtain⟨v,w,O,g⟩:=g;subst O
  obtain⟨d,c,rfl,E,l⟩:∃ d c,C=[d,c]/\RelV v d/\RelV w c:=by
    cases F with
    | cons p q =>
      cases q with
      | cons J G =>
        cases G;exact⟨_,_,rfl,p,J⟩
  refine JY ?_ (by show 2<=sizeLine;decide);have R:Inv X pins σ B { f with heap:=f.heap.push { cls:=.type "tuple",data:=.seq [d,c].toArray } }:=S.kept (t':=f.toks) λb o e=>J6 _ e;rw[K];refine J0 (J7 ?_);show wpAny (model X.prog X.w) X.A (do rule "assign.swapped-stores";let items <- unpackItems (.ref f.heap.objs.size) 2 none;assignInOrder [λv=>bindName X.env y v,λv=>bindName X.env x v] items.reverse;pure Flow.next) _ _ _;refine J0 (YD (J0 (unpackItems_tuple (items:=#[d,c]) (I.ok.hd N) (IsTup.new f.heap _) λh' m=>?_)));have Q:=R.kept (h':=h') (t':=f.toks) λb o e=>m b o (JB (Jb e)) e;show wpAny _ _ (assignInOrder [λv=>bindName X.env y v,λv=>bindName X.env x v] [c,d] >>= λ_=>pure Flow.next) _ _ _;refine J0 (assignInOrder_cons (wpAny_bindName (x8 Q z M (.inl t) l (λV P=>?_) (.inr t))));refine assignInOrder_cons (wpAny_bindName (x8 P z hi (.inl u) E (λU A=>assignInOrder_nil (J7 ?_)) (.inr u)));rw[List.set_comm _ _ (Ne.symm n)]at A;exact⟨_,B,A,g⟩
def bU (i:Nat)(b:TE)(a:TIp):TS:=λD σ H=>∃ x,σ[i]?=some (some x)/\b σ H λy d=>a x y d λz c=>D.nx (σ.set i (some z)) c
theorem fh {i:Nat}{x:Str}{e:Expr}{o:TE}{op:Operator}{n:TIp}{pos':Pos}(M:X.N.Nodup)(hi:X.N[i]?=some x)(g:Loc X.env.scope x)(K:PE X e o)(C:PIp X op n)(J:X.fn x=true\/X.env.scope.names.lookup x=some .local:=by first|exact .inl rfl|exact .inr rfl|assumption) :
    PS X (.AugAssign (.Name x pos') op e pos) (bU i o n):=by
  intro pins s σ H D I h;obtain⟨v,N,h⟩:=h;obtain⟨m,E,G⟩:=I.loc;have j:Vis X.env.scope x:=by rcases g with k|k;exact .inl k;exact .inr (.inl k)
  obtain⟨u,r,l⟩:=G i x v hi N j;refine wpAny_AugAssign_Name ?_
  have go:wpAny (model X.prog X.w) X.A (eval e X.env) (λw f=>wpAny (model X.prog X.w) X.A (inplaceOp op u w) (λr d=>wpAny (model X.prog X.w) X.A (storeName X.env x r) (λ_=>SP X pins D .next) X.xe d) X.xe f) X.xe s:=by
    refine thn (K pins s σ H _ I h) λw p ⟨y,S,Q,t,B⟩=>?_;refine thn (C pins p σ S v y u w _ Q r t B) λz V ⟨T,R,P,q,A⟩=>?_;exact x8 P M hi g q (λU O=>⟨_,R,O,A⟩) J
  rcases l with ⟨a,F⟩|⟨a,c,L,b⟩
  · exact wpAny_loadName_local I.ok.kind a E F go
  · rcases a with a|a
    · exact wpAny_loadName_cell I.ok.kind a L b go
    · rcases g with k|k
      · have:X.env.scope.names.lookup x=some .free:=a
        rw[k]at this;cases this
      · have:X.env.scope.names.lookup x=some .free:=a
        rw[k]at this;cases this
def gx (c:TT)(g:TS):TS:=λD σ H=>∃ W:Nat->St->Hp->Prop,(∃ m,W m σ H)/\∀ m σ H,W m σ H ->
  c σ H λb e=>if b=true then ∃ N:St->Hp->Prop,(∀ a f,N a f->∃ d,d<m/\W d a f)/\g { D with nx:=N,ct:=N,bk:=D.nx } σ e else D.nx σ e
theorem qO {c:Expr}{body:List Stmt}{q:TT}{r:TS}(t:PassesOwn (model X.prog X.w) X.A X.env X.xe)(J:PT X c q)(hb:PSs X body r):PS X (.While c body [] pos) (gx q r):=by
  intro pins s σ H D I h;obtain⟨W,⟨G,B⟩,turn⟩:=h;refine wpAny_While (codeAny_whileLoop (λn F=>∃ g z,Inv X pins g z F/\W n g z) ?_ G ⟨σ,H,I,B⟩);rintro n E ⟨d,y,K,A⟩;refine Zp t (thn (J pins E d y _ K (turn n d y A)) λb C ⟨x,w,j⟩=>?_)
  cases b with
  | true =>
    obtain⟨N,u,j⟩:=j;rw[Jp rfl];refine Zp t (thn (hb pins C d x _ w j) λf L i=>?_)
    cases f with
    | next =>
      obtain⟨a,e,p,l⟩:=i;obtain⟨m,o,k⟩:=u a e l
      exact⟨m,o,a,e,p,k⟩
    | cont =>
      obtain⟨a,e,p,l⟩:=i;obtain⟨m,o,k⟩:=u a e l
      exact⟨m,o,a,e,p,k⟩
    | brk=>exact i
    | ret v=>exact i
  | false =>
    rw[Jf Jn];exact wpAny_execs_nil ⟨d,x,w,j⟩
end
structure It where
  go:Nat->Hp->Prop
  yld:Nat->Hp->V->Hp->Prop
  stop:Nat->Hp->Prop
def FpOk (X:Cx)(pins:List (Addr × Obj))(H:Hp)(b:Addr):Prop :=
  H b=none/\b≠X.env.locals/\b∉X.fs/\(b∈X.ex\/X.s₀.heap.objs.size<=b)/\(∀ x c,X.env.cells.lookup x=some c->c≠b)/\∀ p∈X.pn++pins,p.1≠b
theorem Inv.fpOk {X:Cx}{pins:List (Addr × Obj)}{σ:St}{H H':Hp}{s:Shared}{b:Addr}(I:Inv X pins σ H s)(hb:s.heap.objs.size<=b)(hn:H' b=none):FpOk X pins H' b:=by
  refine⟨hn,JQ (JD I.lt hb),I.nofs hb,.inr (JR I.sz hb),λx c e z=>?_,λp a z=>?_⟩
  · obtain⟨v,q⟩:=I.cell x c e
    exact absurd (JD q.lt (by rw[z];exact hb)) (Yp _)
  · exact absurd (JD (Jb (I.pin p a).1) (by rw[z];exact hb)) (Yp _)
structure Turn (P:Program) (w:World) (K:PySem.W.Frag) (tg:Expr) (J:It) (fp:List Addr) (it:Addr) (tn:Nat->Heap->Prop):Prop where
  mem:it∈fp
  obj:∀ i h,tn i h->∀ b∈fp,∃ o,h.get? b=some o/\∀ v,o.data≠.cell v
  keep:∀ i h h',tn i h->(∀ b∈fp,∀ o,h.get? b=some o->h'.get? b=some o)->tn i h'
  item:∀ (X:Cx),X.prog=P->X.w=w->X.K=K->X.calm=true->∀ (i:Nat) (pins:List (Addr × Obj)) (s:Shared) (σ:St) (H:Hp) (E:Value->Shared->Prop),Inv X pins σ H s->(∀ b∈fp,FpOk X pins H b)->tn i s.heap->J.go i H ->
    wpAny (model P w) X.A (pyNext (.ref it)) (λr s1=>∃ u,r=some u /\
      wpAny (model P w) X.A (letOwnedTupleGo tg (.ref it) u) (λ_ s2=>∃ x H',Inv X pins σ H' s2/\RelV x u/\J.yld i H x H'/\tn (i+1) s2.heap/\∀ b∈fp,H' b=none) E s1) E s
  done:∀ (X:Cx),X.prog=P->X.w=w->X.K=K->X.calm=true->∀ (i:Nat) (pins:List (Addr × Obj)) (s:Shared) (σ:St) (H:Hp) (E:Value->Shared->Prop),Inv X pins σ H s->(∀ b∈fp,FpOk X pins H b)->tn i s.heap->J.stop i H ->
    wpAny (model P w) X.A (pyNext (.ref it)) (λr s1=>r=none/\Inv X pins σ H s1) E s
  self:∀ (A:Around) (i:Nat) (s:Shared) (Q:Value->Shared->Prop) (E:Value->Shared->Prop),tn i s.heap->Q (.ref it) s->wpAny (model P w) A (pyIter (.ref it)) Q E s
abbrev TI:=St->Hp->(It->Hp->Prop)->Prop
def PIE (X:Cx)(pins:List (Addr × Obj))(σ:St)(tg:Expr)(R:It->Hp->Prop)(c:Value)(s2:Shared):Prop :=
  ∃ (it:Addr) (e:List Addr) (d:Nat->Heap->Prop) (J:It) (a:Hp),c=.ref it/\Inv X pins σ a s2/\Turn X.prog X.w X.K tg J e it d/\d 0 s2.heap/\(∀ b∈e,FpOk X pins a b)/\R J a
def PI (X:Cx)(tg iter:Expr)(a:TI):Prop :=
  ∀ (pins:List (Addr × Obj)) (s:Shared) (σ:St) (H:Hp) (R:It->Hp->Prop),Inv X pins σ H s->a σ H R ->
    wpAny (model X.prog X.w) X.A (eval iter X.env) (λv b=>wpAny (model X.prog X.w) X.A (pyIter v) (PIE X pins σ tg R) X.xe b) X.xe s
theorem jy {M:Model}{A:Around}{E:Value->Shared->Prop}{s:Shared}{tg:Expr}{it:Addr}{u:Value}{o:Obj}{n:String}{vs:Array Value}{Q:Unit->Shared->Prop}(b:s.heap.get? it=some o) (c:o.cls=.type n) (hd:o.data=.fields vs)
    (hn:["enumerate","zip","dict_itemiterator","dict_reverseitemiterator","odict_iterator","itertools.zip_longest","itertools.pairwise"].contains n=false) (a:Q () s):wpAny M A (letOwnedTupleGo tg (.ref it) u) Q E s:=by
  unfold letOwnedTupleGo
  cases tg<;>first
    | exact J7 a
    | (cases u<;>first
        | exact J7 a
        | (refine J0 (wpAny_load b ?_)
           rw[c,hd];show wpAny M A (if (["enumerate","zip","dict_itemiterator","dict_reverseitemiterator","odict_iterator","itertools.zip_longest","itertools.pairwise"].contains n && vs[0]? == some (rawInt _))=true then _ else _) Q E s;rw[Jf (by intro h;rw[hn,Bool.false_and]at h;cases h)]
           exact J7 a))
def Itl (K:PySem.W.Frag)(a:Addr):It :=
  ⟨λi H=>∃ b x,SqL K H a b/\b[i]?=some x,λi H x c=>c=H/\∀ b,SqL K H a b->b[i]?=some x,λi H=>∃ b,SqL K H a b/\b.length<=i⟩
def Itt (K:PySem.W.Frag)(a:Addr):It :=
  ⟨λi H=>∃ b x,SqT K H a b/\b[i]?=some x,λi H x c=>c=H/\∀ b,SqT K H a b->b[i]?=some x,λi H=>∃ b,SqT K H a b/\b.length<=i⟩
def Itr (lo:Int)(n:Nat):It:=⟨λi _=>i<n,λi H x a=>a=H/\x=.int (lo+i),λi _=>n<=i⟩
theorem mK {P:Program}{w:World}{K:PySem.W.Frag}{tg:Expr}(a it:Addr):Turn P w K tg (Itl K a) [it] it (λi h=>h.IsListIter it a i) where
  mem:=by simp
  obj:=λi h st b f=>by
    have e:b=it:=by simpa using f
    subst e;obtain⟨o,e,c,d⟩:=st;exact⟨o,e,λv z=>by rw[d]at z;cases z⟩
  keep:=λi h m st k=>st.at λo e=>k it (by simp) o e
  item:=by
    intro X y r A L i pins s σ H E I l st t;subst y r A;obtain⟨M,x,j,q⟩:=t;obtain⟨J,n,p,Q⟩:=I.list j;obtain⟨u,S,O⟩:=n.get q;obtain⟨G,F,T,D,C,B⟩:=l it (by simp);refine wpAny_pyNext_list_item st p.isList (x:=u) (by simpa using S) λm g N=>?_;have V:Inv X pins σ H { s with heap:=m }:=I.turned (t':=s.toks) (λb o f e=>(N.2 b f).trans e) G F D C B;obtain⟨o,e,c,d⟩:=id g;exact⟨u,rfl,jy (s:={ s with heap:=m }) e c d (by decide) ⟨x,H,V,O,⟨rfl,λW R=>by rw[I.list_inj R j];exact q⟩,g,λb f=>(l b f).1⟩⟩
  done:=by
    intro X y r A L i pins s σ H E I l st t;subst y r A;obtain⟨M,j,q⟩:=t;obtain⟨J,n,p,Q⟩:=I.list j;obtain⟨G,F,T,D,C,B⟩:=l it (by simp);have Y:=n.length;exact wpAny_pyNext_list_end (I.ok.hd L) st p.isList (by simp;omega) λm U=>⟨rfl,I.turned (t':=s.toks) (λb o f e=>U b o f e) G F D C B⟩
  self:=λ_ _ _ _ _ st h=>wpAny_pyIter_listiter st h
theorem pV {P:Program}{w:World}{K:PySem.W.Frag}{tg:Expr}(a it:Addr):Turn P w K tg (Itt K a) [it] it (λi h=>h.IsTupleIter it a i) where
  mem:=by simp
  obj:=λi h st b f=>by
    have e:b=it:=by simpa using f
    subst e;obtain⟨o,e,c,d⟩:=st;exact⟨o,e,λv z=>by rw[d]at z;cases z⟩
  keep:=λi h n st k=>st.at λo e=>k it (by simp) o e
  item:=by
    intro X A t B L i pins s σ H E I m st y;subst A t B;obtain⟨M,x,l,r⟩:=y;obtain⟨g,q,p,Q⟩:=I.tuple l;obtain⟨u,S,O⟩:=q.get r;obtain⟨J,G,T,F,D,C⟩:=m it (by simp);refine wpAny_pyNext_tuple_item st (show s.heap.IsTuple a g.toArray from p) (x:=u) (by simpa using S) λn j N=>?_;have V:Inv X pins σ H { s with heap:=n }:=I.turned (t':=s.toks) (λb o f e=>(N.2 b f).trans e) J G F D C;obtain⟨o,e,c,d⟩:=id j;exact⟨u,rfl,jy (s:={ s with heap:=n }) e c d (by decide) ⟨x,H,V,O,⟨rfl,λW R=>by rw[I.tuple_inj R l];exact r⟩,j,λb f=>(m b f).1⟩⟩
  done:=by
    intro X A t B L i pins s σ H E I m st y;subst A t B;obtain⟨M,l,r⟩:=y;obtain⟨g,q,p,Q⟩:=I.tuple l;obtain⟨J,G,T,F,D,C⟩:=m it (by simp);have Y:=q.length;exact wpAny_pyNext_tuple_end (I.ok.hd L) st (show s.heap.IsTuple a g.toArray from p) (by simp;omega) λn U=>⟨rfl,I.turned (t':=s.toks) (λb o f e=>U b o f e) J G F D C⟩
  self:=λ_ _ _ _ _ st h=>wpAny_pyIter_tupleiter st h
theorem pW {P:Program}{w:World}{K:PySem.W.Frag}{tg:Expr}(it:Addr)(lo:Int)(n:Nat):Turn P w K tg (Itr lo n) [it] it (λi h=>IsRangeIter h it (lo+(i:Nat)*1) ((n:Int)-(i:Nat)) 1) where
  mem:=by simp
  obj:=λi h st b a=>by
    have e:b=it:=by simpa using a
    subst e
    exact⟨_,st,λv z=>by
      have B:Data.fields _=Data.cell v:=z
      cases B⟩
  keep:=λi h f st k=>k it (by simp) _ st
  item:=by
    intro X m g p l i pins s σ H E I d st j;subst m g p;obtain⟨y,x,F,u,r,q⟩:=d it (by simp);have W:=Walks.range (prog:=X.prog) (w:=X.w) (I.ok.hd l) it lo 1 n;refine W.item i s _ _ j st λv f A D c C=>?_;obtain⟨t,rfl⟩:=D;have J:Inv X pins σ H { s with heap:=f,toks:=A }:=I.turned (λb o a e=>C b o (by simpa using a) e) y x u r q;refine⟨_,rfl,jy (s:={ s with heap:=f,toks:=A }) (n:="range_iterator") c rfl rfl (by decide) ⟨.int (lo+i),H,J,⟨t,?_⟩,⟨rfl,rfl⟩,c,λb a=>(d b a).1⟩⟩;rw[Int.mul_one]
  done:=by
    intro X m g p l i pins s σ H E I d st j;subst m g p;obtain⟨y,x,F,u,r,q⟩:=d it (by simp);exact wpAny_pyNext_range_end (I.ok.hd l) st (by have:n<=i:=j;omega) λf G=>⟨rfl,I.turned (t':=s.toks) (λb o a e=>G b o a e) y x u r q⟩
  self:=λ_ _ _ _ _ st h=>wpAny_pyIter_rangeiter st h
section
variable {X:Cx}{tg:Expr}
def cy (K:PySem.W.Frag)(d:TE):TI:=λσ H R=>d σ H λx b=>∃ a,x=.ref a/\(∃ c,SqL K b a c)/\R (Itl K a) b
def ee (K:PySem.W.Frag)(d:TE):TI:=λσ H R=>d σ H λx b=>∃ a,x=.ref a/\(∃ c,SqT K b a c)/\R (Itt K a) b
theorem vm {l:Expr}{f:TE}(k:PE X l f):PI X tg l (cy X.K f):=by
  intro pins s σ H R I h;refine thn (k pins s σ H _ I h) λv c ⟨x,n,d,g,i⟩=>?_;obtain⟨a,e,⟨t,j⟩,q⟩:=i;subst e;cases g;obtain⟨r,u,p,w⟩:=d.list j;refine wpAny_pyIter_list p.isList ?_;refine⟨c.heap.objs.size,[c.heap.objs.size],_,_,n,rfl,d.kept (t':=c.toks) λb o e=>J6 _ e,mK a _,⟨_,JA _ rfl,rfl,rfl⟩,λb m=>?_,q⟩;have e:b=c.heap.objs.size:=by simpa using m
  subst e;exact d.fpOk (Je _) (d.hok.fresh (Je _))
theorem xA {l:Expr}{g:TE}(m:PE X l g):PI X tg l (ee X.K g):=by
  intro pins s σ H R I h;refine thn (m pins s σ H _ I h) λv c ⟨x,r,d,i,j⟩=>?_;obtain⟨a,e,⟨t,k⟩,q⟩:=j;subst e;cases i;obtain⟨f,u,p,w⟩:=d.tuple k;refine wpAny_pyIter_tuple (show c.heap.IsTuple a f.toArray from p) ?_;refine⟨c.heap.objs.size,[c.heap.objs.size],_,_,r,rfl,d.kept (t':=c.toks) λb o e=>J6 _ e,pV a _,⟨_,JA _ rfl,rfl,rfl⟩,λb n=>?_,q⟩;have e:b=c.heap.objs.size:=by simpa using n
  subst e;exact d.fpOk (Je _) (d.hok.fresh (Je _))
theorem ki {pins:List (Addr × Obj)}{σ:St}{H:Hp}{s:Shared}{R:It->Hp->Prop}{E:Value->Shared->Prop}{lo hi:Int}{t u v:Tok}{tk:Nat}(I:Inv X pins σ H s)(h:-(2 ^ 62)<=lo)(g:lo<2 ^ 62)(f:-(2 ^ 62)<=hi)(d:hi<2 ^ 62)(q:R (Itr lo (hi-lo).toNat) H):wpAny (model X.prog X.w) X.A (pyIter (.ref s.heap.objs.size)) (PIE X pins σ tg R) E { s with heap:=s.heap.push { cls:=.type "range",data:=.fields #[.int lo t,.int hi u,.int 1 v] },toks:=tk }:=by
  refine wpAny_pyIter_range (IsRange.new ..) (small_one h g f d) ?_;have a:Inv X pins σ H { s with heap:=s.heap.push { cls:=.type "range",data:=.fields #[.int lo t,.int hi u,.int 1 v] },toks:=tk }:=I.kept λb o e=>J6 _ e
  refine⟨(s.heap.push { cls:=.type "range",data:=.fields #[.int lo t,.int hi u,.int 1 v] }).objs.size,[(s.heap.push { cls:=.type "range",data:=.fields #[.int lo t,.int hi u,.int 1 v] }).objs.size],_,_,H,rfl,
    a.kept (t':=tk) λb o e=>J6 _ e,pW _ lo (hi-lo).toNat,?_,λb c=>?_,q⟩
  · have i:lo+((0:Nat):Int)*1=lo:=by simp
    have e2:(((hi-lo).toNat:Nat):Int)-((0:Nat):Int)=Builtin.Range.rangeSize lo hi 1:=by rw[rangeSize_one];split<;>omega
    show IsRangeIter _ _ (lo+((0:Nat):Int)*1) ((((hi-lo).toNat:Nat):Int)-((0:Nat):Int)) 1;rw[i,e2];exact JA _ rfl
  · have e:b=(s.heap.push { cls:=.type "range",data:=.fields #[.int lo t,.int hi u,.int 1 v] }).objs.size:=by simpa using c
    subst e;exact a.fpOk (Je _) (a.hok.fresh (Je _))
def cw (b:TA):TI:=λσ H R=>b σ H λa c=>∃ j:Int,a=[.int j]/\-(2 ^ 62)<=j/\j<2 ^ 62/\R (Itr 0 j.toNat) c
theorem wM {a:Expr}{c:TA}{p pos:Pos}(k:Gl X "range") (hm:X.mg "range" = none) (ha:PA X [a] c) (i:starEach [a] X.env=[(false,eval a X.env)]:=by rfl):PI X tg (.Call (.Name "range" p) [a] [] pos) (cw c):=by
  intro pins s σ H R I h;refine Call_ (xJ I k hm boot_range (Yf (thn (ha pos pins s σ H _ I h) λn o ⟨m,u,l,f,b⟩=>?_) i rfl));obtain⟨j,e,b,g,q⟩:=b;subst e
  cases f with
  | cons r d =>
    cases d;obtain⟨t,rfl⟩:=r;exact call_range_1 (ki l (by omega) (by omega) b g (by simpa using q))
def bQ (e:TI)(g:TG)(f:TS):TS:=λD σ H=>e σ H λJ j=>∃ W:Nat->Nat->St->Hp->Prop,(∃ m,W 0 m σ j)/\∀ i m σ H,W i m σ H ->
  (J.stop i H/\D.nx σ H)\/(J.go i H/\∃ N:St->Hp->Prop,(∀ b a,N b a->∃ d,d<m/\W (i+1) d b a)/\∀ x a,J.yld i H x a->g x σ a λc h=>f { D with nx:=N,ct:=N,bk:=D.nx } c h)
def xt (fp:List Addr)(h:Heap):List (Addr × Obj):=fp.filterMap λb=>(h.get? b).map λo=>(b,o)
theorem yR {fp:List Addr}{h:Heap}{b:Addr}{o:Obj}(hb:b∈fp)(e:h.get? b=some o):(b,o)∈xt fp h:=List.mem_filterMap.mpr ⟨b,hb,by rw[e];rfl⟩
theorem ms {fp:List Addr}{h:Heap}{p:Addr × Obj}(a:p∈xt fp h):p.1∈fp/\h.get? p.1=some p.2:=by
  obtain⟨b,c,e⟩:=List.mem_filterMap.mp a
  cases q:h.get? b with
  | none=>rw[q]at e;cases e
  | some o =>
    rw[q]at e;have d:(b,o)=p:=Jr e;subst d;exact⟨c,q⟩
theorem Inv.pinned {pins:List (Addr × Obj)}{σ:St}{H:Hp}{s:Shared}{fp:List Addr}(I:Inv X pins σ H s)(h:∀ b∈fp,FpOk X pins H b)(g:∀ b∈fp,∃ o,s.heap.get? b=some o/\∀ v,o.data≠.cell v):Inv X (pins++xt fp s.heap) σ H s :=
  I.pins_of λp f=>(Ju.mp f).elim (λz=>I.pin p (Jy _ z)) λz=>by
    obtain⟨a,e⟩:=ms z;obtain⟨k,j,i,_⟩:=h p.1 a;obtain⟨o,c,d⟩:=g p.1 a;rw[e]at c;cases c;exact⟨e,k,j,i,d⟩
theorem Inv.unpinned {pins a:List (Addr × Obj)}{σ:St}{H:Hp}{s:Shared}(I:Inv X (pins++a) σ H s):Inv X pins σ H s:=I.pins_of λp b=>I.pin p (Jy _ (YB _ b))
theorem xa {iter:Expr}{body:List Stmt}{P:TI}{g:TG}{R:TS}{pos:Pos}(z:PassesOwn (model X.prog X.w) X.A X.env X.xe)(Y:X.calm=true)(hi:PI X tg iter P)(hg:PG X tg g)(hb:PSs X body R)(hs:∀ x,foldedSetIterable iter X.env x=pure x:=by intro _;rfl):PS X (.For tg iter body [] pos) (bQ P g R):=by
  intro pins s σ H D I h;refine wpAny_For (thn (hi pins s σ H _ I h) λv s1 h1=>thn h1 λaa s2 h2=>?_) hs;obtain⟨it,A,Q,J,H2,e,I2,T,L,Z,W,⟨m0,w0⟩,turn⟩:=h2;subst e;have p:∀ {q:Hp},(∀ b∈A,q b=none)->∀ b∈A,FpOk X pins q b:=λhn b hb=>⟨hn b hb,(Z b hb).2⟩;refine codeAny_forLoop_any (λn V=>∃ i l q,Inv X pins l q V/\Q i V.heap/\(∀ b∈A,q b=none)/\W i n l q) ?_ m0 ⟨0,σ,H2,I2,L,λb hb=>(Z b hb).1,w0⟩;rintro n U ⟨i,k,E,I3,B,C,w3⟩;rcases turn i n k E w3 with ⟨stop,qn⟩|⟨go,N,hN,step⟩
  · refine Zp z (thn (T.done X rfl rfl rfl Y i pins U k E X.xe I3 (p C) B stop) λr s4 ⟨G,I4⟩=>?_)
    subst G;exact wpAny_execs_nil ⟨k,E,I4,qn⟩
  · refine Zp z (thn (T.item X rfl rfl rfl Y i pins U k E X.xe I3 (p C) B go) λr s4 ⟨u,G,h4⟩=>?_)
    subst G;refine Zp z (thn h4 λ_ S ⟨x,H5,I5,r5,y5,w,M⟩=>?_);have O:=I5.pinned (p M) (T.obj _ _ w);refine Zp z (thn (hg _ S k H5 x u _ O r5 (step x H5 y5)) λ_ s6 ⟨K,H6,I6,q6⟩=>?_);refine Zp z (thn (hb _ s6 K H6 _ I6 q6) λf F t=>?_)
    have again:∀ {a:St}{j:Hp},Inv X (pins++xt A S.heap) a j F->N a j->∃ m,m<n/\∃ i l q,Inv X pins l q F/\Q i F.heap/\(∀ b∈A,q b=none)/\W i m l q:=λ{a j} c y=>by
      obtain⟨m',hm,w7⟩:=hN a j y;refine⟨m',hm,i+1,a,j,c.unpinned,T.keep _ _ _ w λb hb o e=>(c.pin (b,o) (Jy _ (Jy _ (yR hb e)))).1,λb hb=>?_,w7⟩;obtain⟨o,e,d⟩:=T.obj _ _ w b hb;exact(c.pin (b,o) (Jy _ (Jy _ (yR hb e)))).2.1
    cases f with
    | next=>obtain⟨a,j,c,y⟩:=t;exact again c y
    | cont=>obtain⟨a,j,c,y⟩:=t;exact again c y
    | brk=>obtain⟨a,j,c,t⟩:=t;exact⟨a,j,c.unpinned,t⟩
    | ret v=>obtain⟨x7,a,j,c,r7,t⟩:=t;exact⟨x7,a,j,c.unpinned,r7,t⟩
end
theorem pE {K:PySem.W.Frag}{a:Addr}{xs:List V}{g:TG}{k:TS}{D:Ends}{σ:St}{H:Hp}(b:Nat->St->Hp->Prop)(t:b 0 σ H)(r:∀ i σ H,i<=xs.length->b i σ H->SqL K H a xs)(o:∀ i x σ H,xs[i]?=some x->b i σ H->g x σ H λd j=>k { D with nx:=b (i+1),ct:=b (i+1),bk:=D.nx } d j)(s:∀ σ H,b xs.length σ H->D.nx σ H) :
    ∃ W:Nat->Nat->St->Hp->Prop,(∃ m,W 0 m σ H)/\∀ i m σ H,W i m σ H ->
      ((Itl K a).stop i H/\D.nx σ H)\/((Itl K a).go i H/\∃ N:St->Hp->Prop,(∀ f c,N f c->∃ l,l<m/\W (i+1) l f c)/\∀ x c,(Itl K a).yld i H x c->g x σ c λd j=>k { D with nx:=N,ct:=N,bk:=D.nx } d j):=by
  refine⟨λi m σ H=>m=xs.length-i/\i<=xs.length/\b i σ H,⟨xs.length,by simp,Y1 _,t⟩,?_⟩;rintro i m σ H ⟨rfl,hi,p⟩;have q:=r i σ H hi p;by_cases h:i<xs.length
  · refine .inr ⟨⟨xs,xs[i],q,by simp[h]⟩,b (i+1),λf c n=>⟨xs.length-(i+1),by omega,rfl,h,n⟩,λx c y=>?_⟩
    obtain⟨e,y⟩:=y;subst e;exact o i x σ _ (y xs q) p
  · have e:i=xs.length:=by omega
    subst e;exact .inl ⟨⟨xs,q,Je _⟩,s σ H p⟩
theorem rh {K:PySem.W.Frag}{a:Addr}{xs:List V}{g:TG}{k:TS}{D:Ends}{σ:St}{H:Hp}(b:Nat->St->Hp->Prop)(t:b 0 σ H)(r:∀ i σ H,i<=xs.length->b i σ H->SqT K H a xs)(o:∀ i x σ H,xs[i]?=some x->b i σ H->g x σ H λd j=>k { D with nx:=b (i+1),ct:=b (i+1),bk:=D.nx } d j)(s:∀ σ H,b xs.length σ H->D.nx σ H) :
    ∃ W:Nat->Nat->St->Hp->Prop,(∃ m,W 0 m σ H)/\∀ i m σ H,W i m σ H ->
      ((Itt K a).stop i H/\D.nx σ H)\/((Itt K a).go i H/\∃ N:St->Hp->Prop,(∀ f c,N f c->∃ l,l<m/\W (i+1) l f c)/\∀ x c,(Itt K a).yld i H x c->g x σ c λd j=>k { D with nx:=N,ct:=N,bk:=D.nx } d j):=by
  refine⟨λi m σ H=>m=xs.length-i/\i<=xs.length/\b i σ H,⟨xs.length,by simp,Y1 _,t⟩,?_⟩;rintro i m σ H ⟨rfl,hi,p⟩;have q:=r i σ H hi p;by_cases h:i<xs.length
  · refine .inr ⟨⟨xs,xs[i],q,by simp[h]⟩,b (i+1),λf c n=>⟨xs.length-(i+1),by omega,rfl,h,n⟩,λx c y=>?_⟩
    obtain⟨e,y⟩:=y;subst e;exact o i x σ _ (y xs q) p
  · have e:i=xs.length:=by omega
    subst e;exact .inl ⟨⟨xs,q,Je _⟩,s σ H p⟩
theorem vP {lo:Int}{n:Nat}{g:TG}{j:TS}{D:Ends}{σ:St}{H:Hp}(a:Nat->St->Hp->Prop)(r:a 0 σ H)(o:∀ i σ H,i<n->a i σ H->g (.int (lo+i)) σ H λc h=>j { D with nx:=a (i+1),ct:=a (i+1),bk:=D.nx } c h)(q:∀ σ H,a n σ H->D.nx σ H) :
    ∃ W:Nat->Nat->St->Hp->Prop,(∃ m,W 0 m σ H)/\∀ i m σ H,W i m σ H ->
      ((Itr lo n).stop i H/\D.nx σ H)\/((Itr lo n).go i H/\∃ N:St->Hp->Prop,(∀ d b,N d b->∃ k,k<m/\W (i+1) k d b)/\∀ x b,(Itr lo n).yld i H x b->g x σ b λc h=>j { D with nx:=N,ct:=N,bk:=D.nx } c h):=by
  refine⟨λi m σ H=>m=n-i/\i<=n/\a i σ H,⟨n,by simp,Y1 _,r⟩,?_⟩;rintro i m σ H ⟨rfl,hi,p⟩;by_cases f:i<n
  · refine .inr ⟨f,a (i+1),λd b l=>⟨n-(i+1),by omega,rfl,f,l⟩,λx b y=>?_⟩
    obtain⟨e,y⟩:=y;subst e y;exact o i σ _ f p
  · have e:i=n:=by omega
    subst e;exact .inl ⟨Je _,q σ H p⟩
abbrev R2:=V->V->Hp->VK->Prop
def OpR (X:Cx)(f:Value->Value->Sem Value)(r:R2):Prop :=
  ∀ (pins:List (Addr × Obj)) (s:Shared) (σ:St) (H:Hp) (x y:V) (v u:Value) (Q:VK),Inv X pins σ H s->RelV x v->RelV y u->r x y H Q ->
    wpAny (model X.prog X.w) X.A (f v u) (EP X pins σ Q) X.xe s
def UnR (X:Cx)(f:Value->Sem Value)(r:V->Hp->VK->Prop):Prop :=
  ∀ (pins:List (Addr × Obj)) (s:Shared) (σ:St) (H:Hp) (x:V) (v:Value) (Q:VK),Inv X pins σ H s->RelV x v->r x H Q ->
    wpAny (model X.prog X.w) X.A (f v) (EP X pins σ Q) X.xe s
def CallR (X:Cx)(f:Value)(r:List V->Hp->VK->Prop):Prop :=
  ∀ (pins:List (Addr × Obj)) (s:Shared) (σ:St) (H:Hp) (a:List V) (b:List Value) (Q:VK),Inv X pins σ H s->Vals a b->r a H Q ->
    wpAny (model X.prog X.w) X.A (call f b) (EP X pins σ Q) X.xe s
def tOp (r:R2)(b a:TE):TE:=λσ H Q=>b σ H λx d=>a σ d λy c=>r x y c Q
def tUn (r:V->Hp->VK->Prop)(a:TE):TE:=λσ H Q=>a σ H λx b=>r x b Q
def rI (C:Int->Int->Prop)(g:Int->Int->V):R2:=λx y H Q=>∃ i j,x=.int i/\y=.int j/\C i j/\Q (g i j) H
def rI0 (g:Int->Int->V):R2:=λx y H Q=>∃ i j,x=.int i/\y=.int j/\Q (g i j) H
def rU (g:Int->V):V->Hp->VK->Prop:=λx H Q=>∃ i,x=.int i/\Q (g i) H
section
variable {X:Cx}{a b:Expr}{ta tb:TE}{pos:Pos}
theorem dc (ha:PE X a ta)(hb:PE X b tb){pins:List (Addr × Obj)}{s:Shared}{σ:St}{H:Hp}{R:V->V->Hp->Prop}(I:Inv X pins σ H s)(h:ta σ H λx g=>tb σ g λy c=>R x y c){Q:Value->Shared->Prop}{f:Value->Value->Sem Value}(n:∀ v u s2 x y c,Inv X pins σ c s2->RelV x v->RelV y u->R x y c->wpAny (model X.prog X.w) X.A (f v u) Q X.xe s2) :
    wpAny (model X.prog X.w) X.A (eval a X.env) (λv e=>wpAny (model X.prog X.w) X.A (eval b X.env) (λu d=>wpAny (model X.prog X.w) X.A (f v u) Q X.xe d) X.xe e) X.xe s:=by
  refine thn (ha pins s σ H _ I h) λv i ⟨x,g,p,k,m⟩=>?_;refine thn (hb pins i σ g _ p m) λu s2 ⟨y,c,o,j,l⟩=>?_;exact n v u s2 x y c o k j l
theorem zS {op:Operator}{r:R2}(f:OpR X (binaryOp op) r)(ha:PE X a ta)(hb:PE X b tb):PE X (.BinOp a op b pos) (tOp r ta tb):=by
  intro pins s σ H Q I h;exact wpAny_BinOp (dc ha hb I h λv u c x y i g e d q=>f pins c σ i x y v u Q g e d q)
theorem tN {op:UnaryOp}{r:V->Hp->VK->Prop}(e:UnR X (unaryOp op) r)(ha:PE X a ta):PE X (.UnaryOp op a pos) (tUn r ta):=by
  intro pins s σ H Q I h;exact UnaryOp_ (thn (ha pins s σ H _ I h) λv b ⟨x,g,f,c,d⟩=>e pins b σ g x v Q f c d)
theorem opI {f:Value->Value->Sem Value}{C:Int->Int->Prop}{g:Int->Int->Int}(rule:∀ (i j:Int) (t u:Tok) (s:Shared) (Q:Value->Shared->Prop) (E:Value->Shared->Prop),C i j->Q (.int (g i j) s.toks) { s with toks:=s.toks+1 }->wpAny (model X.prog X.w) X.A (f (.int i t) (.int j u)) Q E s) :
    OpR X f (rI C λi j=>.int (g i j)):=by
  intro pins s σ H x y v u Q I c b h;obtain⟨i,j,rfl,rfl,d,q⟩:=h;obtain⟨t,rfl⟩:=c;obtain⟨a,rfl⟩:=b;exact rule i j t a s _ _ d ⟨.int (g i j),H,I.tok _,⟨_,rfl⟩,q⟩
theorem cU {f:Value->Value->Sem Value}{g:Int->Int->Int}(rule:∀ (i j:Int) (t u:Tok) (s:Shared) (Q:Value->Shared->Prop) (E:Value->Shared->Prop),Q (.int (g i j) s.toks) { s with toks:=s.toks+1 }->wpAny (model X.prog X.w) X.A (f (.int i t) (.int j u)) Q E s) :
    OpR X f (rI0 λi j=>.int (g i j)):=by
  intro pins s σ H x y v u Q I c b h;obtain⟨i,j,rfl,rfl,q⟩:=h;obtain⟨t,rfl⟩:=c;obtain⟨a,rfl⟩:=b;exact rule i j t a s _ _ ⟨.int (g i j),H,I.tok _,⟨_,rfl⟩,q⟩
theorem i3 {f:Value->Value->Sem Value}{g:Int->Int->Bool}(rule:∀ (i j:Int) (t u:Tok) (s:Shared) (Q:Value->Shared->Prop) (E:Value->Shared->Prop),Q (.bool (g i j)) s->wpAny (model X.prog X.w) X.A (f (.int i t) (.int j u)) Q E s) :
    OpR X f (rI0 λi j=>.bl (g i j)):=by
  intro pins s σ H x y v u Q I c b h;obtain⟨i,j,rfl,rfl,q⟩:=h;obtain⟨t,rfl⟩:=c;obtain⟨a,rfl⟩:=b;exact rule i j t a s _ _ ⟨.bl (g i j),H,I,rfl,q⟩
def CDiv (i j:Int):Prop:=0<j/\j<1073741824
def CPow (i j:Int):Prop:=0<=j/\j<=1000000/\i.natAbs<2 ^ 64
def CMul (i j:Int):Prop:=(-(2 ^ 64)<i/\i<2 ^ 64)\/(-(2 ^ 64)<j/\j<2 ^ 64)
theorem CMul.ok {i j:Int}(h:CMul i j):IntMulOk i j:=by
  rcases h with ⟨b,a⟩|⟨b,a⟩
  · exact .of_left (intBits_le_64 b a)
  · exact .of_right (intBits_le_64 b a)
theorem yX:OpR X (binaryOp .Add) (rI0 λi j=>.int (i+j)):=cU λ_ _ _ _ _ _ _ q=>add_int q
theorem uO:OpR X (binaryOp .Sub) (rI0 λi j=>.int (i-j)):=cU λ_ _ _ _ _ _ _ q=>sub_int q
theorem wE:OpR X (binaryOp .Mult) (rI CMul λi j=>.int (i*j)):=opI λ_ _ _ _ _ _ _ a q=>mul_int q a.ok
theorem wu:OpR X (binaryOp .FloorDiv) (rI CDiv λi j=>.int (i / j)):=opI λi j _ _ _ _ _ a q=>by
  have c:(0:Int)<j:=a.1;have b:j<1073741824:=a.2;exact floordiv_int (by omega) (by rw[Int.fdiv_eq_ediv_of_nonneg i (by omega)];exact q) (.inl (PyProof.noPylong_small (by omega)))
theorem yh:OpR X (binaryOp .Mod) (rI (λ_ j=>0<j) λi j=>.int (i%j)):=opI λi j _ _ _ _ _ a q=>by
  have b:(0:Int)<j:=a;exact mod_int' (by omega) (by rw[Int.fmod_eq_emod_of_nonneg i (by omega)];exact q)
theorem fu:OpR X (binaryOp .Pow) (rI CPow λi j=>.int (i ^ j.toNat)):=opI λ_ _ _ _ _ _ _ a q=>pow_int_small a.1 a.2.1 a.2.2 q
theorem gS:OpR X (inplaceOp .Mult) (rI CMul λi j=>.int (i*j)):=opI λ_ _ _ _ _ _ _ a q=>imul_int q a.ok
theorem unI {f:Value->Sem Value}{g:Int->Int}(rule:∀ (i:Int) (t:Tok) (s:Shared) (Q:Value->Shared->Prop) (E:Value->Shared->Prop),Q (.int (g i) s.toks) { s with toks:=s.toks+1 }->wpAny (model X.prog X.w) X.A (f (.int i t)) Q E s) :
    UnR X f (rU λi=>.int (g i)):=by
  intro pins s σ H x v Q I a h;obtain⟨i,rfl,q⟩:=h;obtain⟨t,rfl⟩:=a;exact rule i t s _ _ ⟨.int (g i),H,I.tok _,⟨_,rfl⟩,q⟩
theorem vC:UnR X (unaryOp .USub) (rU λi=>.int (-i)):=unI λ_ _ _ _ _ q=>neg_int q
end
def cL:V->V->Bool
  | .non,.non=>true|.non,.int _=>true|.int _,.non=>true|.non,.bl _=>true|.bl _,.non=>true|.non,.str _=>true|.str _,.non=>true
  | .int _,.int _=>true|.bl _,.bl _=>true|.str _,.str _=>true|.byt _,.byt _=>true
  | .int _,.str _=>true|.str _,.int _=>true|.bl _,.str _=>true|.str _,.bl _=>true
  | _,_=>false
def rEq:R2:=λx y H Q=>cL x y=true/\Q (.bl (decide (x=y))) H
def rNe:R2:=λx y H Q=>cL x y=true/\Q (.bl (!decide (x=y))) H
theorem nj {i j:Int}:decide (V.int i=V.int j)=(i == j):=by
  rw[Yh];simp
theorem j9 {i j:Bool}:decide (V.bl i=V.bl j)=(i == j):=by
  rw[Yh];simp
theorem ni {i j:Str}:decide (V.str i=V.str j)=(i == j):=by
  rw[Yh];simp
theorem nk {i j:Array UInt8}:decide (V.byt i=V.byt j)=(i.toList == j.toList):=by
  rw[Yh];cases i;cases j;simp
section
variable {X:Cx}{a b c:Expr}{ta tb tc:TE}{pos:Pos}
theorem yA {pins:List (Addr × Obj)}{σ:St}{H:Hp}{s:Shared}{Q:VK}{k a:Bool}(I:Inv X pins σ H s)(q:Q (.bl k) H)(e:k=a):EP X pins σ Q (.bool a) s:=by
  subst e;exact⟨.bl k,H,I,rfl,q⟩
theorem xg:OpR X (compareOp .Eq) rEq:=by
  intro pins s σ H x y v u Q I d a h;obtain⟨c,q⟩:=h
  cases x with
  | non =>
    cases d
    cases y with
    | non=>cases a;exact PySem.EqNone.eq_none_none (yA I q (by simp))
    | bl j=>cases a;exact PySem.EqNone.eq_none_bool (yA I q (by simp))
    | int j=>obtain⟨b,rfl⟩:=a;exact PySem.EqNone.eq_none_int (yA I q (by simp))
    | str j=>obtain⟨b,rfl⟩:=a;exact PySem.EqNone.eq_none_str (yA I q (by simp))
    | _=>exact absurd (show false=true from c) Jn
  | bl i =>
    cases d
    cases y with
    | non=>cases a;exact PySem.EqNone.eq_bool_none (yA I q (by simp))
    | bl j=>cases a;exact eq_bool (yA I q j9)
    | str j=>obtain⟨b,rfl⟩:=a;exact PySem.EqMixed.eq_bool_str (yA I q (by simp))
    | _=>exact absurd (show false=true from c) Jn
  | int i =>
    obtain⟨t,rfl⟩:=d
    cases y with
    | non=>cases a;exact PySem.EqNone.eq_int_none (yA I q (by simp))
    | int j=>obtain⟨b,rfl⟩:=a;exact eq_int (yA I q nj)
    | str j=>obtain⟨b,rfl⟩:=a;exact PySem.EqMixed.eq_int_str (yA I q (by simp))
    | _=>exact absurd (show false=true from c) Jn
  | str i =>
    obtain⟨t,rfl⟩:=d
    cases y with
    | non=>cases a;exact PySem.EqNone.eq_str_none (yA I q (by simp))
    | bl j=>cases a;exact PySem.EqMixed.eq_str_bool (yA I q (by simp))
    | int j=>obtain⟨b,rfl⟩:=a;exact PySem.EqMixed.eq_str_int (yA I q (by simp))
    | str j=>obtain⟨b,rfl⟩:=a;exact eq_str (yA I q ni)
    | _=>exact absurd (show false=true from c) Jn
  | byt i =>
    obtain⟨t,rfl⟩:=d
    cases y with
    | byt j=>obtain⟨b,rfl⟩:=a;exact PySem.W.eq_bytes (yA I q nk)
    | _=>exact absurd (show false=true from c) Jn
  | _=>cases y<;>exact absurd (show false=true from c) Jn
theorem tS:OpR X (compareOp .NotEq) rNe:=by
  intro pins s σ H x y v u Q I d a h;obtain⟨c,q⟩:=h
  cases x with
  | non =>
    cases d
    cases y with
    | non=>cases a;exact PySem.EqNone.ne_none_none (yA I q (by simp))
    | bl j=>cases a;exact PySem.EqNone.ne_none_bool (yA I q (by simp))
    | int j=>obtain⟨b,rfl⟩:=a;exact PySem.EqNone.ne_none_int (yA I q (by simp))
    | str j=>obtain⟨b,rfl⟩:=a;exact PySem.EqNone.ne_none_str (yA I q (by simp))
    | _=>exact absurd (show false=true from c) Jn
  | bl i =>
    cases d
    cases y with
    | non=>cases a;exact PySem.EqNone.ne_bool_none (yA I q (by simp))
    | bl j=>cases a;exact ne_bool (yA I q (JV not j9))
    | str j=>obtain⟨b,rfl⟩:=a;exact PySem.EqMixed.ne_bool_str (yA I q (by simp))
    | _=>exact absurd (show false=true from c) Jn
  | int i =>
    obtain⟨t,rfl⟩:=d
    cases y with
    | non=>cases a;exact PySem.EqNone.ne_int_none (yA I q (by simp))
    | int j=>obtain⟨b,rfl⟩:=a;exact ne_int (yA I q (JV not nj))
    | str j=>obtain⟨b,rfl⟩:=a;exact PySem.EqMixed.ne_int_str (yA I q (by simp))
    | _=>exact absurd (show false=true from c) Jn
  | str i =>
    obtain⟨t,rfl⟩:=d
    cases y with
    | non=>cases a;exact PySem.EqNone.ne_str_none (yA I q (by simp))
    | bl j=>cases a;exact PySem.EqMixed.ne_str_bool (yA I q (by simp))
    | int j=>obtain⟨b,rfl⟩:=a;exact PySem.EqMixed.ne_str_int (yA I q (by simp))
    | str j=>obtain⟨b,rfl⟩:=a;exact ne_str (yA I q (JV not ni))
    | _=>exact absurd (show false=true from c) Jn
  | byt i =>
    obtain⟨t,rfl⟩:=d
    cases y with
    | byt j=>obtain⟨b,rfl⟩:=a;exact PySem.W.ne_bytes (yA I q (JV not nk))
    | _=>exact absurd (show false=true from c) Jn
  | _=>cases y<;>exact absurd (show false=true from c) Jn
theorem nQ:OpR X (compareOp .Lt) (rI0 λi j=>.bl (decide (i<j))):=i3 λ_ _ _ _ _ _ _ q=>lt_int q
theorem gp:OpR X (compareOp .LtE) (rI0 λi j=>.bl (decide (i<=j))):=i3 λ_ _ _ _ _ _ _ q=>le_int q
theorem gq:OpR X (compareOp .Gt) (rI0 λi j=>.bl (decide (j<i))):=i3 λ_ _ _ _ _ _ _ q=>gt_int q
theorem cT:OpR X (compareOp .GtE) (rI0 λi j=>.bl (decide (j<=i))):=i3 λ_ _ _ _ _ _ _ q=>ge_int q
theorem yC (b:Expr){op:CmpOp}(h:op≠.In:=by decide)(a:op≠.NotIn:=by decide):behindInMarks op b=false:=by
  have c:(op == CmpOp.In)=false:=by cases op<;>first|rfl|exact absurd rfl h
  have e2:(op == CmpOp.NotIn)=false:=by cases op<;>first|rfl|exact absurd rfl a
  cases b<;>simp[behindInMarks,c,e2]
theorem wN {op:CmpOp}{r:R2}(f:OpR X (compareOp op) r)(ha:PE X a ta)(hb:PE X b tb)(hm:behindInMarks op b=false):PE X (.Compare a [op] [b] pos) (tOp r ta tb):=by
  intro pins s σ H Q I h;exact wpAny_Compare1 (dc ha hb I h λv u c x y i g e d q=>f pins c σ i x y v u Q g e d q) hm
def dj (t:TE):TT:=λσ H Q=>t σ H λx a=>∃ k,x=.bl k/\Q k a
theorem zp {op:CmpOp}{r:R2}(o:OpR X (compareOp op) r)(ha:PE X a ta)(hb:PE X b tb)(hm:behindInMarks op b=false):PT X (.Compare a [op] [b] pos) (dj (tOp r ta tb)):=by
  intro pins s σ H Q I h
  refine wpAny_isTrue_Compare1 (thn (ha pins s σ H _ I h) λv f ⟨x,B,t,j,n⟩=>thn (hb pins f σ B _ t n) λu d ⟨y,A,q,i,m⟩ =>
    thn (o pins d σ A x y v u _ q j i m) λc C ⟨z,w,p,g,k,e,l⟩=>?_) hm
  subst e;cases g;exact YQ ⟨w,p,l⟩
def g6 (r c:R2)(ta tb tc:TE):TE:=λσ H Q=>ta σ H λx f=>tb σ f λy e=>r x y e λz a=>∃ k,z=.bl k /\
  (if k=true then tc σ a λb d=>c y b d Q else Q (.bl false) a)
theorem qT {op f:CmpOp}{r j:R2}(J:OpR X (compareOp op) r)(g:OpR X (compareOp f) j)(ha:PE X a ta)(hb:PE X b tb)(K:PE X c tc)(hm:lastMarks [op,f] [b,c]=false:=by with_unfolding_all rfl):PE X (.Compare a [op,f] [b,c] pos) (g6 r j ta tb tc):=by
  intro pins s σ H Q I h
  refine Compare_chain (thn (ha pins s σ H _ I h) λv A ⟨x,R,N,D,G⟩=>chain_link (thn (hb pins A σ R _ N G) λu w ⟨y,P,M,i,F⟩ =>
    thn (J pins w σ P x y v u _ M D i F) λd t ⟨z,n,m,C,k,e,l⟩=>?_)) hm
  subst e;cases C;refine YQ ?_
  cases k with
  | false=>exact ite_ff ⟨.bl false,n,m,rfl,l⟩
  | true=>exact ite_tt (chain_last (thn (K pins t σ n _ m l) λp q ⟨o,O,L,B,E⟩=>g pins q σ O y o u p Q L i B E))
theorem rY:(sizeLine:Nat)<2 ^ 63:=by rw[JM];decide
theorem oW:OpR X (binaryOp .Add) (λx y H Q=>∃ i j,x=.str i/\y=.str j/\i.length+j.length<=sizeLine/\Q (.str (i++j)) H):=by
  intro pins s σ H x y v u Q I c b h;obtain⟨i,j,rfl,rfl,d,q⟩:=h;obtain⟨t,rfl⟩:=c;obtain⟨a,rfl⟩:=b;exact add_str (λa e=>⟨.str (i++j),H,I.tok _,⟨_,rfl⟩,q⟩) d
theorem vz {x:V}{us:List Value}(r:Vals [x] us):∃ u,us=[u]/\RelV x u:=by
  cases r with
  | cons b a=>cases a;exact⟨_,rfl,b⟩
theorem li {x y:V}{us:List Value}(r:Vals [x,y] us):∃ u a,us=[u,a]/\RelV x u/\RelV y a:=by
  cases r with
  | cons e d =>
    cases d with
    | cons c b=>cases b;exact⟨_,_,rfl,e,c⟩
theorem pN:CallR X (.builtin "abs") (λxs H Q=>∃ i,xs=[.int i]/\Q (.int (if i<0 then -i else i)) H):=by
  intro pins s σ H xs a Q I r h;obtain⟨i,rfl,q⟩:=h;obtain⟨u,rfl,t,rfl⟩:=vz r;exact call_abs_int λu b=>⟨.int (if i<0 then -i else i),H,I.tok _,⟨_,rfl⟩,q⟩
theorem vU (b:X.calm=true):CallR X (.builtin "max") (λxs H Q=>∃ i j,xs=[.int i,.int j]/\Q (.int (if j > i then j else i)) H):=by
  intro pins s σ H xs d Q I r h;obtain⟨i,j,rfl,q⟩:=h;obtain⟨u,c,rfl,⟨t,rfl⟩,⟨f,rfl⟩⟩:=li r;refine max_two_ints (I.ok.hd b) λg e k=>⟨_,H,I.kept k,?_,q⟩;by_cases a:j > i
  · rw[Jp a,Jp a];exact⟨_,rfl⟩
  · rw[Jf a,Jf a];exact⟨_,rfl⟩
theorem lW (b:X.calm=true):CallR X (.builtin "min") (λxs H Q=>∃ i j,xs=[.int i,.int j]/\Q (.int (if j<i then j else i)) H):=by
  intro pins s σ H xs d Q I r h;obtain⟨i,j,rfl,q⟩:=h;obtain⟨u,c,rfl,⟨t,rfl⟩,⟨f,rfl⟩⟩:=li r;refine min_two_ints (I.ok.hd b) λg e k=>⟨_,H,I.kept k,?_,q⟩;by_cases a:j<i
  · rw[Jp a,Jp a];exact⟨_,rfl⟩
  · rw[Jf a,Jf a];exact⟨_,rfl⟩
theorem sP:CallR X (.type "int") (λxs H Q=>(∃ i,xs=[.int i]/\Q (.int i) H)\/∃ k,xs=[.bl k]/\Q (.int (if k then 1 else 0)) H):=by
  intro pins s σ H xs b Q I r h;rcases h with ⟨i,rfl,q⟩|⟨k,rfl,q⟩
  · obtain⟨u,rfl,t,rfl⟩:=vz r
    exact call_int_int ⟨.int i,H,I,⟨_,rfl⟩,q⟩
  · obtain⟨u,rfl,a⟩:=vz r
    cases a;exact call_int_bool ⟨.int (if k then 1 else 0),H,I.tok _,⟨_,rfl⟩,q⟩
end
structure ObjM (h:Heap) (x dx C:Addr) (mA:Str->Option Value):Prop where
  obj:h.get? x=some (PySem.W.instObj C dx)
  ns:h.Ns1 dx mA
  ne:dx≠x
theorem lC {h:Heap}{dx:Addr}{mA:Str->Option Value}(n:h.Ns1 dx mA):∃ od,h.get? dx=some od/\∀ name,PySem.W.lookIn name od=some (mA name):=by
  obtain⟨o,c,l,f,j,i,_,g⟩:=n;refine⟨o,f,λname=>?_⟩;have e:=g name;unfold nsFind findBy at e;rw[<- Array.find?_toList]at e;unfold PySem.W.lookIn;rw[j];dsimp only;split
  · rename_i y q
    rw[q]at e;exact JV some e
  · rename_i q
    rw[q]at e
    have a:c.toList.any (·.refKey)=false:=by
      rw[List.any_eq_false];intro y d;obtain⟨z,t,b⟩:=i y (Array.mem_toList_iff.mp d);simp[DictEntry.refKey,b]
    have k:¬ c.toList.any (·.refKey)=true:=by rw[a];exact Jn
    rw[Jf k];exact JV some e
theorem ObjM.look {h:Heap}{x dx C:Addr}{mA:Str->Option Value}(I:ObjM h x dx C mA):∃ od,PySem.W.InstAt h x (PySem.W.instObj C dx) C (some od)/\∀ name,PySem.W.lookIn name od=some (mA name) :=
  let ⟨od,a,b⟩:=lC I.ns
  ⟨od,⟨I.obj,rfl,rfl,a⟩,b⟩
section
variable {P:Program}{w:World}{H:Hp}{h:Heap}{a C dx:Addr}{fs:List (Str × V)}
theorem gU (hok:HOk P w H h)(e:H a=some (.ins C dx fs)):∃ mA,ObjM h a dx C mA/\(∀ f,RelO (fs.lookup f) (mA f))/\PySem.Within mA (fs.map (·.1))/\fs.length<=1000/\H dx=some (.own a):=by
  obtain⟨d,z,ne,ob,mA,n,r,q⟩:=(show ObjOk P w H h a (.ins C dx fs) from hok a _ e);exact⟨mA,⟨ob,n,ne⟩,r,q,z,d⟩
end
structure Cls (K:PySem.W.Frag) (C:Addr):Prop where
  pg:PySem.W.plainGet K C Str.empty=true
  hd:PySem.W.hasDictIn K C=true
  po:PySem.W.plainOver K C=true
  sa:PySem.W.findIn K (.ref C) "__setattr__" = some (some (.builtin "object.__setattr__"))
theorem Cls.get {K:PySem.W.Frag}{C:Addr}(c:Cls K C)(f:Str):PySem.W.plainGet K C f=true:=c.pg
section
variable {X:Cx}{pins:List (Addr × Obj)}{σ:St}{H:Hp}{s:Shared}{A:Around}{E:Value->Shared->Prop}{Q:Value->Shared->Prop}{c:Value}{b:Bool}
inductive TyOf (K:PySem.W.Frag) (H:Hp):V->Value->Prop where
  | non:TyOf K H .non (.type "NoneType")
  | bl (x:Bool):TyOf K H (.bl x) (.type "bool")
  | int (i:Int):TyOf K H (.int i) (.type "int")
  | str (x:Str):TyOf K H (.str x) (.type "str")
  | flt (x:UInt64):TyOf K H (.flt x) (.type "float")
  | lst {a:Addr}{xs:List V}(e:H a=some (.lst xs)):TyOf K H (.ref a) (.type "list")
  | frz {a:Addr}{o:Obj}{xs:List V}(e:H a=some (.frz o (.lst xs))):TyOf K H (.ref a) (.type "list")
  | tup {a:Addr}{xs:List V}(e:H a=some (.tup xs)):TyOf K H (.ref a) (.type "tuple")
  | dK {a:Addr}{kvs:List (Key × V)}(e:H a=some (.dK kvs)):TyOf K H (.ref a) (.type "dict")
  | dT {a:Addr}{kvs:List (List Key × V)}(e:H a=some (.dT kvs)):TyOf K H (.ref a) (.type "dict")
  | ins {a C dx:Addr}{fs:List (Str × V)}(e:H a=some (.ins C dx fs)) (cl:Cls K C) (ha:PySem.W.findIn K (.ref C) "__class__" = some (some (.builtin "object.__class__")))
      (hn:PySem.W.specialIn K (.builtin "object.__class__") "__get__" = some (some (.builtin "getset_descriptor.__get__"))) (htk:PySem.W.takesIn K (.builtin "object.__class__")=some true)
      (hm:PySem.W.mroIn K C (.type "object")=some true):TyOf K H (.ref a) (.ref C)
theorem sI {x:V}{u t:Value}(I:Inv X pins σ H s)(d:RelV x u)(ty:TyOf X.K H x t)(e:PySem.W.kitOne X.K t c=some b)(h:∀ tk,Q (.bool b) { s with toks:=tk }) :
    wpAny (model X.prog X.w) A (call (.builtin "isinstance") [u,c]) Q E s:=by
  cases ty with
  | non=>cases (show u=Value.none from d);exact Yx PySem.W.kitx_none I.kIn True.intro e (λz=>nomatch z) h
  | bl y=>cases (show u=Value.bool y from d);exact Yx PySem.W.kitx_bool I.kIn True.intro e (λz=>nomatch z) h
  | int i=>obtain⟨t,q⟩:=(show ∃ t,u=Value.int i t from d);cases q;exact Yx PySem.W.kitx_int I.kIn True.intro e (λz=>nomatch z) h
  | str y=>obtain⟨t,q⟩:=(show ∃ t,u=Value.str y t from d);cases q;exact Yx PySem.W.kitx_str I.kIn True.intro e (λz=>nomatch z) h
  | flt y=>obtain⟨t,q⟩:=(show ∃ t,u=Value.float y t from d);cases q;exact Yx PySem.W.kitx_float I.kIn True.intro e (λz=>nomatch z) h
  | @lst a k f =>
    cases (show u=Value.ref a from d);obtain⟨_,_,n,_,g⟩:=(show ObjOk X.prog X.w H s.heap a (.lst k) from I.hok a _ f)
    exact Yx PySem.W.kitx_list I.kIn ⟨_,g,rfl⟩ e (λz=>nomatch z) h
  | @frz a ob k f =>
    cases (show u=Value.ref a from d);obtain⟨_,_,_,n,_,g⟩:=(show ObjOk X.prog X.w H s.heap a (.frz ob (.lst k)) from I.hok a _ f)
    exact Yx PySem.W.kitx_list I.kIn ⟨_,g,rfl⟩ e (λz=>nomatch z) h
  | @tup a k f =>
    cases (show u=Value.ref a from d);obtain⟨_,_,_,r⟩:=(show ObjOk X.prog X.w H s.heap a (.tup k) from I.hok a _ f);have p:=r.tup;obtain⟨o,g,l,_⟩:=p
    exact Yx PySem.W.kitx_tuple I.kIn ⟨o,g,l⟩ e (λz=>nomatch z) h
  | @dK a j f =>
    cases (show u=Value.ref a from d);obtain⟨_,_,G,_,p⟩:=(show ObjOk X.prog X.w H s.heap a (.dK j) from I.hok a _ f);obtain⟨o,D,F,g,l,_⟩:=p
    exact Yx PySem.W.kitx_dict I.kIn ⟨o,g,l.1⟩ e (λz=>nomatch z) h
  | @dT a j f =>
    cases (show u=Value.ref a from d);obtain⟨_,_,k,_,o,D,F,g,l,_⟩:=(show ObjOk X.prog X.w H s.heap a (.dT j) from I.hok a _ f)
    exact Yx PySem.W.kitx_dict I.kIn ⟨o,g,l.1⟩ e (λz=>nomatch z) h
  | @ins a C M fs f cl B v m w =>
    cases (show u=Value.ref a from d);obtain⟨L,O,_⟩:=gU I.hok f;obtain⟨K,J,_⟩:=O.look;exact Yx (PySem.W.kitx_own (cl.get _) cl.hd B v m w) I.kIn J e (λz=>nomatch z) h
end
structure Room (k:Nat) (A:Around):Prop where
  hd:A.handled=none
  dp:A.depth+3*k+5<recursionLimit
  un:A.units+16*k+200<cLine
  gd:A.guards=some []
theorem Room.mono {j k:Nat}{A:Around}(r:Room k A)(h:j<=k):Room j A:=⟨r.hd,by have:=r.dp;omega,by have:=r.un;omega,r.gd⟩
theorem Room.deeper {k:Nat}{A:Around}(r:Room (k+1) A)(env:Env):Room k (A.deeper env) :=
  ⟨r.hd,by have:=r.dp;show A.depth+1+3*k+5<_;omega,by have:=r.un;show A.units+3+16*k+200<_;omega,r.gd⟩
theorem Room.depth {k:Nat}{A:Around}(r:Room k A):A.depth<recursionLimit:=by have:=r.dp;omega
theorem Room.units {k:Nat}{A:Around}(r:Room k A):A.units+64<cLine:=by have:=r.un;omega
theorem Room.units0 {k:Nat}{A:Around}(r:Room k A):A.units<cLine:=by have:=r.un;omega
def dw:TA:=λ_ H Q=>Q [] H
def cE (c:TE)(b:TA):TA:=λσ H Q=>c σ H λx e=>b σ e λa d=>Q (x::a) d
section
variable {X:Cx}{e:Expr}{es:List Expr}{te:TE}{t:TA}{pos:Pos}
theorem zC:PA X [] dw:=λ_ _ _ _ H Q I h=>Calls.spliced_nil ⟨[],H,I,.nil,h⟩
theorem zA (ha:PE X e te)(j:PA X es t)(i:starEach (e::es) X.env=(false,eval e X.env)::starEach es X.env:=by rfl):PA X (e::es) (cE te t):=by
  intro pos pins s σ H Q I h;rw[i];show wpAny _ _ (spliced ((false,eval e X.env)::backTo pos (starEach es X.env))) _ _ s;refine Calls.spliced_cons (thn (ha pins s σ H _ I h) λu b ⟨x,n,l,d,g⟩=>?_);exact thn (j pos pins b σ n _ l g) λo p ⟨a,m,k,c,f⟩=>⟨x::a,m,k,.cons d c,f⟩
def bJ (t:TA):TE:=λσ H Q=>t σ H λa b=>a.length<=sizeLine/\∀ p,b p=none->Q (.ref p) (upd b p (.tup a))
def bN (t:TA):TE:=λσ H Q=>t σ H λa b=>a.length<=sizeLine/\∀ p,b p=none->Q (.ref p) (upd b p (.lst a))
theorem zU {x1}(h:PA X es t):PE X (.Tuple es x1 pos) (bJ t):=by
  intro pins s σ H Q I i;refine wpAny_Tuple_spliced (thn (h pos pins s σ H _ I i) λg a ⟨f,d,c,r,z,q⟩=>⟨by rw[<- r.length];exact z,?_⟩);have j:d a.heap.objs.size=none:=c.hok.fresh (Je _);refine⟨.ref a.heap.objs.size,upd d a.heap.objs.size (.tup f),c.laid (t':=a.toks) (λb u e=>J6 _ e) (Je _) ?_,rfl,q _ j⟩;exact⟨z,g,r,TupX.new _ _⟩
theorem yO (h:PA X es t):PE X (.List es pos) (bN t):=by
  intro pins s σ H Q I i;refine wpAny_List_spliced (thn (h pos pins s σ H _ I i) λg a ⟨f,d,c,r,z,q⟩=>⟨by rw[<- r.length];exact z,?_⟩);have j:d a.heap.objs.size=none:=c.hok.fresh (Je _);refine⟨.ref a.heap.objs.size,upd d a.heap.objs.size (.lst f),c.laid (t':=a.toks) (λb u e=>J6 _ e) (Je _) ?_,rfl,q _ j⟩;exact⟨z,g,0,r,JA _ rfl⟩
end
abbrev Sp:=List V->Hp->VK->XK->Prop
abbrev CXT:=List Env->Hp->Shared->XK->Value->Shared->Prop
structure Env0 (P:Program) (w:World) (K:PySem.W.Frag) (mg:Str->Option Value) (base:Heap) (A:Around) (outer:List Env) (s:Shared) (H:Hp):Prop where
  frames:A.frames=some outer
  mod:Mod K mg base
  bs:∀ b o,base.get? b=some o->s.heap.get? b=some o/\H b=none
  bsz:base.objs.size<=s.heap.objs.size
  funs:s.heap.FunFrames base outer
  frf:∀ b∈frs outer,H b=none
  hok:HOk P w H s.heap
  bare:AllBare s.gens
def CE (outer:List Env)(P:Program)(w:World)(H:Hp)(s:Shared)(Q:VK)(u:Value)(a:Shared):Prop :=
  ∃ v b,a.os=s.os/\AllBare a.gens/\Un (frs outer) [] H b s.heap a.heap/\HOk P w b a.heap/\RelV v u/\Q v b
def CR (CX:CXT)(outer:List Env)(P:Program)(w:World)(H:Hp)(s:Shared)(Q:VK)(E:XK)(r:Result)(a:Shared):Prop :=
  match r with
  | .ok (.ret u)=>CE outer P w H s Q u a
  | .ok _=>False
  | .error e=>CX outer H s E e a
structure FnOk (P:Program) (w:World) (K:PySem.W.Frag) (mg:Str->Option Value) (base:Heap) (CX:CXT) (k:Nat) (f:Addr) (fd:FuncData) (ps:List Str) (sp:Sp):Prop where
  len:∀ vs H Q E,sp vs H Q E->vs.length=ps.length
  run:∀ (A:Around) (outer:List Env) (s:Shared) (H:Hp) (args:Args) (us:List Value) (vs:List V) (Q:VK) (E:XK),Room k A->Env0 P w K mg base A outer s H->BindsTo s fd args (ps.zip us)->Vals vs us->sp vs H Q E ->
    codeAny (model P w) A (.call (.ref f) args) (CR CX outer P w H s Q E) s
theorem FnOk.mono {P:Program}{w:World}{K:PySem.W.Frag}{mg:Str->Option Value}{base:Heap}{CX:CXT}{j k:Nat}{f:Addr}{fd:FuncData}{ps:List Str}{sp:Sp}(F:FnOk P w K mg base CX j f fd ps sp)(h:j<=k) :
    FnOk P w K mg base CX k f fd ps sp:=⟨F.len,λA outer s H args b a Q E c=>F.run A outer s H args b a Q E (c.mono h)⟩
theorem FnOk.imp {P:Program}{w:World}{K:PySem.W.Frag}{mg:Str->Option Value}{base:Heap}{CX:CXT}{k:Nat}{f:Addr}{fd:FuncData}{ps:List Str}{sp a:Sp}(F:FnOk P w K mg base CX k f fd ps sp)(h:∀ vs H Q E,a vs H Q E->sp vs H Q E):FnOk P w K mg base CX k f fd ps a :=
  ⟨λvs H Q E q=>F.len vs H Q E (h _ _ _ _ q),λA outer s H args b vs Q E e g i c d=>F.run A outer s H args b vs Q E e g i c (h _ _ _ _ d)⟩
section
variable {X:Cx}{pins:List (Addr × Obj)}{σ:St}{H:Hp}{s s':Shared}
theorem Inv.env0 (I:Inv X pins σ H s):Env0 X.prog X.w X.K X.mg X.base X.A X.stack s H :=
  ⟨I.ok.frames,I.ok.mod,I.bs,JR I.ok.bsz I.sz,I.stack,I.stkFree,I.hok,I.bare⟩
theorem Inv.after {Q:VK}{u:Value}(I:Inv X pins σ H s)(h:CE X.stack X.prog X.w H s Q u s'):EP X pins σ Q u s':=by
  obtain⟨v,f,os,bare,un,c,r,q⟩:=h;obtain⟨e,g,d,t,a⟩:=s';obtain rfl:a=s.os:=os;exact⟨v,f,I.call (h':=e) (g':=g) (d':=d) (t':=t) (ch:=[]) un c bare (λb z=>absurd z (by simp)),r,q⟩
end
def cF (sp:Sp)(a:List V)(E:XK)(t:TA):TE:=λσ H Q=>t σ H λb c=>sp (b++a) c Q E
def Binds (K:PySem.W.Frag)(fd:FuncData)(ps:List Str)(ds:List Value):Prop :=
  ∀ (s:Shared) (a:List Value),K.In s.heap->(a++ds).length=ps.length->BindsTo s fd ⟨a,[]⟩ (ps.zip (a++ds))
theorem Binds.all {K:PySem.W.Frag}{fd:FuncData}{ps:List Str}(h:∀ us:List Value,us.length=ps.length->bindArgs fd ⟨us,[]⟩=pure (ps.zip us)):Binds K fd ps []:=λs us _ a=>by
  rw[Yi]at a ⊢;exact .of_eq (h us a)
def Passes (CX:CXT)(X:Cx)(E:XK):Prop:=∀ (pins:List (Addr × Obj)) (σ:St) (H:Hp) (s:Shared) (e:Value) (a:Shared),Inv X pins σ H s->CX X.stack H s E e a->X.xe e a
section
variable {X:Cx}{CX:CXT}{k:Nat}{f:Addr}{fd:FuncData}{ps:List Str}{sp:Sp}{dvs:List V}{ds:List Value}{E:XK}{x:Str}{p pos:Pos}{e:Expr}{es:List Expr}{t:TA}
theorem fb {pins:List (Addr × Obj)}{σ:St}{H:Hp}{s:Shared}{Q:VK}{us:List Value}{vs:List V}(F:FnOk X.prog X.w X.K X.mg X.base CX k f fd ps sp)(g:Room k X.A)(hb:Binds X.K fd ps ds)(hd:Vals dvs ds)(d:Passes CX X E)(I:Inv X pins σ H s)(r:Vals vs us)(h:sp (vs++dvs) H Q E):wpAny (model X.prog X.w) X.A (call (.ref f) us) (EP X pins σ Q) X.xe s:=by
  have b:Vals (vs++dvs) (us++ds):=r.append hd;have i:(us++ds).length=ps.length:=by rw[<- b.length];exact F.len _ _ _ _ h
  refine wpAny_call (codeAny_mono (F.run X.A X.stack s H ⟨us,[]⟩ (us++ds) (vs++dvs) Q E g I.env0 (hb s us I.kIn i) b h) λr c a=>?_)
  cases r with
  | error e=>exact d pins σ H s e c I a
  | ok j =>
    cases j with
    | ret u=>exact I.after a
    | next=>exact False.elim a
    | brk=>exact False.elim a
    | cont=>exact False.elim a
theorem zL (F:FnOk X.prog X.w X.K X.mg X.base CX k f fd ps sp) (g:Room k X.A) (j:Gl X x) (hm:X.mg x=some (.ref f)) (i:PySem.W.keepIn X.K (.ref f)=true) (hb:Binds X.K fd ps ds) (hd:Vals dvs ds) (d:Passes CX X E)
    (ha:PA X (e::es) t) (b:(x == ("__debug__":Str))=false:=by decide) (l:starEach (e::es) X.env=(false,eval e X.env)::starEach es X.env:=by rfl) (a:(backTo pos (starEach es X.env)).any (·.1)=false:=by rfl) :
    PE X (.Call (.Name x p) (e::es) [] pos) (cF sp dvs E t):=by
  intro pins s σ H Q I h;refine YV (rZ I j hm ?_ b);refine PySem.W.callWith_K (h₀:=X.base) I.ok.mod.kin i (thn (ha pos pins s σ H _ I h) λn o ⟨m,u,c,r,q⟩=>⟨c.kIn,?_⟩) l a;exact fb F g hb hd d c r q
end
structure FnScope (N P:List Str) (sc:Scope):Prop where
  kind:sc.kind=.function
  co:sc.isCoroutine=false
  gen:sc.isGenerator=false
  nd:N.Nodup
  pre:N.take P.length=P
  par:∀ x∈P,sc.names.lookup x=some .local \/ sc.names.lookup x=some .cell
  nofree:∀ y∈sc.names,y.2≠.free
theorem sR {kindOf:Str->Option NameKind}{x:Str}:∀ {binds:List (Str × Value)}{m:Str->Option Value},(∀ v,(x,v)∉binds)->bindL kindOf binds m x=m x
  | [],_,_=>rfl
  | (n,v)::r,m,h=>by
    unfold bindL;rw[sR λw a=>h w (JE _ a)];split
    · have:x≠n:=by rintro rfl;exact h v JH
      simp[this]
    · rfl
theorem sU {kindOf:Str->Option NameKind}{x:Str}:∀ {binds:List (Str × Value)}{m:Str->Option Value},(∀ v,(x,v)∉binds)->bindC kindOf binds m x=m x
  | [],_,_=>rfl
  | (n,v)::r,m,h=>by
    unfold bindC;rw[sU λw a=>h w (JE _ a)];split
    · rfl
    · have:x≠n:=by rintro rfl;exact h v JH
      simp[this]
theorem sS {kindOf:Str->Option NameKind}{x:Str}{v:Value}:∀ {P:List Str}{vs:List Value}{i:Nat}{m:Str->Option Value},P.Nodup->P[i]?=some x->vs[i]?=some v->kindOf x=some .local ->
    bindL kindOf (P.zip vs) m x=some v
  | [],_,_,_,_,h,_,_=>by simp at h
  | _::_,[],_,_,_,_,h,_=>by simp at h
  | p::P,w::vs,0,m,nd,b,a,c=>by
    simp at b a;subst b;subst a;show bindL kindOf ((p,w)::P.zip vs) m p=_;unfold bindL;rw[sR λv d=>(JP.mp nd).1 (List.of_mem_zip d).1,Jp c]
    simp
  | p::P,w::vs,i+1,m,nd,b,a,c=>by
    show bindL kindOf ((p,w)::P.zip vs) m x=_;unfold bindL;exact sS (i:=i) (JP.mp nd).2 (by simpa using b) (by simpa using a) c
theorem sV {kindOf:Str->Option NameKind}{x:Str}{v:Value}:∀ {P:List Str}{vs:List Value}{i:Nat}{m:Str->Option Value},P.Nodup->P[i]?=some x->vs[i]?=some v->kindOf x≠some .local ->
    bindC kindOf (P.zip vs) m x=some v
  | [],_,_,_,_,h,_,_=>by simp at h
  | _::_,[],_,_,_,_,h,_=>by simp at h
  | p::P,w::vs,0,m,nd,b,a,c=>by
    simp at b a;subst b;subst a;show bindC kindOf ((p,w)::P.zip vs) m p=_;unfold bindC;rw[sU λv d=>(JP.mp nd).1 (List.of_mem_zip d).1,Jf c]
    simp
  | p::P,w::vs,i+1,m,nd,b,a,c=>by
    show bindC kindOf ((p,w)::P.zip vs) m x=_;unfold bindC;exact sV (i:=i) (JP.mp nd).2 (by simpa using b) (by simpa using a) c
def wT (N:List Str)(vs:List V):St:=vs.map some++List.replicate (N.length-vs.length) none
def nC (CX:CXT)(P:Program)(w:World)(K:PySem.W.Frag)(mg:Str->Option Value)(base:Heap)(N:List Str)(qual:Str)(scope:Scope)(f:Addr)(cd:Value)(A:Around)(outer:List Env)(s:Shared)(H:Hp)(E:XK):Cx where
  prog:=P
  w:=w
  K:=K
  mg:=mg
  base:=base
  A:=A.deeper (envOfC qual scope s.heap.objs.size f cd)
  N:=N
  s₀:=s
  H₀:=H
  env:=envOfC qual scope s.heap.objs.size f cd
  outer:=outer
  stack:=envOfC qual scope s.heap.objs.size f cd::outer
  ex:=[]
  calm:=true
  fn:=λ_=>true
  pn:=[]
  xe:=λe b=>wpAny (model P w) (A.deeper (envOfC qual scope s.heap.objs.size f cd)) (leaving (envOfC qual scope s.heap.objs.size f cd) e) (λ_ a=>CX outer H s E e a) (λc a=>CX outer H s E c a) b
theorem pM {sc:Scope}{n:Nat}{x:Str}(h:sc.names.lookup x=some .cell):∃ c,(cellsFrom n sc.names []).lookup x=some c:=by
  have q:=PySem.W.cellsFrom_some sc.names n [] (.inl h);exact Option.isSome_iff_exists.mp q
theorem lM {CX:CXT}{P:Program}{w:World}{K:PySem.W.Frag}{mg:Str->Option Value}{base:Heap}{N ps:List Str}{qual:Str}{scope:Scope}{f:Addr}{cd:Value}{A:Around}{outer:List Env}{s s1:Shared}{H:Hp}{E:XK}{us:List Value}{vs:List V}(S:FnScope N ps scope)(hd:A.handled=none)(g:Env0 P w K mg base A outer s H)(J:vs.length=ps.length)(r:Vals vs us)(x:InCallC s s.heap.objs.size (bindL (envOfC qual scope s.heap.objs.size f cd).kindOf (ps.zip us) λ_=>none) (cellsFrom (s.heap.objs.size+1) scope.names []) (bindC (envOfC qual scope s.heap.objs.size f cd).kindOf (ps.zip us) λ_=>none) s1) :
    Inv (nC CX P w K mg base N qual scope f cd A outer s H E) [] (wT N vs) H s1:=by
  have G:ps.length<=N.length:=by have:=JV List.length S.pre;rw[JC]at this;omega
  obtain⟨t,I,rfl,C⟩:=x.done;have l:∀ b:Addr,b∉(nC CX P w K mg base N qual scope f cd A outer s H E).ex:=λb z=>absurd (show b∈([]:List Addr) from z) (by simp)
  refine⟨⟨g.mod,S.kind,rfl,rfl,Je _,λy z c t d=>?_,λy j=>?_,λy c _ h=>?_,λ_=>hd,Around.frames_deeper g.frames,.inr ⟨rfl,rfl⟩,λb z=>absurd z (l b),g.bs,g.bsz,λb _ _=>l b,λb z=>absurd z (l b),g.funs,g.frf⟩,
    rfl,g.bare,Un.kept C,⟨_,x.toInCall.ns,λi y v t d L=>?_⟩,λy c h=>⟨_,x.cell y c h⟩,g.hok.fresh (Je _),λy c h=>?_,λp m=>absurd (show p∈([]:List (Addr × Obj)) from m) (by simp),g.hok.kept C,?_⟩
  · exact name_of_addr x.apart (Z7 t) (Z7 d)
  · have j:scope.names.lookup y=some .cell\/scope.names.lookup y=some .free:=j
    rcases j with j|j
    · exact pM j
    · exact absurd rfl (S.nofree _ (Z7 j))
  · exact Nat.le_of_lt (x.above y c (Z7 h))
  · have hi:i<vs.length:=by
      unfold wT at d;by_cases hi:i<vs.length
      · exact hi
      · rw[YE (by simpa using hi)]at d
        rw[List.getElem?_replicate]at d;split at d<;>cases d
    have F:vs[i]?=some v:=by
      unfold wT at d;rw[YJ (by simpa using hi),JU]at d
      cases e:vs[i]? with
      | none=>rw[e]at d;cases d
      | some a=>rw[e]at d;cases d;rfl
    obtain⟨u,B,D⟩:=r.get F
    have m:ps[i]?=some y:=by
      rw[<- S.pre,Zk (by omega)];exact t
    have o:ps.Nodup:=by rw[<- S.pre];exact S.nd.sublist (List.take_sublist _ _)
    refine⟨u,D,?_⟩;rcases S.par y (Jz m) with k|k
    · exact .inl ⟨k,sS o m B k⟩
    · obtain⟨c,e⟩:=pM (n:=s.heap.objs.size+1) k
      refine .inr ⟨.inl k,c,e,?_⟩;have q:=x.cell y c e;rw[sV o m B (by show scope.names.lookup y≠_;rw[k];decide)]at q;exact q
  · exact g.hok.fresh (Nat.le_of_lt (x.above y c (Z7 h)))
  · unfold wT
    show _=N.length;rw[Jd,Jg,Zb];omega
theorem gu {CX:CXT}{P:Program}{w:World}{K:PySem.W.Frag}{mg:Str->Option Value}{base:Heap}{k:Nat}{f:Addr}{name qual:Str}{params:Arguments}{body:List Stmt}{scope:Scope}{C kV doc pm cdv ct oc:Value}{an od:Option Addr}{osl:Array (Option Value)}{N ps:List Str}{sp:Sp}(G:K.lookup f=some ⟨oc,od,.func (PySem.W.fnOf name qual params body scope C kV doc pm an cdv ct),osl⟩)(z:PySem.W.codeIn K cdv qual=true)(S:FnScope N ps scope)(len:∀ vs H Q E,sp vs H Q E->vs.length=ps.length)(g:∀ (A:Around) (outer:List Env) (s:Shared) (H:Hp) (vs:List V) (Q:VK) (E:XK),Room k (A.deeper (envOfC qual scope s.heap.objs.size f cdv))->sp vs H Q E ->
      ∃ t,PSs (nC CX P w K mg base N qual scope f cdv A outer s H E) body t/\t { nx:=λ_ c=>Q .non c,rt:=Q } (wT N vs) H) :
    FnOk P w K mg base CX (k+1) f (PySem.W.fnOf name qual params body scope C kV doc pm an cdv ct) ps sp:=by
  refine⟨len,λA outer s H args F vs Q E p i U r j=>?_⟩;have R:=len _ _ _ _ j;have D:K.In s.heap:=i.mod.kin.keeps λb o e=>(i.bs b o e).1;have lim:s.heap.NoLimit:=i.mod.nolimit.keeps λb o e=>(i.bs b o e).1
  have d:∀ y∈ps.zip F,scope.names.lookup y.1=some .local \/ (scope.names.lookup y.1=some .cell/\((cellsFrom (s.heap.objs.size+1) scope.names []).lookup y.1).isSome=true):=λ⟨n,v⟩ L=>by
    rcases S.par n (List.of_mem_zip L).1 with q|q
    · exact .inl q
    · exact .inr ⟨q,PySem.W.cellsFrom_some _ _ _ (.inl q)⟩
  refine codeAny_call_function p.depth (D _ _ G) rfl S.co S.gen rfl (PySem.W.codeRec_of D z) (U _ _ _ _ ?_);refine wpAny_newFunctionEnv_cells S.kind d λenv T B x=>?_;subst T;refine⟨lim.keeps x.toInCall.keep,codeAny_func ?_⟩;obtain⟨t,M,O⟩:=g A outer s H vs Q E (p.deeper _) j;have I:Inv (nC CX P w K mg base N qual scope f cdv A outer s H E) [] (wT N vs) H B:=lM S p.hd i R r x;refine JL (M [] B (wT N vs) H _ I O) (λW l h=>?_) λe l h=>h
  have fin:∀ {a:St}{c:Hp}{v:V}{u:Value},Inv (nC CX P w K mg base N qual scope f cdv A outer s H E) [] a c l->RelV v u->Q v c->CE outer P w H s Q u l :=
    λ{a c v u} J m q=>⟨v,c,J.os,J.bare,J.base,J.hok,m,q⟩
  cases W with
  | ret u =>
    obtain⟨v,a,c,J,m,q⟩:=h
    exact fin J m q
  | next =>
    obtain⟨a,c,J,q⟩:=h
    exact fin (v:=V.non) (u:=Value.none) J rfl q
  | brk =>
    obtain⟨_,_,_,q⟩:=h
    exact False.elim q
  | cont =>
    obtain⟨_,_,_,q⟩:=h;exact False.elim q
section
variable {X:Cx}{x:Str}{p pos:Pos}{e:Expr}{es:List Expr}{t:TA}{id T:String}{r:List V->Hp->VK->Prop}
def tCB (r:List V->Hp->VK->Prop)(t:TA):TE:=λσ H Q=>t σ H λa b=>r a b Q
theorem zP (m:CallR X (.builtin id) r) (k:Gl X x) (hm:X.mg x=none) (j:bootBuiltins x=some (.builtin id)) (ha:PA X (e::es) t) (hn:x≠"__name__":=by decide) (b:(x == ("__debug__":Str))=false:=by decide)
    (l:starEach (e::es) X.env=(false,eval e X.env)::starEach es X.env:=by rfl) (a:(backTo pos (starEach es X.env)).any (·.1)=false:=by rfl):PE X (.Call (.Name x p) (e::es) [] pos) (tCB r t):=by
  intro pins s σ H Q I h;refine YV (xJ I k hm j ?_ hn b);exact PyProof.Rows.callWith_builtin1 (thn (ha pos pins s σ H _ I h) λd f ⟨c,o,n,g,i⟩=>m pins f σ o c d Q n g i) l a
theorem zZ (m:CallR X (.type T) r) (k:Gl X x) (hm:X.mg x=none) (j:bootBuiltins x=some (.type T)) (ha:PA X (e::es) t) (hn:x≠"__name__":=by decide) (b:(x == ("__debug__":Str))=false:=by decide)
    (l:starEach (e::es) X.env=(false,eval e X.env)::starEach es X.env:=by rfl) (a:(backTo pos (starEach es X.env)).any (·.1)=false:=by rfl):PE X (.Call (.Name x p) (e::es) [] pos) (tCB r t):=by
  intro pins s σ H Q I h;refine YV (xJ I k hm j ?_ hn b);exact Yf (thn (ha pos pins s σ H _ I h) λd f ⟨c,o,n,g,i⟩=>m pins f σ o c d Q n g i) l a
end
end L2
namespace HT
open PySem PyProof.Rows
section
variable {prog:Program}{w:World}{A:Around}{E:Value->Shared->Prop}{s:Shared}
theorem cat_tup {t b:Addr}{vs ws:List Value}{Q:Value->Shared->Prop}(u:IsTup s.heap t vs.toArray) (hb:IsTup s.heap b ws.toArray) (m:vs≠[])
    (x:ws=[]->Q (.ref t) s) (v:ws≠[]->Q (.ref s.heap.objs.size) { s with heap:=s.heap.push { cls:=.type "tuple",data:=.seq (vs++ws).toArray } })
    (j:vs.length+ws.length<=sizeLine):wpAny (model prog w) A (binaryOp .Add (.ref t) (.ref b)) Q E s:=by
  obtain⟨⟨cls,q,data,k⟩,i,p,n,o⟩:=id u;obtain⟨⟨r,g,data2,c⟩,a,f,l,d⟩:=id hb;simp only at p o f d;subst p o f d;have e:vs.toArray++ws.toArray=(vs++ws).toArray:=by simp
  by_cases h:ws=[]
  · exact concat_meets ⟨_,i,rfl⟩ ⟨_,a,rfl⟩ noFill_tuple_add seq_tuple_add PySem.F.slot_tuple_add PySem.F.entry_tuple_add (PySem.F.args_tuple_add_2 _ _)
      (tuple_addW1 t b vs.toArray ws.toArray n l q g k c (by simpa using m) (by simp[h])) ⟨i,a,x h⟩
  · refine concat_meets ⟨_,i,rfl⟩ ⟨_,a,rfl⟩ noFill_tuple_add seq_tuple_add PySem.F.slot_tuple_add PySem.F.entry_tuple_add (PySem.F.args_tuple_add_2 _ _)
      (tuple_addW2 t b vs.toArray ws.toArray n l q g k c (by simpa using m) (by simpa using h) (by rw[Jj,Jj];exact j)) ⟨i,a,?_⟩
    rw[e];exact v h
def sIx (n d:Nat):Option Int->Nat
  | none=>d
  | some v=>if v<0 then (v+(n:Int)).toNat else min v.toNat n
theorem sIx_none (n d:Nat):sIx n d none=d:=rfl
theorem sIx_nat (n d k:Nat):sIx n d (some (k:Int))=min k n:=by
  show (if (k:Int)<0 then ((k:Int)+(n:Int)).toNat else min (k:Int).toNat n)=min k n;rw[Jf (by omega),YF]
theorem fX (n d:Nat)(hd:d<=n)(o:Option Int):sIx n d o<=n:=by
  cases o with
  | none=>exact hd
  | some v =>
    show (if v<0 then (v+(n:Int)).toNat else min v.toNat n)<=n;by_cases a:v<0
    · rw[Jp a];omega
    · rw[Jf a];exact Nat.min_le_right _ _
theorem nq (v:Int)(n d:Nat):(if v<0 then max (v+(n:Int)) 0 else min v (n:Int))=((sIx n d (some v):Nat):Int):=by
  show (if v<0 then max (v+(n:Int)) 0 else min v (n:Int))=(((if v<0 then (v+(n:Int)).toNat else min v.toNat n):Nat):Int);by_cases a:v<0
  · simp only[Jp a];omega
  · simp only[Jf a];omega
theorem nD (lo hi:Option Int)(n:Nat):Builtin.Slice.sliceAdjust lo hi 1 (n:Int)=(((sIx n 0 lo:Nat):Int),((sIx n n hi:Nat):Int)):=by
  have a:¬((1:Int)<0):=by omega
  unfold Builtin.Slice.sliceAdjust;simp only[a,YW];refine Prod.ext ?_ ?_
  · cases lo with
    | none=>rfl
    | some v=>exact nq v n 0
  · cases hi with
    | none=>rfl
    | some v=>exact nq v n n
theorem oT (i j:Nat):Builtin.Slice.slicePlaces (i:Int) (j:Int) 1=j-i:=by
  unfold Builtin.Slice.slicePlaces;have a:(1:Int) > 0:=by omega
  simp only[a,Yk,Int.ediv_one];split<;>omega
theorem uJ {v:Value}{o:Option Int}{Q:Option Int->Shared->Prop}(p:IsPart v o)(h:Q o s):wpAny (model prog w) A (Builtin.Slice.slicePartIndex v) Q E s:=by
  cases p with
  | none=>exact ZM h
  | int i t=>exact slicePart_int h
theorem sliceApplied_gen {sl:Addr}{d c:Value}{lo hi:Option Int}{n:Nat}{Q:Int × Int × Nat->Shared->Prop}(f:s.heap.IsSliceOf sl d c .none)(e:IsPart d lo)(pu:IsPart c hi)(h:Q (((sIx n 0 lo:Nat):Int),1,sIx n n hi-sIx n 0 lo) s):wpAny (model prog w) A (Builtin.Slice.sliceApplied (.ref sl) (pure (n:Int))) Q E s:=by
  obtain⟨os,a,g,b⟩:=id f;unfold Builtin.Slice.sliceApplied Builtin.Slice.sliceFields;refine J0 (J0 (Zd a b (x:=d) rfl (J0 (Zd a b (x:=c) rfl (J0 (Zd a b (x:=.none) rfl (J7 ?_)))))));refine J0 (ZM ?_);show wpAny _ _ (if ((1:Int) == 0)=true then _ else _) _ _ s;rw[Jf (by decide)];refine J0 (uJ e (J0 (uJ pu (J0 (J7 ?_)))));show wpAny _ _ (match Builtin.Slice.sliceAdjust lo hi 1 (n:Int) with|(lo,hi)=>pure (lo,(1:Int),Builtin.Slice.slicePlaces lo hi 1)) _ _ s;rw[nD lo hi n];show wpAny _ _ (pure (((sIx n 0 lo:Nat):Int),(1:Int),Builtin.Slice.slicePlaces ((sIx n 0 lo:Nat):Int) ((sIx n n hi:Nat):Int) 1)) _ _ s;rw[oT];exact J7 h
theorem jD (xs:Array Value)(i k:Nat):((List.range k).filterMap λ(m:Nat)=>xs[((i:Int)+(m:Int)*1).toNat]?).toArray=((xs.toList.drop i).take k).toArray:=by
  have e:(λ(m:Nat)=>xs[((i:Int)+(m:Int)*1).toNat]?)=λm=>xs[i+m]?:=by
    funext m
    have:((i:Int)+(m:Int)*1).toNat=i+m:=by omega
    rw[this]
  rw[e];have:=pick_run xs i k;rw[Zr]at this;have e2:((λx=>xs[x]?)∘λx=>i+x)=λm=>xs[i+m]?:=rfl;rw[e2]at this;rw[this]
theorem getItem_tuple_cut {t sl:Addr}{items:Array Value}{i g:Value}{lo hi:Option Int}{Q:Value->Shared->Prop}(b:IsTup s.heap t items) (j:s.heap.IsSliceOf sl i g .none) (k:IsPart i lo) (pu:IsPart g hi)
    (l:¬(sIx items.size 0 lo=0/\sIx items.size items.size hi=items.size))
    (h:Q (.ref s.heap.objs.size) { s with heap:=s.heap.push { cls:=.type "tuple",data:=.seq ((items.toList.drop (sIx items.size 0 lo)).take (sIx items.size items.size hi-sIx items.size 0 lo)).toArray } })
    (n:items.size<=sizeLine):wpAny (model prog w) A (getItem (.ref t) (.ref sl)) Q E s:=by
  have a:sizeOk (.seq ((items.toList.drop (sIx items.size 0 lo)).take (sIx items.size items.size hi-sIx items.size 0 lo)).toArray):=by
    show ((items.toList.drop (sIx items.size 0 lo)).take (sIx items.size items.size hi-sIx items.size 0 lo)).toArray.size<=sizeLine;rw[Jj,JC,Yc,Jt];omega
  have u:sIx items.size items.size hi<=items.size:=fX _ _ (Je _) hi;obtain⟨os,c,e,o⟩:=id j;have f:s.TypeIs (.ref sl) "slice":=⟨os,c,e⟩;unfold getItem
  try with_reducible refine JW ?_
  first|refine J0 (J7 ?_)|skip
  refine J0 (wpAny_sequenceKey b.typeIs (by decide) ?_)
  refine J0 (wpAny_callSpecial?_slot (name:=Str.ofString "__getitem__") b.typeIs Yg
    (Y5 Yg b.typeIs entry_tuple_getitem ?_ (args_tuple_getitem _ _)))
  show wpAny _ _ (Builtin.Tuple.tupleItemsOf (.ref t) >>= _) _ _ s;refine J0 (tupleItemsOf_ b ?_);refine J0 (YG f ?_);rw[Jp (by decide)];refine J0 (sliceApplied_gen j k pu ?_)
  have d:¬((((sIx items.size 0 lo:Nat):Int) == 0 && (1:Int) == 1 && (sIx items.size items.size hi-sIx items.size 0 lo) == items.size)=true):=by
    intro q;rw[YC,YC]at q;have r:((sIx items.size 0 lo:Nat):Int)=0:=eq_of_beq q.1.1;have p:sIx items.size items.size hi-sIx items.size 0 lo=items.size:=eq_of_beq q.2;exact l ⟨by omega,by omega⟩
  show wpAny _ _ (if (((sIx items.size 0 lo:Nat):Int) == 0 && (1:Int) == 1 && (sIx items.size items.size hi-sIx items.size 0 lo) == items.size)=true then _ else _) _ _ s;rw[Jf d,jD]
  first
    | exact J0 (m:=Builtin.Tuple.tupleExact _) (JY (J7 ⟨_,rfl,J7 h⟩) a)
    | exact J0 (m:=Builtin.Tuple.tupleExact _) (JY (J0 (J7 (J7 ⟨_,rfl,J7 h⟩))) a)
    | exact J0 (J0 (m:=Builtin.Tuple.tupleExact _) (JY (J7 (J7 ⟨_,rfl,J7 h⟩)) a))
    | exact J0 (J0 (m:=Builtin.Tuple.tupleExact _) (JY (J7 ⟨_,rfl,J7 h⟩) a))
end
end HT
namespace L2
open PySem PySem.Spec PyProof.Rows
abbrev TO:=St->Hp->(Option Int->Hp->Prop)->Prop
def PO (X:Cx)(e:Option Expr)(t:TO):Prop :=
  ∀ (pins:List (Addr × Obj)) (s:Shared) (σ:St) (H:Hp) (Q:Option Int->Hp->Prop),Inv X pins σ H s->t σ H Q ->
    wpAny (model X.prog X.w) X.A (evalPart e X.env) (λu b=>∃ o a,Inv X pins σ a b/\IsPart u o/\Q o a) X.xe s
def iQ:TO:=λ_ H Q=>Q none H
def du (t:TE):TO:=λσ H Q=>t σ H λx a=>∃ i,x=.int i/\Q (some i) a
section
variable {X:Cx}{e:Expr}{te:TE}{lo hi:Option Expr}{tl th:TO}{pos p2:Pos}
theorem yN:PO X none iQ:=by
  intro pins s σ H Q I h;rw[evalPart_none];exact J7 ⟨none,H,I,.none,h⟩
theorem zx (h:PE X e te):PO X (some e) (du te):=by
  intro pins s σ H Q I c;rw[evalPart_some];refine thn (h pins s σ H _ I c) λu g ⟨x,f,d,a,b⟩=>?_;obtain⟨i,rfl,q⟩:=b;obtain⟨t,rfl⟩:=a;exact⟨some i,f,d,.int i t,q⟩
def SlR (X:Cx)(r:V->Option Int->Option Int->Hp->VK->Prop):Prop :=
  ∀ (pins:List (Addr × Obj)) (s:Shared) (σ:St) (H:Hp) (x:V) (v b a:Value) (lo hi:Option Int) (c:Addr) (Q:VK),Inv X pins σ H s->RelV x v->s.heap.IsSliceOf c b a .none->IsPart b lo->IsPart a hi->r x lo hi H Q ->
    ∃ T id,typeLookup (.type T) "__getitem__" = pure (some (.builtin id))/\s.TypeIs v T/\wpAny (model X.prog X.w) X.A (getItem v (.ref c)) (EP X pins σ Q) X.xe s
def tSl (r:V->Option Int->Option Int->Hp->VK->Prop)(te:TE)(tl th:TO):TE:=λσ H Q=>te σ H λx c=>tl σ c λl b=>th σ b λu a=>r x l u a Q
theorem yI {r:V->Option Int->Option Int->Hp->VK->Prop}(w:SlR X r)(A:PE X e te)(y:PO X lo tl)(p:PO X hi th):PE X (.Subscript e (.Slice lo hi none p2) pos) (tSl r te tl th):=by
  intro pins s σ H Q I h;refine Subscript_ (thn (A pins s σ H _ I h) λv i ⟨x,J,F,j,n⟩=>?_);refine wpAny_Slice (thn (y pins i σ J _ F n) λd g ⟨l,G,E,o,m⟩=>thn (p pins g σ G _ E m) λc a ⟨u,f,D,pu,k⟩=>?_);rw[evalPart_none];refine J7 ?_;have C:Inv X pins σ f { a with heap:=a.heap.push { cls:=.type "slice",data:=.fields #[d,c,.none] } }:=D.kept (t':=a.toks) λb ob q=>J6 _ q;obtain⟨T,id,B,t,z⟩:=w pins { a with heap:=a.heap.push { cls:=.type "slice",data:=.fields #[d,c,.none] } } σ f x v d c l u a.heap.objs.size Q C j (ZN ..) o pu k;show wpAny (model X.prog X.w) X.A (subscriptTail e (.Slice lo hi none p2) v (.ref a.heap.objs.size)) (EP X pins σ Q) X.xe { a with heap:=a.heap.push { cls:=.type "slice",data:=.fields #[d,c,.none] } };exact tail_any (ops:=[.ref a.heap.objs.size,v]) t B z (by with_unfolding_all rfl)
def xU (xs:List V)(lo hi:Option Int):List V:=(xs.drop (HT.sIx xs.length 0 lo)).take (HT.sIx xs.length xs.length hi-HT.sIx xs.length 0 lo)
theorem vc (xs:List V)(lo hi:Option Int):(xU xs lo hi).length<=xs.length:=by
  unfold xU;rw[JC,Yc];omega
def bt (K:PySem.W.Frag):V->Option Int->Option Int->Hp->VK->Prop:=λx lo hi H Q=>∃ a b,x=.ref a/\SqT K H a b /\
  ¬(HT.sIx b.length 0 lo=0/\HT.sIx b.length b.length hi=b.length)/\∀ p,H p=none->Q (.ref p) (upd H p (.tup (xU b lo hi)))
theorem g8:SlR X (bt X.K):=by
  intro pins s σ H x v n m lo hi p Q I g l i pu h;obtain⟨a,c,rfl,j,k,q⟩:=h;cases g;obtain⟨d,r,f,e⟩:=I.tuple j;have hlen:d.toArray.size=c.length:=by rw[Jj];exact r.length.symm
  refine⟨"tuple",_,PyProof.Rows.slot_tuple_getitem.lookup,f.typeIs,?_⟩;refine HT.getItem_tuple_cut f l i pu (by rw[hlen];exact k) ?_ (by rw[hlen];exact e);rw[hlen];refine⟨.ref s.heap.objs.size,_,I.laid (t':=s.toks) (o:=.tup (xU c lo hi)) (λb ob q=>J6 _ q) (Je _) ?_,rfl,q _ (I.hok.fresh (Je _))⟩;exact⟨JR (vc c lo hi) e,_,(r.drop (HT.sIx c.length 0 lo)).take (HT.sIx c.length c.length hi-HT.sIx c.length 0 lo),TupX.new _ _⟩
def cR (K:PySem.W.Frag):R2:=λx y H Q=>∃ a b d c,x=.ref a/\y=.ref b/\SqT K H a d/\SqT K H b c/\d≠[]/\d.length+c.length<=sizeLine /\
  (c=[]->Q (.ref a) H)/\(c≠[]->∀ p,H p=none->Q (.ref p) (upd H p (.tup (d++c))))
theorem Vals.nil_iff {xs:List V}{us:List Value}(r:Vals xs us):us=[]↔xs=[]:=by
  cases r with
  | nil=>simp
  | cons _ _=>simp
theorem iz:OpR X (binaryOp .Add) (cR X.K):=by
  intro pins s σ H x y v u Q I k j h;obtain⟨a,b,i,g,rfl,rfl,t,r,p,e,m,l⟩:=h;cases k;cases j;obtain⟨A,d,n,_⟩:=I.tuple t;obtain⟨f,c,p2,_⟩:=I.tuple r;refine HT.cat_tup n p2 (λz=>p (d.nil_iff.mp z)) (λz=>⟨.ref a,H,I,rfl,m (c.nil_iff.mp z)⟩) (λz=>?_) (by rw[<- d.length,<- c.length];exact e);refine⟨.ref s.heap.objs.size,_,I.laid (t':=s.toks) (o:=.tup (i++g)) (λb ob q=>J6 _ q) (Je _) ?_,rfl,l (λw=>z (c.nil_iff.mpr w)) _ (I.hok.fresh (Je _))⟩;exact⟨by rw[Jd];exact e,_,d.append c,TupX.new _ _⟩
end
def ixN (n:Nat)(i:Int):Option Nat:=if 0<=i then (if i<n then some i.toNat else none) else if -(n:Int)<=i then some (i+n).toNat else none
def atI {α:Type}(xs:List α)(i:Int):Option α:=(ixN xs.length i).bind λj=>xs[j]?
theorem ra {n:Nat}{i:Int}{j:Nat}(h:ixN n i=some j):seqIndex? i n=some j/\j<n/\-(n:Int)<=i/\i<n:=by
  unfold ixN at h;by_cases b:0<=i
  · rw[Jp b]at h
    by_cases a:i<n
    · rw[Jp a]at h
      have e:i.toNat=j:=Jr h;exact⟨by rw[seqIndex_of b a,e],by omega,by omega,a⟩
    · rw[Jf a]at h;cases h
  · rw[Jf b]at h
    by_cases a:-(n:Int)<=i
    · rw[Jp a]at h
      have e:(i+n).toNat=j:=Jr h;exact⟨by rw[seqIndex_neg (by omega) a,e],by omega,a,by omega⟩
    · rw[Jf a]at h;cases h
theorem nr {α:Type}{xs:List α}{i:Int}{v:α}(h:atI xs i=some v):∃ j,seqIndex? i xs.length=some j/\xs[j]?=some v/\j<xs.length/\-(xs.length:Int)<=i/\i<xs.length:=by
  unfold atI at h
  cases e:ixN xs.length i with
  | none=>rw[e]at h;cases h
  | some j =>
    rw[e]at h;obtain⟨d,c,b,a⟩:=ra e;exact⟨j,d,h,c,b,a⟩
theorem yg {α:Type}{xs:List α}{j:Nat}{v:α}(h:xs[j]?=some v):atI xs (j:Int)=some v:=by
  have a:j<xs.length:=(J9.mp h).1
  have e:ixN xs.length (j:Int)=some j:=by
    unfold ixN;rw[Jp (by omega),Jp (by omega)];simp
  unfold atI;rw[e];exact h
theorem iF {α:Type}(xs:List α)(v:α):atI (xs++[v]) (-1)=some v:=by
  have a:(xs++[v]).length=xs.length+1:=by simp
  have e:ixN (xs++[v]).length (-1)=some xs.length:=by
    unfold ixN;rw[a,Jf (by decide),Jp (by omega)]
    congr 1
    omega
  unfold atI;rw[e];show (xs++[v])[xs.length]?=some v;simp
def PlainIx (b:Expr):Prop:=∀ o i,subscripted b false o i=operate [o,i] (getItem o i)
def IxR (X:Cx)(r:R2):Prop :=
  ∀ (value slice:Expr) (pins:List (Addr × Obj)) (s:Shared) (σ:St) (H:Hp) (x y:V) (v u:Value) (Q:VK),Inv X pins σ H s->RelV x v->RelV y u->r x y H Q ->
    subscripted slice false v u=operate [v,u] (getItem v u)->wpAny (model X.prog X.w) X.A (subscriptTail value slice v u) (EP X pins σ Q) X.xe s
def MtR (X:Cx)(id:String)(r:V->List V->Hp->VK->Prop):Prop :=
  ∀ (pins:List (Addr × Obj)) (s:Shared) (σ:St) (H:Hp) (x:V) (a:List V) (v:Value) (b:List Value) (Q:VK),Inv X pins σ H s->RelV x v->Vals a b->r x a H Q ->
    wpAny (model X.prog X.w) X.A (call (.builtin id) (v::b)) (EP X pins σ Q) X.xe s
section
variable {X:Cx}{a b:Expr}{ta tb:TE}{pos:Pos}
theorem zi {r:R2}(g:IxR X r)(ha:PE X a ta)(hb:PE X b tb)(f:PlainIx b):PE X (.Subscript a b pos) (tOp r ta tb):=by
  intro pins s σ H Q I h;exact Subscript_ (dc ha hb I h λv u c x y j i e d q=>g a b pins c σ j x y v u Q i e d q (f _ _))
def aA (K:PySem.W.Frag):R2:=λx y H Q=>∃ p a i v,x=.ref p/\y=.int i/\SqL K H p a/\atI a i=some v/\Q v H
def bz (K:PySem.W.Frag):R2:=λx y H Q=>∃ p a i v,x=.ref p/\y=.int i/\SqT K H p a/\atI a i=some v/\Q v H
theorem yK:IxR X (aA X.K):=by
  intro value slice pins s σ H x y v u Q I n m h f;obtain⟨p,F,i,z,rfl,rfl,o,B,q⟩:=h;cases n;obtain⟨t,rfl⟩:=m;obtain⟨e,r,b,G⟩:=I.list o;obtain⟨j,a,E,K,D,C⟩:=nr B;obtain⟨w,k,d⟩:=r.get E;have A:=r.length;have J:=rY;have fin:EP X pins σ Q w s:=⟨z,H,I,d,q⟩;by_cases g:0<=i
  · have c:i.toNat=j:=by
      rw[seqIndex_of g C]at a;exact Jr a
    exact item_listR b.isList g (by omega) (by rw[c];simpa using k) fin f
  · have c:(i+(e.toArray.size:Int)).toNat=j:=by
      rw[seqIndex_neg (by omega) D]at a;rw[Jj,<- A];exact Jr a
    exact subscriptTail_builtinR (x:=w) b.isList.typeIs slot_list_getitem.lookup
      (wpAny_getItem_list_neg (Q:=λr l=>r=w/\EP X pins σ Q r l) b.isList (by omega) (by rw[Jj]<;>omega) (by omega) (by rw[c];simpa using k) ⟨rfl,fin⟩) f
theorem zy:IxR X (bz X.K):=by
  intro value slice pins s σ H x y v u Q I e d h f;obtain⟨p,B,i,z,rfl,rfl,g,l,q⟩:=h;cases e;obtain⟨t,rfl⟩:=d;obtain⟨A,r,b,C⟩:=I.tuple g;obtain⟨j,n,m,G,F,E⟩:=nr l;obtain⟨w,o,a⟩:=r.get m;have k:=r.length;have D:=rY;have fin:EP X pins σ Q w s:=⟨z,H,I,a,q⟩
  exact subscriptTail_builtinR (x:=w) b.typeIs slot_tuple_getitem.lookup
    (getItem_tuple (j:=j) (Q:=λr c=>r=w/\EP X pins σ Q r c) b (by omega) (by omega) (by rw[Jj,<- k];exact n) (by simpa using o) ⟨rfl,fin⟩) f
theorem oq (its:List Value)(n j:Nat)(u:Value):Obj.mapSeq (·.setIfInBounds j u) { cls:=.type "list",data:=.seq its.toArray n }={ cls:=.type "list",data:=.seq (its.set j u).toArray n }:=by
  simp[Obj.mapSeq]
theorem Inv.lst {pins:List (Addr × Obj)}{σ:St}{H:Hp}{s:Shared}{p:Addr}{xs:List V}(I:Inv X pins σ H s)(h:H p=some (.lst xs)) :
    ∃ (its:List Value) (n:Nat),Vals xs its/\s.heap.get? p=some { cls:=.type "list",data:=.seq its.toArray n }/\xs.length<=sizeLine:=by
  obtain⟨z,its,n,r,e⟩:=I.hok p _ h;exact⟨its,n,r,e,z⟩
theorem Inv.lstUpd {pins:List (Addr × Obj)}{σ:St}{H:Hp}{s:Shared}{p:Addr}{xs ys:List V}{its its':List Value}{n a:Nat}{f:Obj->Obj}(I:Inv X pins σ H s) (h:H p=some (.lst xs))
    (g:s.heap.get? p=some { cls:=.type "list",data:=.seq its.toArray n }) (c:f { cls:=.type "list",data:=.seq its.toArray n }={ cls:=.type "list",data:=.seq its'.toArray a }) (r:Vals ys its') (d:ys.length<=sizeLine) (t:Nat) :
    Inv X pins σ (upd H p (.lst ys)) { s with heap:=s.heap.update p f,toks:=t }:=by
  have e:(s.heap.update p f).get? p=some { cls:=.type "list",data:=.seq its'.toArray a }:=by
    rw[YL f g (by rw[c]<;>rfl),c]
  refine I.write (x:=p) (e:=p) (by rw[h];trivial) (.inl rfl) (λb u i q=>(Yr _ _ (Ne.symm i)).trans q) ⟨_,e⟩ ?_;exact⟨d,its',a,r,e⟩
def cQ:V->V->V->Hp->(Hp->Prop)->Prop:=λo i v H Q=>∃ p a k j,o=.ref p/\i=.int k/\H p=some (.lst a)/\ixN a.length k=some j/\Q (upd H p (.lst (a.set j v)))
theorem xQ:PSet X cQ:=by
  intro pins s σ H o i v D E u Q I z A y h;obtain⟨p,x,k,j,rfl,rfl,f,C,q⟩:=h;cases z;obtain⟨t,rfl⟩:=A;obtain⟨a,n,r,c,B⟩:=I.lst f;obtain⟨b,G,l,g⟩:=ra C;have d:=r.length;have F:=rY
  have w:Inv X pins σ (upd H p (.lst (x.set j v))) { s with heap:=s.heap.update p (Obj.mapSeq (·.setIfInBounds j u)) } :=
    I.lstUpd f c (oq a n j u) (r.set y j) (by rw[List.length_set];exact B) s.toks
  by_cases m:0<=k
  · have e:k.toNat=j:=by
      rw[seqIndex_of m g]at b;exact Jr b
    exact PySem.W.ki_setAt c m (by omega) (by rw[Jj,<- d];exact g) (by rw[e];exact⟨_,w,q⟩)
  · have e:(k+(a.toArray.size:Int)).toNat=j:=by
      rw[seqIndex_neg (by omega) l]at b;rw[Jj,<- d];exact Jr b
    exact PySem.W.ki_setBack c (by omega) (by rw[Jj,<- d];exact l) (by omega) (by rw[e];exact⟨_,w,q⟩)
theorem rA (lo hi:Option Int)(n:Nat):(sliceBounds lo hi none n).1=((HT.sIx n 0 lo:Nat):Int)/\(sliceBounds lo hi none n).2.1=((HT.sIx n n hi:Nat):Int)/\(sliceBounds lo hi none n).2.2=1:=by
  refine⟨?_,?_,rfl⟩
  · cases lo with
    | none=>simp[sliceBounds,HT.sIx]
    | some i =>
      simp only[sliceBounds,HT.sIx,Option.getD_none,show (1:Int) > 0 by decide,Yk];by_cases h:i<0
      · simp only[h,Yk]<;>omega
      · simp only[h,YW]<;>omega
  · cases hi with
    | none=>simp[sliceBounds,HT.sIx]
    | some i =>
      simp only[sliceBounds,HT.sIx,Option.getD_none,show (1:Int) > 0 by decide,Yk];by_cases h:i<0
      · simp only[h,Yk]<;>omega
      · simp only[h,YW]<;>omega
theorem uu (its:List Value)(lo hi:Option Int):slicePick its.toArray lo hi none=((its.drop (HT.sIx its.length 0 lo)).take (HT.sIx its.length its.length hi-HT.sIx its.length 0 lo)).toArray:=by
  obtain⟨c,b,a⟩:=rA lo hi its.toArray.size;unfold slicePick;rw[c,b,a];simp only[sliceRange_one,pick_run,Jj]<;>rfl
def bu (K:PySem.W.Frag):V->Option Int->Option Int->Hp->VK->Prop:=λx lo hi H Q=>∃ a b,x=.ref a/\SqL K H a b/\∀ p,H p=none->Q (.ref p) (upd H p (.lst (xU b lo hi)))
theorem nH:SlR X (bu X.K):=by
  intro pins s σ H x v m l lo hi n Q I e j f pu h;obtain⟨a,c,rfl,i,q⟩:=h;cases e;obtain⟨k,r,d,g⟩:=I.list i;have hlen:=r.length;refine⟨"list",_,slot_list_getitem.lookup,d.isList.typeIs,?_⟩;refine wpAny_getItem_list_slice d.isList j f pu .none (by simp) ?_ (by rw[Jj]<;>omega);rw[uu,<- hlen];refine⟨.ref s.heap.objs.size,_,I.laid (t':=s.toks) (o:=.lst (xU c lo hi)) (λb ob q=>J6 _ q) (Je _) ?_,rfl,q _ (I.hok.fresh (Je _))⟩;exact⟨JR (vc c lo hi) g,_,0,(r.drop (HT.sIx c.length 0 lo)).take (HT.sIx c.length c.length hi-HT.sIx c.length 0 lo),JA _ rfl⟩
def va:V->Bool
  | .non=>true
  | .bl _=>true
  | .int _=>true
  | .str _=>true
  | _=>false
def eqV:V->V->Bool
  | .non,.non=>true
  | .bl a,.bl b=>a == b
  | .bl a,.int b=>(if a then 1 else 0) == b
  | .int a,.bl b=>a == (if b then 1 else 0)
  | .int a,.int b=>a == b
  | .str a,.str b=>a == b
  | _,_=>false
theorem j5 {A:Around}{s:Shared}{y x:V}{u v:Value}(e:RelV y u)(c:RelV x v)(g:va y=true)(f:va x=true):SeqAt.EqAt A s u v (eqV y x):=by
  cases y with
  | non =>
    cases e
    cases x with
    | non=>cases c;exact SeqAt.EqAt.same _
    | bl b=>cases c;exact SeqAt.EqAt.none_bool b
    | int b=>obtain⟨t,rfl⟩:=c;exact SeqAt.EqAt.none_int b t
    | str b=>obtain⟨t,rfl⟩:=c;exact SeqAt.EqAt.none_str b t
    | _=>exact absurd (show false=true from f) Jn
  | bl a =>
    cases e
    cases x with
    | non=>cases c;exact SeqAt.EqAt.bool_none a
    | bl b=>cases c;exact SeqAt.EqAt.bool_bool a b
    | int b=>obtain⟨t,rfl⟩:=c;exact SeqAt.EqAt.bool_int a b t
    | str b=>obtain⟨t,rfl⟩:=c;exact SeqAt.EqAt.bool_str a b t
    | _=>exact absurd (show false=true from f) Jn
  | int a =>
    obtain⟨d,rfl⟩:=e
    cases x with
    | non=>cases c;exact SeqAt.EqAt.int_none a d
    | bl b=>cases c;exact SeqAt.EqAt.int_bool a d b
    | int b=>obtain⟨t,rfl⟩:=c;exact SeqAt.EqAt.int_int a d b t
    | str b=>obtain⟨t,rfl⟩:=c;exact SeqAt.EqAt.int_str a d b t
    | _=>exact absurd (show false=true from f) Jn
  | str a =>
    obtain⟨d,rfl⟩:=e
    cases x with
    | non=>cases c;exact SeqAt.EqAt.str_none a d
    | bl b=>cases c;exact SeqAt.EqAt.str_bool a d b
    | int b=>obtain⟨t,rfl⟩:=c;exact SeqAt.EqAt.str_int a d b t
    | str b=>obtain⟨t,rfl⟩:=c;exact SeqAt.EqAt.str_str a d b t
    | _=>exact absurd (show false=true from f) Jn
  | _=>exact absurd (show false=true from g) Jn
def eqU (x:V)(u:Value):Bool:=match u with
  | .none=>eqV .non x
  | .bool b=>eqV (.bl b) x
  | .int i _=>eqV (.int i) x
  | .str z _=>eqV (.str z) x
  | _=>false
theorem j4 {x y:V}{u:Value}(r:RelV y u)(f:va y=true):eqU x u=eqV y x:=by
  cases y with
  | non=>cases r;rfl
  | bl b=>cases r;rfl
  | int i=>obtain⟨t,rfl⟩:=r;rfl
  | str z=>obtain⟨t,rfl⟩:=r;rfl
  | _=>exact absurd (show false=true from f) Jn
theorem qF {x:V}:∀ {xs:List V}{us:List Value},Vals xs us->xs.all va=true->us.any (eqU x)=xs.any λy=>eqV y x
  | _,_,.nil,_=>rfl
  | y::xs,u::us,.cons r t,f=>by
    rw[List.all_cons,YC]at f;rw[List.any_cons,List.any_cons,j4 r f.1,qF t f.2]
theorem uT {A:Around}{s:Shared}{x:V}{v:Value}(b:RelV x v)(c:va x=true):∀ {xs:List V}{us:List Value},Vals xs us->xs.all va=true->∀ u∈us,SeqAt.EqAt A s u v (eqU x u)
  | _,_,.nil,_=>λu a=>by cases a
  | y::xs,u::us,.cons r t,f=>λd a=>by
    rw[List.all_cons,YC]at f;rcases Ja.mp a with rfl|a
    · rw[j4 r f.1];exact j5 r b f.1 c
    · exact uT b c t f.2 d a
def inV (x:V)(xs:List V):Bool:=xs.any λy=>eqV y x
def rIn (K:PySem.W.Frag)(neg:Bool):R2:=λx y H Q=>∃ p a,y=.ref p/\(SqL K H p a\/SqT K H p a)/\va x=true/\a.all va=true/\Q (.bl (if neg then !inV x a else inV x a)) H
theorem tT:OpR X (compareOp .In) (rIn X.K false):=by
  intro pins s σ H x y v u Q I e g h;obtain⟨p,j,rfl,b,f,fs,q⟩:=h;cases g;rcases b with b|b
  · obtain⟨a,r,c,i⟩:=I.list b
    refine SeqAt.in_listAt (eqU x) c.isList (λw d=>uT e f r fs w (by simpa using d)) ⟨.bl _,H,I,rfl,?_⟩;rw[show a.toArray.any (eqU x)=a.any (eqU x) by simp,qF r fs];exact q
  · obtain⟨a,r,c,i⟩:=I.tuple b
    refine SeqAt.in_tupleAt (eqU x) c (λw d=>uT e f r fs w (by simpa using d)) ⟨.bl _,H,I,rfl,?_⟩;rw[show a.toArray.any (eqU x)=a.any (eqU x) by simp,qF r fs];exact q
theorem zV:CallR X (.builtin "len") (λxs H Q=>∃ p ys,xs=[.ref p]/\(SqL X.K H p ys\/SqT X.K H p ys)/\Q (.int ys.length) H):=by
  intro pins s σ H xs g Q I r h;obtain⟨p,ys,rfl,a,q⟩:=h;obtain⟨u,rfl,e⟩:=vz r;cases e;have i:=rY;rcases a with a|a
  · obtain⟨d,b,c,f⟩:=I.list a
    have hlen:=b.length;exact Calls.call_len_list c.isList (by simp only[Jj]<;>omega) ⟨.int ys.length,H,I.tok _,⟨s.toks+1,by rw[Jj,hlen]⟩,q⟩
  · obtain⟨d,b,c,f⟩:=I.tuple a
    have hlen:=b.length;exact len_tuple c (by simp only[Jj]<;>omega) ⟨.int ys.length,H,I.tok _,⟨s.toks+1,by rw[Jj,hlen]⟩,q⟩
theorem yZ:CallR X (.type "list") (λxs H Q=>∃ p ys,xs=[.ref p]/\(SqL X.K H p ys\/SqT X.K H p ys)/\∀ l,H l=none->Q (.ref l) (upd H l (.lst ys))):=by
  intro pins s σ H xs x Q I r h;obtain⟨p,ys,rfl,i,q⟩:=h;obtain⟨u,rfl,w⟩:=vz r;cases w
  have fin:∀ (a:List Value),Vals ys a->ys.length<=sizeLine->∀ (c:Heap) (f:Nat),(∀ b v,s.heap.get? b=some v->c.get? b=some v) ->
      c.get? s.heap.objs.size=some { cls:=.type "list",dict:=none,data:=.seq a.toArray f,slots:=#[] }->EP X pins σ Q (.ref s.heap.objs.size) { s with heap:=c }:=λa d g c f kp e =>
    ⟨.ref s.heap.objs.size,_,I.laid (t':=s.toks) kp (Je _) (show ObjOk X.prog X.w _ c _ (.lst ys) from⟨g,a,f,d,e⟩),rfl,q _ (I.hok.fresh (Je _))⟩
  rcases i with i|i
  · obtain⟨a,d,j,g⟩:=I.list i
    have hlen:=d.length;obtain⟨o,k,t,n,m⟩:=j.isList;exact call_list_seq p (.inl rfl) k t m (λc f kp e=>fin a d g c f kp e) (by simp only[Jj]<;>omega)
  · obtain⟨a,d,j,g⟩:=I.tuple i
    have hlen:=d.length;obtain⟨o,k,t,n,m⟩:=j;exact call_list_seq p (.inr rfl) k t m (λc f kp e=>fin a d g c f kp e) (by simp only[Jj]<;>omega)
theorem zu:CallR X (.type "tuple") (λxs H Q=>∃ p ys,xs=[.ref p]/\((SqL X.K H p ys/\∀ l,H l=none->Q (.ref l) (upd H l (.tup ys)))\/(SqT X.K H p ys/\Q (.ref p) H))):=by
  intro pins s σ H xs n Q I r h;obtain⟨p,ys,rfl,h⟩:=h;obtain⟨u,rfl,k⟩:=vz r;cases k;rcases h with ⟨g,q⟩|⟨g,q⟩
  · obtain⟨a,d,f,i⟩:=I.list g
    have hlen:=d.length;refine call_tuple_list f.isList (λc kp=>?_) (by simp only[Jj]<;>omega);have j:Inv X pins σ H { s with heap:=c }:=I.kept (t':=s.toks) kp
    have m:Inv X pins σ (upd H c.objs.size (.tup ys)) { s with heap:=c.push { cls:=.type "tuple",data:=.seq a.toArray } } :=
      j.laid (t':=s.toks) (λb o e=>J6 _ e) (Je _) (show ObjOk X.prog X.w _ _ _ (.tup ys) from⟨i,a,d,TupX.new _ _⟩)
    exact⟨.ref c.objs.size,_,m,rfl,q _ (j.hok.fresh (Je _))⟩
  · obtain⟨a,d,f,i⟩:=I.tuple g
    exact call_tuple_same f ⟨.ref p,H,I,rfl,q⟩
def tyV (K:PySem.W.Frag)(T:String)(x:V)(H:Hp):Prop:=match x with
  | .str _=>T = "str"
  | .int _=>T = "int"
  | .ref p=>(T = "list"/\∃ b,SqL K H p b)\/(T = "tuple"/\∃ o,K.lookup p=some o/\o.cls=.type "tuple"/\o.dict=none) \/
      (T = "dict"/\((∃ a,H p=some (.dK a))\/∃ a,H p=some (.dT a)))\/(T = "set"/\∃ S n,H p=some (.set S n))
  | _=>False
theorem lp {pins:List (Addr × Obj)}{σ:St}{H:Hp}{s:Shared}{T:String}{x:V}{v:Value}(I:Inv X pins σ H s)(r:RelV x v)(ty:tyV X.K T x H) :
    s.TypeIs v T/\∀ a,v=.ref a->∃ ob,s.heap.get? a=some ob/\ob.dict=none:=by
  cases x with
  | str z =>
    obtain⟨t,rfl⟩:=r;cases (show T = "str" from ty)
    exact⟨typeIs_str s z t,λ_ e=>nomatch e⟩
  | int i =>
    obtain⟨t,rfl⟩:=r;cases (show T = "int" from ty)
    exact⟨typeIs_int s i t,λ_ e=>nomatch e⟩
  | ref p =>
    cases r;rcases ty with ⟨rfl,l,h⟩|⟨rfl,o,b,j,d⟩|⟨rfl,b⟩|⟨rfl,S,n,b⟩
    · obtain⟨k,_,g,_⟩:=I.list h
      refine⟨g.isList.typeIs,λa e=>?_⟩;cases e;obtain⟨o,n,e,c,d,_⟩:=g;exact⟨o,e,d⟩
    · refine⟨⟨o,I.kIn p o b,j⟩,λa e=>?_⟩
      cases e;exact⟨o,I.kIn _ o b,d⟩
    · have z:∃ o,s.heap.get? p=some o/\o.ExactDict:=by
        rcases b with ⟨f,b⟩|⟨f,b⟩
        · obtain⟨_,_,_,_,o,_,_,e,ex,_⟩:=I.hok p _ b
          exact⟨o,e,ex⟩
        · obtain⟨_,_,_,_,o,_,_,e,ex,_⟩:=I.hok p _ b
          exact⟨o,e,ex⟩
      obtain⟨o,e,ex⟩:=z;refine⟨⟨o,e,ex.1⟩,λa e2=>?_⟩;cases e2;exact⟨o,e,ex.2.1⟩
    · obtain⟨o,_,_,_,e,ex,_⟩:=I.hok p _ b
      refine⟨⟨o,e,ex.1⟩,λa e2=>?_⟩;cases e2
      exact⟨o,e,ex.2.1⟩
  | _=>exact False.elim ty
def bT (K:PySem.W.Frag)(T:String)(r:V->List V->Hp->VK->Prop)(to:TE):TE:=λσ H Q=>to σ H λx a=>tyV K T x a/\r x [] a Q
def tBM (K:PySem.W.Frag)(T:String)(r:V->List V->Hp->VK->Prop)(to:TE)(t:TA):TE:=λσ H Q=>to σ H λx a=>tyV K T x a/\t σ a λb c=>r x b c Q
variable {o e:Expr}{es:List Expr}{to:TE}{t:TA}{name:Str}{apos cpos:Pos}{T id:String}{r:V->List V->Hp->VK->Prop}
theorem fq (i:PlainAttrs T) (slot:Slot T name id) (c:typeOf (.builtin id)=pure (.type "method_descriptor")) (hm:MtR X id r) (j:PE X o to)
    (b:attributeBase o name X.env (eval o X.env)=eval o X.env:=by rfl) (a:(apos.endLine == cpos.line)=true:=by rfl):PE X (.Call (.Attribute o name apos) [] [] cpos) (bT X.K T r to):=by
  intro pins s σ H Q I h;refine wpAny_Call_method0_late b a (thn (j pins s σ H _ I h) λv f ⟨x,m,e,d,ty,g⟩=>?_);obtain⟨l,k⟩:=lp e d ty;exact⟨T,id,i,slot,c,l,k,Calls.callWith_builtin rfl (PySem.evalArgs_none (hm pins f σ m x [] v [] Q e d .nil g))⟩
theorem tR (w:PlainAttrs T) (slot:Slot T name id) (f:typeOf (.builtin id)=pure (.type "method_descriptor")) (hm:MtR X id r) (z:PE X o to) (ha:PA X (e::es) t)
    (c:attributeBase o name X.env (eval o X.env)=eval o X.env:=by rfl)
    (d:((backTo cpos (starEach (e::es) X.env)).all (λx=>!x.1) && (backToKw cpos (keywordEach [] X.env)).all (λx=>x.1.isSome)
      && decide ((e::es).length+([]:List Keyword).length+(if ([]:List Keyword).isEmpty then 0 else 1)<30))=true:=by rfl)
    (b:(apos.endLine == cpos.line)=true:=by rfl) (y:starEach (e::es) X.env=(false,eval e X.env)::starEach es X.env:=by rfl) (a:(backTo cpos (starEach es X.env)).any (·.1)=false:=by rfl) :
    PE X (.Call (.Attribute o name apos) (e::es) [] cpos) (tBM X.K T r to t):=by
  intro pins s σ H Q I h;refine wpAny_Call_method_late c d b rfl (thn (z pins s σ H _ I h) λv n ⟨x,E,j,g,ty,u⟩=>?_);obtain⟨B,A⟩:=lp j g ty;refine⟨T,id,w,slot,f,B,A,?_⟩;have i:=ha cpos pins n σ E _ j u;rw[y]at i ⊢;refine Calls.callWith_builtin (by show (false || (backTo cpos (starEach es X.env)).any (·.1))=false;rw[a]<;>rfl) (Calls.evalArgs_plain ?_);exact thn i λl m ⟨k,D,C,p,q⟩=>hm pins m σ D x k v l Q C g p q
end
def MtM (X:Cx)(id:String)(r:V->List V->Hp->VK->Prop):Prop :=
  ∀ (pins:List (Addr × Obj)) (s:Shared) (σ:St) (H:Hp) (x:V) (a:List V) (v:Value) (b:List Value) (Q:VK),Inv X pins σ H s->RelV x v->Vals a b->r x a H Q ->
    wpAny (model X.prog X.w) X.A (call (.builtin id) (v::b)) (EP X pins σ Q) X.xe s
theorem Vals.one:∀ {x:V}{us:List Value},Vals [x] us->∃ u,us=[u]/\RelV x u
  | _,_,.cons r .nil=>⟨_,rfl,r⟩
theorem Vals.two:∀ {x y:V}{us:List Value},Vals [x,y] us->∃ u v,us=[u,v]/\RelV x u/\RelV y v
  | _,_,_,.cons r (.cons q .nil)=>⟨_,_,rfl,r,q⟩
theorem Vals.zero:∀ {us:List Value},Vals [] us->us=[]
  | _,.nil=>rfl
theorem Vals.dropLast {xs:List V}{us:List Value}(h:Vals xs us):Vals xs.dropLast us.dropLast:=by
  induction h with
  | nil=>exact .nil
  | cons r t ih =>
    cases t with
    | nil=>exact .nil
    | cons q a=>exact .cons r ih
theorem Vals.eraseIdx:∀ {xs:List V}{us:List Value}(i:Nat),Vals xs us->Vals (xs.eraseIdx i) (us.eraseIdx i)
  | _,_,_,.nil=>.nil
  | _,_,0,.cons _ t=>t
  | _,_,i+1,.cons r t=>.cons r (Vals.eraseIdx i t)
theorem Vals.rep {xs:List V}{us:List Value}(h:Vals xs us):∀ k:Nat,Vals (List.replicate k xs).flatten (List.replicate k us).flatten
  | 0=>.nil
  | k+1=>by
    rw[Y9,Y9,ZU,ZU];exact Vals.append h (Vals.rep h k)
theorem o9 {α:Type}(l:List α):l.eraseIdx (l.length-1)=l.dropLast:=by
  induction l with
  | nil=>rfl
  | cons a r ih =>
    cases r with
    | nil=>rfl
    | cons b r =>
      have e:(a::b::r).length-1=((b::r).length-1)+1:=by
        have d:(a::b::r).length=r.length+2:=rfl;have c:(b::r).length=r.length+1:=rfl;omega
      rw[e,List.eraseIdx_cons_succ,ih]
      all_goals rfl
theorem tW {α:Type}:∀ (l:List α) (i:Nat),(l.eraseIdx i).length<=l.length
  | [],_=>Je _
  | _::_,0=>Nat.le_succ _
  | _::r,i+1=>Nat.succ_le_succ (tW r i)
theorem sK (its:List Value):∀ (k:Nat) (acc:List Value),
    List.foldl (λb a=>b++a) acc.toArray (List.replicate k its.toArray)=(acc++(List.replicate k its).flatten).toArray
  | 0,acc=>by simp
  | k+1,acc=>by
    have e:acc.toArray++its.toArray=(acc++its).toArray:=by simp
    have e2:(acc++its)++(List.replicate k its).flatten=acc++(List.replicate (k+1) its).flatten:=by
      rw[Y9,ZU,Y7]
    rw[<- e2,<- sK its k (acc++its),<- e,Y9,Zq]
section
variable {X:Cx}{pins:List (Addr × Obj)}{σ:St}{H:Hp}{s:Shared}{l:Addr}{xs ys:List V}
theorem Inv.lset {its its':List Value}{n:Nat}{f:Array Value->Array Value}{t':Nat}(I:Inv X pins σ H s) (h:H l=some (.lst xs))
    (e:s.heap.get? l=some { cls:=.type "list",data:=.seq its.toArray n }) (d:f its.toArray=its'.toArray) (b:Vals ys its') (a:ys.length<=sizeLine) :
    Inv X pins σ (upd H l (.lst ys)) { s with heap:=s.heap.update l (Obj.mapSeq f),toks:=t' }:=by
  have q:=PySem.IsL.update e f;rw[d]at q;refine I.write (x:=l) (e:=l) (by rw[h];exact trivial) (.inl rfl) (λi u g c=>(Yr s.heap (Obj.mapSeq f) (Ne.symm g)).trans c) ⟨_,q⟩ ?_;exact⟨a,its',_,b,q⟩
theorem Inv.lnew {its:List Value}{t':Nat}(I:Inv X pins σ H s)(a:Vals ys its)(hz:ys.length<=sizeLine) :
    Inv X pins σ (upd H s.heap.objs.size (.lst ys)) { s with heap:=s.heap.push { cls:=.type "list",data:=.seq its.toArray },toks:=t' } :=
  I.laid (λ_ _ q=>J6 _ q) (Je _) ⟨hz,its,0,a,JA _ rfl⟩
theorem Inv.fresh (I:Inv X pins σ H s):H s.heap.objs.size=none:=I.hok.fresh (Je _)
theorem Inv.lstM (I:Inv X pins σ H s)(a:H l=some (.lst xs)):xs.length<=sizeLine/\∃ (its:List Value) (n:Nat),Vals xs its/\xs.length=its.length/\s.heap.get? l=some { cls:=.type "list",data:=.seq its.toArray n }:=by
  obtain⟨z,its,n,r,e⟩:=I.hok l _ a;exact⟨z,its,n,r,r.length,e⟩
theorem jX {n:Nat}(h:n<=sizeLine):Builtin.List.listTooLong n=false:=by
  unfold Builtin.List.listTooLong;exact Jq (by omega)
end
section
variable {X:Cx}
def rAppend:V->List V->Hp->VK->Prop:=λx b H Q=>∃ l a y,x=.ref l/\b=[y]/\H l=some (.lst a)/\a.length<sizeLine/\Q .non (upd H l (.lst (a++[y])))
theorem xB:MtM X "list.append" rAppend:=by
  intro pins s σ H x i v j Q I c d h;obtain⟨l,g,y,rfl,rfl,b,k,q⟩:=h;cases c;obtain⟨u,rfl,f⟩:=d.one;obtain⟨z,a,n,r,m,e⟩:=I.lstM b;refine ZP F.slot_list_append ⟨_,e,rfl⟩ F.entry_list_append (F.args_list_append_2 _ _) (PySem.list_append l a.toArray n u (by rw[Jj];omega)) ⟨e,?_⟩;refine⟨.non,_,I.lset (its':=a++[u]) b e (by simp) (r.append (.cons f .nil)) ?_,rfl,q⟩;rw[Jd,List.length_singleton];omega
def rPop:V->List V->Hp->VK->Prop:=λx b H Q=>∃ l a y,x=.ref l/\b=[]/\H l=some (.lst a)/\a[a.length-1]?=some y/\Q y (upd H l (.lst a.dropLast))
theorem eK:MtM X "list.pop" rPop:=by
  intro pins s σ H x p v t Q I f g h;obtain⟨l,o,y,rfl,rfl,d,j,q⟩:=h;cases f;have c:=g.zero;subst c;obtain⟨z,a,n,r,m,e⟩:=I.lstM d;obtain⟨u,k,i⟩:=r.get j
  have b:a.toArray[a.toArray.size-1]?=some u:=by
    show a.toArray[a.length-1]?=some u;rw[<- Y2,<- m];exact k
  refine ZP F.slot_list_pop ⟨_,e,rfl⟩ F.entry_list_pop (F.args_list_pop_1 _) (MeetsSeq.list_pop_last l a.toArray n u b (by rw[Jj];omega)) ⟨e,?_⟩;refine⟨y,_,I.lset (its':=a.dropLast) d e ?_ r.dropLast ?_,i,q⟩
  · show a.toArray.eraseIdxIfInBounds (a.toArray.size-1)=a.dropLast.toArray
    rw[Jj,List.eraseIdxIfInBounds_toArray,o9]
  · rw[List.length_dropLast]
    omega
def rPopAt:V->List V->Hp->VK->Prop:=λx b H Q=>∃ l a i k y,x=.ref l/\b=[.int i]/\H l=some (.lst a)/\-(2 ^ 63)<=i/\i<2 ^ 63/\seqIndex? i a.length=some k/\a[k]?=some y/\Q y (upd H l (.lst (a.eraseIdx k)))
theorem jb:MtM X "list.pop" rPopAt:=by
  intro pins s σ H x D v E Q I f g h;obtain⟨l,d,i,k,y,rfl,rfl,c,C,B,A,m,q⟩:=h;cases f;obtain⟨u,rfl,j⟩:=g.one;obtain⟨t,rfl⟩:=j;obtain⟨z,a,n,r,p,e⟩:=I.lstM c;obtain⟨w,o,b⟩:=r.get m
  refine ZP F.slot_list_pop ⟨_,e,rfl⟩ F.entry_list_pop (F.args_list_pop_2 _ _)
    (MeetsSeq.list_pop_at l a.toArray n i t k w (fitsIndex_both C B) (by rw[Jj,<- p];exact A) (by rw[<- Y2];exact o) (by rw[Jj];omega)) ⟨e,?_⟩
  refine⟨y,_,I.lset (its':=a.eraseIdx k) c e ?_ (r.eraseIdx k) ?_,b,q⟩
  · show a.toArray.eraseIdxIfInBounds k=(a.eraseIdx k).toArray
    rw[List.eraseIdxIfInBounds_toArray]
  · have:=tW d k
    omega
def aB:R2:=λx y H Q=>∃ l b c a,x=.ref l/\y=.ref b/\H l=some (.lst c)/\H b=some (.lst a)/\c.length+a.length<=sizeLine/\∀ p,H p=none->Q (.ref p) (upd H p (.lst (c++a)))
theorem vL:OpR X (binaryOp .Add) aB:=by
  intro pins s σ H x y v u Q I f d h;obtain⟨l,b,t,o,rfl,rfl,i,j,A,q⟩:=h;cases f;cases d;obtain⟨z,c,n,r,B,e⟩:=I.lstM i;obtain⟨p,a,w,g,m,e2⟩:=I.lstM j;refine PySem.P.add_list e e2 ?_ (by rw[Jj,Jj];omega);have k:c.toArray++a.toArray=(c++a).toArray:=by simp
  rw[k];exact⟨.ref _,_,I.lnew (t':=s.toks) (r.append g) (by rw[Jd];omega),rfl,q _ I.fresh⟩
def bv:R2:=λx y H Q=>∃ l k a,x=.ref l/\y=.int k/\H l=some (.lst a)/\-(2 ^ 63)<=k/\k<2 ^ 63/\a.length*k.toNat<=sizeLine /\
  ∀ p,H p=none->Q (.ref p) (upd H p (.lst (List.replicate k.toNat a).flatten))
theorem gK {α:Type}(xs:List α)(k:Nat):(List.replicate k xs).flatten.length=k*xs.length:=by
  induction k with
  | zero=>simp
  | succ k ih=>rw[Y9,ZU,Jd,ih,Nat.succ_mul,Nat.add_comm]
theorem ft:OpR X (binaryOp .Mult) bv:=by
  intro pins s σ H x y v u Q I A w h;obtain⟨l,k,J,rfl,rfl,C,E,D,o,q⟩:=h;cases A;obtain⟨t,rfl⟩:=w;obtain⟨z,b,n,r,B,e⟩:=I.lstM C;have hlen:b.toArray.size*k.toNat<=sizeLine:=by rw[Jj,<- B];exact o
  have g:¬ b.toArray.size*k.toNat > (2 ^ 63-1) / 8:=by
    have:(sizeLine:Nat)<=(2 ^ 63-1) / 8:=by decide
    omega
  have f:¬(!Builtin.List.listFitsIndex k)=true:=by
    rw[fitsIndex_both E D];exact Jn
  have c:¬ Builtin.List.listTooLong (b.toArray.size*k.toNat)=true:=by
    rw[jX hlen];exact Jn
  have d:List.foldl (λj i=>j++i) #[] (List.replicate (if b.toArray.isEmpty=true then 0 else k.toNat) b.toArray)=(List.replicate k.toNat b).flatten.toArray:=by
    have G:∀ m:Nat,List.foldl (λj i=>j++i) #[] (List.replicate m b.toArray)=(List.replicate m b).flatten.toArray:=λm=>by
      have:=sK b m [];rw[List.nil_append]at this;exact this
    rw[G]
    cases b with
    | nil=>simp
    | cons a K=>rw[Jf (by simp)]
  refine wpAny_binaryOp_repeat_ref (T:="list") (U:="int") (by decide) ⟨_,e,rfl⟩ (λp=>typeIs_int p k t) noFill_list_mul F.fills_int_mul F.slot_int_rmul repeat_list F.slot_int_index.lookup
    (ZP F.slot_int_rmul (typeIs_int s k t) F.entry_int_rmul (F.args_int_rmul_2 _ _) (int___rmul___int_list k t l b.toArray n)
      ⟨e,rfl,⟨_,e,rfl⟩,ZP F.slot_list_mul ⟨_,e,rfl⟩ F.entry_list_mul (F.args_list_mul_2 _ _) (AutoListH.list___mul___list_int_3 l b.toArray n k t f g c) ⟨e,?_⟩⟩)
  rw[d];exact⟨.ref _,_,I.lnew (t':=s.toks) (r.rep k.toNat) (by rw[gK,Nat.mul_comm];exact o),rfl,q _ I.fresh⟩
end
end L2
namespace Att
open PySem PySem.W PySem.Calls PyProof.Rows
theorem ve {P:Params}{h:Heap}:∀ (ns:List Int) (vs:List Value),WellAll P h vs (ns.map WData.int)->IntsAre vs ns:=by
  intro ns
  induction ns with
  | nil =>
    intro vs w;rw[List.map_nil]at w;cases w
    exact .nil
  | cons n ns ih =>
    intro vs w;rw[Yd]at w
    cases w with
    | cons a b =>
      cases a;exact .cons _ _ (ih _ b)
theorem mT {l:OpenLaw}{n:Nat}(hn:l.most=some n){P:Params}{h:Heap}{args:List WData}{vals:List Value}(b:l.row.toRowW.claim.pre args=true)(g:WellAll P h vals args) :
    ∃ a vs ns,vals=[Value.ref a]/\args=[WData.list (ns.map WData.int)]/\h.get? a=some { cls:=.type "list",data:=.seq vs.toArray }/\IntsAre vs ns/\ns.length<=n:=by
  have i:WShape.hasAll [] args [.list .int]=true:=(pre_splitW b).1;have j:l.pre.holds [] { args:=args }=true:=(pre_splitW b).2;obtain⟨d,r,rfl,u,t⟩:=hasAllW_cons i;obtain rfl:=hasAllW_nil t;obtain⟨v,rfl,s⟩:=hasW_list u;obtain⟨ns,rfl⟩:=items_int s
  have hlen:ns.length<=n:=by
    unfold OpenLaw.pre at j
    have f:(WTm.not (.lt (.lit (.int (n:Int))) (.len (.arg 0)))).holds [] { args:=[.list (ns.map .int)] }=true:=by
      have f:=(holds_andW j).1;rw[hn]at f;exact f
    have e:=condW_of f (w_not (w_lt w_lit (w_len_list (w_arg rfl))));rw[Jg]at e;refine Nat.le_of_not_lt λq=>?_;have o:(n:Int)<((ns.length:Nat):Int):=by omega
    first
      | (rw[Jw o]at e;exact absurd e (by decide))
      | (simp at e;omega)
  cases g with
  | cons m k =>
    cases k
    cases m with
    | list p c=>exact⟨_,_,ns,rfl,rfl,p,ve ns _ c,hlen⟩
theorem mW (l:OpenLaw)(args:List WData):l.row.toRowW.claim.post args (.bool true) args=true :=
  postW_of (r:=l.row.toRowW) (X:=(true == true))
    (show WShape.has [] (.bool true) .bool=true by first|rfl|decide|simp[WShape.has,WShape.arms,WShape.armsAll])
    (show (WTm.eq .res (.lit (.bool true))).value [] { args:=args,res:=some (.bool true),after:=args }=some (.bool (true == true)) from w_eq_bool (w_res rfl) w_lit) rfl
theorem attach_call {l:OpenLaw}{n:Nat}{q:Program}{loose:List Str}{t:(Str->Option Value)->Heap->Prop}{s:World->Heap->Prop}{d:DefRec}
    (hn:l.most=some n) (k:d.params.defaults=[])
    (call:∀ (w:World) (s₀ b:Shared) (mg mb:Str->Option Value) (c:Addr) (o:Obj) (pm cd doc:Value) (a:Addr) (vs:List Value) (ns:List Int),
      Ground q loose [] t w s₀ mg mb b.heap->s w b.heap ->
      b.heap.get? c=some o->o.data=.func (docDef d.name d.params d.body d.scope pm cd doc)->b.heap.CodeRec cd d.name->mg d.name=some (.ref c) ->
      b.heap.get? a=some { cls:=.type "list",data:=.seq vs.toArray }->IntsAre vs ns->ns.length<=n->b.gens = #[] ->
      codeAny (model l.prog w) callerA (.call (.ref c) ⟨[.ref a],[]⟩) (λr h=>r=.ok (.ret (.bool true))/\OldK b.heap h.heap/\h.os=b.os/\AllBare h.gens) b) :
    WalkO q loose t s l.row.toRowW d [] (λf vs=>PySem.call f vs):=by
  intro w s₀ b mg mb G Y c o pm cd doc E kV x A m p j z args vals as e u F i H;obtain rfl:E=.none:=Dflts.none p k;obtain rfl:kV=.none:=Dflts.noKw p;obtain⟨a,vs,ns,rfl,rfl,g,hints,hlen⟩:=mT hn e i;refine enter_call (codeAny_mono (call w s₀ b mg mb c o pm cd doc a vs ns G Y x (fd_plain A) m j g hints hlen z) λr h v=>?_);obtain⟨rfl,D,C,B⟩:=v;exact⟨.inl ⟨.bool true,.bool true,[],rfl,λ_=>rfl,.bool true,mW l _,λ_=>⟨List.Pairwise.nil,λ_ y=>(nomatch y)⟩⟩,D,C,B⟩
section
def aD (h:Heap)(L d:Addr):List (Addr × Obj):=(List.range h.objs.size).filterMap λa=>if a=L\/a=d then none else (h.get? a).map λo=>(a,o)
end
end Att
namespace L2
open PySem PySem.Spec PyProof.Rows
theorem tF:∀ {vs:List Value}{ns:List Int},IntsAre vs ns->Vals (ns.map V.int) vs
  | _,_,.nil=>.nil
  | _,_,.cons n t h=>.cons ⟨t,rfl⟩ (tF h)
abbrev KOf {K:PySem.W.Frag}{h:Heap}(_:K.In h):PySem.W.Frag:=K
def xO (s:Stmt):Arguments:=match s with
  | .FunctionDef _ a _ _ _ _ _ _ _ _=>a
  | _=>{ posonlyargs:=[],args:=[],vararg:=none,kwonlyargs:=[],kw_defaults:=[],kwarg:=none,defaults:=[] }
def yk (s:Stmt):List Stmt:=match s with
  | .FunctionDef _ _ b _ _ _ _ _ _ _=>b
  | _=>[]
def zM (s:Stmt):Scope:=match s with
  | .FunctionDef _ _ _ _ _ _ sc _ _ _=>sc
  | _=>{ kind:=.function,names:=[],isGenerator:=false,isCoroutine:=false }
abbrev CX0:CXT:=λ_ _ _ _ _ _=>False
abbrev E0:XK:=λ_ _ _=>False
theorem zW {X:Cx}:Passes CX0 X E0:=λ_ _ _ _ _ _ _ h=>h.elim
structure Fun (K:PySem.W.Frag) (x qual:Str) (st:Stmt) (f:Addr) (fd:FuncData):Prop where
  ex:∃ (oc:Value) (od:Option Addr) (kV doc pm:Value) (an:Option Addr) (cdv ct:Value) (osl:Array (Option Value)),
    fd=PySem.W.fnOf x qual (xO st) (yk st) (zM st) .none kV doc pm an cdv ct/\K.lookup f=some ⟨oc,od,.func fd,osl⟩/\PySem.W.codeIn K cdv qual=true
  kp:PySem.W.keepIn K (.ref f)=true
section
variable {P:Program}{w:World}{K:PySem.W.Frag}{mg:Str->Option Value}{base:Heap}
theorem Fun.ok {x qual:Str}{st:Stmt}{f:Addr}{fd:FuncData}{N ps:List Str}{k:Nat}{sp:Sp}(F:Fun K x qual st f fd)(S:FnScope N ps (zM st))(len:∀ vs H Q E,sp vs H Q E->vs.length=ps.length)(a:∀ (cdv:Value) (A:Around) (outer:List Env) (s:Shared) (H:Hp) (vs:List V) (Q:VK) (E:XK),Room k (A.deeper (envOfC qual (zM st) s.heap.objs.size f cdv))->sp vs H Q E ->
      ∃ t,PSs (nC CX0 P w K mg base N qual (zM st) f cdv A outer s H E).nox (yk st) t/\t { nx:=λ_ g=>Q .non g,rt:=Q } (wT N vs) H):FnOk P w K mg base CX0 (k+1) f fd ps sp:=by
  obtain⟨l,j,kV,doc,pm,an,cdv,m,i,rfl,d,c⟩:=F.ex;refine gu d c S len λA outer s H vs Q E e b=>?_;obtain⟨t,h,q⟩:=a cdv A outer s H vs Q E e b;exact⟨t,h.nox,q⟩
theorem Fun.binds {x qual:Str}{st:Stmt}{f:Addr}{fd:FuncData}{ps:List Str}(F:Fun K x qual st f fd)(h:∀ (kV doc pm:Value) (an:Option Addr) (cdv ct:Value) (us:List Value),us.length=ps.length->bindArgs (PySem.W.fnOf x qual (xO st) (yk st) (zM st) .none kV doc pm an cdv ct) ⟨us,[]⟩=pure (ps.zip us)):Binds K fd ps []:=by
  obtain⟨d,c,kV,doc,pm,an,cdv,ct,a,rfl,e,b⟩:=F.ex;exact .all (h kV doc pm an cdv ct)
theorem dH {x qual:Str}{st:Stmt}{f:Addr}{oc:Value}{od an:Option Addr}{osl:Array (Option Value)}{kV doc pm cdv ct:Value}(l:K.lookup f=some ⟨oc,od,.func (PySem.W.fnOf x qual (xO st) (yk st) (zM st) .none kV doc pm an cdv ct),osl⟩)(c:PySem.W.codeIn K cdv qual=true)(k:PySem.W.keepIn K (.ref f)=true):Fun K x qual st f (PySem.W.fnOf x qual (xO st) (yk st) (zM st) .none kV doc pm an cdv ct):=⟨⟨oc,od,kV,doc,pm,an,cdv,ct,osl,rfl,l,c⟩,k⟩
end
section
variable {X:Cx}
theorem pv (i:Nat) {x:Str}{pos:Pos}(d:X.N[i]?=some x:=by rfl) (b:Vis X.env.scope x:=by first|exact Or.inl rfl|exact Or.inr (.inl rfl)|exact Or.inr (.inr rfl)) (c:(x == ("__debug__":Str))=false:=by decide)
    (a:(x == ("__classdict__":Str))=false:=by decide):PE X (.Name x pos) (kC i):=fj d b c a
theorem qv (i:Nat) {x:Str}{pos:Pos}(h:X.N[i]?=some x/\Vis X.env.scope x/\(x == ("__debug__":Str))=false/\(x == ("__classdict__":Str))=false):PE X (.Name x pos) (kC i):=fj h.1 h.2.1 h.2.2.1 h.2.2.2
end
theorem zr {A B:Prop}(h:B):if false=true then A else B:=by
  rw[Jf Jn];exact h
theorem yE {A B:Prop}(h:A):if true=true then A else B:=by
  rw[Jp rfl];exact h
theorem jr {c A B:Prop}[Decidable c](b:c->A)(a:¬ c->B):if c then A else B:=by
  by_cases h:c
  · rw[Jp h]
    exact b h
  · rw[Jf h]
    exact a h
def Same (H H':Hp):Prop:=∀ b o,H b=some o->H' b=some o
theorem Same.refl (H:Hp):Same H H:=λ_ _ h=>h
theorem Same.trans {H e d:Hp}(a:Same H e)(b:Same e d):Same H d:=λc o h=>b c o (a c o h)
theorem Same.free {H H':Hp}(e:Same H H'){l:Addr}(h:H' l=Option.none):H l=Option.none:=by
  cases q:H l with
  | none=>rfl
  | some o =>
    rw[e l o q]at h;cases h
end L2
set_option maxHeartbeats 4000001
namespace L2
open PySem PySem.Spec PyProof.Rows
def wS (cells:List (Str × Addr)):List (Str × NameKind)->List (Str × Addr)->List (Str × Addr)
 | [],cs=>cs
 | (n,k)::r,cs=>if k == .free then wS cells r ((n,(cells.lookup n).getD 0)::cs) else wS cells r cs
theorem uj {env:Env}:∀ (names:List (Str × NameKind)) (cs:List (Str × Addr)),(∀ y∈names,y.2=.free->∃ c,env.cells.lookup y.1=some c) ->
  (forIn names cs λx r=>match x with|(name,kind)=>if (kind == NameKind.free)=true then (do let a <- cellOf env name;pure (ForInStep.yield ((name,a)::r))) else pure (ForInStep.yield r):Sem (List (Str × Addr)))=pure (wS env.cells names cs)
 | [],cs,_=>rfl
 | (n,k)::r,cs,h=>by
  rw[Yq];by_cases e:(k == NameKind.free)=true
  ·obtain⟨c,g⟩:=h (n,k) JH (by simpa using e)
   have d:cellOf env n=pure c:=by
    have b:env.cells.lookup n=some c:=g;unfold cellOf;rw[b]
   simp only[e,Yk,d,pure_bind];rw[uj r _ λy f=>h y (JE _ f)];have b:env.cells.lookup n=some c:=g;show _=pure (if (k == NameKind.free)=true then _ else _);rw[Jp e,b];rfl
  ·have i:(k == NameKind.free)=false:=by simpa using e
   simp only[i,Y8,YW,pure_bind];rw[uj r _ λy f=>h y (JE _ f)];show _=pure (if (k == NameKind.free)=true then _ else _);rw[Jf e]
theorem wj {scope:Scope}{env:Env}(h:∀ y∈scope.names,y.2=.free->∃ c,env.cells.lookup y.1=some c):closureFor scope env=pure (wS env.cells scope.names []):=by
 unfold closureFor;show (forIn scope.names [] _ >>= λr=>pure r)=_;rw[bind_pure];exact uj _ _ h
theorem wI {cells:List (Str × Addr)}:∀ (names:List (Str × NameKind)) (cs:List (Str × Addr)) (x:Str) (c:Addr),(∀ y∈names,y.2=.free->∃ c,cells.lookup y.1=some c) ->
  (∀ x c,cs.lookup x=some c->cells.lookup x=some c)->(wS cells names cs).lookup x=some c->cells.lookup x=some c
 | [],cs,x,c,_,f,e=>f x c e
 | (n,k)::r,cs,x,c,h,f,e=>by
  unfold wS at e;by_cases q:(k == NameKind.free)=true
  ·rw[Jp q]at e
   obtain⟨m,l⟩:=h (n,k) JH (by simpa using q);refine wI r _ x c (λy g=>h y (JE _ g)) (λd o a=>?_) e;rw[Ys]at a
   cases i:d == n with
   | true =>
    rw[i]at a;have j:d=n:=by simpa using i
    subst j;have b:cells.lookup d=some m:=l;rw[b]at a ⊢
    exact a
   | false =>
    rw[i]at a;exact f d o a
  ·rw[Jf q]at e
   exact wI r _ x c (λy g=>h y (JE _ g)) f e
theorem vT {cells:List (Str × Addr)}:∀ (names:List (Str × NameKind)) (cs:List (Str × Addr)) (x:Str),(∃ c,cs.lookup x=some c)->∃ c,(wS cells names cs).lookup x=some c
 | [],cs,x,e=>e
 | (n,k)::r,cs,x,e=>by
  unfold wS;by_cases q:(k == NameKind.free)=true
  ·rw[Jp q]
   refine vT r _ x ?_;rw[Ys]
   cases a:x == n with
   | true=>exact⟨_,rfl⟩
   | false=>exact e
  ·rw[Jf q]
   exact vT r _ x e
theorem xF {cells:List (Str × Addr)}:∀ (names:List (Str × NameKind)) (cs:List (Str × Addr)) (x:Str),names.lookup x=some .free->∃ c,(wS cells names cs).lookup x=some c
 | [],cs,x,e=>by simp at e
 | (n,k)::r,cs,x,e=>by
  rw[Ys]at e;unfold wS
  cases a:x == n with
  | true =>
   rw[a]at e;have b:k=.free:=Jr e;subst b;rw[Jp (by decide)];refine vT r _ x ?_;rw[Ys,a]
   exact⟨_,rfl⟩
  | false =>
   rw[a]at e;by_cases q:(k == NameKind.free)=true
   ·rw[Jp q];exact xF r _ x e
   ·rw[Jf q];exact xF r _ x e
def iG (env:Env)(p:Str × NameKind):Bool:=p.2 == .free && env.scope.kind == .function && env.kindOf p.1 == some .cell
def wQ (env:Env)(p:Str × NameKind):Str × NameKind:=if iG env p=true then (p.1,.cell) else p
theorem vZ (env:Env)(p:Str × NameKind):(wQ env p).1=p.1:=by unfold wQ;split<;>rfl
theorem vY (env:Env)(p:Str × NameKind):(wQ env p).2=p.2\/((wQ env p).2=.cell/\p.2=.free):=by
 unfold wQ;split
 ·rename_i h
  refine .inr ⟨rfl,?_⟩;unfold iG at h;cases e:p.2<;>simp[e]at h<;>rfl
 ·exact .inl rfl
theorem wU (scope:Scope)(env:Env):(relabel scope env).names=scope.names.map (wQ env):=rfl
theorem uU {f:Str × NameKind->Str × NameKind}(a:∀ p,(f p).1=p.1):∀ (l:List (Str × NameKind)) (x:Str),(l.map f).lookup x=none/\l.lookup x=none\/∃ p∈l,(l.map f).lookup x=some (f p).2/\l.lookup x=some p.2
 | [],_=>.inl ⟨rfl,rfl⟩
 | p::r,x=>by
  have c:((p::r).map f).lookup x=if x == p.1 then some (f p).2 else (r.map f).lookup x:=by
   show List.lookup x (((f p).1,(f p).2)::r.map f)=_;rw[Ys,a p];cases x == p.1<;>rfl
  have e2:(p::r).lookup x=if x == p.1 then some p.2 else r.lookup x:=by
   show List.lookup x ((p.1,p.2)::r)=_;rw[Ys];cases x == p.1<;>rfl
  rw[c,e2];cases x == p.1
  ·rcases uU a r x with z|⟨q,b,z⟩
   ·exact .inl z
   ·exact .inr ⟨q,JE _ b,z⟩
  ·exact .inr ⟨p,JH,rfl,rfl⟩
theorem yj {scope:Scope}{env:Env}{x:Str}{a:NameKind}(h:(relabel scope env).names.lookup x=some a):scope.names.lookup x=some a\/(a=.cell/\scope.names.lookup x=some .free):=by
 rw[wU]at h;rcases uU (vZ env) scope.names x with ⟨z,_⟩|⟨p,_,z,e⟩
 ·rw[z]at h;cases h
 ·rw[z]at h
  obtain rfl:=Jr h;rcases vY env p with q|⟨q,b⟩
  ·rw[q];exact .inl e
  ·exact .inr ⟨q,by rw[e,b]⟩
theorem xq {scope:Scope}{env:Env}{x:Str}(h:scope.names.lookup x=some .free):(relabel scope env).names.lookup x=some .cell\/(relabel scope env).names.lookup x=some .free:=by
 rw[wU];rcases uU (vZ env) scope.names x with ⟨_,z⟩|⟨p,_,z,e⟩
 ·rw[z]at h;cases h
 ·rw[e]at h
  rcases vY env p with q|⟨q,_⟩
  ·rw[z,q,h];exact .inr rfl
  ·rw[z,q];exact .inl rfl
def yP (X:Cx)(N':List Str)(scope:Scope)(C:Addr)(s₀:Shared)(H₀:Hp)(fp:List Addr)(pins:List (Addr × Obj)):Cx :=
 { X with N:=N',s₀:=s₀,H₀:=H₀,env:=compEnvC scope (wS X.env.cells scope.names []) C X.env,outer:=X.stack,stack:=X.stack,ex:=fp,fn:=λ_=>false,pn:=X.pn++pins,xe:=λ_ _=>False }
def r0 (cap:List (Option Nat))(σ:St):St:=cap.map λo=>match o with|some i=>(match σ[i]? with|some v=>v|none=>none)|none=>none
def tst (M:Model)(A:Around)(env:Env)(E:Value->Shared->Prop)(o:Option Expr)(Q:Bool->Shared->Prop)(s:Shared):Prop:=match o with
 | none=>Q true s
 | some c=>wpAny M A (isTrue c env (eval c env)) Q E s
theorem qK {M:Model}{A:Around}{env:Env}{E:Value->Shared->Prop}{o:Option Expr}{Q a:Bool->Shared->Prop}{s:Shared}(h:tst M A env E o Q s)(k:∀ b z,Q b z->a b z):tst M A env E o a s:=by
 cases o with
 | none=>exact k _ _ h
 | some c=>exact thn h k
def PTo (X:Cx)(o:Option Expr)(t:TT):Prop :=
 ∀ (pins:List (Addr × Obj)) (s:Shared) (σ:St) (H:Hp) (Q:Bool->Hp->Prop),Inv X pins σ H s->t σ H Q->tst (model X.prog X.w) X.A X.env X.xe o (TP X pins σ Q) s
def iP:TT:=λ_ H Q=>Q true H
theorem yx {X:Cx}:PTo X none iP:=λ_ _ _ H _ I h=>⟨H,I,h⟩
abbrev NoX:Value->Shared->Prop:=λ_ _=>False
def Go (M:Model)(A:Around)(tg elt:Expr)(o:Option Expr)(it acc:Value)(env:Env)(R:Result->Shared->Prop)(g:Shared->Prop)(s:Shared):Prop :=
 wpAny M A (pyNext it) (λr a=>match r with
  | none=>R (.ok .next) a
  | some v=>wpAny M A (letOwnedTupleGo tg it v) (λ_ b=>wpAny M A (assign tg env v) (λ_ c=>tst M A env NoX o (λyes d =>
    if yes=true then wpAny M A (eval elt env) (λx e=>wpAny M A (call (.builtin "list.append") [acc,x]) (λ_ f=>g f) NoX e) NoX d else g d) c) NoX b) NoX a) NoX s
theorem lU {prog:Program}{w:World}{A:Around}{R:Result->Shared->Prop}{s:Shared}{elt tg iter:Expr}{o:Option Expr}{scope:Scope}{pos:Pos}{it acc:Value}{env:Env}(J:Nat->Shared->Prop)(turn:∀ n s,J n s->Go (model prog w) A tg elt o it acc env R (λz=>∃ m,m<n/\J m z) s)(n:Nat)(h:J n s) :
  codeAny (model prog w) A (.compLoop (.ListComp elt [⟨tg,iter,o.toList,0⟩] scope pos) 0 it acc env) R s:=by
 cases o with
 | none =>
  refine PySem.W.kcp_loop J (λn a l=>JL (turn n a l) (λr b g=>?_) λ_ _ z=>z.elim) n h
  cases r with
  | none=>exact g
  | some v=>exact JL g (λ_ c k=>JL k (λ_ d j=>JL (show wpAny _ _ _ _ _ d from j) (λx e i=>JL i (λ_ _ q=>q) λ_ _ z=>z.elim) λ_ _ z=>z.elim) λ_ _ z=>z.elim) λ_ _ z=>z.elim
 | some t =>
  refine PySem.W.kct_loop J (λn a l=>JL (turn n a l) (λr b g=>?_) λ_ _ z=>z.elim) n h
  cases r with
  | none=>exact g
  | some v =>
   refine JL g (λ_ c k=>JL k (λ_ d j=>JL (show wpAny _ _ _ _ _ d from j) (λyes e i=>?_) λ_ _ z=>z.elim) λ_ _ z=>z.elim) λ_ _ z=>z.elim;cases yes
   ·exact i
   ·exact JL (show wpAny _ _ _ _ _ e from i) (λx f p=>JL p (λ_ _ q=>q) λ_ _ z=>z.elim) λ_ _ z=>z.elim
structure CapOk (N N':List Str) (sc scope:Scope) (cap:List (Option Nat)):Prop where
 kind:scope.kind=.function
 nocell:∀ y∈scope.names,y.2≠.cell
 names:∀ y∈scope.names,y.2=.local -> scope.names.lookup y.1=some .local
 free:∀ y∈scope.names,y.2=.free->sc.names.lookup y.1=some .cell\/sc.names.lookup y.1=some .free
 len:cap.length=N'.length
 cap:∀ p∈N'.zip cap,∀ i,p.2=some i->N[i]?=some p.1/\scope.names.lookup p.1=some .free/\(sc.names.lookup p.1=some .cell\/sc.names.lookup p.1=some .free)
theorem xw {α:Type}:∀ {l:List (Str × α)}{x:Str}{a:α},l.lookup x=some a->(x,a)∈l
 | [],_,_,h=>by simp at h
 | (n,k)::r,x,a,h=>by
  rw[Ys]at h
  cases b:x == n with
  | true =>
   rw[b]at h;have e:k=a:=Jr h;have e2:x=n:=by simpa using b
   subst e e2
   exact JH
  | false=>rw[b]at h;exact JE _ (xw h)
def LCW (J:It)(g:TG)(tt:TT)(k:TE)(l:Addr)(Q:VK)(W:Nat->Nat->List V->St->Hp->Prop):Prop :=
 ∀ i m acc e c,W i m acc e c->c l=some (.lst acc) /\
  ((J.stop i c/\Q (.ref l) c)\/(J.go i c/\∀ x j,J.yld i c x j->g x e j λa n=>tt a n λb h =>
   if b=true then k a h λy f=>f l=some (.lst acc)/\acc.length<sizeLine/\∃ d,d<m/\W (i+1) d (acc++[y]) a (upd f l (.lst (acc++[y])))
   else ∃ d,d<m/\W (i+1) d acc a h))
def tLC (cap:List (Option Nat))(b:TI)(g:TG)(tt:TT)(c:TE):TE:=λσ H Q=>b σ H λJ a=>∀ l,a l=none ->
 ∃ W:Nat->Nat->List V->St->Hp->Prop,(∃ m,W 0 m [] (r0 cap σ) (upd a l (.lst [])))/\LCW J g tt c l Q W
theorem gL {X:Cx}{elt tg iter:Expr}{o:Option Expr}{scope:Scope}{pos af:Pos}{wi:TI}{g:TG}{tt:TT}{te:TE}{N':List Str}{cap:List (Option Nat)}{use:Option (Value->Sem Unit)}{Q0:Value->Shared->Prop}(hc:X.calm=true)(hi:PI X tg iter wi)(P:CapOk X.N N' X.env.scope scope cap)(hg:∀ C s₀ H₀ fp pins,PG (yP X N' scope C s₀ H₀ fp pins) tg g)(ht:∀ C s₀ H₀ fp pins,PTo (yP X N' scope C s₀ H₀ fp pins) o tt)(he:∀ C s₀ H₀ fp pins,PE (yP X N' scope C s₀ H₀ fp pins) elt te)(hs:∀ x,foldedSetIterable iter X.env x=pure x){pins:List (Addr × Obj)}{s:Shared}{σ:St}{H:Hp}{Q:VK}(I:Inv X pins σ H s)(h:tLC cap wi g tt te σ H Q)(fin:∀ (l C:Addr) (O:Hp) (U:Shared) (m:Str->Option Value),Inv X pins σ O U->Q (.ref l) O->U.heap.Ns C m->FpOk X pins O C->compPost (model X.prog X.w) X.A X.xe use Q0 (.ref l) C (.ok .next) U) :
  wpAny (model X.prog X.w) X.A (comprehension (.ListComp elt [⟨tg,iter,o.toList,0⟩] scope pos) scope X.env af (newList []) false (eval iter X.env) use) Q0 X.xe s:=by
 have F:∀ y∈scope.names,y.2=.free->∃ c,X.env.cells.lookup y.1=some c:=λy hy hf=>I.ok.has y.1 (P.free y hy hf);refine wpAny_comprehension_free (use:=use) rfl hs (wj F) P.kind P.names (thn (hi pins s σ H _ I h) λv s1 h1=>thn h1 λaX A h2=>?_);obtain⟨it,fp,tn,J,H2,e,I2,T,aj,N,body⟩:=h2;subst e;have ah:H2 A.heap.objs.size=none:=I2.hok.fresh (Je _);obtain⟨W,⟨m0,w0⟩,turn⟩:=body A.heap.objs.size ah;have k:Inv X pins σ (upd H2 A.heap.objs.size (.lst [])) { A with heap:=A.heap.push { cls:=.type "list",data:=.seq ([]:List Value).toArray },toks:=A.toks }:=I2.lnew (its:=[]) (t':=A.toks) .nil (Y1 _);refine JY (wpAny_newFunctionEnv P.nocell (by intro y hy;simp at hy) (λw E D=>?_) P.kind);dsimp only at E D ⊢;generalize hl:A.heap.objs.size=l at *;generalize hP:A.heap.push { cls:=.type "list",dict:=none,data:=.seq ([]:List Value).toArray }=P2 at *;generalize aN:upd H2 l (.lst [])=H3 at *;have old:∀ b o,P2.get? b=some o->w.get? b=some o:=λb o e=>D.extBut b o (JB (Jb e)) (J6 _ e);have ag:∀ b o,A.heap.get? b=some o->P2.get? b=some o:=λb o e=>hP ▸ J6 _ e
 have aq:∀ b∈fp,b<l:=λb a=>by
  obtain⟨o,e,_⟩:=T.obj _ _ aj b a;rw[<- hl];exact Jb e
 have aP:∀ b∈fp,H3 b=none:=λb a=>by
  rw[<- aN,zJ (JB (aq b a))];exact(N b a).1
 have aL:P2.objs.size=l+1:=by rw[<- hP,Ze,hl]
 have t:∀ x c,(wS X.env.cells scope.names []).lookup x=some c->X.env.cells.lookup x=some c:=λx c e=>wI _ _ x c F (λ_ _ z=>by simp at z) e;generalize am:({ A with heap:=P2,toks:=A.toks }:Shared)=s3 at *;have f:s3.heap=P2:=by rw[<- am]
 let Y:=yP X N' scope P2.objs.size s3 H3 fp pins
 have B:Y.Ok:=by
  refine⟨k.ok.mod,P.kind,k.ok.glob,k.ok.blt,by show s3.heap.objs.size<=P2.objs.size;rw[f];exact Je _,λx y c e1 e2=>k.ok.inj x y c (t x c e1) (t y c e2),λx Z=>?_,λx c Z=>absurd (show false=true from Z) Jn,k.ok.hd,k.ok.frames,.inl rfl,λb a=>⟨?_,λx c e=>?_⟩,k.bs,
   JR k.ok.bsz k.sz,λb o e a=>?_,λb a hz=>?_,k.stack,k.stkFree⟩
  ·have av:scope.names.lookup x=some .free:=by
    rcases Z with Z|Z
    ·rcases yj Z with z|z
     ·exact absurd rfl (P.nocell _ (xw z))
     ·exact z.2
    ·rcases yj Z with z|z
     ·exact z
     ·exact z.2
   exact xF _ _ x av
  ·exact JB (by show b<P2.objs.size;rw[aL];exact ZV (aq b a))
  ·exact(N b a).2.2.2.2.1 x c (t x c e)
  ·rcases (N b a).2.2.2.1 with z|z
   ·exact k.ok.noex b o e z
   ·exact absurd (JD (Jb e) (JR k.ok.bsz z)) (Yp _)
  ·rcases Ja.mp (k.stkSub b hz) with z|z
   ·exact(N b a).2.1 z
   ·exact(N b a).2.2.1 z
 have az:Inv Y [] (r0 cap σ) H3 { A with heap:=w,toks:=A.toks }:=by
  refine⟨B,by show A.os=s3.os;rw[<- am],I2.bare,by show Un _ _ _ _ s3.heap w;rw[f];exact Un.kept old,⟨_,E,λj x v e1 e2 e3=>?_⟩,λx c e=>?_,?_,λx c e=>k.freeC x c (t x c e),λp hp=>?_,λb o e=>?_,?_⟩
  ·have aS:N'[j]?=some x:=e1
   unfold r0 at e2;rw[JU]at e2
   cases ec:cap[j]? with
   | none=>rw[ec]at e2;cases e2
   | some oc =>
    rw[ec]at e2
    cases oc with
    | none=>cases e2
    | some i =>
     have aQ:σ[i]?=some (some v):=by
      cases ei:σ[i]? with
      | none=>simp[ei]at e2
      | some v' =>
       simp[ei]at e2;rw[e2]
     have hz:(x,some i)∈N'.zip cap:=by
      refine Jz (i:=j) ?_;rw[YK];exact⟨aS,ec⟩
     obtain⟨hN,hf,hk⟩:=P.cap _ hz i rfl;obtain⟨m,hn,aw⟩:=k.loc;obtain⟨u,r,lk⟩:=aw i x v hN aQ (by rcases hk with z|z;exact .inr (.inl z);exact .inr (.inr z));refine⟨u,r,.inr ⟨?_,?_⟩⟩
     ·exact xq hf
     ·rcases lk with ⟨z,_⟩|⟨_,c,ay,aa⟩
      ·have z':X.env.scope.names.lookup x=some .local:=z
       rcases hk with q|q
       ·rw[q]at z';cases z'
       ·rw[q]at z';cases z'
      ·obtain⟨c',ao⟩:=xF (cells:=X.env.cells) scope.names [] x hf
       have:=t x c' ao;rw[ay]at this;cases this;obtain⟨ob,e,d⟩:=aa;rw[f]at e;exact⟨c,ao,ob,old c ob e,d⟩
  ·obtain⟨v,ob,e',d⟩:=k.cell x c (t x c e)
   rw[f]at e';exact⟨v,ob,old c ob e',d⟩
  ·refine k.hok.fresh ?_
   rw[f];exact Je _
  ·have ae:p∈X.pn++pins:=(Ju.mp hp).elim (λz=>z) (λz=>nomatch z)
   obtain⟨e,n,ne,nf,d⟩:=k.pin p ae;rw[f]at e;refine⟨old _ _ e,n,JB (Jb e),λz=>?_,d⟩;rcases Ja.mp (k.stkSub _ z) with q|q
   ·exact ne q
   ·exact nf q
  ·have:=k.hok.kept (h':=w) (λb u q=>old b u (by rw[<- f];exact q))
   exact this b o e
  ·show (cap.map _).length=N'.length
   rw[Jg,P.len]
 have L:∀ {G:Hp},(∀ b∈fp,G b=none)->∀ b∈fp,FpOk Y [] G b:=λ{G} hn b a=>by
  refine⟨hn b a,(B.exf b a).1,B.exfs b a,.inl a,(B.exf b a).2,λp hp=>?_⟩;have ae:p∈X.pn++pins:=(Ju.mp hp).elim (λz=>z) (λz=>nomatch z);exact(N b a).2.2.2.2.2 p ae
 have ak:tn 0 w:=T.keep 0 _ _ aj λb a o e=>old b o (ag b o e)
 have loop:codeAny (model X.prog X.w) X.A (.compLoop (.ListComp elt [⟨tg,iter,o.toList,0⟩] scope pos) 0 (.ref it) (.ref l) Y.env) (compPost (model X.prog X.w) X.A X.xe use Q0 (.ref l) P2.objs.size) { A with heap:=w,toks:=A.toks }:=by
  refine lU (λn s'=>∃ i acc K G,Inv Y [] K G s'/\tn i s'.heap/\(∀ b∈fp,G b=none)/\W i n acc K G) ?_ m0 ⟨0,[],_,H3,az,ak,aP,w0⟩;rintro n s4 ⟨i,acc,S,O,I4,ai,ap,w4⟩;obtain⟨aV,q4⟩:=turn i n acc S O w4;rcases q4 with ⟨stop,qn⟩|⟨go,step⟩
  ·refine thn (T.done Y rfl rfl rfl hc i [] s4 S O Y.xe I4 (L ap) ai stop) λr U ⟨hr,I5⟩=>?_
   subst hr;obtain⟨m,hn,_⟩:=id I5.loc;have un:Un (frs X.stack) fp H3 O s3.heap U.heap:=I5.base;have ar:s3.heap.objs.size<=P2.objs.size:=by rw[f];exact Je _
   have IX:Inv X pins σ O U:=k.call' (ch:=fp) I5.os un I5.hok I5.bare λb a=>⟨(N b a).2.2.2.1,(N b a).2.1,(N b a).2.2.2.2.1,(N b a).2.2.2.2.2⟩;exact fin l P2.objs.size O U m IX qn hn (k.fpOk ar I5.free)
  ·refine thn (T.item Y rfl rfl rfl hc i [] s4 S O Y.xe I4 (L ap) ai go) λr U ⟨u,hr,h5⟩=>?_
   subst hr;refine thn h5 λ_ s6 ⟨x,H6,I6,r6,y6,ad,aO⟩=>?_;have aT:=I6.pinned (L aO) (T.obj _ _ ad);refine thn (hg _ _ _ _ _ _ s6 S H6 x u _ aT r6 (step x H6 y6)) λ_ s7 ⟨ab,H7,I7,q7⟩=>?_;refine qK (ht _ _ _ _ _ _ s7 ab H7 _ I7 q7) λb s8 ⟨H8,I8,q8⟩=>?_
   have again:∀ {R:St}{H9:Hp}{s9:Shared}{M:List V},Inv Y ([]++xt fp s6.heap) R H9 s9->(∃ m',m'<n/\W (i+1) m' M R H9)->∃ m,m<n/\∃ i acc K G,Inv Y [] K G s9/\tn i s9.heap/\(∀ b∈fp,G b=none)/\W i m acc K G:=λ{R H9 s9 M} I9 ⟨m',hm,w9⟩=>by
    refine⟨m',hm,i+1,M,R,H9,I9.unpinned,T.keep _ _ _ ad λb a o e=>(I9.pin (b,o) (Jy _ (Jy _ (yR a e)))).1,λb a=>?_,w9⟩;obtain⟨o,e,d⟩:=T.obj _ _ ad b a;exact(I9.pin (b,o) (Jy _ (Jy _ (yR a e)))).2.1
   cases b with
   | false =>
    rw[Jf Jn]at q8 ⊢
    exact again I8 q8
   | true =>
    rw[Jp rfl]at q8 ⊢;refine thn (he _ _ _ _ _ _ s8 ab H8 _ I8 q8) λyv s9 ⟨y,H9,I9,r9,ax,au,q9⟩=>?_;refine thn (xB (X:=Y) _ s9 ab H9 (.ref l) [y] (.ref l) [yv] (λ_ G=>G=upd H9 l (.lst (acc++[y]))) I9 rfl (.cons r9 .nil) ⟨l,acc,y,rfl,rfl,ax,au,rfl⟩) λ_ aW ⟨_,aY,aU,_,aR⟩=>?_;subst aR;exact again aU q9
 exact codeAny_compStart_list loop (T.self X.A 0 _ _ _ ak loop)
theorem Inv.gone {X:Cx}{pins:List (Addr × Obj)}{σ:St}{H:Hp}{s:Shared}{C:Addr}{h':Heap}(I:Inv X pins σ H s)(f:FpOk X pins H C)(sb:Heap.SameBut C s.heap h'):Inv X pins σ H { s with heap:=h' } :=
 I.turned (t':=s.toks) (λb o a e=>(sb.2 b a).trans e) f.1 f.2.1 f.2.2.2.1 f.2.2.2.2.1 f.2.2.2.2.2
theorem wq {X:Cx}{elt tg iter:Expr}{o:Option Expr}{scope:Scope}{pos:Pos}{a:TI}{g:TG}{tt:TT}{b:TE}{N':List Str}{cap:List (Option Nat)}(n:X.calm=true)(hi:PI X tg iter a)(p:CapOk X.N N' X.env.scope scope cap)(j:∀ C s₀ H₀ fp pins,PG (yP X N' scope C s₀ H₀ fp pins) tg g)(d:∀ C s₀ H₀ fp pins,PTo (yP X N' scope C s₀ H₀ fp pins) o tt)(k:∀ C s₀ H₀ fp pins,PE (yP X N' scope C s₀ H₀ fp pins) elt b)(e:∀ x,foldedSetIterable iter X.env x=pure x:=by intro _;rfl) :
  PE X (.ListComp elt [⟨tg,iter,o.toList,0⟩] scope pos) (tLC cap a g tt b):=by
 intro pins s σ H Q I h;rw[eval_ListComp];exact gL (use:=none) n hi p j d k e I h λl C t u m r q i f=>⟨m,i,λv c=>⟨.ref l,t,r.gone f c,rfl,q⟩⟩
end L2
namespace Own
open PySem PySem.Spec PyProof.Rows
section
variable {M:Model}{prog:Program}{w:World}{A:Around}{E:Value->Shared->Prop}{s:Shared}{α:Type}{Q:α->Shared->Prop}
theorem rf {a:Addr}{o:Obj}{vs:Array Value}{x:Value}{f:Value->Sem α}(k:Nat)(c:s.heap.get? a=some o)(hd:o.data=.fields vs)(b:vs[k]?=some x)(h:wpAny M A (f x) Q E s) :
  wpAny M A (field (.ref a) k >>= f) Q E s:=J0 (Zd c hd b h)
theorem nx {T id:String}{B:Builtin}{it:Addr}{P:Value->Shared->Prop}(slot:Slot T "__next__" id) (ty:s.TypeIs (.ref it) T) (en:entryFor table id=some B) (ok:argsOk id ⟨[.ref it],[]⟩)
  (h:wpAny (model prog w) A.in1 (B ⟨[.ref it],[]⟩) (λr a=>∃ v,r=.done (.ret v)/\P v a) E s):wpAny (model prog w) A (Builtin.SmallTypes.nextOf (.ref it)) P E s:=by
 unfold Builtin.SmallTypes.nextOf;refine J0 (wpAny_callSpecial?_slot (name:="__next__") ty slot (Y5 slot ty en (thn2 h) ok))
where
 thn2 {b:Sem Fin}{P:Value->Shared->Prop}{c:Around}(h:wpAny (model prog w) c b (λr a=>∃ v,r=.done (.ret v)/\P v a) E s) :
   wpAny (model prog w) c b (λr a=>∃ v,r=.done (.ret v)/\wpAny (model prog w) A (pure v) P E a) E s :=
  JL h (λ_ _ ⟨v,e,q⟩=>⟨v,e,J7 q⟩) λ_ _ z=>z
end
theorem ends {A:Around}{E:Value->Shared->Prop}{prog:Program}{w:World}{s:Shared}{α:Type}{Q:α->Shared->Prop}(c:A.handled=none)
  (h:∀ h' x,(∀ b o,s.heap.get? b=some o->h'.get? b=some o)->(∃ o,h'.get? x=some o/\o.cls=.type "StopIteration")->E (.ref x) { s with heap:=h' }) :
  wpAny (model prog w) A (Builtin.SmallTypes.stopIteration:Sem α) Q E s:=by
 unfold Builtin.SmallTypes.stopIteration newExc newTuple;refine J0 (J0 (JY ?_ (by size_fits)));refine J0 (wpAny_of_eq (a:=Value.none) (by rfl) (JY (wpAny_raiseNew_none c (h _ _ (λb o e=>?_) ⟨_,JA _ rfl,rfl⟩)) (by size_fits)));exact J6 _ (J6 _ e)
def cN:Bool->String
 | true=>"list_iterator"
 | false=>"tuple_iterator"
abbrev RIt (b:Bool)(h:Heap)(it a:Addr)(i:Int):Prop:=h.get? it=some { cls:=.type (cN b),dict:=none,data:=.fields #[.ref a,.int i 0],slots:=#[] }
def SqO:Bool->Heap->Addr->Array Value->Prop
 | true,h,a,xs=>h.IsList a xs
 | false,h,a,xs=>h.IsTuple a xs
theorem SqO.ob {b:Bool}{h:Heap}{a:Addr}{xs:Array Value}(x:SqO b h a xs):∃ o n,h.get? a=some o/\o.data=.seq xs n:=by
 cases b<;>(obtain⟨o,e,_,n,d⟩:=x;exact⟨o,n,e,d⟩)
theorem SqO.mv {b:Bool}{h h':Heap}{a:Addr}{xs:Array Value}(x:SqO b h a xs)(k:∀ o,h.get? a=some o->h'.get? a=some o):SqO b h' a xs:=by
 cases b<;>(obtain⟨o,e,r⟩:=x;exact⟨o,k o e,r⟩)
theorem SqO.ne {b c:Bool}{h:Heap}{a it f:Addr}{i:Int}{xs:Array Value}(x:SqO b h a xs)(y:RIt c h it f i):a≠it:=λz=>by
 obtain⟨o,n,e,d⟩:=x.ob;rw[z,y]at e;cases e;cases d
section
variable {prog:Program}{w:World}{A:Around}{E:Value->Shared->Prop}{s:Shared}
theorem ty {b:Bool}{it a:Addr}{i:Int}(y:RIt b s.heap it a i):s.TypeIs (.ref it) (cN b):=⟨_,y,rfl⟩
theorem rP {b:Bool}{it a:Addr}{i:Nat}{xs:Array Value}{x:Value}{P:Value->Shared->Prop}{B:Builtin}(m:B=match b with|true=>Builtin.«list_iterator.__next__»|false=>Builtin.«tuple_iterator.__next__»)(y:RIt b s.heap it a i)(sq:SqO b s.heap a xs)(g:xs[i]?=some x)(h:∀ h',RIt b h' it a (i+1)->Heap.SameBut it s.heap h'->P x { s with heap:=h' }) :
  wpAny (model prog w) A (B ⟨[.ref it],[]⟩) (λr f=>∃ v,r=.done (.ret v)/\P v f) E s:=by
 obtain⟨o,n,e,d⟩:=sq.ob
 have fin:wpAny (model prog w) A (match xs[(i:Int).toNat]? with
   | some x=>(do setField (.ref it) 1 (rawInt ((i:Int)+1));ret x:Sem Fin)
   | none=>Builtin.SmallTypes.stopIteration) (λr f=>∃ v,r=.done (.ret v)/\P v f) E s:=by
  rw[YF,g];exact J0 (Ye y (show 1<2 by decide) λh' j k=>J7 ⟨x,rfl,h h' j k⟩)
 rw[YF,g]at fin;subst m;cases b <;>
 ·refine rf 0 y rfl rfl (PyIte (show ¬((Value.ref a == Value.none)=true) from Jn) (rf 1 y rfl rfl (J0 (Y3 e d ?_))))
  simp only[YF,g];exact fin
where
 PyIte {c:Prop} [Decidable c] {α:Type}{a b:Sem α}{M:Model}{A:Around}{Q:α->Shared->Prop}{E:Value->Shared->Prop}{s:Shared}(l:¬ c) (h:wpAny M A b Q E s):wpAny M A (if c then a else b) Q E s:=by
  rw[Jf l];exact h
theorem tJ {b:Bool}{it a:Addr}{i:Nat}{xs:Array Value}{Q:Fin->Shared->Prop}{B:Builtin}(m:B=match b with|true=>Builtin.«list_iterator.__next__»|false=>Builtin.«tuple_iterator.__next__»)
  (j:A.handled=none) (y:RIt b s.heap it a i) (sq:SqO b s.heap a xs) (g:xs[i]?=none)
  (h:∀ h' x,(∀ c o,c≠it->s.heap.get? c=some o->h'.get? c=some o)->(∃ o,h'.get? x=some o/\o.cls=.type "StopIteration")->E (.ref x) { s with heap:=h' }) :
  wpAny (model prog w) A (B ⟨[.ref it],[]⟩) Q E s:=by
 obtain⟨o,n,e,d⟩:=sq.ob;subst m;cases b <;>
 ·refine rf 0 y rfl rfl (rP.PyIte (show ¬((Value.ref a == Value.none)=true) from Jn) (rf 1 y rfl rfl (J0 (Y3 e d ?_))))
  simp only[YF,g];refine J0 (YD (J0 (Ye y (show 0<2 by decide) λr _ f=>?_)));exact ends j λp x k z=>h p x (λc o l q=>k c o ((f.2 c l).trans q)) z
theorem gE {b:Bool}{it a:Addr}{i:Nat}{xs:Array Value}{x:Value}{P:Value->Shared->Prop}(y:RIt b s.heap it a i)(sq:SqO b s.heap a xs)(c:xs[i]?=some x)(h:∀ h',RIt b h' it a (i+1)->Heap.SameBut it s.heap h'->P x { s with heap:=h' }):wpAny (model prog w) A (Builtin.SmallTypes.nextOf (.ref it)) P E s:=by
 cases b
 ·exact nx F.slot_tuple_iterator_next (ty y) F.entry_tuple_iterator_next (F.args_tuple_iterator_next_1 _) (rP (b:=false) rfl y sq c h)
 ·exact nx slot_listiter_next (ty y) entry_listiter_next (args_listiter_next _) (rP (b:=true) rfl y sq c h)
theorem mw {b:Bool}{it a:Addr}{i:Nat}{xs:Array Value}{P:Value->Shared->Prop}(e:A.handled=none) (y:RIt b s.heap it a i) (sq:SqO b s.heap a xs) (d:xs[i]?=none)
  (h:∀ h' x,(∀ c o,c≠it->s.heap.get? c=some o->h'.get? c=some o)->(∃ o,h'.get? x=some o/\o.cls=.type "StopIteration")->E (.ref x) { s with heap:=h' }) :
  wpAny (model prog w) A (Builtin.SmallTypes.nextOf (.ref it)) P E s:=by
 have inner:A.in1.handled=none:=e;cases b
 ·exact nx F.slot_tuple_iterator_next (ty y) F.entry_tuple_iterator_next (F.args_tuple_iterator_next_1 _) (tJ (b:=false) rfl inner y sq d h)
 ·exact nx slot_listiter_next (ty y) entry_listiter_next (args_listiter_next _) (tJ (b:=true) rfl inner y sq d h)
theorem ww {b:Bool}{a:Addr}{xs:Array Value}{P:Value->Shared->Prop}(sq:SqO b s.heap a xs)(h:P (.ref s.heap.objs.size) { s with heap:=s.heap.push { cls:=.type (cN b),data:=.fields #[.ref a,.int 0 0] } }):wpAny (model prog w) A (pyIter (.ref a)) P E s:=by
 cases b
 ·exact wpAny_pyIter_tuple sq h
 ·exact wpAny_pyIter_list sq h
end
theorem draws {prog:Program}{w:World}{A:Around}(l:A.handled=none)(b:Bool)(it a:Addr)(xs:Array Value)(f:a≠it) :
  Draws prog w A it [it,a] xs.size (λi v=>xs[i]?=some v) (λi h=>RIt b h it a i/\SqO b h a xs) :=
 ⟨λ_ _ st=>⟨_,st.1⟩,λ_ _ _ st k=>⟨k it JH _ st.1,st.2.mv λo e=>k a (JE _ JH) o e⟩,
  λi s Q E hi st k=>gE st.1 st.2 (Zj hi) λd y g=>k _ d s.toks (Zj hi) ⟨y,st.2.mv λo e=>(g.2 a f).trans e⟩ g,
  λs Q E st k=>mw l st.1 st.2 (by simp) λd x j z=>k d x (λc o m q=>j c o m q) z⟩
theorem j6 (b:Bool)(a:Addr)(o:Obj)(xs:Array Value) :
  Meets (Builtin.«enumerate.__new__» ⟨[.type "enumerate",.ref a],[]⟩) (λ_ R s=>s.heap.get? a=some o/\SqO b s.heap a xs /\
   R (.ok (.ret (.ref (s.heap.push { cls:=.type (cN b),data:=.fields #[.ref a,.int 0 0] }).objs.size)))
    { s with heap:=(s.heap.push { cls:=.type (cN b),data:=.fields #[.ref a,.int 0 0] }).push { cls:=.type "enumerate",data:=.fields #[.none,.bool false,.ref s.heap.objs.size,rawInt 0,.none,.none] } }) :=
 .of_wp λprog w A R s h=>by
  obtain⟨j,g,d,i,os⟩:=s;obtain⟨f,sq,h⟩:=h;have sub:=sub_enumerate;have e:SqO b (Shared.heap ⟨j,g,d,i,os⟩) a xs:=sq
  wp_walk using ZX f;refine wpAny_stack_any λst=>J7 ?_
  split
  case h_1 c _ _ _ _ _ =>
   cases (c == Value.type "enumerate")<;>(wp_walk using ZX f,ww e;exact⟨_,rfl,h⟩)
  all_goals (wp_walk using ZX f,ww e;exact⟨_,rfl,h⟩)
theorem lX {prog:Program}{w:World}{A:Around}{E:Value->Shared->Prop}{s:Shared}{b:Bool}{a:Addr}{xs:Array Value}{P:Value->Shared->Prop}(sq:SqO b s.heap a xs)(h:∀ h' e it,s.heap.objs.size<=e->s.heap.objs.size<=it->e≠it->IsEnum h' e it 0 .none->RIt b h' it a 0->(∀ c o,s.heap.get? c=some o->h'.get? c=some o)->P (.ref e) { s with heap:=h' }) :
  wpAny (model prog w) A (call (.type "enumerate") [.ref a]) P E s:=by
 obtain⟨o,n,d,_⟩:=sq.ob;refine callType_new F.called_enumerate (by decide) (F.typeCall_enumerate_1 _) (F.newCall_enumerate_1 _) (λobj=>F.args_object_init_2 obj _) F.entry_enumerate_new (j6 b a o xs) ⟨d,sq,⟨_,JA _ rfl,rfl⟩,?_⟩;refine h _ _ _ ?_ (Je _) ?_ (JA _ rfl) (J6 _ (JA _ rfl)) λc o e=>J6 _ (J6 _ e)
 ·rw[Ze];exact Nat.le_succ _
 ·rw[Ze];exact Nat.succ_ne_self _
structure Sep (z TI TO i1 i2:Addr) (f1 f2:List Addr):Prop where
 all:[z,TI,TO,i1,i2].Nodup
 z1:z∉f1
 t1:TO∉f1
 o1:i2∉f1
 z2:z∉f2
 t2:TO∉f2
 o2:i1∉f2
section
variable {prog:Program}{w:World}{A:Around}{E:Value->Shared->Prop}{s:Shared}{z TI TO i1 i2:Addr}{f1 f2:List Addr}{n1 n2 k:Nat}{P1 P2:Nat->Value->Prop}{S1 S2:Nat->Heap->Prop}{a b:Value}
theorem qI (S:Sep z TI TO i1 i2 f1 f2)(C:Draws prog w A i1 f1 n1 P1 S1)(B:Draws prog w A i2 f2 n2 P2 S2){Q:Value->Shared->Prop}(hz:IsZip s.heap z TI TO .none)(hI:IsPair s.heap TI (.ref i1) (.ref i2))(hO:IsPair s.heap TO a b)(d1:S1 k s.heap)(d2:S2 k s.heap)(l1:k<n1)(l2:k<n2)(h:∀ x y h' tk,P1 k x->P2 k y->IsZip h' z TI TO (rawInt s.heap.objs.size)->IsPair h' TO x y->S1 (k+1) h'->S2 (k+1) h'->IsPair h' s.heap.objs.size x y ->
   (∀ c o,c∉[z,TO,i1,i2]->s.heap.get? c=some o->h'.get? c=some o)->Q (.ref s.heap.objs.size) { s with heap:=h',toks:=tk }) :
  wpAny (model prog w) A (Builtin.«zip.__next__» ⟨[.ref z],[]⟩) (λr X=>∃ v,r=.done (.ret v)/\Q v X) E s:=by
 have K:=S.all;simp only[JP,Ja,Jc,JG,Z6]at K;obtain⟨⟨zI,t,V,U⟩,⟨IO,I1,I2⟩,⟨O1,O2⟩,aa,_⟩:=K;refine rf 2 hz rfl rfl (rf 3 hz rfl rfl (J0 (Y3 hI rfl (J0 (rf 0 hz rfl rfl (J7 ?_))))));simp only[Yk];refine J0 (YD (rf 4 hz rfl rfl (J0 (Ye hz (show 0<5 by decide) λha T m=>J0 ?_))));have D:IsZip ha z TI TO .ellipsis:=T;simp only[List.zipIdx_cons,List.zipIdx_nil,Yq,YH];refine J0 (J0 (ZY (J0 (C.item k _ _ _ l1 (C.frame _ _ _ d1 λc g o e=>(m.2 c λq=>S.z1 (q ▸ g)).trans e) λx hb tb Y db l=>J7 ?_))));have O:IsPair hb TO a b:=(l.2 TO O1).trans ((m.2 TO (Ne.symm t)).trans hO);refine J0 (Y3 O rfl (J0 (wpAny_updateSeq_pair O λg Oc sc=>J0 (wpAny_letGo (J7 ?_)))));have G:IsPair g TO x b:=Oc;have F:S2 k g:=B.frame _ _ _ d2 λc d o e=>(sc.2 c λq=>S.t2 (q ▸ d)).trans ((l.2 c λq=>S.o2 (q ▸ d)).trans ((m.2 c λq=>S.z2 (q ▸ d)).trans e));refine J0 (J0 (ZY (J0 (B.item k _ _ _ l2 F λy Z W py dd j=>J7 ?_))));have N:IsPair Z TO x b:=(j.2 TO O2).trans G;refine J0 (Y3 N rfl (J0 (wpAny_updateSeq_pair N λf Oe i=>J0 (wpAny_letGo (J7 (J7 ?_))))));have p:IsPair f TO x y:=Oe;refine J0 (Y3 p rfl (J0 (wpAny_newTuple (J0 ?_))));have sz:f.objs.size=s.heap.objs.size:=by rw[i.1,j.1,sc.1,l.1,m.1]
 have H:IsZip f z TI TO .ellipsis:=(i.2 z t).trans ((j.2 z U).trans ((sc.2 z t).trans ((l.2 z V).trans D)));have zn:f.objs.size≠z:=JQ (Jb H);unfold Builtin.SmallTypes.ownedTupleHandOut;refine J0 (Ye (J6 _ H) (show 0<5 by decide) λhf R J=>Ye R (show 1<5 by decide) λu P I=>J7 ⟨_,rfl,?_⟩);have up:∀ c o,c≠z->f.get? c=some o->u.get? c=some o:=λc o q e=>(I.2 c q).trans ((J.2 c q).trans (J6 _ e));have new:IsPair u f.objs.size x y:=(I.2 _ zn).trans ((J.2 _ zn).trans (JA _ rfl));have n:IsZip u z TI TO (rawInt f.objs.size):=P;rw[sz]at new n;show Q (.ref f.objs.size) _;rw[sz];refine h x y u W Y py n (up _ _ (Ne.symm t) p) ?_ ?_ new λc o g e=>?_
 ·exact C.frame _ _ _ db λc d o e=>up c o (λq=>S.z1 (q ▸ d)) ((i.2 c λq=>S.t1 (q ▸ d)).trans ((j.2 c λq=>S.o1 (q ▸ d)).trans ((sc.2 c λq=>S.t1 (q ▸ d)).trans e)))
 ·exact B.frame _ _ _ dd λc d o e=>up c o (λq=>S.z2 (q ▸ d)) ((i.2 c λq=>S.t2 (q ▸ d)).trans e)
 ·simp only[Ja,Jc,JG,Z6]at g
  obtain⟨M,L,c3,c4⟩:=g;exact up c o M ((i.2 c L).trans ((j.2 c c4).trans ((sc.2 c L).trans ((l.2 c c3).trans ((m.2 c M).trans e)))))
end
section
variable {prog:Program}{w:World}{A:Around}{E:Value->Shared->Prop}{s:Shared}{z TI TO i1 i2:Addr}{f1 f2:List Addr}{n1:Nat}{P1:Nat->Value->Prop}{S1:Nat->Heap->Prop}
theorem qH (S:Sep z TI TO i1 i2 f1 f2) (l:Draws prog w A i1 f1 n1 P1 S1) {Q:Fin->Shared->Prop}(hz:IsZip s.heap z TI TO .none) (u:IsPair s.heap TI (.ref i1) (.ref i2)) (v:S1 n1 s.heap)
  (h:∀ h' x,(∀ c o,c∉[z,TO,i1,i2]->s.heap.get? c=some o->h'.get? c=some o)->(∃ o,h'.get? x=some o/\o.cls=.type "StopIteration")->E (.ref x) { s with heap:=h' }):wpAny (model prog w) A (Builtin.«zip.__next__» ⟨[.ref z],[]⟩) Q E s:=by
 have i:=S.all;simp only[JP,Ja,Jc,JG,Z6]at i;obtain⟨⟨C,B,n,D⟩,⟨IO,I,H⟩,⟨G,F⟩,y,_⟩:=i;refine rf 2 hz rfl rfl (rf 3 hz rfl rfl (J0 (Y3 u rfl (J0 (rf 0 hz rfl rfl (J7 ?_))))));simp only[Yk];refine J0 (YD (rf 4 hz rfl rfl (J0 (Ye hz (show 0<5 by decide) λt m g=>J0 ?_))));have d:IsZip t z TI TO .ellipsis:=m;simp only[List.zipIdx_cons,List.zipIdx_nil,Yq,YH];refine J0 (J0 (ZY (J0 (l.done _ _ _ (l.frame _ _ _ v λc b o e=>(g.2 c λq=>S.z1 (q ▸ b)).trans e) λr x j ⟨p,ex,k⟩=>?_))));have f:IsZip r z TI TO .ellipsis:=j z _ n d;have xz:x≠z:=λq=>by rw[q,f]at ex;cases ex;exact absurd (show Value.type "zip" = Value.type "StopIteration" from k) (by decide)
 refine Ye f (show 0<5 by decide) λb _ sc=>h b x (λc o a e=>?_) ⟨p,(sc.2 x xz).trans ex,k⟩;simp only[Ja,Jc,JG,Z6]at a;exact(sc.2 c a.1).trans (j c o a.2.2.1 ((g.2 c a.1).trans e))
end
theorem sY (b j:Bool)(a f:Addr)(xs ys:Array Value):Meets (Builtin.«zip.__new__» ⟨[.type "zip",.ref a,.ref f],[]⟩) (λ_ R s=>SqO b s.heap a xs/\SqO j s.heap f ys /\
  ∀ h' z,(∃ TI TO i1 i2,[z,TI,TO,i1,i2].Nodup/\(∀ c∈[z,TI,TO,i1,i2],s.heap.objs.size<=c)/\IsZip h' z TI TO .none/\IsPair h' TI (.ref i1) (.ref i2)/\IsPair h' TO .none .none/\RIt b h' i1 a 0/\RIt j h' i2 f 0) ->
   (∀ c o,s.heap.get? c=some o->h'.get? c=some o)->R (.ok (.ret (.ref z))) { s with heap:=h' }) :=
 .of_wp λprog w A R s h=>by
  obtain⟨i,g,d,k,os⟩:=s;obtain⟨p,n,h⟩:=h;have sub:=sub_zip;have m:SqO b (Shared.heap ⟨i,g,d,k,os⟩) a xs:=p;have l:SqO j (Shared.heap ⟨i.push { cls:=.type (cN b),data:=.fields #[.ref a,.int 0 0] },g,d,k,os⟩) f ys:=n.mv λo e=>J6 _ e
  wp_walk using ww m,ww l
  refine⟨_,rfl,h _ _ ⟨_,_,_,_,?_,?_,JA _ rfl,J6 _ (J6 _ (JA _ rfl)),J6 _ (JA _ rfl),
   J6 _ (J6 _ (J6 _ (J6 _ (JA _ rfl)))),J6 _ (J6 _ (J6 _ (JA _ rfl)))⟩ λc o e=>?_⟩
  ·simp only[Ze,JP,Ja,Jc,JG,Z6]
   simp<;>lia
  ·simp only[Ze,Ja,Jc,JG]
   intro c q;have:i.objs.size<=c:=by lia
   exact this
  ·exact J6 _ (J6 _ (J6 _ (J6 _ (J6 _ e))))
end Own
namespace L2
open PySem PySem.Spec PyProof.Rows Own
section
variable {X:Cx}{pins:List (Addr × Obj)}{σ:St}{H:Hp}{s:Shared}{h':Heap}
theorem Inv.spunN {fp:List Addr}{T:Addr}{o:HO}{t':Nat}(I:Inv X pins σ H s)(k:∀ b o,b∉fp->s.heap.get? b=some o->h'.get? b=some o)(h:∀ b∈fp,FpOk X pins H b)(i:s.heap.objs.size<=T)(new:ObjOk X.prog X.w (upd H T o) h' T o):Inv X pins σ (upd H T o) { s with heap:=h',toks:=t' }:=by
 have f:H T=none:=I.hok.fresh i;have neT:∀ b u,s.heap.get? b=some u->b≠T:=λb u e=>JB (JD (Jb e) i);have g:∀ b u,H b=some u->b∉fp:=λb u e a=>by rw[(h b a).1]at e;cases e
 refine I.step (g':=s.gens) (d':=s.drawn) (ch:=fp) (λb a=>?_) (λb o _ _ d e _=>k b o d e) (λb o _ _ d e _=>⟨o.slots,k b o d e⟩) (λb o _ e n=>by rw[zJ (neT b o e)];exact n)
  (λb o d e=>⟨o,k b o d e⟩) (λb j e=>by rw[zJ (zH e f)];exact e) (λb o u e=>by rw[zJ (zH e f)];exact e) (λb C e=>⟨#[],by rw[zJ (zH e f),e];simp⟩) (λm p=>?_) (λb u e=>?_) I.bare
 ·obtain⟨E,y,D,x,w,t⟩:=h b a
  exact⟨x,y,w,t⟩
 ·obtain⟨o,A,B,l,r⟩:=p
  exact⟨o,A,B,k _ o (λa=>(h _ a).2.1 rfl) l,r⟩
 ·by_cases a:b=T
  ·subst a;rw[zB]at e;cases e;exact new
  ·rw[zJ a]at e
   refine(I.hok b u e).stay (λc v d q=>k c v ?_ q) (λc q=>by rw[zJ (zH q f)];exact q) λc j q=>by rw[zJ (zH q f)];exact q
   rcases d with z|z
   ·rw[z];exact g b u e
   ·exact g c _ z
theorem Inv.spun {fp:List Addr}{t':Nat}(I:Inv X pins σ H s)(k:∀ b o,b∉fp->s.heap.get? b=some o->h'.get? b=some o)(g:∀ b∈fp,FpOk X pins H b):Inv X pins σ H { s with heap:=h',toks:=t' }:=by
 have f:∀ b u,H b=some u->b∉fp:=λb u e d=>by rw[(g b d).1]at e;cases e
 refine I.step (g':=s.gens) (d':=s.drawn) (ch:=fp) (λb d=>?_) (λb o _ _ a e _=>k b o a e) (λb o _ _ a e _=>⟨o.slots,k b o a e⟩) (λb o _ e n=>n)
  (λb o a e=>⟨o,k b o a e⟩) (λb h e=>e) (λb o u e=>e) (λb A e=>⟨#[],by rw[e];simp⟩) (λm j=>?_) (λb u e=>?_) I.bare
 ·obtain⟨C,w,B,t,p,l⟩:=g b d
  exact⟨t,w,p,l⟩
 ·obtain⟨o,x,y,i,r⟩:=j
  exact⟨o,x,y,k _ o (λd=>(g _ d).2.1 rfl) i,r⟩
 ·refine(I.hok b u e).stay (λc v a q=>k c v ?_ q) (λc q=>q) λc h q=>q
  rcases a with z|z
  ·rw[z];exact f b u e
  ·exact f c _ z
end
def SqB:Bool->PySem.W.Frag->Hp->Addr->List V->Prop
 | true,K,H,a,xs=>SqL K H a xs
 | false,K,H,a,xs=>SqT K H a xs
section
variable {X:Cx}{pins:List (Addr × Obj)}{σ:St}{H:Hp}{s:Shared}{a c:Addr}{xs ys:List V}{b:Bool}
theorem Inv.sq (I:Inv X pins σ H s)(h:SqB b X.K H a xs):∃ its:List Value,Vals xs its/\SqO b s.heap a its.toArray:=by
 cases b
 ·obtain⟨its,r,p,z⟩:=I.tuple h
  exact⟨its,r,p⟩
 ·obtain⟨its,r,p,z⟩:=I.list h
  exact⟨its,r,p.isList⟩
theorem Inv.sq_inj (I:Inv X pins σ H s)(h:SqB b X.K H a xs)(h':SqB b X.K H a ys):xs=ys:=by
 cases b
 ·exact I.tuple_inj h h'
 ·exact I.list_inj h h'
theorem Inv.sq_ne (I:Inv X pins σ H s)(h:SqB b X.K H a xs)(f:FpOk X pins H c):c≠a:=by
 rintro rfl
 have d:∀ o,X.K.lookup c=some o->False:=λo e=>by
  have g:=I.ok.mod.kin c o e;rcases f.2.2.2.1 with z|z
  ·exact I.ok.noex c o g z
  ·exact absurd (JD (Jb g) (JR I.ok.bsz z)) (Yp _)
 cases b <;>
 ·rcases h with (h|⟨o,h⟩)|⟨o,_,_,e,_⟩
  ·rw[f.1]at h;cases h
  ·rw[f.1]at h;cases h
  ·exact d o e
end
def Pr (v u:V)(H:Hp)(x:V)(H':Hp):Prop:=∃ T,H T=none/\x=.ref T/\H'=upd H T (.tup [v,u])
theorem vn {P:Program}{w:World}{H:Hp}{h:Heap}{T:Addr}{v u:V}{a b:Value}(e:IsPair h T a b)(c:RelV v a)(d:RelV u b):ObjOk P w (upd H T (.tup [v,u])) h T (.tup [v,u]) :=
 ⟨show 2<=sizeLine by decide,[a,b],.cons c (.cons d .nil),⟨_,e,rfl,_,rfl,rfl⟩⟩
def Ite (K:PySem.W.Frag)(b:Bool)(a:Addr):It :=
 ⟨λi H=>∃ c x,SqB b K H a c/\c[i]?=some x,λi H x d=>∃ y,(∀ c,SqB b K H a c->c[i]?=some y)/\Pr (.int i) y H x d,λi H=>∃ c,SqB b K H a c/\c.length=i⟩
theorem mL {P:Program}{w:World}{K:PySem.W.Frag}{es:List Expr}{k1}{R:Pos}(b:Bool)(a e it:Addr)(j:e≠it):Turn P w K (.Tuple es k1 R) (Ite K b a) [e,it] e (λi h=>(∃ old,IsEnum h e it i old)/\RIt b h it a i) where
 mem:=JH
 obj:=λi h ⟨⟨old,f⟩,hi⟩ c m=>by
  rcases Ja.mp m with q|q
  ·rw[q];exact⟨_,f,λv z=>by cases z⟩
  ·rw[Js.mp q];exact⟨_,hi,λv z=>by cases z⟩
 keep:=λi h h' ⟨⟨old,f⟩,hi⟩ J=>⟨⟨old,J e (by simp) _ f⟩,J it (by simp) _ hi⟩
 item:=by
  intro X B y C m i pins s σ H E I l ⟨⟨old,f⟩,hi⟩ ⟨N,x,k,n⟩;subst B y C;obtain⟨d,t,p⟩:=I.sq k;obtain⟨u,L,Q⟩:=t.get n;have D:i<d.toArray.size:=by simpa using (J9.mp L).1
  refine wpAny_pyNext_enum_itemD (draws (prog:=X.prog) (w:=X.w) (A:=X.A.in1) (I.ok.hd m) b it a d.toArray (p.ne hi)) f ⟨hi,p⟩ D j (by simp[j,I.sq_ne k (l e (by simp))]) λv h1 O V Y W hT _ Z=>?_;obtain rfl:u=v:=Jr (L.symm.trans (by simpa using V));refine⟨_,rfl,wpAny_letOwnedTupleGo_enum Y λh2 F r=>?_⟩;have G:s.heap.objs.size≠e:=JQ (Jb f);have S:s.heap.objs.size≠it:=JQ (Jb hi);refine⟨.ref s.heap.objs.size,_,I.spunN (fp:=[e,it]) (λc o g q=>?_) l (Je _) (vn (v:=.int i) (u:=x) ((r.2 _ G).trans hT) ⟨O,rfl⟩ Q),rfl,⟨x,λys U=>by rw[I.sq_inj U k];exact n,_,I.fresh,rfl,rfl⟩,⟨⟨_,F⟩,(r.2 it (Ne.symm j)).trans W.1⟩,λc g=>?_⟩
  ·have M:c≠e:=λz=>g (by simp[z])
   exact(r.2 c M).trans (Z c o M (λz=>g (by simp[z])) q)
  ·rw[zJ,(l c g).1]
   rintro rfl;rcases Ja.mp g with z|z
   ·exact G z
   ·exact S (Js.mp z)
 done:=by
  intro X B y C m i pins s σ H E I l ⟨⟨old,f⟩,hi⟩ ⟨N,k,n⟩;subst B y C;obtain⟨d,t,p⟩:=I.sq k;have T:i=d.toArray.size:=by rw[Jj,<- t.length,n]
  refine wpAny_pyNext_enum_endD (draws (prog:=X.prog) (w:=X.w) (A:=X.A.in1) (I.ok.hd m) b it a d.toArray (p.ne hi)) f ⟨by rw[<- T];exact hi,p⟩ λh' eb=>⟨rfl,I.spun (t':=s.toks) (fp:=[e,it]) (λc o g q=>eb c o (λz=>g (by simp[z])) q) l⟩
 self:=λ_ _ _ _ _ ⟨⟨_,f⟩,_⟩ h=>wpAny_pyIter_enum f h
def bA (K:PySem.W.Frag)(b:Bool)(f:TA):TI:=λσ H R=>f σ H λe c=>∃ a d,e=[.ref a]/\SqB b K c a d/\R (Ite K b a) c
theorem nM {X:Cx}{a:Expr}{g:TA}{p pos o:Pos}{B:List Expr}{k1} (b:Bool) (y:Gl X "enumerate") (hm:X.mg "enumerate" = none) (ha:PA X [a] g) (v:starEach [a] X.env=[(false,eval a X.env)]:=by rfl) :
  PI X (.Tuple B k1 o) (.Call (.Name "enumerate" p) [a] [] pos) (bA X.K b g):=by
 intro pins s σ H R I h;refine Call_ (xJ I y hm (u:=.type "enumerate") (by rfl) (Yf (thn (ha pos pins s σ H _ I h) λJ i ⟨G,D,f,l,m⟩=>?_) v rfl));obtain⟨C,F,rfl,w,q⟩:=m;obtain⟨u,rfl,k⟩:=l.one;cases k;obtain⟨E,K,n⟩:=f.sq w;refine lX n λL e it t r ne j hi x=>wpAny_pyIter_enum j ⟨_,[e,it],_,_,D,rfl,f.kept (t':=i.toks) x,mL b C e it ne,⟨⟨_,j⟩,hi⟩,λc A=>?_,q⟩
 have d:i.heap.objs.size<=c:=by
  rcases Ja.mp A with z|z
  ·rw[z];exact t
  ·rw[Js.mp z];exact r
 exact f.fpOk d (f.hok.fresh d)
def Itz (K:PySem.W.Frag)(c e:Bool)(d f:Addr):It :=
 ⟨λi H=>∃ a b x y,SqB c K H d a/\SqB e K H f b/\a[i]?=some x/\b[i]?=some y,λi H v g=>∃ x y,(∀ a,SqB c K H d a->a[i]?=some x)/\(∀ b,SqB e K H f b->b[i]?=some y)/\Pr x y H v g,
  λi H=>∃ a,SqB c K H d a/\a.length=i⟩
def aF (K:PySem.W.Frag)(e d:Bool)(i:TA):TI:=λσ H R=>i σ H λh c=>∃ b a g f,h=[.ref b,.ref a]/\SqB e K c b g/\SqB d K c a f/\R (Itz K e d b a) c
section
variable {X:Cx}
theorem dg {prog:Program}{w:World}{A:Around}(d:A.handled=none)(b:Bool)(I a:Addr)(c:a≠I)(xs:Array Value) :
  Walks prog w A I [I,a] [I] xs.size (λi v=>xs[i]?=some v) (λi h=>(match b with|true=>h.IsListIter I a i|false=>h.IsTupleIter I a i)/\SqO b h a xs):=by
 cases b
 ·exact Walks.tuple d I a c xs
 ·exact Walks.list d I a c xs
theorem xP (F:X.calm=true)(b:Bool):CallR X (.builtin "all") (λvs H Q=>∃ a bs,vs=[.ref a]/\SqB b X.K H a (List.map V.bl bs)/\Q (.bl (bs.all id)) H):=by
 intro pins s σ H vs J Q I y h;obtain⟨a,bs,rfl,C,q⟩:=h;obtain⟨u,rfl,l⟩:=y.one;cases l;obtain⟨f,r,p⟩:=I.sq C
 have m:a≠s.heap.objs.size:=by
  obtain⟨o,n,e,_⟩:=p.ob;exact JB (Jb e)
 have D:f.length=bs.length:=by rw[<- r.length,Jg]
 refine call_all_walk (ww p ⟨s.heap.objs.size,[s.heap.objs.size,a],[s.heap.objs.size],_,_,_,λi=>bs.getD i true,rfl,dg (show X.A.in1.handled=none from I.ok.hd F) b _ a m f.toArray,?_,?_,?_⟩)
 ·refine⟨?_,p.mv λo e=>J6 _ e⟩
  cases b<;>exact⟨_,JA _ rfl,rfl,rfl⟩
 ·intro i v L N O B G
  have g:f[i]?=some v:=by simpa using B
  have hi:=(J9.mp g).1
  have e:(List.map V.bl bs)[i]?=some (V.bl (bs.getD i true)):=by
   rw[JU,JN,J8 (by lia)];rfl
  obtain⟨K,t,l⟩:=r.get e;rw[g]at t;obtain rfl:=Jr t;obtain rfl:v=Value.bool (bs.getD i true):=l;exact YQ G
 ·intro M w E
  refine⟨.bl (bs.all id),H,I.kept (t':=w) λc o e=>E c o ?_ (J6 _ e),?_,q⟩
  ·exact λz=>JB (Jb e) (Js.mp z)
  ·show Value.bool _=Value.bool _
   congr 1
   rw[Jj,D,Yh,Yt,Yt];constructor
   ·intro h x A
    obtain⟨j,k,e⟩:=List.getElem_of_mem A;have d:=h j (YN.mpr k);rw[JN,J8 k]at d;rw[<- e];exact d
   ·intro h j k
    rw[JN,J8 (YN.mp k)];exact h _ (List.getElem_mem _)
theorem xG:CallR X (.builtin "isinstance") (λvs H Q=>∃ x T t k,vs=[x,.ty T]/\TyOf X.K H x t/\PySem.W.kitOne X.K t (.type T)=some k/\Q (.bl k) H):=by
 intro pins s σ H vs g Q I c h;obtain⟨x,T,t,k,rfl,e,f,q⟩:=h;obtain⟨u,v,rfl,d,a⟩:=c.two;cases (show v=Value.type T from a);exact sI I d e f λb=>⟨.bl k,H,I.tok b,rfl,q⟩
end
example (K:PySem.W.Frag):PySem.W.kitOne K (.type "int") (.type "tuple")=some false:=by rfl
example (K:PySem.W.Frag):PySem.W.kitOne K (.type "int") (.type "bool")=some false:=by first|rfl|decide|(with_unfolding_all rfl)
theorem zD {H:Hp}{p:Addr}(h:H p=none)(o:HO):Same H (upd H p o):=λb u q=>by rw[zJ (zH q h)];exact q
def bE (N N':List Str)(sc scope:Scope)(cap:List (Option Nat)):Bool :=
 decide (scope.kind=.function) && (scope.names.all λy=>decide (y.2≠.cell) && (decide (y.2≠.local) || decide (scope.names.lookup y.1=some .local)) &&
  (decide (y.2≠.free) || (decide (sc.names.lookup y.1=some .cell) || decide (sc.names.lookup y.1=some .free)))) && decide (cap.length=N'.length) &&
 ((N'.zip cap).all λp=>match p.2 with
  | none=>true
  | some i=>decide (N[i]?=some p.1) && (decide (scope.names.lookup p.1=some .free) && (decide (sc.names.lookup p.1=some .cell) || decide (sc.names.lookup p.1=some .free))))
theorem CapOk.of {N N':List Str}{sc scope:Scope}{cap:List (Option Nat)}(h:bE N N' sc scope cap=true):CapOk N N' sc scope cap:=by
 unfold bE at h;simp only[YC,Yt,Bool.or_eq_true,Y4]at h;obtain⟨⟨⟨g,b⟩,f⟩,d⟩:=h;refine⟨g,λy a=>(b y a).1.1,λy a e=>?_,λy a e=>?_,f,λp c i e=>?_⟩
 ·rcases (b y a).1.2 with z|z
  ·exact absurd e z
  ·exact z
 ·rcases (b y a).2 with z|z
  ·exact absurd e z
  ·exact z
 ·have q:=d p c
  rw[e]at q;simp only[YC,Bool.or_eq_true,Y4]at q;exact q
def Nx (n i:Nat)(p:Prop):Prop:=∃ a,a<n-i/\a=n-(i+1)/\i+1<=n/\p
theorem nx {n i:Nat}{p:Prop}(h:i<n)(q:p):Nx n i p:=⟨n-(i+1),by lia,rfl,h,q⟩
theorem pF {K:PySem.W.Frag}{b:Bool}{a:Addr}{xs:List V}{g:TG}{l:TS}{D:Ends}{σ:St}{H:Hp}(c:Nat->St->Hp->Prop)(v:c 0 σ H)(s:∀ i σ H,i<=xs.length->c i σ H->SqB b K H a xs)(r:∀ i x σ H T,xs[i]?=some x->H T=none->c i σ H->g (.ref T) σ (upd H T (.tup [.int i,x])) λf k=>l { D with nx:=c (i+1),ct:=c (i+1),bk:=D.nx } f k)(t:∀ σ H,c xs.length σ H->D.nx σ H) :
  ∃ W:Nat->Nat->St->Hp->Prop,(∃ m,W 0 m σ H)/\∀ i m σ H,W i m σ H ->
   ((Ite K b a).stop i H/\D.nx σ H)\/((Ite K b a).go i H/\∃ N:St->Hp->Prop,(∀ h d,N h d->∃ n,n<m/\W (i+1) n h d)/\∀ x d,(Ite K b a).yld i H x d->g x σ d λf k=>l { D with nx:=N,ct:=N,bk:=D.nx } f k):=by
 refine⟨λi m σ H=>m=xs.length-i/\i<=xs.length/\c i σ H,⟨xs.length,by simp,Y1 _,v⟩,?_⟩;rintro i m σ H ⟨rfl,hi,p⟩;have q:=s i σ H hi p;by_cases j:i<xs.length
 ·refine .inr ⟨⟨xs,xs[i],q,J8 j⟩,c (i+1),λh d o=>⟨xs.length-(i+1),by lia,rfl,j,o⟩,λx d ⟨y,w,T,u,z,e2⟩=>?_⟩
  subst z e2;exact r i y σ H T (w xs q) u p
 ·have e:i=xs.length:=by lia
  subst e;exact .inl ⟨⟨xs,q,rfl⟩,t σ H p⟩
section
theorem ug {ns:List Int}{i:Nat}(h:i<ns.length):ns.getD i 0∈ns:=by
 rw[JN,J8 h];exact List.getElem_mem h
end
end L2
namespace L2
open PySem PySem.Spec PyProof.Rows Own
theorem vO {K:PySem.W.Frag}{a:Addr}{xs:List V}{g:TG}{h:TE}{l:Addr}{σ:St}{H:Hp}{Q:VK}(b:Nat->List V->St->Hp->Prop)(q:b 0 [] σ H)(o:∀ i acc σ H,b i acc σ H->H l=some (.lst acc)/\SqT K H a xs)(n:∀ i x acc σ H,xs[i]?=some x->b i acc σ H->g x σ H λc r=>h c r λy j=>j l=some (.lst acc)/\acc.length<sizeLine/\Nx xs.length i (b (i+1) (acc++[y]) c (upd j l (.lst (acc++[y])))))(hd:∀ acc σ H,b xs.length acc σ H->Q (.ref l) H):∃ W:Nat->Nat->List V->St->Hp->Prop,(∃ m,W 0 m [] σ H)/\LCW (Itt K a) g iP h l Q W:=by
 refine⟨λi m acc σ H=>m=xs.length-i/\i<=xs.length/\b i acc σ H,⟨_,rfl,Y1 _,q⟩,?_⟩;rintro i m acc σ H ⟨rfl,hi,p⟩;obtain⟨k,d⟩:=o i acc σ H p;refine⟨k,?_⟩;by_cases f:i<xs.length
 ·refine .inr ⟨⟨xs,xs[i],d,J8 f⟩,λx s ⟨e,y⟩=>?_⟩
  subst e;exact n i x acc σ _ (y xs d) p
 ·obtain rfl:i=xs.length:=by lia
  exact .inl ⟨⟨xs,d,Je _⟩,hd acc σ H p⟩
theorem nX {K:PySem.W.Frag}{a:Addr}{xs:List V}{g:TG}{h:TE}{l:Addr}{σ:St}{H:Hp}{Q:VK}(b:Nat->List V->St->Hp->Prop)(q:b 0 [] σ H)(o:∀ i acc σ H,b i acc σ H->H l=some (.lst acc)/\SqL K H a xs)(n:∀ i x acc σ H,xs[i]?=some x->b i acc σ H->g x σ H λc r=>h c r λy j=>j l=some (.lst acc)/\acc.length<sizeLine/\Nx xs.length i (b (i+1) (acc++[y]) c (upd j l (.lst (acc++[y])))))(hd:∀ acc σ H,b xs.length acc σ H->Q (.ref l) H):∃ W:Nat->Nat->List V->St->Hp->Prop,(∃ m,W 0 m [] σ H)/\LCW (Itl K a) g iP h l Q W:=by
 refine⟨λi m acc σ H=>m=xs.length-i/\i<=xs.length/\b i acc σ H,⟨_,rfl,Y1 _,q⟩,?_⟩;rintro i m acc σ H ⟨rfl,hi,p⟩;obtain⟨k,d⟩:=o i acc σ H p;refine⟨k,?_⟩;by_cases f:i<xs.length
 ·refine .inr ⟨⟨xs,xs[i],d,J8 f⟩,λx s ⟨e,y⟩=>?_⟩
  subst e;exact n i x acc σ _ (y xs d) p
 ·obtain rfl:i=xs.length:=by lia
  exact .inl ⟨⟨xs,d,Je _⟩,hd acc σ H p⟩
theorem lE {lo:Int}{n:Nat}{g:TG}{tt:TT}{f:TE}{l:Addr}{σ:St}{H:Hp}{Q:VK}(c:Nat->List V->St->Hp->Prop)(q:c 0 [] σ H)(o:∀ i acc σ H,c i acc σ H->H l=some (.lst acc))(k:∀ i acc σ H,i<n->c i acc σ H->g (.int (lo+i)) σ H λa r=>tt a r λb j=>if b=true then f a j λy h=>h l=some (.lst acc)/\acc.length<sizeLine/\Nx n i (c (i+1) (acc++[y]) a (upd h l (.lst (acc++[y])))) else Nx n i (c (i+1) acc a j))(hd:∀ acc σ H,c n acc σ H->Q (.ref l) H):∃ W:Nat->Nat->List V->St->Hp->Prop,(∃ m,W 0 m [] σ H)/\LCW (Itr lo n) g tt f l Q W:=by
 refine⟨λi m acc σ H=>m=n-i/\i<=n/\c i acc σ H,⟨_,rfl,Y1 _,q⟩,?_⟩;rintro i m acc σ H ⟨rfl,hi,p⟩;refine⟨o i acc σ H p,?_⟩;by_cases d:i<n
 ·refine .inr ⟨d,λx s ⟨e,y⟩=>?_⟩
  subst e y;exact k i acc σ _ d p
 ·obtain rfl:i=n:=by lia
  exact .inl ⟨Je _,hd acc σ H p⟩
end L2
namespace L2
open PySem PySem.Spec PyProof.Rows PySem.Calls PySem.NumText Own
theorem qo {M:Model}{K:PySem.W.Frag}{h:Heap}(X:K.In h) (e:PySem.W.nsIn K cStatics "sys.int_max_str_digits" = some none):PySem.W.Looks M h Builtin.intMaxStrDigits 4300:=by
 show PySem.W.Looks M h (nsGet cStatics "sys.int_max_str_digits" >>= _) 4300;exact(PySem.W.looks_nsIn X e).andThen .now
theorem iK {M:Model}{A:Around}{E:Value->Shared->Prop}{s:Shared}{Q:Value->Shared->Prop}{v:Value}{text:List Nat}{n:Int}
  (c:PySem.W.Looks M s.heap Builtin.intMaxStrDigits 4300) (a:¬(text.takeWhile (· != 0)).length<=640) (b:(int_private% "readNumeral") 4300 10 (text.takeWhile (· != 0))=(int_private% "Numeral.value") n)
  (ha:((text.takeWhile (· != 0)).length == text.length)=true) (h:Q (.int n s.toks) { s with toks:=s.toks+1 }):wpAny M A ((int_private% "intFromText") v text 10) Q E s:=by
 cases s
 repeat (any_goals (first|assumption|(with_reducible refine wpAny_ite_false (Jq a) ?_)|((with_reducible show wpAny _ _ Builtin.intMaxStrDigits _ _ _);refine PySem.W.Looks.at c ?_)|wp_step))
 all_goals (try (rw[b];dsimp only))
 repeat (any_goals (first|assumption|(with_reducible refine wpAny_ite_true (by rw[ha];rfl) ?_)|wp_step))
theorem om {K:PySem.W.Frag}{x:Str}{u:Tok}{n:Int}(e:PySem.W.nsIn K cStatics "sys.int_max_str_digits" = some none) (f:x.length<=4300) (g:¬(numSeenOf x).length<=640) (hn:intText? x=some n) :
  Meets (Builtin.«int.__new__» ⟨[.type "int",.str x u],[]⟩) (λ_ R s=>K.In s.heap/\R (.ok (.ret (.int n s.toks))) { s with toks:=s.toks+1 }) :=
 .of_wp λprog w A R s h=>by
  cases s with
  | mk j y z o os =>
  obtain⟨i,h⟩:=h;have kinds:=And.intro PySem.W.KIN.str_int (And.intro PySem.W.KIN.str_idx PySem.W.KIN.str_trunc);obtain⟨v,t,r⟩:=kinds;have q:=F.conv_sub_int;have p:=F.madeHere_int;have ofText:typeOf (.str x u)=pure (.type "str"):=rfl;have d:PySem.W.Looks (model prog w) j Builtin.intMaxStrDigits 4300:=qo i e
  have c:(int_private% "readNumeral") 4300 10 (numSeenOf x)=(int_private% "Numeral.value") n/\((numSeenOf x).length == (numTextOf x).length)=true:=by
   rcases read4300 x (JR f (by decide)) with ⟨m,b,l,k⟩|⟨b,_⟩
   ·rw[hn]at b;cases b;exact⟨k,l⟩
   ·rw[hn]at b;cases b
  have a:=PySem.W.KIN.Hid.mk (And.intro d (And.intro g c));clear d g c f hn e i
  repeat (any_goals (first|assumption|((with_reducible show wpAny _ _ ((int_private% "intFromText") _ _ _) _ _ _);refine iK a.out.1 a.out.2.1 a.out.2.2.1 a.out.2.2.2 ?_)|wp_step))
  all_goals (first|exact Exists.intro _ (And.intro rfl h)|skip)
section
variable {X:Cx}
theorem qA (e:PySem.W.nsIn X.K cStatics "sys.int_max_str_digits" = some none):CallR X (.type "int") (λvs H Q=>∃ x:Str,vs=[.str x]/\AllDigits x.cps.toList/\640<x.length/\x.length<=4300/\Q (.int (digitsVal x.cps.toList:Nat)) H):=by
 intro pins s σ H vs o Q I k h;obtain⟨x,rfl,j,p,a,q⟩:=h;obtain⟨u,rfl,t,rfl⟩:=k.one;have d:x.cps.toList.length=x.length:=by simp[Str.length]
 have ne:x.cps.toList≠[]:=λz=>by rw[z]at d;simp at d;lia
 have i:=intText_digits j ne a
 have seen:(numSeenOf x).length=x.length:=by
  rcases read4300 x (JR a (by decide)) with ⟨m,f,n,r⟩|⟨f,_⟩
  ·have b:x.cps.all (· < 128)=true:=by
    rw[<- Array.all_toList];refine Yt.mpr λc l=>?_;have:=(j c l).2;exact Jw (show c<128 by lia)
   have g:=eq_of_beq n;rw[g];show (if x.cps.all (· < 128)=true then x.cps.toList else _).length=_;rw[Jp b,d]
  ·rw[i]at f;cases f
 exact call_int_1 (om (K:=X.K) e a (by lia) i) ⟨I.kIn,(typeIs_int _ _ _),.int _,H,I.tok _,⟨_,rfl⟩,q⟩
theorem ir:OpR X (binaryOp .Mult) (λx y H Q=>∃ (c:Nat) (n:Int),x=.str ⟨#[c]⟩/\y=.int n/\0<=n/\n<=100000/\∀ z:Str,z.cps.toList=List.replicate n.toNat c->Q (.str z) H):=by
 intro pins s σ H x y v u Q I g f h;obtain⟨c,n,rfl,rfl,l,j,q⟩:=h;obtain⟨t,rfl⟩:=g;obtain⟨i,rfl⟩:=f;have one:(⟨#[c]⟩:Str).length=1:=rfl;refine PySem.P.mul_str (by rw[Jq (by lia),Jq (by lia)];rfl) (λa b=>?_) (λa b=>?_) ?_
 ·rw[one]
  have:(1:Int)<=(2 ^ 63-1) / n:=by
   rw[Int.le_ediv_iff_mul_le (by lia)];lia
  lia
 ·rw[one]
  exact Jq (by have:=JM;lia)
 ·by_cases a:n<1
  ·rw[Jp a]
   have e:n=0:=by lia
   subst e;exact⟨by decide,.str _,H,I.tok _,⟨_,rfl⟩,q _ rfl⟩
  ·rw[Jf a]
   by_cases b:n=1
   ·subst b
    rw[Jp (show ((1:Int) == 1 || (⟨#[c]⟩:Str).length == 0)=true from rfl)];exact⟨.str _,H,I,⟨_,rfl⟩,q _ rfl⟩
   ·have nb:¬(n == 1 || (⟨#[c]⟩:Str).length == 0)=true:=by simp[b,one]
    rw[Jf nb]
    have lst:∀ (k:Nat) (acc:Array Nat),((List.replicate k #[c]).foldl (·++·) acc).toList=acc.toList++List.replicate k c:=λk=>by
     induction k with
     | zero=>intro acc;simp
     | succ k ih=>intro acc;rw[Y9,Zq,ih,Y9];simp
    have d:=lst n.toNat #[];refine⟨?_,.str _,H,I.tok _,⟨_,rfl⟩,q _ (by rw[d];rfl)⟩;have ln:=JV List.length d;simp only[Jt,Jd,Zb]at ln;show (Array.size _)<=sizeLine;rw[ln];have:=JM;simp;lia
end
end L2
namespace L2
open PySem PySem.Spec PyProof.Rows Own
def wV (n:Nat):List V:=(List.range n).map λ(i:Nat)=>V.int i
theorem ur {acc:Array Value}{n:Nat}(h:ItemsOf (λi v=>∃ t,v=Value.int (0+i*1) t) acc n):Vals (wV n) acc.toList:=by
 obtain⟨d,c⟩:=h
 have go:∀ (l:List Value) (k:Nat),(∀ (j:Nat) (v:Value),l[j]?=some v->∃ t,v=Value.int ((k+j:Nat):Int) t)->Vals ((List.range l.length).map λ(i:Nat)=>V.int ((k+i:Nat):Int)) l:=by
  intro l
  induction l with
  | nil=>intro k _;exact .nil
  | cons x l ih =>
   intro k b;rw[Ya,List.range_succ_eq_map,Yd,Zs];refine .cons (by obtain⟨t,e⟩:=b 0 x rfl;exact⟨t,e⟩) ?_
   have:=ih (k+1) λj v a=>by
    obtain⟨t,e⟩:=b (j+1) v (by simpa using a);exact⟨t,by rw[e];congr 1;lia⟩
   refine cast (JV (λz=>Vals z l) (ZJ λi _=>?_)) this;show V.int ((k+1+i:Nat):Int)=V.int ((k+(i+1):Nat):Int)
   congr 2;lia
 have:=go acc.toList 0 λj v a=>by
  obtain⟨t,e⟩:=c j v (by simpa using a);exact⟨t,by rw[e];congr 1;lia⟩
 rw[Jt,d]at this;unfold wV;refine cast (JV (λz=>Vals z acc.toList) (ZJ λi _=>?_)) this;show V.int ((0+i:Nat):Int)=V.int (i:Int);rw[Yy]
theorem lj (n:Nat):(wV n).length=n:=by simp[wV]
section
variable {X:Cx}
def gy (b:Bool)(d:TA):TE:=λσ H Q=>d σ H λc a=>∃ j:Nat,c=[.int j]/\j<=100000/\∀ l,a l=none->Q (.ref l) (upd a l (if b=true then .lst (wV j) else .tup (wV j)))
theorem kN {j:Nat}(h:j<=100000):Builtin.Range.small 0 (j:Int) 1=true:=small_one (by lia) (by lia) (by lia) (by lia)
theorem iU {j:Nat}:Builtin.Range.rangeSize 0 (j:Int) 1=((j:Nat):Int):=by rw[rangeSize_one];split<;>lia
theorem tQ {a:Expr}{x:TA}{p i pos c:Pos}(F:X.calm=true) (w:Gl X "list") (r:X.mg "list" = none) (v:Gl X "range") (m:X.mg "range" = none) (ha:PA X [a] x) (E:starEach [a] X.env=[(false,eval a X.env)]:=by rfl)
  (d:starEach [.Call (.Name "range" i) [a] [] c] X.env=[(false,eval (.Call (.Name "range" i) [a] [] c) X.env)]:=by rfl):PE X (.Call (.Name "list" p) [.Call (.Name "range" i) [a] [] c] [] pos) (gy true x):=by
 intro pins s σ H Q I h;refine YV (xJ I w r (u:=.type "list") (by rfl) (Yf ?_ d rfl));rw[d];refine Calls.spliced_cons (Call_ (xJ I v m boot_range (Yf (thn (ha c pins s σ H _ I h) λL g ⟨K,M,l,A,B⟩=>?_) E rfl)));obtain⟨j,rfl,k,q⟩:=B;obtain⟨u,rfl,t,rfl⟩:=A.one;refine call_range_1 (Calls.spliced_nil ?_);refine call_list_range (n:=j) (l.ok.hd F) (IsRange.new ..) (kN k) iU (JR k (by decide)) λG y f J C e it=>?_;have D:∀ b o,g.heap.get? b=some o->G.get? b=some o:=λb o z=>C b o (J6 _ z);refine⟨.ref _,_,l.laid (t':=y) (o:=.lst (wV j)) D ?_ ⟨by rw[lj];exact JR k (by decide),f.toList,J,ur it,by simpa using e⟩,rfl,q _ (l.hok.fresh ?_)⟩
 all_goals (show g.heap.objs.size<=(g.heap.push _).objs.size;rw[Ze];exact Nat.le_succ _)
theorem oV (g:X.A.units<cLine):OpR X (compareOp .NotEq) (λx y H Q=>∃ a b xs,x=.ref a/\y=.ref b/\SqL X.K H a xs/\SqL X.K H b []/\Q (.bl (!xs.isEmpty)) H):=by
 intro pins s σ H x y v u Q I k i h;obtain⟨a,b,xs,rfl,rfl,o,n,q⟩:=h;cases k;cases i;obtain⟨r,c,f,_⟩:=I.list o;obtain⟨p,l,d,_⟩:=I.list n;cases l;have m:=c.length
 cases xs with
 | nil =>
  cases c
  exact SeqAt.RcNeAt.lists (e:=λ_=>true) f.isList d.isList rfl g (λj h=>absurd h (Nat.not_lt_zero _)) X.prog X.w _ _ ⟨.bl _,H,I,rfl,q⟩
 | cons z t =>
  exact SeqAt.RcNeAt.lists_lengths f.isList d.isList (by rw[Jj,<- m];simp) g X.prog X.w _ _ ⟨.bl _,H,I,rfl,q⟩
end
section
variable {prog:Program}{w:World}{A:Around}{E:Value->Shared->Prop}{s:Shared}
theorem qE {sl:Addr}{t:Tok}{Q:Int × Int × Nat->Shared->Prop}(c:s.heap.IsSliceOf sl .none .none (.int (-1) t))(h:Q (1,-1,2) s):wpAny (model prog w) A (Builtin.Slice.sliceApplied (.ref sl) (pure (2:Int))) Q E s:=by
 obtain⟨os,a,d,b⟩:=id c;unfold Builtin.Slice.sliceApplied Builtin.Slice.sliceFields;refine J0 (J0 (Zd a b (x:=.none) rfl (J0 (Zd a b (x:=.none) rfl (J0 (Zd a b (x:=.int (-1) t) rfl (J7 ?_)))))));refine J0 (slicePart_int ?_);show wpAny _ _ (if ((-1:Int) == 0)=true then _ else _) _ _ s;rw[Jf (by decide)];refine J0 (ZM (J0 (ZM (J0 (J7 ?_)))));show wpAny _ _ (match Builtin.Slice.sliceAdjust none none (-1) (2:Int) with|(lo,hi)=>pure (lo,(-1:Int),Builtin.Slice.slicePlaces lo hi (-1))) _ _ s;have e:Builtin.Slice.sliceAdjust none none (-1) (2:Int)=(1,-1):=by decide
 rw[e];have e2:Builtin.Slice.slicePlaces (1:Int) (-1) (-1)=2:=by decide
 show wpAny _ _ (pure ((1:Int),(-1:Int),Builtin.Slice.slicePlaces (1:Int) (-1) (-1))) _ _ s;rw[e2];exact J7 h
theorem vA {t sl:Addr}{x y:Value}{tk:Tok}{Q:Value->Shared->Prop}(a:IsTup s.heap t #[x,y]) (e:s.heap.IsSliceOf sl .none .none (.int (-1) tk)) (h:Q (.ref s.heap.objs.size) { s with heap:=s.heap.push { cls:=.type "tuple",data:=.seq #[y,x] } }) :
  wpAny (model prog w) A (getItem (.ref t) (.ref sl)) Q E s:=by
 obtain⟨os,b,c,g⟩:=id e;have d:s.TypeIs (.ref sl) "slice":=⟨os,b,c⟩;unfold getItem
 try with_reducible refine JW ?_
 first|refine J0 (J7 ?_)|skip
 refine J0 (wpAny_sequenceKey a.typeIs (by decide) (J0 (wpAny_callSpecial?_slot (name:=Str.ofString "__getitem__") a.typeIs Yg (Y5 Yg a.typeIs PyProof.Rows.entry_tuple_getitem ?_ (PyProof.Rows.args_tuple_getitem _ _)))));show wpAny _ _ (Builtin.Tuple.tupleItemsOf (.ref t) >>= _) _ _ s;refine J0 (tupleItemsOf_ a (J0 (YG d ?_)));rw[Jp (by decide)];refine J0 (qE e ?_);show wpAny _ _ (if ((1:Int) == 0 && (-1:Int) == 1 && (2:Nat) == 2)=true then _ else _) _ _ s;rw[Jf (by decide)];have f:((List.range 2).filterMap λ(k:Nat)=>(#[x,y]:Array Value)[((1:Int)+(k:Int)*(-1)).toNat]?).toArray = #[y,x]:=rfl;rw[f]
 first
  | exact J0 (m:=Builtin.Tuple.tupleExact _) (JY (J7 ⟨_,rfl,J7 h⟩) (by show 2<=sizeLine;decide))
  | exact J0 (m:=Builtin.Tuple.tupleExact _) (JY (J0 (J7 (J7 ⟨_,rfl,J7 h⟩))) (by show 2<=sizeLine;decide))
  | exact J0 (J0 (m:=Builtin.Tuple.tupleExact _) (JY (J7 (J7 ⟨_,rfl,J7 h⟩)) (by show 2<=sizeLine;decide)))
  | exact J0 (J0 (m:=Builtin.Tuple.tupleExact _) (JY (J7 ⟨_,rfl,J7 h⟩) (by show 2<=sizeLine;decide)))
end
section
variable {X:Cx}
def cG (K:PySem.W.Frag)(c:TE)(ts:TO):TE:=λσ H Q=>c σ H λx d=>ts σ d λo b=>o=some (-1)/\∃ a u v,x=.ref a/\SqT K b a [u,v]/\∀ p,b p=none->Q (.ref p) (upd b p (.tup [v,u]))
theorem nP {e st:Expr}{g:TE}{ts:TO}{i pos:Pos}(C:PE X e g)(A:PO X (some st) ts):PE X (.Subscript e (.Slice none none (some st) i) pos) (cG X.K g ts):=by
 intro pins s σ H Q I h;refine Subscript_ (thn (C pins s σ H _ I h) λv u ⟨x,K,G,w,z⟩=>wpAny_Slice ?_);rw[evalPart_none];refine J7 (J7 (thn (A pins u σ K _ G z) λf c ⟨o,J,F,po,y⟩=>?_));obtain⟨rfl,a,p,n,rfl,B,k⟩:=y;cases w;obtain⟨t,rfl⟩:∃ t,f=.int (-1) t:=by cases po;exact⟨_,rfl⟩
 have d:Inv X pins σ J { c with heap:=c.heap.push { cls:=.type "slice",data:=.fields #[.none,.none,.int (-1) t] } }:=F.kept (t':=c.toks) λb ob q=>J6 _ q;obtain⟨L,r,j,M⟩:=d.tuple B;obtain⟨m,l,rfl,E,D⟩:=r.two;show wpAny (model X.prog X.w) X.A (subscriptTail e (.Slice none none (some st) i) (.ref a) (.ref c.heap.objs.size)) (EP X pins σ Q) X.xe { c with heap:=c.heap.push { cls:=.type "slice",data:=.fields #[.none,.none,.int (-1) t] } };refine tail_any (ops:=[.ref a,.ref c.heap.objs.size]) j.typeIs PyProof.Rows.slot_tuple_getitem.lookup (vA j (ZN ..) ?_) (by with_unfolding_all rfl);exact⟨.ref _,_,d.laid (t':=c.toks) (o:=.tup [n,p]) (λb ob q=>J6 _ q) (Je _) ⟨by show 2<=sizeLine;decide,[l,m],.cons D (.cons E .nil),TupX.new _ _⟩,rfl,k _ (d.hok.fresh (Je _))⟩
theorem oj (l:Addr) (o:Obj) (items:Array Value) (n:Nat) (x:Value) (j:Nat) (E:o.cls=.type "tuple") (hd:o.data=.seq items n) (e:Nat->Bool) (y:∀ i,i<j->e i=false) (v:e j=true) (D:j<items.size) :
  Meets (Builtin.«tuple.index» ⟨[.ref l,x],[]⟩) (λA R s=>s.heap.get? l=some o/\(∀ i (h:i<items.size),SeqAt.EqAt A.in1 s items[i] x (e i))/\R (.ok (.ret (.int j s.toks))) { s with toks:=s.toks+1 }) :=
 .of_wp λprog w A R s h=>by
  cases s with
  | mk m z C g os =>
  obtain⟨p,t,h⟩:=h;unfold Builtin.«tuple.index»;simp only[Std.Legacy.Range.forIn_eq_forIn_range']
  wp_walk using Y3 p hd,wpAny_forIn_list _ (λrest b c=>c=⟨m,z,C,g,os⟩/\b.1=none/\∃ i,i<=j/\rest=List.range' i (items.size-i)) _
  case turn =>
   rintro i rest b c ⟨rfl,u,d,hi,a⟩;have k:items.size-d=(items.size-(d+1))+1:=by lia
   rw[k,List.range'_succ]at a;injection a with B e2;subst B;have f:i<items.size:=by lia
   have r:items[i]?=some items[i]:=by simp[f]
   simp only[r];refine J0 (t i f prog w _ _ ?_);by_cases q:i=j
   ·subst q;rw[v];wp_walk;exact⟨_,rfl,h⟩
   ·rw[y i (by lia)];wp_walk;exact⟨rfl,rfl,i+1,by lia,e2⟩
  case fin =>
   rintro b c ⟨rfl,u,d,hi,a⟩;have:=JV List.length a;simp at this;lia
  case h=>exact⟨rfl,rfl,0,Y1 _,by simp[Std.Legacy.Range.size]⟩
theorem ue:∀ {ns:List Int}{k:Int}{i:Nat},i<ns.idxOf k->(ns.getD i 0 == k)=false
 | [],k,i,h=>by simp at h
 | n::ns,k,i,h=>by
  rw[List.idxOf_cons]at h
  cases e:n == k with
  | true=>rw[e]at h;simp at h
  | false =>
   rw[e]at h;simp only[cond_false]at h
   cases i with
   | zero=>exact e
   | succ i=>exact ue (ns:=ns) (i:=i) (by lia)
def di (to:TE)(t:TA):TE:=λσ H Q=>to σ H λx c=>∃ a ns,x=.ref a/\c a=some (.tup (List.map V.int ns))/\t σ c λd b=>∃ k:Int,d=[.int k]/\b a=some (.tup (List.map V.int ns))/\k∈ns/\Q (.int (ns.idxOf k:Nat)) b
theorem nN {o e:Expr}{to:TE}{t:TA}{apos cpos:Pos}(hu:X.A.units+64<cLine) (S:PE X o to) (ha:PA X [e] t)
  (d:attributeBase o "index" X.env (eval o X.env)=eval o X.env:=by rfl)
  (j:((backTo cpos (starEach [e] X.env)).all (λx=>!x.1) && (backToKw cpos (keywordEach [] X.env)).all (λx=>x.1.isSome) && decide ([e].length+([]:List Keyword).length+(if ([]:List Keyword).isEmpty then 0 else 1)<30))=true:=by rfl)
  (c:(apos.endLine == cpos.line)=true:=by rfl) (R:starEach [e] X.env=(false,eval e X.env)::starEach [] X.env:=by rfl):PE X (.Call (.Attribute o "index" apos) [e] [] cpos) (di to t):=by
 intro pins s σ H Q I h;refine wpAny_Call_method_late d j c rfl (thn (S pins s σ H _ I h) λv n ⟨x,D,B,K,a,ns,ex,P,L⟩=>?_);subst ex;cases K;obtain⟨_,ab,_,⟨ob,y,Z,n1,d1,M⟩⟩:=(show ObjOk X.prog X.w D n.heap a (.tup (List.map V.int ns)) from B.hok a _ P);refine⟨"tuple","tuple.index",PySem.F.plainAttrs_tuple,PySem.F.slot_tuple_index,PySem.F.type_tuple_index,⟨ob,y,Z⟩,λa' W=>by cases W;exact⟨ob,y,M⟩,?_⟩;have w:=ha cpos pins n σ D _ B L;rw[R]at w ⊢;refine Calls.callWith_builtin rfl (Calls.evalArgs_plain ?_);refine thn w λus G ⟨vs,C,A,J,k,ev,l,O,q⟩=>?_;subst ev;obtain⟨u,rfl,E,rfl⟩:=J.one;obtain⟨_,b,p,⟨f,g,z,N,Y,aa⟩⟩:=(show ObjOk X.prog X.w C G.heap a (.tup (List.map V.int ns)) from A.hok a _ l);have hlen:b.toArray.size=ns.length:=by rw[Jj,<- p.length,Jg]
 have r:=List.idxOf_lt_length_of_mem O
 refine ZP PySem.F.slot_tuple_index ⟨f,g,z⟩ PySem.F.entry_tuple_index (PySem.F.args_tuple_index_2 _ _)
  (oj a f b.toArray N (.int k E) (ns.idxOf k) z Y (λi=>ns.getD i 0 == k) (λi hi=>?_) ?_ (by rw[hlen];exact r)) ⟨g,λi hi=>?_,?_⟩
 ·exact ue hi
 ·rw[JN,J8 r]
  simp
 ·have m:i<ns.length:=by rw[<- hlen];exact hi
  obtain⟨w1,U,F,rfl⟩:=p.get (show (List.map V.int ns)[i]?=some (V.int (ns.getD i 0)) by rw[JU,JN,J8 m];rfl);have T:b.toArray[i]=.int (ns.getD i 0) F:=by simpa using (J9.mp U).2
  rw[T];exact(MeetsSeq.EqGives.int _ _ _ _).at _ _
 ·exact⟨.int _,C,A.tok _,⟨_,rfl⟩,q⟩
theorem qZ:fillsNumberSlot (.type "tuple") "mul" = pure false :=
 PySem.fillsNumberSlot_seq (id:="tuple.__mul__") (r:=some (.builtin "tuple.__rmul__")) F.slot_tuple_mul.lookup (by decide +kernel) F.slot_tuple_rmul.lookup (by decide +kernel)
theorem oP:seqRepeat? (.type "tuple")=pure (some (.builtin "tuple.__mul__")):=by
 unfold seqRepeat?;rw[PySem.seqSlot_of (T:="tuple") (name:="__mul__") (id:="tuple.__mul__") F.slot_tuple_mul.lookup (by decide +kernel),PySem.seqSlot_of (T:="tuple") (name:="__rmul__") (id:="tuple.__rmul__") F.slot_tuple_rmul.lookup (by decide +kernel)];rfl
theorem j8 (a:Int)(t:Tok)(l:Addr)(c:Option Addr)(sl:Array (Option Value))(items:Array Value)(n:Nat) :
  Meets (Builtin.«int.__rmul__» ⟨[.int a t,.ref l],[]⟩) (λ_ R s=>s.heap.get? l=some { cls:=.type "tuple",dict:=c,data:=.seq items n,slots:=sl }/\R (.ok (.ret Value.notImplemented)) s) :=
 .of_wp λprog w A R s h=>by
  cases s;obtain⟨b,h⟩:=h
  wp_walk using ZX b
  exact⟨_,rfl,h⟩
theorem oi (l:Addr) (o:Obj) (x:Value) (n k:Nat) (t:Tok) (r:o.cls=.type "tuple") (hd:o.data=.seq #[x] n) (E:k<=100000) :
  Meets (Builtin.«tuple.__mul__» ⟨[.ref l,.int k t],[]⟩) (λ_ R s=>s.heap.get? l=some o /\
   (k=1->R (.ok (.ret (.ref l))) s)/\(k≠1->R (.ok (.ret (.ref s.heap.objs.size))) { s with heap:=s.heap.push { cls:=.type "tuple",data:=.seq (List.replicate k x).toArray } })) :=
 .of_wp λprog w A R s h=>by
  cases s with
  | mk q u z j os =>
  obtain⟨b,v,f⟩:=h;have ty:Shared.TypeIs ⟨q,u,z,j,os⟩ (.ref l) "tuple":=⟨o,b,r⟩
  wp_walk using Y3 b hd,YG ty
  have D:¬(decide ((k:Int) < -2 ^ 63) || decide ((k:Int)>=2 ^ 63))=true:=by
   rw[Jq (by lia),Jq (by lia)];exact Jn
  rw[Jf D]
  wp_walk using Y3 b hd,YG ty
  by_cases a:k=1
  ·have d:((#[x]:Array Value).isEmpty || (k:Int) == 1)=true:=by subst a;rfl
   rw[Jp d]
   wp_walk using YG ty
   exact⟨_,rfl,v a⟩
  ·have d:¬((#[x]:Array Value).isEmpty || (k:Int) == 1)=true:=by
    have:((k:Int) == 1)=false:=by rw[YT];lia
    rw[this];exact Jn
   rw[Jf d]
   have y:∀ (m:Nat) (acc:Array Value),(List.foldl (λi g=>i++g) acc (List.replicate m #[x]))=acc++(List.replicate m x).toArray:=λm=>by
    induction m with
    | zero=>intro acc;simp
    | succ m ih=>intro acc;rw[Y9,Zq,ih,Y9];apply Array.ext';simp
   by_cases p:k=0
   ·subst p
    have c:(decide (((0:Nat):Int)<=0) || (#[x]:Array Value).isEmpty)=true:=rfl;rw[Jp c]
    wp_walk
    exact⟨_,rfl,f (by decide)⟩
   ·have c:¬(decide ((k:Int)<=0) || (#[x]:Array Value).isEmpty)=true:=by
     rw[Jq (by lia)];exact Jn
    have C:¬(((#[x]:Array Value).size:Int)*(k:Int) > (2 ^ 63-1) / 8):=by
     show ¬((1:Int)*(k:Int) > (2 ^ 63-1) / 8);lia
    have B:¬ Builtin.Tuple.tupleTooMany (((#[x]:Array Value).size:Int)*(k:Int))=true:=by
     unfold Builtin.Tuple.tupleTooMany;show ¬ decide ((1:Int)*(k:Int) > (sizeLine:Int))=true;rw[Jq (by rw[JM];lia)];exact Jn
    rw[Jf c,Jf C,Jf B,YF,y];refine J0 (m:=Builtin.Tuple.tupleExact _) (JY (J7 ⟨_,rfl,?_⟩) ?_)
    ·have e:(#[]++(List.replicate k x).toArray:Array Value)=(List.replicate k x).toArray:=by simp
     rw[e];exact f a
    ·show (#[]++(List.replicate k x).toArray:Array Value).size<=sizeLine
     rw[JM];simp;lia
theorem Vals.same {v:V}{u:Value}(r:RelV v u):∀ k:Nat,Vals (List.replicate k v) (List.replicate k u)
 | 0=>.nil
 | k+1=>by rw[Y9,Y9];exact .cons r (Vals.same r k)
theorem rV:OpR X (binaryOp .Mult) (λx y H Q=>∃ a v,∃ k:Nat,x=.ref a/\y=.int k/\H a=some (.tup [v])/\k<=100000/\∀ r H',Same H H'->H' r=some (.tup (List.replicate k v))->Q (.ref r) H'):=by
 intro pins s σ H x y J G Q I A w h;obtain⟨a,v,k,rfl,rfl,j,D,q⟩:=h;cases A;obtain⟨t,rfl⟩:=w;obtain⟨_,E,r,⟨⟨c,K,d,n⟩,f,m,i,l,g⟩⟩:=(show ObjOk X.prog X.w H s.heap a (.tup [v]) from I.hok a _ j);simp only at m l g;subst m l g;obtain⟨u,rfl,B⟩:=r.one
 refine wpAny_binaryOp_repeat_ref (T:="tuple") (U:="int") (by decide) ⟨_,f,rfl⟩ (λp=>typeIs_int p k t) qZ F.fills_int_mul F.slot_int_rmul oP F.slot_int_index.lookup
  (ZP F.slot_int_rmul (typeIs_int s k t) F.entry_int_rmul (F.args_int_rmul_2 _ _) (j8 k t a none n _ i)
   ⟨f,rfl,⟨_,f,rfl⟩,ZP F.slot_tuple_mul ⟨_,f,rfl⟩ F.entry_tuple_mul (F.args_tuple_mul_2 _ _) (oi a _ u i k t rfl rfl D) ⟨f,λe=>?_,λe=>?_⟩⟩)
 ·subst e
  exact⟨.ref a,H,I,rfl,q a H (Same.refl H) j⟩
 ·have C:(List.replicate k v).length<=sizeLine:=by rw[Zb,JM];lia
  exact⟨.ref s.heap.objs.size,_,I.laid (t':=s.toks) (o:=.tup (List.replicate k v)) (λb ob z=>J6 _ z) (Je _) ⟨C,_,Vals.same B k,TupX.new _ _⟩,rfl,q _ _ (zD (I.hok.fresh (Je _)) _) zB⟩
end
end L2
namespace Bn
open PySem L2 Own
def Tups (H H':Hp):Prop:=∀ a b,H a=some (.tup b)->H' a=some (.tup b)
theorem Tups.trans {H d c:Hp}(x:Tups H d)(y:Tups d c):Tups H c:=λa b e=>y a b (x a b e)
theorem Tups.of {H H':Hp}(s:Same H H'):Tups H H':=λa _ e=>s a _ e
theorem Tups.lst {H:Hp}{l:Addr}{xs ys:List V}(h:H l=some (.lst xs)):Tups H (upd H l (.lst ys)):=λa b e=>by
 rw[zJ (by rintro rfl;rw[h]at e;cases e)];exact e
def But (l:Addr)(H H':Hp):Prop:=∀ b o,H b=some o->b≠l->H' b=some o
theorem But.trans {l:Addr}{H c a:Hp}(x:But l H c)(y:But l c a):But l H a:=λb o e n=>y b o (x b o e n) n
theorem But.of {l:Addr}{H a:Hp}(x:Same H a):But l H a:=λb o e _=>x b o e
structure PkAt (H:Hp) (l:Addr):Prop where
 ex:∃ a b:Int,H l=some (.lst [.int a,.int b])/\0<=a/\0<=b/\b<2 ^ 31
theorem PkAt.keep {H H':Hp}{l:Addr}(S:PkAt H l)(s:Same H H'):PkAt H' l:=by
 obtain⟨a,b,h,r⟩:=S.ex;exact⟨a,b,s _ _ h,r⟩
theorem PkAt.ne {H:Hp}{l p:Addr}(S:PkAt H l)(h:H p=none):l≠p:=by
 obtain⟨a,b,e,_⟩:=S.ex;exact zH e h
theorem PkAt.upd {H:Hp}{l p:Addr}{o:HO}(S:PkAt H l)(h:l≠p):PkAt (upd H p o) l:=by
 obtain⟨a,b,e,r⟩:=S.ex;exact⟨a,b,by rw[zJ h];exact e,r⟩
theorem But.tups {H H':Hp}{l:Addr}(x:But l H H')(S:PkAt H l):Tups H H':=λa b e=>x a _ e (by
 rintro rfl;obtain⟨_,_,z,_⟩:=S.ex
 rw[z]at e;cases e)
def Prs (H:Hp):List V->List (Nat × Nat)->Prop
 | [],[]=>True
 | p::ps,f::fs=>(∃ a,p=.ref a/\H a=some (.tup [.int f.1,.int f.2]))/\Prs H ps fs
 | _,_=>False
theorem Prs.tups {H H':Hp}(t:Tups H H'):∀ {ps:List V}{fs:List (Nat × Nat)},Prs H ps fs->Prs H' ps fs
 | [],[],_=>trivial
 | _::_,_::_,⟨⟨a,e,h⟩,r⟩=>⟨⟨a,e,t _ _ h⟩,r.tups t⟩
theorem Prs.len {H:Hp}:∀ {ps:List V}{fs:List (Nat × Nat)},Prs H ps fs->ps.length=fs.length
 | [],[],_=>rfl
 | _::_,_::_,⟨_,r⟩=>JV (· + 1) r.len
theorem Prs.add {H:Hp}{a:Addr}{f:Nat × Nat}(h:H a=some (.tup [.int f.1,.int f.2])):∀ {ps:List V}{fs:List (Nat × Nat)},Prs H ps fs->Prs H (ps++[.ref a]) (fs++[f])
 | [],[],_=>⟨⟨a,rfl,h⟩,trivial⟩
 | _::_,_::_,⟨x,r⟩=>⟨x,r.add h⟩
theorem Prs.get {H:Hp}:∀ {ps:List V}{fs:List (Nat × Nat)}{i:Nat}{p:V},Prs H ps fs->ps[i]?=some p->∃ a f,p=.ref a/\fs[i]?=some f/\H a=some (.tup [.int f.1,.int f.2])
 | [],[],_,_,_,e=>by simp at e
 | _::_,f::_,0,p,⟨⟨a,b,h⟩,_⟩,e=>by
  have:_=p:=Jr e;subst this
  exact⟨a,f,b,rfl,h⟩
 | _::_,_::_,i+1,p,⟨_,r⟩,e=>r.get (i:=i) (by simpa using e)
structure Nt where
 lanes:Nat
 forks:List (Nat × Nat)
 ends:List Nat
structure Nt.Ok (N:Nt):Prop where
 l1:1<=N.lanes
 l16:N.lanes<=16
 fm:N.forks.length<=128
 fk:∀ f∈N.forks,f.1<N.lanes/\f.2<N.lanes/\f.1≠f.2
 en:N.ends.Perm (List.range N.lanes)
def zj (a:List Nat):List V:=a.map λ(e:Nat)=>V.int e
structure NetAt (H:Hp) (r fr er:Addr) (ps:List V) (N:Nt):Prop where
 net:H r=some (.tup [.int N.lanes,.ref fr,.ref er])
 forks:H fr=some (.tup ps)
 prs:Prs H ps N.forks
 ends:H er=some (.tup (zj N.ends))
theorem NetAt.tups {H H':Hp}{r fr er:Addr}{ps:List V}{N:Nt}(t:Tups H H')(h:NetAt H r fr er ps N):NetAt H' r fr er ps N:=⟨t _ _ h.net,t _ _ h.forks,h.prs.tups t,t _ _ h.ends⟩
theorem vV {cs:List Int}{i:Nat}(h:i<cs.length):atI (cs.map V.int) ((i:Nat):Int)=some (.int (cs.getD i 0)):=by
 refine yg ?_;rw[JU,JN,J8 h];rfl
theorem sE {α:Type}{xs:List α}{i:Nat}(h:i<xs.length):ixN xs.length ((i:Nat):Int)=some i:=by
 unfold ixN;rw[Jp (by lia),Jp (by lia)];simp
theorem wm (cs:List Int)(i:Nat)(a:Int):(cs.map V.int).set i (.int a)=(cs.set i a).map V.int:=by rw[List.map_set]
structure Mgs (mg:Str->Option Value):Prop where
 len:mg "len" = none
 range:mg "range" = none
 tuple:mg "tuple" = none
 enum:mg "enumerate" = none
 abs:mg "abs" = none
 zip:mg "zip" = none
 isi:mg "isinstance" = none
 all:mg "all" = none
 sum:mg "sum" = none
 bool:mg "bool" = none
 int:mg "int" = none
 str:mg "str" = none
 max:mg "max" = none
 min:mg "min" = none
 sorted:mg "sorted" = none
 list:mg "list" = none
structure Use (P:Program) (w:World) (K:PySem.W.Frag) (mg:Str->Option Value) (base:Heap) (x:Str) (ps:List Str) (k:Nat) (sp:Sp) (f:Addr) (fd:FuncData):Prop where
 ok:FnOk P w K mg base CX0 k f fd ps sp
 b:Binds K fd ps []
 kp:PySem.W.keepIn K (.ref f)=true
 m:mg x=some (.ref f)
def oC (K:PySem.W.Frag):Sp:=λb H Q _=>∃ (a:Addr) (ns:List Int) (k:Int),b=[.ref a,.int k]/\SqL K H a (ns.map V.int)/\0<=k/\∀ x:Int,Q (.int x) H
def oA (K:PySem.W.Frag):Sp:=λc H Q _=>∃ (a:Addr) (ns:List Int) (k:Int),c=[.ref a,.int k]/\SqL K H a (ns.map V.int)/\ns.length<=63/\0<=k/\k<=1000/\∀ l b,H l=none->Same H b->PkAt b l->Q (.ref l) b
def xj:Sp:=λa H Q _=>∃ (l:Addr) (m:Int),a=[.ref l,.int m]/\0<m/\m<1073741824/\PkAt H l/\∀ (v:Nat) H',(v:Int)<m->PkAt H' l->But l H H'->Q (.int v) H'
def Frs (l:Addr)(H:Hp)(x:Addr):Prop:=∀ b o,H b=some o->b≠l->b≠x
theorem But.upd {l x:Addr}{H a:Hp}{o:HO}(B:But l H a)(f:Frs l H x):But l H (upd a x o):=λb u e n=>by rw[zJ (f b u e n)];exact B b u e n
theorem yD (a:List Nat):(zj a).length=a.length:=by simp[zj]
theorem jK {one d lanes:Nat}(b:one<lanes)(a:d+1<lanes):(one+1+d)%lanes<lanes/\one≠(one+1+d)%lanes:=by
 refine⟨Nat.mod_lt _ (by lia),λe=>?_⟩;by_cases z:one+1+d<lanes
 ·rw[Nat.mod_eq_of_lt z]at e;lia
 ·rw[Nat.mod_eq_sub_mod (by lia),Nat.mod_eq_of_lt (by lia)]at e;lia
theorem jM (k:Nat):0<PySem.NumText.digitsVal (49::List.replicate k 48):=by
 unfold PySem.NumText.digitsVal
 have go:∀ (k acc:Nat),0<acc->0<(List.replicate k 48).foldl (λacc c=>acc*10+(c-48)) acc:=λk=>by
  induction k with
  | zero=>intro acc h;exact h
  | succ k ih=>intro acc h;rw[Y9,Zq];exact ih _ (by lia)
 rw[Zq];exact go k _ (by decide)
theorem gJ {z:Str}{k:Nat}(hz:z.cps.toList=List.replicate k 48):PySem.NumText.AllDigits ((("1":Str)++z).cps.toList)/\(("1":Str)++z).length=k+1/\0<PySem.NumText.digitsVal ((("1":Str)++z).cps.toList):=by
 have e:(("1":Str)++z).cps.toList=49::List.replicate k 48:=by
  show ((("1":Str).cps++z.cps).toList)=_;rw[Y6,hz];rfl
 refine⟨?_,?_,?_⟩
 ·rw[e]
  intro c a;rcases Ja.mp a with q|q
  ·lia
  ·have:=List.eq_of_mem_replicate q;lia
 ·have:=JV List.length e
  rw[Jt]at this;show (("1":Str)++z).cps.size=k+1;rw[this,Ya,Zb]
 ·rw[e];exact jM k
end Bn
namespace L2
open PySem PySem.Spec PyProof.Rows Own
section
variable {prog:Program}{w:World}{A:Around}{E:Value->Shared->Prop}{s:Shared}
theorem pA {t sl:Addr}{items:Array Value}{f e:Value}{lo hi:Option Int}{Q:Value->Shared->Prop}(a:IsTup s.heap t items)(g:s.heap.IsSliceOf sl f e .none)(i:IsPart f lo)(pu:IsPart e hi)(k:HT.sIx items.size 0 lo=0)(j:HT.sIx items.size items.size hi=items.size)(h:Q (.ref t) s):wpAny (model prog w) A (getItem (.ref t) (.ref sl)) Q E s:=by
 obtain⟨os,b,c,l⟩:=id g;have d:s.TypeIs (.ref sl) "slice":=⟨os,b,c⟩;unfold getItem
 try with_reducible refine JW ?_
 first|refine J0 (J7 ?_)|skip
 refine J0 (wpAny_sequenceKey a.typeIs (by decide) (J0 (wpAny_callSpecial?_slot (name:=Str.ofString "__getitem__") a.typeIs Yg (Y5 Yg a.typeIs PyProof.Rows.entry_tuple_getitem ?_ (PyProof.Rows.args_tuple_getitem _ _)))));show wpAny _ _ (Builtin.Tuple.tupleItemsOf (.ref t) >>= _) _ _ s;refine J0 (tupleItemsOf_ a (J0 (YG d ?_)));rw[Jp (by decide)];refine J0 (HT.sliceApplied_gen g i pu ?_);rw[k,j];show wpAny _ _ (if (((0:Nat):Int) == 0 && (1:Int) == 1 && (items.size-0) == items.size)=true then _ else _) _ _ s;rw[Jp (by simp)];refine J0 ?_;unfold Builtin.Tuple.tupleIsExact;refine J0 (YG a.typeIs (J7 ?_));rw[Jp (by decide)];exact J0 (YD (J7 ⟨_,rfl,J7 h⟩))
end
section
variable {X:Cx}
theorem yp:OpR X (binaryOp .Add) (λx y H Q=>∃ a b xs ys,x=.ref a/\y=.ref b/\H a=some (.tup xs)/\H b=some (.tup ys)/\xs.length+ys.length<=sizeLine/\∀ r H',Same H H'->H' r=some (.tup (xs++ys))->Q (.ref r) H'):=by
 intro pins s σ H x y v u Q I o n h;obtain⟨a,b,xs,ys,rfl,rfl,j,i,F,q⟩:=h;by_cases z:xs=[]
 ·subst z
  cases o;cases n;obtain⟨L,A,C,_⟩:=I.tuple (SqT.of j);obtain⟨m,M,B,_⟩:=I.tuple (SqT.of i);cases A;obtain⟨⟨P,K,N,l⟩,w,g,E,d⟩:=C;obtain⟨⟨O,J,e2,k⟩,t,f,D,c⟩:=B;simp only at g d f c;subst g d f c;refine concat_meets ⟨_,w,rfl⟩ ⟨_,t,rfl⟩ noFill_tuple_add seq_tuple_add PySem.F.slot_tuple_add PySem.F.entry_tuple_add (PySem.F.args_tuple_add_2 _ _) (tuple_addW0 a b #[] m.toArray E D K J l k rfl) ⟨w,t,?_⟩;exact⟨.ref b,H,I,rfl,q b H (Same.refl H) (by rw[List.nil_append];exact i)⟩
 ·exact iz pins s σ H _ _ v u Q I o n ⟨a,b,xs,ys,rfl,rfl,SqT.of j,SqT.of i,z,F,λe=>q a H (Same.refl H) (by rw[e,Yi];exact j),λ_ p G=>q p _ (zD G _) zB⟩
theorem yc:SlR X (λx lo hi H Q=>∃ a xs,x=.ref a/\H a=some (.tup xs)/\∀ p H',Same H H'->H' p=some (.tup (xU xs lo hi))->Q (.ref p) H'):=by
 intro pins s σ H x v k j lo hi l Q I e i f pu h;obtain⟨a,xs,rfl,c,q⟩:=h;by_cases b:HT.sIx xs.length 0 lo=0/\HT.sIx xs.length xs.length hi=xs.length
 ·cases e
  obtain⟨d,r,g,n⟩:=I.tuple (SqT.of c);have hlen:d.toArray.size=xs.length:=by rw[Jj];exact r.length.symm
  refine⟨"tuple",_,PyProof.Rows.slot_tuple_getitem.lookup,g.typeIs,pA g i f pu (by rw[hlen];exact b.1) (by rw[hlen];exact b.2) ⟨.ref a,H,I,rfl,q a H (Same.refl H) ?_⟩⟩;unfold xU;rw[b.1,b.2,ZQ,Nat.sub_zero,Yb];exact c
 ·exact g8 pins s σ H _ v k j lo hi l Q I e i f pu ⟨a,xs,rfl,SqT.of c,b,λp m=>q p _ (zD m _) zB⟩
end
theorem yo (xs:List V)(i:Nat)(h:i<=xs.length):xU xs none (some (i:Int))=xs.take i:=by
 unfold xU;rw[HT.sIx_none,HT.sIx_nat,ZQ,Nat.sub_zero,Nat.min_eq_left h]
theorem y8 (xs:List V)(i:Nat)(h:i<=xs.length):xU xs (some (i:Int)) none=xs.drop i:=by
 unfold xU;rw[HT.sIx_none,HT.sIx_nat,Nat.min_eq_left h];exact List.take_of_length_le (by rw[Yc];exact Je _)
end L2
namespace L2
open PySem PySem.Spec PyProof.Rows PySem.Calls PySem.NumText Own
section
variable {prog:Program}{w:World}{A:Around}{E:Value->Shared->Prop}{s:Shared}
theorem pP {sl:Addr}{t:Tok}{Q:Int × Int × Nat->Shared->Prop}(d:s.heap.IsSliceOf sl .none .none (.int 1 t))(h:Q (0,1,2) s):wpAny (model prog w) A (Builtin.Slice.sliceApplied (.ref sl) (pure (2:Int))) Q E s:=by
 have c:=d;obtain⟨os,a,f,b⟩:=c;unfold Builtin.Slice.sliceApplied Builtin.Slice.sliceFields;refine J0 (J0 (Zd a b (x:=.none) rfl (J0 (Zd a b (x:=.none) rfl (J0 (Zd a b (x:=.int 1 t) rfl (J7 ?_)))))));refine J0 (slicePart_int ?_);show wpAny _ _ (if ((1:Int) == 0)=true then _ else _) _ _ s;rw[Jf (by decide)];refine J0 (ZM (J0 (ZM (J0 (J7 ?_)))));show wpAny _ _ (match Builtin.Slice.sliceAdjust none none 1 (2:Int) with|(lo,hi)=>pure (lo,(1:Int),Builtin.Slice.slicePlaces lo hi 1)) _ _ s;have e:Builtin.Slice.sliceAdjust none none 1 (2:Int)=(0,2):=by decide
 have e2:Builtin.Slice.slicePlaces (0:Int) 2 1=2:=by decide
 rw[e];show wpAny _ _ (pure ((0:Int),(1:Int),Builtin.Slice.slicePlaces (0:Int) 2 1)) _ _ s;rw[e2];exact J7 h
theorem qz {t sl:Addr}{x y:Value}{tk:Tok}{Q:Value->Shared->Prop}(a:IsTup s.heap t #[x,y])(f:s.heap.IsSliceOf sl .none .none (.int 1 tk))(h:Q (.ref t) s) :
  wpAny (model prog w) A (getItem (.ref t) (.ref sl)) Q E s:=by
 have b:=f;obtain⟨os,c,d,g⟩:=b;have e:s.TypeIs (.ref sl) "slice":=⟨os,c,d⟩;unfold getItem;try with_reducible refine JW ?_
 first|refine J0 (J7 ?_)|skip
 refine J0 (wpAny_sequenceKey a.typeIs (by decide) (J0 (wpAny_callSpecial?_slot (name:=Str.ofString "__getitem__") a.typeIs Yg (Y5 Yg a.typeIs PyProof.Rows.entry_tuple_getitem ?_ (PyProof.Rows.args_tuple_getitem _ _)))));show wpAny _ _ (Builtin.Tuple.tupleItemsOf (.ref t) >>= _) _ _ s;refine J0 (tupleItemsOf_ a (J0 (YG e ?_)));rw[Jp (by decide)];refine J0 (pP f ?_);show wpAny _ _ (if ((0:Int) == 0 && (1:Int) == 1 && (2:Nat) == 2)=true then _ else _) _ _ s;rw[Jp (by decide)];refine J0 (?_:wpAny _ _ (Builtin.Tuple.tupleIsExact (.ref t)) _ _ s);unfold Builtin.Tuple.tupleIsExact;refine J0 (YG a.typeIs (J7 ?_));rw[Jp (by decide)];exact J0 (YD (J7 ⟨_,rfl,J7 h⟩))
end
section
variable {X:Cx}
def dh (K:PySem.W.Frag)(c:TE)(ts:TO):TE:=λσ H Q=>c σ H λx d=>ts σ d λo b=>∃ a u v,x=.ref a/\SqT K b a [u,v]/\((o=some 1/\Q (.ref a) b)\/(o=some (-1)/\∀ p,b p=none->Q (.ref p) (upd b p (.tup [v,u]))))
theorem ip {e st:Expr}{n:TE}{ts:TO}{i pos:Pos}(K:PE X e n)(J:PO X (some st) ts):PE X (.Subscript e (.Slice none none (some st) i) pos) (dh X.K n ts):=by
 intro pins s σ H Q I h;refine Subscript_ (thn (K pins s σ H _ I h) λv C ⟨x,M,L,D,F⟩=>wpAny_Slice ?_);rw[evalPart_none];refine J7 (J7 (thn (J pins C σ M _ L F) λg c ⟨o,z,y,po,E⟩=>?_));obtain⟨a,B,A,rfl,p,k⟩:=E;cases D;rcases k with ⟨rfl,k⟩|⟨rfl,k⟩
 ·obtain⟨t,rfl⟩:∃ t,g=.int 1 t:=by cases po;exact⟨_,rfl⟩
  have d:Inv X pins σ z { c with heap:=c.heap.push { cls:=.type "slice",data:=.fields #[.none,.none,.int 1 t] } }:=y.kept (t':=c.toks) λb ob q=>J6 _ q;obtain⟨j,r,f,G⟩:=d.tuple p;obtain⟨m,l,rfl,w,u⟩:=r.two;show wpAny (model X.prog X.w) X.A (subscriptTail e (.Slice none none (some st) i) (.ref a) (.ref c.heap.objs.size)) (EP X pins σ Q) X.xe { c with heap:=c.heap.push { cls:=.type "slice",data:=.fields #[.none,.none,.int 1 t] } };refine tail_any (ops:=[.ref a,.ref c.heap.objs.size]) f.typeIs PyProof.Rows.slot_tuple_getitem.lookup (qz f (ZN ..) ?_) (by with_unfolding_all rfl);exact⟨.ref _,_,d,rfl,k⟩
 ·obtain⟨t,rfl⟩:∃ t,g=.int (-1) t:=by cases po;exact⟨_,rfl⟩
  have d:Inv X pins σ z { c with heap:=c.heap.push { cls:=.type "slice",data:=.fields #[.none,.none,.int (-1) t] } }:=y.kept (t':=c.toks) λb ob q=>J6 _ q;obtain⟨j,r,f,G⟩:=d.tuple p;obtain⟨m,l,rfl,w,u⟩:=r.two;show wpAny (model X.prog X.w) X.A (subscriptTail e (.Slice none none (some st) i) (.ref a) (.ref c.heap.objs.size)) (EP X pins σ Q) X.xe { c with heap:=c.heap.push { cls:=.type "slice",data:=.fields #[.none,.none,.int (-1) t] } };refine tail_any (ops:=[.ref a,.ref c.heap.objs.size]) f.typeIs PyProof.Rows.slot_tuple_getitem.lookup (vA f (ZN ..) ?_) (by with_unfolding_all rfl);exact⟨.ref _,_,d.laid (t':=c.toks) (o:=.tup [A,B]) (λb ob q=>J6 _ q) (Je _) ⟨by show 2<=sizeLine;decide,[l,m],.cons u (.cons w .nil),TupX.new _ _⟩,rfl,k _ (d.hok.fresh (Je _))⟩
end
end L2
namespace K63
open PySem L2 Own Bn
def top (i:Nat):Stmt:=PySem.Challenge.pw_stairlanes_k63_books_spoilt.main.body.getD i (.Pass ⟨0,0,0,0⟩)
abbrev ke:Stmt:=top 31
abbrev kW:Stmt:=top 32
abbrev kT:Stmt:=top 33
section
variable {P:Program}{w:World}{K:PySem.W.Frag}{mg:Str->Option Value}{base:Heap}
theorem scC:FnScope ["_law_script","_law_k"] ["_law_script","_law_k"] (zM ke):=by trivial
theorem gA {f:Addr}{fd:FuncData}(F:Fun K "_law_cell_at" "_law_cell_at" ke f fd) (G:Mgs mg):FnOk P w K mg base CX0 1 f fd ["_law_script","_law_k"] (oC K):=by
 refine F.ok scC (λc H Q E h=>?_) (λg A outer s H c Q E i h=>?_)
 ·obtain⟨a,ns,k,rfl,_⟩:=h
  rfl
 obtain⟨a,ns,k,rfl,b,d,q⟩:=h;refine⟨_,(@zG _ _ _ _ _ (@ya _ _ _ _ _ _ _ _ (@zp _ _ _ _ _ _ _ _ nQ (@qv _ 1 _ _ (by trivial)) (@zP _ _ _ _ _ _ _ _ _ zV (by rfl) G.len JX (@zA _ _ _ _ _ (@qv _ 0 _ _ (by trivial)) zC (by rfl)) (by decide) (by decide) (by rfl) (by rfl)) (yC _)) (@zK _ _ _ (@zT _ _ _ _ (@zi _ _ _ _ _ _ _ yK (@qv _ 0 _ _ (by trivial)) (@qv _ 1 _ _ (by trivial)) (λ_ _=>rfl)))) zw) (@zK _ _ _ (@zT _ _ _ _ zE))),?_⟩;refine⟨_,rfl,_,rfl,a,_,rfl,.inl b,_,_,rfl,rfl,_,rfl,jr (λz=>?_) (λz=>?_)⟩
 ·obtain⟨j,rfl⟩:=Int.eq_ofNat_of_zero_le d
  have e:j<ns.length:=by have:=YR z;rw[Jg]at this;lia
  exact⟨_,rfl,_,rfl,a,_,_,_,rfl,rfl,b,vV e,q _⟩
 ·exact q 0
theorem scK:FnScope ["_law_left_here","_law_many","_law_digit"] ["_law_left_here","_law_many"] (zM kT):=by trivial
theorem i4 {f:Addr}{fd:FuncData}(F:Fun K "_law_pick" "_law_pick" kT f fd):FnOk P w K mg base CX0 1 f fd ["_law_left_here","_law_many"] xj:=by
 refine F.ok scK (λt H Q E h=>?_) (λG A outer s H t Q E I h=>?_)
 ·obtain⟨l,m,rfl,_⟩:=h
  rfl
 obtain⟨l,m,rfl,d,u,S,k⟩:=h;obtain⟨a,b,c,n,B,z⟩:=S.ex;refine⟨_,(@zG _ _ _ _ _ (@ya _ _ _ _ _ _ _ _ (@zp _ _ _ _ _ _ _ _ gq (@zi _ _ _ _ _ _ _ yK (@qv _ 0 _ _ (by trivial)) zE (λ_ _=>rfl)) zE (yC _)) (@zG _ _ _ _ _ (@zY _ _ 2 _ _ _ _ scK.nd rfl (.inl rfl) (@zS _ _ _ _ _ _ _ _ yh (@zi _ _ _ _ _ _ _ yK (@qv _ 0 _ _ (by trivial)) zE (λ_ _=>rfl)) (@qv _ 1 _ _ (by trivial))) (by rfl) (by trivial)) (@zG _ _ _ _ _ (@yV _ _ _ _ _ _ (@zS _ _ _ _ _ _ _ _ wu (@zi _ _ _ _ _ _ _ yK (@qv _ 0 _ _ (by trivial)) zE (λ_ _=>rfl)) (@qv _ 1 _ _ (by trivial))) (@wc _ _ _ _ _ _ _ (@qv _ 0 _ _ (by trivial)) zE xQ (by intro _;rfl)) (by rfl) (by rfl) (by rfl)) (@zK _ _ _ (@zT _ _ _ _ (@qv _ 2 _ _ (by trivial)))))) zw) (@zG _ _ _ _ _ (@yV _ _ _ _ _ _ (@zS _ _ _ _ _ _ _ _ yh (@zS _ _ _ _ _ _ _ _ yX (@zS _ _ _ _ _ _ _ _ wE (@zi _ _ _ _ _ _ _ yK (@qv _ 0 _ _ (by trivial)) zE (λ_ _=>rfl)) zE) zE) zE) (@wc _ _ _ _ _ _ _ (@qv _ 0 _ _ (by trivial)) zE xQ (by intro _;rfl)) (by rfl) (by rfl) (by rfl)) (@zK _ _ _ (@zT _ _ _ _ (@zS _ _ _ _ _ _ _ _ yh (@zS _ _ _ _ _ _ _ _ yh (@zS _ _ _ _ _ _ _ _ wE (@zi _ _ _ _ _ _ _ yK (@qv _ 0 _ _ (by trivial)) zE (λ_ _=>rfl)) (@zi _ _ _ _ _ _ _ yK (@qv _ 0 _ _ (by trivial)) zE (λ_ _=>rfl))) zE) (@qv _ 1 _ _ (by trivial))))))),?_⟩
 have fin:∀ (x:Int) (g:Hp),0<=x->x<m->PkAt g l->But l H g->Q (.int x) g:=λx g r p C D=>by
  obtain⟨v,rfl⟩:=Int.eq_ofNat_of_zero_le r;exact k v g p C D
 refine⟨_,rfl,l,_,_,_,rfl,rfl,SqL.of c,rfl,_,_,rfl,rfl,_,rfl,jr (λq=>?_) (λq=>?_)⟩
 ·refine⟨_,rfl,l,_,_,_,rfl,rfl,SqL.of c,rfl,_,rfl,_,_,rfl,rfl,d,?_⟩
  refine⟨_,rfl,l,_,_,_,rfl,rfl,SqL.of c,rfl,_,rfl,_,_,rfl,rfl,⟨d,u⟩,_,rfl,l,_,_,0,rfl,rfl,c,rfl,_,rfl,?_⟩;exact fin _ _ (ZC _ (by lia)) (Int.emod_lt_of_pos _ d) ⟨a / m,b,zB,Int.ediv_nonneg n (by lia),B,z⟩ λx o e ne=>by rw[zJ ne];exact e
 ·refine⟨_,rfl,l,_,_,_,rfl,rfl,SqL.of c,rfl,_,_,rfl,rfl,.inr ⟨by decide,by decide⟩,_,_,rfl,rfl,_,_,rfl,rfl,(by show (0:Int)<2147483647;decide),_,rfl,l,_,_,1,rfl,rfl,c,rfl,?_⟩
  have y:0<=(b*48271+12345)%2147483647:=ZC _ (by decide);have J:(b*48271+12345)%2147483647<2147483647:=Int.emod_lt_of_pos _ (by decide);generalize j:upd H l (HO.lst ([V.int a,V.int b].set 1 (V.int ((b*48271+12345)%2147483647))))=H1;have i:H1 l=some (.lst [.int a,.int ((b*48271+12345)%2147483647)]):=by rw[<- j];exact zB
  refine⟨_,rfl,l,_,_,_,rfl,rfl,SqL.of i,rfl,_,rfl,l,_,_,_,rfl,rfl,SqL.of i,rfl,_,_,rfl,rfl,.inl ⟨by lia,by lia⟩,_,_,rfl,rfl,(by show (0:Int)<1999999973;decide),_,rfl,_,_,rfl,rfl,d,?_⟩;exact fin _ _ (ZC _ (by lia)) (Int.emod_lt_of_pos _ d) ⟨a,_,i,n,y,by lia⟩ λx o e ne=>by rw[<- j,zJ ne];exact e
theorem scL:FnScope ["_law_script","_law_k","_law_cell","_law_seed"] ["_law_script","_law_k"] (zM kW):=by trivial
theorem i6 {f r:Addr}{fd t:FuncData}(F:Fun K "_law_left" "_law_left" kW f fd) (G:Mgs mg) (m:PySem.W.nsIn K cStatics "sys.int_max_str_digits" = some none) (d:Use P w K mg base "_law_cell_at" ["_law_script","_law_k"] 1 (oC K) r t):FnOk P w K mg base CX0 2 f fd ["_law_script","_law_k"] (oA K):=by
 refine F.ok scL (λn H Q E h=>?_) (λy A outer s H n Q E o h=>?_)
 ·obtain⟨a,ns,k,rfl,_⟩:=h
  rfl
 obtain⟨a,ns,k,rfl,i,v,C,B,q⟩:=h;refine⟨_,(@zG _ _ _ _ _ (@zY _ _ 2 _ _ _ _ scL.nd rfl (.inl rfl) (@zL _ _ _ _ _ _ _ _ _ _ _ _ _ _ _ _ d.ok o (by rfl) d.m d.kp d.b .nil zW (@zA _ _ _ _ _ (@qv _ 0 _ _ (by trivial)) (@zA _ _ _ _ _ (@zS _ _ _ _ _ _ _ _ yh (@qv _ 1 _ _ (by trivial)) (@zP _ _ _ _ _ _ _ _ _ (vU rfl) (by rfl) G.max (by rfl) (@zA _ _ _ _ _ zE (@zA _ _ _ _ _ (@zP _ _ _ _ _ _ _ _ _ zV (by rfl) G.len JX (@zA _ _ _ _ _ (@qv _ 0 _ _ (by trivial)) zC (by rfl)) (by decide) (by decide) (by rfl) (by rfl)) zC (by rfl)) (by rfl)) (by decide) (by decide) (by rfl) (by rfl))) zC (by rfl)) (by rfl)) (by decide) (by rfl) (by rfl)) (by rfl) (by trivial)) (@zG _ _ _ _ _ (@zY _ _ 3 _ _ _ _ scL.nd rfl (.inl rfl) (@zS _ _ _ _ _ _ _ _ yh (@zS _ _ _ _ _ _ _ _ wE (@zS _ _ _ _ _ _ _ _ yX (@zS _ _ _ _ _ _ _ _ yX (@zS _ _ _ _ _ _ _ _ yh (@qv _ 2 _ _ (by trivial)) zE) (@zS _ _ _ _ _ _ _ _ wE (@zS _ _ _ _ _ _ _ _ wE zE (@qv _ 1 _ _ (by trivial))) (@qv _ 1 _ _ (by trivial)))) zE) zE) zE) (by rfl) (by trivial)) (@zK _ _ _ (@zT _ _ _ _ (@yO _ _ _ _ (@zA _ _ _ _ _ (@zS _ _ _ _ _ _ _ _ yh (@zS _ _ _ _ _ _ _ _ wE (@zP _ _ _ _ _ _ _ _ _ pN (by rfl) G.abs (by rfl) (@zA _ _ _ _ _ (@qv _ 2 _ _ (by trivial)) zC (by rfl)) (by decide) (by decide) (by rfl) (by rfl)) (@zZ _ _ _ _ _ _ _ _ _ sP (by rfl) G.int (by rfl) (@zA _ _ _ _ _ (@wN _ _ _ _ _ _ _ _ cT (@zP _ _ _ _ _ _ _ _ _ pN (by rfl) G.abs (by rfl) (@zA _ _ _ _ _ (@qv _ 2 _ _ (by trivial)) zC (by rfl)) (by decide) (by decide) (by rfl) (by rfl)) (@zS _ _ _ _ _ _ _ _ fu zE zE) (yC _)) zC (by rfl)) (by decide) (by decide) (by rfl) (by rfl))) (@zZ _ _ _ _ _ _ _ _ _ (qA m) (by rfl) G.int (by rfl) (@zA _ _ _ _ _ (@zS _ _ _ _ _ _ _ _ oW rS (@zS _ _ _ _ _ _ _ _ ir rS zE)) zC (by rfl)) (by decide) (by decide) (by rfl) (by rfl))) (@zA _ _ _ _ _ (@qv _ 3 _ _ (by trivial)) zC (by rfl)) (by rfl))))))),?_⟩;refine⟨_,rfl,_,rfl,_,rfl,a,_,rfl,.inl i,_,_,rfl,_,_,rfl,rfl,?_,?_⟩
 ·split<;>lia
 refine⟨a,ns,_,rfl,i,ZC _ (by split<;>lia),λx=>?_⟩;refine⟨_,rfl,_,_,rfl,rfl,(by show (0:Int)<2147483629;decide),_,rfl,_,_,rfl,rfl,.inl ⟨by decide,by decide⟩,_,rfl,_,_,rfl,rfl,.inr ⟨by lia,by lia⟩,_,_,rfl,rfl,_,_,rfl,rfl,_,_,rfl,rfl,.inr ⟨by decide,by decide⟩,_,_,rfl,rfl,(by show (0:Int)<2147483647;decide),?_⟩;have p:=ZC ((x%2147483629+7919*k*k+11)*48271) (show (2147483647:Int)≠0 by decide);have D:=Int.emod_lt_of_pos ((x%2147483629+7919*k*k+11)*48271) (show (0:Int)<2147483647 by decide);refine⟨_,rfl,_,rfl,_,rfl,_,rfl,_,_,rfl,rfl,⟨by decide,by decide,by decide⟩,_,_,rfl,rfl,.inr ⟨_,rfl,_,_,rfl,rfl,.inr ?_,?_⟩⟩
 ·have c:∀ b:Bool,-2 ^ 64<(if b=true then (1:Int) else 0)/\(if b=true then (1:Int) else 0)<2 ^ 64:=by decide
  exact c _
 refine⟨48,2000,rfl,rfl,by decide,by decide,λz e=>?_⟩;obtain⟨u,J,I⟩:=gJ e
 have j:z.length=2000:=by
  have:=JV List.length e;rw[Jt,Zb]at this;exact this
 refine⟨_,_,rfl,rfl,by rw[j];decide,_,rfl,u,by lia,by lia,_,_,rfl,rfl,by lia,_,rfl,(by show 2<=sizeLine;decide),λl g=>?_⟩;exact q l _ g (zD g _) ⟨_,_,zB,ZC _ (by lia),p,by lia⟩
end
end K63
namespace Bn
open PySem L2 Own
theorem de {ps:List V}{x:V}(h:ps[ps.length-1]?=some x):atI ps (-1)=some x:=by
 have ne:ps≠[]:=by rintro rfl;simp at h
 have g:ps.getLast ne=x:=by rw[List.getLast_eq_getElem];exact(J9.mp h).2
 have e:ps=ps.dropLast++[x]:=by rw[<- g];exact(List.dropLast_concat_getLast ne).symm
 rw[e];exact iF _ _
theorem oY {ys zs:List V}(h:ys.Perm zs):∀ l:List Nat,zs=zj l->∃ f:List Nat,ys=zj f/\f.Perm l:=by
 induction h with
 | nil=>intro l e;cases l with
  | nil=>exact⟨[],rfl,.nil⟩
  | cons a b=>cases e
 | cons x _ ih=>intro l e;cases l with
  | nil=>cases e
  | cons a b =>
   have i:x=.int a/\_=zj b:=ZZ e;obtain⟨f,d,g⟩:=ih b i.2
   exact⟨a::f,by rw[i.1,d];rfl,g.cons a⟩
 | swap x y t=>intro l e;match l,e with
  | [],e=>cases e
  | [_],e=>cases (ZZ e).2
  | a::b::c,e =>
   have d:x=.int a/\y::t=zj (b::c):=ZZ e;have e2:y=.int b/\t=zj c:=ZZ d.2
   exact⟨b::a::c,by rw[d.1,e2.1,e2.2];rfl,.swap a b c⟩
 | trans _ _ o k =>
  intro l e;obtain⟨m,d,g⟩:=k l e;obtain⟨n,e2,j⟩:=o m d;exact⟨n,e2,j.trans g⟩
theorem mt {ys:List V}{l:List Nat}(h:ys.Perm (zj l)):∃ a:List Nat,ys=zj a/\a.Perm l:=oY h l rfl
theorem uh {α:Type}:∀ (xs:List α) (k:Nat) (h:k<xs.length),(xs[k]::xs.eraseIdx k).Perm xs
 | x::xs,0,_=>.refl _
 | x::xs,k+1,h=>by
  have a:k<xs.length:=by simpa using h
  have ih:=uh xs k a;exact(List.Perm.swap x xs[k] _).trans (ih.cons x)
end Bn
namespace K63
open PySem L2 Own Bn
abbrev sOf:Stmt:=top 34
abbrev rG:Stmt:=top 35
abbrev fQ:Stmt:=top 36
def mQ:Sp:=λb H Q _=>∃ (l q:Addr) (a:List V),b=[.ref l,.ref q]/\PkAt H l/\q≠l/\H q=some (.lst a)/\0<a.length/\a.length<=100000/\∀ (i:Nat) x H',a[i]?=some x->PkAt H' l->But l H H'->Q x H'
def x9:Sp:=λd H Q _=>∃ (l q:Addr) (a:List V),d=[.ref l,.ref q]/\PkAt H l/\q≠l/\(H q=some (.lst a)\/H q=some (.tup a))/\a.length<=1000000/\∀ r c b,c.Perm a->H r=none->b r=some (.lst c)->PkAt b l->But l H b->Q (.ref r) b
def pi (most:Nat):Sp:=λb H Q _=>∃ (l:Addr) (lanes:Nat),b=[.ref l,.int lanes,.int most]/\PkAt H l/\1<=lanes/\lanes<=16/\∀ r fr d c N a,Nt.Ok N->N.lanes=lanes->N.forks.length<=most->NetAt a r fr d c N->PkAt a l->But l H a->Q (.ref r) a
section
variable {P:Program}{w:World}{K:PySem.W.Frag}{mg:Str->Option Value}{base:Heap}
theorem bZ:FnScope ["_law_left_here","_law_some"] ["_law_left_here","_law_some"] (zM sOf):=by trivial
theorem cV {f j:Addr}{fd dK:FuncData}(F:Fun K "_law_of" "_law_of" sOf f fd) (G:Mgs mg) (a:Use P w K mg base "_law_pick" ["_law_left_here","_law_many"] 1 xj j dK):FnOk P w K mg base CX0 2 f fd ["_law_left_here","_law_some"] mQ:=by
 refine F.ok bZ (λg H Q E h=>?_) (λo A outer s H g Q E i h=>?_)
 ·obtain⟨l,q,b,rfl,_⟩:=h
  rfl
 obtain⟨l,q,b,rfl,S,ne,d,r,p,k⟩:=h;refine⟨_,(@zK _ _ _ (@zT _ _ _ _ (@zi _ _ _ _ _ _ _ yK (@qv _ 1 _ _ (by trivial)) (@zL _ _ _ _ _ _ _ _ _ _ _ _ _ _ _ _ a.ok i (by rfl) a.m a.kp a.b .nil zW (@zA _ _ _ _ _ (@qv _ 0 _ _ (by trivial)) (@zA _ _ _ _ _ (@zP _ _ _ _ _ _ _ _ _ zV (by rfl) G.len JX (@zA _ _ _ _ _ (@qv _ 1 _ _ (by trivial)) zC (by rfl)) (by decide) (by decide) (by rfl) (by rfl)) zC (by rfl)) (by rfl)) (by decide) (by rfl) (by rfl)) (λ_ _=>rfl)))),?_⟩;refine⟨_,rfl,_,rfl,_,rfl,q,_,rfl,.inl (SqL.of d),l,_,rfl,by lia,by lia,S,λv n t m e=>?_⟩;have c:v<b.length:=by lia
 exact⟨q,_,_,_,rfl,rfl,SqL.of (e q _ d ne),yg (J8 c),k v _ n (J8 c) m e⟩
theorem g9:FnScope ["_law_left_here","_law_some","_law_found"] ["_law_left_here","_law_some"] (zM rG):=by trivial
theorem me {f fK:Addr}{fd dK:FuncData}(F:Fun K "_law_placed" "_law_placed" rG f fd) (G:Mgs mg) (D:Use P w K mg base "_law_pick" ["_law_left_here","_law_many"] 1 xj fK dK):FnOk P w K mg base CX0 2 f fd ["_law_left_here","_law_some"] x9:=by
 refine F.ok g9 (λW H Q E h=>?_) (λad A outer s H W Q E T h=>?_)
 ·obtain⟨l,q,xs,rfl,_⟩:=h
  rfl
 obtain⟨l,q,xs,rfl,S,ne,Y,xm,k⟩:=h;refine⟨_,(@zG _ _ _ _ _ (@zY _ _ 1 _ _ _ _ g9.nd rfl (.inl rfl) (@zZ _ _ _ _ _ _ _ _ _ yZ (by rfl) G.list (by rfl) (@zA _ _ _ _ _ (@qv _ 1 _ _ (by trivial)) zC (by rfl)) (by decide) (by decide) (by rfl) (by rfl)) (by rfl) (by trivial)) (@zG _ _ _ _ _ (@zY _ _ 2 _ _ _ _ g9.nd rfl (.inl rfl) (@yO _ _ _ _ zC) (by rfl) (by trivial)) (@zG _ _ _ _ _ (@qO _ _ _ _ _ _ Yz (@zp _ _ _ _ _ _ _ _ (oV T.units0) (@qv _ 1 _ _ (by trivial)) (@yO _ _ _ _ zC) (yC _)) (@zK _ _ _ (@wp _ _ _ _ (@tR _ _ _ _ _ _ _ _ _ _ _ _ YS Zm Zn xB (@qv _ 2 _ _ (by trivial)) (@zA _ _ _ _ _ (@tR _ _ _ _ _ _ _ _ _ _ _ _ YS PySem.F.slot_list_pop PySem.F.type_list_pop jb (@qv _ 1 _ _ (by trivial)) (@zA _ _ _ _ _ (@zL _ _ _ _ _ _ _ _ _ _ _ _ _ _ _ _ D.ok T (by rfl) D.m D.kp D.b .nil zW (@zA _ _ _ _ _ (@qv _ 0 _ _ (by trivial)) (@zA _ _ _ _ _ (@zP _ _ _ _ _ _ _ _ _ zV (by rfl) G.len JX (@zA _ _ _ _ _ (@qv _ 1 _ _ (by trivial)) zC (by rfl)) (by decide) (by decide) (by rfl) (by rfl)) zC (by rfl)) (by rfl)) (by decide) (by rfl) (by rfl)) zC (by rfl)) (by rfl) (by rfl) (by rfl) (by rfl) (by rfl)) zC (by rfl)) (by rfl) (by rfl) (by rfl) (by rfl) (by rfl)) (by rfl)))) (@zK _ _ _ (@zT _ _ _ _ (@qv _ 2 _ _ (by trivial))))))),?_⟩;refine⟨_,rfl,q,_,rfl,Y.imp SqL.of SqT.of,λlo t=>?_⟩;have v:=zD t (.lst xs);have y:=S.ne t;refine⟨(by show 0<=sizeLine;decide),λlt d=>?_⟩;have O:=zD d (.lst []);have x:=(S.keep v).ne d;have not:lo≠lt:=zH zB d;have N:Frs l H lo:=λb o e _=>zH e t;have flt:Frs l H lt:=λb o e _=>zH (v _ _ e) d
 have B:H lt=none:=by
  cases z:H lt with
  | none=>rfl
  | some o=>rw[v _ _ z]at d;cases d
 refine⟨λm σ n=>σ=[some (.ref l),some (.ref lo),some (.ref lt)]/\PkAt n l/\But l H n/\∃ c g,n lo=some (.lst c)/\c.length=m/\n lt=some (.lst g)/\(g++c).Perm xs,
  ⟨_,rfl,(S.keep v).keep O,(But.of v).trans (But.of O),xs,[],by rw[zJ not];exact zB,rfl,zB,.refl _⟩,?_⟩
 rintro m σ n ⟨rfl,S3,B3,c,g,R,ul,X,pm⟩;refine⟨_,rfl,(by show 0<=sizeLine;decide),λe Z=>?_⟩;have u:=zD Z (.lst []);refine⟨lo,e,c,rfl,rfl,SqL.of (u _ _ R),SqL.of zB,_,rfl,?_⟩;have U:=S3.keep u;have V:But l H (L2.upd n e (.lst [])):=B3.trans (But.of u);have r:=u _ _ R;have p:=u _ _ X;generalize L2.upd n e (.lst [])=H4 at *;have ab:g.length+c.length=xs.length:=by rw[<- Jd];exact pm.length_eq
 by_cases un:c=[]
 ·rw[show (!c.isEmpty)=false by rw[un];rfl]
  refine zr ⟨_,rfl,k lt g H4 ?_ B p U V⟩;rw[un,Yi]at pm;exact pm
 have up:0<c.length:=List.length_pos_iff.mpr un
 rw[show (!c.isEmpty)=true by cases c with
  | nil=>exact absurd rfl un
  | cons a b=>rfl]
 refine yE ⟨_,λaa H' hN=>⟨m-1,by lia,hN⟩,?_⟩;refine⟨_,rfl,.inl ⟨rfl,_,SqL.of p⟩,_,rfl,.inl ⟨rfl,_,SqL.of r⟩,_,rfl,_,rfl,lo,_,rfl,.inl (SqL.of r),l,_,rfl,by lia,by lia,U,λj H5 hk S5 I=>?_⟩;have C:j<c.length:=by lia
 have M:=I lo _ r y.symm;have L:=I lt _ p x.symm;refine⟨lo,_,_,j,c[j],rfl,rfl,M,by lia,by lia,(ra (sE (xs:=c) (i:=j) C)).1,J8 C,?_⟩;have J:upd H5 lo (.lst (c.eraseIdx j)) lt=some (.lst g):=by rw[zJ not.symm];exact L
 refine⟨lt,_,_,rfl,rfl,J,JD (show g.length<1000001 by lia) (by decide),rfl,(S5.upd y).upd x,((V.trans I).upd N).upd flt,c.eraseIdx j,g++[c[j]],by rw[zJ not];exact zB,by rw[List.length_eraseIdx,Jp C];lia,zB,?_⟩;refine List.Perm.trans ?_ pm;rw[Y7];refine List.Perm.append_left g ?_;exact uh c j C
theorem scN:FnScope ["_law_left_here","_law_lanes","_law_most","_law_forks","_law_k","_law_a","_law_b","_law_ends"] ["_law_left_here","_law_lanes","_law_most"] (zM fQ):=by trivial
theorem eD {f fK fO fP:Addr}{fd dK dO dP:FuncData}(most:Nat) (am:most<=100) (F:Fun K "_law_net" "_law_net" fQ f fd) (G:Mgs mg) (m:Use P w K mg base "_law_pick" ["_law_left_here","_law_many"] 1 xj fK dK) (UO:Use P w K mg base "_law_of" ["_law_left_here","_law_some"] 2 mQ fO dO) (UP:Use P w K mg base "_law_placed" ["_law_left_here","_law_some"] 2 x9 fP dP):FnOk P w K mg base CX0 3 f fd ["_law_left_here","_law_lanes","_law_most"] (pi most):=by
 refine F.ok scN (λvs H Q E h=>?_) (λaw A outer s H vs Q E hr h=>?_)
 ·obtain⟨l,lanes,rfl,_⟩:=h
  rfl
 obtain⟨l,lanes,rfl,S,l1,ap,k⟩:=h;have M:Room 1 _:=hr.mono (by decide);refine⟨_,(@zG _ _ _ _ _ (@zY _ _ 3 _ _ _ _ scN.nd rfl (.inl rfl) (@yO _ _ _ _ zC) (by rfl) (by trivial)) (@zG _ _ _ _ _ (@xa _ _ _ _ _ _ _ _ Yz rfl (@wM _ _ _ _ _ _ rfl G.range (@zA _ _ _ _ _ (@zS _ _ _ _ _ _ _ _ wE (@zL _ _ _ _ _ _ _ _ _ _ _ _ _ _ _ _ m.ok M (by rfl) m.m m.kp m.b .nil zW (@zA _ _ _ _ _ (@qv _ 0 _ _ (by trivial)) (@zA _ _ _ _ _ (@zS _ _ _ _ _ _ _ _ yX (@qv _ 2 _ _ (by trivial)) zE) zC (by rfl)) (by rfl)) (by decide) (by rfl) (by rfl)) (@zZ _ _ _ _ _ _ _ _ _ sP (by rfl) G.int (by rfl) (@zA _ _ _ _ _ (@wN _ _ _ _ _ _ _ _ gq (@qv _ 1 _ _ (by trivial)) zE (yC _)) zC (by rfl)) (by decide) (by decide) (by rfl) (by rfl))) zC (by rfl)) (by rfl)) (@zN _ _ 4 _ scN.nd rfl (.inl rfl) (by trivial)) (@zG _ _ _ _ _ (@zY _ _ 5 _ _ _ _ scN.nd rfl (.inl rfl) (@zL _ _ _ _ _ _ _ _ _ _ _ _ _ _ _ _ m.ok M (by rfl) m.m m.kp m.b .nil zW (@zA _ _ _ _ _ (@qv _ 0 _ _ (by trivial)) (@zA _ _ _ _ _ (@qv _ 1 _ _ (by trivial)) zC (by rfl)) (by rfl)) (by decide) (by rfl) (by rfl)) (by rfl) (by trivial)) (@zG _ _ _ _ _ (@zY _ _ 6 _ _ _ _ scN.nd rfl (.inl rfl) (@zS _ _ _ _ _ _ _ _ yh (@zS _ _ _ _ _ _ _ _ yX (@zS _ _ _ _ _ _ _ _ yX (@qv _ 5 _ _ (by trivial)) zE) (@zL _ _ _ _ _ _ _ _ _ _ _ _ _ _ _ _ m.ok M (by rfl) m.m m.kp m.b .nil zW (@zA _ _ _ _ _ (@qv _ 0 _ _ (by trivial)) (@zA _ _ _ _ _ (@zS _ _ _ _ _ _ _ _ uO (@qv _ 1 _ _ (by trivial)) zE) zC (by rfl)) (by rfl)) (by decide) (by rfl) (by rfl))) (@qv _ 1 _ _ (by trivial))) (by rfl) (by trivial)) (@zG _ _ _ _ _ (@ya _ _ _ _ _ _ _ _ (@kn _ _ _ _ _ _ _ (@zp _ _ _ _ _ _ _ _ (oV hr.units0) (@qv _ 3 _ _ (by trivial)) (@yO _ _ _ _ zC) (yC _)) (@nJ _ _ _ _ (@zp _ _ _ _ _ _ _ _ xg (@zL _ _ _ _ _ _ _ _ _ _ _ _ _ _ _ _ m.ok M (by rfl) m.m m.kp m.b .nil zW (@zA _ _ _ _ _ (@qv _ 0 _ _ (by trivial)) (@zA _ _ _ _ _ zE zC (by rfl)) (by rfl)) (by decide) (by rfl) (by rfl)) zE (yC _)))).pt (@zK _ _ _ (@yV _ _ _ _ _ _ (@ip _ _ _ _ _ _ _ (@zi _ _ _ _ _ _ _ yK (@qv _ 3 _ _ (by trivial)) (@tN _ _ _ _ _ _ vC zE) (λ_ _=>rfl)) (@zx _ _ _ (@zL _ _ _ _ _ _ _ _ _ _ _ _ _ _ _ _ UO.ok hr (by rfl) UO.m UO.kp UO.b .nil zW (@zA _ _ _ _ _ (@qv _ 0 _ _ (by trivial)) (@zA _ _ _ _ _ (@yO _ _ _ _ (@zA _ _ _ _ _ zE (@zA _ _ _ _ _ (@tN _ _ _ _ _ _ vC zE) zC (by rfl)) (by rfl))) zC (by rfl)) (by rfl)) (by decide) (by rfl) (by rfl)))) (@yW _ _ _ _ _ _ rfl (@zQ _ _ _ _ _ (@zN _ _ 5 _ scN.nd rfl (.inl rfl) (by trivial)) (@zQ _ _ _ _ _ (@zN _ _ 6 _ scN.nd rfl (.inl rfl) (by trivial)) yJ (by rfl)) (by rfl)) (by rfl) (by rfl)) (by rfl) (by rfl) (by rfl))) zw) (@zK _ _ _ (@wp _ _ _ _ (@tR _ _ _ _ _ _ _ _ _ _ _ _ YS Zm Zn xB (@qv _ 3 _ _ (by trivial)) (@zA _ _ _ _ _ (@zU _ _ _ _ _ (@zA _ _ _ _ _ (@qv _ 5 _ _ (by trivial)) (@zA _ _ _ _ _ (@qv _ 6 _ _ (by trivial)) zC (by rfl)) (by rfl))) zC (by rfl)) (by rfl) (by rfl) (by rfl) (by rfl) (by rfl)) (by rfl)))))) (by intro _;rfl)) (@zG _ _ _ _ _ (@zY _ _ 7 _ _ _ _ scN.nd rfl (.inl rfl) (@tQ _ _ _ _ _ _ _ rfl (by rfl) G.list (by rfl) G.range (@zA _ _ _ _ _ (@qv _ 1 _ _ (by trivial)) zC (by rfl)) (by rfl) (by rfl)) (by rfl) (by trivial)) (@zG _ _ _ _ _ (@ya _ _ _ _ _ _ _ _ (@zp _ _ _ _ _ _ _ _ xg (@zL _ _ _ _ _ _ _ _ _ _ _ _ _ _ _ _ m.ok M (by rfl) m.m m.kp m.b .nil zW (@zA _ _ _ _ _ (@qv _ 0 _ _ (by trivial)) (@zA _ _ _ _ _ zE zC (by rfl)) (by rfl)) (by decide) (by rfl) (by rfl)) zE (yC _)) (@zK _ _ _ (@zY _ _ 7 _ _ _ _ scN.nd rfl (.inl rfl) (@zL _ _ _ _ _ _ _ _ _ _ _ _ _ _ _ _ UP.ok hr (by rfl) UP.m UP.kp UP.b .nil zW (@zA _ _ _ _ _ (@qv _ 0 _ _ (by trivial)) (@zA _ _ _ _ _ (@qv _ 7 _ _ (by trivial)) zC (by rfl)) (by rfl)) (by decide) (by rfl) (by rfl)) (by rfl) (by trivial))) zw) (@zK _ _ _ (@zT _ _ _ _ (@zU _ _ _ _ _ (@zA _ _ _ _ _ (@qv _ 1 _ _ (by trivial)) (@zA _ _ _ _ _ (@zZ _ _ _ _ _ _ _ _ _ zu (by rfl) G.tuple (by rfl) (@zA _ _ _ _ _ (@qv _ 3 _ _ (by trivial)) zC (by rfl)) (by decide) (by decide) (by rfl) (by rfl)) (@zA _ _ _ _ _ (@zZ _ _ _ _ _ _ _ _ _ zu (by rfl) G.tuple (by rfl) (@zA _ _ _ _ _ (@qv _ 7 _ _ (by trivial)) zC (by rfl)) (by decide) (by decide) (by rfl) (by rfl)) zC (by rfl)) (by rfl)) (by rfl))))))))),?_⟩;refine⟨(by show 0<=sizeLine;decide),λlf ae=>?_⟩;have p:=S.ne ae;have B0:But l H (L2.upd H lf (.lst [])):=But.of (zD ae _);have aq:Frs l H lf:=λb o e _=>zH e ae;refine⟨_,rfl,_,rfl,_,_,rfl,rfl,l,_,rfl,by lia,by lia,S.upd p,λkv H1 au S1 B1=>?_⟩;refine⟨_,rfl,_,_,rfl,rfl,.inr ⟨_,rfl,_,_,rfl,rfl,.inl ⟨by lia,by lia⟩,?_⟩⟩
 have cb:((kv:Int)*(if decide ((1:Int)<lanes)=true then 1 else 0))=((if 1<lanes then kv else 0:Nat):Int):=by
  by_cases z:1<lanes
  ·rw[Jp (Jw (by lia)),Jp z];lia
  ·rw[Jf (by rw[Jq (by lia)];exact Jn),Jf z];lia
 have cl:(if 1<lanes then kv else 0)<=most:=by split<;>lia
 refine⟨_,rfl,by rw[cb];lia,by rw[cb];lia,?_⟩;rw[cb];generalize ag:(if 1<lanes then kv else 0)=cnt at cl
 refine vP (lo:=0) (n:=((cnt:Nat):Int).toNat) (λi σ U=>(∃ w4 w5 w6 w7,σ=[some (.ref l),some (.int lanes),some (.int most),some (.ref lf),w4,w5,w6,w7])/\PkAt U l/\But l H U/\∃ c fs,U lf=some (.lst c)/\Prs U c fs/\fs.length=i/\∀ f∈fs,f.1<lanes/\f.2<lanes/\f.1≠f.2)
  ⟨⟨_,_,_,_,rfl⟩,S1,B0.trans B1,[],[],B1 lf _ zB p.symm,trivial,rfl,λf hf=>by simp at hf⟩ ?_ ?_
 ·rintro i σ U hi ⟨⟨w4,w5,w6,w7,rfl⟩,S2,B2,c,fs,h2,p2,fl,W⟩
  have l2:1<lanes:=by
   by_cases z:1<lanes
   ·exact z
   ·rw[Jf z]at ag;lia
  refine⟨_,rfl,_,rfl,l,lanes,rfl,by lia,by lia,S2,λone H3 ho S3 B3=>?_⟩;refine⟨_,rfl,_,_,rfl,rfl,_,rfl,_,rfl,_,_,rfl,rfl,l,_,rfl,by lia,by lia,S3,λd v hd S4 L=>?_⟩;refine⟨_,_,rfl,rfl,_,rfl,_,_,rfl,rfl,by lia,?_⟩;have R:one<lanes:=by lia
  obtain⟨ad,aa⟩:=jK (one:=one) (d:=d) (lanes:=lanes) R (by lia);have ec:((one:Int)+1+d)%lanes=(((one+1+d)%lanes:Nat):Int):=by rw[YU,Int.natCast_add,Int.natCast_add];rfl
  dsimp only;rw[ec];generalize (one+1+d)%lanes=oth at ad aa;have Z:=L lf _ (B3 lf _ h2 p.symm) p.symm;have p4:=p2.tups ((B3.tups S2).trans (L.tups S3));have ar:But l H v:=(B2.trans B3).trans L
  have fin:∀ (a b:Nat) (u:Hp),a<lanes->b<lanes->a≠b->PkAt u l->But l H u->u lf=some (.lst c)->Prs u c fs->∀ t:Addr,u t=none->c.length<sizeLine/\PkAt (upd (upd u t (.tup [.int a,.int b])) lf (.lst (c++[.ref t]))) l/\But l H (upd (upd u t (.tup [.int a,.int b])) lf (.lst (c++[.ref t]))) /\
    ∃ ah af,upd (upd u t (.tup [.int a,.int b])) lf (.lst (c++[.ref t])) lf=some (.lst ah)/\Prs (upd (upd u t (.tup [.int a,.int b])) lf (.lst (c++[.ref t]))) ah af/\af.length=i+1/\∀ f∈af,f.1<lanes/\f.2<lanes/\f.1≠f.2:=λa b u ha hb ab S5 X T p5 t C=>by
   have st:=zD C (.tup [.int a,.int b]);have Y:=st _ _ T;have T6:Tups (upd u t (.tup [.int a,.int b])) (upd (upd u t (.tup [.int a,.int b])) lf (.lst (c++[.ref t]))):=Tups.lst Y;refine⟨by rw[p5.len,fl];exact JD (show i<1000 by lia) (by decide),(S5.keep st).upd p,(X.trans (But.of st)).upd aq,_,fs++[(a,b)],zB,((p5.tups (Tups.of st)).tups T6).add (f:=(a,b)) (T6 _ _ zB),by rw[Jd,fl];rfl,λf hf=>?_⟩;rcases Ju.mp hf with z|z
   ·exact W f z
   ·rw[Js.mp z];exact⟨ha,hb,ab⟩
  refine⟨_,rfl,(by show 0<=sizeLine;decide),λe he=>?_⟩;have s5:=zD he (.lst []);refine⟨lf,e,c,rfl,rfl,SqL.of (s5 _ _ Z),SqL.of zB,_,rfl,?_⟩;have S5:=S4.keep s5;have X:But l H (L2.upd v e (.lst [])):=ar.trans (But.of s5);have T:=s5 _ _ Z;have p5:=p4.tups (Tups.of s5);generalize L2.upd v e (.lst [])=u at *;by_cases pn:c=[]
  ·rw[show (!c.isEmpty)=false by rw[pn];rfl]
   refine zr ?_;refine⟨_,rfl,.inl ⟨rfl,_,SqL.of T⟩,_,rfl,_,rfl,(by show 2<=sizeLine;decide),λt C=>?_⟩;obtain⟨z,a1,a2,a3⟩:=fin one oth u R ad aa S5 X T p5 t C;exact⟨lf,_,_,rfl,rfl,zD C _ _ _ T,z,⟨_,_,_,_,rfl⟩,a1,a2,a3⟩
  rw[show (!c.isEmpty)=true by cases c with
   | nil=>exact absurd rfl pn
   | cons a b=>rfl]
  refine yE ⟨_,rfl,l,4,rfl,by decide,by decide,S5,λy H6 hy S6 B6=>⟨rfl,_,rfl,?_⟩⟩;have Y:=B6 lf _ T p.symm;have p6:=p5.tups (B6.tups S5);have ak:But l H H6:=X.trans B6;refine jr (λ_=>?_) (λ_=>?_)
  ·-- the last one anew
   have pp:0<c.length:=List.length_pos_iff.mpr pn;have lx:c[c.length-1]?=some c[c.length-1]:=J8 (by lia);obtain⟨a,g,ea,eg,ha⟩:=p6.get lx;have D:=W g (Jz eg);rw[ea]at lx;refine⟨_,rfl,_,rfl,lf,_,_,_,rfl,rfl,SqL.of Y,de lx,?_⟩;refine⟨_,rfl,_,rfl,(by show 2<=sizeLine;decide),λq hq=>?_⟩;have s7:=zD hq (.lst [.int 1,.int (-1)]);have ao:=S6.ne hq;refine⟨l,q,_,rfl,S6.keep s7,ao.symm,zB,by show 0<2;decide,by show 2<=100000;decide,λj x H8 hx S8 B8=>?_⟩;have T8:Tups H6 H8:=(Tups.of s7).trans (B8.tups (S6.keep s7));have h8:=B8 lf _ (s7 _ _ Y) p.symm;have aj:But l H H8:=(ak.trans (But.of s7)).trans B8;have jl:=(J9.mp hx).1;simp only[Ya,List.length_nil]at jl;rcases j with _|_|j
   ·obtain rfl:=Jr hx
    refine⟨_,rfl,a,_,_,rfl,SqT.of (T8 _ _ ha),.inl ⟨rfl,?_⟩⟩;refine⟨a,_,rfl,SqT.of (T8 _ _ ha),rfl,_,_,rfl,_,_,rfl,rfl,?_⟩;refine⟨_,rfl,.inl ⟨rfl,_,SqL.of h8⟩,_,rfl,_,rfl,(by show 2<=sizeLine;decide),λt C=>?_⟩;obtain⟨z,a1,a2,a3⟩:=fin g.1 g.2 H8 D.1 D.2.1 D.2.2 S8 aj h8 (p6.tups T8) t C;exact⟨lf,_,_,rfl,rfl,zD C _ _ _ h8,z,⟨_,_,_,_,rfl⟩,a1,a2,a3⟩
   ·obtain rfl:=Jr hx
    refine⟨_,rfl,a,_,_,rfl,SqT.of (T8 _ _ ha),.inr ⟨rfl,λb hb=>?_⟩⟩;have s9:=zD hb (.tup [.int g.2,.int g.1]);refine⟨b,_,rfl,SqT.of zB,rfl,_,_,rfl,_,_,rfl,rfl,?_⟩;refine⟨_,rfl,.inl ⟨rfl,_,SqL.of (s9 _ _ h8)⟩,_,rfl,_,rfl,(by show 2<=sizeLine;decide),λt C=>?_⟩;obtain⟨z,a1,a2,a3⟩:=fin g.2 g.1 _ D.2.1 D.1 (Ne.symm D.2.2) (S8.keep s9) (aj.trans (But.of s9)) (s9 _ _ h8) ((p6.tups T8).tups (Tups.of s9)) t C;exact⟨lf,_,_,rfl,rfl,zD C _ _ _ (s9 _ _ h8),z,⟨_,_,_,_,rfl⟩,a1,a2,a3⟩
   ·lia
  ·refine⟨_,rfl,.inl ⟨rfl,_,SqL.of Y⟩,_,rfl,_,rfl,(by show 2<=sizeLine;decide),λt C=>?_⟩
   obtain⟨z,a1,a2,a3⟩:=fin one oth H6 R ad aa S6 ak Y p6 t C;exact⟨lf,_,_,rfl,rfl,zD C _ _ _ Y,z,⟨_,_,_,_,rfl⟩,a1,a2,a3⟩
 ·rintro σ U ⟨⟨w4,w5,w6,w7,rfl⟩,S2,B2,c,fs,h2,p2,fl,W⟩
  refine⟨_,rfl,lanes,rfl,by lia,λle hle=>?_⟩;have s3:=zD hle (if true=true then HO.lst (wV lanes) else .tup (wV lanes));have e3:upd U le (if true=true then HO.lst (wV lanes) else .tup (wV lanes)) le=some (.lst (zj (List.range lanes))):=zB;have ai:=S2.ne hle;have S3:=S2.keep s3;have B3:But l H (upd U le (if true=true then HO.lst (wV lanes) else .tup (wV lanes))):=B2.trans (But.of s3);have h3:=s3 _ _ h2;have p3:=p2.tups (Tups.of s3);generalize upd U le (if true=true then HO.lst (wV lanes) else .tup (wV lanes))=H3 at *
  have fin:∀ (el:Addr) (I:List Nat) (w4 w5 w6:Option V) (v:Hp),I.Perm (List.range lanes)->v el=some (.lst (zj I))->PkAt v l->But l H v->v lf=some (.lst c)->Prs v c fs->∀ fr,v fr=none->∀ J,upd v fr (.tup c) J=none->∀ r,upd (upd v fr (.tup c)) J (.tup (zj I)) r=none->Q (.ref r) (upd (upd (upd v fr (.tup c)) J (.tup (zj I))) r (.tup [.int lanes,.ref fr,.ref J])):=λel I w4 w5 w6 v pe he S4 L Z p4 fr B J O r N=>by
   have t1:=zD B (.tup c);have t2:=zD O (.tup (zj I));have t3:=zD N (.tup [.int lanes,.ref fr,.ref J]);have t:=(t1.trans t2).trans t3;exact k r fr J c ⟨lanes,fs,I⟩ _ ⟨l1,ap,by show fs.length<=128;lia,W,pe⟩ rfl (by show fs.length<=most;lia) ⟨zB,(t2.trans t3) _ _ zB,p4.tups (Tups.of t),t3 _ _ zB⟩ (S4.keep t) (L.trans (But.of t))
  refine⟨_,rfl,l,2,rfl,by decide,by decide,S3,λy v hy S4 L=>⟨rfl,_,rfl,?_⟩⟩;have e4:=L le _ e3 ai.symm;have Z:=L lf _ h3 p.symm;have p4:=p3.tups (L.tups S3);refine jr (λ_=>?_) (λ_=>?_)
  ·refine⟨_,rfl,_,rfl,l,le,_,rfl,S4,ai.symm,.inl e4,by rw[yD,Yv];lia,λel ys u pm av e5 S5 X=>?_⟩
   obtain⟨I,rfl,pe⟩:∃ I:List Nat,ys=zj I/\I.Perm (List.range lanes):=mt pm;have T:=X lf _ Z p.symm;refine⟨_,rfl,_,rfl,lf,_,rfl,.inl ⟨SqL.of T,λfr B=>⟨_,rfl,el,_,rfl,.inl ⟨SqL.of (zD B _ _ _ e5),λJ O=>⟨(by show 3<=sizeLine;decide),λr N=>?_⟩⟩⟩⟩⟩;exact fin el I none none none u pe e5 S5 ((B3.trans L).trans X) T (p4.tups (X.tups S4)) fr B J O r N
  ·refine⟨_,rfl,_,rfl,lf,_,rfl,.inl ⟨SqL.of Z,λfr B=>⟨_,rfl,le,_,rfl,.inl ⟨SqL.of (zD B _ _ _ e4),λJ O=>⟨(by show 3<=sizeLine;decide),λr N=>?_⟩⟩⟩⟩⟩
   exact fin le _ none none none v (.refl _) e4 S4 (B3.trans L) Z p4 fr B J O r N
end
end K63
namespace Bn
open PySem L2 Own
def yH (back:Bool)(st:List Int × Nat)(k:Nat)(f:Nat × Nat):List Int × Nat :=
 if st.2=f.1\/st.2=f.2 then (st.1.set k (1-st.1.getD k 0),if (if back then 1-st.1.getD k 0 else st.1.getD k 0)=0 then f.1 else f.2) else st
def yS (back:Bool)(fs:List (Nat × Nat))(ts:List Int)(lane:Nat):Nat->List Int × Nat
 | 0=>(ts,lane)
 | i+1=>yH back (yS back fs ts lane i) i (fs.getD i (0,0))
def bG (xs:List Int)(i:Nat)(d:Int):List Int:=xs.set i (xs.getD i 0+d)
theorem kO {ts:List Int}{k:Nat}(h:∀ t∈ts,t=0\/t=1):∀ t∈ts.set k (1-ts.getD k 0),t=0\/t=1:=λt a=>by
 rcases List.mem_or_eq_of_mem_set a with z|z
 ·exact h t z
 ·by_cases b:k<ts.length
  ·have:=h _ (L2.ug b);lia
  ·rw[List.set_eq_of_length_le (by lia)]at a;exact h t a
theorem xn {back:Bool}{fs:List (Nat × Nat)}{ts:List Int}{lane:Nat}(h:∀ t∈ts,t=0\/t=1):∀ i,∀ t∈(yS back fs ts lane i).1,t=0\/t=1
 | 0=>h
 | i+1=>by
  have ih:=xn (back:=back) (fs:=fs) (lane:=lane) h i;show ∀ t∈(yH back (yS back fs ts lane i) i (fs.getD i (0,0))).1,t=0\/t=1;unfold yH;split
  ·exact kO ih
  ·exact ih
theorem wJ {back:Bool}{fs:List (Nat × Nat)}{ts:List Int}{lane:Nat}:∀ i,(yS back fs ts lane i).1.length=ts.length
 | 0=>rfl
 | i+1=>by
  have ih:=wJ (back:=back) (fs:=fs) (ts:=ts) (lane:=lane) i;show (yH back (yS back fs ts lane i) i (fs.getD i (0,0))).1.length=_;unfold yH;split
  ·simp only;rw[List.length_set];exact ih
  ·exact ih
theorem wZ {back:Bool}{fs:List (Nat × Nat)}{ts:List Int}{lane n:Nat}(ok:∀ f∈fs,f.1<n/\f.2<n/\f.1≠f.2)(b:lane<n):∀ i,i<=fs.length->(yS back fs ts lane i).2<n
 | 0,_=>b
 | i+1,hi=>by
  have ih:=wZ (back:=back) (ts:=ts) ok b i (by lia);have a:=ok _ (List.getElem_mem (show i<fs.length by lia));have c:fs.getD i (0,0)=fs[i]:=by rw[JN,J8 (show i<fs.length by lia)];rfl
  show (yH back (yS back fs ts lane i) i (fs.getD i (0,0))).2<n;rw[c];generalize fs[i]=f at *;unfold yH;split
  ·simp only
   by_cases z:(if back=true then 1-(yS back fs ts lane i).1.getD i 0 else (yS back fs ts lane i).1.getD i 0)=0
   ·rw[Jp z];exact a.1
   ·rw[Jf z];exact a.2.1
  ·exact ih
theorem uc (k:Nat):∀ a:List Nat,(a.map λ(e:Nat)=>(e:Int)).idxOf (k:Int)=a.idxOf k
 | []=>rfl
 | e::a=>by
  rw[Yd,List.idxOf_cons,List.idxOf_cons,uc k a]
  have:((e:Int) == (k:Int))=(e == k):=by
   rw[Yh,beq_iff_eq];rw[beq_iff_eq];lia
  rw[this]
theorem qX (a:List Nat):zj a=(a.map λ(e:Nat)=>(e:Int)).map V.int:=by unfold zj;rw[Zs];rfl
def kL:Sp:=λb H Q _=>∃ r fr d c N,∃ a:Nat,b=[.ref r,.int a]/\Nt.Ok N/\NetAt H r fr d c N/\a<N.lanes/\Q (.int (N.ends.idxOf a:Nat)) H
def RunQ (back:Bool)(vs:List V)(H:Hp)(Q:VK):Prop:=∃ r fr g f N e b,∃ a:Nat,vs=[.ref r,.ref e,.int a]/\Nt.Ok N/\NetAt H r fr g f N/\H e=some (.tup (List.map V.int b))/\b.length=N.forks.length/\(∀ t∈b,t=0\/t=1)/\a<N.lanes /\
 ∀ p c d,Same H d->d p=some (.tup [.ref c,.int (N.ends.idxOf (yS back N.forks b a N.forks.length).2:Nat)])->d c=some (.tup ((yS back N.forks b a N.forks.length).1.map V.int))->Q (.ref p) d
def pf (back:Bool):Sp:=λa H Q _=>RunQ back a H Q
def kJ:Sp:=λb H Q _=>∃ (a:List V) (back:Bool),b=a++[.bl back]/\RunQ back a H Q
end Bn
namespace K63
open PySem L2 Own Bn
abbrev fZ:Stmt:=top 8
abbrev rH:Stmt:=top 13
abbrev fI:Stmt:=top 14
theorem ju (h a b:Nat):inV (V.int h) [V.int a,V.int b]=decide (h=a\/h=b):=by
 rw[Yh,decide_eq_true_iff];simp[inV,eqV];lia
section
variable {P:Program}{w:World}{K:PySem.W.Frag}{mg:Str->Option Value}{base:Heap}
theorem scD:FnScope ["net","lane"] ["net","lane"] (zM fZ):=by trivial
theorem eG {f:Addr}{fd:FuncData}(F:Fun K "end_of" "end_of" fZ f fd):FnOk P w K mg base CX0 1 f fd ["net","lane"] kL:=by
 refine F.ok scD (λd H Q E h=>?_) (λj A outer s H d Q E g h=>?_)
 ·obtain⟨r,fr,c,e,N,a,rfl,_⟩:=h
  rfl
 obtain⟨r,fr,c,e,N,a,rfl,ok,na,i,k⟩:=h;refine⟨_,(@zK _ _ _ (@zT _ _ _ _ (@nN _ _ _ _ _ _ _ g.units (@zi _ _ _ _ _ _ _ zy (@qv _ 0 _ _ (by trivial)) zE (λ_ _=>rfl)) (@zA _ _ _ _ _ (@qv _ 1 _ _ (by trivial)) zC (by rfl)) (by rfl) (by rfl) (by rfl) (by rfl)))),?_⟩;have b:=na.ends;rw[qX]at b;refine⟨_,rfl,r,_,_,_,rfl,rfl,SqT.of na.net,rfl,c,_,rfl,b,_,rfl,(a:Int),rfl,b,?_,?_⟩
 ·exact JJ.mpr ⟨a,ok.en.mem_iff.mpr (YN.mpr i),rfl⟩
 ·rw[uc];exact k
theorem scR:FnScope ["net","turns","lane","back","behind","here","number","fork","turn"] ["net","turns","lane","back"] (zM fI):=by trivial
theorem eB {f fD:Addr}{fd dD:FuncData}(F:Fun K "run_through" "run_through" fI f fd) (G:Mgs mg) (M:Use P w K mg base "end_of" ["net","lane"] 1 kL fD dD):FnOk P w K mg base CX0 2 f fd ["net","turns","lane","back"] kJ:=by
 refine F.ok scR (λvs H Q E h=>?_) (λaa A outer s H vs Q E hr h=>?_)
 ·obtain⟨us,back,rfl,r,fr,er,J,N,D,ts,lane,rfl,_⟩:=h
  rfl
 obtain⟨us,back,rfl,r,fr,er,J,N,D,ts,lane,rfl,ok,na,S,tl,bits,hl,k⟩:=h;refine⟨_,(@zG _ _ _ _ _ (@zY _ _ 4 _ _ _ _ scR.nd rfl (.inl rfl) (@zZ _ _ _ _ _ _ _ _ _ yZ (by rfl) G.list (by rfl) (@zA _ _ _ _ _ (@qv _ 1 _ _ (by trivial)) zC (by rfl)) (by decide) (by decide) (by rfl) (by rfl)) (by rfl) (by trivial)) (@zG _ _ _ _ _ (@zY _ _ 5 _ _ _ _ scR.nd rfl (.inl rfl) (@qv _ 2 _ _ (by trivial)) (by rfl) (by trivial)) (@zG _ _ _ _ _ (@xa _ _ _ _ _ _ _ _ Yz rfl (@nM _ _ _ _ _ _ _ _ false rfl G.enum (@zA _ _ _ _ _ (@zi _ _ _ _ _ _ _ zy (@qv _ 0 _ _ (by trivial)) zE (λ_ _=>rfl)) zC (by rfl)) (by rfl)) (@yW _ _ _ _ _ _ rfl (@zQ _ _ _ _ _ (@zN _ _ 6 _ scR.nd rfl (.inl rfl) (by trivial)) (@zQ _ _ _ _ _ (@zN _ _ 7 _ scR.nd rfl (.inl rfl) (by trivial)) yJ (by rfl)) (by rfl)) (by rfl) (by rfl)) (@zK _ _ _ (@ya _ _ _ _ _ _ _ _ (@zp _ _ _ _ _ _ _ _ tT (@qv _ 5 _ _ (by trivial)) (@qv _ 7 _ _ (by trivial)) (by rfl)) (@zG _ _ _ _ _ (@zY _ _ 8 _ _ _ _ scR.nd rfl (.inl rfl) (@zi _ _ _ _ _ _ _ yK (@qv _ 4 _ _ (by trivial)) (@qv _ 6 _ _ (by trivial)) (λ_ _=>rfl)) (by rfl) (by trivial)) (@zG _ _ _ _ _ (@yV _ _ _ _ _ _ (@zS _ _ _ _ _ _ _ _ uO zE (@qv _ 8 _ _ (by trivial))) (@wc _ _ _ _ _ _ _ (@qv _ 4 _ _ (by trivial)) (@qv _ 6 _ _ (by trivial)) xQ (by intro _;rfl)) (by rfl) (by rfl) (by rfl)) (@zK _ _ _ (@zY _ _ 5 _ _ _ _ scR.nd rfl (.inl rfl) (@zi _ _ _ _ _ _ _ zy (@qv _ 7 _ _ (by trivial)) (@qQ _ _ _ _ _ _ _ _ (@xR _ _ _ (@qv _ 3 _ _ (by trivial)) (by intro _;rfl)) (@zS _ _ _ _ _ _ _ _ uO zE (@qv _ 8 _ _ (by trivial))) (@qv _ 8 _ _ (by trivial))) (λ_ _=>rfl)) (by rfl) (by trivial))))) zw)) (by intro _;rfl)) (@zK _ _ _ (@zT _ _ _ _ (@zU _ _ _ _ _ (@zA _ _ _ _ _ (@zZ _ _ _ _ _ _ _ _ _ zu (by rfl) G.tuple (by rfl) (@zA _ _ _ _ _ (@qv _ 4 _ _ (by trivial)) zC (by rfl)) (by decide) (by decide) (by rfl) (by rfl)) (@zA _ _ _ _ _ (@zL _ _ _ _ _ _ _ _ _ _ _ _ _ _ _ _ M.ok hr (by rfl) M.m M.kp M.b .nil zW (@zA _ _ _ _ _ (@qv _ 0 _ _ (by trivial)) (@zA _ _ _ _ _ (@qv _ 5 _ _ (by trivial)) zC (by rfl)) (by rfl)) (by decide) (by rfl) (by rfl)) zC (by rfl)) (by rfl)))))))),?_⟩;refine⟨_,rfl,D,_,rfl,.inr (SqT.of S),λd I=>⟨_,rfl,?_⟩⟩;have O:=zD I (.lst (ts.map V.int));refine⟨_,rfl,r,_,_,_,rfl,rfl,SqT.of (O _ _ na.net),rfl,fr,J,rfl,SqT.of (O _ _ na.forks),?_⟩
 refine pF (K:=K) (b:=false) (a:=fr) (xs:=J) (λi σ m=>(∃ C B y,σ=[some (.ref r),some (.ref D),some (.int lane),some (.bl back),some (.ref d),some (.int (yS back N.forks ts lane i).2),C,B,y])/\Same H m/\m d=some (.lst ((yS back N.forks ts lane i).1.map V.int)))
  ⟨⟨_,_,_,rfl⟩,O,zB⟩ (λi σ m _ q=>SqT.of (q.2.1 _ _ na.forks)) ?_ ?_
 ·rintro i x σ m T hx hT ⟨⟨C,B,y,rfl⟩,v,n⟩
  obtain⟨a,g,rfl,eg,L⟩:=(na.prs.tups (Tups.of v)).get hx;have gi:i<N.forks.length:=(J9.mp eg).1;have gd:N.forks.getD i (0,0)=g:=by rw[JN,eg];rfl
  have rs:yS back N.forks ts lane (i+1)=yH back (yS back N.forks ts lane i) i g:=by show yH _ _ _ _=_;rw[gd]
  have rl:=wJ (back:=back) (fs:=N.forks) (ts:=ts) (lane:=lane) i;have rb:=xn (back:=back) (fs:=N.forks) (lane:=lane) bits i;generalize yS back N.forks ts lane i=st at *;have u:=zD hT (.tup [.int i,.ref a]);have lT:d≠T:=zH n hT;refine⟨T,_,rfl,SqT.of zB,rfl,_,_,rfl,_,_,rfl,rfl,?_⟩;refine⟨_,rfl,_,rfl,a,_,rfl,.inr (SqT.of (u _ _ L)),rfl,rfl,_,rfl,?_⟩;show if (if false=true then !inV (V.int (st.2:Nat)) [V.int (g.1:Nat),V.int (g.2:Nat)] else inV (V.int (st.2:Nat)) [V.int (g.1:Nat),V.int (g.2:Nat)])=true then _ else _;rw[Jf Jn,ju];by_cases on:st.2=g.1\/st.2=g.2
  ·rw[Jw on]
   refine yE ?_;have c:yH back st i g=(st.1.set i (1-st.1.getD i 0),if (if back then 1-st.1.getD i 0 else st.1.getD i 0)=0 then g.1 else g.2):=by unfold yH;rw[Jp on]
   have R:i<st.1.length:=by lia
   have U:=rb _ (L2.ug R);have Z:=u _ _ n;refine⟨_,rfl,_,rfl,d,_,_,_,rfl,rfl,SqL.of Z,vV R,?_⟩;refine⟨_,rfl,_,_,rfl,rfl,_,rfl,_,rfl,d,_,_,i,rfl,rfl,Z,sE (by rw[Jg];exact R),?_⟩
   have l:upd (upd m T (.tup [.int i,.ref a])) d (.lst ((st.1.map V.int).set i (.int (1-st.1.getD i 0)))) a=some (.tup [.int g.1,.int g.2]):=by
    rw[zJ (by rintro rfl;rw[n]at L;cases L)];exact u _ _ L
   have fin:∀ nx:Nat,nx=(yH back st i g).2->(∃ C B y,([some (.ref r),some (.ref D),some (.int lane),some (.bl back),some (.ref d),some (.int nx),some (.int i),some (.ref a),some (.int (st.1.getD i 0))]:List (Option V))=[some (.ref r),some (.ref D),some (.int lane),some (.bl back),some (.ref d),some (.int (yS back N.forks ts lane (i+1)).2),C,B,y]) /\
     Same H (upd (upd m T (.tup [.int i,.ref a])) d (.lst ((st.1.map V.int).set i (.int (1-st.1.getD i 0)))))/\upd (upd m T (.tup [.int i,.ref a])) d (.lst ((st.1.map V.int).set i (.int (1-st.1.getD i 0)))) d=some (.lst ((yS back N.forks ts lane (i+1)).1.map V.int)):=λnx en=>by
    refine⟨⟨_,_,_,by rw[rs,en]⟩,λb o e=>?_,?_⟩
    ·rw[zJ (zH e I)];exact u _ _ (v b o e)
    ·rw[zB,rs,c,wm]
   cases back with
   | false =>
    rcases U with z|z
    ·exact⟨_,rfl,_,rfl,_,rfl,zr ⟨_,rfl,a,_,_,_,rfl,rfl,SqT.of l,by rw[z];exact yg (j:=0) rfl,fin g.1 (by rw[c,z];rfl)⟩⟩
    ·exact⟨_,rfl,_,rfl,_,rfl,zr ⟨_,rfl,a,_,_,_,rfl,rfl,SqT.of l,by rw[z];exact yg (j:=1) rfl,fin g.2 (by rw[c,z];rfl)⟩⟩
   | true =>
    rcases U with z|z
    ·exact⟨_,rfl,_,rfl,_,rfl,yE ⟨_,rfl,_,_,rfl,rfl,a,_,_,_,rfl,rfl,SqT.of l,by rw[z];exact yg (j:=1) rfl,fin g.2 (by rw[c,z];rfl)⟩⟩
    ·exact⟨_,rfl,_,rfl,_,rfl,yE ⟨_,rfl,_,_,rfl,rfl,a,_,_,_,rfl,rfl,SqT.of l,by rw[z];exact yg (j:=0) rfl,fin g.1 (by rw[c,z];rfl)⟩⟩
  ·rw[Jq on]
   have c:yH back st i g=st:=by unfold yH;rw[Jf on]
   exact zr ⟨⟨_,_,_,by rw[rs,c];rfl⟩,v.trans u,by rw[rs,c];exact u _ _ n⟩
 ·rintro σ m ⟨⟨C,B,y,rfl⟩,v,n⟩
  have X:=na.prs.len;rw[X]at n;have hh:=wZ (back:=back) (ts:=ts) ok.fk hl N.forks.length (Je _);refine⟨_,rfl,d,_,rfl,.inl ⟨SqL.of n,λt ht=>?_⟩⟩;have W:=zD ht (.tup ((yS back N.forks ts lane N.forks.length).1.map V.int));refine⟨_,rfl,_,rfl,r,fr,er,J,N,_,by rw[X];rfl,ok,na.tups (Tups.of (v.trans W)),hh,(by show 2<=sizeLine;decide),λp Y=>?_⟩;exact k p t _ ((v.trans W).trans (zD Y _)) zB (zD Y _ _ _ zB)
theorem scP:FnScope ["net","turns","lane"] ["net","turns","lane"] (zM rH):=by trivial
theorem mf {f k:Addr}{fd l:FuncData}(F:Fun K "passed" "passed" rH f fd) (b:Use P w K mg base "run_through" ["net","turns","lane","back"] 2 kJ k l):FnOk P w K mg base CX0 3 f fd ["net","turns","lane"] (pf false):=by
 refine F.ok scP (λi H Q E h=>?_) (λm A outer s H i Q E j h=>?_)
 ·obtain⟨r,fr,g,e,N,c,d,a,rfl,_⟩:=h
  rfl
 obtain⟨r,fr,g,e,N,c,d,a,rfl,q⟩:=h;refine⟨_,(@zK _ _ _ (@zT _ _ _ _ (@zL _ _ _ _ _ _ _ _ _ _ _ _ _ _ _ _ b.ok j (by rfl) b.m b.kp b.b .nil zW (@zA _ _ _ _ _ (@qv _ 0 _ _ (by trivial)) (@zA _ _ _ _ _ (@qv _ 1 _ _ (by trivial)) (@zA _ _ _ _ _ (@qv _ 2 _ _ (by trivial)) (@zA _ _ _ _ _ yu zC (by rfl)) (by rfl)) (by rfl)) (by rfl)) (by decide) (by rfl) (by rfl)))),?_⟩;exact⟨_,rfl,_,rfl,_,rfl,[.ref r,.ref c,.int a],false,rfl,r,fr,g,e,N,c,d,a,rfl,q⟩
end
end K63
namespace L2
open PySem PySem.Spec PyProof.Rows Own
def AnyT (K:PySem.W.Frag)(H:Hp)(x:V):Prop:=∃ T,TyOf K H x T/\∃ t:String,T=.type t
def pR:V->Bool
 | .int _=>true
 | _=>false
def yF (b:Int):V->Bool
 | .int i=>decide (0<=i) && decide (i<b)
 | _=>false
def zX (H:Hp):V->Option (List V)
 | .ref a=>match H a with
  | some (.tup xs)=>some xs
  | _=>none
 | _=>none
def vI (H:Hp)(m:Int)(x:V):Bool:=match zX H x with
 | some a=>decide ((a.length:Int)=m)
 | none=>false
theorem yT {H:Hp}{a:Addr}{xs:List V}(h:H a=some (.tup xs)):zX H (.ref a)=some xs:=by
 show (match H a with
  | some (.tup xs)=>some xs
  | _=>none)=_
 rw[h]
theorem yM {H:Hp}{x:V}{xs:List V}(h:zX H x=some xs):∃ a,x=.ref a/\H a=some (.tup xs):=by
 cases x with
 | ref a =>
  refine⟨a,rfl,?_⟩
  cases z:H a with
  | none=>simp[zX,z]at h
  | some o=>cases o<;>simp[zX,z]at h;rw[h]
 | _=>cases h
theorem rc (i j:Int):decide (V.int i=V.int j)=decide (i=j):=by
 by_cases e:i=j
 ·rw[Jw e,Jw (JV V.int e)]
 ·rw[Jq e,Jq (λz=>e (V.int.inj z))]
theorem AnyT.same {K:PySem.W.Frag}{H H':Hp}{x:V}(s:∀ b o,H b=some o->H' b=some o)(h:AnyT K H x):AnyT K H' x:=by
 obtain⟨T,h,t,a⟩:=h
 cases h with
 | non=>exact⟨_,.non,_,rfl⟩
 | bl b=>exact⟨_,.bl b,_,rfl⟩
 | int i=>exact⟨_,.int i,_,rfl⟩
 | str x=>exact⟨_,.str x,_,rfl⟩
 | flt x=>exact⟨_,.flt x,_,rfl⟩
 | lst e=>exact⟨_,.lst (s _ _ e),_,rfl⟩
 | frz e=>exact⟨_,.frz (s _ _ e),_,rfl⟩
 | tup e=>exact⟨_,.tup (s _ _ e),_,rfl⟩
 | dK e=>exact⟨_,.dK (s _ _ e),_,rfl⟩
 | dT e=>exact⟨_,.dT (s _ _ e),_,rfl⟩
 | ins e _ _ _ _ _=>cases a
structure Isi (K:PySem.W.Frag) (H:Hp) (x:V) (t:Value):Prop where
 ty:TyOf K H x t
 int:PySem.W.kitOne K t (.type "int")=some (match x with|.int _=>true|.bl _=>true|_=>false)
 bool:PySem.W.kitOne K t (.type "bool")=some (match x with|.bl _=>true|_=>false)
 str:PySem.W.kitOne K t (.type "str")=some (match x with|.str _=>true|_=>false)
 tup:PySem.W.kitOne K t (.type "tuple")=some (zX H x).isSome
theorem eY {K:PySem.W.Frag}{H:Hp}{x:V}{T:Value}(h:TyOf K H x T)(a:∃ t,T=.type t):Isi K H x T:=by
 cases h with
 | ins e _ _ _ _ _=>obtain⟨t,a⟩:=a;cases a
 | lst e=>exact⟨.lst e,rfl,rfl,rfl,by simp only[zX,e];rfl⟩
 | frz e=>exact⟨.frz e,rfl,rfl,rfl,by simp only[zX,e];rfl⟩
 | tup e=>exact⟨.tup e,rfl,rfl,rfl,by simp only[zX,e];rfl⟩
 | dK e=>exact⟨.dK e,rfl,rfl,rfl,by simp only[zX,e];rfl⟩
 | dT e=>exact⟨.dT e,rfl,rfl,rfl,by simp only[zX,e];rfl⟩
 | non=>exact⟨.non,rfl,rfl,rfl,rfl⟩
 | bl b=>exact⟨.bl b,rfl,rfl,rfl,rfl⟩
 | int i=>exact⟨.int i,rfl,rfl,rfl,rfl⟩
 | str x=>exact⟨.str x,rfl,rfl,rfl,rfl⟩
 | flt x=>exact⟨.flt x,rfl,rfl,rfl,rfl⟩
theorem AnyT.isi {K:PySem.W.Frag}{H:Hp}{x:V}(h:AnyT K H x):∃ t,Isi K H x t :=
 let ⟨T,h,a⟩:=h
 ⟨T,eY h a⟩
theorem j7 {P:Program}{w:World}{H:Hp}(h:Heap)(hb:sysModules<h.objs.size):ObjOk P w H (h.push { cls:=.type "dict",data:=.dict #[] }) h.objs.size (.dK []) :=
 ⟨Y1 _,YT.mpr (Ne.symm (JB hb)),[],.nil,Heap.DictOf.new h⟩
def gz:TE:=λ_ H Q=>∀ p,H p=none->Q (.ref p) (upd H p (.dK []))
section
variable {X:Cx}{pos:Pos}
theorem Inv.big {pins:List (Addr × Obj)}{σ:St}{H:Hp}{s:Shared}(I:Inv X pins σ H s):sysModules<s.heap.objs.size:=by
 have h:mainGlobals<s.heap.objs.size:=(I.mod.glob.keeps I.bk).lt;exact Z3 (by decide) h
theorem qR:PE X (.Dict [] [] pos) gz:=λpins s σ H Q I h =>
 wpAny_Dict_empty ⟨.ref s.heap.objs.size,_,I.laid (a:=s.heap.objs.size) (o:=.dK []) (t':=s.toks) (λ_ _ q=>J6 _ q) (Je _) (j7 s.heap I.big),rfl,h _ (I.hok.fresh (Je _))⟩
end
end L2
namespace Bn
open PySem L2 Own
structure Good (K:PySem.W.Frag) (D:Addr->Prop) (H:Hp) (x:V):Prop where
 any:AnyT K H x
 ne:∀ a,x=.ref a->D a
def Flat:V->Prop
 | .ref _=>False
 | .ty _=>False
 | .byt _=>False
 | _=>True
theorem Good.flat {K:PySem.W.Frag}{D:Addr->Prop}{H:Hp}:∀ {x:V},Flat x->Good K D H x
 | .non,_=>⟨⟨_,.non,_,rfl⟩,λ_ z=>by cases z⟩
 | .bl b,_=>⟨⟨_,.bl b,_,rfl⟩,λ_ z=>by cases z⟩
 | .int i,_=>⟨⟨_,.int i,_,rfl⟩,λ_ z=>by cases z⟩
 | .str s,_=>⟨⟨_,.str s,_,rfl⟩,λ_ z=>by cases z⟩
 | .flt s,_=>⟨⟨_,.flt s,_,rfl⟩,λ_ z=>by cases z⟩
end Bn
namespace L2
open PySem PySem.Spec PyProof.Rows
section
variable [DecidableEq κ]
theorem RelO.isSome_eq {o:Option V}{u:Option Value}(r:RelO o u):o.isSome=u.isSome:=by
 cases o with
 | none=>cases u with
  | none=>rfl
  | some _=>exact(show False from r).elim
 | some _=>cases u with
  | none=>exact(show False from r).elim
  | some _=>rfl
end
theorem cv {P:Program}{w:World}{k:Key}{u:Value}(r:RelV (kV k) u):(yd P w).is k u=true:=by
 cases k with
 | inl i=>obtain⟨t,e⟩:=(show ∃ t,u=Value.int i t from r);subst e;exact qe P w i t
 | inr x=>obtain⟨t,e⟩:=(show ∃ t,u=Value.str x t from r);subst e;exact qd P w x t
theorem sF {P:Program}{w:World}:∀ {ks:List Key}{us:List Value},Vals (ks.map kV) us->ItemsAre (yd P w) ks us
 | [],_,r=>by rw[List.map_nil]at r;cases r;exact .nil
 | k::ks,_,r=>by
  rw[Yd]at r
  cases r with
  | cons h t=>exact .cons (cv h) (sF t)
section
variable {P:Program}{w:World}{H:Hp}{h:Heap}{a:Addr}
theorem gn {u:HO}(ok:HOk P w H h)(e:Rd H a u):ObjOk P w H h a u:=e.ok ok
theorem eV {ks:List Key}(ok:HOk P w H h)(e:H a=some (.tup (ks.map kV))):(tupleKind (yd P w)).is h ks a:=by
 obtain⟨_,b,r,o,f,d,n,c⟩:=(show ObjOk P w H h a (.tup (ks.map kV)) from ok a _ e);exact⟨o,b.toArray,n,f,d,c.1,by simpa using sF r⟩
end
section
variable {X:Cx}{pins:List (Addr × Obj)}{σ:St}{H:Hp}{s:Shared}{a:Addr}
theorem rz {h':Heap}{t':Nat}{ob:HO}(I:Inv X pins σ H s)(c:Mut (H a))(d:Heap.SameBut a s.heap h')(f:∃ q,h'.get? a=some q)(new:ObjOk X.prog X.w (upd H a ob) h' a ob) :
  Inv X pins σ (upd H a ob) { s with heap:=h',toks:=t' } :=
 I.write (x:=a) (e:=a) c (.inl rfl) (λb q g z=>(d.2 b g).trans z) f new
end
def kE:List (TE × TE)->St->Hp->(List (V × V)->Hp->Prop)->Prop
 | [],_,H,Q=>Q [] H
 | (tk,a)::r,σ,H,Q=>tk σ H λx d=>a σ d λy c=>kE r σ c λps b=>Q ((x,y)::ps) b
abbrev VV:List (V × V)->List (Value × Value)->Prop:=Paired λp q=>RelV p.1 q.1/\RelV p.2 q.2
def PPs (X:Cx)(pos:Pos)(keys:List (Option Expr))(values:List Expr)(a:List (TE × TE)):Prop :=
 ∀ (pins:List (Addr × Obj)) (s:Shared) (σ:St) (H:Hp) (Q:List (V × V)->Hp->Prop),Inv X pins σ H s->kE a σ H Q ->
  wpAny (model X.prog X.w) X.A (evalPairs (pairTrees keys values X.env pos)) (λd e=>∃ b c,Inv X pins σ c e/\VV b d/\Q b c) X.xe s
theorem ii {X:Cx}{pos:Pos}:PPs X pos [] [] []:=λpins s σ H Q I h=>pairTrees_nil_walk ⟨[],H,I,.nil,h⟩
theorem jA {X:Cx}{pos:Pos}{k v:Expr}{ks:List (Option Expr)}{vs:List Expr}{tk b:TE}{a:List (TE × TE)}(o:PE X k tk)(m:PE X v b)(n:PPs X pos ks vs a) :
  PPs X pos (some k::ks) (v::vs) ((tk,b)::a):=λpins s σ H Q I h =>
 pairTrees_cons_walk (thn (o pins s σ H _ I h) λu d ⟨x,z,r,f,j⟩=>thn (m pins d σ z _ r j) λA c ⟨y,w,q,e,i⟩ =>
  thn (n pins c σ w _ q i) λws B ⟨l,t,p,rel,g⟩=>⟨(x,y)::l,t,p,.cons ⟨f,e⟩ rel,g⟩)
structure M2 (X:Cx) (o:Expr) (m:Str) (apos:Pos) (e f:Expr) (cpos:Pos):Prop where
 base:attributeBase o m X.env (eval o X.env)=eval o X.env
 few:((backTo cpos (starEach [e,f] X.env)).all (λx=>!x.1) && (backToKw cpos (keywordEach [] X.env)).all (λx=>x.1.isSome)
  && decide (([e,f]:List Expr).length+([]:List Keyword).length+(if ([]:List Keyword).isEmpty then 0 else 1)<30))=true
 line:(apos.endLine == cpos.line)=true
 trees:backTo cpos (starEach [e,f] X.env)=[(false,eval e X.env),(false,eval f X.env)]
end L2
namespace L2
open PySem PySem.Spec PyProof.Rows Own
theorem nu:∀ {ds:List PyData}{n:Nat},(∀ e∈ds,e.canLay0=true/\e.depth<=n)->PyData.canLayAll0 ds=true/\PyData.depthAll ds<=n
 | [],_,_=>⟨rfl,Y1 _⟩
 | d::ds,n,h=>by
  obtain⟨c,g⟩:=h d JH;obtain⟨b,f⟩:=nu (ds:=ds) λe a=>h e (JE _ a);refine⟨?_,?_⟩
  ·show (d.canLay0 && PyData.canLayAll0 ds)=true
   rw[c,b];rfl
  ·show max d.depth (PyData.depthAll ds)<=n
   lia
abbrev KI:=Int ⊕ List Int
abbrev KN:=List KI
section
variable (prog:Program)(w:World)
def NIt (h:Heap):KI->Value->Prop
 | .inl i,v=>∃ t,v=.int i t
 | .inr xs,v=>∃ b,v=.ref b/\IsTupleKey (yd prog w) h (xs.map Sum.inl) b
def NIts (h:Heap):KN->List Value->Prop
 | [],vs=>vs=[]
 | k::ks,vs=>∃ v r,vs=v::r/\NIt prog w h k v/\NIts h ks r
def NIs (h:Heap)(ks:KN)(a:Addr):Prop:=∃ o items n,h.get? a=some o/\o.cls=.type "tuple"/\o.data=.seq items n/\NIts prog w h ks items.toList
def nh1:KI->Int
 | .inl i=>hashInt i
 | .inr xs=>tupleKeyHash (yd prog w) (xs.map Sum.inl)
def nd1:KI->Nat
 | .inl _=>1
 | .inr xs=>xs.length+1
def nds (ks:KN):Nat:=(ks.map nd1).sum
end
variable {prog:Program}{w:World}{A:Around}{E:Value->Shared->Prop}
theorem gW {a b:List Int}(h:a.map (Sum.inl:Int->Key)=b.map Sum.inl):a=b :=
 List.map_inj_right (λx y e=>Sum.inl.inj e) |>.mp h
theorem NIt.inj {h:Heap}{x y:KI}{v:Value}(a:NIt prog w h x v)(b:NIt prog w h y v):x=y:=by
 cases x with
 | inl i =>
  obtain⟨t,rfl⟩:=a
  cases y with
  | inl j=>obtain⟨u,e⟩:=b;cases e;rfl
  | inr f=>obtain⟨b,e,_⟩:=b;cases e
 | inr l =>
  obtain⟨c,rfl,k⟩:=a
  cases y with
  | inl j=>obtain⟨u,e⟩:=b;cases e
  | inr f =>
   obtain⟨d,e,g⟩:=b;cases e;rw[gW (k.inj g)]
theorem NIts.inj {h:Heap}:∀ {x y:KN}{vs:List Value},NIts prog w h x vs->NIts prog w h y vs->x=y
 | [],[],_,_,_=>rfl
 | [],_::_,_,a,b=>by obtain⟨v,r,e,_⟩:=b;rw[show _=[] from a]at e;cases e
 | _::_,[],_,a,b=>by obtain⟨v,r,e,_⟩:=a;rw[show _=[] from b]at e;cases e
 | x::j,y::i,_,a,b=>by
  obtain⟨v,r,rfl,g,f⟩:=a;obtain⟨k,l,e,d,c⟩:=b;cases e;rw[g.inj d,NIts.inj f c]
theorem NIs.inj {h:Heap}{x y:KN}{a:Addr}(p:NIs prog w h x a)(q:NIs prog w h y a):x=y:=by
 obtain⟨o,j,n,g,_,f,e⟩:=p;obtain⟨k,d,l,c,_,b,i⟩:=q;rw[g]at c;cases c;rw[f]at b;cases b;exact e.inj i
theorem NIt.keeps {h h':Heap}{d:Addr}{o:Obj}{es ep}(hd:h.get? d=some o)(c:o.data=.dict es ep)(s:Heap.SameBut d h h'){k:KI}{v:Value}(a:NIt prog w h k v):NIt prog w h' k v:=by
 cases k with
 | inl i=>exact a
 | inr g =>
  obtain⟨b,e,f⟩:=a;exact⟨b,e,f.keeps hd c s⟩
theorem NIts.keeps {h h':Heap}{d:Addr}{o:Obj}{es ep}(hd:h.get? d=some o)(b:o.data=.dict es ep)(s:Heap.SameBut d h h'):∀ {ks:KN}{vs:List Value},NIts prog w h ks vs->NIts prog w h' ks vs
 | [],_,a=>a
 | k::ks,_,a=>by
  obtain⟨v,r,e,f,c⟩:=a;exact⟨v,r,e,f.keeps hd b s,NIts.keeps hd b s c⟩
theorem NIs.keeps {h h':Heap}{ks:KN}{a d:Addr}{o:Obj}{es ep}(p:NIs prog w h ks a)(hd:h.get? d=some o)(f:o.data=.dict es ep)(s:Heap.SameBut d h h'):NIs prog w h' ks a:=by
 obtain⟨g,e,n,c,j,b,i⟩:=p;refine⟨g,e,n,?_,j,b,i.keeps hd f s⟩;rw[s.2 a (by rintro rfl;rw[hd]at c;cases c;rw[f]at b;cases b)];exact c
theorem uf:∀ (ks:KN) (vs:List Value) (c:Array Int) (s:Shared) (Q:Array Int->Shared->Prop),A.units<cLine->NIts prog w s.heap ks vs->Q (c++(ks.map (nh1 prog w)).toArray) { s with toks:=s.toks+nds ks } ->
  wpAny (model prog w) A (forIn vs c λx c=>(do let r <- pyHash x;pure (ForInStep.yield (c.push r)))) Q E s
 | [],vs,c,s,Q,d,a,q=>by
  rw[show vs=[] from a,YH];refine J7 ?_
  simpa [nds] using q
 | k::ks,vs,c,s,Q,d,a,q=>by
  obtain⟨v,r,rfl,f,j⟩:=a;rw[Yq]
  have h:∀ (m:Nat),m=nd1 k->({ s with toks:=s.toks+m+nds ks }:Shared)={ s with toks:=s.toks+nds (k::ks) }:=λm e=>by
   subst e;unfold nds;rw[Yd,List.sum_cons,Z9]
  have e2:c.push (nh1 prog w k)++(ks.map (nh1 prog w)).toArray=c++((k::ks).map (nh1 prog w)).toArray:=by simp
  have go:∀ (m:Nat),m=nd1 k->wpAny (model prog w) A (forIn r (c.push (nh1 prog w k)) λx c=>(do let r <- pyHash x;pure (ForInStep.yield (c.push r)))) Q E { s with toks:=s.toks+m }:=λm e =>
   uf ks r (c.push (nh1 prog w k)) { s with toks:=s.toks+m } Q d j (by rw[e2];have:=h m e;simp only at this ⊢;rw[this];exact q)
  cases k with
  | inl i =>
   obtain⟨t,rfl⟩:=f
   exact J0 (J0 (wpAny_pyHash_int (J7 (go 1 rfl))))
  | inr l =>
   obtain⟨b,rfl,g⟩:=f;exact J0 (J0 (wpAny_pyHash_tuple d g (J7 (go _ (by rw[Jg];rfl)))))
theorem lP {s:Shared}{a:Addr}{ks:KN}{Q:Int->Shared->Prop}(c:A.units+1<cLine)(d:NIs prog w s.heap ks a)(q:Q (reduceHash (Builtin.Tuple.tupleHashOf (ks.map (nh1 prog w)))) { s with toks:=s.toks+(nds ks+1) }):wpAny (model prog w) A (pyHash (.ref a)) Q E s:=by
 obtain⟨o,g,n,b,f,e,hi⟩:=d;show wpAny (model prog w) A (pyHashByItsType (.ref a)) Q E s;refine W.pyHash_slot (T:="tuple") (id:="tuple.__hash__") (B:=Builtin.«tuple.__hash__») ⟨o,b,f⟩ F.slot_tuple_hash F.entry_tuple_hash (F.args_tuple_hash_1 _) (by decide) (.inr (by lia)) ?_;unfold Builtin.«tuple.__hash__»;refine J0 ?_;show wpAny _ _ (pure _) _ _ _;refine J7 (J0 (wpAny_tupleItemsOf b e ?_));rw[<- Array.forIn_toList];refine J0 (uf ks _ _ s _ c hi ?_);simp only[Array.empty_append];unfold retInt;exact J0 (wpAny_mkInt (J7 ⟨_,_,rfl,q⟩))
theorem tL {i:Int}{t:Tok}{n:Nat}{s:Shared}{Q:Bool->Shared->Prop}(q:Q true s):wpAny (model prog w) A (eqIsQuiet n (.int i t)) Q E s:=by
 cases n<;>exact J7 q
theorem vW {n:Nat}{s:Shared}:∀ (vs:List Value) (Q:Option Bool × Unit->Shared->Prop),(∀ v∈vs,∀ R:Bool->Shared->Prop,R true s->wpAny (model prog w) A (eqIsQuiet n v) R E s)->Q (none,()) s ->
  wpAny (model prog w) A (forIn vs ((none,()):Option Bool × Unit) λy _=>(do
   let b <- eqIsQuiet n y
   if (!b)=true then pure (ForInStep.done (some false,())) else pure (ForInStep.yield (none,())))) Q E s
 | [],Q,_,q=>by rw[YH];exact J7 q
 | v::vs,Q,h,q=>by
  rw[Yq];exact J0 (J0 (h v JH _ (J7 (vW vs Q (λu a=>h u (JE _ a)) q))))
theorem tK {s:Shared}{a:Addr}{o:Obj}{its:Array Value}{m n:Nat}{Q:Bool->Shared->Prop}(c:s.heap.get? a=some o) (d:o.cls=.type "tuple") (hd:o.data=.seq its m)
  (h:∀ v∈its.toList,∀ R:Bool->Shared->Prop,R true s->wpAny (model prog w) A (eqIsQuiet n v) R E s) (q:Q true s):wpAny (model prog w) A (eqIsQuiet (n+1) (.ref a)) Q E s:=by
 have ty:s.TypeIs (.ref a) "tuple":=⟨o,c,d⟩;unfold eqIsQuiet;refine J0 (ZD (T:="tuple") ty F.slot_tuple_eq.lookup (J0 (Zw (T:="tuple") (b:=true) ty rfl ?_)));show wpAny _ _ (do let _ <- seqItems? _;_) _ _ _;refine J0 (Y3 c hd (J0 ?_));rw[Option.getD_some,<- Array.forIn_toList];exact vW _ _ h (J7 q)
theorem NIts.mem {h:Heap}:∀ {ks:KN}{vs:List Value},NIts prog w h ks vs->∀ v∈vs,∃ k,NIt prog w h k v
 | [],_,a,v,b=>by rw[show _=[] from a]at b;cases b
 | k::ks,_,a,v,b=>by
  obtain⟨x,r,rfl,d,c⟩:=a;rcases Ja.mp b with rfl|z
  ·exact⟨k,d⟩
  ·exact NIts.mem c v z
theorem qc {i:Int}{v:Value}(h:(yd prog w).is (.inl i) v=true):∃ t,v=.int i t:=by
 rw[oZ]at h;rcases yL h with ⟨j,t,e,rfl⟩|⟨x,t,e,_⟩
 ·cases e;exact⟨t,rfl⟩
 ·cases e
theorem o6 {ks:List Key}{vs:List Value}(h:ItemsAre (yd prog w) ks vs):∀ xs:List Int,ks=xs.map Sum.inl->∀ v∈vs,∃ i t,v=.int i t:=by
 induction h with
 | nil=>intro xs _ v a;cases a
 | cons b _ ih =>
  intro xs e v a
  cases xs with
  | nil=>cases e
  | cons x xs =>
   rw[Yd]at e;injection e with c e2;subst c;rcases Ja.mp a with rfl|z
   ·obtain⟨t,e⟩:=qc b
    exact⟨x,t,e⟩
   ·exact ih xs e2 v z
theorem items_int {ks:List Int}{vs:List Value}(h:ItemsAre (yd prog w) (ks.map Sum.inl) vs):∀ v∈vs,∃ i t,v=.int i t:=o6 h ks rfl
theorem uL {s:Shared}{a:Addr}{ks:KN}{Q:Bool->Shared->Prop}(c:NIs prog w s.heap ks a)(q:Q true s):wpAny (model prog w) A (eqIsQuiet 8 (.ref a)) Q E s:=by
 obtain⟨o,x,n,l,p,m,hi⟩:=c;refine tK l p m (λv h R r=>?_) q;obtain⟨k,c⟩:=hi.mem v h
 cases k with
 | inl i=>obtain⟨t,rfl⟩:=c;exact tL r
 | inr z =>
  obtain⟨b,rfl,B,y,C,d,g,f,e⟩:=c;refine tK d g f (λu j R r=>?_) r;obtain⟨i,t,rfl⟩:=items_int e u j;exact tL r
def dI:KI->PyData
 | .inl i=>.int i
 | .inr xs=>.tuple (xs.map PyData.int)
def dN (ks:KN):PyData:=.tuple (ks.map dI)
theorem oQ {h:Heap}{ks:List Key}{vs:List Value}(a:ItemsAre (yd prog w) ks vs):∀ xs:List Int,ks=xs.map Sum.inl->∃ as,ReadsAll h vs (xs.map PyData.int) as:=by
 induction a with
 | nil =>
  intro xs e
  cases xs with
  | nil=>exact⟨_,.nil⟩
  | cons x xs=>cases e
 | cons b _ ih =>
  intro xs e
  cases xs with
  | nil=>cases e
  | cons x xs =>
   rw[Yd]at e;injection e with c e2;subst c;obtain⟨t,rfl⟩:=qc b;obtain⟨as,r⟩:=ih xs e2;exact⟨_,.cons (.int x t) r⟩
theorem NIt.reads {h:Heap}{k:KI}{v:Value}(a:NIt prog w h k v):∃ as,Reads h v (dI k) as:=by
 cases k with
 | inl i=>obtain⟨t,rfl⟩:=a;exact⟨_,.int i t⟩
 | inr c =>
  obtain⟨b,rfl,o,j,n,g,f,e,d⟩:=a;obtain⟨as,r⟩:=oQ (h:=h) d c rfl;exact⟨_,.tuple g f e r⟩
theorem NIts.reads {h:Heap}:∀ {ks:KN}{vs:List Value},NIts prog w h ks vs->∃ as,ReadsAll h vs (ks.map dI) as
 | [],_,a=>by rw[show _=[] from a];exact⟨_,.nil⟩
 | k::ks,_,a=>by
  obtain⟨v,r,rfl,c,b⟩:=a;obtain⟨as,p⟩:=c.reads;obtain⟨bs,q⟩:=NIts.reads b;exact⟨_,.cons p q⟩
theorem NIs.reads {h:Heap}{ks:KN}{a:Addr}(p:NIs prog w h ks a):∃ as,Reads h (.ref a) (dN ks) as:=by
 obtain⟨o,f,n,e,d,c,b⟩:=p;obtain⟨as,r⟩:=b.reads;exact⟨_,.tuple e d c r⟩
theorem pG:∀ (x y:List Int),PyData.eqvAll (x.map PyData.int) (y.map PyData.int)=decide (x=y)
 | [],[]=>rfl
 | [],_::_=>rfl
 | _::_,[]=>rfl
 | a::x,b::y=>by
  show (PyData.eqv (.int a) (.int b) && PyData.eqvAll (x.map PyData.int) (y.map PyData.int))=_;rw[pG x y,show PyData.eqv (.int a) (.int b)=(a == b) from rfl,Yh];simp
theorem dQ (x y:KI):PyData.eqv (dI x) (dI y)=decide (x=y):=by
 cases x<;>cases y
 ·rw[show PyData.eqv (dI (.inl _)) (dI (.inl _))=(_ == _) from rfl,Yh];simp
 ·rfl
 ·rfl
 ·show PyData.eqvAll _ _=_
  rw[pG,Yh];simp
theorem nh:∀ (x y:KN),PyData.eqvAll (x.map dI) (y.map dI)=decide (x=y)
 | [],[]=>rfl
 | [],_::_=>rfl
 | _::_,[]=>rfl
 | a::x,b::y=>by
  show (PyData.eqv (dI a) (dI b) && PyData.eqvAll (x.map dI) (y.map dI))=_;rw[nh x y,dQ,Yh];simp
theorem qr:∀ x:List Int,PyData.canLayAll0 (x.map PyData.int)=true/\PyData.depthAll (x.map PyData.int)<=0
 | []=>⟨rfl,Je _⟩
 | a::x=>by
  obtain⟨p,q⟩:=qr x;refine⟨?_,?_⟩
  ·show (PyData.canLay0 (.int a) && PyData.canLayAll0 (x.map PyData.int))=true
   rw[p];rfl
  ·show max 0 (PyData.depthAll (x.map PyData.int))<=0
   lia
theorem ow (ks:KN):(dN ks).canLay0=true/\(dN ks).depth<=2:=by
 have key:∀ e∈ks.map dI,e.canLay0=true/\e.depth<=1:=λe b=>by
  obtain⟨k,_,rfl⟩:=JJ.mp b
  cases k with
  | inl i=>exact⟨rfl,by show 0<=1;lia⟩
  | inr a =>
   obtain⟨p,q⟩:=qr a;refine⟨p,?_⟩;show PyData.depthAll (a.map PyData.int)+1<=1;lia
 obtain⟨p,q⟩:=nu key;refine⟨p,?_⟩;show PyData.depthAll (ks.map dI)+1<=2;lia
theorem gb {s:Shared}{x y:KN}{a b:Addr}{Q:Bool->Shared->Prop}(k:A.units+2<cLine)(h:NIs prog w s.heap x a)(g:NIs prog w s.heap y b)(q:Q (decide (x=y)) s):wpAny (model prog w) A (eqBool (.ref a) (.ref b)) Q E s:=by
 obtain⟨as,d⟩:=h.reads;obtain⟨bs,c⟩:=g.reads;obtain⟨f,j⟩:=ow x;obtain⟨e,i⟩:=ow y;refine PySem.SeqAt.eqBoolOverData prog w A E s _ _ _ _ as bs Q d c f e (by lia) ?_;rw[show PyData.eqv (dN x) (dN y)=PyData.eqvAll (x.map dI) (y.map dI) from rfl,nh];exact q
variable (prog w)
def yb:HeapKind prog w KN where
 is:=NIs prog w
 hash:=λa=>reduceHash (Builtin.Tuple.tupleHashOf (a.map (nh1 prog w)))
 draws:=λa=>nds a+1
 room:=λA=>A.units+2<cLine
 inj:=λc b=>NIs.inj c b
 keeps:=λx g i f=>NIs.keeps x g i f
 pyHash:=λe d h=>lP (by lia) d h
 eqBool:=λe c b h=>gb e c b h
 quiet:=λd h=>uL d h
end L2
namespace Own
open PySem PySem.Spec PyProof.Rows
theorem rW:typeLookup (.type "list") "keys" = pure none:=by
 exact(by rw[typeLookup_type,builtinLookup_eq_fast];kernel_rfl)
theorem rX:typeLookup (.type "list") "__getattr__" = pure none:=by
 exact(by rw[typeLookup_type,builtinLookup_eq_fast];kernel_rfl)
section
variable {prog:Program}{w:World}{A:Around}{E:Value->Shared->Prop}{s:Shared}{l:Addr}{its:Array Value}{n:Nat}
theorem o5 {u:Tok}{Q:Fin->Shared->Prop}(c:s.heap.get? l=some { cls:=.type "list",data:=.seq its n }) (f:A.handled=none)
  (h:∀ b a e,Heap.NewAttrErr s.heap b e (.ref l) "keys"->E (.ref e) { s with heap:=b,toks:=a }) :
  wpAny (model prog w) A (Builtin.«object.__getattribute__» ⟨[.ref l,.str "keys" u],[]⟩) Q E s:=by
 obtain⟨d,g,i,a,os⟩:=s;have ty:(⟨d,g,i,a,os⟩:Shared).TypeIs (.ref l) "list":=⟨_,c,rfl⟩;have j:=rW;unfold Builtin.«object.__getattribute__»
 repeat any_goals (first|assumption|wp_step)
 repeat any_goals (first|assumption|wp_step)
 exact wpAny_raiseAttrError f h (attrMsg_fits (by decide +kernel) (by size_fits))
theorem lH {u:Tok}{R:Result->Shared->Prop}(a:s.heap.get? l=some { cls:=.type "list",data:=.seq its n }) (d:A.handled=none)
  (h:∀ b c e,Heap.NewAttrErr s.heap b e (.ref l) "keys"->R (.error (.ref e)) { s with heap:=b,toks:=c }) :
  codeAny (model prog w) A (.call (.builtin "list.__getattribute__") ⟨[.ref l,.str "keys" u],[]⟩) R s :=
 codeAny_call_builtin F.slot_list_getattribute.plain F.entry_list_ga (F.slot_list_getattribute.check _ _ _ _ _ _ _ _ (show s.TypeIs (.ref l) "list" from⟨_,a,rfl⟩) (F.args_list_getattribute_2 _ _) (o5 (A:=A.in1) a d h))
theorem lD {Q:Option Value->Shared->Prop}(f:s.heap.get? l=some { cls:=.type "list",data:=.seq its n }) (m:A.handled=none)
  (h:∀ a d,(∀ b o,s.heap.get? b=some o->a.get? b=some o)->Q none { s with heap:=a,toks:=d }) :
  wpAny (model prog w) A (getAttr? (.ref l) "keys") Q E s:=by
 obtain⟨j,g,i,d,os⟩:=s;have ty:(⟨j,g,i,d,os⟩:Shared).TypeIs (.ref l) "list":=⟨_,f,rfl⟩;have x:=sub_AttributeError;have t:=F.slot_list_getattribute.lookup;have v:=F.slot_list_getattribute.bind (.ref l);have u:=rX;unfold getAttr? getAttrBy? getAttrBy
 repeat any_goals (first|assumption|wp_step)
 refine lH f m λa c e ne=>?_;obtain⟨r,p,k⟩:=ne.there;have q:({ heap:=a,gens:=g,drawn:=i,toks:=c,os:=os }:Shared).TypeIs (.ref e) "AttributeError":=⟨_,k,rfl⟩;dsimp only;unfold getattributeRaised
 repeat any_goals (first|assumption|wp_step)
 exact h a c ne.keeps
end
theorem wH:entryFor table "dict.update.loop" = some Builtin.«dict.update.loop»:=entryFor_of_fast (by kernel_rfl)
theorem yz:plainId "dict.update.loop" = true:=by decide +kernel
end Own
namespace L2
open PySem PySem.Spec PyProof.Rows Own
structure MgD (mg:Str->Option Value):Prop where
 dict:mg "dict" = none
end L2
namespace Ts
open PySem PyProof.Rows
structure Cmp (prog:Program) (w:World) (A:Around) (s:Shared) (κ:SortKind) (P:Keyed->Prop) (rk:Keyed->Int):Prop where
 ask:∀ (x y:Keyed),P x->P y->∀ {Q:Bool->Shared->Prop}{E:Value->Shared->Prop},Q (decide (rk x<rk y)) s->wpAny (model prog w) A (keyLt' κ x.1 y.1) Q E s
def R (rk:Keyed->Int)(xs:Array Keyed)(i:Nat):Int:=match xs[i]? with
 | some p=>rk p
 | none=>0
theorem R_congr {rk:Keyed->Int}{xs ys:Array Keyed}{i j:Nat}(h:xs[i]?=ys[j]?):R rk xs i=R rk ys j:=by unfold R;rw[h]
def Up (rk:Keyed->Int)(xs:Array Keyed)(lo n:Nat):Prop:=∀ i j,lo<=i->i<=j->j<lo+n->R rk xs i<=R rk xs j
def Dn (rk:Keyed->Int)(xs:Array Keyed)(lo n:Nat):Prop:=∀ i j,lo<=i->i<=j->j<lo+n->R rk xs j<=R rk xs i
structure Bs (κ:SortKind) (P:Keyed->Prop) (a₀:Array Keyed) (st:SortSt):Prop where
 kind:kindOf st=κ
 fail:failedOf st=none
 perm:(arrOf st).Perm a₀
 all:∀ p∈a₀.toList,P p
theorem Bs.size {κ:SortKind}{P:Keyed->Prop}{a₀:Array Keyed}{st:SortSt}(h:Bs κ P a₀ st):(arrOf st).size=a₀.size:=h.perm.size_eq
theorem Bs.at {κ:SortKind}{P:Keyed->Prop}{a₀:Array Keyed}{st:SortSt}(h:Bs κ P a₀ st){i:Nat}(hi:i<a₀.size)(rk:Keyed->Int):∃ p,(arrOf st)[i]?=some p/\P p/\R rk (arrOf st) i=rk p:=by
 have e:(arrOf st)[i]?=some ((arrOf st)[i]'(by rw[h.size];exact hi)):=getElem?_pos (arrOf st) i (by rw[h.size];exact hi);refine⟨_,e,h.all _ ((Array.perm_iff_toList_perm.mp h.perm).mem_iff.mp (by simp)),?_⟩;unfold R;rw[e]
theorem Bs.arr {κ:SortKind}{P:Keyed->Prop}{a₀:Array Keyed}{st:SortSt}(h:Bs κ P a₀ st){xs:Array Keyed}(a:xs.Perm (arrOf st)):Bs κ P a₀ (setArr st xs):=⟨h.kind,h.fail,a.trans h.perm,h.all⟩
section
variable {prog:Program}{w:World}{A:Around}{E:Value->Shared->Prop}{s:Shared}{κ:SortKind}{P:Keyed->Prop}{rk:Keyed->Int}{a₀:Array Keyed}
theorem qi (C:Cmp prog w A s κ P rk){st:SortSt}{x y:Keyed}{Q:Option Bool->SortSt->Prop}(b:kindOf st=κ)(a:P x)(py:P y)(h:Q (some (decide (rk x<rk y))) st):wpS (model prog w) A E s (lt' x y) Q st:=by
 rw[lt'_eq];refine Jm (ZL (Jm (wpS_lift (Za ?_))));rw[b];exact C.ask x y a py ⟨rfl,Jh h⟩
theorem wK {r:String}{st:SortSt}{Q:Unit->SortSt->Prop}(h:Q () st):wpS (model prog w) A E s (liftM (rule r):StateT SortSt Sem Unit) Q st:=wpS_lift (YD ⟨rfl,h⟩)
theorem zR {st:SortSt}{arr:Array Keyed}{i:Nat}{p:Keyed}{Q:Keyed->SortSt->Prop}(e:arr[i]?=some p)(h:Q p st):wpS (model prog w) A E s (elem' arr i) Q st:=by
 rw[elem'_eq,e];exact Jh h
theorem qj (C:Cmp prog w A s κ P rk){st:SortSt}{i j:Nat}{Q:Option Bool->SortSt->Prop}(a:Bs κ P a₀ st)(hi:i<a₀.size)(e:j<a₀.size)(h:Q (some (decide (R rk (arrOf st) i<R rk (arrOf st) j))) st):wpS (model prog w) A E s (ltAt' i j) Q st:=by
 obtain⟨p,f,pp,c⟩:=a.at hi rk;obtain⟨q,e2,d,b⟩:=a.at e rk;rw[c,b]at h;rw[ltAt'_eq];exact Jm (ZL (Jm (zR f (Jm (zR e2 (qi C a.kind pp d h))))))
structure Keep (κ:SortKind) (P:Keyed->Prop) (rk:Keyed->Int) (a₀:Array Keyed) (lo:Nat) (st st':SortSt):Prop where
 b:Bs κ P a₀ st'
 pend:pendingOf st'=pendingOf st
 low:∀ k,k<lo->R rk (arrOf st') k=R rk (arrOf st) k
theorem Keep.refl {lo:Nat}{st:SortSt}(h:Bs κ P a₀ st):Keep κ P rk a₀ lo st st:=⟨h,rfl,λ_ _=>rfl⟩
theorem Keep.trans {lo:Nat}{st a st2:SortSt}(h:Keep κ P rk a₀ lo st a)(g:Keep κ P rk a₀ lo a st2):Keep κ P rk a₀ lo st st2:=⟨g.b,g.pend.trans h.pend,λk b=>(g.low k b).trans (h.low k b)⟩
theorem R_mirror {xs:Array Keyed}{i j:Nat}(a:j<=xs.size)(k:Nat):R rk (mirror xs i j ((j-i) / 2)) k=if i<=k/\k<j then R rk xs (i+j-1-k) else R rk xs k:=by
 have e:=getElem?_mirror_all (xs:=xs) (i:=i) a k;split at e
 ·next h=>rw[Jp h];exact R_congr e
 ·next h=>rw[Jf h];exact R_congr e
theorem rQ {lo i j:Nat}{st:SortSt}{Q:Unit->SortSt->Prop}(a:Bs κ P a₀ st)(c:lo<=i)(b:j<=a₀.size)(h:∀ st',Keep κ P rk a₀ lo st st'->(∀ k,R rk (arrOf st') k=if i<=k/\k<j then R rk (arrOf st) (i+j-1-k) else R rk (arrOf st) k)->Q () st'):wpS (model prog w) A E s (reverseSlice' i j) Q st:=by
 rw[reverseSlice'_eq];refine ZR (h _ ⟨a.arr (mirror_perm _ _ _ _),rfl,λk d=>?_⟩ λk=>?_)
 ·show R rk (mirror (arrOf st) i j ((j-i) / 2)) k=_
  rw[R_mirror (by rw[a.size];exact b),Jf (by lia)]
 ·exact R_mirror (by rw[a.size];exact b) k
theorem iC (C:Cmp prog w A s κ P rk){st:SortSt}{lo j:Nat}{Q:Option Nat->SortSt->Prop}(B:Bs κ P a₀ st)(h1:1<=j)(hn:lo+j<=a₀.size)(h:∀ st' m,Keep κ P rk a₀ lo st st'->1<=m->m<=j->Up rk (arrOf st') lo m->Q (some m) st'):wpS (model prog w) A E s (countRun' lo j) Q st:=by
 have asc:∀ (st:SortSt) (y:Nat) {Z:Option (Option Nat) × Nat->SortSt->Prop},Bs κ P a₀ st->1<=y->Up rk (arrOf st) lo y ->
   (∀ n,y<=n->n<=max y j->Up rk (arrOf st) lo n->(n<j->R rk (arrOf st) (lo+n)<R rk (arrOf st) (lo+n-1))->Z (none,n) st)->
   ∀ f:Nat->Option (Option Nat) × Nat->StateT SortSt Sem (ForInStep (Option (Option Nat) × Nat)),(∀ i n,f i (none,n)=(do
    let some v <- ltAt' (lo+n) (lo+n-1)|pure (.done (some none,n))
    if v then pure (.done (none,n)) else pure (.yield (none,n+1))))->wpS (model prog w) A E s (forIn [y:j] (none,y) f) Z st:=by
  intro st y Z B h0 F G f hf;refine Yj (I:=λi c st'=>st'=st/\c=(none,i)/\y<=i/\Up rk (arrOf st) lo i) ?_ ?_ ⟨rfl,rfl,Je _,F⟩
  ·rintro i c st' hi aa ⟨rfl,rfl,O,r⟩
   rw[hf];refine Jm (qj C B (by lia) (by lia) ?_);by_cases z:R rk (arrOf st') (lo+i)<R rk (arrOf st') (lo+i-1)
   ·rw[Jw z]
    exact Jh (G i O (by lia) r λ_=>z)
   ·rw[Jq z]
    refine Jh ⟨rfl,rfl,by lia,λa b p l x=>?_⟩;by_cases q:b<lo+i
    ·exact r a b p l q
    ·obtain rfl:b=lo+i:=by lia
     by_cases L:a=lo+i
     ·rw[L];exact Zy _
     ·have:=r a (lo+i-1) p (by lia) (by lia)
      lia
  ·rintro c st' ⟨rfl,rfl,O,r⟩
   exact G _ O (Je _) r λq=>by lia
 rw[countRun'_eq];refine Jm (asc st 1 B (Je _) (λa b h1 h2 O=>by rw[show a=b by lia];exact Zy _) (λn n1 n2 F X=>?_) _ (λi n=>rfl));dsimp only;by_cases z:n=j
 ·subst z
  rw[Jp (beq_self_eq_true _)];exact Jh (h _ _ (Keep.refl B) n1 (Je _) F)
 rw[Jf (by simpa using z)];have nl:n<j:=by lia
 have X:=X nl;generalize hT:(bind (liftM (rule "list.sort.descending-run")) _:StateT SortSt Sem (Option Nat))=T
 have tail:∀ o,Keep κ P rk a₀ lo st o->Dn rk (arrOf o) lo n->R rk (arrOf o) (lo+n)<R rk (arrOf o) (lo+n-1)->wpS (model prog w) A E s T Q o:=by
  intro o K1 d1 l1;rw[<- hT];refine Jm (wK ?_)
  have last:∀ d m,Keep κ P rk a₀ lo st d->1<=m->m<=j->Dn rk (arrOf d) lo m->∀ g,Keep κ P rk a₀ lo d g->(∀ k,R rk (arrOf g) k=if lo<=k/\k<lo+m then R rk (arrOf d) (lo+(lo+m)-1-k) else R rk (arrOf d) k)->Up rk (arrOf g) lo m:=by
   intro d m t U m2 u g D H a b p l x;rw[H,H,Jp ⟨by lia,by lia⟩,Jp ⟨by lia,by lia⟩];exact u _ _ (by lia) (by lia) (by lia)
  refine Jm (YX (Yj (I:=λi c d=>∃ m q,c=(none,m,q)/\m=i/\q+1<=m/\Keep κ P rk a₀ lo st d/\(i<=j->Dn rk (arrOf d) lo m/\∀ k,lo+m-(q+1)<=k->k<lo+m->R rk (arrOf d) k=R rk (arrOf d) (lo+m-1)))
   (Q:=λc d=>∃ m q,c=(none,m,q)/\1<=m/\m<=j/\q+1<=m/\Keep κ P rk a₀ lo st d/\Dn rk (arrOf d) lo m/\∀ k,lo+m-(q+1)<=k->k<lo+m->R rk (arrOf d) k=R rk (arrOf d) (lo+m-1)) ?step ?fin ?init) ?post)
  case init =>
   refine⟨n+1,0,rfl,rfl,by lia,K1,λ_=>⟨λa b p l x=>?_,λk W V=>by rw[show k=lo+(n+1)-1 by lia]⟩⟩;by_cases q:b<lo+n
   ·exact d1 a b p l q
   ·obtain rfl:b=lo+n:=by lia
    by_cases L:a=lo+n
    ·rw[L];exact Zy _
    ·have:=d1 a (lo+n-1) p (by lia) (by lia)
     lia
  case fin =>
   rintro c d ⟨m,q,rfl,e,G,t,Y⟩;obtain⟨u,eq2⟩:=Y (by lia);exact⟨m,q,rfl,by lia,by lia,G,t,u,eq2⟩
  case step =>
   rintro i c d hi aa ⟨m,q,rfl,rfl,G,t,Y⟩;obtain⟨u,eq2⟩:=Y (by lia);dsimp only;refine Jm (qj C t.b (by lia) (by lia) ?_)
   have more:∀ g,Dn rk (arrOf g) lo m->R rk (arrOf g) (lo+m)<=R rk (arrOf g) (lo+m-1)->Dn rk (arrOf g) lo (m+1):=by
    intro g S le a b p l x;by_cases q:b<lo+m
    ·exact S a b p l q
    ·obtain rfl:b=lo+m:=by lia
     by_cases L:a=lo+m
     ·rw[L];exact Zy _
     ·have:=S a (lo+m-1) p (by lia) (by lia)
      lia
   by_cases z1:R rk (arrOf d) (lo+m)<R rk (arrOf d) (lo+m-1)
   ·rw[Jw z1]
    dsimp only;rw[Jp rfl];by_cases J:q > 0
    ·rw[Jp J]
     refine Jm (rQ (rk:=rk) (lo:=lo) t.b (by lia) (by lia) λg D H=>Jh ?_)
     have same:∀ k,R rk (arrOf g) k=R rk (arrOf d) k:=λk=>by
      rw[H];split
      ·rw[eq2 _ (by lia) (by lia),eq2 k (by lia) (by lia)]
      ·rfl
     refine⟨m+1,0,rfl,rfl,by lia,t.trans D,λ_=>⟨more g (λa b p l x=>by rw[same,same];exact u a b p l x) (by rw[same,same];lia),λk W V=>by rw[show k=lo+(m+1)-1 by lia]⟩⟩
    ·rw[Jf J]
     exact Jh ⟨m+1,0,rfl,rfl,by lia,t,λ_=>⟨more d u (by lia),λk W V=>by rw[show k=lo+(m+1)-1 by lia]⟩⟩
   ·rw[Jq z1]
    dsimp only;rw[Jf Jn];refine Jm (qj C t.b (by lia) (by lia) ?_);by_cases K:R rk (arrOf d) (lo+m-1)<R rk (arrOf d) (lo+m)
    ·rw[Jw K]
     dsimp only;rw[Jp rfl];exact Jh ⟨m,q,rfl,by lia,by lia,G,t,u,eq2⟩
    ·rw[Jq K]
     dsimp only;rw[Jf Jn];have e:R rk (arrOf d) (lo+m)=R rk (arrOf d) (lo+m-1):=by lia
     refine Jh ⟨m+1,q+1,rfl,rfl,by lia,t,λ_=>⟨more d u (by lia),λk W V=>?_⟩⟩;rw[show lo+(m+1)-1=lo+m by lia];by_cases q3:k=lo+m
     ·rw[q3]
     ·rw[eq2 k (by lia) (by lia),e]
  case post =>
   rintro c d ⟨m,q,rfl,U,m2,G,t,u,eq2⟩;dsimp only;generalize ab:(bind (reverseSlice' lo (lo+m)) _:StateT SortSt Sem (Option Nat))=T2
   have on:∀ g,Keep κ P rk a₀ lo st g->Dn rk (arrOf g) lo m->wpS (model prog w) A E s T2 Q g:=by
    intro g D S;rw[<- ab];refine Jm (rQ (rk:=rk) (lo:=lo) D.b (by lia) (by lia) λM K4 r4=>?_);refine Jm (asc M m K4.b U (last g m D U m2 S M K4 r4) (λn' a1 a2 r _=>?_) _ (λi n=>rfl));exact Jh (h _ _ (D.trans K4) (by lia) (by lia) r)
   by_cases J:q > 0
   ·rw[Jp J]
    refine Jm (rQ (rk:=rk) (lo:=lo) t.b (by lia) (by lia) λg D H=>?_)
    have same:∀ k,R rk (arrOf g) k=R rk (arrOf d) k:=λk=>by
     rw[H];split
     ·rw[eq2 _ (by lia) (by lia),eq2 k (by lia) (by lia)]
     ·rfl
    exact on g (t.trans D) (λa b p l x=>by rw[same,same];exact u a b p l x)
   ·rw[Jf J]
    exact on d t u
 by_cases K:n > 1
 ·rw[Jp K]
  refine Jm (qj C B (by lia) (by lia) ?_);by_cases z3:R rk (arrOf st) lo<R rk (arrOf st) (lo+n-1)
  ·rw[Jw z3]
   exact Jh (h _ _ (Keep.refl B) n1 (by lia) F)
  ·rw[Jq z3]
   dsimp only;rw[Jf Jn];refine Jm (rQ (rk:=rk) (lo:=lo) B (by lia) (by lia) λo K1 N=>tail o K1 (λa b p l x=>?_) ?_)
   ·rw[N,N,Jp ⟨by lia,by lia⟩,Jp ⟨by lia,by lia⟩]
    exact F _ _ (by lia) (by lia) (by lia)
   ·rw[N,N,Jf (by lia),Jp ⟨by lia,by lia⟩]
    have:=F (lo+(lo+n)-1-(lo+n-1)) (lo+n-1) (by lia) (by lia) (by lia);have e:lo+(lo+n)-1-(lo+n-1)=lo:=by lia
    rw[e]at this ⊢;have:=F lo (lo+n-1) (by lia) (by lia) (by lia);lia
 ·rw[Jf K]
  exact tail st (Keep.refl B) (λa b p l x=>by rw[show a=b by lia];exact Zy _) X
theorem R_bubble {xs:Array Keyed}{src d:Nat}(c:src<xs.size)(hd:d<=src)(k:Nat):R rk (bubble xs src d) k=if k=src-d then R rk xs src else if src-d<k/\k<=src then R rk xs (k-1) else R rk xs k:=by
 have e:=getElem?_bubble (xs:=xs) c d hd k;by_cases b:k=src-d
 ·rw[Jp b]at e ⊢;exact R_congr e
 ·rw[Jf b]at e ⊢
  by_cases a:(src-d<k/\k<=src)
  ·rw[Jp a]at e ⊢;exact R_congr e
  ·rw[Jf a]at e ⊢;exact R_congr e
theorem da (C:Cmp prog w A s κ P rk){st:SortSt}{lo n ok:Nat}{Q:Bool->SortSt->Prop}(J:Bs κ P a₀ st)(S:1<=ok)(hok:ok<=n)(hn:lo+n<=a₀.size)(O:Up rk (arrOf st) lo ok)(h:∀ st',Keep κ P rk a₀ lo st st'->Up rk (arrOf st') lo n->Q true st'):wpS (model prog w) A E s (binarySort' lo n ok) Q st:=by
 rw[binarySort'_eq];rw[show max ok 1=ok by lia];refine Jm (YX (Yj (I:=λk c a=>c=(none,())/\Keep κ P rk a₀ lo st a/\Up rk (arrOf a) lo (min k n)) (Q:=λc a=>c=(none,())/\Keep κ P rk a₀ lo st a/\Up rk (arrOf a) lo n) ?step ?fin ?init) ?post)
 case init=>exact⟨rfl,Keep.refl J,by rwa [Nat.min_eq_left hok]⟩
 case fin =>
  rintro c a ⟨rfl,f,e⟩;rw[show min (max ok n) n=n by lia]at e;exact⟨rfl,f,e⟩
 case post =>
  rintro c a ⟨rfl,f,e⟩;exact Jh (h a f e)
 case step =>
  rintro k c a L K ⟨rfl,f,e⟩;rw[show min k n=k by lia]at e
  refine Jm (YX (Yj (I:=λx c b=>b=a/\∃ l r,c=(none,l,r)/\l<=r/\r<=k/\r-l<=k-x/\(∀ i,lo<=i->i<lo+l->R rk (arrOf a) i<=R rk (arrOf a) (lo+k))/\(∀ i,lo+r<=i->i<lo+k->R rk (arrOf a) (lo+k)<=R rk (arrOf a) i))
   (Q:=λc b=>b=a/\∃ l r,c=(none,l,r)/\l<=k/\(∀ i,lo<=i->i<lo+l->R rk (arrOf a) i<=R rk (arrOf a) (lo+k))/\(∀ i,lo+l<=i->i<lo+k->R rk (arrOf a) (lo+k)<=R rk (arrOf a) i)) ?istep ?ifin ?iinit) ?ipost)
  case iinit=>exact⟨rfl,0,k,rfl,by lia,by lia,by lia,λi _ _=>by lia,λi _ _=>by lia⟩
  case ifin =>
   rintro c b ⟨rfl,l,r,rfl,G,g,m,p,o⟩;obtain rfl:l=r:=by lia
   exact⟨rfl,l,l,rfl,g,p,o⟩
  case istep =>
   rintro x c b _ N ⟨rfl,l,r,rfl,G,g,m,p,o⟩;dsimp only;by_cases ge:l>=r
   ·rw[Jp ge]
    obtain rfl:l=r:=by lia
    exact Jh ⟨rfl,l,l,rfl,g,p,o⟩
   ·rw[Jf ge]
    refine Jm (qj C f.b (by lia) (by lia) ?_);by_cases z:R rk (arrOf b) (lo+k)<R rk (arrOf b) (lo+(l+r) / 2)
    ·rw[Jw z]
     refine Jh ⟨rfl,l,(l+r) / 2,rfl,by lia,by lia,by lia,p,λi u H=>?_⟩;have:=e (lo+(l+r) / 2) i (by lia) u (by lia);lia
    ·rw[Jq z]
     refine Jh ⟨rfl,(l+r) / 2+1,r,rfl,by lia,by lia,by lia,λi u H=>?_,o⟩;have:=e i (lo+(l+r) / 2) u (by lia) (by lia);lia
  case ipost =>
   rintro c b ⟨rfl,l,r,rfl,M,p,o⟩;dsimp only;rw[moveDown'_eq];have sz:=f.b.size
   have t:∀ j,R rk (arrOf (setArr b (bubble (arrOf b) (lo+k) (lo+k-(lo+l))))) j=if j=lo+l then R rk (arrOf b) (lo+k) else if lo+l<j/\j<=lo+k then R rk (arrOf b) (j-1) else R rk (arrOf b) j:=λj=>by
    have:=R_bubble (rk:=rk) (xs:=arrOf b) (src:=lo+k) (d:=lo+k-(lo+l)) (by rw[sz];lia) (by lia) j;rw[show lo+k-(lo+k-(lo+l))=lo+l by lia]at this;exact this
   refine Jm (ZR (Jh ⟨rfl,f.trans ⟨f.b.arr (bubble_perm _ _ _),rfl,λj y=>?_⟩,λi j hi v y=>?_⟩))
   ·rw[t,Jf (by lia),Jf (by lia)]
   ·rw[show min (k+1) n=k+1 by lia]at y
    rw[t,t];by_cases F:i=lo+l
    ·rw[Jp F]
     by_cases q:j=lo+l
     ·rw[Jp q];exact Zy _
     ·rw[Jf q,Jp ⟨by lia,by lia⟩]
      exact o _ (by lia) (by lia)
    ·rw[Jf F]
     by_cases D:lo+l<i/\i<=lo+k
     ·rw[Jp D,Jf (by lia),Jp ⟨by lia,by lia⟩]
      exact e _ _ (by lia) (by lia) (by lia)
     ·rw[Jf D]
      by_cases q:j=lo+l
      ·rw[Jp q];exact p _ hi (by lia)
      ·rw[Jf q]
       by_cases B:lo+l<j/\j<=lo+k
       ·rw[Jp B];exact e _ _ hi (by lia) (by lia)
       ·rw[Jf B];exact e _ _ hi v (by lia)
end
def gZ:Bool->Keyed->Array Keyed->Nat->Nat->Nat->StateT SortSt Sem (Option Nat):=sortPriv% PySem.Builtin.gallop
def bd (left:Bool)(k r:Int):Bool:=if left=true then decide (r<k) else !decide (k<r)
theorem gj {left:Bool}{k r a:Int}(h:r<=a)(b:bd left k a=true):bd left k r=true:=by
 unfold bd at *;cases left
 ·simp only[Y8,YW,Zt,JS]at *;omega
 ·simp only[Yk,Y4]at *;omega
section
variable {prog:Program}{w:World}{A:Around}{E:Value->Shared->Prop}{s:Shared}{κ:SortKind}{P:Keyed->Prop}{rk:Keyed->Int}
theorem pO (C:Cmp prog w A s κ P rk){st:SortSt}{left:Bool}{key:Keyed}{arr:Array Keyed}{j:Nat}{Q:Option Bool->SortSt->Prop}(d:kindOf st=κ)(c:P key)(a:∃ p,arr[j]?=some p/\P p)(h:Q (some (bd left (rk key) (R rk arr j))) st) :
  wpS (model prog w) A E s (elem' arr j >>= λx=>if left=true then lt' x key else (lt' key x >>= λr=>pure (r.map λb=>!b))) Q st:=by
 obtain⟨p,e,pp⟩:=a;have r:R rk arr j=rk p:=by unfold R;rw[e]
 rw[r]at h;refine Jm (zR e ?_);unfold bd at h;cases left
 ·rw[Jf Jn]at h ⊢
  exact Jm (qi C d c pp (Jh h))
 ·rw[Jp rfl]at h ⊢
  exact qi C d pp c h
theorem y7 (C:Cmp prog w A s κ P rk){st:SortSt}{left:Bool}{key:Keyed}{arr:Array Keyed}{base n hint:Nat}{Q:Option Nat->SortSt->Prop}(D:kindOf st=κ)(y:P key)(g:∀ i,i<n->∃ p,arr[base+i]?=some p/\P p)(hu:Up rk arr base n)(hh:hint<n)(h:∀ k,k<=n->(∀ i,i<k->bd left (rk key) (R rk arr (base+i))=true)->(∀ i,k<=i->i<n->bd left (rk key) (R rk arr (base+i))=false)->Q (some k) st):wpS (model prog w) A E s (gZ left key arr base n hint) Q st:=by
 have K:∀ i j,i<=j->j<n->bd left (rk key) (R rk arr (base+j))=true->bd left (rk key) (R rk arr (base+i))=true:=λi j J H b=>gj (hu _ _ (by omega) (by omega) (by omega)) b
 have up:∀ i j,i<=j->j<n->bd left (rk key) (R rk arr (base+i))=false->bd left (rk key) (R rk arr (base+j))=false:=λi j J H b=>by
  cases q:bd left (rk key) (R rk arr (base+j)) with
  | false=>rfl
  | true=>rw[K i j J H q]at b;cases b
 refine Jm (pO C D y (g hint hh) ?_);dsimp only
 have half:∀ (lo hi:Nat) (f:Nat->Option (Option Nat) × Nat × Nat->StateT SortSt Sem (ForInStep (Option (Option Nat) × Nat × Nat))),lo<=hi->hi<=n ->
   (∀ i,i<lo->bd left (rk key) (R rk arr (base+i))=true)->(∀ i,hi<=i->i<n->bd left (rk key) (R rk arr (base+i))=false) ->
   (∀ x l r (u:ForInStep (Option (Option Nat) × Nat × Nat)->SortSt->Prop),(r<=l->u (.done (none,l,r)) st)->(l<r->r<=n->bd left (rk key) (R rk arr (base+(l+(r-l) / 2)))=true->u (.yield (none,l+(r-l) / 2+1,r)) st) ->
    (l<r->r<=n->bd left (rk key) (R rk arr (base+(l+(r-l) / 2)))=false->u (.yield (none,l,l+(r-l) / 2)) st)->r<=n->wpS (model prog w) A E s (f x (none,l,r)) u st) ->
   wpS (model prog w) A E s (forIn [:n] (none,lo,hi) f) (λc a=>a=st/\∃ k,c=(none,k,k)/\Q (some k) st) st:=by
  intro lo hi f J H h3 h4 hf;refine Yj (I:=λx c a=>a=st/\∃ l r,c=(none,l,r)/\l<=r/\r<=n/\r-l<=n-x/\(∀ i,i<l->bd left (rk key) (R rk arr (base+i))=true)/\(∀ i,r<=i->i<n->bd left (rk key) (R rk arr (base+i))=false)) ?_ ?_ ⟨rfl,lo,hi,rfl,J,H,by omega,h3,h4⟩
  ·rintro x c a _ V ⟨rfl,l,r,rfl,Z,e,m,M,L⟩
   refine hf x l r _ (λz=>?_) (λY X b=>?_) (λY X b=>?_) e
   ·obtain rfl:l=r:=by omega
    exact⟨rfl,l,rfl,h l e M L⟩
   ·exact⟨rfl,_,r,rfl,by omega,e,by omega,λi F=>K i _ (by omega) (by omega) b,L⟩
   ·exact⟨rfl,l,_,rfl,by omega,by omega,by omega,M,λi G B=>up _ i G B b⟩
  ·rintro c a ⟨rfl,l,r,rfl,Z,e,m,M,L⟩
   obtain rfl:l=r:=by omega
   exact⟨rfl,l,rfl,h l e M L⟩
 cases W:bd left (rk key) (R rk arr (base+hint)) with
 | true =>
  rw[Jp rfl]
  refine Jm (YX (Yj (I:=λx c a=>a=st/\∃ l o,c=(none,l,o)/\x+1<=o/\l<o/\hint+l<n/\bd left (rk key) (R rk arr (base+(hint+l)))=true)
   (Q:=λc a=>a=st/\∃ l o,c=(none,l,o)/\l<o/\hint+l<n/\bd left (rk key) (R rk arr (base+(hint+l)))=true/\(o<n-hint->bd left (rk key) (R rk arr (base+(hint+o)))=false)) ?_ ?_ ⟨rfl,0,1,rfl,by omega,by omega,by omega,W⟩) ?_)
  ·rintro x c a _ V ⟨rfl,l,o,rfl,N,d,ln,b⟩
   dsimp only;by_cases z:o>=n-hint
   ·rw[Jp z]
    exact Jh ⟨rfl,l,o,rfl,d,ln,b,λq=>by omega⟩
   ·rw[Jf z]
    refine Jm (pO C D y (g (hint+o) (by omega)) ?_)
    cases q:bd left (rk key) (R rk arr (base+(hint+o))) with
    | true=>exact Jh ⟨rfl,o,2*o+1,rfl,by omega,by omega,by omega,q⟩
    | false=>exact Jh ⟨rfl,l,o,rfl,d,ln,b,λ_=>q⟩
  ·rintro c a ⟨rfl,l,o,rfl,N,d,ln,b⟩
   exact⟨rfl,l,o,rfl,d,ln,b,λq=>by omega⟩
  ·rintro c a ⟨rfl,l,o,rfl,d,ln,b,nb⟩
   dsimp only;refine Jm (YX (half _ _ _ (by omega) (by omega) (λi F=>K i _ (by omega) ln b) (λi G B=>?_) ?_) ?_)
   ·have q:o<n-hint:=by omega
    exact up _ i (by omega) B (nb q)
   ·intro x t v u T S O e
    dsimp only;by_cases z:t>=v
    ·rw[Jp z];exact Jh (T z)
    ·rw[Jf z]
     refine Jm (pO C D y (g _ (by omega)) ?_)
     cases q:bd left (rk key) (R rk arr (base+(t+(v-t) / 2))) with
     | true=>exact Jh (S (by omega) e q)
     | false=>exact Jh (O (by omega) e q)
   ·rintro c a ⟨rfl,k,rfl,U⟩
    exact Jh U
 | false =>
  rw[Jf Jn]
  refine Jm (YX (Yj (I:=λx c a=>a=st/\∃ l o,c=(none,l,o)/\x+1<=o/\l<o/\l<=hint/\bd left (rk key) (R rk arr (base+(hint-l)))=false)
   (Q:=λc a=>a=st/\∃ l o,c=(none,l,o)/\l<o/\l<=hint/\bd left (rk key) (R rk arr (base+(hint-l)))=false/\(o<hint+1->bd left (rk key) (R rk arr (base+(hint-o)))=true)) ?_ ?_ ⟨rfl,0,1,rfl,by omega,by omega,by omega,W⟩) ?_)
  ·rintro x c a _ V ⟨rfl,l,o,rfl,N,d,ln,b⟩
   dsimp only;by_cases z:o>=hint+1
   ·rw[Jp z]
    exact Jh ⟨rfl,l,o,rfl,d,ln,b,λq=>by omega⟩
   ·rw[Jf z]
    refine Jm (pO C D y (g (hint-o) (by omega)) ?_)
    cases q:bd left (rk key) (R rk arr (base+(hint-o))) with
    | true=>exact Jh ⟨rfl,l,o,rfl,d,ln,b,λ_=>q⟩
    | false=>exact Jh ⟨rfl,o,2*o+1,rfl,by omega,by omega,by omega,q⟩
  ·rintro c a ⟨rfl,l,o,rfl,N,d,ln,b⟩
   exact⟨rfl,l,o,rfl,d,ln,b,λq=>by omega⟩
  ·rintro c a ⟨rfl,l,o,rfl,d,ln,b,nb⟩
   dsimp only;refine Jm (YX (half _ _ _ (by omega) (by omega) (λi F=>?_) (λi G B=>up _ i G B b) ?_) ?_)
   ·have q:o<hint+1:=by omega
    exact K i _ (by omega) (by omega) (nb q)
   ·intro x t v u T S O e
    dsimp only;by_cases z:t>=v
    ·rw[Jp z];exact Jh (T z)
    ·rw[Jf z]
     refine Jm (pO C D y (g _ (by omega)) ?_)
     cases q:bd left (rk key) (R rk arr (base+(t+(v-t) / 2))) with
     | true=>exact Jh (S (by omega) e q)
     | false=>exact Jh (O (by omega) e q)
   ·rintro c a ⟨rfl,k,rfl,U⟩
    exact Jh U
end
def Srt (rk:Keyed->Int)(l:List Keyed):Prop:=l.Pairwise λx y=>rk x<=rk y
structure Lo (rk:Keyed->Int) (T out a b:List Keyed):Prop where
 so:Srt rk out
 sa:Srt rk a
 sb:Srt rk b
 oa:∀ x∈out,∀ y∈a,rk x<=rk y
 ob:∀ x∈out,∀ y∈b,rk x<=rk y
 pm:(out++(a++b)).Perm T
section
variable {rk:Keyed->Int}{T out a b c:List Keyed}
theorem Lo.swap (h:Lo rk T out a b):Lo rk T out b a:=⟨h.so,h.sb,h.sa,h.ob,h.oa,((Zc (l₁:=b) (l₂:=a)).append_left out).trans h.pm⟩
theorem Lo.take (h:Lo rk T out (c++a) b)(le:∀ x∈c,∀ y∈b,rk x<=rk y):Lo rk T (out++c) a b:=by
 obtain⟨i,g,f⟩:=Ym.mp h.sa;refine⟨Ym.mpr ⟨h.so,i,λx e y d=>h.oa x e y (YB _ d)⟩,g,h.sb,λx e y d=>?_,λx e y d=>?_,?_⟩
 ·rcases Ju.mp e with q|q
  ·exact h.oa x q y (Jy _ d)
  ·exact f x q y d
 ·rcases Ju.mp e with q|q
  ·exact h.ob x q y d
  ·exact le x q y d
 ·have:=h.pm
  rw[Y7]at this ⊢;exact this
theorem Lo.end (h:Lo rk T out a []):(out++a).Perm T/\Srt rk (out++a):=by
 have:=h.pm;rw[Yi]at this;exact⟨this,Ym.mpr ⟨h.so,h.sa,h.oa⟩⟩
theorem Lo.lone (h:Lo rk T out a b)(le:∀ x∈b,∀ y∈a,rk x<=rk y):(out++b++a).Perm T/\Srt rk (out++b++a):=by
 refine⟨?_,Ym.mpr ⟨Ym.mpr ⟨h.so,h.sb,h.ob⟩,h.sa,λx d y c=>?_⟩⟩
 ·rw[Y7]
  exact((Zc (l₁:=b) (l₂:=a)).append_left out).trans h.pm
 ·rcases Ju.mp d with q|q
  ·exact h.oa x q y c
  ·exact le x q y c
theorem rm {arr:Array Keyed}{i:Nat}{p:Keyed}(e:arr[i]?=some p):arr.toList.drop i=p::arr.toList.drop (i+1):=by
 obtain⟨hi,e⟩:=JK.mp e;have a:i<arr.toList.length:=by rw[Jt];exact hi
 rw[YY a,Array.getElem_toList,e]
theorem ui (arr:Array Keyed)(i k:Nat):arr.toList.drop i=(arr.extract i (i+k)).toList++arr.toList.drop (i+k):=by
 rw[Zf,YZ,Nat.add_sub_cancel_left,<- List.drop_drop,Zv]
theorem vR (arr:Array Keyed)(i:Nat):(arr.extract i).toList=arr.toList.drop i:=by
 rw[Zf,YZ];exact List.take_of_length_le (by rw[Yc,Jt];exact Je _)
theorem gf {arr:Array Keyed}{i k:Nat}{x:Keyed}(h:x∈(arr.extract i (i+k)).toList):∃ j,j<k/\arr[i+j]?=some x:=by
 rw[Zf,YZ,Nat.add_sub_cancel_left]at h;obtain⟨j,a⟩:=YM.mp h
 have b:j<k:=by
  have:=(J9.mp a).1;rw[JC]at this;lia
 rw[Zk b,List.getElem?_drop]at a;exact⟨j,b,by rw[<- Y2];exact a⟩
theorem xS {arr:Array Keyed}{i:Nat}{x:Keyed}(h:x∈arr.toList.drop i):∃ j,arr[i+j]?=some x:=by
 obtain⟨j,a⟩:=YM.mp h;rw[List.getElem?_drop]at a;exact⟨j,by rw[<- Y2];exact a⟩
theorem R_at {arr:Array Keyed}{i:Nat}{p:Keyed}(e:arr[i]?=some p):R rk arr i=rk p:=by unfold R;rw[e]
theorem xV {arr:Array Keyed}(h:Srt rk arr.toList){base n:Nat}(hn:base+n<=arr.size):Up rk arr base n:=by
 intro i j hi c d;have b:arr[i]?=some arr[i]:=getElem?_pos arr i (by lia);have a:arr[j]?=some arr[j]:=getElem?_pos arr j (by lia);rw[R_at b,R_at a];by_cases z:i=j
 ·subst z;exact Zy _
 ·have:=List.pairwise_iff_getElem.mp h i j (by rw[Jt];lia) (by rw[Jt];lia) (by lia)
  simpa using this
theorem xX {arr:Array Keyed}{i:Nat}{p:Keyed}(h:Srt rk arr.toList)(e:arr[i]?=some p):∀ y∈arr.toList.drop i,rk p<=rk y:=by
 have a:Srt rk (arr.toList.drop i):=List.Pairwise.drop h;rw[rm e]at a ⊢;obtain⟨c,_⟩:=ZS.mp a;intro y b;rcases Ja.mp b with rfl|q
 ·exact Zy _
 ·exact c y q
end
section
variable {rk:Keyed->Int}{T:List Keyed}{out a b:Array Keyed}{ia ib k:Nat}{p:Keyed}
abbrev At (rk:Keyed->Int)(T:List Keyed)(out a b:Array Keyed)(ia ib:Nat):Prop:=Lo rk T out.toList (a.toList.drop ia) (b.toList.drop ib)
theorem At.pushA (h:At rk T out a b ia ib)(e:a[ia]?=some p)(le:∀ y∈b.toList.drop ib,rk p<=rk y):At rk T (out.push p) a b (ia+1) ib:=by
 have d:=h;unfold At at d ⊢;rw[rm e]at d;rw[Z4];exact Lo.take (c:=[p]) d λx g y f=>by rw[Js.mp g];exact le y f
theorem At.pushB (h:At rk T out a b ia ib)(e:b[ib]?=some p)(le:∀ y∈a.toList.drop ia,rk p<=rk y):At rk T (out.push p) a b ia (ib+1):=(At.pushA (a:=b) (b:=a) h.swap e le).swap
theorem At.cutA (h:At rk T out a b ia ib)(le:∀ j x,j<k->a[ia+j]?=some x->∀ y∈b.toList.drop ib,rk x<=rk y):At rk T (out++a.extract ia (ia+k)) a b (ia+k) ib:=by
 have c:=h;unfold At at c ⊢;rw[ui a ia k]at c;rw[Y6]
 exact Lo.take c λx g y f=>by
  obtain⟨j,d,e⟩:=gf g;exact le j x d e y f
theorem At.cutB (h:At rk T out a b ia ib)(le:∀ j x,j<k->b[ib+j]?=some x->∀ y∈a.toList.drop ia,rk x<=rk y):At rk T (out++b.extract ib (ib+k)) a b ia (ib+k):=(At.cutA (a:=b) (b:=a) h.swap le).swap
theorem At.endB (h:At rk T out a b ia ib)(z:b.size<=ib):(out++a.extract ia++b.extract ib).toList.Perm T/\Srt rk (out++a.extract ia++b.extract ib).toList:=by
 have c:=h;unfold At at c;have e:b.toList.drop ib=[]:=List.drop_eq_nil_iff.mpr (by rw[Jt];exact z);rw[e]at c;rw[Y6,Y6,vR,vR,e,Yi];exact c.end
theorem At.endA (h:At rk T out a b ia ib)(z:a.size<=ia):(out++a.extract ia++b.extract ib).toList.Perm T/\Srt rk (out++a.extract ia++b.extract ib).toList:=by
 have c:=h.swap;have e:a.toList.drop ia=[]:=List.drop_eq_nil_iff.mpr (by rw[Jt];exact z);rw[e]at c;rw[Y6,Y6,vR,vR,e,Yi];exact c.end
theorem At.lastA (h:At rk T out a b ia ib)(le:∀ x∈b.toList.drop ib,∀ y∈a.toList.drop ia,rk x<=rk y):(out++b.extract ib++a.extract ia).toList.Perm T/\Srt rk (out++b.extract ib++a.extract ia).toList:=by
 rw[Y6,Y6,vR,vR];exact Lo.lone h le
end
def jd:Array Keyed->Array Keyed->StateT SortSt Sem (Array Keyed):=sortPriv% PySem.Builtin.mergeLo
def iV:Nat->StateT SortSt Sem Unit:=sortPriv% PySem.Builtin.setMinGallop
structure Sm (st st':SortSt):Prop where
 kind:kindOf st'=kindOf st
 arr:arrOf st'=arrOf st
 pend:pendingOf st'=pendingOf st
 fail:failedOf st'=failedOf st
theorem Sm.refl (st:SortSt):Sm st st:=⟨rfl,rfl,rfl,rfl⟩
theorem Sm.trans {a b c:SortSt}(h:Sm a b)(g:Sm b c):Sm a c:=⟨g.kind.trans h.kind,g.arr.trans h.arr,g.pend.trans h.pend,g.fail.trans h.fail⟩
section
variable {prog:Program}{w:World}{A:Around}{E:Value->Shared->Prop}{s:Shared}{κ:SortKind}{P:Keyed->Prop}{rk:Keyed->Int}
theorem vM {st:SortSt}{g:Nat}{Q:Unit->SortSt->Prop}(h:∀ st',Sm st st'->Q () st'):wpS (model prog w) A E s (iV g) Q st :=
 ZR (h _ ⟨rfl,rfl,rfl,rfl⟩)
theorem cq (C:Cmp prog w A s κ P rk){st:SortSt}{a b:Array Keyed}{Q:Array Keyed->SortSt->Prop}(hk:kindOf st=κ)(pa:∀ x∈a.toList,P x)(pb:∀ x∈b.toList,P x)(sa:Srt rk a.toList)(sb:Srt rk b.toList)(a1:1<=a.size)(b1:1<=b.size)(first:∀ x,b[0]?=some x->∀ y∈a.toList,rk x<=rk y)(last:∀ x,a[a.size-1]?=some x->∀ y∈b.toList,rk y<=rk x)(h:∀ r st',Sm st st'->r.toList.Perm (a.toList++b.toList)->Srt rk r.toList->Q r st'):wpS (model prog w) A E s (jd a b) Q st:=by
 have V:∀ i,i<a.size->∃ x,a[i]?=some x/\P x:=λi hi=>⟨_,getElem?_pos a i hi,pa _ (by simp)⟩;have U:∀ i,i<b.size->∃ x,b[i]?=some x/\P x:=λi hi=>⟨_,getElem?_pos b i hi,pb _ (by simp)⟩;obtain⟨b0,e0,_⟩:=U 0 b1
 have lone:∀ {out:Array Keyed}{d f:Nat},At rk (a.toList++b.toList) out a b d f->d+1=a.size->(out++b.extract f++a.extract d).toList.Perm (a.toList++b.toList)/\Srt rk (out++b.extract f++a.extract d).toList:=λ{out d f} L z=>L.lastA λx hx y hy=>by
  obtain⟨j,ej⟩:=xS hy;have:=(JK.mp ej).1;exact last y (by rw[show a.size-1=d+j by lia];exact ej) x (Zz hx)
 have L0:At rk (a.toList++b.toList) #[b0] a b 0 1:=by
  have e:=rm e0;rw[ZQ]at e;have hb:=sb;unfold Srt at hb;rw[e]at hb;obtain⟨h1,h2⟩:=ZS.mp hb;refine⟨List.pairwise_singleton _ _,by rw[ZQ];exact sa,h2,λx hx y hy=>?_,λx hx y hy=>?_,?_⟩
  ·rw[Js.mp hx];exact first b0 e0 y (Zz hy)
  ·rw[Js.mp hx];exact h1 y hy
  ·rw[ZQ]
   conv=>rhs;rw[e]
   show (b0::(a.toList++b.toList.drop 1)).Perm (a.toList++b0::b.toList.drop 1);exact List.perm_middle.symm
 have size:∀ {out:Array Keyed}{d f:Nat},At rk (a.toList++b.toList) out a b d f->out.size<=a.size+b.size:=λ{out d f} L=>by
  have:=L.pm.length_eq;simp only[Jd,Jt]at this;lia
 refine Jm (wK ?_);refine Jm (zR e0 ?_);dsimp only;by_cases z1:1=b.size
 ·rw[Jp (by simpa using z1)]
  obtain⟨n,m⟩:=L0.endB (by lia);exact Jh (h _ _ (Sm.refl _) n m)
 rw[Jf (by simpa using z1)];by_cases z2:0+1=a.size
 ·rw[Jp (by simpa using z2)]
  obtain⟨n,m⟩:=lone L0 z2;exact Jh (h _ _ (Sm.refl _) n m)
 rw[Jf (by simpa using z2)];refine Jm (ZL ?_)
 refine Jm (YX (Yj (I:=λi c N=>Sm st N/\∃ out d f g,c=(none,out,d,f,g)/\At rk (a.toList++b.toList) out a b d f/\d+1<a.size/\f<b.size/\i+1<=out.size)
  (Q:=λc N=>Sm st N/\∃ r x,c=(some r,x)/\r.toList.Perm (a.toList++b.toList)/\Srt rk r.toList) ?step ?fin ⟨Sm.refl _,_,_,_,_,rfl,L0,by lia,by lia,by simp⟩) ?post)
 case post =>
  rintro c N ⟨S1,r,x,rfl,n,m⟩;exact Jh (h _ _ S1 n m)
 case fin =>
  rintro c N ⟨S1,out,d,f,g,rfl,L,_,_,sz⟩;have:=size L;lia
 case step =>
  rintro i c N _ hi ⟨S1,out,d,f,g,rfl,L,X,W,sz⟩;dsimp only
  refine Jm (YX (Yj (I:=λj c aa=>aa=N/\∃ out d f ca Y,c=(none,out,d,f,ca,Y)/\At rk (a.toList++b.toList) out a b d f/\d+1<a.size/\f<b.size/\i+1+j<=out.size)
   (Q:=λc aa=>aa=N/\((∃ r x,c=(some r,x)/\r.toList.Perm (a.toList++b.toList)/\Srt rk r.toList)\/∃ out d f ca Y,c=(none,out,d,f,ca,Y)/\At rk (a.toList++b.toList) out a b d f/\d+1<a.size/\f<b.size/\i+2<=out.size)) ?_ ?_ ⟨rfl,_,_,_,_,_,rfl,L,X,W,by lia⟩) ?_)
  ·rintro j c aa _ hj ⟨rfl,out,d,f,ca,Y,rfl,L,X,W,sz⟩
   dsimp only;obtain⟨x,ex,px⟩:=V d (by lia);obtain⟨y,K,py⟩:=U f W;refine Jm (zR K (Jm (zR ex (Jm (qi C (S1.kind.trans hk) py px ?_)))));by_cases z:rk y<rk x
   ·rw[Jw z]
    dsimp only;rw[Jp rfl];have L':=L.pushB K λu O=>Z8 (Int.le_of_lt z) (xX sa ex u O);refine Jm (zR K ?_);by_cases J:f+1=b.size
    ·rw[Jp (by simpa using J)]
     obtain⟨n,m⟩:=L'.endB (by lia);exact Jh ⟨rfl,.inl ⟨_,_,rfl,n,m⟩⟩
    ·rw[Jf (by simpa using J)]
     by_cases zg:Y+1>=g
     ·rw[Jp zg]
      exact Jh ⟨rfl,.inr ⟨_,_,_,_,_,rfl,L',X,by lia,by rw[Jv];lia⟩⟩
     ·rw[Jf zg]
      exact Jh ⟨rfl,_,_,_,_,_,rfl,L',X,by lia,by rw[Jv];lia⟩
   ·rw[Jq z]
    dsimp only;rw[Jf Jn];have L':=L.pushA ex λu O=>Z8 (by lia) (xX sb K u O);refine Jm (zR ex ?_);by_cases J:d+1+1=a.size
    ·rw[Jp (by simpa using J)]
     obtain⟨n,m⟩:=lone L' J;exact Jh ⟨rfl,.inl ⟨_,_,rfl,n,m⟩⟩
    ·rw[Jf (by simpa using J)]
     by_cases zg:ca+1>=g
     ·rw[Jp zg]
      exact Jh ⟨rfl,.inr ⟨_,_,_,_,_,rfl,L',by lia,W,by rw[Jv];lia⟩⟩
     ·rw[Jf zg]
      exact Jh ⟨rfl,_,_,_,_,_,rfl,L',by lia,W,by rw[Jv];lia⟩
  ·rintro c aa ⟨rfl,out,d,f,ca,Y,rfl,L,X,W,sz⟩
   have:=size L;lia
  ·rintro c aa ⟨rfl,⟨r,x,rfl,n,m⟩|⟨out,d,f,ca,Y,rfl,L,X,W,sz⟩⟩
   ·exact Jh ⟨S1,r,_,rfl,n,m⟩
   dsimp only;refine Jm (wK ?_)
   refine Jm (YX (Yj (I:=λj c Z=>Sm st Z/\∃ out d f g ca Y,c=(none,out,d,f,g,ca,Y)/\At rk (a.toList++b.toList) out a b d f/\d+1<a.size/\f<b.size/\i+2<=out.size)
    (Q:=λc Z=>Sm st Z/\((∃ r x,c=(some r,x)/\r.toList.Perm (a.toList++b.toList)/\Srt rk r.toList)\/∃ out d f g ca Y,c=(none,out,d,f,g,ca,Y)/\At rk (a.toList++b.toList) out a b d f/\d+1<a.size/\f<b.size/\i+2<=out.size)) ?_ ?_ ⟨S1,_,_,_,_,_,_,rfl,L,X,W,sz⟩) ?_)
   ·rintro j c Z _ hj ⟨S3,out,d,f,g,ca,Y,rfl,L,X,W,sz⟩
    dsimp only;obtain⟨y,K,py⟩:=U f W;by_cases zg:g > 1
    ·rw[Jp zg]
     refine Jm (vM λae o=>?_);have o:=S3.trans o;refine Jm (zR K (Jm (y7 C (o.kind.trans hk) py (λt ht=>V (d+t) (by lia)) (xV sa (by lia)) (by lia) λk af g1 g2=>?_)));dsimp only
     have R:=L.cutA (k:=k) λt u tk eu v hv=>by
      have:=g1 t tk;rw[R_at eu]at this;unfold bd at this;simp only[Y8,YW,Zt,JS]at this;have:=xX sb K v hv;lia
     have hle:∀ u∈a.toList.drop (d+k),rk y<=rk u:=λu O=>by
      obtain⟨t,M⟩:=xS O;have tl:=(JK.mp M).1;have:=g2 (k+t) (by lia) (by lia);rw[<- Z9,R_at M]at this;unfold bd at this;simp only[Y8,YW,ZT,Y4]at this;lia
     have G:i+2<=(out++a.extract d (d+k)).size:=by rw[Jx];lia
     by_cases zk:k > 0
     ·rw[Jp zk]
      by_cases za:d+k+1=a.size
      ·rw[Jp (by simpa using za)]
       obtain⟨n,m⟩:=lone R za;exact Jh ⟨o,.inl ⟨_,_,rfl,n,m⟩⟩
      rw[Jf (by simpa using za)];by_cases zc:d+k=a.size
      ·rw[Jp (by simpa using zc)]
       obtain⟨n,m⟩:=R.endA (by lia);exact Jh ⟨o,.inl ⟨_,_,rfl,n,m⟩⟩
      rw[Jf (by simpa using zc)];have la1:d+k+1<a.size:=by lia
      generalize d+k=T at R hle la1 G ⊢;generalize out++a.extract d T=out1 at R G ⊢;refine Jm (zR K ?_);have L2:=R.pushB K hle;by_cases J:f+1=b.size
      ·rw[Jp (by simpa using J)]
       obtain⟨n,m⟩:=L2.endB (by lia);exact Jh ⟨o,.inl ⟨_,_,rfl,n,m⟩⟩
      rw[Jf (by simpa using J)];obtain⟨x1,l,S⟩:=V _ (Nat.lt_of_succ_lt la1);refine Jm (zR l (Jm (y7 C (o.kind.trans hk) S (λt ht=>U (f+1+t) (by lia)) (xV sb (by lia)) (by lia) λB ad c1 c2=>?_)));dsimp only
      have L3:=L2.cutB (k:=B) λt u tk eu v hv=>by
       have:=c1 t tk;rw[R_at eu]at this;unfold bd at this;simp only[Yk,Y4]at this;have:=xX sa l v hv;lia
      have p:∀ u∈b.toList.drop (f+1+B),rk x1<=rk u:=λu O=>by
       obtain⟨t,M⟩:=xS O;have tl:=(JK.mp M).1;have:=c2 (B+t) (by lia) (by lia);rw[<- Z9,R_at M]at this;unfold bd at this;simp only[Yk,JS]at this;lia
      have ab:=G;by_cases F:B > 0
      ·rw[Jp F]
       by_cases zd:f+1+B=b.size
       ·rw[Jp (by simpa using zd)]
        obtain⟨n,m⟩:=L3.endB (by lia);exact Jh ⟨o,.inl ⟨_,_,rfl,n,m⟩⟩
       rw[Jf (by simpa using zd)];have H:f+1+B<b.size:=by lia
       refine Jm (zR l ?_);have D:=L3.pushA l p;by_cases q:T+1+1=a.size
       ·rw[Jp (by simpa using q)]
        obtain⟨n,m⟩:=lone D q;exact Jh ⟨o,.inl ⟨_,_,rfl,n,m⟩⟩
       rw[Jf (by simpa using q)];split
       ·exact Jh ⟨o,.inr ⟨_,_,_,_,_,_,rfl,D,by lia,H,by simp only[Jv,Jx];lia⟩⟩
       ·exact Jh ⟨o,_,_,_,_,_,_,rfl,D,by lia,H,by simp only[Jv,Jx];lia⟩
      ·rw[Jf F]
       obtain rfl:B=0:=by lia
       rw[Zh]at p;refine Jm (zR l ?_);have D:=L2.pushA l p;by_cases q:T+1+1=a.size
       ·rw[Jp (by simpa using q)]
        obtain⟨n,m⟩:=lone D q;exact Jh ⟨o,.inl ⟨_,_,rfl,n,m⟩⟩
       rw[Jf (by simpa using q)];split
       ·exact Jh ⟨o,.inr ⟨_,_,_,_,_,_,rfl,D,by lia,by lia,by simp only[Jv,Jx];lia⟩⟩
       ·exact Jh ⟨o,_,_,_,_,_,_,rfl,D,by lia,by lia,by simp only[Jv,Jx];lia⟩
     ·rw[Jf zk]
      obtain rfl:k=0:=by lia
      have R:=L;have la1:=X;have G:=sz;rw[Zh]at hle;refine Jm (zR K ?_);have L2:=R.pushB K hle;by_cases J:f+1=b.size
      ·rw[Jp (by simpa using J)]
       obtain⟨n,m⟩:=L2.endB (by lia);exact Jh ⟨o,.inl ⟨_,_,rfl,n,m⟩⟩
      rw[Jf (by simpa using J)];obtain⟨x1,l,S⟩:=V _ (Nat.lt_of_succ_lt la1);refine Jm (zR l (Jm (y7 C (o.kind.trans hk) S (λt ht=>U (f+1+t) (by lia)) (xV sb (by lia)) (by lia) λB ad c1 c2=>?_)));dsimp only
      have L3:=L2.cutB (k:=B) λt u tk eu v hv=>by
       have:=c1 t tk;rw[R_at eu]at this;unfold bd at this;simp only[Yk,Y4]at this;have:=xX sa l v hv;lia
      have p:∀ u∈b.toList.drop (f+1+B),rk x1<=rk u:=λu O=>by
       obtain⟨t,M⟩:=xS O;have tl:=(JK.mp M).1;have:=c2 (B+t) (by lia) (by lia);rw[<- Z9,R_at M]at this;unfold bd at this;simp only[Yk,JS]at this;lia
      have ab:=G;by_cases F:B > 0
      ·rw[Jp F]
       by_cases zd:f+1+B=b.size
       ·rw[Jp (by simpa using zd)]
        obtain⟨n,m⟩:=L3.endB (by lia);exact Jh ⟨o,.inl ⟨_,_,rfl,n,m⟩⟩
       rw[Jf (by simpa using zd)];have H:f+1+B<b.size:=by lia
       refine Jm (zR l ?_);have D:=L3.pushA l p;by_cases q:d+1+1=a.size
       ·rw[Jp (by simpa using q)]
        obtain⟨n,m⟩:=lone D q;exact Jh ⟨o,.inl ⟨_,_,rfl,n,m⟩⟩
       rw[Jf (by simpa using q)];split
       ·exact Jh ⟨o,.inr ⟨_,_,_,_,_,_,rfl,D,by lia,H,by simp only[Jv,Jx];lia⟩⟩
       ·exact Jh ⟨o,_,_,_,_,_,_,rfl,D,by lia,H,by simp only[Jv,Jx];lia⟩
      ·rw[Jf F]
       obtain rfl:B=0:=by lia
       rw[Zh]at p;refine Jm (zR l ?_);have D:=L2.pushA l p;by_cases q:d+1+1=a.size
       ·rw[Jp (by simpa using q)]
        obtain⟨n,m⟩:=lone D q;exact Jh ⟨o,.inl ⟨_,_,rfl,n,m⟩⟩
       rw[Jf (by simpa using q)];split
       ·exact Jh ⟨o,.inr ⟨_,_,_,_,_,_,rfl,D,by lia,by lia,by simp only[Jv,Jx];lia⟩⟩
       ·exact Jh ⟨o,_,_,_,_,_,_,rfl,D,by lia,by lia,by simp only[Jv,Jx];lia⟩
    ·rw[Jf zg]
     refine Jm (vM λae o=>?_);have o:=S3.trans o;refine Jm (zR K (Jm (y7 C (o.kind.trans hk) py (λt ht=>V (d+t) (by lia)) (xV sa (by lia)) (by lia) λk af g1 g2=>?_)));dsimp only
     have R:=L.cutA (k:=k) λt u tk eu v hv=>by
      have:=g1 t tk;rw[R_at eu]at this;unfold bd at this;simp only[Y8,YW,Zt,JS]at this;have:=xX sb K v hv;lia
     have hle:∀ u∈a.toList.drop (d+k),rk y<=rk u:=λu O=>by
      obtain⟨t,M⟩:=xS O;have tl:=(JK.mp M).1;have:=g2 (k+t) (by lia) (by lia);rw[<- Z9,R_at M]at this;unfold bd at this;simp only[Y8,YW,ZT,Y4]at this;lia
     have G:i+2<=(out++a.extract d (d+k)).size:=by rw[Jx];lia
     by_cases zk:k > 0
     ·rw[Jp zk]
      by_cases za:d+k+1=a.size
      ·rw[Jp (by simpa using za)]
       obtain⟨n,m⟩:=lone R za;exact Jh ⟨o,.inl ⟨_,_,rfl,n,m⟩⟩
      rw[Jf (by simpa using za)];by_cases zc:d+k=a.size
      ·rw[Jp (by simpa using zc)]
       obtain⟨n,m⟩:=R.endA (by lia);exact Jh ⟨o,.inl ⟨_,_,rfl,n,m⟩⟩
      rw[Jf (by simpa using zc)];have la1:d+k+1<a.size:=by lia
      generalize d+k=T at R hle la1 G ⊢;generalize out++a.extract d T=out1 at R G ⊢;refine Jm (zR K ?_);have L2:=R.pushB K hle;by_cases J:f+1=b.size
      ·rw[Jp (by simpa using J)]
       obtain⟨n,m⟩:=L2.endB (by lia);exact Jh ⟨o,.inl ⟨_,_,rfl,n,m⟩⟩
      rw[Jf (by simpa using J)];obtain⟨x1,l,S⟩:=V _ (Nat.lt_of_succ_lt la1);refine Jm (zR l (Jm (y7 C (o.kind.trans hk) S (λt ht=>U (f+1+t) (by lia)) (xV sb (by lia)) (by lia) λB ad c1 c2=>?_)));dsimp only
      have L3:=L2.cutB (k:=B) λt u tk eu v hv=>by
       have:=c1 t tk;rw[R_at eu]at this;unfold bd at this;simp only[Yk,Y4]at this;have:=xX sa l v hv;lia
      have p:∀ u∈b.toList.drop (f+1+B),rk x1<=rk u:=λu O=>by
       obtain⟨t,M⟩:=xS O;have tl:=(JK.mp M).1;have:=c2 (B+t) (by lia) (by lia);rw[<- Z9,R_at M]at this;unfold bd at this;simp only[Yk,JS]at this;lia
      have ab:=G;by_cases F:B > 0
      ·rw[Jp F]
       by_cases zd:f+1+B=b.size
       ·rw[Jp (by simpa using zd)]
        obtain⟨n,m⟩:=L3.endB (by lia);exact Jh ⟨o,.inl ⟨_,_,rfl,n,m⟩⟩
       rw[Jf (by simpa using zd)];have H:f+1+B<b.size:=by lia
       refine Jm (zR l ?_);have D:=L3.pushA l p;by_cases q:T+1+1=a.size
       ·rw[Jp (by simpa using q)]
        obtain⟨n,m⟩:=lone D q;exact Jh ⟨o,.inl ⟨_,_,rfl,n,m⟩⟩
       rw[Jf (by simpa using q)];split
       ·exact Jh ⟨o,.inr ⟨_,_,_,_,_,_,rfl,D,by lia,H,by simp only[Jv,Jx];lia⟩⟩
       ·exact Jh ⟨o,_,_,_,_,_,_,rfl,D,by lia,H,by simp only[Jv,Jx];lia⟩
      ·rw[Jf F]
       obtain rfl:B=0:=by lia
       rw[Zh]at p;refine Jm (zR l ?_);have D:=L2.pushA l p;by_cases q:T+1+1=a.size
       ·rw[Jp (by simpa using q)]
        obtain⟨n,m⟩:=lone D q;exact Jh ⟨o,.inl ⟨_,_,rfl,n,m⟩⟩
       rw[Jf (by simpa using q)];split
       ·exact Jh ⟨o,.inr ⟨_,_,_,_,_,_,rfl,D,by lia,by lia,by simp only[Jv,Jx];lia⟩⟩
       ·exact Jh ⟨o,_,_,_,_,_,_,rfl,D,by lia,by lia,by simp only[Jv,Jx];lia⟩
     ·rw[Jf zk]
      obtain rfl:k=0:=by lia
      have R:=L;have la1:=X;have G:=sz;rw[Zh]at hle;refine Jm (zR K ?_);have L2:=R.pushB K hle;by_cases J:f+1=b.size
      ·rw[Jp (by simpa using J)]
       obtain⟨n,m⟩:=L2.endB (by lia);exact Jh ⟨o,.inl ⟨_,_,rfl,n,m⟩⟩
      rw[Jf (by simpa using J)];obtain⟨x1,l,S⟩:=V _ (Nat.lt_of_succ_lt la1);refine Jm (zR l (Jm (y7 C (o.kind.trans hk) S (λt ht=>U (f+1+t) (by lia)) (xV sb (by lia)) (by lia) λB ad c1 c2=>?_)));dsimp only
      have L3:=L2.cutB (k:=B) λt u tk eu v hv=>by
       have:=c1 t tk;rw[R_at eu]at this;unfold bd at this;simp only[Yk,Y4]at this;have:=xX sa l v hv;lia
      have p:∀ u∈b.toList.drop (f+1+B),rk x1<=rk u:=λu O=>by
       obtain⟨t,M⟩:=xS O;have tl:=(JK.mp M).1;have:=c2 (B+t) (by lia) (by lia);rw[<- Z9,R_at M]at this;unfold bd at this;simp only[Yk,JS]at this;lia
      have ab:=G;by_cases F:B > 0
      ·rw[Jp F]
       by_cases zd:f+1+B=b.size
       ·rw[Jp (by simpa using zd)]
        obtain⟨n,m⟩:=L3.endB (by lia);exact Jh ⟨o,.inl ⟨_,_,rfl,n,m⟩⟩
       rw[Jf (by simpa using zd)];have H:f+1+B<b.size:=by lia
       refine Jm (zR l ?_);have D:=L3.pushA l p;by_cases q:d+1+1=a.size
       ·rw[Jp (by simpa using q)]
        obtain⟨n,m⟩:=lone D q;exact Jh ⟨o,.inl ⟨_,_,rfl,n,m⟩⟩
       rw[Jf (by simpa using q)];split
       ·exact Jh ⟨o,.inr ⟨_,_,_,_,_,_,rfl,D,by lia,H,by simp only[Jv,Jx];lia⟩⟩
       ·exact Jh ⟨o,_,_,_,_,_,_,rfl,D,by lia,H,by simp only[Jv,Jx];lia⟩
      ·rw[Jf F]
       obtain rfl:B=0:=by lia
       rw[Zh]at p;refine Jm (zR l ?_);have D:=L2.pushA l p;by_cases q:d+1+1=a.size
       ·rw[Jp (by simpa using q)]
        obtain⟨n,m⟩:=lone D q;exact Jh ⟨o,.inl ⟨_,_,rfl,n,m⟩⟩
       rw[Jf (by simpa using q)];split
       ·exact Jh ⟨o,.inr ⟨_,_,_,_,_,_,rfl,D,by lia,by lia,by simp only[Jv,Jx];lia⟩⟩
       ·exact Jh ⟨o,_,_,_,_,_,_,rfl,D,by lia,by lia,by simp only[Jv,Jx];lia⟩
   ·rintro c Z ⟨S3,out,d,f,g,ca,Y,rfl,L,X,W,sz⟩
    exact⟨S3,.inr ⟨_,_,_,_,_,_,rfl,L,X,W,sz⟩⟩
   ·rintro c Z ⟨S3,⟨r,x,rfl,n,m⟩|⟨out,d,f,g,ca,Y,rfl,L,X,W,sz⟩⟩
    ·exact Jh ⟨S3,r,_,rfl,n,m⟩
    dsimp only;refine Jm (vM λae o=>?_);exact Jh ⟨S3.trans o,_,_,_,_,rfl,L,X,W,by lia⟩
end
def je:Array Keyed->Array Keyed->StateT SortSt Sem (Array Keyed):=sortPriv% PySem.Builtin.mergeHi
structure Hi (rk:Keyed->Int) (T a b out:List Keyed):Prop where
 sa:Srt rk a
 sb:Srt rk b
 so:Srt rk out
 ao:∀ x∈a,∀ y∈out,rk x<=rk y
 bo:∀ x∈b,∀ y∈out,rk x<=rk y
 pm:(a++b++out).Perm T
section
variable {rk:Keyed->Int}{T out a b c:List Keyed}
theorem Hi.swap (h:Hi rk T a b out):Hi rk T b a out:=⟨h.sb,h.sa,h.so,h.bo,h.ao,((Zc (l₁:=b) (l₂:=a)).append_right out).trans h.pm⟩
theorem Hi.take (h:Hi rk T (a++c) b out)(le:∀ x∈b,∀ y∈c,rk x<=rk y):Hi rk T a b (c++out):=by
 obtain⟨i,g,f⟩:=Ym.mp h.sa;refine⟨i,h.sb,Ym.mpr ⟨g,h.so,λx d y e=>h.ao x (Jy _ d) y e⟩,λx d y e=>?_,λx d y e=>?_,?_⟩
 ·rcases Ju.mp e with q|q
  ·exact f x d y q
  ·exact h.ao x (YB _ d) y q
 ·rcases Ju.mp e with q|q
  ·exact le x d y q
  ·exact h.bo x d y q
 ·refine List.Perm.trans ?_ h.pm
  rw[<- Y7];refine List.Perm.append_right out ?_;rw[Y7,Y7];exact List.Perm.append_left a Zc
theorem Hi.end (h:Hi rk T [] b out):(b++out).Perm T/\Srt rk (b++out):=⟨h.pm,Ym.mpr ⟨h.sb,h.so,h.bo⟩⟩
theorem Hi.lone (h:Hi rk T a b out)(le:∀ x∈b,∀ y∈a,rk x<=rk y):(b++a++out).Perm T/\Srt rk (b++a++out):=by
 refine⟨((Zc (l₁:=b) (l₂:=a)).append_right out).trans h.pm,Ym.mpr ⟨Ym.mpr ⟨h.sb,h.sa,le⟩,h.so,λx d y c=>?_⟩⟩;rcases Ju.mp d with q|q
 ·exact h.bo x q y c
 ·exact h.ao x q y c
theorem iO {arr:Array Keyed}{n:Nat}{p:Keyed}(b:1<=n)(e:arr[n-1]?=some p):arr.toList.take n=arr.toList.take (n-1)++[p]:=by
 obtain⟨hi,e⟩:=JK.mp e;have a:n-1<arr.toList.length:=by rw[Jt];exact hi
 have:=JZ a;rw[Nat.sub_add_cancel b,Array.getElem_toList,e]at this;exact this
theorem lv (arr:Array Keyed){i n:Nat}(h:i<=n):arr.toList.take n=arr.toList.take i++(arr.extract i n).toList:=by
 rw[Zf,YZ];have:=List.take_add (l:=arr.toList) (i:=i) (j:=n-i);rw[show i+(n-i)=n by lia]at this;exact this
theorem wf (arr:Array Keyed)(n:Nat):(arr.extract 0 n).toList=arr.toList.take n:=by
 rw[Zf,YZ,ZQ,Nat.sub_zero]
theorem wg {arr:Array Keyed}{i n:Nat}{x:Keyed}(h:x∈(arr.extract i n).toList):∃ j,i<=j/\j<n/\arr[j]?=some x:=by
 rw[Zf,YZ]at h;obtain⟨j,a⟩:=YM.mp h
 have b:j<n-i:=by
  have:=(J9.mp a).1;rw[JC]at this;lia
 rw[Zk b,List.getElem?_drop]at a;exact⟨i+j,by lia,by lia,by rw[<- Y2];exact a⟩
theorem xD {arr:Array Keyed}{n:Nat}{x:Keyed}(h:x∈arr.toList.take n):∃ j,j<n/\arr[j]?=some x:=by
 obtain⟨j,a⟩:=YM.mp h
 have b:j<n:=by
  have:=(J9.mp a).1;rw[JC]at this;lia
 rw[Zk b]at a;exact⟨j,b,by rw[<- Y2];exact a⟩
theorem xI {arr:Array Keyed}{n:Nat}{p:Keyed}(h:Srt rk arr.toList)(f:1<=n)(e:arr[n-1]?=some p):∀ y∈arr.toList.take n,rk y<=rk p:=by
 intro y a;obtain⟨j,c,b⟩:=xD a;have d:=(JK.mp e).1;have:=xV h (base:=0) (n:=n) (by lia) j (n-1) (Y1 _) (by lia) (by lia);rw[R_at b,R_at e]at this;exact this
end
section
variable {rk:Keyed->Int}{T:List Keyed}{out a b:Array Keyed}{na nb i:Nat}{p:Keyed}
abbrev Bt (rk:Keyed->Int)(T:List Keyed)(a b out:Array Keyed)(na nb:Nat):Prop:=Hi rk T (a.toList.take na) (b.toList.take nb) out.toList.reverse
theorem Bt.pushA (h:Bt rk T a b out na nb)(i:1<=na)(e:a[na-1]?=some p)(le:∀ x∈b.toList.take nb,rk x<=rk p):Bt rk T a b (out.push p) (na-1) nb:=by
 have d:=h;unfold Bt at d ⊢;rw[iO i e]at d;rw[Z4,List.reverse_append];exact Hi.take (c:=[p]) d λx g y f=>by rw[Js.mp f];exact le x g
theorem Bt.pushB (h:Bt rk T a b out na nb)(c:1<=nb)(e:b[nb-1]?=some p)(le:∀ x∈a.toList.take na,rk x<=rk p):Bt rk T a b (out.push p) na (nb-1):=(Bt.pushA (a:=b) (b:=a) h.swap c e le).swap
theorem Bt.cutA (h:Bt rk T a b out na nb)(hi:i<=na)(le:∀ j x,i<=j->j<na->a[j]?=some x->∀ y∈b.toList.take nb,rk y<=rk x):Bt rk T a b (out++(a.extract i na).reverse) i nb:=by
 have c:=h;unfold Bt at c ⊢;rw[lv a hi]at c;rw[Y6,List.reverse_append,Array.toList_reverse,List.reverse_reverse]
 exact Hi.take c λy g x k=>by
  obtain⟨j,f,d,e⟩:=wg k;exact le j x f d e y g
theorem Bt.cutB (h:Bt rk T a b out na nb)(hi:i<=nb)(le:∀ j x,i<=j->j<nb->b[j]?=some x->∀ y∈a.toList.take na,rk y<=rk x):Bt rk T a b (out++(b.extract i nb).reverse) na i:=(Bt.cutA (a:=b) (b:=a) h.swap hi le).swap
theorem Bt.endA (h:Bt rk T a b out 0 nb):(a.extract 0 0++b.extract 0 nb++out.reverse).toList.Perm T/\Srt rk (a.extract 0 0++b.extract 0 nb++out.reverse).toList:=by
 rw[Y6,Y6,wf,wf,List.take_zero,List.nil_append,Array.toList_reverse];exact Hi.end h
theorem Bt.endB (h:Bt rk T a b out na 0):(a.extract 0 na++b.extract 0 0++out.reverse).toList.Perm T/\Srt rk (a.extract 0 na++b.extract 0 0++out.reverse).toList:=by
 rw[Y6,Y6,wf,wf,List.take_zero,Yi,Array.toList_reverse];exact Hi.end h.swap
theorem Bt.lone (h:Bt rk T a b out na nb)(le:∀ x∈b.toList.take nb,∀ y∈a.toList.take na,rk x<=rk y):(b.extract 0 nb++a.extract 0 na++out.reverse).toList.Perm T/\Srt rk (b.extract 0 nb++a.extract 0 na++out.reverse).toList:=by
 rw[Y6,Y6,wf,wf,Array.toList_reverse];exact Hi.lone h le
end
section
variable {prog:Program}{w:World}{A:Around}{E:Value->Shared->Prop}{s:Shared}{κ:SortKind}{P:Keyed->Prop}{rk:Keyed->Int}
theorem bC (C:Cmp prog w A s κ P rk){st:SortSt}{a b:Array Keyed}{Q:Array Keyed->SortSt->Prop}(hk:kindOf st=κ)(pa:∀ x∈a.toList,P x)(pb:∀ x∈b.toList,P x)(sa:Srt rk a.toList)(sb:Srt rk b.toList)(a1:1<=a.size)(b1:1<=b.size)(first:∀ x,b[0]?=some x->∀ y∈a.toList,rk x<=rk y)(last:∀ x,a[a.size-1]?=some x->∀ y∈b.toList,rk y<=rk x)(h:∀ r st',Sm st st'->r.toList.Perm (a.toList++b.toList)->Srt rk r.toList->Q r st'):wpS (model prog w) A E s (je a b) Q st:=by
 have K:∀ i,i<a.size->∃ x,a[i]?=some x/\P x:=λi hi=>⟨_,getElem?_pos a i hi,pa _ (by simp)⟩;have Z:∀ i,i<b.size->∃ x,b[i]?=some x/\P x:=λi hi=>⟨_,getElem?_pos b i hi,pb _ (by simp)⟩;obtain⟨z0,e0,_⟩:=K (a.size-1) (by lia)
 have lone:∀ {out:Array Keyed}{na:Nat},Bt rk (a.toList++b.toList) a b out na 1->(b.extract 0 1++a.extract 0 na++out.reverse).toList.Perm (a.toList++b.toList)/\Srt rk (b.extract 0 1++a.extract 0 na++out.reverse).toList:=λ{out na} L=>L.lone λx hx y hy=>by
  obtain⟨j,j1,ej⟩:=xD hx;exact first x (by rw[show 0=j by lia];exact ej) y (ZA hy)
 have L0:Bt rk (a.toList++b.toList) a b #[z0] (a.size-1) b.size:=by
  have w0:Bt rk (a.toList++b.toList) a b #[] a.size b.size:=by
   have e1:a.toList.take a.size=a.toList:=List.take_of_length_le (by rw[Jt];exact Je _);have e2:b.toList.take b.size=b.toList:=List.take_of_length_le (by rw[Jt];exact Je _);unfold Bt;rw[e1,e2];exact⟨sa,sb,List.Pairwise.nil,λx hx y hy=>by simp at hy,λx hx y hy=>by simp at hy,by simp⟩
  exact w0.pushA a1 e0 λx hx=>last z0 e0 x (ZA hx)
 have size:∀ {out:Array Keyed}{na nb:Nat},Bt rk (a.toList++b.toList) a b out na nb->out.size<=a.size+b.size:=λ{out na nb} L=>by
  have:=L.pm.length_eq;simp only[Jd,List.length_reverse,Jt]at this;lia
 refine Jm (wK ?_);refine Jm (zR e0 ?_);dsimp only;by_cases z1:a.size-1=0
 ·rw[Jp (by simpa using z1)]
  rw[z1]at L0 ⊢;obtain⟨e,d⟩:=L0.endA;exact Jh (h _ _ (Sm.refl _) e d)
 rw[Jf (by simpa using z1)];by_cases z2:b.size=1
 ·rw[Jp (by simpa using z2)]
  rw[z2]at L0 ⊢;obtain⟨e,d⟩:=lone L0;exact Jh (h _ _ (Sm.refl _) e d)
 rw[Jf (by simpa using z2)];refine Jm (ZL ?_)
 refine Jm (YX (Yj (I:=λi c J=>Sm st J/\∃ na nb out g,c=(none,na,nb,out,g)/\Bt rk (a.toList++b.toList) a b out na nb/\1<=na/\na<=a.size/\2<=nb/\nb<=b.size/\i+1<=out.size)
  (Q:=λc J=>Sm st J/\∃ r x,c=(some r,x)/\r.toList.Perm (a.toList++b.toList)/\Srt rk r.toList) ?step ?fin ⟨Sm.refl _,_,_,_,_,rfl,L0,by lia,by lia,by lia,by lia,by simp⟩) ?post)
 case post =>
  rintro c J ⟨S1,r,x,rfl,e,d⟩;exact Jh (h _ _ S1 e d)
 case fin =>
  rintro c J ⟨S1,na,nb,out,g,rfl,L,_,_,_,_,sz⟩;have:=size L;lia
 case step =>
  rintro i c J _ hi ⟨S1,na,nb,out,g,rfl,L,M,B,lb,q,sz⟩;dsimp only
  refine Jm (YX (Yj (I:=λj c Y=>Y=J/\∃ na nb out ca W,c=(none,na,nb,out,ca,W)/\Bt rk (a.toList++b.toList) a b out na nb/\1<=na/\na<=a.size/\2<=nb/\nb<=b.size/\i+1+j<=out.size)
   (Q:=λc Y=>Y=J/\((∃ r x,c=(some r,x)/\r.toList.Perm (a.toList++b.toList)/\Srt rk r.toList)\/∃ na nb out ca W,c=(none,na,nb,out,ca,W)/\Bt rk (a.toList++b.toList) a b out na nb/\1<=na/\na<=a.size/\2<=nb/\nb<=b.size/\i+2<=out.size)) ?_ ?_ ⟨rfl,_,_,_,_,_,rfl,L,M,B,lb,q,by lia⟩) ?_)
  ·rintro j c Y _ hj ⟨rfl,na,nb,out,ca,W,rfl,L,M,B,lb,q,sz⟩
   dsimp only;obtain⟨x,ex,px⟩:=K (na-1) (by lia);obtain⟨y,H,py⟩:=Z (nb-1) (by lia);refine Jm (zR H (Jm (zR ex (Jm (qi C (S1.kind.trans hk) py px ?_)))));by_cases z:rk y<rk x
   ·rw[Jw z]
    dsimp only;rw[Jp rfl];have L':=L.pushA M ex λu S=>Z8 (xI sb (by lia) H u S) (Int.le_of_lt z);refine Jm (zR ex ?_);by_cases D:na-1=0
    ·rw[Jp (by simpa using D)]
     rw[D]at L' ⊢;obtain⟨e,d⟩:=L'.endA;exact Jh ⟨rfl,.inl ⟨_,_,rfl,e,d⟩⟩
    ·rw[Jf (by simpa using D)]
     by_cases zg:ca+1>=g
     ·rw[Jp zg]
      exact Jh ⟨rfl,.inr ⟨_,_,_,_,_,rfl,L',by lia,by lia,lb,q,by rw[Jv];lia⟩⟩
     ·rw[Jf zg]
      exact Jh ⟨rfl,_,_,_,_,_,rfl,L',by lia,by lia,lb,q,by rw[Jv];lia⟩
   ·rw[Jq z]
    dsimp only;rw[Jf Jn];have L':=L.pushB (by lia) H λu S=>Z8 (xI sa M ex u S) (by lia);refine Jm (zR H ?_);by_cases D:nb-1=1
    ·rw[Jp (by simpa using D)]
     rw[D]at L' ⊢;obtain⟨e,d⟩:=lone L';exact Jh ⟨rfl,.inl ⟨_,_,rfl,e,d⟩⟩
    ·rw[Jf (by simpa using D)]
     by_cases zg:W+1>=g
     ·rw[Jp zg]
      exact Jh ⟨rfl,.inr ⟨_,_,_,_,_,rfl,L',M,B,by lia,by lia,by rw[Jv];lia⟩⟩
     ·rw[Jf zg]
      exact Jh ⟨rfl,_,_,_,_,_,rfl,L',M,B,by lia,by lia,by rw[Jv];lia⟩
  ·rintro c Y ⟨rfl,na,nb,out,ca,W,rfl,L,M,B,lb,q,sz⟩
   have:=size L;lia
  ·rintro c Y ⟨rfl,⟨r,x,rfl,e,d⟩|⟨na,nb,out,ca,W,rfl,L,M,B,lb,q,sz⟩⟩
   ·exact Jh ⟨S1,r,_,rfl,e,d⟩
   dsimp only;refine Jm (wK ?_)
   refine Jm (YX (Yj (I:=λj c X=>Sm st X/\∃ na nb out g ca W,c=(none,na,nb,out,g,ca,W)/\Bt rk (a.toList++b.toList) a b out na nb/\1<=na/\na<=a.size/\2<=nb/\nb<=b.size/\i+2<=out.size)
    (Q:=λc X=>Sm st X/\((∃ r x,c=(some r,x)/\r.toList.Perm (a.toList++b.toList)/\Srt rk r.toList)\/∃ na nb out g ca W,c=(none,na,nb,out,g,ca,W)/\Bt rk (a.toList++b.toList) a b out na nb/\1<=na/\na<=a.size/\2<=nb/\nb<=b.size/\i+2<=out.size)) ?_ ?_ ⟨S1,_,_,_,_,_,_,rfl,L,M,B,lb,q,sz⟩) ?_)
   ·rintro j c X _ hj ⟨S3,na,nb,out,g,ca,W,rfl,L,M,B,lb,q,sz⟩
    dsimp only;obtain⟨y,H,py⟩:=Z (nb-1) (by lia);by_cases zg:g > 1
    ·rw[Jp zg]
     refine Jm (vM λad l=>?_);have l:=S3.trans l;refine Jm (zR H (Jm (y7 C (l.kind.trans hk) py (λt ht=>K (0+t) (by lia)) (xV sa (by lia)) (by lia) λk ab g1 g2=>?_)));dsimp only
     have L1:=L.cutA (i:=k) ab λt u F tn eu v hv=>by
      have:=g2 t F tn;rw[Yy,R_at eu]at this;unfold bd at this;simp only[Y8,YW,ZT,Y4]at this;have:=xI sb (by lia) H v hv;lia
     have hle:∀ u∈a.toList.take k,rk u<=rk y:=λu S=>by
      obtain⟨t,F,et⟩:=xD S;have:=g1 t F;rw[Yy,R_at et]at this;unfold bd at this;simp only[Y8,YW,Zt,JS]at this;lia
     have aa:i+2<=(out++(a.extract k na).reverse).size:=by rw[Jx];lia
     by_cases zk:na-k > 0
     ·rw[Jp zk]
      by_cases zc:k=0
      ·rw[Jp (by simpa using zc)]
       subst zc;obtain⟨e,d⟩:=L1.endA;exact Jh ⟨l,.inl ⟨_,_,rfl,e,d⟩⟩
      rw[Jf (by simpa using zc)];have R:1<=k:=by lia
      generalize na-k=kk;generalize out++(a.extract k na).reverse=out1 at L1 aa ⊢;refine Jm (zR H ?_);have L2:=L1.pushB (by lia) H hle;by_cases D:nb-1=1
      ·rw[Jp (by simpa using D)]
       rw[D]at L2 ⊢;obtain⟨e,d⟩:=lone L2;exact Jh ⟨l,.inl ⟨_,_,rfl,e,d⟩⟩
      rw[Jf (by simpa using D)];obtain⟨x1,f,U⟩:=K (k-1) (by lia);refine Jm (zR f (Jm (y7 C (l.kind.trans hk) U (λt ht=>Z (0+t) (by lia)) (xV sb (by lia)) (by lia) λp V c1 c2=>?_)));dsimp only
      have T:=L2.cutB (i:=p) V λt u F tn eu v hv=>by
       have:=c2 t F tn;rw[Yy,R_at eu]at this;unfold bd at this;simp only[Yk,JS]at this;have:=xI sa R f v hv;lia
      have n:∀ u∈b.toList.take p,rk u<=rk x1:=λu S=>by
       obtain⟨t,F,et⟩:=xD S;have:=c1 t F;rw[Yy,R_at et]at this;unfold bd at this;simp only[Yk,Y4]at this;lia
      by_cases G:nb-1-p > 0
      ·rw[Jp G]
       by_cases O:p=1
       ·rw[Jp (by simpa using O)]
        subst O;obtain⟨e,d⟩:=lone T;exact Jh ⟨l,.inl ⟨_,_,rfl,e,d⟩⟩
       rw[Jf (by simpa using O)];by_cases N:p=0
       ·rw[Jp (by simpa using N)]
        subst N;obtain⟨e,d⟩:=T.endB;exact Jh ⟨l,.inl ⟨_,_,rfl,e,d⟩⟩
       rw[Jf (by simpa using N)];refine Jm (zR f ?_);have m:=T.pushA R f n;by_cases o:k-1=0
       ·rw[Jp (by simpa using o)]
        rw[o]at m ⊢;obtain⟨e,d⟩:=m.endA;exact Jh ⟨l,.inl ⟨_,_,rfl,e,d⟩⟩
       rw[Jf (by simpa using o)];split
       ·exact Jh ⟨l,.inr ⟨_,_,_,_,_,_,rfl,m,by lia,by lia,by lia,by lia,by simp only[Jv,Jx];lia⟩⟩
       ·exact Jh ⟨l,_,_,_,_,_,_,rfl,m,by lia,by lia,by lia,by lia,by simp only[Jv,Jx];lia⟩
      ·rw[Jf G]
       obtain rfl:p=nb-1:=by lia
       refine Jm (zR f ?_);have m:=L2.pushA R f n;by_cases o:k-1=0
       ·rw[Jp (by simpa using o)]
        rw[o]at m ⊢;obtain⟨e,d⟩:=m.endA;exact Jh ⟨l,.inl ⟨_,_,rfl,e,d⟩⟩
       rw[Jf (by simpa using o)];split
       ·exact Jh ⟨l,.inr ⟨_,_,_,_,_,_,rfl,m,by lia,by lia,by lia,by lia,by simp only[Jv,Jx];lia⟩⟩
       ·exact Jh ⟨l,_,_,_,_,_,_,rfl,m,by lia,by lia,by lia,by lia,by simp only[Jv,Jx];lia⟩
     ·rw[Jf zk]
      obtain rfl:k=na:=by lia
      have L1:=L;have R:=M;have aa:=sz;generalize k-k=kk;refine Jm (zR H ?_);have L2:=L1.pushB (by lia) H hle;by_cases D:nb-1=1
      ·rw[Jp (by simpa using D)]
       rw[D]at L2 ⊢;obtain⟨e,d⟩:=lone L2;exact Jh ⟨l,.inl ⟨_,_,rfl,e,d⟩⟩
      rw[Jf (by simpa using D)];obtain⟨x1,f,U⟩:=K (k-1) (by lia);refine Jm (zR f (Jm (y7 C (l.kind.trans hk) U (λt ht=>Z (0+t) (by lia)) (xV sb (by lia)) (by lia) λp V c1 c2=>?_)));dsimp only
      have T:=L2.cutB (i:=p) V λt u F tn eu v hv=>by
       have:=c2 t F tn;rw[Yy,R_at eu]at this;unfold bd at this;simp only[Yk,JS]at this;have:=xI sa R f v hv;lia
      have n:∀ u∈b.toList.take p,rk u<=rk x1:=λu S=>by
       obtain⟨t,F,et⟩:=xD S;have:=c1 t F;rw[Yy,R_at et]at this;unfold bd at this;simp only[Yk,Y4]at this;lia
      by_cases G:nb-1-p > 0
      ·rw[Jp G]
       by_cases O:p=1
       ·rw[Jp (by simpa using O)]
        subst O;obtain⟨e,d⟩:=lone T;exact Jh ⟨l,.inl ⟨_,_,rfl,e,d⟩⟩
       rw[Jf (by simpa using O)];by_cases N:p=0
       ·rw[Jp (by simpa using N)]
        subst N;obtain⟨e,d⟩:=T.endB;exact Jh ⟨l,.inl ⟨_,_,rfl,e,d⟩⟩
       rw[Jf (by simpa using N)];refine Jm (zR f ?_);have m:=T.pushA R f n;by_cases o:k-1=0
       ·rw[Jp (by simpa using o)]
        rw[o]at m ⊢;obtain⟨e,d⟩:=m.endA;exact Jh ⟨l,.inl ⟨_,_,rfl,e,d⟩⟩
       rw[Jf (by simpa using o)];split
       ·exact Jh ⟨l,.inr ⟨_,_,_,_,_,_,rfl,m,by lia,by lia,by lia,by lia,by simp only[Jv,Jx];lia⟩⟩
       ·exact Jh ⟨l,_,_,_,_,_,_,rfl,m,by lia,by lia,by lia,by lia,by simp only[Jv,Jx];lia⟩
      ·rw[Jf G]
       obtain rfl:p=nb-1:=by lia
       refine Jm (zR f ?_);have m:=L2.pushA R f n;by_cases o:k-1=0
       ·rw[Jp (by simpa using o)]
        rw[o]at m ⊢;obtain⟨e,d⟩:=m.endA;exact Jh ⟨l,.inl ⟨_,_,rfl,e,d⟩⟩
       rw[Jf (by simpa using o)];split
       ·exact Jh ⟨l,.inr ⟨_,_,_,_,_,_,rfl,m,by lia,by lia,by lia,by lia,by simp only[Jv,Jx];lia⟩⟩
       ·exact Jh ⟨l,_,_,_,_,_,_,rfl,m,by lia,by lia,by lia,by lia,by simp only[Jv,Jx];lia⟩
    ·rw[Jf zg]
     refine Jm (vM λad l=>?_);have l:=S3.trans l;refine Jm (zR H (Jm (y7 C (l.kind.trans hk) py (λt ht=>K (0+t) (by lia)) (xV sa (by lia)) (by lia) λk ab g1 g2=>?_)));dsimp only
     have L1:=L.cutA (i:=k) ab λt u F tn eu v hv=>by
      have:=g2 t F tn;rw[Yy,R_at eu]at this;unfold bd at this;simp only[Y8,YW,ZT,Y4]at this;have:=xI sb (by lia) H v hv;lia
     have hle:∀ u∈a.toList.take k,rk u<=rk y:=λu S=>by
      obtain⟨t,F,et⟩:=xD S;have:=g1 t F;rw[Yy,R_at et]at this;unfold bd at this;simp only[Y8,YW,Zt,JS]at this;lia
     have aa:i+2<=(out++(a.extract k na).reverse).size:=by rw[Jx];lia
     by_cases zk:na-k > 0
     ·rw[Jp zk]
      by_cases zc:k=0
      ·rw[Jp (by simpa using zc)]
       subst zc;obtain⟨e,d⟩:=L1.endA;exact Jh ⟨l,.inl ⟨_,_,rfl,e,d⟩⟩
      rw[Jf (by simpa using zc)];have R:1<=k:=by lia
      generalize na-k=kk;generalize out++(a.extract k na).reverse=out1 at L1 aa ⊢;refine Jm (zR H ?_);have L2:=L1.pushB (by lia) H hle;by_cases D:nb-1=1
      ·rw[Jp (by simpa using D)]
       rw[D]at L2 ⊢;obtain⟨e,d⟩:=lone L2;exact Jh ⟨l,.inl ⟨_,_,rfl,e,d⟩⟩
      rw[Jf (by simpa using D)];obtain⟨x1,f,U⟩:=K (k-1) (by lia);refine Jm (zR f (Jm (y7 C (l.kind.trans hk) U (λt ht=>Z (0+t) (by lia)) (xV sb (by lia)) (by lia) λp V c1 c2=>?_)));dsimp only
      have T:=L2.cutB (i:=p) V λt u F tn eu v hv=>by
       have:=c2 t F tn;rw[Yy,R_at eu]at this;unfold bd at this;simp only[Yk,JS]at this;have:=xI sa R f v hv;lia
      have n:∀ u∈b.toList.take p,rk u<=rk x1:=λu S=>by
       obtain⟨t,F,et⟩:=xD S;have:=c1 t F;rw[Yy,R_at et]at this;unfold bd at this;simp only[Yk,Y4]at this;lia
      by_cases G:nb-1-p > 0
      ·rw[Jp G]
       by_cases O:p=1
       ·rw[Jp (by simpa using O)]
        subst O;obtain⟨e,d⟩:=lone T;exact Jh ⟨l,.inl ⟨_,_,rfl,e,d⟩⟩
       rw[Jf (by simpa using O)];by_cases N:p=0
       ·rw[Jp (by simpa using N)]
        subst N;obtain⟨e,d⟩:=T.endB;exact Jh ⟨l,.inl ⟨_,_,rfl,e,d⟩⟩
       rw[Jf (by simpa using N)];refine Jm (zR f ?_);have m:=T.pushA R f n;by_cases o:k-1=0
       ·rw[Jp (by simpa using o)]
        rw[o]at m ⊢;obtain⟨e,d⟩:=m.endA;exact Jh ⟨l,.inl ⟨_,_,rfl,e,d⟩⟩
       rw[Jf (by simpa using o)];split
       ·exact Jh ⟨l,.inr ⟨_,_,_,_,_,_,rfl,m,by lia,by lia,by lia,by lia,by simp only[Jv,Jx];lia⟩⟩
       ·exact Jh ⟨l,_,_,_,_,_,_,rfl,m,by lia,by lia,by lia,by lia,by simp only[Jv,Jx];lia⟩
      ·rw[Jf G]
       obtain rfl:p=nb-1:=by lia
       refine Jm (zR f ?_);have m:=L2.pushA R f n;by_cases o:k-1=0
       ·rw[Jp (by simpa using o)]
        rw[o]at m ⊢;obtain⟨e,d⟩:=m.endA;exact Jh ⟨l,.inl ⟨_,_,rfl,e,d⟩⟩
       rw[Jf (by simpa using o)];split
       ·exact Jh ⟨l,.inr ⟨_,_,_,_,_,_,rfl,m,by lia,by lia,by lia,by lia,by simp only[Jv,Jx];lia⟩⟩
       ·exact Jh ⟨l,_,_,_,_,_,_,rfl,m,by lia,by lia,by lia,by lia,by simp only[Jv,Jx];lia⟩
     ·rw[Jf zk]
      obtain rfl:k=na:=by lia
      have L1:=L;have R:=M;have aa:=sz;generalize k-k=kk;refine Jm (zR H ?_);have L2:=L1.pushB (by lia) H hle;by_cases D:nb-1=1
      ·rw[Jp (by simpa using D)]
       rw[D]at L2 ⊢;obtain⟨e,d⟩:=lone L2;exact Jh ⟨l,.inl ⟨_,_,rfl,e,d⟩⟩
      rw[Jf (by simpa using D)];obtain⟨x1,f,U⟩:=K (k-1) (by lia);refine Jm (zR f (Jm (y7 C (l.kind.trans hk) U (λt ht=>Z (0+t) (by lia)) (xV sb (by lia)) (by lia) λp V c1 c2=>?_)));dsimp only
      have T:=L2.cutB (i:=p) V λt u F tn eu v hv=>by
       have:=c2 t F tn;rw[Yy,R_at eu]at this;unfold bd at this;simp only[Yk,JS]at this;have:=xI sa R f v hv;lia
      have n:∀ u∈b.toList.take p,rk u<=rk x1:=λu S=>by
       obtain⟨t,F,et⟩:=xD S;have:=c1 t F;rw[Yy,R_at et]at this;unfold bd at this;simp only[Yk,Y4]at this;lia
      by_cases G:nb-1-p > 0
      ·rw[Jp G]
       by_cases O:p=1
       ·rw[Jp (by simpa using O)]
        subst O;obtain⟨e,d⟩:=lone T;exact Jh ⟨l,.inl ⟨_,_,rfl,e,d⟩⟩
       rw[Jf (by simpa using O)];by_cases N:p=0
       ·rw[Jp (by simpa using N)]
        subst N;obtain⟨e,d⟩:=T.endB;exact Jh ⟨l,.inl ⟨_,_,rfl,e,d⟩⟩
       rw[Jf (by simpa using N)];refine Jm (zR f ?_);have m:=T.pushA R f n;by_cases o:k-1=0
       ·rw[Jp (by simpa using o)]
        rw[o]at m ⊢;obtain⟨e,d⟩:=m.endA;exact Jh ⟨l,.inl ⟨_,_,rfl,e,d⟩⟩
       rw[Jf (by simpa using o)];split
       ·exact Jh ⟨l,.inr ⟨_,_,_,_,_,_,rfl,m,by lia,by lia,by lia,by lia,by simp only[Jv,Jx];lia⟩⟩
       ·exact Jh ⟨l,_,_,_,_,_,_,rfl,m,by lia,by lia,by lia,by lia,by simp only[Jv,Jx];lia⟩
      ·rw[Jf G]
       obtain rfl:p=nb-1:=by lia
       refine Jm (zR f ?_);have m:=L2.pushA R f n;by_cases o:k-1=0
       ·rw[Jp (by simpa using o)]
        rw[o]at m ⊢;obtain⟨e,d⟩:=m.endA;exact Jh ⟨l,.inl ⟨_,_,rfl,e,d⟩⟩
       rw[Jf (by simpa using o)];split
       ·exact Jh ⟨l,.inr ⟨_,_,_,_,_,_,rfl,m,by lia,by lia,by lia,by lia,by simp only[Jv,Jx];lia⟩⟩
       ·exact Jh ⟨l,_,_,_,_,_,_,rfl,m,by lia,by lia,by lia,by lia,by simp only[Jv,Jx];lia⟩
   ·rintro c X ⟨S3,na,nb,out,g,ca,W,rfl,L,M,B,lb,q,sz⟩
    exact⟨S3,.inr ⟨_,_,_,_,_,_,rfl,L,M,B,lb,q,sz⟩⟩
   ·rintro c X ⟨S3,⟨r,x,rfl,e,d⟩|⟨na,nb,out,g,ca,W,rfl,L,M,B,lb,q,sz⟩⟩
    ·exact Jh ⟨S3,r,_,rfl,e,d⟩
    dsimp only;refine Jm (vM λad l=>?_);exact Jh ⟨S3.trans l,_,_,_,_,rfl,L,M,B,lb,q,by lia⟩
end
section
variable {rk:Keyed->Int}
theorem vw (b:Nat):∀ (l:List Keyed) (o:Nat) (arr:Array Keyed),b+o+l.length<=arr.size->(List.foldl (λ(a:Array Keyed) (x:Keyed × Nat)=>a.setIfInBounds (b+x.2) x.1) arr (l.zipIdx o)).toList=arr.toList.take (b+o)++l++arr.toList.drop (b+o+l.length)
 | [],o,arr,_=>by
  show arr.toList=_
  rw[Yi,List.length_nil,Zh,Zv]
 | x::l,o,arr,h=>by
  rw[Ya]at h;rw[List.zipIdx_cons,Zq,vw b l (o+1) _ (by rw[Array.size_setIfInBounds];lia)];have c:b+o<arr.toList.length:=by rw[Jt];lia
  rw[Array.toList_setIfInBounds,<- Z9,List.drop_set_of_lt (by lia),Ya,show b+o+1+l.length=b+o+(l.length+1) by lia]
  have e:(arr.toList.set (b+o) x).take (b+o+1)=arr.toList.take (b+o)++[x]:=by
   rw[JZ (by rw[List.length_set];exact c),List.getElem_set_self,List.take_set_of_le (Je _)]
  rw[e,Y7 (arr.toList.take (b+o)) [x] l];rfl
theorem np {arr:Array Keyed}{i n j:Nat}(h:i+j<n)(hn:n<=arr.size):(arr.extract i n)[j]?=arr[i+j]?:=by
 rw[Array.getElem?_extract_of_lt (by lia)];exact(getElem?_pos arr (i+j) (by lia)).symm
theorem pZ {arr:Array Keyed}{lo n:Nat}(h:Up rk arr lo n)(hn:lo+n<=arr.size):Srt rk (arr.extract lo (lo+n)).toList:=by
 refine List.pairwise_iff_getElem.mpr λi j hi b c=>?_;have a:(arr.extract lo (lo+n)).size=n:=by rw[Array.size_extract];lia
 rw[Jt,a]at hi b;have:=h (lo+i) (lo+j) (by lia) (by lia) (by lia);rw[R_at (getElem?_pos arr (lo+i) (by lia)),R_at (getElem?_pos arr (lo+j) (by lia))]at this;simpa using this
end
section
variable {prog:Program}{w:World}{A:Around}{E:Value->Shared->Prop}{s:Shared}{κ:SortKind}{P:Keyed->Prop}{rk:Keyed->Int}{a₀:Array Keyed}
theorem bF (C:Cmp prog w A s κ P rk){st:SortSt}{Q:Bool->SortSt->Prop}{i sa na p sb nb q:Nat}(D:Bs κ P a₀ st)(e1:(pendingOf st)[i]?=some (sa,na,p))(e2:(pendingOf st)[i+1]?=some (sb,nb,q))(hs:sb=sa+na)(n1:1<=na)(n2:1<=nb)(hz:sb+nb<=a₀.size)(K:Up rk (arrOf st) sa na)(J:Up rk (arrOf st) sb nb)(h:∀ st',Bs κ P a₀ st'->pendingOf st'=((pendingOf st).setIfInBounds i (sa,na+nb,p)).eraseIdxIfInBounds (i+1)->(∀ k,k<sa\/sb+nb<=k->R rk (arrOf st') k=R rk (arrOf st) k)->Up rk (arrOf st') sa (na+nb)->Q true st'):wpS (model prog w) A E s (mergeAt' i) Q st:=by
 refine Jm (ZL ?_);dsimp only;rw[e1,e2];dsimp only;obtain⟨b0,X,af,ad⟩:=D.at (i:=sb) (by lia) rk;have sz:=D.size
 have Z:∀ {c st2:SortSt}{Q':PUnit->SortSt->Prop},Q' ⟨⟩ st2->wpS (model prog w) A E s (set st2:StateT SortSt Sem PUnit) Q' c:=λ{c st2 Q'} hq=>by
  unfold wpS;rw[StateT.run_set];exact J7 ⟨rfl,hq⟩
 refine Jm (Z (st2:=SortSt.mk' (kindOf st) (arrOf st) (((pendingOf st).setIfInBounds i (sa,na+nb,p)).eraseIdxIfInBounds (i+1)) (gallopOf st) (failedOf st)) ?_);generalize M:SortSt.mk' (kindOf st) (arrOf st) (((pendingOf st).setIfInBounds i (sa,na+nb,p)).eraseIdxIfInBounds (i+1)) (gallopOf st) (failedOf st)=c;have d:Bs κ P a₀ c:=by rw[<- M];exact⟨D.kind,D.fail,D.perm,D.all⟩
 have U:arrOf c=arrOf st:=by rw[<- M]
 have ep:pendingOf c=((pendingOf st).setIfInBounds i (sa,na+nb,p)).eraseIdxIfInBounds (i+1):=by rw[<- M]
 have pat:∀ j,j<a₀.size->∃ x,(arrOf st)[j]?=some x/\P x:=λj B=>by
  obtain⟨x,ex,px,_⟩:=D.at B rk;exact⟨x,ex,px⟩
 refine Jm (zR X (Jm (y7 (arr:=arrOf st) C d.kind af (λt S=>pat (sa+t) (by lia)) K (by lia) λk ai g1 g2=>?_)));dsimp only
 have f1:∀ j,sa<=j->j<sa+k->R rk (arrOf st) j<=rk b0:=λj l o=>by
  have:=g1 (j-sa) (by lia);rw[show sa+(j-sa)=j by lia]at this;unfold bd at this;simp only[Y8,YW,Zt,JS]at this;lia
 have f2:∀ j,sa+k<=j->j<sb->rk b0<=R rk (arrOf st) j:=λj l o=>by
  have:=g2 (j-sa) (by lia) (by lia);rw[show sa+(j-sa)=j by lia]at this;unfold bd at this;simp only[Y8,YW,ZT,Y4]at this;lia
 have f0:∀ j,sb<=j->j<sb+nb->rk b0<=R rk (arrOf st) j:=λj l o=>by rw[<- ad];exact J _ _ (Je _) l o
 by_cases zk:na-k=0
 ·rw[Jp (by simpa using zk)]
  refine Jh (h c d ep (λj _=>by rw[U]) λx y g b I=>?_);rw[U];by_cases q1:y<sb
  ·exact K _ _ g b (by lia)
  ·by_cases q2:sb<=x
   ·exact J _ _ q2 b (by lia)
   ·exact Z8 (f1 x g (by lia)) (f0 y (by lia) (by lia))
 rw[Jf (by simpa using zk)];have ka:sa+k+(na-k)-1=sb-1:=by lia
 rw[ka];obtain⟨l0,V,ae,ab⟩:=D.at (i:=sb-1) (by lia) rk;refine Jm (zR V (Jm (y7 (arr:=arrOf st) C d.kind ae (λt S=>pat (sb+t) (by lia)) J (by lia) λn ah c1 c2=>?_)));dsimp only
 have f3:∀ j,sb<=j->j<sb+n->R rk (arrOf st) j<=rk l0:=λj l o=>by
  have:=c1 (j-sb) (by lia);rw[show sb+(j-sb)=j by lia]at this;unfold bd at this;simp only[Yk,Y4]at this;lia
 have f4:∀ j,sb+n<=j->j<sb+nb->rk l0<=R rk (arrOf st) j:=λj l o=>by
  have:=c2 (j-sb) (by lia) (by lia);rw[show sb+(j-sb)=j by lia]at this;unfold bd at this;simp only[Yk,JS]at this;lia
 have f5:∀ j,sa<=j->j<sb->R rk (arrOf st) j<=rk l0:=λj l o=>by rw[<- ab];exact K _ _ l (by lia) (by lia)
 by_cases zn:n=0
 ·rw[Jp (by simpa using zn)]
  refine Jh (h c d ep (λj _=>by rw[U]) λx y g b I=>?_);rw[U];by_cases q1:y<sb
  ·exact K _ _ g b (by lia)
  ·by_cases q2:sb<=x
   ·exact J _ _ q2 b (by lia)
   ·exact Z8 (f5 x g (by lia)) (f4 y (by lia) (by lia))
 rw[Jf (by simpa using zn)];have sx:((arrOf st).extract (sa+k) sb).size=na-k:=by rw[Array.size_extract];lia
 have sy:((arrOf st).extract sb (sb+n)).size=n:=by rw[Array.size_extract];lia
 have px:∀ x∈((arrOf st).extract (sa+k) sb).toList,P x:=λx g=>by
  obtain⟨j,l,o,L⟩:=wg g;obtain⟨y,T,py⟩:=pat j (by lia);rw[L]at T;cases T;exact py
 have py:∀ x∈((arrOf st).extract sb (sb+n)).toList,P x:=λx g=>by
  obtain⟨j,l,o,L⟩:=wg g;obtain⟨y,T,py⟩:=pat j (by lia);rw[L]at T;cases T;exact py
 have ox:Srt rk ((arrOf st).extract (sa+k) sb).toList:=by
  have:=pZ (rk:=rk) (arr:=arrOf st) (lo:=sa+k) (n:=na-k) (λx y g b I=>K x y (by lia) b (by lia)) (by lia)
  rwa [show sa+k+(na-k)=sb by lia]at this
 have oy:Srt rk ((arrOf st).extract sb (sb+n)).toList:=pZ (λx y g b I=>J x y (by lia) b (by lia)) (by lia)
 have first:∀ x,((arrOf st).extract sb (sb+n))[0]?=some x->∀ y∈((arrOf st).extract (sa+k) sb).toList,rk x<=rk y:=λx ex y I=>by
  rw[np (by lia) (by lia),Zh,X]at ex;obtain⟨j,l,o,L⟩:=wg I;have:=f2 j l o;rw[R_at L]at this;cases ex;exact this
 have last:∀ x,((arrOf st).extract (sa+k) sb)[((arrOf st).extract (sa+k) sb).size-1]?=some x->∀ y∈((arrOf st).extract sb (sb+n)).toList,rk y<=rk x:=λx ex y I=>by
  rw[sx,np (by lia) (by lia),show sa+k+(na-k-1)=sb-1 by lia,V]at ex;obtain⟨j,l,o,L⟩:=wg I;have:=f3 j l (by lia);rw[R_at L]at this;cases ex;exact this
 have fin:∀ (m:Array Keyed) (st2:SortSt),Sm c st2->m.toList.Perm (((arrOf st).extract (sa+k) sb).toList++((arrOf st).extract sb (sb+n)).toList)->Srt rk m.toList ->
   wpS (model prog w) A E s (do
    modify λs=>setArr s (m.toList.zipIdx.foldl (λ(a:Array Keyed) (x:Keyed × Nat)=>a.setIfInBounds (sa+k+x.2) x.1) (arrOf s))
    let s' <- get
    pure (failedOf s').isNone) Q st2:=by
  intro m st2 G pm O;have Y:arrOf st2=arrOf st:=G.arr.trans U;have N:m.toList.length=na-k+n:=by rw[pm.length_eq,Jd,Jt,Jt,sx,sy]
  have wl:=vw (sa+k) m.toList 0 (arrOf st2) (by rw[Y,sz,N];lia);generalize hW:List.foldl (λ(a:Array Keyed) (x:Keyed × Nat)=>a.setIfInBounds (sa+k+x.2) x.1) (arrOf st2) m.toList.zipIdx=W at wl;rw[Zh,N,Y,show sa+k+(na-k+n)=sb+n by lia]at wl
  have aa:(arrOf st).toList=(arrOf st).toList.take (sa+k)++(((arrOf st).extract (sa+k) sb).toList++((arrOf st).extract sb (sb+n)).toList)++(arrOf st).toList.drop (sb+n):=by
   have d1:=ui (arrOf st) (sa+k) (na-k);rw[show sa+k+(na-k)=sb by lia]at d1;have d2:=ui (arrOf st) sb n;rw[Y7,Y7,<- d2,<- d1,Zv]
  have pw:W.Perm (arrOf st):=by
   rw[Array.perm_iff_toList_perm,wl]
   conv=>rhs;rw[aa]
   exact((pm.append_left _).append_right _)
  have r:((arrOf st).toList.take (sa+k)).length=sa+k:=by rw[JC,Jt,sz];lia
  have ag:W.size=a₀.size:=by rw[pw.size_eq,sz]
  have z:∀ j,j<sa+k->R rk W j=R rk (arrOf st) j:=λj B=>R_congr (by
   rw[<- Y2,<- Y2,wl,Y7,YJ (by rw[r];exact B),Zk B])
  have f:∀ j,sb+n<=j->R rk W j=R rk (arrOf st) j:=λj B=>R_congr (by
   rw[<- Y2,<- Y2,wl,YE (by rw[Jd,r,N];lia),Jd,r,N,List.getElem?_drop]
   congr 1;lia)
  have mid:∀ j,sa+k<=j->j<sb+n->∃ x,m[j-(sa+k)]?=some x/\R rk W j=rk x:=λj l o=>by
   have jl:j-(sa+k)<m.size:=by rw[<- Jt,N];lia
   refine⟨_,getElem?_pos m _ jl,R_at ?_⟩;rw[<- Y2,wl,Y7,YE (by rw[r];exact l),r,YJ (by rw[N];lia),Y2];exact getElem?_pos m _ jl
  have kids:∀ j x,m[j]?=some x->∃ t,((sa+k<=t/\t<sb)\/(sb<=t/\t<sb+n))/\R rk (arrOf st) t=rk x:=λj x ex=>by
   have hm:x∈m.toList:=by
    obtain⟨B,e⟩:=JK.mp ex;rw[<- e];simp
   rcases Ju.mp (pm.mem_iff.mp hm) with u|u
   ·obtain⟨t,F,H,et⟩:=wg u
    exact⟨t,.inl ⟨F,H⟩,R_at et⟩
   ·obtain⟨t,F,H,et⟩:=wg u
    exact⟨t,.inr ⟨F,H⟩,R_at et⟩
  refine Jm (ZR (Jm (ZL (Jh ?_))));rw[hW]
  have ff:(failedOf (setArr st2 W)).isNone=true:=by
   show (failedOf st2).isNone=true;rw[G.fail,d.fail];rfl
  rw[ff];refine h _ ⟨G.kind.trans d.kind,G.fail.trans d.fail,pw.trans D.perm,D.all⟩ (G.pend.trans ep) (λj B=>?_) λx y g b I=>?_
  ·rcases B with B|B
   ·exact z j (by lia)
   ·exact f j (by lia)
  ·show R rk W x<=R rk W y
   by_cases x1:x<sa+k
   ·rw[z x x1]
    by_cases y1:y<sa+k
    ·rw[z y y1];exact K _ _ g b (by lia)
    ·by_cases y2:y<sb+n
     ·obtain⟨v,ev,rv⟩:=mid y (by lia) y2
      obtain⟨t,S,rt⟩:=kids _ v ev;rw[rv,<- rt];rcases S with ⟨F,H⟩|⟨F,H⟩
      ·exact K _ _ g (by lia) (by lia)
      ·exact Z8 (f1 x g x1) (f0 t F (by lia))
     ·rw[f y (by lia)]
      exact Z8 (f1 x g x1) (f0 y (by lia) (by lia))
   ·by_cases x2:x<sb+n
    ·obtain⟨u,eu,ru⟩:=mid x (by lia) x2
     rw[ru];by_cases y2:y<sb+n
     ·obtain⟨v,ev,rv⟩:=mid y (by lia) y2
      rw[rv]
      have:=xV O (base:=0) (n:=m.size) (by lia) (x-(sa+k)) (y-(sa+k)) (Y1 _) (by lia) (by
       have:=(JK.mp ev).1
       lia)
      rwa [R_at eu,R_at ev]at this
     ·rw[f y (by lia)]
      obtain⟨t,S,rt⟩:=kids _ u eu;rw[<- rt];rcases S with ⟨F,H⟩|⟨F,H⟩
      ·exact Z8 (f5 t (by lia) H) (f4 y (by lia) (by lia))
      ·exact J _ _ F (by lia) (by lia)
    ·rw[f x (by lia),f y (by lia)]
     exact J _ _ (by lia) b (by lia)
 split
 ·exact Jm (cq C d.kind px py ox oy (by rw[sx];lia) (by rw[sy];lia) first last λm st2 G pm O=>fin m st2 G pm O)
 ·exact Jm (bC C d.kind px py ox oy (by rw[sx];lia) (by rw[sy];lia) first last λm st2 G pm O=>fin m st2 G pm O)
abbrev Run:=Nat × Nat × Nat
def Runs:List Run->Nat->Nat->Prop
 | [],u,v=>u=v
 | x::r,u,v=>x.1=u/\1<=x.2.1/\Runs r (u+x.2.1) v
theorem Runs.cut:∀ {l r:List Run}{u v:Nat},Runs (l++r) u v->∃ m,Runs l u m/\Runs r m v
 | [],_,u,_,h=>⟨u,rfl,h⟩
 | x::l,r,u,v,⟨e,d,c⟩=>by
  obtain⟨m,a,b⟩:=Runs.cut (l:=l) (r:=r) c;exact⟨m,⟨e,d,a⟩,b⟩
theorem Runs.app:∀ {l r:List Run}{u m v:Nat},Runs l u m->Runs r m v->Runs (l++r) u v
 | [],_,_,_,_,h,g=>by cases h;exact g
 | x::l,r,u,m,v,⟨c,b,a⟩,g=>⟨c,b,Runs.app a g⟩
theorem Runs.len:∀ {l:List Run}{u v:Nat},Runs l u v->u+l.length<=v
 | [],_,_,h=>by cases h;exact Je _
 | x::l,u,v,⟨c,b,a⟩=>by
  have:=Runs.len a;rw[Ya];lia
theorem Runs.mem:∀ {l:List Run}{u v:Nat}{x:Run},Runs l u v->x∈l->u<=x.1/\1<=x.2.1/\x.1+x.2.1<=v
 | y::l,u,v,x,⟨e,d,b⟩,c=>by
  rcases Ja.mp c with rfl|a
  ·have:=Runs.len b;lia
  ·have:=Runs.mem b a;lia
theorem Runs.modify {f:Run->Run}(a:∀ x,(f x).1=x.1/\(f x).2.1=x.2.1):∀ {l:List Run}{i u v:Nat},Runs l u v->Runs (l.modify i f) u v
 | [],i,_,_,h=>by cases i<;>exact h
 | x::l,0,u,v,⟨d,c,b⟩=>by
  rw[List.modify_zero_cons]
  refine⟨(a x).1.trans d,by rw[(a x).2];exact c,by rw[(a x).2];exact b⟩
 | x::l,i+1,u,v,⟨d,c,b⟩=>by
  rw[List.modify_succ_cons];exact⟨d,c,Runs.modify a b⟩
theorem we {f:Run->Run}(a:∀ x,(f x).1=x.1/\(f x).2.1=x.2.1):∀ {l:List Run}{i:Nat}{x:Run},x∈l.modify i f->∃ y∈l,x.1=y.1/\x.2.1=y.2.1
 | [],i,x,h=>by cases i<;>simp at h
 | y::l,0,x,h=>by
  rw[List.modify_zero_cons]at h;rcases Ja.mp h with rfl|b
  ·exact⟨y,JH,(a y).1,(a y).2⟩
  ·exact⟨x,JE _ b,rfl,rfl⟩
 | y::l,i+1,x,h=>by
  rw[List.modify_succ_cons]at h;rcases Ja.mp h with rfl|b
  ·exact⟨x,JH,rfl,rfl⟩
  ·obtain⟨z,hz,e⟩:=we a b
   exact⟨z,JE _ hz,e⟩
structure Ji (κ:SortKind) (P:Keyed->Prop) (rk:Keyed->Int) (a₀:Array Keyed) (lo:Nat) (st:SortSt):Prop where
 b:Bs κ P a₀ st
 runs:Runs (pendingOf st).toList 0 lo
 up:∀ x∈(pendingOf st).toList,Up rk (arrOf st) x.1 x.2.1
theorem jc (C:Cmp prog w A s κ P rk){st:SortSt}{lo i:Nat}{Q:Bool->SortSt->Prop}(J:Ji κ P rk a₀ lo st)(X:lo<=a₀.size)(hi:i+1<(pendingOf st).size)(h:∀ st',Ji κ P rk a₀ lo st'->(∀ k,lo<=k->R rk (arrOf st') k=R rk (arrOf st) k)->(pendingOf st').size+1=(pendingOf st).size->Q true st'):wpS (model prog w) A E s (mergeAt' i) Q st:=by
 obtain⟨x,ex⟩:∃ x,(pendingOf st)[i]?=some x:=⟨_,getElem?_pos _ i (by lia)⟩;obtain⟨y,I⟩:∃ y,(pendingOf st)[i+1]?=some y:=⟨_,getElem?_pos _ (i+1) hi⟩;have t:(pendingOf st).toList[i]?=some x:=by rw[Y2];exact ex
 have r:(pendingOf st).toList[i+1]?=some y:=by rw[Y2];exact I
 obtain⟨o,T⟩:=J9.mp t;obtain⟨n,S⟩:=J9.mp r
 have sp:(pendingOf st).toList=(pendingOf st).toList.take i++x::y::(pendingOf st).toList.drop (i+1+1):=by
  rw[<- T,<- S,<- YY n,<- YY o,Zv]
 have D:=J.runs;have up:=J.up;generalize e:(pendingOf st).toList.take i=pre at sp;generalize u:(pendingOf st).toList.drop (i+1+1)=post at sp;have O:pre.length=i:=by rw[<- e,JC];lia
 rw[sp]at D up;obtain⟨m,F,N⟩:=D.cut;obtain⟨B,H,M,G,f⟩:=N;obtain⟨v,na,p⟩:=x;obtain⟨L,nb,q⟩:=y;simp only at B H M G f;have Y:=f.len;refine bF C J.b ex I (by lia) H G (by lia) (up (v,na,p) (by simp)) (up (L,nb,q) (by simp)) λst' W U low K=>?_
 have l:(pendingOf st').toList=pre++(v,na+nb,p)::post:=by
  rw[U,Array.toList_eraseIdxIfInBounds,Array.toList_setIfInBounds,sp,List.set_append_right _ _ (by lia),List.eraseIdx_append_of_length_le (by lia),O,Nat.sub_self,Nat.add_sub_cancel_left];rfl
 refine h st' ⟨W,?_,?_⟩ (λk Z=>low k (.inr (by lia))) ?_
 ·rw[l]
  refine F.app ⟨B,by show 1<=na+nb;lia,?_⟩;show Runs post (m+(na+nb)) lo;rw[<- Z9];exact f
 ·rw[l]
  intro z a;rcases Ju.mp a with a|a
  ·have V:=F.mem a
   intro c d j b g;rw[low c (.inl (by lia)),low d (.inl (by lia))];exact up z (YB _ a) c d j b g
  ·rcases Ja.mp a with rfl|a
   ·exact K
   ·have V:=f.mem a
    intro c d j b g;rw[low c (.inr (by lia)),low d (.inr (by lia))];exact up z (Jy _ (by simp[a])) c d j b g
 ·rw[<- Jt,<- Jt,l,sp]
  simp only[Jd,Ya];lia
theorem iZ (C:Cmp prog w A s κ P rk){st:SortSt}{Q:Unit->SortSt->Prop}(hB:Bs κ P a₀ st)(hp:pendingOf st = #[])(h:∀ st',Bs κ P a₀ st'->Up rk (arrOf st') 0 a₀.size->Q () st'):wpS (model prog w) A E s sortRuns' Q st:=by
 rw[sortRuns'_eq];refine Jm (ZL ?_);dsimp only;rw[hB.size];generalize minRun' a₀.size a₀.size 0=S
 refine Jm (YX (Yj (I:=λi c o=>∃ lo,c=(none,lo)/\i<=lo/\lo<=a₀.size/\Ji κ P rk a₀ lo o)
  (Q:=λc o=>∃ lo,c=(none,lo)/\lo=a₀.size/\Ji κ P rk a₀ lo o) ?step ?fin ?init) ?post)
 case init=>exact⟨0,rfl,Je _,Y1 _,hB,by rw[hp];rfl,λx u=>by rw[hp]at u;simp at u⟩
 case fin =>
  rintro c o ⟨lo,rfl,h1,V,J⟩;exact⟨lo,rfl,by lia,J⟩
 case step =>
  rintro i c o _ hi ⟨lo,rfl,h1,V,J⟩;dsimp only;by_cases z:lo>=a₀.size
  ·rw[Jp z]
   exact Jh ⟨lo,rfl,by lia,J⟩
  rw[Jf z];refine Jm (iC C J.b (by lia) (by lia) λf n X M n2 u2=>?_);dsimp only
  have Jk:∀ g,Keep κ P rk a₀ lo o g->Ji κ P rk a₀ lo g:=λg H=>⟨H.b,by rw[H.pend];exact J.runs,λx u=>by
   rw[H.pend]at u;have:=J.runs.mem u;intro c d D v L;rw[H.low c (by lia),H.low d (by lia)]
   exact J.up x u c d D v L⟩
  by_cases Z:n<S
  ·rw[Jp Z]
   refine Jm (wK ?_);refine Jm (da C X.b M (by lia) (by lia) u2 λg H u3=>?_);have M:1<=min (a₀.size-lo) S:=by lia
   have n2:min (a₀.size-lo) S<=a₀.size-lo:=by lia
   have B:=Jk g (X.trans H);generalize min (a₀.size-lo) S=n at M n2 u3 ⊢;rw[Jf (show ¬(!true)=true by decide)];refine Jm (ZL ?_)
   have last:∀ a,Ji κ P rk a₀ lo a->Up rk (arrOf a) lo n->wpS (model prog w) A E s (do
     modify λm=>setPending m ((pendingOf m).push (lo,n,0))
     pure (ForInStep.yield ((none:Option Unit),lo+n))) (λr st'=>match r with|.done G=>∃ lo,G=(none,lo)/\lo=a₀.size/\Ji κ P rk a₀ lo st'|.yield G=>∃ lo,G=(none,lo)/\i+1<=lo/\lo<=a₀.size/\Ji κ P rk a₀ lo st') a:=by
    intro a e l;refine Jm (ZR (Jh ⟨lo+n,rfl,by lia,by lia,⟨e.b.kind,e.b.fail,e.b.perm,e.b.all⟩,?_,?_⟩))
    ·show Runs ((pendingOf a).push (lo,n,0)).toList 0 (lo+n)
     rw[Z4];exact e.runs.app ⟨rfl,M,rfl⟩
    ·show ∀ x∈((pendingOf a).push (lo,n,0)).toList,Up rk (arrOf a) x.1 x.2.1
     rw[Z4];intro x u;rcases Ju.mp u with p|p
     ·exact e.up x p
     ·rw[Js.mp p];exact l
   split
   ·rename_i s1 m1 w1 hb
    refine Jm (YX (Yj (I:=λj c a=>c=(none,())/\Ji κ P rk a₀ lo a/\Up rk (arrOf a) lo n) (Q:=λc a=>c=(none,())/\Ji κ P rk a₀ lo a/\Up rk (arrOf a) lo n) ?_ (λc a U=>U) ⟨rfl,B,u3⟩) ?_)
    ·rintro j c a _ hj ⟨rfl,e,l⟩
     refine Jm (ZL ?_);split
     ·rename_i a1 a2 K N
      split
      ·exact Jh ⟨rfl,e,l⟩
      ·have sz:(pendingOf a).size > 1:=by
        by_cases q:(pendingOf a).size > 1
        ·exact q
        ·rw[Jf q]at N;cases N
       refine Jm (jc C e V (by lia) λm Y k _=>?_);rw[Jf (show ¬(!true)=true by decide)];exact Jh ⟨rfl,Y,λc d D v L=>by rw[k c D,k d (by lia)];exact l c d D v L⟩
     ·exact Jh ⟨rfl,e,l⟩
    ·rintro c a ⟨rfl,e,l⟩
     dsimp only;refine Jm (ZR ?_);refine last _ ⟨⟨e.b.kind,e.b.fail,e.b.perm,e.b.all⟩,?_,?_⟩ l
     ·show Runs ((pendingOf a).modify _ _).toList 0 lo
      rw[Array.toList_modify];refine Runs.modify ?_ e.runs;exact λx=>⟨rfl,rfl⟩
     ·show ∀ x∈((pendingOf a).modify _ _).toList,Up rk (arrOf a) x.1 x.2.1
      rw[Array.toList_modify];intro x u;obtain⟨y,T,W,e2⟩:=we (by exact λx=>⟨rfl,rfl⟩) u;rw[W,e2];exact e.up y T
   ·exact last _ B u3
  ·rw[Jf Z]
   have B:=Jk f X;have u3:=u2;generalize f=g at B u3 ⊢;refine Jm (ZL ?_)
   have last:∀ a,Ji κ P rk a₀ lo a->Up rk (arrOf a) lo n->wpS (model prog w) A E s (do
     modify λm=>setPending m ((pendingOf m).push (lo,n,0))
     pure (ForInStep.yield ((none:Option Unit),lo+n))) (λr st'=>match r with|.done G=>∃ lo,G=(none,lo)/\lo=a₀.size/\Ji κ P rk a₀ lo st'|.yield G=>∃ lo,G=(none,lo)/\i+1<=lo/\lo<=a₀.size/\Ji κ P rk a₀ lo st') a:=by
    intro a e l;refine Jm (ZR (Jh ⟨lo+n,rfl,by lia,by lia,⟨e.b.kind,e.b.fail,e.b.perm,e.b.all⟩,?_,?_⟩))
    ·show Runs ((pendingOf a).push (lo,n,0)).toList 0 (lo+n)
     rw[Z4];exact e.runs.app ⟨rfl,M,rfl⟩
    ·show ∀ x∈((pendingOf a).push (lo,n,0)).toList,Up rk (arrOf a) x.1 x.2.1
     rw[Z4];intro x u;rcases Ju.mp u with p|p
     ·exact e.up x p
     ·rw[Js.mp p];exact l
   split
   ·rename_i s1 m1 w1 hb
    refine Jm (YX (Yj (I:=λj c a=>c=(none,())/\Ji κ P rk a₀ lo a/\Up rk (arrOf a) lo n) (Q:=λc a=>c=(none,())/\Ji κ P rk a₀ lo a/\Up rk (arrOf a) lo n) ?_ (λc a U=>U) ⟨rfl,B,u3⟩) ?_)
    ·rintro j c a _ hj ⟨rfl,e,l⟩
     refine Jm (ZL ?_);split
     ·rename_i a1 a2 K N
      split
      ·exact Jh ⟨rfl,e,l⟩
      ·have sz:(pendingOf a).size > 1:=by
        by_cases q:(pendingOf a).size > 1
        ·exact q
        ·rw[Jf q]at N;cases N
       refine Jm (jc C e V (by lia) λm Y k _=>?_);rw[Jf (show ¬(!true)=true by decide)];exact Jh ⟨rfl,Y,λc d D v L=>by rw[k c D,k d (by lia)];exact l c d D v L⟩
     ·exact Jh ⟨rfl,e,l⟩
    ·rintro c a ⟨rfl,e,l⟩
     dsimp only;refine Jm (ZR ?_);refine last _ ⟨⟨e.b.kind,e.b.fail,e.b.perm,e.b.all⟩,?_,?_⟩ l
     ·show Runs ((pendingOf a).modify _ _).toList 0 lo
      rw[Array.toList_modify];refine Runs.modify ?_ e.runs;exact λx=>⟨rfl,rfl⟩
     ·show ∀ x∈((pendingOf a).modify _ _).toList,Up rk (arrOf a) x.1 x.2.1
      rw[Array.toList_modify];intro x u;obtain⟨y,T,W,e2⟩:=we (by exact λx=>⟨rfl,rfl⟩) u;rw[W,e2];exact e.up y T
   ·exact last _ B u3
 case post =>
  rintro c o ⟨lo,rfl,rfl,J⟩;dsimp only
  refine Jm (YX (Yj (I:=λi c f=>c=(none,())/\Ji κ P rk a₀ a₀.size f/\(pendingOf f).size<=a₀.size-i+1)
   (Q:=λc f=>c=(none,())/\Ji κ P rk a₀ a₀.size f/\(pendingOf f).size<=1) ?_ ?_ ⟨rfl,J,?_⟩) ?_)
  ·rintro i c f _ hi ⟨rfl,F,sz⟩
   refine Jm (ZL ?_);by_cases z:(pendingOf f).size<=1
   ·rw[Jp z]
    exact Jh ⟨rfl,F,z⟩
   rw[Jf z]
   have go:∀ t,t+1<(pendingOf f).size->wpS (model prog w) A E s (mergeAt' t) (λb g=>b=true/\Ji κ P rk a₀ a₀.size g/\(pendingOf g).size<=a₀.size-(i+1)+1) f:=λt ht =>
    jc C F (Je _) ht λg B _ O=>⟨rfl,B,by lia⟩
   refine Jm (YX (go _ ?_) ?_)
   ·repeat' split
    all_goals lia
   ·rintro b g ⟨rfl,B,O⟩
    exact Jh ⟨rfl,B,O⟩
  ·rintro c f ⟨rfl,F,sz⟩
   exact⟨rfl,F,by lia⟩
  ·have:=J.runs.len
   rw[Jt]at this;lia
  ·rintro c f ⟨rfl,F,sz⟩
   refine Jh (h f F.b ?_);have R:=F.runs;have up:=F.up;have ln:(pendingOf f).toList.length<=1:=by rw[Jt];exact sz
   match hq:(pendingOf f).toList,ln with
   | [],_ =>
    rw[hq]at R;intro c d D v L;have:0=a₀.size:=R
    lia
   | [x],_ =>
    rw[hq]at R up;obtain⟨r1,r2,r3⟩:=R;have:0+x.2.1=a₀.size:=r3;have:=up x (by simp);rw[r1,show x.2.1=a₀.size by lia]at this;exact this
end
end Ts
namespace L2
open PySem PySem.Spec PyProof.Rows Own
def LtAt (A:Around)(s:Shared)(y x:Value)(b:Bool):Prop:=∀ (prog:Program) (w:World) (E:Value->Shared->Prop) (Q:Value->Shared->Prop),Q (.bool b) s->wpAny (model prog w) A (richCompare .Lt y x) Q E s
theorem LtAt.ints {A:Around}{s:Shared}(a b:Int)(t u:Tok):LtAt A s (.int a t) (.int b u) (decide (a<b)):=λ_ _ _ _ h=>lt_int h
theorem qk (l b:Addr)(xs ys:Array Value)(n m:Nat)(L K:Option Addr)(p o:Array (Option Value))(k:Nat)(N:k<xs.size)(M:k<ys.size)(c:Bool) :
  Meets (Builtin.«tuple.__lt__» ⟨[.ref l,.ref b],[]⟩)
   (λA R s=>s.heap.get? l=some { cls:=.type "tuple",dict:=L,data:=.seq xs n,slots:=p }/\s.heap.get? b=some { cls:=.type "tuple",dict:=K,data:=.seq ys m,slots:=o } /\
    (∀ j (P:j<xs.size) (O:j<ys.size),j<k->SeqAt.EqAt A.in1 s xs[j] ys[j] true)/\SeqAt.EqAt A.in1 s xs[k] ys[k] false/\LtAt A.in1 s xs[k] ys[k] c/\R (.ok (.ret (.bool c))) s) :=
 .of_wp λprog w A R s h=>by
  obtain⟨D,g,d,u,os⟩:=s;obtain⟨E,I,G,F,H,h⟩:=h;have kinds:=AutoSeq1.sub_tuple_tuple;have r:(xs.toList.zip ys.toList).length=min xs.size ys.size:=by simp
  wp_walk using wpAny_loadPart' E,wpAny_loadPart' I,wpAny_forIn_list _ (λrest b e=>b.1=none/\e=⟨D,g,d,u,os⟩/\∃ i,i<=k/\rest=(xs.toList.zip ys.toList).drop i) _
  case turn =>
   rintro⟨y,x⟩ rest b e ⟨q,rfl,i,v,a⟩;have C:i<xs.size:=by lia
   have B:i<ys.size:=by lia
   have f:i<(xs.toList.zip ys.toList).length:=by rw[r];lia
   rw[YY f]at a;obtain⟨t,e2⟩:=ZZ a;have J:y=xs[i]:=by simpa using JV Prod.fst t
   have ex:x=ys[i]:=by simpa using JV Prod.snd t
   subst J ex;by_cases z:i=k
   ·subst z
    refine J0 (F prog w _ _ ?_);simp only[Yk,Bool.not_false];refine J0 (YD (J0 (H prog w _ _ ?_)))
    wp_walk
    exact⟨_,rfl,h⟩
   ·refine J0 (G i C B (by lia) prog w _ _ ?_)
    wp_walk
    exact⟨rfl,rfl,i+1,by lia,e2⟩
  case fin =>
   rintro⟨S,Q⟩ e ⟨q,rfl,i,v,a⟩;have f:i<(xs.toList.zip ys.toList).length:=by rw[r];lia
   rw[YY f]at a;cases a
  case h =>
   exact⟨rfl,rfl,0,Y1 _,rfl⟩
theorem LtAt.tuples {A:Around}{s:Shared}{l b:Addr}{xs ys:Array Value}{k:Nat}{c:Bool}(v:IsTup s.heap l xs)(hb:IsTup s.heap b ys)(u:A.units<cLine)(t:k<xs.size)(r:k<ys.size)(z:∀ j (J:j<xs.size) (I:j<ys.size),j<k->SeqAt.EqAt A.in1 s xs[j] ys[j] true)(y:SeqAt.EqAt A.in1 s xs[k] ys[k] false)(B:LtAt A.in1 s xs[k] ys[k] c):LtAt A s (.ref l) (.ref b) c:=λprog w E Q h=>by
 obtain⟨⟨H,f,D,d⟩,i,q,n,o⟩:=v;obtain⟨⟨G,e,C,a⟩,g,p,m,e2⟩:=hb;simp only at q o p e2;subst q o p e2;exact richCompare_meets_room (op:=.Lt) ⟨_,i,rfl⟩ ⟨_,g,rfl⟩ F.slot_tuple_lt F.entry_tuple_lt (F.args_tuple_lt_2 _ _) (qk l b xs ys n m f e d a k t r c) ⟨i,g,z,y,B,show Value.bool c≠Value.notImplemented/\Q (.bool c) s from⟨(λx=>nomatch x),h⟩⟩ u
end L2
namespace Ts
open PySem PyProof.Rows
section
variable {prog:Program}{w:World}{A:Around}{E:Value->Shared->Prop}{s:Shared}
theorem mR {a:Addr}{vs:List Value}{n:Nat}{B:Fin->Shared->Prop}(t:s.heap.get? a=some (seqObj "list" vs.toArray n)) (hz:vs.length<=10000) (κ:SortKind) (g:Value->Int)
  (j:∀ h',(∀ c o,c≠a->s.heap.get? c=some o->h'.get? c=some o)->2<=vs.length->∀ {Q:SortKind->Shared->Prop}{E:Value->Shared->Prop},Q κ { s with heap:=h' }->wpAny (model prog w) A (keyKind' vs.toArray) Q E { s with heap:=h' })
  (m:∀ h',(∀ c o,c≠a->s.heap.get? c=some o->h'.get? c=some o)->Cmp prog w A { s with heap:=h' } κ (λp=>p.1∈vs) (λp=>g p.1))
  (h:∀ out:List Value,out.Perm vs->out.Pairwise (λx y=>g x<=g y)->B (.done (.ret .none)) { s with heap:=sortedHeap s.heap a vs out.toArray }) :
  wpAny (model prog w) A (Builtin.«list.sort» ⟨[.ref a],[]⟩) B E s:=by
 have al:a<s.heap.objs.size:=Jb t;have ln:vs.toArray.size=vs.length:=Jj ..;have H:vs.length<=sizeLine:=JR hz (by decide);rw[list_sort_plain];refine J0 (listItems_at t rfl (J0 (listUpdate_at t rfl ?_ (hsz:=by rw[ln];exact H))));obtain⟨v,F⟩:∃ v,(s.heap.update a (Obj.mapSeq λ_=>#[])).get? a=some (seqObj "list" #[] v):=⟨_,get?_update_seq t λ_=>#[]⟩;refine J0 (seqEpoch_at F rfl (J0 (wpAny_newTuple (J0 (wpAny_newList (JW ?_))))))
 have l:(((s.heap.update a (Obj.mapSeq λ_=>#[])).push (seqObj "tuple" vs.toArray 0)).push (seqObj "list" #[] 0)).get? a=some (seqObj "list" #[] v) :=
  J6 _ (J6 _ F)
 have old:∀ c o,c≠a->s.heap.get? c=some o->(((s.heap.update a (Obj.mapSeq λ_=>#[])).push (seqObj "tuple" vs.toArray 0)).push (seqObj "list" #[] 0)).get? c=some o:=λc o J q =>
  J6 _ (J6 _ ((Yr _ _ (Ne.symm J)).trans q))
 show wpAny (model prog w) A _ B E { s with heap:=((s.heap.update a (Obj.mapSeq λ_=>#[])).push (seqObj "tuple" vs.toArray 0)).push (seqObj "list" #[] 0) };have lo:∀ out:List Value,out.Perm vs->out.toArray.size<=sizeLine+1:=λout I=>by rw[Jj,I.length_eq];lia
 generalize M:((s.heap.update a (Obj.mapSeq λ_=>#[])).push (seqObj "tuple" vs.toArray 0)).push (seqObj "list" #[] 0)=h6 at l old ⊢;have back:∀ out:Array Value,sortedHeap s.heap a vs out=h6.update a (Obj.mapSeq λ_=>out):=λout=>by rw[<- M];rfl
 by_cases f:vs.toArray.size<2
 ·rw[Jp f,Jp f]
  refine J0 (J7 (?_:wpAny _ _ _ _ _ _));refine J0 (J7 ?_)
  have em:(vs.toArray.zip vs.toArray).map (·.2)=vs.toArray:=by
   apply Array.ext';rw[Array.toList_map,Array.toList_zip];exact List.map_snd_zip (Je _)
  have one:vs.Pairwise (λx y=>g x<=g y):=by
   match vs,f with
   | [],_=>exact List.Pairwise.nil
   | [x],_=>exact List.pairwise_singleton _ _
   | _::_::_,z=>simp at z;lia
  have k:=h vs (List.Perm.refl _) one;rw[back]at k;dsimp only;rw[em];refine J0 (seqEpoch_at l rfl (J0 (listUpdate_at l rfl ?_ (hsz:=Y1 _) (hsz2:=lo vs (List.Perm.refl _)))));simp only[YW,bne_self_eq_false,Y8];exact J7 k
 rw[Jf f,Jf f];refine J0 (j h6 old (by lia) ?_);have C:=m h6 old
 refine J0 (JL (iZ C (a₀:=vs.toArray.zip vs.toArray) (st:=SortSt.mk' κ (vs.toArray.zip vs.toArray) #[] 7 none)
  (Q:=λ_ d=>Bs κ (λp=>p.1∈vs) (vs.toArray.zip vs.toArray) d/\Up (λp=>g p.1) (arrOf d) 0 (vs.toArray.zip vs.toArray).size) ⟨rfl,rfl,Array.Perm.refl _,λp r=>?_⟩ rfl λd b u=>⟨b,u⟩) ?_ λ_ _ e=>e)
 ·have:(vs.toArray.zip vs.toArray).toList=vs.zip vs:=by simp
  rw[this]at r;exact(List.of_mem_zip r).1
 rintro⟨⟨⟩,d⟩ O ⟨rfl,b,u⟩
 have D:(arrOf d).toList.Perm (vs.zip vs):=by
  have:=Array.perm_iff_toList_perm.mp b.perm;simpa using this
 have same:∀ p∈(arrOf d).toList,p.1=p.2:=λp r=>by
  have N:=D.mem_iff.mp r;obtain⟨i,hi⟩:=YM.mp N;rw[YK]at hi;have:=hi.1.symm.trans hi.2;exact Jr this
 have G:Srt (λp=>g p.1) (arrOf d).toList:=by
  have:=pZ (arr:=arrOf d) (lo:=0) (n:=(arrOf d).size) (by rw[b.size];exact u) (by lia);rw[Yy,wf,<- Jt,Yb]at this;exact this
 have pm:((arrOf d).toList.map (·.2)).Perm vs:=by
  have:=D.map (·.2)
  rwa [List.map_snd_zip (Je _)]at this
 have em:(arrOf d).map (·.2)=((arrOf d).toList.map (·.2)).toArray:=by
  apply Array.ext';simp
 have k:=h _ pm (by
  refine List.pairwise_map.mpr (List.Pairwise.imp_of_mem ?_ G);intro x y L K le
  rw[<- same x L,<- same y K];exact le)
 rw[back]at k;dsimp only;rw[em,b.fail];refine J0 (seqEpoch_at l rfl (J0 (listUpdate_at l rfl ?_ (hsz:=Y1 _) (hsz2:=lo _ pm))));simp only[YW,bne_self_eq_false,Y8];exact J7 k
end
end Ts
namespace Own
open PySem PySem.Spec PyProof.Rows
abbrev IsZipN (h:Heap)(z TI TO t:Addr)(c:Bool):Prop:=h.get? z=some { cls:=.type "zip",dict:=none,data:=.fields #[rawInt t,.bool c,.bool false,.ref TI,.ref TO],slots:=#[] }
section
variable {prog:Program}{w:World}{A:Around}{E:Value->Shared->Prop}{s:Shared}{z TI TO i1 i2:Addr}{f1 f2:List Addr}{n1 n2 k:Nat}{P1 P2:Nat->Value->Prop}{S1 S2:Nat->Heap->Prop}
theorem vq {α:Type}{t:Addr}{c:Bool}{o:Obj}{f:Bool->Sem α}{Q:α->Shared->Prop}(hz:IsZipN s.heap z TI TO t c)(d:s.heap.get? t=some o)(h:∀ h',IsZipN h' z TI TO t true->Heap.SameBut z s.heap h'->wpAny (model prog w) A (f false) Q E { s with heap:=h' }) :
  wpAny (model prog w) A (Builtin.SmallTypes.ownedTupleIsFree (.ref z) >>= f) Q E s:=by
 refine J0 ?_;unfold Builtin.SmallTypes.ownedTupleIsFree;refine rf 0 hz rfl rfl ?_;show wpAny _ _ (loadIfAlive ((t:Int).toNat) >>= _) _ _ _;rw[YF];refine J0 (PySem.W.kdx_alive d ?_);simp only[Y8,YW,Option.isNone_some];refine rf (x:=.bool c) 1 hz rfl rfl ?_;have e:(Value.bool true != Value.bool true)=false:=rfl;have g:(Value.bool false != Value.bool true)=true:=rfl
 cases c with
 | true =>
  rw[e]
  exact J7 (h s.heap hz (Heap.SameBut.refl _ _))
 | false =>
  rw[g];exact J0 (Ye hz (show 1<5 by decide) λh' a b=>J7 (h h' a b))
theorem n5 {t:Addr}{c:Bool}{o:Obj}(S:Sep z TI TO i1 i2 f1 f2)(l:Draws prog w A i1 f1 n1 P1 S1)(j:Draws prog w A i2 f2 n2 P2 S2){Q:Value->Shared->Prop}(hz:IsZipN s.heap z TI TO t c)(H:s.heap.get? t=some o)(J:IsPair s.heap TI (.ref i1) (.ref i2))(M:S1 k s.heap)(L:S2 k s.heap)(l1:k<n1)(l2:k<n2)(h:∀ x y h' tk,P1 k x->P2 k y->IsZipN h' z TI TO t true->S1 (k+1) h'->S2 (k+1) h'->IsPair h' s.heap.objs.size x y ->
   (∀ c o,c∉[z,TO,i1,i2]->s.heap.get? c=some o->h'.get? c=some o)->Q (.ref s.heap.objs.size) { s with heap:=h',toks:=tk }) :
  wpAny (model prog w) A (Builtin.«zip.__next__» ⟨[.ref z],[]⟩) (λr F=>∃ v,r=.done (.ret v)/\Q v F) E s:=by
 have n:=S.all;simp only[JP,Ja,Jc,JG,Z6]at n;obtain⟨⟨P,O,C,B⟩,⟨IO,X,W⟩,⟨V,U⟩,N,_⟩:=n;refine rf 2 hz rfl rfl (rf 3 hz rfl rfl (J0 (Y3 J rfl (vq hz H λT u g=>?_))));rw[Jf Jn];refine J0 ?_;simp only[List.forIn_toArray,Yq,YH];refine J0 (J0 (JW (J0 (l.item k _ _ _ l1 (l.frame _ _ _ M λc a o e=>(g.2 c λq=>S.z1 (q ▸ a)).trans e) λx I R G db f=>J7 (J7 ?_)))));have m:S2 k I:=j.frame _ _ _ L λc b o e=>(f.2 c λq=>S.o2 (q ▸ b)).trans ((g.2 c λq=>S.z2 (q ▸ b)).trans e);refine J0 (J0 (JW (J0 (j.item k _ _ _ l2 m λy i D py K d=>J7 (J7 (J7 ?_))))));refine J0 (wpAny_newTuple (J7 ⟨_,rfl,?_⟩) (hsz:=by show 2<=sizeLine;decide));have sz:i.objs.size=s.heap.objs.size:=by rw[d.1,f.1,g.1]
 show Q (.ref i.objs.size) _;rw[sz];have p:IsZipN i z TI TO t true:=(d.2 z B).trans ((f.2 z C).trans u);have new:(i.push { cls:=.type "tuple",data:=.seq #[x,y] }).get? s.heap.objs.size=some { cls:=.type "tuple",data:=.seq #[x,y] }:=by rw[<- sz];exact JA _ rfl
 refine h x y _ D G py (J6 _ p) ?_ ?_ new λc o a e=>?_
 ·exact l.frame _ _ _ db λc b o e=>J6 _ ((d.2 c λq=>S.o1 (q ▸ b)).trans e)
 ·exact j.frame _ _ _ K λc b o e=>J6 _ e
 ·simp only[Ja,Jc,JG,Z6]at a
  exact J6 _ ((d.2 c a.2.2.2).trans ((f.2 c a.2.2.1).trans ((g.2 c a.1).trans e)))
theorem tD {t:Addr}{c:Bool}{o:Obj}(S:Sep z TI TO i1 i2 f1 f2) (d:Draws prog w A i1 f1 n1 P1 S1) {Q:Fin->Shared->Prop}(hz:IsZipN s.heap z TI TO t c) (g:s.heap.get? t=some o) (k:IsPair s.heap TI (.ref i1) (.ref i2)) (l:S1 n1 s.heap)
  (h:∀ h' x,(∀ c o,c∉[z,TO,i1,i2]->s.heap.get? c=some o->h'.get? c=some o)->(∃ o,h'.get? x=some o/\o.cls=.type "StopIteration")->E (.ref x) { s with heap:=h' }):wpAny (model prog w) A (Builtin.«zip.__next__» ⟨[.ref z],[]⟩) Q E s:=by
 refine rf 2 hz rfl rfl (rf 3 hz rfl rfl (J0 (Y3 k rfl (vq hz g λn m b=>?_))));rw[Jf Jn];refine J0 ?_;simp only[List.forIn_toArray,Yq,YH];refine J0 (J0 (JW (J0 (d.done _ _ _ (d.frame _ _ _ l λc i o e=>(b.2 c λq=>S.z1 (q ▸ i)).trans e) λj x f ex=>?_))));refine h j x (λc o a e=>?_) ex;simp only[Ja,Jc,JG,Z6]at a;exact f c o a.2.2.1 ((b.2 c a.1).trans e)
end
theorem tE:typeLookup (.type "zip") "__len__" = pure none:=by rw[typeLookup_type,builtinLookup_eq_fast];kernel_rfl
theorem vp:typeLookup (.type "zip") "__length_hint__" = pure none:=by rw[typeLookup_type,builtinLookup_eq_fast];kernel_rfl
def ZSt (z TI TO i1 i2:Addr)(e d:Nat->Heap->Prop)(k:Nat)(acc:Array Value)(h:Heap):Prop :=
 IsPair h TI (.ref i1) (.ref i2)/\e k h/\d k h/\((k=0/\IsZip h z TI TO .none/\∃ a b,IsPair h TO a b)\/(1<=k/\∃ t c,acc[0]?=some (.ref t)/\IsZipN h z TI TO t c))
def Kept (a:List Addr)(c b:Nat->Value->Prop)(acc:Array Value)(h:Heap):Prop:=∀ j v,acc[j]?=some v->∃ t x y,v=.ref t/\t∉a/\IsPair h t x y/\c j x/\b j y
section
variable {prog:Program}{w:World}{A:Around}{E:Value->Shared->Prop}{s:Shared}{z TI TO i1 i2 L:Addr}{f1 f2:List Addr}{n n2 k:Nat}{P1 P2:Nat->Value->Prop}{S1 S2:Nat->Heap->Prop}
theorem gv {acc:Array Value}(S:Sep z TI TO i1 i2 f1 f2)(M:Draws prog w A.in1 i1 f1 n P1 S1)(J:Draws prog w A.in1 i2 f2 n2 P2 S2)(hle:n<=n2){Q:Option Value->Shared->Prop}(Z:ZSt z TI TO i1 i2 S1 S2 k acc s.heap)(K:Kept [z,TI,TO,i1,i2,L] P1 P2 acc s.heap)(ha:acc.size=k)(hL:L<s.heap.objs.size)(O:TO<s.heap.objs.size)(U:k<n)(h:∀ h' tk x y,P1 k x->P2 k y->IsPair h' s.heap.objs.size x y->ZSt z TI TO i1 i2 S1 S2 (k+1) (acc.push (.ref s.heap.objs.size)) h'->Kept [z,TI,TO,i1,i2,L] P1 P2 (acc.push (.ref s.heap.objs.size)) h' ->
   (∀ c o,c∉[z,TO,i1,i2]->s.heap.get? c=some o->h'.get? c=some o)->Q (some (.ref s.heap.objs.size)) { s with heap:=h',toks:=tk }):wpAny (model prog w) A (pyNext (.ref z)) Q E s:=by
 obtain⟨r,I,H,st⟩:=Z;have T:=S.all;simp only[JP,Ja,Jc,JG,Z6]at T;obtain⟨⟨P,zO,z1,z2⟩,⟨IO,X,W⟩,⟨O1,O2⟩,aa,_⟩:=T;obtain⟨o1,e1⟩:=M.live _ _ I;obtain⟨o2,e2⟩:=J.live _ _ H
 have old:∀ h':Heap,(∀ c o,c∉[z,TO,i1,i2]->s.heap.get? c=some o->h'.get? c=some o)->∀ x y,IsPair h' s.heap.objs.size x y->P1 k x->P2 k y->(∃ R,s.heap.get? z=some R)->TO<s.heap.objs.size->Kept [z,TI,TO,i1,i2,L] P1 P2 (acc.push (.ref s.heap.objs.size)) h':=by
  intro h' f x y new px py ⟨R,ez⟩ lt j v p;by_cases q:j<acc.size
  ·rw[Array.getElem?_push_lt q]at p
   obtain⟨t,x',Y,rfl,G,B,i,g⟩:=K j v ((getElem?_pos acc j q).trans p);refine⟨t,x',Y,rfl,G,f t _ (λm=>G ?_) B,i,g⟩;simp only[Ja,Jc,JG]at m ⊢;rcases m with m|m|m|m<;>simp[m]
  ·have jl:j<(acc.push (.ref s.heap.objs.size)).size:=(JK.mp p).1
   rw[Jv]at jl;obtain rfl:j=acc.size:=by lia
   rw[Array.getElem?_push_size]at p;obtain rfl:=Jr p;refine⟨_,x,y,rfl,λm=>?_,new,by rw[ha];exact px,by rw[ha];exact py⟩;simp only[Ja,Jc,JG]at m;have b1:=Jb ez;have b2:=Jb r;have b3:=Jb e1;have b4:=Jb e2;rcases m with m|m|m|m|m|m
   ·exact JQ b1 m
   ·exact JQ b2 m
   ·exact JQ lt m
   ·exact JQ b3 m
   ·exact JQ b4 m
   ·exact JQ hL m
 have first:∀ t,acc[0]?=some (Value.ref t)->(acc.push (.ref s.heap.objs.size))[0]?=some (Value.ref t):=λt e=>by
  have q:=(JK.mp e).1;rw[Array.getElem?_push_lt q];exact(getElem?_pos acc 0 q).symm.trans e
 rcases st with ⟨rfl,l,a,b,V⟩|⟨k1,t,c,B,l⟩
 ·have d:s.TypeIs (.ref z) "zip":=⟨_,l,rfl⟩
  unfold pyNext
  refine J0 (Za (wpAny_callSpecial?_slot (name:="__next__") d YA (Y5 YA d Zx (qI S M J l r V I H U (by lia)
   λx y h' tk i g C Oh F D new f=>J7 ?_) (Zu _))))
  have u:acc = #[]:=Array.size_eq_zero_iff.mp ha;subst u;exact h h' tk x y i g new ⟨f TI _ (by simp[Ne.symm P,IO,X,W]) r,F,D,.inr ⟨by lia,s.heap.objs.size,false,rfl,C⟩⟩ (old h' f x y new i g ⟨_,l⟩ (Jb V)) f
 ·have d:s.TypeIs (.ref z) "zip":=⟨_,l,rfl⟩
  obtain⟨t',x0,y0,et,G,N,_,_⟩:=K 0 _ B;cases et;unfold pyNext
  refine J0 (Za (wpAny_callSpecial?_slot (name:="__next__") d YA (Y5 YA d Zx (n5 S M J l N r I H U (by lia)
   λx y h' tk i g C F D new f=>J7 ?_) (Zu _))))
  exact h h' tk x y i g new ⟨f TI _ (by simp[Ne.symm P,IO,X,W]) r,F,D,.inr ⟨by lia,t,true,first t B,C⟩⟩ (old h' f x y new i g ⟨_,l⟩ O) f
theorem iJ {acc:Array Value}(S:Sep z TI TO i1 i2 f1 f2)(l:Draws prog w A.in1 i1 f1 n P1 S1){Q:Option Value->Shared->Prop}(Z:ZSt z TI TO i1 i2 S1 S2 n acc s.heap)(K:Kept [z,TI,TO,i1,i2,L] P1 P2 acc s.heap)(h:∀ h',(∀ c o,c∉[z,TO,i1,i2]->s.heap.get? c=some o->h'.get? c=some o)->Q none { s with heap:=h' }):wpAny (model prog w) A (pyNext (.ref z)) Q E s:=by
 obtain⟨j,k,C,st⟩:=Z;rcases st with ⟨rfl,e,a,b,B⟩|⟨y,t,c,m,e⟩
 ·have d:s.TypeIs (.ref z) "zip":=⟨_,e,rfl⟩
  unfold pyNext;refine J0 (Za (wpAny_callSpecial?_slot (name:="__next__") d YA (Y5 YA d Zx (qH S l e j k λh' x f ⟨o,g,co⟩=>?_) (Zu _))));exact J0 (Zw (T:="StopIteration") (b:=true) ⟨o,g,co⟩ isSubtype_stop (J7 (h h' f)))
 ·have d:s.TypeIs (.ref z) "zip":=⟨_,e,rfl⟩
  obtain⟨u,r,q,p,v,i,_,_⟩:=K 0 _ m;cases p;unfold pyNext;refine J0 (Za (wpAny_callSpecial?_slot (name:="__next__") d YA (Y5 YA d Zx (tD S l e i j k λh' x f ⟨o,g,co⟩=>?_) (Zu _))));exact J0 (Zw (T:="StopIteration") (b:=true) ⟨o,g,co⟩ isSubtype_stop (J7 (h h' f)))
theorem ng {res:Value}{R:Result->Shared->Prop}{J:Array Value->Shared->Prop}(S:Sep z TI TO i1 i2 f1 f2)(N:Draws prog w A.in1.in1 i1 f1 n P1 S1)(D2:Draws prog w A.in1.in1 i2 f2 n2 P2 S2)(hle:n<=n2)(U:L∉[z,TI,TO,i1,i2]++f1++f2)(hn:n<=sizeLine)(jn:∀ (acc:Array Value) (s:Shared) (h':Heap) tk x y,J acc s->L<s.heap.objs.size->P1 acc.size x->P2 acc.size y->IsPair h' s.heap.objs.size x y->(∀ c o,c∉[z,TO,i1,i2]->s.heap.get? c=some o->h'.get? c=some o)->J (acc.push (.ref s.heap.objs.size)) { s with heap:=h',toks:=tk })(V:∀ (acc:Array Value) (s:Shared) (h':Heap) tk,J acc s->(∀ c o,c∉[z,TO,i1,i2,L]->s.heap.get? c=some o->h'.get? c=some o)->J acc { s with heap:=h',toks:=tk }) :
  ∀ (m k:Nat) (s:Shared) (acc:Array Value) (c:Nat),k+m=n->acc.size=k->ZSt z TI TO i1 i2 S1 S2 k acc s.heap->Kept [z,TI,TO,i1,i2,L] P1 P2 acc s.heap->s.heap.get? L=some { cls:=.type "list",dict:=none,data:=.seq acc c,slots:=#[] }->TO<s.heap.objs.size->J acc s ->
   (∀ h' tk a r,a.size=n->J a { s with heap:=h',toks:=tk }->Kept [z,TI,TO,i1,i2,L] P1 P2 a h'->h'.get? L=some { cls:=.type "list",dict:=none,data:=.seq a r,slots:=#[] }->(∀ b o,b∉[z,TO,i1,i2,L]->s.heap.get? b=some o->h'.get? b=some o)->R (.ok (.ret res)) { s with heap:=h',toks:=tk }) ->
   codeAny (model prog w) A (.builtin "list.extend.loop" ⟨[.ref L,.ref z,res],[]⟩) R s:=by
 simp only[Ju,Ja,Jc,JG,Z6]at U;obtain⟨⟨⟨M,LI,X,Y,L2⟩,T⟩,Q⟩:=U;intro m
 induction m with
 | zero =>
  intro k s acc c km h Z K B i E fin;obtain rfl:k=n:=by lia
  refine ZE F.entry_extend_loop (by
   refine Zg ZK _ ▸ (show wpAny _ A.in1 (pyNext (.ref z) >>= _) _ _ _ from J0 (iJ S N Z K λh' g=>?_));refine J7 (fin h' s.toks acc c h (V acc s h' s.toks E λc o H e=>g c o (λm=>H (by simp only[Ja,Jc,JG]at m ⊢;rcases m with m|m|m|m<;>simp[m])) e) (λj v G=>?_) (g L _ (by simp[M,X,Y,L2]) B) λb o f e=>g b o (λm=>f ?_) e)
   ·obtain⟨t,x,y,rfl,l,p,D,C⟩:=K j v G
    refine⟨t,x,y,rfl,l,g t _ (λm=>l ?_) p,D,C⟩;simp only[Ja,Jc,JG]at m ⊢;rcases m with m|m|m|m<;>simp[m]
   ·simp only[Ja,Jc,JG]at m ⊢
    rcases m with m|m|m|m<;>simp[m])
 | succ m ih =>
  intro k s acc c km h Z K B i E fin;have W:=Jb B
  refine ZE F.entry_extend_loop (by
   refine Zg ZK _ ▸ (show wpAny _ A.in1 (pyNext (.ref z) >>= _) _ _ _ from J0 (gv (L:=L) S N D2 hle Z K h W i (by lia) λI tk x y px py new Z1 K1 g=>?_));have u:=g L _ (by simp[M,X,Y,L2]) B;show wpAny _ A.in1 (updateSeq L (·.push (.ref s.heap.objs.size)) >>= _) _ _ _;refine J0 (ZF u rfl ?_ (hz:=by rw[h];lia) (_hz':=by rw[Jv,h];lia));have d:∀ b o,b≠L->I.get? b=some o->(I.update L (Obj.mapSeq (·.push (.ref s.heap.objs.size)))).get? b=some o:=λb o f e=>(Yr _ _ (Ne.symm f)).trans e;obtain⟨hI,d1,d2,st⟩:=Z1;have P:=YL (Obj.mapSeq (·.push (.ref s.heap.objs.size))) u rfl;refine J7 ⟨plainId_quiet ZK _,ih (k+1) _ (acc.push (.ref s.heap.objs.size)) _ (by lia) (by rw[Jv,h]) ⟨d _ _ (Ne.symm LI) hI,N.frame _ _ _ d1 λb f o e=>d b o (λq=>T (q ▸ f)) e,D2.frame _ _ _ d2 λb f o e=>d b o (λq=>Q (q ▸ f)) e,?_⟩ (λj v G=>?_) P ?_ (V _ _ _ tk (jn acc s I tk x y E W (by rw[h];exact px) (by rw[h];exact py) new g) λc o H e=>d c o (λq=>H (by simp[q])) e) λh' O a r a1 j1 a2 a3 a4=>fin h' O a r a1 j1 a2 a3 λb o f e=>a4 b o f ?_⟩
   ·rcases st with ⟨q,_⟩|⟨q,t,r,e,hz⟩
    ·lia
    ·exact .inr ⟨q,t,r,e,d _ _ (Ne.symm M) hz⟩
   ·obtain⟨t,x,y,rfl,l,p,D,C⟩:=K1 j v G
    exact⟨t,x,y,rfl,l,d t _ (λq=>l (by simp[q])) p,D,C⟩
   ·rw[Heap.size_update]
    obtain⟨t,x,y,e,_,p,_,_⟩:=K1 acc.size _ Array.getElem?_push_size;cases e;exact Z3 i (Jb p)
   ·simp only[Ja,Jc,JG,Z6]at f
    exact d b o f.2.2.2.2 (g b o (by simp[f]) e))
theorem o8 {Q:List Value->Shared->Prop}{J:Array Value->Shared->Prop}(S:Sep z TI TO i1 i2 f1 f2)(r:Draws prog w A.in1.in1 i1 f1 n P1 S1)(q:Draws prog w A.in1.in1 i2 f2 n2 P2 S2)(hle:n<=n2)(hz:IsZip s.heap z TI TO .none)(u:IsPair s.heap TI (.ref i1) (.ref i2)){a b:Value}(p:IsPair s.heap TO a b)(C:S1 0 s.heap)(B:S2 0 s.heap)(low:∀ c∈f1++f2,c<s.heap.objs.size)(hn:n<=sizeLine)(I:∀ (acc:Array Value) (f:Shared) (h':Heap) tk x y,J acc f->s.heap.objs.size<f.heap.objs.size->P1 acc.size x->P2 acc.size y->IsPair h' f.heap.objs.size x y->(∀ c o,c∉[z,TO,i1,i2]->f.heap.get? c=some o->h'.get? c=some o)->J (acc.push (.ref f.heap.objs.size)) { f with heap:=h',toks:=tk })(t:∀ (acc:Array Value) (f:Shared) (h':Heap) tk,J acc f->(∀ c o,c∉[z,TO,i1,i2,s.heap.objs.size]->f.heap.get? c=some o->h'.get? c=some o)->J acc { f with heap:=h',toks:=tk })(M:J #[] s)(h:∀ h' tk (acc:Array Value),acc.size=n->J acc { s with heap:=h',toks:=tk }->Kept [z,TI,TO,i1,i2,s.heap.objs.size] P1 P2 acc h'->(∀ b o,b∉[z,TO,i1,i2]->s.heap.get? b=some o->h'.get? b=some o)->s.heap.objs.size<h'.objs.size->Q acc.toList { s with heap:=h',toks:=tk }):wpAny (model prog w) A (collect (.ref z)) Q E s:=by
 obtain⟨V,O⟩:=r.live _ _ C;obtain⟨U,e2⟩:=q.live _ _ B
 have G:s.heap.objs.size∉[z,TI,TO,i1,i2]++f1++f2:=λm=>by
  simp only[Ju,Ja,Jc,JG]at m;rcases m with ((m|m|m|m|m)|m)|m
  ·exact JQ (Jb hz) m
  ·exact JQ (Jb u) m
  ·exact JQ (Jb p) m
  ·exact JQ (Jb O) m
  ·exact JQ (Jb e2) m
  ·exact Yp _ (low _ (YB _ m))
  ·exact Yp _ (low _ (Jy _ m))
 have l:∀ c o,s.heap.get? c=some o->(s.heap.push (seqObj "list" #[] 0)).get? c=some o:=λc o e=>J6 _ e;have i:Shared.TypeIs ({ s with heap:=s.heap.push (seqObj "list" #[] 0) }:Shared) (.ref z) "zip":=⟨_,l _ _ hz,rfl⟩;have new:(s.heap.push (seqObj "list" #[] 0)).get? s.heap.objs.size=some (seqObj "list" #[] 0):=JA _ rfl;unfold collect;refine J0 (wpAny_runValue (ZE entry_proto_collect' (Zg F.plain_proto_collect _ ▸ (J0 (wpAny_newList (J7 ⟨Code.quiet_builtin _ (by decide +kernel),ZE entry_list_iadd' (Zg F.plain_list_iadd _ ▸ ?_)⟩))))));show wpAny _ A.in1 (Builtin.List.listExtendWith (.ref s.heap.objs.size) (.ref z) (.ref s.heap.objs.size)) _ _ ({ s with heap:=s.heap.push (seqObj "list" #[] 0) }:Shared);unfold Builtin.List.listExtendWith;refine J0 (YG i ?_)
 have no:(Builtin.List.listSameRef (.ref s.heap.objs.size) (.ref z) || Value.type "zip" == Value.type "list" || Value.type "zip" == Value.type "tuple")=false:=by
  have:Builtin.List.listSameRef (.ref s.heap.objs.size) (.ref z)=false:=by simp[Builtin.List.listSameRef,JQ (Jb hz)]
  rw[this];decide
 rw[no,Jf Jn];refine J0 (wpAny_pyIter_zip (l _ _ hz) (J0 (JW ?_)));unfold Builtin.List.listLengthHint;refine J0 (ZD i tE ?_);show wpAny _ A.in1 (specialOf (Value.ref z) (Str.ofString "__length_hint__") >>= _) _ _ _;refine J0 (ZD i vp (J7 ?_));refine J0 (YD (J0 ?_));unfold Builtin.List.listTouch Builtin.List.listUpdate;refine J0 (ZF new rfl ?_);have n2:=YL (Obj.mapSeq (·.push Value.none)) new rfl;refine ZF n2 rfl ?_;have H:=YL (Obj.mapSeq (·.pop)) n2 rfl
 have d:∀ b o,s.heap.get? b=some o->(((s.heap.push (seqObj "list" #[] 0)).update s.heap.objs.size (Obj.mapSeq (·.push Value.none))).update s.heap.objs.size (Obj.mapSeq (·.pop))).get? b=some o :=
  λb o e=>by
   have g:=JQ (Jb e);exact(Yr _ _ g).trans ((Yr _ _ g).trans (l b o e))
 refine J7 ⟨plainId_quiet ZK _,ng (J:=J) (L:=s.heap.objs.size) S r q hle G hn I t n 0 _ #[] _ (by lia) rfl ⟨d _ _ u,r.frame _ _ _ C λb _ o e=>d b o e,q.frame _ _ _ B λb _ o e=>d b o e,.inl ⟨rfl,d _ _ hz,_,_,d _ _ p⟩⟩ (λj v N=>by simp at N) H ?_ (t #[] s _ s.toks M λc o _ e=>d c o e) λh' tk k W T K R D P=>?_⟩
 ·rw[Heap.size_update,Heap.size_update,size_push']
  exact ZV (Jb p)
 ·refine J0 (wpAny_load D (J7 (h h' tk k T K R (λb o g e=>P b o (λm=>?_) (d b o e)) (Jb D))))
  simp only[Ja,Jc,JG]at m g;rcases m with m|m|m|m|m
  ·exact g (.inl m)
  ·exact g (.inr (.inl m))
  ·exact g (.inr (.inr (.inl m)))
  ·exact g (.inr (.inr (.inr m)))
  ·exact JQ (Jb e) m.symm
theorem lZ {res:Value}{R:Result->Shared->Prop}{J:Array Value->Shared->Prop}{Q:Nat}(S:Sep z TI TO i1 i2 f1 f2) (F:Draws prog w A.in1.in1 i1 f1 n P1 S1) (E:Draws prog w A.in1.in1 i2 f2 n2 P2 S2) (hle:n<=n2) (hz:IsZip s.heap z TI TO .none) (N:IsPair s.heap TI (.ref i1) (.ref i2)) {a b:Value}(C:IsPair s.heap TO a b) (P:S1 0 s.heap) (O:S2 0 s.heap)
  (D:s.heap.get? L=some (seqObj "list" #[] Q)) (m:L∉[z,TI,TO,i1,i2]++f1++f2) (hn:n<=sizeLine)
  (H:∀ (acc:Array Value) (g:Shared) (h':Heap) tk x y,J acc g->L<g.heap.objs.size->P1 acc.size x->P2 acc.size y->IsPair h' g.heap.objs.size x y->(∀ c o,c∉[z,TO,i1,i2]->g.heap.get? c=some o->h'.get? c=some o)->J (acc.push (.ref g.heap.objs.size)) { g with heap:=h',toks:=tk })
  (B:∀ (acc:Array Value) (g:Shared) (h':Heap) tk,J acc g->(∀ c o,c∉[z,TO,i1,i2,L]->g.heap.get? c=some o->h'.get? c=some o)->J acc { g with heap:=h',toks:=tk })
  (K:J #[] s)
  (h:∀ h' tk d l,d.size=n->J d { s with heap:=h',toks:=tk }->Kept [z,TI,TO,i1,i2,L] P1 P2 d h'->h'.get? L=some (seqObj "list" d l)->R (.ok (.ret res)) { s with heap:=h',toks:=tk }) :
  wpAny (model prog w) A.in1 (Builtin.List.listExtendWith (.ref L) (.ref z) res) (λfin g=>match fin with|.done f=>R (.ok f) g|.again l=>l.quiet=true/\codeAny (model prog w) A l R g) (λe g=>R (.error e) g) s:=by
 have W:L≠z:=λq=>m (by simp[q]);have k:s.TypeIs (.ref z) "zip":=⟨_,hz,rfl⟩;unfold Builtin.List.listExtendWith;refine J0 (YG k ?_)
 have no:(Builtin.List.listSameRef (.ref L) (.ref z) || Value.type "zip" == Value.type "list" || Value.type "zip" == Value.type "tuple")=false:=by
  have:Builtin.List.listSameRef (.ref L) (.ref z)=false:=by simp[Builtin.List.listSameRef,W]
  rw[this];decide
 rw[no,Jf Jn];refine J0 (wpAny_pyIter_zip hz (J0 (JW ?_)));unfold Builtin.List.listLengthHint;refine J0 (ZD k tE ?_);show wpAny _ A.in1 (specialOf (Value.ref z) (Str.ofString "__length_hint__") >>= _) _ _ _;refine J0 (ZD k vp (J7 ?_));refine J0 (YD (J0 ?_));unfold Builtin.List.listTouch Builtin.List.listUpdate;refine J0 (ZF D rfl ?_);have u:=YL (Obj.mapSeq (·.push Value.none)) D rfl;refine ZF u rfl ?_;have G:=YL (Obj.mapSeq (·.pop)) u rfl
 have i:∀ b o,b≠L->s.heap.get? b=some o->((s.heap.update L (Obj.mapSeq (·.push Value.none))).update L (Obj.mapSeq (·.pop))).get? b=some o :=
  λ_ _ away t=>(Yr _ _ (Ne.symm away)).trans ((Yr _ _ (Ne.symm away)).trans t)
 have ne:=λc (p:c∈[z,TI,TO,i1,i2]++f1++f2)=>(λq=>m (q ▸ p):c≠L);refine J7 ⟨plainId_quiet ZK _,ng (J:=J) (L:=L) S F E hle m hn H B n 0 _ #[] _ (by lia) rfl ⟨i _ _ (ne TI (by simp)) N,F.frame _ _ _ P λb r o e=>i b o (ne b (by simp[r])) e,E.frame _ _ _ O λb r o e=>i b o (ne b (by simp[r])) e,.inl ⟨rfl,i _ _ (ne z (by simp)) hz,_,_,i _ _ (ne TO (by simp)) C⟩⟩ (λj v M=>by simp at M) G ?_ (B #[] s _ s.toks K λc o p e=>i c o (λq=>p (by simp[q])) e) λh' tk d l V I U T X=>h h' tk d l V I U T⟩;rw[Heap.size_update,Heap.size_update];exact Jb C
theorem ji {Q:Value->Shared->Prop}{J:Array Value->Shared->Prop}(S:Sep z TI TO i1 i2 f1 f2) (j:Draws prog w A.in1.in1.in1 i1 f1 n P1 S1) (i:Draws prog w A.in1.in1.in1 i2 f2 n2 P2 S2) (hle:n<=n2) (hz:IsZip s.heap z TI TO .none) (q:IsPair s.heap TI (.ref i1) (.ref i2)) {a b:Value}(p:IsPair s.heap TO a b) (u:S1 0 s.heap) (r:S2 0 s.heap)
  (low:∀ c∈f1++f2,c<s.heap.objs.size) (hn:n<=sizeLine)
  (C:∀ (acc:Array Value) (f:Shared) (h':Heap) tk x y,J acc f->s.heap.objs.size<f.heap.objs.size->P1 acc.size x->P2 acc.size y->IsPair h' f.heap.objs.size x y->(∀ c o,c∉[z,TO,i1,i2]->f.heap.get? c=some o->h'.get? c=some o)->J (acc.push (.ref f.heap.objs.size)) { f with heap:=h',toks:=tk })
  (l:∀ (acc:Array Value) (f:Shared) (h':Heap) tk,J acc f->(∀ c o,c∉[z,TO,i1,i2,s.heap.objs.size]->f.heap.get? c=some o->h'.get? c=some o)->J acc { f with heap:=h',toks:=tk })
  (G:J #[] s)
  (h:∀ h' tk d g,d.size=n->J d { s with heap:=h',toks:=tk }->Kept [z,TI,TO,i1,i2,s.heap.objs.size] P1 P2 d h'->h'.get? s.heap.objs.size=some (seqObj "list" d g)->Q (.ref s.heap.objs.size) { s with heap:=h',toks:=tk }):wpAny (model prog w) A (call (.type "list") [.ref z]) Q E s:=by
 obtain⟨P,I⟩:=j.live _ _ u;obtain⟨O,e2⟩:=i.live _ _ r
 have v:s.heap.objs.size∉[z,TI,TO,i1,i2]++f1++f2:=λm=>by
  simp only[Ju,Ja,Jc,JG]at m;rcases m with ((m|m|m|m|m)|m)|m
  ·exact JQ (Jb hz) m
  ·exact JQ (Jb q) m
  ·exact JQ (Jb p) m
  ·exact JQ (Jb I) m
  ·exact JQ (Jb e2) m
  ·exact Yp _ (low _ (YB _ m))
  ·exact Yp _ (low _ (Jy _ m))
 refine callType_codes (Q₁:=λobj t=>obj=.ref s.heap.objs.size/\t={ s with heap:=s.heap.push (seqObj "list" #[] 0) }) F.called_list (F.typeCall_list_1 _) F.entry_list_init (code_list_new _ ⟨rfl,rfl⟩) λobj t H=>?_;obtain⟨rfl,rfl⟩:=H;have new:(s.heap.push (seqObj "list" #[] 0)).get? s.heap.objs.size=some (seqObj "list" #[] 0):=JA _ rfl;have old:∀ c o,s.heap.get? c=some o->((s.heap.push (seqObj "list" #[] 0)).update s.heap.objs.size (Obj.mapSeq (λ_=>(#[]:Array Value)))).get? c=some o:=λc o e=>(Yr _ _ (JQ (Jb e))).trans (J6 _ e);have B:=YL (Obj.mapSeq (λ_=>(#[]:Array Value))) new rfl;refine⟨⟨_,new,rfl⟩,F.args_list_init_2 _ _,?_⟩;show wpAny _ _ (do let k <- Builtin.List.listItems (.ref s.heap.objs.size);Builtin.List.listUpdate (.ref s.heap.objs.size) (λ_=>#[]);letGo k.toList.reverse;Builtin.List.listExtendWith (.ref s.heap.objs.size) (.ref z) .none) _ _ _;refine J0 (m:=Builtin.List.listItems _) ?_;unfold Builtin.List.listItems;refine J0 (Y3 new rfl (J7 ?_));refine J0 (m:=updateSeq _ _) (ZF new rfl (J0 (wpAny_letGo ?_)));refine lZ (A:=A.in1) (J:=J) (L:=s.heap.objs.size) S j i hle (old _ _ hz) (old _ _ q) (old _ _ p) (j.frame _ _ _ u λc _ o e=>old c o e) (i.frame _ _ _ r λc _ o e=>old c o e) B v hn C l (l #[] s _ s.toks G λc o _ e=>old c o e) λh' tk d g N D M K=>?_;exact⟨rfl,h h' tk d g N D M K⟩
end
end Own
namespace Own
open PySem PySem.Spec PyProof.Rows Ts
section
variable {prog:Program}{w:World}{A:Around}{E:Value->Shared->Prop}{s:Shared}
theorem iT {x:Value}{Q:Value->Shared->Prop}
  (h:wpAny (model prog w) A.in1 (collect x) (λvs s1=>∃ (κ:SortKind) (a:Value->Int),vs.length<=10000 /\
   (∀ h':Heap,(∀ c o,s1.heap.get? c=some o->h'.get? c=some o)->2<=vs.length->∀ (b:Around) {Q:SortKind->Shared->Prop}{E:Value->Shared->Prop},Q κ { s1 with heap:=h' }->wpAny (model prog w) b (keyKind' vs.toArray) Q E { s1 with heap:=h' }) /\
   (∀ h':Heap,(∀ c o,s1.heap.get? c=some o->h'.get? c=some o)->∀ (b:Around),b.units<=A.units+8->Cmp prog w b { s1 with heap:=h' } κ (λp=>p.1∈vs) (λp=>a p.1)) /\
   ∀ (h':Heap) (l:Addr) (e:Nat) (out:List Value),s1.heap.objs.size<=l->h'.get? l=some (seqObj "list" out.toArray e)->out.Perm vs->out.Pairwise (λx y=>a x<=a y)->(∀ c o,s1.heap.get? c=some o->h'.get? c=some o)->Q (.ref l) { s1 with heap:=h' }) E s) :
  wpAny (model prog w) A (call (.builtin "sorted") [x]) Q E s:=by
 refine Calls.call_function_entry kind_sorted plain_sorted entry_sorted (args_sorted1 _) ?_;unfold Builtin.«sorted»;refine J0 (m:=checkCount "sorted" 1 1 _) (J7 (J0 (JL h (λvs s1 z=>?_) λ_ _ e=>e)));obtain⟨κ,a,d,n,t,fin⟩:=z;have f:vs.length<=sizeLine:=JR d (by decide);refine J0 (wpAny_newList ?_ (hsz:=f));have new:(s1.heap.push (seqObj "list" vs.toArray 0)).get? s1.heap.objs.size=some (seqObj "list" vs.toArray 0):=JA _ rfl;have up:∀ h':Heap,(∀ c o,c≠s1.heap.objs.size->(s1.heap.push (seqObj "list" vs.toArray 0)).get? c=some o->h'.get? c=some o)->∀ c o,s1.heap.get? c=some o->h'.get? c=some o:=λh' k c o e=>k c o (JB (Jb e)) (J6 _ e);refine J0 (JW (Y5 slot_list_sort ⟨_,new,rfl⟩ entry_list_sort (mR new d κ a (λh' k j=>n h' (up h' k) j _) (λh' k=>t h' (up h' k) _ ?_) λout i g=>⟨_,rfl,?_⟩) (args_list_sort _)))
 ·show A.units+1+1<=A.units+8
  lia
 obtain⟨e,r⟩:=sortedHeap_at (out:=out.toArray) new;refine J7 ⟨_,rfl,fin _ _ e out (Je _) r i g λc o q=>?_⟩;have lt:=Jb q;rw[sortedHeap_old (JB lt) (by rw[size_push'];exact ZV lt)];exact J6 _ q
end
end Own
namespace L2
open PySem PySem.Spec PyProof.Rows Own Ts
inductive Lx (H:Hp):Nat->V->V->Ordering->Prop where
 | int (n:Nat) (i j:Int):Lx H n (.int i) (.int j) (compare i j)
 | row {n:Nat}{a b:Addr}{xs ys:List V}{cs:List Ordering}(ha:H a=some (.tup xs)) (hb:H b=some (.tup ys)) (l1:xs.length=cs.length) (l2:ys.length=cs.length) (h:∀ (i:Nat) u v c,xs[i]?=some u->ys[i]?=some v->cs[i]?=some c->Lx H n u v c) :
   Lx H (n+1) (.ref a) (.ref b) (cs.foldr Ordering.then .eq)
theorem Lx.pair {H:Hp}{n:Nat}{a b:Addr}{l k j h:V}{f d:Ordering}(ha:H a=some (.tup [l,k]))(hb:H b=some (.tup [j,h]))(q:Lx H n l j f)(p:Lx H n k h d):Lx H (n+1) (.ref a) (.ref b) (f.then d):=by
 have e:f.then d=[f,d].foldr Ordering.then .eq:=by cases f<;>cases d<;>rfl
 rw[e];refine .row ha hb rfl rfl λi u v c g m o=>?_;rcases i with _|_|i
 ·cases g;cases m;cases o;exact q
 ·cases g;cases m;cases o;exact p
 ·simp at g
theorem vf:∀ {cs:List Ordering},cs.foldr Ordering.then .eq=.eq↔∀ c∈cs,c=.eq
 | []=>by simp
 | c::cs=>by
  rw[List.foldr_cons];constructor
  ·intro h
   cases c<;>simp[Ordering.then]at h;intro d hd;rcases Ja.mp hd with rfl|a
   ·rfl
   ·exact vf.mp h d a
  ·intro h
   rw[h c JH];exact vf.mpr λd hd=>h d (JE _ hd)
theorem sh:∀ {cs:List Ordering},cs.foldr Ordering.then .eq≠.eq->∃ (k:Nat) (c:Ordering),cs[k]?=some c/\c≠.eq/\cs.foldr Ordering.then .eq=c/\∀ j:Nat,j<k->cs[j]?=some Ordering.eq
 | [],h=>absurd rfl h
 | c::cs,h=>by
  by_cases z:c=.eq
  ·subst z
   have e:(Ordering.eq::cs).foldr Ordering.then .eq=cs.foldr Ordering.then .eq:=rfl;rw[e]at h ⊢;obtain⟨k,d,i,g,f,b⟩:=sh h;refine⟨k+1,d,by simpa using i,g,f,λj a=>?_⟩
   cases j with
   | zero=>rfl
   | succ j=>simpa using b j (by lia)
  ·refine⟨0,c,rfl,z,?_,λj a=>by lia⟩
   rw[List.foldr_cons];cases c<;>first|rfl|exact absurd rfl z
section
variable {X:Cx}
theorem wt (i j:Int):(compare i j == .eq)=decide (i=j)/\(compare i j == .lt)=decide (i<j):=by
 rw[show compare i j=compareOfLessAndEq i j from rfl];unfold compareOfLessAndEq;by_cases b:i<j
 ·rw[Jp b,Jw b,Jq (by lia)];exact⟨rfl,rfl⟩
 ·rw[Jf b,Jq b]
  by_cases a:i=j
  ·rw[Jp a,Jw a];exact⟨rfl,rfl⟩
  ·rw[Jf a,Jq a];exact⟨rfl,rfl⟩
theorem Lx.refl {H:Hp}{n:Nat}{x y:V}{c:Ordering}(h:Lx H n x y c):x=y->c=.eq:=by
 induction h with
 | int n i j =>
  intro e;cases e;have:=(wt i i).1;rw[Jw rfl]at this
  simpa using this
 | @row n a b l k cs g d o m h ih =>
  intro e;cases e;rw[g]at d;cases d;refine vf.mpr λc f=>?_;obtain⟨i,hi⟩:=YM.mp f;have p:=(J9.mp hi).1;exact ih i _ _ c (J8 (by lia)) (J8 (by lia)) hi rfl
theorem jh {pins:List (Addr × Obj)}{σ:St}{H:Hp}{s:Shared}(I:Inv X pins σ H s){n:Nat}{x y:V}{c:Ordering}(h:Lx H n x y c):∀ (A:Around) (u v:Value),A.units+n<cLine->RelV x u->RelV y v->SeqAt.EqAt A s u v (c == .eq):=by
 induction h with
 | int n i j =>
  intro A u v _ p o;have:=j5 (A:=A) (s:=s) (x:=.int j) (y:=.int i) p o rfl rfl;rw[(wt i j).1]
  have e:eqV (.int i) (.int j)=decide (i=j):=by
   show (i == j)=decide (i=j);by_cases z:i=j<;>simp[z]
  rwa [e]at this
 | @row n a b Q P cs F E B w h ih =>
  intro A u v hu p o;cases p;cases o;by_cases M:a=b
  ·subst M
   have:cs.foldr Ordering.then .eq=.eq:=Lx.refl (.row F E B w h) rfl;rw[this];exact SeqAt.EqAt.same _
  ·obtain⟨g,K,Y,_⟩:=I.tuple (SqT.of F)
   obtain⟨f,J,W,_⟩:=I.tuple (SqT.of E);have r:=K.length;have q:=J.length;refine SeqAt.EqAt.of_refs M ?_
   have e:((List.range (min g.toArray.size f.toArray.size)).all (λj=>(cs.getD j .eq) == .eq) && g.toArray.size == f.toArray.size)=(cs.foldr Ordering.then .eq == .eq):=by
    rw[Jj,Jj,<- r,<- q,B,w,beq_self_eq_true,Bool.and_true,Nat.min_self];by_cases z:cs.foldr Ordering.then .eq=.eq
    ·rw[z]
     refine(Yt.mpr λj hj=>?_).trans rfl;have D:=YN.mp hj;rw[JN,J8 D,Option.getD_some,vf.mp z _ (List.getElem_mem D)];rfl
    ·obtain⟨k,d,G,h2,h3,_⟩:=sh z
     have Z:=(J9.mp G).1;rw[h3];have L:(d == Ordering.eq)=false:=by simpa using h2
     rw[L];refine Bool.eq_false_iff.mpr λt=>?_;have:=Yt.mp t k (YN.mpr Z);rw[JN,G,Option.getD_some,L]at this;cases this
   have:=SeqAt.RcAt.tuples (e:=λj=>(cs.getD j .eq) == .eq) Y W (A:=A) (s:=s) (by lia) (λj k1 k2=>?_)
   ·rwa [e]at this
   ·have m:j<Q.length:=by simpa [r] using k1
    have l:j<P.length:=by simpa [q] using k2
    obtain⟨S,e1,U⟩:=K.get (J8 m);obtain⟨R,e2,T⟩:=J.get (J8 l);have O:g.toArray[j]=S:=by simpa using (J9.mp e1).2
    have N:f.toArray[j]=R:=by simpa using (J9.mp e2).2
    have C:j<cs.length:=by lia
    rw[O,N,JN,J8 C,Option.getD_some];exact ih j _ _ _ (J8 m) (J8 l) (J8 C) A.in1 _ _ (by show A.units+1+n<cLine;lia) U T
theorem cn {pins:List (Addr × Obj)}{σ:St}{H:Hp}{s:Shared}(I:Inv X pins σ H s){n:Nat}{x y:V}{c:Ordering}(h:Lx H n x y c):c≠.eq->∀ (A:Around) (u v:Value),A.units+n<cLine->RelV x u->RelV y v->LtAt A s u v (c == .lt):=by
 induction h with
 | int n i j =>
  intro _ A u v _ ⟨P,C⟩ ⟨O,e2⟩;subst C e2;rw[(wt i j).2]
  exact LtAt.ints i j P O
 | @row n a b z w cs ha Z l1 l2 h ih =>
  intro ne A u v hu l g;cases l;cases g;obtain⟨f,F,T,_⟩:=I.tuple (SqT.of ha);obtain⟨e,E,S,_⟩:=I.tuple (SqT.of Z);have W:=F.length;have U:=E.length;obtain⟨k,d,B,D,h3,h4⟩:=sh ne;have kl:=(J9.mp B).1
  have at_:∀ j (t:j<f.toArray.size) (r:j<e.toArray.size),∃ (o:j<z.length) (m:j<w.length),RelV z[j] f.toArray[j]/\RelV w[j] e.toArray[j]:=λj t r=>by
   have q:j<z.length:=by simpa [W] using t
   have p:j<w.length:=by simpa [U] using r
   obtain⟨N,C,R⟩:=F.get (J8 q);obtain⟨M,e2,Q⟩:=E.get (J8 p);have L:f.toArray[j]=N:=by simpa using (J9.mp C).2
   have K:e.toArray[j]=M:=by simpa using (J9.mp e2).2
   rw[L,K];exact⟨q,p,R,Q⟩
  rw[h3];have J:k<f.toArray.size:=by rw[Jj];lia
  have G:k<e.toArray.size:=by rw[Jj];lia
  obtain⟨o,m,l,g⟩:=at_ k J G;refine LtAt.tuples (k:=k) T S (by lia) J G (λj t r Y=>?_) ?_ ?_
  ·obtain⟨o,m,l,g⟩:=at_ j t r
   exact jh I (h j _ _ _ (J8 o) (J8 m) (h4 j Y)) A.in1 _ _ (by show A.units+1+n<cLine;lia) l g
  ·have:=jh I (h k _ _ _ (J8 o) (J8 m) B) A.in1 _ _ (by show A.units+1+n<cLine;lia) l g
   rwa [show (d == Ordering.eq)=false from by simpa using D]at this
  ·exact ih k _ _ _ (J8 o) (J8 m) B D A.in1 _ _ (by show A.units+1+n<cLine;lia) l g
end
def Rk (H:Hp)(xs:List V)(rk:V->Int):Prop:=(∀ x∈xs,∃ i,x=.int i/\rk x=i)\/∃ n,n<=20/\∀ x∈xs,(∃ a f r,x=.ref a/\H a=some (.tup (.int f::r)))/\∀ y∈xs,Lx H n x y (compare (rk x) (rk y))
def vOf:Value->V
 | .int i _=>.int i
 | .ref a=>.ref a
 | _=>.non
theorem sZ:∀ {xs:List V}{us:List Value},Vals xs us->(∀ x∈xs,(∃ i,x=.int i)\/∃ a,x=.ref a)->xs=us.map vOf/\∀ u∈us,RelV (vOf u) u
 | _,_,.nil,_=>⟨rfl,λu g=>by simp at g⟩
 | x::xs,u::us,.cons r rs,h=>by
  obtain⟨e,f⟩:=sZ rs λy c=>h y (JE _ c)
  have one:vOf u=x/\RelV (vOf u) u:=by
   rcases h x JH with ⟨i,rfl⟩|⟨a,rfl⟩
   ·obtain⟨t,rfl⟩:=r;exact⟨rfl,t,rfl⟩
   ·cases r;exact⟨rfl,rfl⟩
  refine⟨by rw[Yd,one.1,<- e],λv d=>?_⟩;rcases Ja.mp d with rfl|b
  ·exact one.2
  ·exact f v b
theorem tG:∀ {us:List Value},(∀ u∈us,RelV (vOf u) u)->Vals (us.map vOf) us
 | [],_=>.nil
 | u::us,h=>.cons (h u JH) (tG λv a=>h v (JE _ a))
theorem Rk.kinds {H:Hp}{xs:List V}{rk:V->Int}(h:Rk H xs rk):∀ x∈xs,(∃ i,x=.int i)\/∃ a,x=.ref a:=λx b=>by
 rcases h with h|⟨n,_,h⟩
 ·obtain⟨i,e,_⟩:=h x b;exact .inl ⟨i,e⟩
 ·obtain⟨⟨a,_,_,e,_⟩,_⟩:=h x b;exact .inr ⟨a,e⟩
section
variable {prog:Program}{w:World}{A:Around}{E:Value->Shared->Prop}{s:Shared}
theorem jN {u v:Value}{b:Bool}{Q:Bool->Shared->Prop}(l:LtAt A s u v b)(h:Q b s):wpAny (model prog w) A (oneLt' false u v) Q E s:=by
 rw[oneLt'_eq,Jf Jn];exact J0 (l prog w _ _ (YQ h))
theorem gR {Q:Bool->Shared->Prop}(cs:List Ordering):∀ (us vs:List Value) (i:Nat),us.length=cs.length->vs.length=cs.length->(∀ (j:Nat) u v c,us[j]?=some u->vs[j]?=some v->cs[j]?=some c->SeqAt.EqAt A s u v (c == .eq)/\(c≠.eq->LtAt A s u v (c == .lt))) ->
  (i=0->∀ u v c,us[0]?=some u->vs[0]?=some v->cs[0]?=some c->∃ a b t t',u=.int a t/\v=.int b t'/\c=compare a b)->Q (cs.foldr Ordering.then .eq == .lt) s->PySem.W.KatLex prog w A true false Q (us.zip vs) i s:=by
 induction cs with
 | nil =>
  intro us vs i d f _ _ q;rw[List.length_eq_zero_iff.mp d]
  exact PySem.W.kat_nil q
 | cons c cs ih =>
  intro us vs i d f h n q
  obtain⟨u,us,rfl⟩:∃ u l,us=u::l:=by
   cases us with
   | nil=>simp at d
   | cons u us=>exact⟨u,us,rfl⟩
  obtain⟨v,vs,rfl⟩:∃ v k,vs=v::k:=by
   cases vs with
   | nil=>simp at f
   | cons v vs=>exact⟨v,vs,rfl⟩
  have m:=h 0 u v c rfl rfl rfl;refine PySem.W.kat_cons (m.1 prog w _ _ ?_);by_cases z:c=.eq
  ·subst z
   refine PySem.W.kat_yes (ih us vs (i+1) (by simpa using d) (by simpa using f) (λj u v c y x r=>h (j+1) u v c (by simpa using y) (by simpa using x) (by simpa using r)) (λe=>by lia) q)
  ·have p:(c == Ordering.eq)=false:=by simpa using z
   have e2:(c::cs).foldr Ordering.then .eq=c:=by
    rw[List.foldr_cons];cases c<;>first|rfl|exact absurd rfl z
   rw[e2]at q;rw[p];refine PySem.W.kat_no ?_;by_cases g:i=0
   ·obtain⟨a,b,t,t',rfl,rfl,o⟩:=n g u v c rfl rfl rfl
    subst g;rw[o,(wt a b).2]at q;exact oneLt_int q
   ·have:(true && i == 0)=false:=by simpa using g
    rw[this];exact jN (m.2 z) q
end
section
variable {X:Cx}
theorem aJ {pins:List (Addr × Obj)}{σ:St}{H:Hp}{s1:Shared}(I:Inv X pins σ H s1)(s:X.A.units+64<cLine){xs:List V}{vs:List Value}{rk:V->Int}(r:Vals xs vs)(R:Rk H xs rk) :
  ∃ κ:SortKind,(∀ h':Heap,(∀ c o,s1.heap.get? c=some o->h'.get? c=some o)->2<=vs.length->∀ (l:Around) {Q:SortKind->Shared->Prop}{E:Value->Shared->Prop},Q κ { s1 with heap:=h' }->wpAny (model X.prog X.w) l (keyKind' vs.toArray) Q E { s1 with heap:=h' }) /\
   (∀ h':Heap,(∀ c o,s1.heap.get? c=some o->h'.get? c=some o)->∀ (l:Around),l.units<=X.A.units+8->Cmp X.prog X.w l { s1 with heap:=h' } κ (λp=>p.1∈vs) (λp=>rk (vOf p.1))):=by
 obtain⟨ex,rel⟩:=sZ r R.kinds;have mem:∀ u∈vs,vOf u∈xs:=λu s=>by rw[ex];exact JJ.mpr ⟨u,s,rfl⟩
 rcases R with R|⟨n,hn,R⟩
 ·have z:∀ u∈vs,∃ i t,u=.int i t/\rk (vOf u)=i:=λu s=>by
   obtain⟨i,e,ei⟩:=R _ (mem u s);have ru:=rel u s;rw[e]at ru;obtain⟨t,rfl⟩:=ru;exact⟨i,t,rfl,ei⟩
  refine⟨oneType',λh' k Z l Q E q=>PySem.W.kas_kind Z (T:=.type "int") (λv d=>?_) (by decide) (by decide) q,λh' k l _=>⟨λx y S J Q E q=>?_⟩⟩
  ·obtain⟨i,t,rfl,_⟩:=z v d
   exact PySem.W.Looks.of_pure rfl
  ·obtain⟨P,x2⟩:=x
   obtain⟨G,y2⟩:=y;obtain⟨i,t,w,D⟩:=z P S;obtain⟨j,t',e2,Y⟩:=z G J;simp only at q;rw[D,Y]at q;subst w e2;show wpAny _ _ (keyLt' oneType' (.int i t) (.int j t')) _ _ _;rw[keyLt'_oneType];exact oneLt_int q
 ·refine⟨tuples' (Value.type "int" != Value.type "tuple"),λh' k Z l Q E q=>?_,λh' k l hA=>⟨λx y S J Q E q=>?_⟩⟩
  ·have F:Inv X pins σ H { s1 with heap:=h',toks:=s1.toks }:=I.kept k
   have kt:∀ C:List Value,(∀ u∈C,vOf u∈xs/\RelV (vOf u) u)->∃ fs,PySem.W.KatTups h' C fs/\fs.length=C.length/\∀ f∈fs,∃ i t,f=Value.int i t:=by
    intro C
    induction C with
    | nil=>intro _;exact⟨[],PySem.W.KatTups.nil,rfl,λf K=>by simp at K⟩
    | cons u C ih =>
     intro h;obtain⟨fs,k1,k2,k3⟩:=ih λv d=>h v (JE _ d);obtain⟨m1,D⟩:=h u JH;obtain⟨⟨a,f,rr,e,U⟩,_⟩:=R _ m1;rw[e]at D;cases D;obtain⟨A,g,⟨o,eo,co,no,dt⟩,_⟩:=F.tuple (SqT.of U);obtain⟨f0,ef,⟨t0,rfl⟩⟩:=g.get (i:=0) (x:=.int f) rfl
     exact⟨_,PySem.W.KatTups.cons eo co dt (by simpa using ef) k1,by rw[Ya,Ya,k2],λf' K=>by
      rcases Ja.mp K with rfl|K
      ·exact⟨_,_,rfl⟩
      ·exact k3 f' K⟩
   obtain⟨fs,k1,k2,k3⟩:=kt vs λu s=>⟨mem u s,rel u s⟩;refine PySem.W.kat_kind (T:=.type "int") k1 (by lia) (λv d=>?_) (by decide) q;obtain⟨i,t,rfl⟩:=k3 v d;exact PySem.W.Looks.of_pure rfl
  ·have F:Inv X pins σ H { s1 with heap:=h',toks:=s1.toks }:=I.kept k
   obtain⟨P,x2⟩:=x;obtain⟨G,y2⟩:=y;have rx:=rel P S;have ry:=rel G J;obtain⟨⟨a,f,xr,ea,U⟩,lx⟩:=R _ (mem P S);obtain⟨⟨b,g,yr,eb,hb⟩,_⟩:=R _ (mem G J);have L:=lx _ (mem G J);simp only at q;rw[ea]at rx L q;rw[eb]at ry L q;cases rx;cases ry;generalize hc:compare (rk (V.ref a)) (rk (V.ref b))=c at L;rw[<- (wt (rk (V.ref a)) (rk (V.ref b))).2,hc]at q
   cases L with
   | @row n _ _ ag af cs O N l1 Z hL =>
    rw[U]at O;cases O;rw[hb]at N;cases N;obtain⟨A,g1,⟨o1,ab,ak,ai,ae⟩,_⟩:=F.tuple (SqT.of U);obtain⟨M,g2,⟨o2,aa,aj,ah,ad⟩,_⟩:=F.tuple (SqT.of hb);have m1:=g1.length;have m2:=g2.length;show wpAny _ _ (keyLt' (tuples' true) (.ref a) (.ref b)) _ _ _;refine PySem.W.kat_lt ab ae aa ad ?_;have ds:decide (A.toArray.size<M.toArray.size)=false:=Jq (by rw[Jj,Jj];lia);rw[ds];refine gR cs A M 0 (by lia) (by lia) (λj u v c m d B=>?_) (λ_ u v c m d B=>?_) q
    ·have j1:j<(V.int f::xr).length:=by have:=(J9.mp m).1;lia
     have j2:j<(V.int g::yr).length:=by have:=(J9.mp d).1;lia
     obtain⟨u',w,q1⟩:=g1.get (J8 j1);obtain⟨v',e2,q2⟩:=g2.get (J8 j2);rw[m]at w;obtain rfl:=Jr w;rw[d]at e2;obtain rfl:=Jr e2;have W:=hL j _ _ c (J8 j1) (J8 j2) B;exact⟨jh F W l _ _ (by lia) q1 q2,λne=>cn F W ne l _ _ (by lia) q1 q2⟩
    ·obtain⟨u',w,t1,D⟩:=g1.get (i:=0) (x:=.int f) rfl
     obtain⟨v',e2,t2,Y⟩:=g2.get (i:=0) (x:=.int g) rfl;rw[m]at w;obtain rfl:=Jr w;rw[d]at e2;obtain rfl:=Jr e2;have W:=hL 0 (.int f) (.int g) c rfl rfl B;cases W;exact⟨f,g,t1,t2,D,Y,rfl⟩
end
def Zip2 (H:Hp)(ts xs ys:List V):Prop:=ts.length=xs.length/\∀ (i:Nat) t,ts[i]?=some t->∃ a x y,t=.ref a/\xs[i]?=some x/\ys[i]?=some y/\H a=some (.tup [x,y])
def kD (K:PySem.W.Frag)(n m:Bool)(k:TA):TE:=λσ H Q=>k σ H λj g=>∃ i h b d,j=[.ref i,.ref h]/\SqB n K g i b/\SqB m K g h d/\d.length=b.length/\b.length<=10000 /\
 ∀ e a,Same g a->Zip2 a e b d->∃ f,Rk a e f/\∀ l c,a l=none->c.Perm e->c.Pairwise (λx y=>f x<=f y)->Q (.ref l) (upd a l (.lst c))
theorem oU {X:Cx}{a b:Expr}{ta:TA}{p p2 pos g:Pos}(b1 b2:Bool) (hg:Gl X "sorted") (hm:X.mg "sorted" = none) (av:Gl X "zip") (au:X.mg "zip" = none) (d:X.calm=true) (hu:X.A.units+64<cLine) (ha:PA X [a,b] ta)
  (he:starEach [Expr.Call (.Name "zip" p2) [a,b] [] g] X.env=[(false,eval (Expr.Call (.Name "zip" p2) [a,b] [] g) X.env)]:=by rfl)
  (hs:starEach [a,b] X.env=[(false,eval a X.env),(false,eval b X.env)]:=by rfl) (ah:starEach [b] X.env=[(false,eval b X.env)]:=by rfl) :
  PE X (.Call (.Name "sorted" p) [.Call (.Name "zip" p2) [a,b] [] g] [] pos) (kD X.K b1 b2 ta):=by
 intro pins s σ H Q I h;refine YV (xJ I hg hm (u:=.builtin "sorted") (by rfl) (PyProof.Rows.callWith_builtin1 ?_ he rfl));rw[he];show wpAny _ _ (spliced ((false,eval (Expr.Call (.Name "zip" p2) [a,b] [] g) X.env)::[])) _ _ s;refine Calls.spliced_cons ?_;refine Call_ (xJ I av au (u:=.type "zip") (by rfl) (Yf (thn (ha g pins s σ H _ I h) λus s1 ⟨vs,H1,K,r1,q1⟩=>?_) (by rw[hs,ah]) (by rw[ah];rfl)));obtain⟨a1,Z,xs,ys,rfl,aj,ai,hl,hz,q⟩:=q1;obtain⟨u,v,rfl,ru,rv⟩:=r1.two;cases ru;cases rv;obtain⟨f,rx,ad⟩:=K.sq aj;obtain⟨B,ry,ab⟩:=K.sq ai;have lx:=rx.length;have ly:=ry.length;refine callType_new F.called_zip (by decide) (F.typeCall_zip_2 _ _) (F.newCall_zip_2 _ _) (λobj=>F.args_object_init_3 obj _ _) F.entry_zip_new (sY b1 b2 a1 Z f.toArray B.toArray) ⟨ad,ab,λC z ⟨TI,TO,n,k,nd,ao,D,hI,hO,h1,h2⟩ hk=>⟨⟨_,D,rfl⟩,?_⟩⟩;refine Calls.spliced_nil ?_;have I2:Inv X pins σ H1 { s1 with heap:=C,toks:=s1.toks }:=K.kept hk;have fp:∀ c∈[z,TI,TO,n,k],FpOk X pins H1 c:=λc d=>K.fpOk (ao c d) (K.hok.fresh (ao c d));have R:∀ c∈[z,TI,TO,n,k],c≠a1:=λc hm=>K.sq_ne aj (fp c hm);have P:∀ c∈[z,TI,TO,n,k],c≠Z:=λc hm=>K.sq_ne ai (fp c hm);have ae:=nd;simp only[JP,Ja,Jc,JG,Z6]at ae;obtain⟨⟨zI,zO,z1,z2⟩,⟨IO,az,ay⟩,⟨O1,O2⟩,af,_⟩:=ae;have S:Sep z TI TO n k [n,a1] [k,Z]:=⟨nd,by simp[z1,R z (by simp)],by simp[O1,R TO (by simp)],by simp[Ne.symm af,R k (by simp)],by simp[z2,P z (by simp)],by simp[O2,P TO (by simp)],by simp[af,P n (by simp)]⟩;have hd:=K.ok.hd d;have O:SqO b1 C a1 f.toArray:=ad.mv λo e=>hk _ _ e;have N:SqO b2 C Z B.toArray:=ab.mv λo e=>hk _ _ e;have aa:f.toArray.size=B.toArray.size:=by rw[Jj,Jj];lia
 have D1:=draws (prog:=X.prog) (w:=X.w) (A:=X.A.in1.in1.in1) hd b1 n a1 f.toArray (O.ne h1);have D2:=draws (prog:=X.prog) (w:=X.w) (A:=X.A.in1.in1.in1) hd b2 k Z B.toArray (N.ne h2);rw[<- aa]at D2
 have low:∀ c∈[n,a1]++[k,Z],c<C.objs.size:=λc d=>by
  obtain⟨o1,n1,e1,_⟩:=O.ob;obtain⟨o2,n2,e2,_⟩:=N.ob;simp only[List.cons_append,List.nil_append,Ja,Jc,JG]at d;rcases d with rfl|rfl|rfl|rfl
  ·exact Jb h1
  ·exact Jb e1
  ·exact Jb h2
  ·exact Jb e2
 have aw:FpOk X pins H1 C.objs.size:=I2.fpOk (Je _) (I2.hok.fresh (Je _))
 have lows:∀ c∈[z,TO,n,k],c<C.objs.size:=λc d=>by
  simp only[Ja,Jc,JG]at d;rcases d with rfl|rfl|rfl|rfl
  ·exact Jb D
  ·exact Jb hO
  ·exact Jb h1
  ·exact Jb h2
 refine iT (o8 (J:=λacc L=>∃ (j:List Addr) (r:Hp),Inv X pins σ r L/\Same H1 r/\acc.toList=j.map Value.ref/\(∀ (i:Nat) t,j[i]?=some t->∃ x y,xs[i]?=some x/\ys[i]?=some y/\r t=some (.tup [x,y]))/\(∀ c∈[z,TO,n,k,C.objs.size],FpOk X pins r c)) S D1 D2 (Je _) D hI hO ⟨h1,O⟩ ⟨h2,N⟩ low ?_ ?_ ?_ ?_ ?_)
 ·rw[Jj];exact JR (show _<=10000 by lia) (by decide)
 ·rintro acc L am tk x y ⟨j,r,G,sm,E,Y,M⟩ lt px py new kk
  have il:acc.size<xs.length:=by
   have b:acc.size<f.toArray.size:=(JK.mp px).1;have b2:f.toArray.size=f.length:=Jj ..;lia
  obtain⟨u,e1,r1⟩:=rx.get (J8 il);obtain⟨v,e2,r2⟩:=ry.get (J8 (show acc.size<ys.length by lia));have aq:f[acc.size]?=some x:=by simpa using px
  have ap:B[acc.size]?=some y:=by simpa using py
  rw[aq]at e1;obtain rfl:=Jr e1;rw[ap]at e2;obtain rfl:=Jr e2
  have nT:∀ c∈[z,TO,n,k,C.objs.size],c≠L.heap.objs.size:=λc d=>by
   simp only[Ja,Jc,JG]at d;rcases d with rfl|rfl|rfl|rfl|rfl
   ·exact JB (Z3 (Jb D) lt)
   ·exact JB (Z3 (Jb hO) lt)
   ·exact JB (Z3 (Jb h1) lt)
   ·exact JB (Z3 (Jb h2) lt)
   ·exact JB lt
  have ax:∀ c∈[z,TO,n,k],FpOk X pins r c:=λc d=>M c (by simp only[Ja,Jc,JG]at d ⊢;rcases d with m|m|m|m<;>simp[m]);have fr:r L.heap.objs.size=none:=G.fresh;have al:acc.size=j.length:=by rw[<- Jt,E,Jg]
  refine⟨j++[L.heap.objs.size],_,G.spunN (fp:=[z,TO,n,k]) kk ax (Je _) (vn new r1 r2),sm.trans (zD fr _),by rw[Z4,E,JT];rfl,λi t hi=>?_,λc d=>⟨by rw[zJ (nT c d)];exact(M c d).1,(M c d).2⟩⟩;by_cases q:i<j.length
  ·rw[YJ q]at hi
   obtain⟨x',y',W,U,T⟩:=Y i t hi;exact⟨x',y',W,U,zD fr _ _ _ T⟩
  ·have ag:=(J9.mp hi).1
   rw[Jd]at ag;have ar:i=j.length:=by simp at ag;lia
   subst ar;rw[YE (Je _),Nat.sub_self]at hi;obtain rfl:L.heap.objs.size=t:=by simpa using hi
   rw[<- al];exact⟨_,_,J8 il,J8 (show acc.size<ys.length by lia),zB⟩
 ·rintro acc L am tk ⟨j,r,G,sm,E,Y,M⟩ kk
  exact⟨j,r,G.spun (fp:=[z,TO,n,k,C.objs.size]) kk M,sm,E,Y,M⟩
 ·refine⟨[],H1,I2,Same.refl _,rfl,λi t hi=>by simp at hi,λc d=>?_⟩
  simp only[Ja,Jc,JG]at d;rcases d with rfl|rfl|rfl|rfl|rfl
  ·exact fp _ (by simp)
  ·exact fp _ (by simp)
  ·exact fp _ (by simp)
  ·exact fp _ (by simp)
  ·exact aw
 ·rintro am tk acc hn ⟨j,r,G,sm,E,Y,M⟩ _ kk lt
  have tl:j.length=xs.length:=by
   have:acc.toList.length=j.length:=by rw[E,Jg]
   rw[Jt,hn,Jj]at this;lia
  obtain⟨rk,Rr,fin⟩:=q (j.map V.ref) r sm ⟨by rw[Jg];exact tl,λi t hi=>by
   rw[JU]at hi;obtain⟨t',e',rfl⟩:=Yu.mp hi;obtain⟨x,y,W,U,T⟩:=Y i t' e'
   exact⟨t',x,y,rfl,W,U,T⟩⟩
  have vr:Vals (j.map V.ref) acc.toList:=by
   rw[E];clear Y E tl Rr fin
   induction j with
   | nil=>exact .nil
   | cons t j ih=>exact .cons rfl ih
  obtain⟨κ,ak,ac⟩:=aJ G hu vr Rr;refine⟨κ,λu=>rk (vOf u),by rw[Jt,hn,Jj];lia,ak,ac,λh3 l e out lo eo pm so k3=>?_⟩;obtain⟨ex,rel⟩:=sZ vr Rr.kinds;have vo:Vals (out.map vOf) out:=tG λu hu=>rel u (pm.mem_iff.mp hu);refine⟨.ref l,_,G.laid (t':=tk) (o:=.lst (out.map vOf)) k3 lo ⟨?_,out,e,vo,eo⟩,rfl,fin l _ (G.hok.fresh lo) ?_ ?_⟩
  ·rw[Jg,pm.length_eq,Jt,hn,Jj];exact JR (show _<=10000 by lia) (by decide)
  ·rw[ex];exact pm.map vOf
  ·exact List.pairwise_map.mpr so
section
variable {X:Cx}{pins:List (Addr × Obj)}{σ:St}{H:Hp}{s:Shared}
theorem Inv.adopt {T:Addr}{o:HO}(I:Inv X pins σ H s)(d:FpOk X pins H T)(new:ObjOk X.prog X.w (upd H T o) s.heap T o):Inv X pins σ (upd H T o) s:=by
 have a:=d.1
 have J:Inv X pins σ (upd H T o) { s with heap:=s.heap,gens:=s.gens,drawn:=s.drawn,toks:=s.toks }:=by
  refine I.step (ch:=[T]) (λb f=>?_) (λb u _ _ _ e _=>e) (λb u _ _ _ e _=>⟨u.slots,e⟩) (λb u i _ n=>by rw[zJ λq=>i (Js.mpr q)];exact n)
   (λb u _ e=>⟨u,e⟩) (λb g e=>by rw[zJ (zH e a)];exact e) (λb u x e=>by rw[zJ (zH e a)];exact e) (λb j e=>⟨#[],by rw[zJ (zH e a),e];simp⟩) (λm h=>h) (λb u e=>?_) I.bare
  ·have only:=Js.mp f
   subst only;exact⟨d.2.2.2.1,d.2.1,d.2.2.2.2.1,d.2.2.2.2.2⟩
  ·by_cases f:b=T
   ·subst f;rw[zB]at e;cases e;exact new
   ·rw[zJ f]at e
    exact(I.hok b u e).stay (λc v _ q=>q) (λc q=>by rw[zJ (zH q a)];exact q) λc g q=>by rw[zJ (zH q a)];exact q
 exact J
end
def iS (K:PySem.W.Frag)(k j:Bool)(i:TA):TE:=λσ H Q=>i σ H λh c=>∃ g f a d,h=[.ref g,.ref f]/\SqB k K c g a/\SqB j K c f d/\a.length<=d.length/\a.length<=10000 /\
 ∀ l e b,Same c b->c l=none->b l=none->Zip2 b e a d->Q (.ref l) (upd b l (.lst e))
theorem tO {X:Cx}{a b:Expr}{ta:TA}{p p2 pos j:Pos}(b1 W:Bool) (hg:Gl X "list") (hm:X.mg "list" = none) (ar:Gl X "zip") (aq:X.mg "zip" = none) (d:X.calm=true) (ha:PA X [a,b] ta)
  (he:starEach [Expr.Call (.Name "zip" p2) [a,b] [] j] X.env=[(false,eval (Expr.Call (.Name "zip" p2) [a,b] [] j) X.env)]:=by rfl)
  (hs:starEach [a,b] X.env=[(false,eval a X.env),(false,eval b X.env)]:=by rfl) (ag:starEach [b] X.env=[(false,eval b X.env)]:=by rfl) :
  PE X (.Call (.Name "list" p) [.Call (.Name "zip" p2) [a,b] [] j] [] pos) (iS X.K b1 W ta):=by
 intro pins s σ H Q I h;refine YV (xJ I hg hm (u:=.type "list") (by rfl) (Yf ?_ he rfl));rw[he];refine Calls.spliced_cons ?_;refine Call_ (xJ I ar aq (u:=.type "zip") (by rfl) (Yf (thn (ha j pins s σ H _ I h) λus s1 ⟨vs,H1,E,r1,q1⟩=>?_) (by rw[hs,ag]) (by rw[ag];rfl)));obtain⟨Z,Y,xs,ys,rfl,ai,ah,hl,hz,q⟩:=q1;obtain⟨u,v,rfl,ru,rv⟩:=r1.two;cases ru;cases rv;obtain⟨f,rx,ab⟩:=E.sq ai;obtain⟨C,ry,aa⟩:=E.sq ah;have lx:=rx.length;have ly:=ry.length;refine callType_new F.called_zip (by decide) (F.typeCall_zip_2 _ _) (F.newCall_zip_2 _ _) (λobj=>F.args_object_init_3 obj _ _) F.entry_zip_new (sY b1 W Z Y f.toArray C.toArray) ⟨ab,aa,λr z ⟨TI,TO,n,k,nd,ak,R,hI,hO,h1,h2⟩ hk=>⟨⟨_,R,rfl⟩,?_⟩⟩;refine Calls.spliced_nil ?_;have I2:Inv X pins σ H1 { s1 with heap:=r,toks:=s1.toks }:=E.kept hk;have fp:∀ c∈[z,TI,TO,n,k],FpOk X pins H1 c:=λc d=>E.fpOk (ak c d) (E.hok.fresh (ak c d));have P:∀ c∈[z,TI,TO,n,k],c≠Z:=λc hm=>E.sq_ne ai (fp c hm);have O:∀ c∈[z,TI,TO,n,k],c≠Y:=λc hm=>E.sq_ne ah (fp c hm);have ad:=nd;simp only[JP,Ja,Jc,JG,Z6]at ad;obtain⟨⟨zI,zO,z1,z2⟩,⟨IO,az,ay⟩,⟨O1,O2⟩,ae,_⟩:=ad;have S:Sep z TI TO n k [n,Z] [k,Y]:=⟨nd,by simp[z1,P z (by simp)],by simp[O1,P TO (by simp)],by simp[Ne.symm ae,P k (by simp)],by simp[z2,O z (by simp)],by simp[O2,O TO (by simp)],by simp[ae,O n (by simp)]⟩;have hd:=E.ok.hd d;have N:SqO b1 r Z f.toArray:=ab.mv λo e=>hk _ _ e;have M:SqO W r Y C.toArray:=aa.mv λo e=>hk _ _ e;have D1:=draws (prog:=X.prog) (w:=X.w) (A:=X.A.in1.in1.in1) hd b1 n Z f.toArray (N.ne h1);have D2:=draws (prog:=X.prog) (w:=X.w) (A:=X.A.in1.in1.in1) hd W k Y C.toArray (M.ne h2)
 have low:∀ c∈[n,Z]++[k,Y],c<r.objs.size:=λc d=>by
  obtain⟨o1,n1,U,_⟩:=N.ob;obtain⟨o2,n2,e2,_⟩:=M.ob;simp only[List.cons_append,List.nil_append,Ja,Jc,JG]at d;rcases d with rfl|rfl|rfl|rfl
  ·exact Jb h1
  ·exact Jb U
  ·exact Jb h2
  ·exact Jb e2
 have aj:FpOk X pins H1 r.objs.size:=I2.fpOk (Je _) (I2.hok.fresh (Je _));refine ji (J:=λacc G=>∃ (g:List Addr) (B:Hp),Inv X pins σ B G/\Same H1 B/\acc.toList=g.map Value.ref/\(∀ (i:Nat) t,g[i]?=some t->∃ x y,xs[i]?=some x/\ys[i]?=some y/\B t=some (.tup [x,y]))/\(∀ c∈[z,TO,n,k,r.objs.size],FpOk X pins B c)) S D1 D2 (by rw[Jj,Jj];lia) R hI hO ⟨h1,N⟩ ⟨h2,M⟩ low ?_ ?_ ?_ ?_ ?_
 ·rw[Jj];exact JR (show _<=10000 by lia) (by decide)
 ·rintro acc G T tk x y ⟨g,B,Ik,sm,L,ht,D⟩ lt px py new kk
  have il:acc.size<xs.length:=by
   have b:acc.size<f.toArray.size:=(JK.mp px).1;have W:f.toArray.size=f.length:=Jj ..;lia
  obtain⟨u,U,r1⟩:=rx.get (J8 il);obtain⟨v,e2,r2⟩:=ry.get (J8 (show acc.size<ys.length by lia));have ao:f[acc.size]?=some x:=by simpa using px
  have am:C[acc.size]?=some y:=by simpa using py
  rw[ao]at U;obtain rfl:=Jr U;rw[am]at e2;obtain rfl:=Jr e2
  have nT:∀ c∈[z,TO,n,k,r.objs.size],c≠G.heap.objs.size:=λc d=>by
   simp only[Ja,Jc,JG]at d;rcases d with rfl|rfl|rfl|rfl|rfl
   ·exact JB (Z3 (Jb R) lt)
   ·exact JB (Z3 (Jb hO) lt)
   ·exact JB (Z3 (Jb h1) lt)
   ·exact JB (Z3 (Jb h2) lt)
   ·exact JB lt
  have au:∀ c∈[z,TO,n,k],FpOk X pins B c:=λc d=>D c (by simp only[Ja,Jc,JG]at d ⊢;rcases d with m|m|m|m<;>simp[m]);have fr:B G.heap.objs.size=none:=Ik.fresh;have al:acc.size=g.length:=by rw[<- Jt,L,Jg]
  refine⟨g++[G.heap.objs.size],_,Ik.spunN (fp:=[z,TO,n,k]) kk au (Je _) (vn new r1 r2),sm.trans (zD fr _),by rw[Z4,L,JT];rfl,λi t hi=>?_,λc d=>⟨by rw[zJ (nT c d)];exact(D c d).1,(D c d).2⟩⟩;by_cases q:i<g.length
  ·rw[YJ q]at hi
   obtain⟨x',y',ax,aw,av⟩:=ht i t hi;exact⟨x',y',ax,aw,zD fr _ _ _ av⟩
  ·have af:=(J9.mp hi).1
   rw[Jd]at af;have ap:i=g.length:=by simp at af;lia
   subst ap;rw[YE (Je _),Nat.sub_self]at hi;obtain rfl:G.heap.objs.size=t:=by simpa using hi
   rw[<- al];exact⟨_,_,J8 il,J8 (show acc.size<ys.length by lia),zB⟩
 ·rintro acc G T tk ⟨g,B,Ik,sm,L,ht,D⟩ kk
  exact⟨g,B,Ik.spun (fp:=[z,TO,n,k,r.objs.size]) kk D,sm,L,ht,D⟩
 ·refine⟨[],H1,I2,Same.refl _,rfl,λi t hi=>by simp at hi,λc d=>?_⟩
  simp only[Ja,Jc,JG]at d;rcases d with rfl|rfl|rfl|rfl|rfl
  ·exact fp _ (by simp)
  ·exact fp _ (by simp)
  ·exact fp _ (by simp)
  ·exact fp _ (by simp)
  ·exact aj
 ·rintro T tk acc c' an ⟨g,B,Ik,sm,L,ht,D⟩ K a3
  have fL:=D r.objs.size (by simp)
  have tl:g.length=xs.length:=by
   have:acc.size=g.length:=by rw[<- Jt,L,Jg]
   have W:f.toArray.size=f.length:=Jj ..;lia
  have vals:∀ l:List Addr,Vals (l.map V.ref) (l.map Value.ref):=λl=>by
   induction l with
   | nil=>exact .nil
   | cons x l ih=>exact .cons rfl ih
  have new:ObjOk X.prog X.w (upd B r.objs.size (.lst (g.map V.ref))) T r.objs.size (.lst (g.map V.ref)):=⟨by rw[Jg,tl];exact JR hz (by decide),g.map Value.ref,c',vals g,by rw[a3,<- L]⟩;refine⟨.ref _,_,Ik.adopt fL new,rfl,q r.objs.size (g.map V.ref) B sm aj.1 fL.1 ⟨by rw[Jg];exact tl,λi t hi=>?_⟩⟩;rw[JU]at hi;obtain⟨t',et,rfl⟩:=Yu.mp hi;obtain⟨x,y,U,e2,e3⟩:=ht i t' et;exact⟨t',x,y,rfl,U,e2,e3⟩
end L2
namespace L2
open PySem PySem.Spec PyProof.Rows Own
def NIv (H:Hp):KI->V->Prop
 | .inl i,v=>v=.int i
 | .inr xs,v=>∃ b,v=.ref b/\H b=some (.tup (xs.map V.int))
def NIvs (H:Hp):KN->List V->Prop
 | [],vs=>vs=[]
 | k::ks,vs=>∃ v r,vs=v::r/\NIv H k v/\NIvs H ks r
def NKey (H:Hp)(k:KN)(b:Addr):Prop:=∃ a,H b=some (.tup a)/\NIvs H k a
theorem NIvs.tups {H H':Hp}(t:∀ b ys,H b=some (.tup ys)->H' b=some (.tup ys)):∀ {k:KN}{ys:List V},NIvs H k ys->NIvs H' k ys
 | [],_,h=>h
 | .inl i::k,_,h=>by
  obtain⟨v,r,e,c,a⟩:=h
  exact⟨v,r,e,c,NIvs.tups t a⟩
 | .inr f::k,_,h=>by
  obtain⟨v,r,e,⟨b,c,d⟩,a⟩:=h;exact⟨v,r,e,⟨b,c,t _ _ d⟩,NIvs.tups t a⟩
theorem NKey.tups {H H':Hp}(t:∀ b ys,H b=some (.tup ys)->H' b=some (.tup ys)){k:KN}{b:Addr}(h:NKey H k b):NKey H' k b:=by
 obtain⟨ys,c,a⟩:=h;exact⟨ys,t _ _ c,a.tups t⟩
section
variable {P:Program}{w:World}{H:Hp}{h:Heap}
theorem qb (ok:HOk P w H h):∀ {k:KN}{ys:List V}{its:List Value},NIvs H k ys->Vals ys its->NIts P w h k its
 | [],_,its,a,r=>by
  rw[show _=[] from a]at r
  cases r;rfl
 | k::ks,_,its,a,r=>by
  obtain⟨v,q,rfl,g,l⟩:=a
  cases r with
  | @cons _ u _ j c r =>
   refine⟨u,j,rfl,?_,qb ok l r⟩
   cases k with
   | inl i=>rw[show v=.int i from g]at c;exact c
   | inr d =>
    obtain⟨b,rfl,f⟩:=g;refine⟨b,c,?_⟩;have e:d.map V.int=(d.map (Sum.inl:Int->Key)).map kV:=by rw[Zs];rfl
    rw[e]at f;exact eV ok f
theorem xv (ok:HOk P w H h){k:KN}{b:Addr}(a:NKey H k b):NIs P w h k b:=by
 obtain⟨d,e,a⟩:=a;obtain⟨_,c,r,o,i,g,n,f⟩:=(show ObjOk P w H h b (.tup d) from ok b _ e);exact⟨o,c.toArray,n,i,g,f.1,by simpa using qb ok a r⟩
end
abbrev KVN:=List (KN × Addr × V)
def PrN:KN × Addr × V->KN × Addr × Value->Prop:=λp q=>p.1=q.1/\p.2.1=q.2.1/\RelV p.2.2 q.2.2
def xY (xs:KVN)(k:KN):Option V:=(xs.find? λx=>decide (x.1=k)).map (·.2.2)
def xN (xs:KVN)(k:KN)(b:Addr)(v:V):KVN:=if (xY xs k).isSome then xs.map λx=>if x.1=k then (x.1,x.2.1,v) else x else xs++[(k,b,v)]
theorem uA {xs:KVN}{vs:List (KN × Addr × Value)}(r:Paired PrN xs vs)(k:KN):RelO (xY xs k) ((atKey vs k).map (·.2)):=by
 induction r with
 | nil=>exact True.intro
 | @cons p q b a h t ih =>
  unfold xY atKey at ih ⊢;rw[List.find?_cons,List.find?_cons,h.1];by_cases c:q.1=k
  ·rw[Jw c];exact h.2.2
  ·rw[Jq c];exact ih
theorem ko {xs:KVN}{vs:List (KN × Addr × Value)}(r:Paired PrN xs vs)(k:KN){v:V}{u:Value}(a:RelV v u):Paired PrN (xs.map λx=>if x.1=k then (x.1,x.2.1,v) else x) (vs.map (putAt k u)):=by
 induction r with
 | nil=>exact .nil
 | @cons p q d b h t ih =>
  refine .cons ?_ ih;unfold putAt;dsimp only;by_cases c:q.1=k
  ·rw[Jp (h.1.trans c),Jp c];exact⟨h.1,h.2.1,a⟩
  ·rw[Jf (λz=>c (h.1.symm.trans z)),Jf c];exact h
theorem putN_rel {xs:KVN}{vs:List (KN × Addr × Value)}(r:Paired PrN xs vs)(k:KN)(b:Addr){v:V}{u:Value}(a:RelV v u):Paired PrN (xN xs k b v) (storedH vs k b u):=by
 have e:=(uA r k).isSome_eq;rw[Option.isSome_map]at e;unfold xN storedH;rw[<- e];by_cases c:(xY xs k).isSome=true
 ·rw[Jp c,Jp c];exact ko r k a
 ·rw[Jf c,Jf c];exact Paired.snoc r ⟨rfl,rfl,a⟩
theorem wo (xs:KVN)(k:KN)(b:Addr)(v:V):(xN xs k b v).length<=xs.length+1:=by
 unfold xN;split
 ·rw[Jg];lia
 ·rw[Jd];exact Je _
def PhN (P:Program)(w:World)(a:Addr)(xs:KVN):Heap->Prop:=λh=>xs.length<=sizeLine/\(a == sysModules)=false/\∃ b,Paired PrN xs b /\
 ∃ o c d,h.get? a=some o/\o.ExactDict/\o.data=.dict c d/\c.toList=b.map (entryOfKey (yb P w))/\(b.map (·.1)).Nodup
def DN (P:Program)(w:World)(a:Addr)(xs:KVN):HO:=.ext (PhN P w a xs)
def KsIn (H:Hp)(xs:KVN):Prop:=∀ x∈xs,NKey H x.1 x.2.1
theorem KsIn.tups {H H':Hp}{xs:KVN}(t:∀ b ys,H b=some (.tup ys)->H' b=some (.tup ys))(h:KsIn H xs):KsIn H' xs:=λx a=>(h x a).tups t
section
variable {P:Program}{w:World}{H H':Hp}{h h':Heap}{a:Addr}{xs:KVN}
theorem dn_new (z:xs.length<=sizeLine)(hd:(a == sysModules)=false){vs:List (KN × Addr × Value)}(r:Paired PrN xs vs)(d:h'.DictOfH (yb P w) a vs):ObjOk P w H' h' a (DN P w a xs):=by
 obtain⟨o,h,i,b,g,f,e,_,c⟩:=d;refine⟨⟨z,hd,vs,r,o,h,i,b,g,f,e,c⟩,⟨o,b⟩,λk j ⟨z,hd,vs,r,o,h,i,b,g,f,e,c⟩ s=>⟨z,hd,vs,r,o,h,i,s o b,g,f,e,c⟩⟩
theorem sM (ok:HOk P w H h)(e:Rd H a (DN P w a xs))(ks:KsIn H xs):xs.length<=sizeLine/\(a == sysModules)=false/\∃ vs,Paired PrN xs vs/\h.DictOfH (yb P w) a vs:=by
 obtain⟨⟨z,i,vs,r,o,m,n,l,k,j,f,d⟩,u,s⟩:=(show ObjOk P w H h a (DN P w a xs) from gn ok e);refine⟨z,i,vs,r,o,m,n,l,k,j,f,?_,d⟩;clear f d e z u s
 induction r with
 | nil=>intro x b;exact nomatch b
 | @cons p q A v c t ih =>
  intro x b;rcases Ja.mp b with here|there
  ·have:=xv ok (ks p JH)
   rw[c.1,c.2.1,<- here]at this;exact this
  ·exact ih (λy g=>ks y (JE _ g)) x there
end
section
variable {X:Cx}{pins:List (Addr × Obj)}{σ:St}{H:Hp}{s:Shared}{a b:Addr}{xs:KVN}{k:KN}{v:V}{r:Value}{A:Around}{E:Value->Shared->Prop}
theorem jW (a:A.units+3<cLine):(yb X.prog X.w).room A.in1:=by show A.in1.units+2<cLine;rw[Around.in1_units];lia
theorem aC {Q:Value->Shared->Prop}(f:A.units+3<cLine)(I:Inv X pins σ H s)(e:Rd H a (DN X.prog X.w a xs))(ks:KsIn H xs)(d:NKey H k b)(h:∀ c,Inv X pins σ H c->Q (.bool (xY xs k).isSome) c) :
  wpAny (model X.prog X.w) A (compareOp .In (.ref b) (.ref a)) Q E s:=by
 obtain⟨z,g,j,rel,i⟩:=sM I.hok e ks;refine wpAny_in_heap (jW f) (xv I.hok d) g i ?_;have q:=(uA rel k).isSome_eq;rw[Option.isSome_map]at q;rw[<- q];exact h _ (I.tok _)
theorem gG {Q:Value->Shared->Prop}(f:A.units+3<cLine)(I:Inv X pins σ H s)(e:Rd H a (DN X.prog X.w a xs))(ks:KsIn H xs)(d:NKey H k b)(h:∀ c,Inv X pins σ H c->Q (.bool (!(xY xs k).isSome)) c) :
  wpAny (model X.prog X.w) A (compareOp .NotIn (.ref b) (.ref a)) Q E s:=by
 obtain⟨z,g,j,rel,i⟩:=sM I.hok e ks;refine wpAny_notIn_heap (jW f) (xv I.hok d) g i ?_;have q:=(uA rel k).isSome_eq;rw[Option.isSome_map]at q;rw[<- q];exact h _ (I.tok _)
theorem my {Q:Unit->Shared->Prop}(m:A.units+3<cLine)(I:Inv X pins σ H s)(e:H a=some (DN X.prog X.w a xs))(ks:KsIn H xs)(i:NKey H k b)(g:RelV v r)(l:xs.length<sizeLine)(h:∀ d,Inv X pins σ (upd H a (DN X.prog X.w a (xN xs k b v))) d->Q () d) :
  wpAny (model X.prog X.w) A (setItem (.ref a) (.ref b) r) Q E s:=by
 obtain⟨z,u,f,rel,x⟩:=sM I.hok (.inl e) ks;have j:f.length<=sizeLine:=by rw[<- Yw rel];exact z
 have p:(xN xs k b v).length<=sizeLine:=by have:=wo xs k b v;lia
 refine wpAny_setItem_heap (hsz:=j) (jW m) (xv I.hok i) x λw c n=>h _ ?_;have t:∃ q,w.get? a=some q:=let ⟨q,_,_,o,_⟩:=c;⟨q,o⟩;exact rz I (by rw[e];exact True.intro) n t (dn_new p u (putN_rel rel k b g) c)
end
section
variable {prog:Program}{w:World}{A:Around}{E:Value->Shared->Prop}{s:Shared}{d:Addr}
theorem lR {o:Obj}{a:Array DictEntry}{i:Nat}{Q:Value->Shared->Prop}(b:s.heap.get? d=some o)(e:o.ExactDict)(hd:o.data=.dict a i)(f:(d == sysModules)=false)(h:Q (.int a.size s.toks) { s with toks:=s.toks+1 }) :
  wpAny (model prog w) A (Builtin.«dict.__len__» ⟨[.ref d],[]⟩) (λfin c=>∃ r,fin=.done (.ret r)/\Q r c) E s:=by
 have ty:s.TypeIs (.ref d) "dict":=⟨o,b,e.1⟩;unfold Builtin.«dict.__len__» Builtin.Dict.dictSlotNone;refine J0 (J0 (wpAny_notOrdered_dict ty ?_));refine J0 ?_;show wpAny _ _ (pure ((.ref d,[]):Value × List Value)) _ _ _;refine J7 (J7 (J0 ?_));show wpAny _ _ (pure d) _ _ _;unfold dictSize;refine J7 (J0 (J0 (ZW b hd (J7 (J0 (wpAny_pendingCount_other f ?_))))));unfold retInt
 have g:Q (.int ((a.size:Int)+((0:Nat):Int)) s.toks) { s with toks:=s.toks+1 }:=by
  rw[show ((a.size:Int)+((0:Nat):Int))=a.size from Int.add_zero _];exact h
 exact J0 (wpAny_mkInt (J7 ⟨_,rfl,g⟩))
theorem jj {o:Obj}{a:Array DictEntry}{g:Nat}{Q:Value->Shared->Prop}(c:s.heap.get? d=some o)(b:o.ExactDict)(hd:o.data=.dict a g)(f:(d == sysModules)=false)(i:(a.size:Int)<2 ^ 63)(h:∀ t,Q (.int a.size t) { s with toks:=s.toks+1+1 }) :
  wpAny (model prog w) A (Builtin.«len» ⟨[.ref d],[]⟩) (λfin e=>∃ r,fin=.done (.ret r)/\Q r e) E s:=by
 have ty:s.TypeIs (.ref d) "dict":=⟨o,c,b.1⟩;unfold Builtin.«len»;refine J0 ?_;show wpAny _ _ (pure (Value.ref d)) _ _ _;refine J7 (J0 (wpAny_callSpecial?_slot ty PySem.F.slot_dict_len (Y5 PySem.F.slot_dict_len ty PySem.F.entry_dict_len (lR c b hd f ?_) (PySem.F.args_dict_len_1 _))));show wpAny _ _ (holding [Value.int (a.size:Int) s.toks] (asIndex (.int (a.size:Int) s.toks)) >>= _) _ _ _;refine J0 (JW (show wpAny _ _ (pure (a.size:Int)) _ _ _ from J7 (J0 (wpAny_letGo ?_))));dsimp only;rw[Jf (by lia),Jf (by lia)];unfold retInt;exact J0 (wpAny_mkInt (J7 ⟨_,rfl,h _⟩))
end
section
variable {X:Cx}{pins:List (Addr × Obj)}{σ:St}{H:Hp}{s:Shared}{a:Addr}{xs:KVN}{A:Around}{E:Value->Shared->Prop}
theorem cY {P:Program}{w:World}{h:Heap}(ok:HOk P w H h)(e:Rd H a (DN P w a xs)):(a == sysModules)=false/\∃ o b c,h.get? a=some o/\o.ExactDict/\o.data=.dict b c/\b.size=xs.length/\(b.size:Int)<2 ^ 63:=by
 obtain⟨⟨z,d,k,r,o,b,c,j,i,g,f,m⟩,_,_⟩:=(show ObjOk P w H h a (DN P w a xs) from gn ok e);have l:b.size=xs.length:=by rw[size_of_entries f,<- Yw r]
 refine⟨d,o,b,c,j,i,g,l,?_⟩;rw[JM]at z;lia
theorem cZ {Q:Value->Shared->Prop}(I:Inv X pins σ H s)(e:Rd H a (DN X.prog X.w a xs))(h:∀ t b,Inv X pins σ H b->Q (.int xs.length t) b):wpAny (model X.prog X.w) A (call (.builtin "len") [.ref a]) Q E s:=by
 obtain⟨c,o,j,k,i,g,d,l,f⟩:=cY I.hok e;refine Calls.call_function_entry kind_len plain_len entry_len (args_len1 _) (jj i g d c f λt=>?_);rw[l];exact h _ _ (I.tok _)
end
def NAt (P:Program)(w:World)(H:Hp)(a:Addr)(xs:KVN):Prop:=Rd H a (DN P w a xs)/\KsIn H xs
def iR (P:Program)(w:World)(ty e:TE):TE:=λσ H Q=>ty σ H λy f=>e σ f λx c=>∃ a b d k,x=.ref a/\y=.ref b/\NAt P w c a d/\NKey c k b/\Q (.bl (!(xY d k).isSome)) c
def cO (P:Program)(w:World)(f ty e:TE):TS:=λD σ H=>e σ H λv h=>f σ h λx g=>ty σ g λy d=>∃ a b c k,x=.ref a/\y=.ref b/\d a=some (DN P w a c)/\KsIn d c/\NKey d k b/\c.length<sizeLine/\D.nx σ (upd d a (DN P w a (xN c k b v)))
section
variable {X:Cx}{o i e value:Expr}{pos pos':Pos}{td ty tv:TE}
theorem vK (p:X.A.units+3<cLine)(hi:PE X i ty)(q:PE X o td):PC X .NotIn i o (iR X.prog X.w ty td):=by
 intro pins s σ H Q I h;refine thn (hi pins s σ H _ I h) λm d ⟨y,A,w,e,j⟩=>thn (q pins d σ A _ w j) λu C ⟨x,z,v,f,a,b,c,k,ex,r,n,l,g⟩=>?_;subst ex r;cases (show u=Value.ref a from f);cases (show m=Value.ref b from e);exact gG p v n.1 n.2 l λB t=>⟨.bl (!(xY c k).isSome),z,t,rfl,g⟩
theorem ie (z:X.A.units+3<cLine)(B:PE X o td)(hi:PE X i ty)(w:PE X value tv)(A:swapsWith value (some (.Subscript o i pos')) pos.line X.env=pure false) :
  PS X (.Assign [.Subscript o i pos'] value pos) (cO X.prog X.w td ty tv):=by
 intro pins s σ H D I h;refine wpAny_Assign_Subscript (thn (w pins s σ H _ I h) λr d ⟨v,M,K,g,n⟩=>thn (B pins d σ M _ K n) λu c ⟨x,L,J,f,m⟩=>thn (hi pins c σ L _ J m) λt P ⟨y,Q,G,e,a,b,N,k,ex,E,C,p,q,l,j⟩=>?_) A;subst ex E;cases (show u=Value.ref a from f);cases (show t=Value.ref b from e);exact my z G C p q g l λO F=>⟨σ,_,F,j⟩
theorem sN:CallR X (.builtin "len") (λvs H Q=>∃ a xs,vs=[.ref a]/\Rd H a (DN X.prog X.w a xs)/\Q (.int xs.length) H):=by
 intro pins s σ H vs g Q I b ⟨a,xs,e,d,q⟩;subst e;obtain⟨u,rfl,c⟩:=b.one;cases (show u=Value.ref a from c);exact cZ I d λt h f=>⟨.int xs.length,H,f,⟨t,rfl⟩,q⟩
end
def bw (P:Program)(w:World)(p:Addr)(Q:VK):List (V × V)->Hp->Prop
 | [(y,v)],a=>∃ b k,y=.ref b/\a p=some (DN P w p [])/\NKey a k b/\Q (.ref p) (upd a p (DN P w p [(k,b,v)]))
 | _,_=>False
def cA (P:Program)(w:World)(ty c:TE):TE:=λσ H Q=>∀ p,H p=none->ty σ (upd H p (DN P w p [])) λy d=>c σ d λv a=>∃ b k,y=.ref b/\a p=some (DN P w p [])/\NKey a k b/\Q (.ref p) (upd a p (DN P w p [(k,b,v)]))
section
variable {X:Cx}{e f:Expr}{pos:Pos}{ty tv:TE}
theorem jF (N:X.A.units+3<cLine)(D:PE X e ty)(w:PE X f tv):PE X (.Dict [some e] [f] pos) (cA X.prog X.w ty tv):=by
 intro pins s σ H Q I q;have C:=I.hok.fresh (Je s.heap.objs.size)
 have J:=I.laid (a:=s.heap.objs.size) (o:=DN X.prog X.w s.heap.objs.size []) (h':=s.heap.push { cls:=.type "dict",data:=.dict #[] }) (t':=s.toks) (λ_ _ q=>J6 _ q) (Je _)
  (dn_new (vs:=[]) (Y1 _) (YT.mpr (JQ I.big)) .nil (Heap.DictOfH.new _))
 refine wpAny_Dict_any rfl rfl (by simp) (by show 1<=15;lia) (thn ((jA D w ii) pins _ σ _ (bw X.prog X.w s.heap.objs.size Q) J (q _ C)) ?_);rintro vs M ⟨n,O,d,rel,r⟩
 match n,rel,r with
 | [(y,v)],rel,r =>
  obtain⟨b,k,rfl,g,p,m⟩:=r
  cases rel with
  | @cons _ i _ K h t =>
   cases t;obtain⟨j,L⟩:=i;cases (show j=Value.ref b from h.1);obtain⟨z,F,vs,l,G⟩:=sM d.hok (.inl g) (λx u=>nomatch u);cases l;unfold storeAll;rw[Yq];refine J0 (J0 (wpAny_dictSet_heap (knd:=yb X.prog X.w) (k:=k) (hsz:=Y1 _) (show X.A.units+2<cLine by lia) (xv d.hok p) G λh' c A=>J7 ?_));dsimp only;rw[YH];refine J7 ⟨.ref s.heap.objs.size,_,?_,rfl,m⟩;have E:∃ q,h'.get? s.heap.objs.size=some q:=let ⟨q,_,_,B,_⟩:=c;⟨q,B⟩
   exact rz d (by rw[g];exact True.intro) A E (dn_new (by show 1<=sizeLine;decide) F (.cons ⟨rfl,rfl,h.2⟩ .nil) c)
 | [],_,r=>exact r.elim
 | _::_::_,_,r=>exact r.elim
end
section
variable {prog:Program}{w:World}{A:Around}{E:Value->Shared->Prop}{s:Shared}{d:Addr}
theorem lO {Q:Int->Shared->Prop}(q:Q (reduceHash 0xFCA86420) { s with toks:=s.toks+1 }):wpAny (model prog w) A (pyHash .none) Q E s:=by
 show wpAny (model prog w) A (pyHashByItsType .none) Q E s;refine W.pyHash_slot (T:="NoneType") (id:="NoneType.__hash__") (B:=Builtin.«NoneType.__hash__») rfl F.slot_NoneType_hash F.entry_NoneType_hash (F.args_NoneType_hash_1 _) (by decide) (.inl rfl) ?_;unfold Builtin.«NoneType.__hash__»;refine J0 ?_;show wpAny _ _ (pure _) _ _ _;unfold retInt;exact J7 (J0 (wpAny_mkInt (J7 ⟨_,_,rfl,q⟩)))
theorem vQ {a:Addr}{k:KN}{Q:Bool->Shared->Prop}(d:A.units<cLine)(c:NIs prog w s.heap k a)(q:Q false s):wpAny (model prog w) A (eqBool (.ref a) .none) Q E s:=by
 obtain⟨as,b⟩:=c.reads;exact PySem.SeqAt.eqBoolOverData prog w A E s _ _ _ .none as [] Q b .none (ow k).1 rfl (by show A.units+min _ 0<cLine;lia) q
theorem oR {n:Nat}{Q:Bool->Shared->Prop}(q:Q true s):wpAny (model prog w) A (eqIsQuiet n .none) Q E s:=by
 cases n<;>exact J7 q
theorem qM {α β:Type}{f:α->β->Sem (ForInStep β)}{b:β}:∀ (l:List α) {Q:β->Shared->Prop},(∀ i∈l,∀ R:ForInStep β->Shared->Prop,R (.yield b) s->wpAny (model prog w) A (f i b) R E s)->Q b s->wpAny (model prog w) A (forIn l b f) Q E s
 | [],Q,_,q=>by rw[YH];exact J7 q
 | i::l,Q,h,q=>by
  rw[Yq];exact J0 (h i JH _ (qM l (λj a=>h j (JE _ a)) q))
theorem mN {stored:List Value}{Q:Bool->Shared->Prop}(h:∀ v∈stored,∃ a k,v=.ref a/\NIs prog w s.heap k a)(q:Q false s):wpAny (model prog w) A (tableMayTell .none stored) Q E s:=by
 unfold tableMayTell;by_cases c:stored.isEmpty=true
 ·rw[Jp c];exact J7 q
 rw[Jf c];refine J0 (oR (J0 (qM stored (λv b R r=>?_) (J7 q))));obtain⟨a,k,rfl,d⟩:=h v b;exact J0 (uL d (J7 r))
theorem lQ {o:Obj}{b:Array DictEntry}{j:Nat}{h:Int}{Q:Option Nat->Shared->Prop}(u:A.units<cLine)(g:s.heap.get? d=some o)(hd:o.data=.dict b j)(D:∀ e∈b.toList,∃ a k,e.key=.ref a/\NIs prog w s.heap k a)(q:Q none s) :
  wpAny (model prog w) A (dictFind d .none h) Q E s:=by
 have key:∀ (i:Nat) (e:DictEntry),b[i]?=some e->∃ a k,e.key=.ref a/\NIs prog w s.heap k a:=λi e f=>D e (by
  obtain⟨l,z⟩:=JK.mp f
  rw[<- z];exact Array.getElem_mem_toList l)
 unfold dictFind;refine JW (J0 (ZW g hd ?_));by_cases c:(Value.none::List.filterMap (λi=>Option.map (λx=>x.key) b[i]?) (placesWithHash b.size (λi=>Option.map (λx=>x.hash) b[i]?) h)).all carriedByValue=true
 ·refine(JV (λm=>wpAny (model prog w) A m Q E s) (Jp c)).mpr ?_
  unfold dictWalkPlain;refine J0 (qM _ (λi hi R r=>?_) (J7 q))
  cases f:b[i]? with
  | none=>exact J7 r
  | some e =>
   obtain⟨a,k,t,n⟩:=key i e f;by_cases ch:(e.hash == h)=true
   ·refine(JV (λm=>wpAny (model prog w) A m R E s) (Jp ch)).mpr (J0 (Z2 g hd (J0 ?_)))
    rw[t];refine vQ u n (J0 (Z2 g hd ?_));dsimp only;rw[Jf (c:=(j != j)=true) (by simp),Jf Jn];exact J0 (YD (J7 r))
   ·exact(JV (λm=>wpAny (model prog w) A m R E s) (Jf ch)).mpr (J7 r)
 ·refine(JV (λm=>wpAny (model prog w) A m Q E s) (Jf c)).mpr ?_
  have y:∀ v∈List.filterMap (λi=>Option.map (λx=>x.key) b[i]?) (placesWithHash b.size (λi=>Option.map (λx=>x.hash) b[i]?) h),∃ a k,v=.ref a/\NIs prog w s.heap k a:=λv C=>by
   obtain⟨i,-,e,f,rfl⟩:∃ i:Nat,True/\∃ e:DictEntry,b[i]?=some e/\e.key=v:=by
    obtain⟨i,p⟩:=List.mem_filterMap.mp C;exact⟨i,True.intro,Yu.mp p.2⟩
   exact key i e f
  by_cases B:(List.filterMap (λi=>Option.map (λx=>x.key) b[i]?) (placesWithHash b.size (λi=>Option.map (λx=>x.hash) b[i]?) h) == [Value.none])=true
  ·refine(JV (λm=>wpAny (model prog w) A m Q E s) (Jp B)).mpr (J0 (J7 ?_))
   dsimp only;rw[Jf (by simp)];refine J0 (qM _ (λi hi R r=>?_) (J7 q))
   cases f:b[i]? with
   | none=>exact J7 r
   | some e =>
    obtain⟨a,k,t,n⟩:=key i e f;by_cases ch:(e.hash == h)=true
    ·refine(JV (λm=>wpAny (model prog w) A m R E s) (Jp ch)).mpr (J0 (Z2 g hd (J0 ?_)))
     rw[t];refine vQ u n (J0 (Z2 g hd ?_));rw[Jf (c:=(j != j)=true) (by simp),Jf Jn];refine J0 (YD ?_);rw[Jf (by simp)];exact J7 r
    ·exact(JV (λm=>wpAny (model prog w) A m R E s) (Jf ch)).mpr (J7 r)
  ·refine(JV (λm=>wpAny (model prog w) A m Q E s) (Jf B)).mpr (J0 (mN y ?_))
   dsimp only;rw[Jf (by simp)];refine J0 (qM _ (λi hi R r=>?_) (J7 q))
   cases f:b[i]? with
   | none=>exact J7 r
   | some e =>
    obtain⟨a,k,t,n⟩:=key i e f;by_cases ch:(e.hash == h)=true
    ·refine(JV (λm=>wpAny (model prog w) A m R E s) (Jp ch)).mpr (J0 (Z2 g hd (J0 ?_)))
     rw[t];refine vQ u n (J0 (Z2 g hd ?_));rw[Jf (c:=(j != j)=true) (by simp),Jf Jn];refine J0 (YD ?_);rw[Jf (by simp)];exact J7 r
    ·exact(JV (λm=>wpAny (model prog w) A m R E s) (Jf ch)).mpr (J7 r)
theorem jz {o:Obj}{b:Array DictEntry}{h:Nat}{Q:Option Value->Shared->Prop}(c:A.units<cLine)(f:s.heap.get? d=some o)(hd:o.data=.dict b h)(g:∀ e∈b.toList,∃ a k,e.key=.ref a/\NIs prog w s.heap k a)(q:Q none { s with toks:=s.toks+1 }) :
  wpAny (model prog w) A (dictGet d .none) Q E s:=by
 unfold dictGet;exact JW (J0 (lO (J0 (lQ (s:={ s with toks:=s.toks+1 }) c f hd g (J7 q)))))
theorem uy {o:Obj}{b:Array DictEntry}{j:Nat}{Q:Value->Shared->Prop}(f:A.units<cLine)(h:s.heap.get? d=some o)(l:o.ExactDict)(hd:o.data=.dict b j)(g:(d == sysModules)=false)(i:∀ e∈b.toList,∃ a k,e.key=.ref a/\NIs prog w s.heap k a)(q:Q (.bool false) { s with toks:=s.toks+1 }) :
  wpAny (model prog w) A (Builtin.«dict.__contains__» ⟨[.ref d,.none],[]⟩) (λfin c=>∃ r,fin=.done (.ret r)/\Q r c) E s:=by
 unfold Builtin.«dict.__contains__»;refine J0 ?_;show wpAny _ _ (pure (d,Value.none)) _ _ _;refine J7 (J0 (jz f h hd i ?_));show wpAny _ _ (Builtin.Dict.pendingKey? d .none >>= _) _ _ _;exact J0 (wpAny_pendingKey_other g (J7 ⟨_,rfl,q⟩))
section
variable {X:Cx}{pins:List (Addr × Obj)}{σ:St}{H:Hp}{a:Addr}{xs:KVN}
theorem ja {Q:Value->Shared->Prop}(r:A.units+3<cLine)(I:Inv X pins σ H s)(e:Rd H a (DN X.prog X.w a xs))(ks:KsIn H xs)(h:∀ b,Inv X pins σ H b->Q (.bool false) b) :
  wpAny (model X.prog X.w) A (compareOp .In .none (.ref a)) Q E s:=by
 obtain⟨z,j,q,rel,o,p,u,f,d,n,m,l,t⟩:=sM I.hok e ks
 have i:∀ e∈p.toList,∃ a k,e.key=.ref a/\NIs X.prog X.w s.heap k a:=λe c=>by
  rw[m]at c;obtain⟨x,g,rfl⟩:=JJ.mp c;exact⟨x.2.1,x.1,rfl,l x g⟩
 have ty:s.TypeIs (.ref a) "dict":=⟨o,f,d.1⟩;show wpAny _ _ (contains (.ref a) .none >>= _) _ _ _
 exact J0 (wpAny_contains_slot ty slot_dict_contains (Y5 slot_dict_contains ty entry_dict_contains
  (uy (by rw[Around.in1_units];lia) f d n j i (YQ (J7 (h _ (I.tok _))))) (args_dict_contains _ _)))
end
def fc (P:Program)(w:World):V->V->Hp->VK->Prop:=λx y H Q=>∃ a c,y=.ref a/\NAt P w H a c/\((∃ b k,x=.ref b/\NKey H k b/\Q (.bl (xY c k).isSome) H)\/(x=.non/\Q (.bl false) H))
theorem jL {X:Cx}(e:X.A.units+3<cLine):OpR X (compareOp .In) (fc X.prog X.w):=by
 intro pins s σ H x y v u Q I d h ⟨a,f,j,n,q⟩;subst j;cases (show u=Value.ref a from h);rcases q with ⟨b,k,ex,i,q⟩|⟨ex,q⟩
 ·subst ex
  cases (show v=Value.ref b from d);exact aC e I n.1 n.2 i λg c=>⟨.bl (xY f k).isSome,H,c,rfl,q⟩
 ·subst ex
  cases (show v=Value.none from d);exact ja e I n.1 n.2 λg c=>⟨.bl false,H,c,rfl,q⟩
end
section
variable {K:Type}[DecidableEq K]{xs:List (K × Addr × Value)}
def mergeN (xs ys:List (K × Addr × Value)):List (K × Addr × Value):=ys.foldl (λacc y=>storedH acc y.1 y.2.1 y.2.2) xs
theorem mO (acc:List (K × Addr × Value))(y:K × Addr × Value):(storedH acc y.1 y.2.1 y.2.2).length<=acc.length+1:=by
 unfold storedH;split
 ·rw[Jg];lia
 ·rw[Jd];exact Je _
end
def yY (xs ys:KVN):KVN:=ys.foldl (λacc y=>xN acc y.1 y.2.1 y.2.2) xs
theorem oh:∀ {ys:KVN}{us:List (KN × Addr × Value)}{xs:KVN}{vs:List (KN × Addr × Value)},Paired PrN ys us->Paired PrN xs vs->Paired PrN (yY xs ys) (mergeN vs us):=by
 intro ys us xs vs r
 induction r generalizing xs vs with
 | nil=>intro q;exact q
 | @cons p u a us h t ih =>
  intro q;have e:=putN_rel q p.1 p.2.1 h.2.2;rw[show storedH vs p.1 p.2.1 u.2.2=storedH vs u.1 u.2.1 u.2.2 by rw[h.1,h.2.1]]at e;exact ih e
theorem uS:∀ (ys xs:KVN),(yY xs ys).length<=xs.length+ys.length
 | [],xs=>Je _
 | y::ys,xs=>by
  have b:=uS ys (xN xs y.1 y.2.1 y.2.2);have a:=wo xs y.1 y.2.1 y.2.2;show (yY (xN xs y.1 y.2.1 y.2.2) ys).length<=_;rw[Ya];lia
section
variable {prog:Program}{w:World}{A:Around}{E:Value->Shared->Prop}{s:Shared}{d:Addr}{o:Obj}{es:Array DictEntry}{ep:Nat}
theorem lL {Q:Value->Shared->Prop}(a:s.heap.get? d=some o) (e:o.ExactDict) (hd:o.data=.dict es ep) (f:(d == sysModules)=false)
  (q:Q (.ref s.heap.objs.size) { s with heap:=s.heap.push { cls:=.type "dict_keyiterator",data:=.fields #[.ref d,.int 0 0,.int es.size 0,.int ep 0] } }):wpAny (model prog w) A (pyIter (.ref d)) Q E s:=by
 have ty:s.TypeIs (.ref d) "dict":=⟨o,a,e.1⟩;have nx:=F.slot_dict_keyiterator_next.lookup
 have body:wpAny (model prog w) A.in1 (Builtin.«dict.__iter__» ⟨[.ref d],[]⟩) (λfin b=>∃ v,fin=.done (.ret v)/\∃ c r,b.TypeIs v c/\typeLookup (Value.type c) (Str.ofString "__next__")=pure (some r)/\Q v b) E s:=by
  unfold Builtin.«dict.__iter__» Builtin.Dict.dictSlotNone;refine J0 (J0 (wpAny_notOrdered_dict ty (J0 ?_)));show wpAny _ _ (pure ((.ref d,[]):Value × List Value)) _ _ _;refine J7 (J7 (J0 ?_));refine(show wpAny _ _ (pure d) _ _ _ from J7 (J0 ?_));unfold Builtin.Dict.showsAll;rw[Jf (by rw[f];simp)];refine J7 (J0 (ZW a hd (J0 (Z2 a hd (J0 ?_)))));exact JY (J7 ⟨_,rfl,_,_,⟨_,JA _ rfl,rfl⟩,nx,q⟩)
 exact wpAny_pyIter_slot ty F.slot_dict_iter (Y5 F.slot_dict_iter ty F.entry_dict_iter body (F.args_dict_iter_1 _))
end
section
variable {prog:Program}{w:World}{A:Around}{E:Value->Shared->Prop}{s:Shared}{d it:Addr}{o:Obj}{es:Array DictEntry}{ep i:Nat}{e:DictEntry}
theorem mx {Q:Value->Shared->Prop}(m:s.heap.get? d=some o)(hd:o.data=.dict es ep)(hi:s.heap.IsKeyIter it d i es.size ep)(r:es[i]?=some e)(q:∀ h',h'.IsKeyIter it d (i+1) es.size ep->(∀ b u,b≠it->s.heap.get? b=some u->h'.get? b=some u)->Q e.key { s with heap:=h' }) :
  wpAny (model prog w) A (Builtin.«dict_keyiterator.__next__» ⟨[.ref it],[]⟩) (λfin p=>∃ v,fin=.done (.ret v)/\Q v p) E s:=by
 obtain⟨k,f,h,g⟩:=id hi;have ty:s.TypeIs (.ref it) "dict_keyiterator":=⟨k,f,h⟩;unfold Builtin.«dict_keyiterator.__next__»;refine J0 ?_;show wpAny _ _ (pure (Value.ref it)) _ _ _;refine J7 (J0 (J0 (J0 (ZB ty (J7 (J0 (wpAny_fieldsOf f g ?_)))))));show wpAny _ _ (Builtin.Dict_items.addrOf (Value.ref d) >>= _) _ _ _;refine J0 (show wpAny _ _ (pure d) _ _ _ from J7 (J0 (ZW m hd ?_)));dsimp only;rw[Jf (c:=((es.size:Int) != (es.size:Int))=true) (by simp)];refine J0 (show wpAny _ _ (pure d) _ _ _ from J7 (J0 (Z2 m hd ?_)));rw[Jf (c:=((ep:Int) != (ep:Int))=true) (by simp)];refine J7 ?_;dsimp only;rw[Jf (c:=(i:Int)<0) (by lia),YF,r];refine J0 (J0 (ZB ty (J7 (J0 (wpAny_isOneOf_keyiter ty ?_)))));show wpAny _ _ (setField (.ref it) 1 (rawInt ((i:Int)+1)) >>= _) _ _ _;refine J0 (wpAny_setField f g (by show 1<4;lia) ?_);have l:(k.mapFields (·.setIfInBounds 1 (rawInt ((i:Int)+1)))).data=.fields #[.ref d,.int ((i+1:Nat):Int) 0,.int es.size 0,.int ep 0]:=Obj.data_mapFields g _;have n:=Heap.SameBut.update s.heap it (Obj.mapFields (·.setIfInBounds 1 (rawInt ((i:Int)+1))));have a:=YL (Obj.mapFields (·.setIfInBounds 1 (rawInt ((i:Int)+1)))) f (Obj.isFreed_of_fields l);have j:(s.heap.update it (Obj.mapFields (·.setIfInBounds 1 (rawInt ((i:Int)+1))))).IsKeyIter it d (i+1) es.size ep:=⟨_,a,(Obj.cls_mapFields ..).trans h,l⟩;refine J0 (JW (J0 (wpAny_isOneOf_keyiter ⟨_,a,(Obj.cls_mapFields ..).trans h⟩ ?_)));exact J7 (J7 ⟨_,rfl,q _ j λb u nb t=>(n.2 b nb).trans t⟩)
theorem jY {Q:Option Value->Shared->Prop}(f:s.heap.get? d=some o)(hd:o.data=.dict es ep)(hi:s.heap.IsKeyIter it d i es.size ep)(g:es[i]?=some e)(q:∀ h',h'.IsKeyIter it d (i+1) es.size ep->(∀ b u,b≠it->s.heap.get? b=some u->h'.get? b=some u)->Q (some e.key) { s with heap:=h' }):wpAny (model prog w) A (pyNext (.ref it)) Q E s:=by
 obtain⟨c,j,h,l⟩:=id hi;have ty:s.TypeIs (.ref it) "dict_keyiterator":=⟨c,j,h⟩;unfold pyNext;exact J0 (Za (wpAny_callSpecial?_slot ty ZG (Y5 ZG ty F.entry_dict_keyiterator_next (mx f hd hi g λh' a k=>J7 (q h' a k)) (F.args_dict_keyiterator_next_1 _))))
theorem lG {Q:Fin->Shared->Prop}(h:A.handled=none) (e:s.heap.get? d=some o) (hd:o.data=.dict es ep) (hi:s.heap.IsKeyIter it d i es.size ep) (j:es[i]?=none)
  (q:∀ h' ev,Heap.ExtBut it s.heap h'->({ s with heap:=h' }:Shared).TypeIs ev "StopIteration"->E ev { s with heap:=h' }) :
  wpAny (model prog w) A (Builtin.«dict_keyiterator.__next__» ⟨[.ref it],[]⟩) Q E s:=by
 obtain⟨g,a,l,f⟩:=id hi;have ty:s.TypeIs (.ref it) "dict_keyiterator":=⟨g,a,l⟩;unfold Builtin.«dict_keyiterator.__next__»;refine J0 ?_;show wpAny _ _ (pure (Value.ref it)) _ _ _;refine J7 (J0 (J0 (J0 (ZB ty (J7 (J0 (wpAny_fieldsOf a f ?_)))))));show wpAny _ _ (Builtin.Dict_items.addrOf (Value.ref d) >>= _) _ _ _;refine J0 (show wpAny _ _ (pure d) _ _ _ from J7 (J0 (ZW e hd ?_)));dsimp only;rw[Jf (c:=((es.size:Int) != (es.size:Int))=true) (by simp)];refine J0 (show wpAny _ _ (pure d) _ _ _ from J7 (J0 (Z2 e hd ?_)));rw[Jf (c:=((ep:Int) != (ep:Int))=true) (by simp)];refine J7 ?_;dsimp only;rw[Jf (c:=(i:Int)<0) (by lia),YF,j];refine J0 (J0 (ZB ty (J7 (J0 ?_))));show wpAny _ _ (setField (.ref it) 0 .none) _ _ _;refine wpAny_setField a f (by show 0<4;lia) (J0 ?_);unfold newExc newTuple;refine J0 (JY ?_ (by show 0<=sizeLine;exact Y1 _));unfold firstArgMember;refine J0 (J0 (J7 (J7 (JY (wpAny_raiseNew_none h ?_) ?_))))
 rotate_left
 ·show (_++_:Array Value).size<=sizeLine+2
  rw[Jx];show 6+0<=sizeLine+2;rw[JM];lia
 refine q _ _ (λb u nb k=>?_) ⟨_,JA _ rfl,rfl⟩;exact J6 _ (J6 _ (((Heap.SameBut.update s.heap it _).2 b nb).trans k))
theorem jZ {Q:Option Value->Shared->Prop}(e:A.handled=none)(c:s.heap.get? d=some o)(hd:o.data=.dict es ep)(hi:s.heap.IsKeyIter it d i es.size ep)(f:es[i]?=none)(q:∀ h',Heap.ExtBut it s.heap h'->Q none { s with heap:=h' }):wpAny (model prog w) A (pyNext (.ref it)) Q E s:=by
 obtain⟨b,h,g,j⟩:=id hi;have ty:s.TypeIs (.ref it) "dict_keyiterator":=⟨b,h,g⟩;unfold pyNext;refine J0 (Za (wpAny_callSpecial?_slot ty ZG (Y5 ZG ty F.entry_dict_keyiterator_next (lG e c hd hi f λh' ev k a=>?_) (F.args_dict_keyiterator_next_1 _))));exact J0 (Zw a isSubtype_stop (J7 (q h' k)))
end
end L2
namespace L2
open PySem PySem.Spec PyProof.Rows Own PySem.W
section
variable {prog:Program}{w:World}{d:Addr}{o:Obj}{es:Array DictEntry}{ep:Nat}
theorem kH (j:o.ExactDict)(hd:o.data=.dict es ep)(r:(d == sysModules)=false):KdlSrc prog w "dict" d d es.size (λi v=>∃ e,es[i]?=some e/\v=e.key) (λh=>h.get? d=some o) where
 type:=λs a=>⟨o,a,j.1⟩
 there:=λh a=>⟨Jb a,Jb a⟩
 keep:=λh f a k=>k d (.inl rfl) _ a
 notList:=by decide
 notTuple:=by decide
 hint:=λA E s Q a q=>by
  have ty:s.TypeIs (.ref d) "dict":=⟨o,a,j.1⟩;show wpAny _ _ (specialOf (.ref d) _ >>= _) _ _ _;refine J0 (ZD (T:="dict") ty F.slot_dict_len.lookup ?_);show wpAny _ _ (isInstance (.ref d) (.type "dict") >>= _) _ _ _;refine J0 (Zw (T:="dict") (b:=true) ty rfl ?_);show wpAny _ _ (typeOf (.ref d) >>= _) _ _ _;exact J0 (YG ty (J7 q))
 iter:=λA s t a=>by
  refine⟨{ cls:=.type "dict_keyiterator",data:=.fields #[.ref d,.int 0 0,.int es.size 0,.int ep 0] },λi h=>h.IsKeyIter s.heap.objs.size d i es.size ep/\h.get? d=some o,λE Q q=>lL a j hd r q,?_,⟨_,JA _ rfl,rfl,rfl⟩,J6 _ a⟩;have n:d≠s.heap.objs.size:=JB (Jb a);refine⟨λb c=>Ja.mpr (.inl (Js.mp c)),λi h f st k=>⟨st.1.at (k _ JH),k d (JE _ JH) _ st.2⟩,λi g Q E p st q=>?_,λg Q E st q=>?_,λi g Q E st q=>wpAny_pyIter_keyiter st.1 q⟩
  ·have m:es[i]?=some es[i]:=Zj p
   exact jY st.2 hd st.1 m λf l k=>q _ f g.toks ⟨_,m,rfl⟩ ⟨l,k d o n st.2⟩ λb u nb c=>k b u (λz=>nb (Js.mpr z)) c
  ·exact jZ t st.2 hd st.1 (Array.getElem?_eq_none (Je _)) λf k=>q f g.toks λb u nb c=>k b u (λz=>nb (Js.mpr z)) c
end
end L2
namespace L2
open PySem PySem.Spec PyProof.Rows Own Ts PySem.W
section
theorem iL {xs:KVN}{ws:List (KN × Addr × Value)}(r:Paired PrN xs ws):Vals (xs.map λp=>V.ref p.2.1) (ws.map λq=>Value.ref q.2.1):=by
 induction r with
 | nil=>exact .nil
 | @cons p q b a h t ih=>exact .cons (by show Value.ref q.2.1=Value.ref p.2.1;rw[h.2.1]) ih
theorem iH {a:Array DictEntry}{acc:Array Value}(c:acc.size=a.size)(g:∀ (j:Nat) (v:Value),acc[j]?=some v->∃ e,a[j]?=some e/\v=e.key):acc.toList=a.toList.map (·.key):=by
 refine List.ext_getElem (by rw[Jg,Jt,Jt,c]) λj d h=>?_;obtain⟨e,b,f⟩:=g j acc[j] (Zj _);rw[List.getElem_map,Array.getElem_toList,Array.getElem_toList,f];rw[Zj (by rw[<- c];exact d)]at b;rw[Jr b]
end
end L2
namespace L2
open PySem PySem.Spec PyProof.Rows Own
section
def le2 (p q a b:Int):Prop:=p<a\/p=a/\q<=b
end
def bD:List Int->List Int->Ordering
 | [],[]=>.eq
 | [],_::_=>.lt
 | _::_,[]=>.gt
 | a::x,b::y=>(compare a b).then (bD x y)
def ce (x y:List Int):List Int:=if bD y x=.lt then y else x
end L2
namespace Bn
open PySem L2 Own
structure Grp where
 many:Int
 lane:Nat
 fork:Nat
def part (m:Int)(lane k:Nat):List Grp:=if m=0 then [] else [⟨m,lane,k⟩]
end Bn
namespace Bn
open PySem L2 Own
def nm (ns:List Nat)(i:Nat):Nat:=ns.getD i 0
section
variable {ns:List Nat}{n:Nat}(pm:ns.Perm (List.range n))
include pm
end
def ren (ns:List Nat)(f:Nat × Nat):Nat × Nat:=(nm ns f.1,nm ns f.2)
def Nt.ren (N:Nt)(ns:List Nat):Nt:=⟨N.lanes,N.forks.map (Bn.ren ns),N.ends.map (nm ns)⟩
def Nt.again (N:Nt)(f:Nat × Nat):Nt:=⟨N.lanes,N.forks++[f],N.ends⟩
def big (x y:Int):Int:=if y > x then y else x
def xx (st:List Int × List Int)(f:Nat × Nat):List Int × List Int :=
 ((st.1.set f.1 (1+big (st.1.getD f.1 0) (st.1.getD f.2 0))).set f.2 (1+big (st.1.getD f.1 0) (st.1.getD f.2 0)),st.2++[1+big (st.1.getD f.1 0) (st.1.getD f.2 0)])
def lay (n:Nat)(fs:List (Nat × Nat)):List Int × List Int:=fs.foldl xx (List.replicate n 0,[])
theorem qp {n:Nat}{fs:List (Nat × Nat)}{i:Nat}{f:Nat × Nat}(h:fs[i]?=some f):lay n (fs.take (i+1))=xx (lay n (fs.take i)) f:=by
 have w:=J9.mp h;rw[JZ w.1,w.2];unfold lay;rw[List.foldl_append];rfl
theorem uW {n:Nat}:∀ (i:Nat) (fs:List (Nat × Nat)),i<=fs.length->(lay n (fs.take i)).1.length=n/\(lay n (fs.take i)).2.length=i
 | 0,fs,_=>by simp[lay]
 | i+1,fs,h=>by
  have ih:=uW (n:=n) i fs (by lia);rw[qp (J8 (by lia))];unfold xx;simp[ih.1,ih.2]
def cg (g f:Nat × Nat):Bool:=decide (g.1=f.1\/g.1=f.2) || decide (g.2=f.1\/g.2=f.2)
def aM (fs:List (Nat × Nat))(a:List Int)(f:Nat × Nat)(i:Nat):List Int:=((List.range i).filter λj=>cg (fs.getD j (0,0)) f).map λj=>a.getD j 0
def uV (N:Nt):List Int:=(lay N.lanes N.forks).2
theorem ou (N:Nt):(uV N).length=N.forks.length:=by
 have:=(uW (n:=N.lanes) N.forks.length N.forks (Je _)).2
 rwa [Yb]at this
abbrev Fk:=Nat × Nat
def run {σ α:Type}(step:σ->Fk->σ × α):σ->List Fk->σ × List (α × Fk)
 | s,[]=>(s,[])
 | s,f::fs=>((run step (step s f).1 fs).1,((step s f).2,f)::(run step (step s f).1 fs).2)
theorem tI {σ α:Type}(step:σ->Fk->σ × α):∀ (s:σ) (fs:List Fk),(run step s fs).2.map Prod.snd=fs
 | _,[]=>rfl
 | s,f::fs=>by
  show f::((run step (step s f).1 fs).2.map Prod.snd)=f::fs;rw[tI step]
def o4 (re:List Int)(f:Fk):List Int × Int:=((re.set f.1 (1+big (re.getD f.1 0) (re.getD f.2 0))).set f.2 (1+big (re.getD f.1 0) (re.getD f.2 0)),1+big (re.getD f.1 0) (re.getD f.2 0))
theorem nZ:∀ (fs:List Fk) (re a:List Int),fs.foldl xx (re,a)=((run o4 re fs).1,a++(run o4 re fs).2.map Prod.fst)
 | [],re,a=>by
  show (re,a)=(re,a++[])
  rw[Yi]
 | f::fs,re,a=>by
  rw[Zq];show fs.foldl xx ((o4 re f).1,a++[(o4 re f).2])=_;rw[nZ fs];show (_,a++[(o4 re f).2]++_)=(_,a++((o4 re f).2::_));rw[Y7];rfl
def pz (N:Nt):List (Int × Fk):=(run o4 (List.replicate N.lanes 0) N.forks).2
theorem mV (N:Nt):(pz N).map Prod.fst=uV N:=by
 unfold uV lay pz;rw[nZ];rfl
theorem uM (N:Nt):(pz N).map Prod.snd=N.forks:=tI _ _ _
def rnk (x:Int × Fk):Int:=x.1*1024+x.2.1*32+x.2.2
def ins (x:Int × Fk):List (Int × Fk)->List (Int × Fk)
 | []=>[x]
 | y::l=>if rnk x<=rnk y then x::y::l else y::ins x l
def sG:List (Int × Fk)->List (Int × Fk)
 | []=>[]
 | x::l=>ins x (sG l)
theorem eZ (x:Int × Fk):∀ l,(ins x l).Perm (x::l)
 | []=>.refl _
 | y::l=>by
  unfold ins;split
  ·exact .refl _
  ·exact((eZ x l).cons y).trans (List.Perm.swap x y l)
theorem xy:∀ l,(sG l).Perm l
 | []=>.refl _
 | x::l=>(eZ x _).trans ((xy l).cons x)
theorem uZ (x:Int × Fk):∀ l:List (Int × Fk),l.Pairwise (λa b=>rnk a<=rnk b)->(ins x l).Pairwise (λa b=>rnk a<=rnk b)
 | [],_=>List.pairwise_singleton _ _
 | y::l,h=>by
  obtain⟨e,f⟩:=ZS.mp (id h);unfold ins;split
  ·next le =>
   refine ZS.mpr ⟨λz c=>?_,h⟩;rcases Ja.mp c with rfl|d
   ·exact le
   ·exact Z8 le (e z d)
  ·next gt =>
   refine ZS.mpr ⟨λz c=>?_,uZ x l f⟩;rcases Ja.mp ((eZ x l).mem_iff.mp c) with rfl|c
   ·lia
   ·exact e z c
theorem wx:∀ l,(sG l).Pairwise (λa b=>rnk a<=rnk b)
 | []=>List.Pairwise.nil
 | x::l=>uZ x _ (wx l)
theorem ut {a b:List (Int × Fk)}(p:a.Perm b)(bd:∀ y∈b,y.2.1<32/\y.2.2<32)(sa:a.Pairwise (λx y=>rnk x<=rnk y))(sb:b.Pairwise (λx y=>rnk x<=rnk y)):a=b:=by
 refine List.Perm.eq_of_pairwise (le:=λx y=>rnk x<=rnk y) (λx y m l e d=>?_) sa sb p;have q:=bd x (p.mem_iff.mp m);have c:=bd y l;obtain⟨k,j,i⟩:=x;obtain⟨h,g,f⟩:=y;unfold rnk at e d;simp only at e d q c;have o:k=h:=by lia
 have e2:j=g:=by lia
 have n:i=f:=by lia
 rw[o,e2,n]
def uN (N:Nt):List Fk:=(sG (pz N)).map Prod.snd
def y4 (N:Nt):Nt:=⟨N.lanes,uN N,N.ends⟩
theorem fg {N:Nt}{y:Int × Fk}(h:y∈pz N):y.2∈N.forks:=by
 rw[<- uM N];exact JJ.mpr ⟨y,h,rfl⟩
theorem kj {N:Nt}(ok:N.Ok):∀ y∈pz N,y.2.1<32/\y.2.2<32:=λy a=>by
 have:=ok.fk y.2 (fg a);have:=ok.l16;lia
theorem wa (N:Nt):(uN N).Perm N.forks:=by
 have:=(xy (pz N)).map Prod.snd
 rwa [uM]at this
theorem qP {N:Nt}(ok:N.Ok):(y4 N).Ok:=⟨ok.l1,ok.l16,by
 show (uN N).length<=128
 rw[(wa N).length_eq];exact ok.fm,λf a=>ok.fk f ((wa N).mem_iff.mp a),ok.en⟩
theorem vd {N:Nt}(ok:N.Ok){zs:List (Int × Fk)}(p:zs.Perm (pz N))(so:zs.Pairwise (λa b=>rnk a<=rnk b)):zs=sG (pz N) :=
 ut (p.trans (xy _).symm) (λy c=>kj ok y ((xy _).mem_iff.mp c)) so (wx _)
theorem yi {H:Hp}{a:Addr}(_:H a=none)(o:HO):L2.upd H a o a=some o:=zB
def rp (H:Hp):V->Fk
 | .ref g=>match H g with
  | some (.tup [.int a,.int b])=>(a.toNat,b.toNat)
  | _=>(0,0)
 | _=>(0,0)
def dec (H:Hp):V->Int × Fk
 | .ref t=>match H t with
  | some (.tup [.int l,x])=>(l,rp H x)
  | _=>(0,(0,0))
 | _=>(0,(0,0))
theorem nn {H:Hp}{g:Addr}{f:Fk}(h:H g=some (.tup [.int f.1,.int f.2])):rp H (.ref g)=f:=by
 simp only[rp,h];obtain⟨a,b⟩:=f;simp
theorem dU {H:Hp}{t g:Addr}{l:Int}{f:Fk}(h:H t=some (.tup [.int l,.ref g]))(a:H g=some (.tup [.int f.1,.int f.2])):dec H (.ref t)=(l,f):=by
 show (match H t with|some (.tup [.int l,x])=>(l,rp H x)|_=>(0,(0,0)))=(l,f);rw[h];show (l,rp H (.ref g))=(l,f);rw[nn a]
def Trp (H:Hp)(x:V)(p:Int × Fk):Prop:=∃ t g,x=.ref t/\H t=some (.tup [.int p.1,.ref g])/\H g=some (.tup [.int p.2.1,.int p.2.2])
theorem Trp.dec {H:Hp}{x:V}{p:Int × Fk}(h:Trp H x p):dec H x=p:=by
 obtain⟨t,g,rfl,b,a⟩:=h;exact dU b a
theorem xT {i j:Int}:(compare i j=.lt↔i<j)/\(compare i j=.eq↔i=j)/\(compare i j=.gt↔j<i):=by
 rw[show compare i j=compareOfLessAndEq i j from rfl];unfold compareOfLessAndEq;by_cases b:i<j
 ·rw[Jp b];simp[b];lia
 ·rw[Jf b]
  by_cases a:i=j
  ·rw[Jp a];simp[a]
  ·rw[Jf a];simp[b,a];lia
theorem iD {i j:Int}{c:Ordering}(h:(c=.lt->i<j)/\(c=.eq->i=j)/\(c=.gt->j<i)):compare i j=c:=by
 cases c with
 | lt=>exact xT.1.mpr (h.1 rfl)
 | eq=>exact xT.2.1.mpr (h.2.1 rfl)
 | gt=>exact xT.2.2.mpr (h.2.2 rfl)
theorem aI {a b d c:Int}(j:0<=b/\b<32)(i:0<=c/\c<32):compare (a*32+b) (d*32+c)=(compare a d).then (compare b c):=by
 apply iD;have h:=@xT a d;have g:=@xT b c;cases e:compare a d<;>rw[e]at h<;>simp at h
 ·refine⟨λ_=>by lia,λz=>?_,λz=>?_⟩<;>cases z
 ·cases f:compare b c<;>rw[f]at g<;>simp at g
  ·refine⟨λ_=>by lia,λz=>?_,λz=>?_⟩<;>cases z
  ·refine⟨λz=>?_,λ_=>by lia,λz=>?_⟩<;>cases z
  ·refine⟨λz=>?_,λz=>?_,λ_=>by lia⟩<;>cases z
 ·refine⟨λz=>?_,λz=>?_,λ_=>by lia⟩<;>cases z
theorem gI {H:Hp}{n:Nat}{g g':Addr}{f a:Fk}(h:H g=some (.tup [.int f.1,.int f.2]))(h':H g'=some (.tup [.int a.1,.int a.2]))(b:f.2<32)(c:a.2<32) :
  Lx H (n+1) (.ref g) (.ref g') (compare ((f.1:Int)*32+f.2) ((a.1:Int)*32+a.2)):=by
 rw[aI (by lia) (by lia)];exact Lx.pair h h' (.int _ _ _) (.int _ _ _)
theorem eO {H:Hp}{x y:V}{p q:Int × Fk}(h:Trp H x p)(d:Trp H y q)(b:p.2.1<32/\p.2.2<32)(m:q.2.1<32/\q.2.2<32):Lx H 2 x y (compare (rnk p) (rnk q)):=by
 obtain⟨t,g,rfl,l,k⟩:=h;obtain⟨n,o,rfl,j,i⟩:=d
 have e:compare (rnk p) (rnk q)=(compare p.1 q.1).then (compare ((p.2.1:Int)*32+p.2.2) ((q.2.1:Int)*32+q.2.2)):=by
  apply iD;have c:=@xT p.1 q.1;have a:=@xT ((p.2.1:Int)*32+p.2.2) ((q.2.1:Int)*32+q.2.2);unfold rnk;cases e:compare p.1 q.1<;>rw[e]at c<;>simp at c
  ·refine⟨λ_=>by lia,λz=>?_,λz=>?_⟩<;>cases z
  ·cases f:compare ((p.2.1:Int)*32+p.2.2) ((q.2.1:Int)*32+q.2.2)<;>rw[f]at a<;>simp at a
   ·refine⟨λ_=>by lia,λz=>?_,λz=>?_⟩<;>cases z
   ·refine⟨λz=>?_,λ_=>by lia,λz=>?_⟩<;>cases z
   ·refine⟨λz=>?_,λz=>?_,λ_=>by lia⟩<;>cases z
  ·refine⟨λz=>?_,λz=>?_,λ_=>by lia⟩<;>cases z
 rw[e];exact Lx.pair l j (.int _ _ _) (gI k i b.2 m.2)
theorem iI {H:Hp}{ts ps:List V}{ls:List Int}{fs:List Fk}(z:Zip2 H ts (ls.map V.int) ps)(pr:Prs H ps fs):ts.map (dec H)=ls.zip fs/\∀ x∈ts,Trp H x (dec H x):=by
 have p:=pr.len;have j:=z.1;rw[Jg]at j
 have at_:∀ (i:Nat) t,ts[i]?=some t->∃ l f,ls[i]?=some l/\fs[i]?=some f/\Trp H t (l,f):=λi t m=>by
  obtain⟨a,x,y,rfl,c,k,o⟩:=z.2 i t m;rw[JU]at c;obtain⟨l,d,rfl⟩:=Yu.mp c;obtain⟨g,f,rfl,h,n⟩:=pr.get k;exact⟨l,f,d,h,a,g,rfl,o,n⟩
 refine⟨List.ext_getElem? λi=>?_,λx c=>?_⟩
 ·rw[JU]
  cases e:ts[i]? with
  | none =>
   have q:=Z0.mp e
   exact(Z0.mpr (by rw[ZH];lia)).symm
  | some t =>
   obtain⟨l,f,d,h,b⟩:=at_ i t e;rw[Option.map_some,b.dec];exact(YK.mpr ⟨d,h⟩).symm
 ·obtain⟨i,hi⟩:=YM.mp c
  obtain⟨l,f,_,_,b⟩:=at_ i x hi;rw[b.dec];exact b
def IsFk (H:Hp)(x:V)(f:Fk):Prop:=∃ g,x=.ref g/\H g=some (.tup [.int f.1,.int f.2])
theorem IsFk.dec {H:Hp}{x:V}{f:Fk}(h:IsFk H x f):rp H x=f:=by
 obtain⟨g,rfl,e⟩:=h;exact nn e
theorem kw {H:Hp}:∀ {ps:List V},(∀ x∈ps,IsFk H x (rp H x))->Prs H ps (ps.map (rp H))
 | [],_=>trivial
 | x::ps,h=>by
  obtain⟨g,e,b⟩:=h x JH;exact⟨⟨g,e,b⟩,kw λy a=>h y (JE _ a)⟩
theorem Prs.app {H:Hp}:∀ {ps a:List V}{fs b:List Fk},Prs H ps fs->Prs H a b->Prs H (ps++a) (fs++b)
 | [],_,[],_,_,h=>h
 | _::_,_,_::_,_,⟨x,r⟩,h=>⟨x,Prs.app r h⟩
theorem fe (N:Nt):pz N=(uV N).zip N.forks:=by
 rw[<- mV,<- uM]
 induction pz N with
 | nil=>rfl
 | cons x l ih=>rw[Yd,Yd,List.zip_cons_cons,<- ih]
end Bn
namespace Bn
open PySem L2 Own
abbrev Sn:=List Int × List Grp × List Int
abbrev Sn.none (N:Nt):Sn:=(List.replicate N.forks.length 0,[],List.replicate N.lanes 0)
end Bn
namespace L2
open PySem PySem.Spec PyProof.Rows Own
abbrev FZ (o:Obj):HO:=.frz o (.ext λ_=>True)
theorem pC {P:Program}{w:World}{H:Hp}{h:Heap}{a:Addr}{o:Obj}(e:h.get? a=some o):ObjOk P w H h a (FZ o):=⟨e,trivial,⟨o,e⟩,λ_ _ _ _=>trivial⟩
structure Lam where
 params:Arguments
 body:Expr
 scope:Scope
 qual:Str
def qu (L:Lam)(cl:List (Str × Addr))(pm:Value)(c:Addr)(ct:Value):Obj:=PySem.W.kla_obj "<lambda>" L.qual L.params L.body L.scope cl pm c ct
structure LamAt (H:Hp) (f:Addr) (L:Lam) (cl:List (Str × Addr)) (vs:List V):Prop where
 ex:∃ (pm:Value) (c:Addr) (ct:Value) (oc:Obj) (fs:Array Value) (t:Tok),H f=some (FZ (qu L cl pm c ct))/\H c=some (FZ oc)/\oc.data=.fields fs/\fs[1]?=some (.str L.qual t)
 len:cl.length=vs.length
 cell:∀ (i:Nat) x c v,cl[i]?=some (x,c)->vs[i]?=some v->∃ o u,H c=some (FZ o)/\o.data=.cell (some u)/\RelV v u
 nd1:(cl.map (·.1)).Nodup
 nd2:(cl.map (·.2)).Nodup
theorem LamAt.frz {H H':Hp}{f:Addr}{L:Lam}{cl:List (Str × Addr)}{vs:List V}(h:LamAt H f L cl vs)(z:∀ b o u,H b=some (.frz o u)->H' b=some (.frz o u)):LamAt H' f L cl vs:=by
 obtain⟨pm,c,p,j,fs,t,n,m,l,k⟩:=h.ex;refine⟨⟨pm,c,p,j,fs,t,z _ _ _ n,z _ _ _ m,l,k⟩,h.len,λi x c v a b=>?_,h.nd1,h.nd2⟩;obtain⟨o,u,g,e,d⟩:=h.cell i x c v a b;exact⟨o,u,z _ _ _ g,e,d⟩
def strip (cl:List (Str × Addr))(H:Hp):Hp:=λb=>if b∈cl.map (·.2) then none else H b
def back (cl:List (Str × Addr))(H H':Hp):Hp:=λb=>if b∈cl.map (·.2) then H b else H' b
theorem x6 {cl:List (Str × Addr)}{H:Hp}{b:Addr}(h:b∈cl.map (·.2)):strip cl H b=none:=Jp h
theorem yB {cl:List (Str × Addr)}{H:Hp}{b:Addr}(h:b∉cl.map (·.2)):strip cl H b=H b:=Jf h
theorem qD {cl:List (Str × Addr)}{H H':Hp}{b:Addr}(h:b∈cl.map (·.2)):back cl H H' b=H b:=Jp h
theorem xH {cl:List (Str × Addr)}{H H':Hp}{b:Addr}(h:b∉cl.map (·.2)):back cl H H' b=H' b:=Jf h
theorem pX {cl:List (Str × Addr)}{H:Hp}{b:Addr}{o:HO}(h:strip cl H b=some o):b∉cl.map (·.2)/\H b=some o:=by
 by_cases c:b∈cl.map (·.2)
 ·rw[x6 c]at h;cases h
 ·rw[yB c]at h;exact⟨c,h⟩
def CellsFz (cl:List (Str × Addr))(H:Hp):Prop:=∀ b∈cl.map (·.2),∃ o,H b=some (FZ o)
theorem LamAt.fz {H:Hp}{f:Addr}{L:Lam}{cl:List (Str × Addr)}{vs:List V}(h:LamAt H f L cl vs):CellsFz cl H:=λb k=>by
 obtain⟨⟨x,c⟩,j,rfl⟩:=JJ.mp k;obtain⟨i,a,e⟩:=Yn.mp j;have g:i<vs.length:=by rw[<- h.len];exact a
 obtain⟨o,u,d,_⟩:=h.cell i x c vs[i] (by rw[J8 a,e]) (J8 g);exact⟨o,d⟩
section
variable {P:Program}{w:World}{H H':Hp}{h h':Heap}{cl:List (Str × Addr)}
theorem sJ (x:HOk P w H h)(fz:CellsFz cl H):HOk P w (strip cl H) h:=λb u e=>by
 obtain⟨nb,f⟩:=pX e
 have keep:∀ {c:Addr}{o:HO},H c=some o->(∀ q,o≠FZ q)->strip cl H c=some o:=λ{c o} z n=>by
  rw[yB];· exact z
  ·intro d
   obtain⟨q,a⟩:=fz c d;rw[z]at a;exact n q (Jr a)
 exact(x b u f).stay (λc v _ q=>q) (λc q=>keep q λz y=>by cases y) λc g q=>keep q λz y=>by cases y
theorem iN {fs:List Addr}(un:Un fs [] (strip cl H) H' h h')(fz:CellsFz cl H)(k:∀ b∈fs,H b=none)(there:∀ b o,H b=some (FZ o)->h.get? b=some o)(low:∀ b∈cl.map (·.2),H' b=none)(ok:HOk P w H' h'):Un fs [] H (back cl H H') h h'/\HOk P w (back cl H H') h':=by
 have d:∀ {b:Addr},H b=none->b∉cl.map (·.2):=λe a=>by
  obtain⟨o,q⟩:=fz _ a;rw[e]at q;cases q
 have kept:∀ b∈cl.map (·.2),∀ o,h.get? b=some o->h'.get? b=some o:=λb a o e=>un.keep b o e (x6 a) (λz=>d (k b z) a) (by simp)
 have f:∀ {b:Addr}{o:HO},H b=some o->(∀ q,o≠FZ q)->b∉cl.map (·.2):=λz n a=>by
  obtain⟨q,i⟩:=fz _ a;rw[z]at i;exact n q (Jr i)
 refine⟨⟨λb o e n x y=>un.keep b o e (by rw[yB (d n)];exact n) x y,λb o e n x y=>un.slot b o e (by rw[yB (d n)];exact n) x y,λb o e n y=>?_,un.there,λb g e=>?_,λb o u e=>?_,λb j e=>?_⟩,λb u e=>?_⟩
 ·rw[xH (d n)]
  exact un.free b o e (by rw[yB (d n)];exact n) y
 ·have nb:=f e λq z=>by cases z
  rw[xH nb];exact un.tups b g (by rw[yB nb];exact e)
 ·by_cases c:b∈cl.map (·.2)
  ·rw[qD c];exact e
  ·rw[xH c];exact un.frzs b o u (by rw[yB c];exact e)
 ·have nb:=f e λq z=>by cases z
  rw[xH nb];exact un.tbls b j (by rw[yB nb];exact e)
 ·by_cases c:b∈cl.map (·.2)
  ·rw[qD c]at e
   obtain⟨o,q⟩:=fz b c;rw[q]at e;cases e;exact pC (kept b c o (there b o q))
  ·rw[xH c]at e
   have old:∀ {x:Addr}{o:HO},H' x=some o->back cl H H' x=some o:=λ{x o} z=>by
    rw[xH];· exact z
    ·intro l
     rw[low x l]at z;cases z
   exact(ok b u e).stay (λx v _ q=>q) (λx q=>old q) λx g q=>old q
end
def nA (L:Lam)(cl:List (Str × Addr))(a f c:Addr):Env:={ scope:=L.scope,locals:=a,globals:=mainGlobals,cells:=cl,qual:=L.qual++".<locals>.",func:=some f,code:=.ref c,frame:=some a,builtins:=builtinsNs }
def iA (CX:CXT)(P:Program)(w:World)(K:PySem.W.Frag)(mg:Str->Option Value)(base:Heap)(N:List Str)(L:Lam)(cl:List (Str × Addr))(f c:Addr)(A:Around)(outer:List Env)(s:Shared)(H:Hp)(E:XK):Cx where
 prog:=P
 w:=w
 K:=K
 mg:=mg
 base:=base
 A:=A.deeper (nA L cl s.heap.objs.size f c)
 N:=N
 s₀:=s
 H₀:=strip cl H
 env:=nA L cl s.heap.objs.size f c
 outer:=outer
 stack:=nA L cl s.heap.objs.size f c::outer
 ex:=[]
 calm:=true
 fn:=λ_=>false
 pn:=[]
 xe:=λe b=>wpAny (model P w) (A.deeper (nA L cl s.heap.objs.size f c)) (leaving (nA L cl s.heap.objs.size f c) e) (λ_ a=>CX outer H s E e a) (λd a=>CX outer H s E d a) b
structure LamScope (ps fr:List Str) (sc:Scope):Prop where
 kind:sc.kind=.function
 co:sc.isCoroutine=false
 gen:sc.isGenerator=false
 nd:(ps++fr).Nodup
 par:∀ x∈ps,sc.names.lookup x=some .local
 fre:∀ x∈fr,sc.names.lookup x=some .free
 noc:∀ y∈sc.names,y.2≠.cell
 all:∀ x,sc.names.lookup x=some .free->x∈fr
section
variable {CX:CXT}{P:Program}{w:World}{K:PySem.W.Frag}{mg:Str->Option Value}{base:Heap}{L:Lam}{cl:List (Str × Addr)}{vals vs:List V}{ps:List Str}{f c:Addr}{A:Around}{outer:List Env}{s:Shared}{H:Hp}{us:List Value}{E:XK}
theorem nV {cl:List (Str × Addr)}(nd:(cl.map (·.1)).Nodup):∀ {i:Nat}{x:Str}{c:Addr},cl[i]?=some (x,c)->cl.lookup x=some c:=by
 induction cl with
 | nil=>intro i x c h;cases h
 | cons p r ih =>
  intro i x c h;rw[Yd,JP]at nd
  cases i with
  | zero =>
   cases Jr h
   rw[Ys,beq_self_eq_true]
  | succ i =>
   have m:=Jz (show r[i]?=some (x,c) from h);rw[Ys,show (x == p.1)=false from YT.mpr λz=>nd.1 (JJ.mpr ⟨_,m,z⟩)];exact ih nd.2 (show r[i]?=some (x,c) from h)
theorem oO {ps:List Str}{us:List Value}(nd:ps.Nodup)(d:us.length=ps.length){i:Nat}{x:Str}{u:Value}(b:ps[i]?=some x)(c:us[i]?=some u):(ps.zip us).reverse.lookup x=some u:=by
 have a:((ps.zip us).reverse.map (·.1)).Nodup:=by
  rw[List.map_reverse,List.map_fst_zip (by lia)];exact List.pairwise_reverse.mpr (nd.imp λh=>h.symm)
 have m:(x,u)∈(ps.zip us).reverse:=List.mem_reverse.mpr (Jz (i:=i) (by rw[YK];exact⟨b,c⟩));generalize (ps.zip us).reverse=l at a m
 induction l with
 | nil=>cases m
 | cons p r ih =>
  rw[Yd,JP]at a;rcases Ja.mp m with e|z
  ·rw[<- e,Ys,beq_self_eq_true]
  ·rw[Ys,show (x == p.1)=false from YT.mpr λy=>a.1 (JJ.mpr ⟨_,z,y⟩)]
   exact ih a.2 z
theorem gT {h':Heap}{tk:Nat}(S:LamScope ps (cl.map (·.1)) L.scope)(hd:A.handled=none)(g:Env0 P w K mg base A outer s H)(la:LamAt H f L cl vals)(r:Vals vs us)(J:vs.length=ps.length)(ns:h'.Ns s.heap.objs.size (λx=>(ps.zip us).reverse.lookup x))(kp:∀ b o,s.heap.get? b=some o->h'.get? b=some o) :
  Inv (iA CX P w K mg base (ps++cl.map (·.1)) L cl f c A outer s H E) [] ((vs++vals).map some) (strip cl H) { s with heap:=h',toks:=tk }:=by
 have fz:=la.fz;have O:=List.nodup_append.mp S.nd;have ul:us.length=ps.length:=by rw[<- r.length];exact J
 have d:∀ {x:Str}{a:Addr},cl.lookup x=some a->(x,a)∈cl:=λh=>Z7 h
 have cellOf:∀ {x:Str}{a:Addr},(x,a)∈cl->∃ (i:Nat) (v:V) (o:Obj) (u:Value),cl[i]?=some (x,a)/\vals[i]?=some v/\H a=some (FZ o)/\o.data=.cell (some u)/\RelV v u/\s.heap.get? a=some o:=λ{x a} m=>by
  obtain⟨i,t,e⟩:=Yn.mp m;have R:cl[i]?=some (x,a):=by rw[J8 t,e]
  have Q:i<vals.length:=by rw[<- la.len];exact t
  obtain⟨o,u,C,B,F⟩:=la.cell i x a vals[i] R (J8 Q);exact⟨i,_,o,u,R,J8 Q,C,B,F,(g.hok a _ C).1⟩
 refine⟨⟨g.mod,S.kind,rfl,rfl,Je _,λy z a k n=>?_,λy G=>?_,λy a q=>(by cases q),λ_=>hd,Around.frames_deeper g.frames,.inr ⟨rfl,rfl⟩,λb z=>(Jc z).elim,λb o e=>⟨(g.bs b o e).1,?_⟩,g.bsz,λb _ _=>Jc,λb z=>(Jc z).elim,g.funs,λb hb=>?_⟩,
  rfl,g.bare,Un.kept kp,⟨_,ns,λi y v k n h3=>?_⟩,λy a h=>?_,?_,λy a h=>x6 (JJ.mpr ⟨_,d h,rfl⟩),λp I=>(Jc I).elim,(sJ g.hok fz).kept kp,?_⟩
 ·-- one cell,one name
  have X:=d k;have W:=d n;obtain⟨i,t,D⟩:=Yn.mp X;obtain⟨j,Y,M⟩:=Yn.mp W;have:i=j:=(List.getElem_inj (h₀:=by rw[Jg];exact t) (h₁:=by rw[Jg];exact Y) la.nd2).mp (by rw[List.getElem_map,List.getElem_map,D,M]);subst this;rw[D]at M;exact JV Prod.fst M
 ·have G:L.scope.names.lookup y=some .cell\/L.scope.names.lookup y=some .free:=G
  rcases G with q|q
  ·exact absurd rfl (S.noc _ (Z7 q))
  ·obtain⟨p,I,e⟩:=JJ.mp (S.all y q)
   obtain⟨i,t,D⟩:=Yn.mp I;exact⟨p.2,nV la.nd1 (i:=i) (by rw[J8 t,D,<- e])⟩
 ·show strip cl H b=none
  unfold strip;split
  ·rfl
  ·exact(g.bs b o e).2
 ·show strip cl H b=none
  unfold strip;split
  ·rfl
  ·exact g.frf b hb
 ·have l:(vs++vals)[i]?=some v:=by
   rw[JU]at n
   cases e:(vs++vals)[i]? with
   | none=>rw[e]at n;cases n
   | some z=>rw[e]at n;cases n;rfl
  replace k:(ps++cl.map (·.1))[i]?=some y:=k;by_cases ci:i<vs.length
  ·rw[YJ ci]at l
   rw[YJ (by lia)]at k;obtain⟨u,Z,T⟩:=r.get l;exact⟨u,T,.inl ⟨S.par y (Jz k),oO O.1 ul k Z⟩⟩
  ·rw[YE (by lia)]at l
   rw[YE (by lia),JU,<- J]at k;obtain⟨⟨x,a⟩,N,rfl⟩:=Yu.mp k;obtain⟨o,u,C,B,F⟩:=la.cell _ x a v N l;exact⟨u,F,.inr ⟨.inr (S.fre x (JJ.mpr ⟨_,Jz N,rfl⟩)),a,nV la.nd1 N,o,kp _ _ (g.hok a _ C).1,B⟩⟩
 ·obtain⟨i,v,o,u,_,_,_,B,_,U⟩:=cellOf (d h)
  exact⟨some u,o,kp _ _ U,B⟩
 ·show strip cl H s.heap.objs.size=none
  unfold strip;split
  ·rfl
  ·exact g.hok.fresh (Je _)
 ·show ((vs++vals).map some).length=(ps++cl.map (·.1)).length
  rw[Jg,Jd,Jd,Jg,J,la.len]
end
theorem pL {sc:Scope}{env:Env}(h:∀ x,(x,NameKind.free)∈sc.names->∃ c,env.cells.lookup x=some c) :
  ∃ cl,closureFor sc env=pure cl/\cl.map (·.1)=((sc.names.filter λy=>y.2 == .free).map (·.1)).reverse/\∀ p∈cl,env.cells.lookup p.1=some p.2:=by
 unfold closureFor
 have key:∀ (l:List (Str × NameKind)) (acc:List (Str × Addr)),(∀ x,(x,NameKind.free)∈l->∃ c,env.cells.lookup x=some c)->(∀ p∈acc,env.cells.lookup p.1=some p.2) ->
   ∃ cl,(forIn l acc λ(y:Str × NameKind) (r:List (Str × Addr))=>(match y with|(name,kind)=>if (kind == NameKind.free)=true then do let a <- cellOf env name;pure (ForInStep.yield ((name,a)::r)) else pure (ForInStep.yield r):Sem (ForInStep (List (Str × Addr)))))=pure cl/\cl.map (·.1)=((l.filter λy=>y.2 == .free).map (·.1)).reverse++acc.map (·.1)/\∀ p∈cl,env.cells.lookup p.1=some p.2:=by
  intro l
  induction l with
  | nil=>intro acc _ e;exact⟨acc,rfl,rfl,e⟩
  | cons y l ih =>
   intro acc j e;obtain⟨x,f⟩:=y;rw[Yq];by_cases c:(f == NameKind.free)=true
   ·have n:f=.free:=by
     cases f<;>first|rfl|cases c
    subst n;obtain⟨a,k⟩:=j x (.head _)
    obtain⟨cl,d,e2,b⟩:=ih ((x,a)::acc) (λz g=>j z (.tail _ g)) (λp i=>by
     rcases Ja.mp i with rfl|q
     ·exact k
     ·exact e p q)
    refine⟨cl,?_,?_,b⟩
    ·have o:cellOf env x=pure a:=by unfold cellOf;rw[k]
     simp only[o,pure_bind];exact d
    ·rw[e2,List.filter_cons,Jp (show ((x,NameKind.free).2 == NameKind.free)=true from rfl),Yd (l:=List.filter _ l),List.reverse_cons,Y7];rfl
   ·obtain⟨cl,d,e2,b⟩:=ih acc (λz g=>j z (.tail _ g)) e
    refine⟨cl,?_,?_,b⟩
    ·simp only[c,pure_bind]
     exact d
    ·rw[e2,List.filter_cons,Jf c]
 obtain⟨cl,d,e2,b⟩:=key sc.names [] h (λp i=>(Jc i).elim);refine⟨cl,?_,by rw[e2,List.map_nil,Yi],b⟩;have s:=JV (λ(m:Sem (List (Str × Addr)))=>m >>= λr=>pure r) d;exact s.trans (pure_bind _ _)
def TabOk (H:Hp)(qual:Str)(l:List (Pos × Addr)):Prop:=∀ p∈l,∃ (a:Obj) (fs:Array Value) (t:Tok),H p.2=some (FZ a)/\a.data=.fields fs/\fs[1]?=some (.str qual t)
theorem TabOk.frz {H H':Hp}{qual:Str}{l:List (Pos × Addr)}(h:TabOk H qual l)(z:∀ b o u,H b=some (.frz o u)->H' b=some (.frz o u)):TabOk H' qual l:=λp c=>by
 obtain⟨a,fs,t,e,d⟩:=h p c;exact⟨a,fs,t,z _ _ _ e,d⟩
theorem uq (pos:Pos):∀ l:List (Pos × Addr),codeAmong pos (triples l)=none\/∃ p∈l,codeAmong pos (triples l)=some (.ref p.2)
 | []=>.inl rfl
 | (q,a)::l=>by
  show (if (((q.line:Int) == pos.line && (q.col:Int) == pos.col)=true) then some (Value.ref a) else codeAmong pos (triples l))=none\/∃ p∈(q,a)::l,(if (((q.line:Int) == pos.line && (q.col:Int) == pos.col)=true) then some (Value.ref a) else codeAmong pos (triples l))=some (.ref p.2);split
  ·exact .inr ⟨_,.head _,rfl⟩
  ·rcases uq pos l with h|⟨p,b,h⟩
   ·exact .inl h
   ·exact .inr ⟨p,.tail _ b,h⟩
theorem wX:∀ l:List (Pos × Addr),TriplesOk (triples l)
 | []=>trivial
 | (q,a)::l=>wX l
structure CodeK (K:PySem.W.Frag) (mg:Str->Option Value) (base:Heap) (c P:Addr):Prop where
 hd:PySem.W.codeHdIn K c P=true
 blt:base.BuiltinsAt mg P
 gP:mainGlobals≠P
structure LamRaw (H:Hp) (f:Addr) (L:Lam) (cl:List (Str × Addr)):Prop where
 ex:∃ (pm:Value) (c:Addr) (ct:Value) (oc:Obj) (fs:Array Value) (t:Tok),H f=some (FZ (qu L cl pm c ct))/\H c=some (FZ oc)/\oc.data=.fields fs/\fs[1]?=some (.str L.qual t)
def CellsOf (env:Env)(cl:List (Str × Addr)):Prop:=∀ p∈cl,env.cells.lookup p.1=some p.2
def bO (env:Env)(P:Addr)(L:Lam)(fr:List Str):TE:=λ_ H Q=>∃ l,H P=some (.tbl (triples l).toArray)/\TabOk H L.qual l /\
 ∀ f cl c a,cl.map (·.1)=fr->CellsOf env cl->H f=none->LamRaw a f L cl->a P=some (.tbl (triples c).toArray)->TabOk a L.qual c->(∀ b o,H b=some o->b≠P->a b=some o)->Q (.ref f) a
section
variable {X:Cx}{pins:List (Addr × Obj)}{σ:St}{H:Hp}{s:Shared}{h':Heap}
theorem Inv.tab {P:Addr}{ps more:Array Value}{tk:Nat}(I:Inv X pins σ H s)(d:H P=some (.tbl ps))(k:Heap.ExtBut P s.heap h')(new:h'.get? P=some (PySem.W.tabObj (ps++more))):Inv X pins σ (upd H P (.tbl (ps++more))) { s with heap:=h',toks:=tk }:=by
 have ne:∀ {b:Addr},H b=none->b≠P:=λe z=>by rw[z,d]at e;cases e
 have a:∀ {b:Addr}{o:HO},H b=some o->(∀ q,o≠.tbl q)->upd H P (.tbl (ps++more)) b=some o:=λ{b o} e n=>by
  rw[zJ];· exact e
  ·intro z
   rw[z,d]at e;exact n ps (Jr e).symm
 refine I.step (g':=s.gens) (d':=s.drawn) (ch:=[]) (λb j=>(Jc j).elim) (λb o _ _ _ e n=>k b o (ne n) e) (λb o _ _ _ e n=>⟨o.slots,k b o (ne n) e⟩) (λb o _ e n=>by rw[zJ (ne n)];exact n) (λb o _ e=>?_) (λb f e=>a e λq z=>by cases z) (λb o u e=>a e λq z=>by cases z) (λb t e=>?_) (λm i=>?_) (λb u e=>?_) I.bare
 ·by_cases c:b=P
  ·subst c;exact⟨_,new⟩
  ·exact⟨o,k b o c e⟩
 ·by_cases c:b=P
  ·subst c
   rw[d]at e;cases e;exact⟨more,zB⟩
  ·exact⟨#[],by rw[zJ c,e];simp⟩
 ·obtain⟨o,l,p,h,r⟩:=i
  exact⟨o,l,p,k _ o (ne I.free) h,r⟩
 ·by_cases c:b=P
  ·subst c
   rw[zB]at e;cases e;exact new
  ·rw[zJ c]at e
   refine(I.hok b u e).stay (λx v g q=>k x v ?_ q) (λx q=>a q λz y=>by cases y) λx f q=>a q λz y=>by cases y
   rcases g with z|z
   ·rw[z];exact c
   ·rintro rfl
    rw[d]at z;cases z
theorem jH {params:Arguments}{body:Expr}{scope:Scope}{pos:Pos}{c P:Addr}{fr:List Str}(N:CodeK X.K X.mg X.base c P)(i:X.env.code=.ref c)(B:defaultsOf params X.env=([],[]))(r:∀ x,(x,NameKind.free)∈scope.names->X.env.kindOf x=some .cell\/X.env.kindOf x=some .free)(S:((scope.names.filter λy=>y.2 == .free).map (·.1)).reverse=fr) :
  PE X (.Lambda params body scope pos) (bO X.env P ⟨params,body,scope,X.env.qual++"<lambda>"⟩ fr):=by
 intro pins s σ H Q I h;obtain⟨l,w,tok,q⟩:=h;obtain⟨cl,A,m,z⟩:=pL (sc:=scope) (env:=X.env) λx hx=>I.ok.has x (r x hx);rw[S]at m;have Y:s.heap.Ns mainGlobals X.mg:=I.mod.glob.keeps I.bk;have Z:s.heap.BuiltinsAt X.mg P:=N.blt.keeps I.bk;have C:=PySem.W.codeHd_of_K I.kIn N.hd;have E:s.heap.get? P=some (PySem.W.tabObj (triples l).toArray):=I.hok P _ w;refine PySem.W.kla_eval B ?_;rcases uq pos l with hn|⟨p,K,hy⟩
 ·refine PySem.W.kla_makeFunction A I.ok.glob Y i C E (by rw[List.toList_toArray];exact wX l) (by rw[List.toList_toArray];exact hn) N.gP Z λd f h' tk ex lo hi cr U=>?_
  obtain⟨c2,j,fs,t,ec,g1,g2,g3⟩:=cr;cases ec;have V:P<s.heap.objs.size:=Jb E;have sz:s.heap.objs.size<=h'.objs.size:=JR lo (Nat.le_of_lt hi);have cP:d≠P:=JQ (JD V lo);have fP:h'.objs.size≠P:=JQ (JD V sz);have M:d≠h'.objs.size:=JB hi
  have L:(triples l).toArray++#[rawInt pos.line,rawInt pos.col,.ref d]=(triples (l++[(pos,d)])).toArray:=by
   rw[triples_append];simp
  rw[L]at U;have D:=I.tab (tk:=tk) (h':=h'.push (qu ⟨params,body,scope,X.env.qual++"<lambda>"⟩ cl ((X.mg "__name__").getD .none) d f)) (more:=#[rawInt pos.line,rawInt pos.col,.ref d]) w (λb o n e=>J6 _ (ex b o n e)) (by rw[L];exact J6 _ U);rw[L]at D;have W:H d=none:=I.hok.fresh lo;have J:H h'.objs.size=none:=I.hok.fresh sz;have m1:upd H P (.tbl (triples (l++[(pos,d)])).toArray) d=none:=by rw[zJ cP];exact W
  have I2:=D.adopt (o:=FZ j) (I.fpOk lo m1) (pC (J6 _ g1));have m2:upd (upd H P (.tbl (triples (l++[(pos,d)])).toArray)) d (FZ j) h'.objs.size=none:=by rw[zJ M.symm,zJ fP];exact J
  have I3:=I2.adopt (o:=FZ (qu ⟨params,body,scope,X.env.qual++"<lambda>"⟩ cl ((X.mg "__name__").getD .none) d f)) (I.fpOk sz m2) (pC (JA _ rfl))
  have keep:∀ b o,H b=some o->b≠P->upd (upd (upd H P (.tbl (triples (l++[(pos,d)])).toArray)) d (FZ j)) h'.objs.size (FZ (qu ⟨params,body,scope,X.env.qual++"<lambda>"⟩ cl ((X.mg "__name__").getD .none) d f)) b=some o:=λb o e n=>by
   rw[zJ (zH e J),zJ (zH e W),zJ n];exact e
  refine⟨.ref h'.objs.size,_,I3,rfl,q _ cl (l++[(pos,d)]) _ m z J ⟨_,d,f,j,fs,t,zB,by rw[zJ M];exact zB,g2,g3⟩ (by rw[zJ fP.symm,zJ cP.symm];exact zB) (λp K=>?_) keep⟩;rcases Ju.mp K with O|is
  ·obtain⟨R,T,t',v,G,F⟩:=tok p O
   exact⟨R,T,t',keep _ _ v (xL v w (λy=>by cases y)),G,F⟩
  ·rw[Js.mp is]
   exact⟨j,fs,t,by rw[zJ M];exact zB,g2,g3⟩
 ·obtain⟨j,fs,t,v,G,F⟩:=tok p K
  refine PySem.W.kla_makeFunctionHit A I.ok.glob Y i C E (by rw[List.toList_toArray];exact wX l) (by rw[List.toList_toArray];exact hy) Z λf h' tk k sz=>?_;have kk:∀ b o,s.heap.get? b=some o->(h'.push (qu ⟨params,body,scope,X.env.qual++"<lambda>"⟩ cl ((X.mg "__name__").getD .none) p.2 f)).get? b=some o:=λb o e=>J6 _ (k b o e);have g:=I.hok.fresh (a:=h'.objs.size) sz;have D:=I.laid (a:=h'.objs.size) (o:=FZ (qu ⟨params,body,scope,X.env.qual++"<lambda>"⟩ cl ((X.mg "__name__").getD .none) p.2 f)) (t':=tk) kk sz (pC (JA _ rfl));refine⟨.ref h'.objs.size,_,D,rfl,q _ cl l _ m z g ⟨_,p.2,f,j,fs,t,zB,by rw[zJ (zH v g)];exact v,G,F⟩ (by rw[zJ (zH w g)];exact w) (tok.frz λb o u e=>by rw[zJ (zH e g)];exact e) λb o e _=>by rw[zJ (zH e g)];exact e⟩
end
def CellsAt (H:Hp)(cs:List (Str × Addr))(vals:List V):Prop:=cs.length=vals.length/\∀ (i:Nat) x c v,cs[i]?=some (x,c)->vals[i]?=some v->∃ o u,H c=some (FZ o)/\o.data=.cell (some u)/\RelV v u
theorem CellsAt.fz {H:Hp}{cs:List (Str × Addr)}{vals:List V}(h:CellsAt H cs vals):CellsFz cs H:=λb j=>by
 obtain⟨⟨x,c⟩,g,rfl⟩:=JJ.mp j;obtain⟨i,a,e⟩:=Yn.mp g;have f:i<vals.length:=by rw[<- h.1];exact a
 obtain⟨o,u,d,_⟩:=h.2 i x c vals[i] (by rw[J8 a,e]) (J8 f);exact⟨o,d⟩
theorem LamRaw.at_ {H:Hp}{f:Addr}{L:Lam}{cl cs:List (Str × Addr)}{vals ws:List V}(r:LamRaw H f L cl)(h:CellsAt H cs vals)(n1:(cl.map (·.1)).Nodup)(d:(cl.map (·.2)).Nodup)(len:cl.length=ws.length)(sub:∀ (i:Nat) x c v,cl[i]?=some (x,c)->ws[i]?=some v->∃ j:Nat,cs[j]?=some (x,c)/\vals[j]?=some v):LamAt H f L cl ws:=by
 refine⟨r.ex,len,λi x c v a b=>?_,n1,d⟩;obtain⟨j,e,e2⟩:=sub i x c v a b;exact h.2 j x c v e e2
def g7 (env:Env)(xs:List (Str × Nat))(sp:Sp)(E:XK)(t:TA):TE:=λσ H Q=>t σ H λd c=>∃ vals:List V,vals.length=xs.length/\(∀ (j:Nat) x i v,xs[j]?=some (x,i)->vals[j]?=some v->σ[i]?=some (some v)) /\
 ∀ cs a,cs.map (·.1)=xs.map (·.1)->CellsOf env cs->(cs.map (·.2)).Nodup->CellsAt a cs vals->(∀ b,b∉cs.map (·.2)->a b=c b)->(∀ b∈cs.map (·.2),c b=none)->sp d a (λv e=>Q v (strip cs e)) E
section
variable {X:Cx}{pins:List (Addr × Obj)}{σ:St}{H:Hp}{s:Shared}
theorem Inv.cells {xs:List (Str × Nat)}{vals:List V}(I:Inv X pins σ H s)(nd:(xs.map (·.1)).Nodup)(y:∀ p∈xs,X.N[p.2]?=some p.1/\X.env.scope.names.lookup p.1=some .cell/\X.fn p.1=true)(n:vals.length=xs.length)(k:∀ (j:Nat) x i v,xs[j]?=some (x,i)->vals[j]?=some v->σ[i]?=some (some v)):∃ cs:List (Str × Addr),cs.map (·.1)=xs.map (·.1)/\CellsOf X.env cs/\(cs.map (·.2)).Nodup/\cs.length=vals.length /\
   ∀ (j:Nat) x c v,cs[j]?=some (x,c)->vals[j]?=some v->∃ o u,s.heap.get? c=some o/\o.data=.cell (some u)/\RelV v u/\X.s₀.heap.objs.size<=c:=by
 induction xs generalizing vals with
 | nil =>
  cases vals with
  | nil=>exact⟨[],rfl,λp K=>(Jc K).elim,List.nodup_nil,rfl,λj x c v h=>by cases h⟩
  | cons a b=>cases n
 | cons p xs ih =>
  cases vals with
  | nil=>cases n
  | cons t vals =>
   rw[Yd,JP]at nd;obtain⟨cs,B,A,Q,P,O⟩:=ih (vals:=vals) nd.2 (λq f=>y q (.tail _ f)) (by simpa using n) (λj x i v a b=>k (j+1) x i v a b);obtain⟨d,l⟩:=p;obtain⟨G,w,F⟩:=y (d,l) (.head _);have J:=k 0 d l t rfl rfl;obtain⟨m,S,lo⟩:=I.loc;obtain⟨u,C,D⟩:=lo l d t G J (.inr (.inl w));rcases D with ⟨E,_⟩|⟨_,c,r,o,L,N⟩
   ·have g:X.env.scope.names.lookup d=some .local:=E
    rw[w]at g;cases g
   refine⟨(d,c)::cs,by rw[Yd,Yd,B],λq f=>?_,?_,by rw[Ya,Ya,P],λj x R v a b=>?_⟩
   ·rcases Ja.mp f with rfl|z
    ·exact r
    ·exact A q z
   ·rw[Yd,JP]
    refine⟨λM=>?_,Q⟩;obtain⟨q,f,e⟩:=JJ.mp M;have:=I.ok.inj q.1 d c (by rw[A q f];exact JV some e) r;exact nd.1 (by rw[<- B,<- this];exact JJ.mpr ⟨q,f,rfl⟩)
   ·cases j with
    | zero =>
     cases Jr a;cases Jr b
     exact⟨o,u,L,N,C,I.ok.cab d c F r⟩
    | succ j=>exact O j x R v a b
variable {k:Nat}{f:Addr}{fd:FuncData}{ps:List Str}{sp:Sp}{x:Str}{p pos:Pos}{e:Expr}{es:List Expr}{t:TA}{E:XK}
theorem jJ (F:FnOk X.prog X.w X.K X.mg X.base CX0 k f fd ps sp) (hr:Room k X.A) (hg:Gl X x) (hm:X.mg x=some (.ref f)) (T:PySem.W.keepIn X.K (.ref f)=true) (hb:Binds X.K fd ps []) (xs:List (Str × Nat)) (nd:(xs.map (·.1)).Nodup)
  (hk:∀ p∈xs,X.N[p.2]?=some p.1/\X.env.scope.names.lookup p.1=some .cell/\X.fn p.1=true) (ha:PA X (e::es) t) (U:(x == ("__debug__":Str))=false:=by decide) (he:starEach (e::es) X.env=(false,eval e X.env)::starEach es X.env:=by rfl) (S:(backTo pos (starEach es X.env)).any (·.1)=false:=by rfl) :
  PE X (.Call (.Name x p) (e::es) [] pos) (g7 X.env xs sp E t):=by
 intro pins s σ H Q I h;refine YV (rZ I hg hm ?_ U);refine PySem.W.callWith_K (h₀:=X.base) I.ok.mod.kin T (thn (ha pos pins s σ H _ I h) λM m ⟨vs,K,l,r,vals,vl,R,q⟩=>⟨l.kIn,?_⟩) he S;obtain⟨cs,c1,c2,c3,Z,Y⟩:=l.cells nd hk vl R
 have cell:∀ b∈cs.map (·.2),∃ y o u,X.env.cells.lookup y=some b/\m.heap.get? b=some o/\o.data=.cell (some u)/\X.s₀.heap.objs.size<=b:=λb hb=>by
  obtain⟨⟨y,c⟩,D,rfl⟩:=JJ.mp hb;obtain⟨j,W,ej⟩:=Yn.mp D;have jv:j<vals.length:=by rw[<- Z];exact W
  obtain⟨o,u,G,N,_,g4⟩:=Y j y c vals[j] (by rw[J8 W,ej]) (J8 jv);exact⟨y,o,u,c2 (y,c) D,G,N,g4⟩
 have free:∀ b∈cs.map (·.2),K b=none:=λb hb=>by
  obtain⟨y,o,u,O,_⟩:=cell b hb;exact l.freeC y b O
 have nofr:∀ b∈cs.map (·.2),b∉frs X.stack:=λb hb hf=>by
  obtain⟨y,o,u,O,_,_,lo⟩:=cell b hb;rcases Ja.mp (l.stkSub b hf) with z|z
  ·exact l.cne y b O z
  ·obtain⟨_,o',ho,_⟩:=l.ok.funs.mem z
   exact absurd (JD (Jb ho) lo) (Yp _)
 let B:Hp:=λb=>if b∈cs.map (·.2) then (m.heap.get? b).map FZ else K b
 have C:∀ {b:Addr}{o:Obj},b∈cs.map (·.2)->m.heap.get? b=some o->B b=some (FZ o):=λ{b o} hb e=>by
  show (if b∈cs.map (·.2) then (m.heap.get? b).map FZ else K b)=_;rw[Jp hb,e];rfl
 have d:∀ b,b∉cs.map (·.2)->B b=K b:=λb hb=>Jf hb
 have g:∀ {b:Addr}{o:HO},K b=some o->B b=some o:=λ{b o} e=>by
  rw[d b λhb=>by rw[free b hb]at e;cases e];exact e
 have ca:CellsAt B cs vals:=⟨Z,λi y c v a b=>by
  obtain⟨o,u,G,N,g3,_⟩:=Y i y c v a b
  exact⟨o,u,C (JJ.mpr ⟨_,Jz a,rfl⟩) G,N,g3⟩⟩
 have P:HOk X.prog X.w B m.heap:=λb u e2=>by
  by_cases hb:b∈cs.map (·.2)
  ·obtain⟨y,o,u',_,G,_⟩:=cell b hb
   rw[C hb G]at e2;cases e2;exact pC G
  ·rw[d b hb]at e2
   exact(l.hok b u e2).stay (λ_ _ _ z=>z) (λ_ z=>g z) λ_ _ z=>g z
 have A:=l.env0;have e2:Env0 X.prog X.w X.K X.mg X.base X.A X.stack m B:=⟨A.frames,A.mod,λb o z=>⟨(A.bs b o z).1,?_⟩,A.bsz,A.funs,λb hb=>?_,P,A.bare⟩
 rotate_left
 ·rw[d b λD=>?_];· exact(A.bs b o z).2
  ·obtain⟨y,o',u,_,_,_,lo⟩:=cell b D
   exact absurd (JD (Jb z) (JR l.ok.bsz lo)) (Yp _)
 ·rw[d b λD=>nofr b D hb];exact A.frf b hb
 have z:=q cs B c1 c2 c3 ca d free;have ul:M.length=ps.length:=by rw[<- r.length];exact F.len _ _ _ _ z
 refine wpAny_call (codeAny_mono (F.run X.A X.stack m B ⟨M,[]⟩ M vs _ E hr e2 (by have:=hb m M l.kIn (by rw[Yi];exact ul);rwa [Yi]at this) r z) λrs s' J=>?_)
 cases rs with
 | error e=>exact J.elim
 | ok fl =>
  cases fl with
  | next=>exact False.elim J
  | brk=>exact False.elim J
  | cont=>exact False.elim J
  | ret u =>
   obtain⟨v,H3,os,bare,un,L,rv,qq⟩:=J
   have V:CellsFz cs H3:=λb hb=>by
    obtain⟨o,w⟩:=ca.fz b hb;exact⟨o,un.frzs b o _ w⟩
   have same:∀ b∈cs.map (·.2),∀ o,m.heap.get? b=some o->s'.heap.get? b=some o:=λb hb o e=>by
    have:=un.frzs b o _ (C hb e);exact(L b _ this).1
   refine l.after ⟨v,strip cs H3,os,bare,⟨λb o e n x y=>?_,λb o e n x y=>?_,λb o e n y=>?_,un.there,λb ys e=>?_,λb o w e=>?_,λb qs e=>?_⟩,sJ L V,rv,qq⟩
   ·by_cases hb:b∈cs.map (·.2)
    ·exact same b hb o e
    ·exact un.keep b o e (by rw[d b hb];exact n) x y
   ·by_cases hb:b∈cs.map (·.2)
    ·exact⟨o.slots,same b hb o e⟩
    ·exact un.slot b o e (by rw[d b hb];exact n) x y
   ·by_cases hb:b∈cs.map (·.2)
    ·exact x6 hb
    ·rw[yB hb];exact un.free b o e (by rw[d b hb];exact n) y
   ·have hb:b∉cs.map (·.2):=λhb=>by rw[free b hb]at e;cases e
    rw[yB hb];exact un.tups b ys (g e)
   ·have hb:b∉cs.map (·.2):=λhb=>by rw[free b hb]at e;cases e
    rw[yB hb];exact un.frzs b o w (g e)
   ·have hb:b∉cs.map (·.2):=λhb=>by rw[free b hb]at e;cases e
    rw[yB hb];exact un.tbls b qs (g e)
end
def cp (cl:List (Str × Addr))(H:Hp)(Q:VK):VK:=λv a=>(∀ b∈cl.map (·.2),a b=none)->Q v (back cl H a)
section
variable {CX:CXT}{P:Program}{w:World}{K:PySem.W.Frag}{mg:Str->Option Value}{base:Heap}{L:Lam}{cl:List (Str × Addr)}{vals vs:List V}{ps:List Str}{f c:Addr}{A:Around}{outer:List Env}{s:Shared}{H:Hp}{us:List Value}{Q:VK}{E:XK}
theorem jp {k:Nat}(S:LamScope ps (cl.map (·.1)) L.scope) (i:Room (k+1) A) (a:Env0 P w K mg base A outer s H) (la:LamAt H f L cl vals) (r:Vals vs us) (j:vs.length=ps.length)
  (hb:∀ pm cdv ct,bindArgs (PySem.W.kla_fn "<lambda>" L.qual L.params L.body L.scope cl pm cdv ct) ⟨us,[]⟩=pure (ps.zip us))
  (d:∀ c,Room k (A.deeper (nA L cl s.heap.objs.size f c))->∃ t,PE (iA CX P w K mg base (ps++cl.map (·.1)) L cl f c A outer s H E) L.body t/\t ((vs++vals).map some) (strip cl H) (cp cl H Q)) :
  codeAny (model P w) A (.call (.ref f) ⟨us,[]⟩) (CR CX outer P w H s Q E) s:=by
 obtain⟨pm,c,ct,B,fs,m,O,N,M,G⟩:=la.ex;have lim:s.heap.NoLimit:=a.mod.nolimit.keeps λb o e=>(a.bs b o e).1;have ul:us.length=ps.length:=by rw[<- r.length];exact j
 refine PySem.W.kla_callFunE i.depth (a.hok f _ O).1 rfl S.co S.gen rfl ⟨c,B,fs,m,rfl,(a.hok c _ N).1,M,G⟩ ?_;rw[show bindArgs _ _=_ from hb pm (.ref c) ct];refine J7 (wpAny_newFunctionEnv S.noc (λy C=>S.par y.1 (List.of_mem_zip C).1) (λR ns n=>?_) S.kind);have kp:∀ b o,s.heap.get? b=some o->R.get? b=some o:=λb o e=>(n.2 b (JB (Jb e))).trans (J6 _ e);refine⟨lim.keeps kp,PySem.W.kla_codeExpr ?_⟩;obtain⟨t,D,F⟩:=d c (i.deeper _);have I:=gT (CX:=CX) (E:=E) (c:=c) (tk:=s.toks+(ps.zip us).length) S i.hd a la r j ns kp;refine JL (D [] _ _ _ _ I F) (λu p h=>?_) λe p h=>h;obtain⟨v,l,J,x,q⟩:=h;have g:=la.fz
 have low:∀ b∈cl.map (·.2),l b=none:=λb hb=>by
  obtain⟨o,z⟩:=g b hb;exact J.base.free b o (a.hok b _ z).1 (x6 hb) Jc
 obtain⟨un,ok⟩:=iN (H':=l) J.base g a.frf (λb o z=>(a.hok b _ z).1) low J.hok;exact⟨v,_,J.os,J.bare,un,ok,x,q low⟩
end
abbrev LSpc:=List V->List V->Hp->VK->XK->Prop
structure LamQ (CX:CXT) (P:Program) (w:World) (K:PySem.W.Frag) (mg:Str->Option Value) (base:Heap) (k:Nat) (L:Lam) (fr ps:List Str) (sp:LSpc):Prop where
 S:LamScope ps fr L.scope
 len:∀ vals vs H Q E,sp vals vs H Q E->vs.length=ps.length
 bind:∀ (cl:List (Str × Addr)) (us:List Value),us.length=ps.length->∀ pm cdv ct,bindArgs (PySem.W.kla_fn "<lambda>" L.qual L.params L.body L.scope cl pm cdv ct) ⟨us,[]⟩=pure (ps.zip us)
 body:∀ (cl:List (Str × Addr)) (f c:Addr) (A:Around) (outer:List Env) (s:Shared) (H:Hp) (vals vs:List V) (Q:VK) (E:XK),cl.map (·.1)=fr->Room k (A.deeper (nA L cl s.heap.objs.size f c))->CellsFz cl H->sp vals vs (strip cl H) Q E ->
  ∃ t,PE (iA CX P w K mg base (ps++fr) L cl f c A outer s H E) L.body t/\t ((vs++vals).map some) (strip cl H) Q
def cB (L:Lam)(fr:List Str)(sp:LSpc)(E:XK)(i:Nat)(t:TA):TE:=λσ H Q=>∃ f,σ[i]?=some (some (.ref f))/\(∃ cl pm c d,H f=some (FZ (qu L cl pm c d)))/\t σ H λb a=>∃ cl vals,cl.map (·.1)=fr/\LamAt a f L cl vals/\sp vals b (strip cl a) (cp cl a Q) E
section
variable {X:Cx}{CX:CXT}{k:Nat}{L:Lam}{fr ps:List Str}{sp:LSpc}{E:XK}{x:Str}{i:Nat}{p pos:Pos}{e:Expr}{es:List Expr}{t:TA}
theorem nO (F:LamQ CX X.prog X.w X.K X.mg X.base k L fr ps sp)(O:Room (k+1) X.A)(S:PE X (.Name x p) (kC i))(M:Passes CX X E)(ha:PA X (e::es) t)(R:starEach (e::es) X.env=(false,eval e X.env)::starEach es X.env:=by rfl)(m:(backTo pos (starEach es X.env)).any (·.1)=false:=by rfl) :
  PE X (.Call (.Name x p) (e::es) [] pos) (cB L fr sp E i t):=by
 intro pins s σ H Q I h;obtain⟨f,P,⟨ad,aa,c0,ab,n⟩,q⟩:=h;refine YV (thn (S pins s σ H (λv H'=>v=.ref f/\H'=H) I ⟨_,P,rfl,rfl⟩) λg G ⟨v,Z,A,K,ev,V⟩=>?_);subst ev V;obtain rfl:g=.ref f:=K;refine PySem.W.callWith_F ⟨_,_,_,_,(A.hok f _ n).1⟩ ?_ R m;refine thn (ha pos pins G σ Z _ A q) λo w ⟨C,B,b,r,cl,vals,j,d,z⟩=>?_;obtain⟨pm,c,ct,oc,fs,tc,T,h2,h3,h4⟩:=d.ex;have y:=F.len _ _ _ _ _ z;have ul:o.length=ps.length:=by rw[<- r.length];exact y
 have Y:LamScope ps (cl.map (·.1)) L.scope:=by rw[j];exact F.S
 refine⟨⟨_,_,_,_,(b.hok f _ T).1⟩,?_⟩;refine wpAny_call (codeAny_mono (jp (CX:=CX) (E:=E) (Q:=Q) Y O b.env0 d r y (F.bind cl o ul) λW l=>?_) λrs J a=>?_)
 ·obtain⟨D,N,a⟩:=F.body cl f W X.A X.stack w B vals C _ E j l d.fz z
  exact⟨D,by rw[j];exact N,a⟩
 ·cases rs with
  | error e=>exact M pins σ B w e J b a
  | ok U =>
   cases U with
   | ret u=>exact b.after a
   | next=>exact False.elim a
   | brk=>exact False.elim a
   | cont=>exact False.elim a
end
abbrev LvL:=List (KN × List Int)
def gY (ps:LvL)(k:KN):Option (List Int):=(ps.find? λx=>decide (x.1=k)).map (·.2)
def cS (ps:LvL)(k:KN)(c:List Int):LvL:=if (gY ps k).isSome then ps.map λx=>if x.1=k then (x.1,c) else x else ps++[(k,c)]
def mZ (c:List Int)(m:Nat):List Int:=Bn.bG c m 1
structure LAcc where
 on:LvL
 fl:List (List Int)
section
variable (step:KN->Nat->Option KN)(seen:LvL)
def go1 (s:KN)(c:List Int)(a:LAcc)(m:Nat):LAcc :=
 match step s m with
 | none=>⟨a.on,a.fl++[mZ c m]⟩
 | some t=>if (gY seen t).isSome then a else ⟨cS a.on t (ce (mZ c m) ((gY a.on t).getD (mZ c m))),a.fl⟩
end
theorem xE {α β:Type}{F G:α->β->Prop}(h:∀ a b,F a b->G a b){l1:List α}{l2:List β}(p:Paired F l1 l2):Paired G l1 l2:=by
 induction p with
 | nil=>exact .nil
 | cons a _ ih=>exact .cons (h _ _ a) ih
end L2
namespace L2
open PySem PySem.Spec PyProof.Rows Own Bn
theorem Room.u3 {k:Nat}{A:Around}(r:Room k A):A.units+3<cLine:=by have:=r.un;lia
def Led (lsp:LSpc)(vals:List V)(step:KN->Nat->Option KN)(Ok:KN->Prop)(moves:List Nat)(H:Hp):Prop :=
 ∀ (c:Hp) (s:KN) (b:Addr) (m:Nat) (Q:VK),Tups H c->Ok s->m∈moves->NKey c s b->(∀ a,Same c a->step s m=none->Q .non a)->(∀ a d t,Same c a->step s m=some t->NKey a t d->Q (.ref d) a)->lsp vals [.ref b,.int (m:Nat)] c Q E0
theorem uB {H:Hp}{cl:List (Str × Addr)}(fz:CellsFz cl H):Tups H (strip cl H):=λa c e=>by
 rw[yB]
 ·exact e
 ·intro b
  obtain⟨o,q⟩:=fz a b;rw[e]at q;cases q
theorem vG {H a:Hp}{cl:List (Str × Addr)}(s:Same (strip cl H) a):Same H (back cl H a):=λb o e=>by
 by_cases c:b∈cl.map (·.2)
 ·rw[qD c];exact e
 ·rw[xH c];exact s b o (by rw[yB c];exact e)
theorem mM {H a:Hp}{cl:List (Str × Addr)}(low:∀ b∈cl.map (·.2),a b=none):Tups a (back cl H a):=λb d e=>by
 rw[xH]
 ·exact e
 ·intro c
  rw[low b c]at e;cases e
def MvAt (K:PySem.W.Frag)(H:Hp)(a:Addr)(xs:List V):Prop:=H a=some (.tup xs)\/∀ b,SqT K b a xs
theorem MvAt.tups {K:PySem.W.Frag}{H H':Hp}(t:Tups H H'){a:Addr}{xs:List V}(h:MvAt K H a xs):MvAt K H' a xs:=h.imp (t _ _) id
theorem MvAt.sq {K:PySem.W.Frag}{H:Hp}{a:Addr}{xs:List V}(h:MvAt K H a xs):SqT K H a xs:=h.elim SqT.of λz=>z H
structure Way (K:PySem.W.Frag) (H:Hp) (mv f:Addr) (L:Lam) (fr:List Str) (lsp:LSpc) (cl:List (Str × Addr)) (vals:List V) (step:KN->Nat->Option KN) (Ok:KN->Prop) (moves:List Nat) (n:Nat):Prop where
 mv:MvAt K H mv (moves.map λm=>V.int (m:Nat))
 fr:cl.map (·.1)=fr
 la:LamAt H f L cl vals
 ld:Led lsp vals step Ok moves H
 lt:∀ m∈moves,m<n
 ok:∀ s m t,Ok s->m∈moves->step s m=some t->Ok t
 n1:n<=1000
end L2
namespace L2
open PySem PySem.Spec PyProof.Rows
abbrev e2 (elt tg iter b a:Expr)(ifs:List Expr)(scope:Scope)(pos:Pos):Expr:=.ListComp elt [⟨tg,iter,[],0⟩,⟨b,a,ifs,0⟩] scope pos
theorem mJ (elt tg iter b a:Expr)(ifs:List Expr)(scope:Scope)(pos:Pos)(it acc:Value)(env:Env) :
  compTurn (e2 elt tg iter b a ifs scope pos) 0 it acc env=(standAt iter.pos >>= λ_=>pyNext it >>= λr=>match r with
   | none=>pure (.done .next)
   | some v=>letOwnedTupleGo tg it v >>= λ_=>assign tg env v >>= λ_ =>
    (eval a env >>= λx=>standAt a.pos >>= λ_=>foldedSetIterable a env x >>= λx=>holding [x] (pyIter x) >>= λi1=>runOwn (.compStart (e2 elt tg iter b a ifs scope pos) 1 i1 acc env) env >>= λ_ =>
     again (.compLoop (e2 elt tg iter b a ifs scope pos) 0 it acc env))):=by rfl
theorem mI (elt tg iter b a:Expr)(scope:Scope)(pos:Pos)(it acc:Value)(env:Env) :
  compTurn (e2 elt tg iter b a [] scope pos) 1 it acc env=(standAt a.pos >>= λ_=>pyNext it >>= λr=>match r with
   | none=>pure (.done .next)
   | some v=>letOwnedTupleGo b it v >>= λ_=>assign b env v >>= λ_ =>
    ((eval elt env >>= λx=>call (.builtin "list.append") [acc,x] >>= λ_=>pure ()) >>= λ_ =>
     again (.compLoop (e2 elt tg iter b a [] scope pos) 1 it acc env))):=by rfl
theorem pU (elt tg iter b a c:Expr)(scope:Scope)(pos:Pos)(it acc:Value)(env:Env) :
  compTurn (e2 elt tg iter b a [c] scope pos) 1 it acc env=(standAt a.pos >>= λ_=>pyNext it >>= λr=>match r with
   | none=>pure (.done .next)
   | some v=>letOwnedTupleGo b it v >>= λ_=>assign b env v >>= λ_=>(forIn [c] true λc r=>if r=true then (isTrue c env (eval c env) >>= λok=>pure (ForInStep.yield ok)) else pure (ForInStep.yield r)) >>= λok =>
    if ok=true then
    ((eval elt env >>= λx=>call (.builtin "list.append") [acc,x] >>= λ_=>pure ()) >>= λ_ =>
     again (.compLoop (e2 elt tg iter b a [c] scope pos) 1 it acc env)) else again (.compLoop (e2 elt tg iter b a [c] scope pos) 1 it acc env)):=by rfl
section
variable {prog:Program}{w:World}{A:Around}{R:Result->Shared->Prop}{s:Shared}{elt tg iter tg1 iter1:Expr}{scope:Scope}{pos:Pos}{it acc:Value}{env:Env}
theorem pK {ifs:List Expr}(c:codeAny (model prog w) A (.compLoop (e2 elt tg iter tg1 iter1 ifs scope pos) 1 it acc env) R s)(h:wpAny (model prog w) A (pyIter it) (λi2 z=>codeAny (model prog w) A (.compLoop (e2 elt tg iter tg1 iter1 ifs scope pos) 1 i2 acc env) R z) NoX s) :
  codeAny (model prog w) A (.compStart (e2 elt tg iter tg1 iter1 ifs scope pos) 1 it acc env) R s:=by
 refine codeAny_of_tree ?_;show wpAny _ A ((compStart (e2 elt tg iter tg1 iter1 ifs scope pos) 1 it acc env).onRaise (λx=>do noteFrame x env;standAt theWindowsPlace)) _ _ s;refine wpAny_notedAt ?_;unfold compStart;refine(show wpAny _ _ (ask >>= _) _ _ s from J0 (wpAny_askSetting (wpAny_ite ?_)));split
 ·first
   | exact J0 (J7 (J7 ⟨rfl,c⟩))
   | exact J7 ⟨rfl,c⟩
 ·apply J0;refine YD ?_
  first
   | exact J0 (Z5 (J0 (JL h (λb d a=>J7 ⟨rfl,a⟩) λ_ _ z=>z.elim)))
   | (show wpAny _ _ (standAt iter1.pos >>= _) _ _ s;exact J0 (Z5 (J0 (JL h (λb d a=>J7 ⟨rfl,a⟩) λ_ _ z=>z.elim))))
theorem mF {o:Option Expr}(J:Nat->Shared->Prop)(turn:∀ n s,J n s->Go (model prog w) A tg1 elt o it acc env R (λz=>∃ m,m<n/\J m z) s)(n:Nat)(h:J n s) :
  codeAny (model prog w) A (.compLoop (.ListComp elt [⟨tg,iter,[],0⟩,⟨tg1,iter1,o.toList,0⟩] scope pos) 1 it acc env) R s:=by
 cases o with
 | none =>
  refine codeAny_loop rfl J (λn s k=>?_) n h;show wpAny _ A ((compTurn (e2 elt tg iter tg1 iter1 [] scope pos) 1 it acc env).onRaise (λx=>do noteFrame x env;theTreesLotGoes x)) _ _ s;refine wpAny_noted ?_;rw[mI];refine J0 (Z5 (J0 (JL (turn n s k) (λr a i=>?_) λ_ _ z=>z.elim)))
  cases r with
  | none=>exact J7 i
  | some v =>
   refine J0 (JL i (λ_ b q=>?_) λ_ _ z=>z.elim);refine J0 (JL q (λ_ c p=>?_) λ_ _ z=>z.elim);have g:wpAny (model prog w) A (eval elt env) (λx e=>wpAny (model prog w) A (call (.builtin "list.append") [acc,x]) (λ_ f=>∃ m,m<n/\J m f) NoX e) NoX c:=p
   exact J0 (J0 (JL g (λx d j=>J0 (JL j (λ_ e l=>J7 (J7 ⟨rfl,l⟩)) λ_ _ z=>z.elim)) λ_ _ z=>z.elim))
 | some t =>
  refine codeAny_loop rfl J (λn s k=>?_) n h;show wpAny _ A ((compTurn (e2 elt tg iter tg1 iter1 [t] scope pos) 1 it acc env).onRaise (λx=>do noteFrame x env;theTreesLotGoes x)) _ _ s;refine wpAny_noted ?_;rw[pU];refine J0 (Z5 (J0 (JL (turn n s k) (λr a i=>?_) λ_ _ z=>z.elim)))
  cases r with
  | none=>exact J7 i
  | some v =>
   refine J0 (JL i (λ_ b q=>?_) λ_ _ z=>z.elim);refine J0 (JL q (λ_ c p=>?_) λ_ _ z=>z.elim);have g:wpAny (model prog w) A (isTrue t env (eval t env)) (λyes d=>if yes=true then wpAny (model prog w) A (eval elt env) (λx e=>wpAny (model prog w) A (call (.builtin "list.append") [acc,x]) (λ_ f=>∃ m,m<n/\J m f) NoX e) NoX d else ∃ m,m<n/\J m d) NoX c:=p;refine J0 (wpAny_tests_one (JL g (λyes d j=>?_) λ_ _ z=>z.elim))
   cases yes with
   | false=>exact J7 ⟨rfl,j⟩
   | true=>exact J0 (J0 (JL j (λx e l=>J0 (JL l (λ_ f u=>J7 (J7 ⟨rfl,u⟩)) λ_ _ z=>z.elim)) λ_ _ z=>z.elim))
theorem mG {ifs:List Expr}(J:Nat->Shared->Prop)(turn:∀ n s,J n s->wpAny (model prog w) A (pyNext it) (λr a=>match r with
   | none=>R (.ok .next) a
   | some v=>wpAny (model prog w) A (letOwnedTupleGo tg it v) (λ_ b=>wpAny (model prog w) A (assign tg env v) (λ_ c=>wpAny (model prog w) A (eval iter1 env) (λx d=>wpAny (model prog w) A (pyIter x) (λi1 e =>
     codeAny (model prog w) A (.compStart (e2 elt tg iter tg1 iter1 ifs scope pos) 1 i1 acc env) (λr f=>match r with|.ok _=>∃ m,m<n/\J m f|.error _=>False) e) NoX d) NoX c) NoX b) NoX a) NoX s)(n:Nat)(h:J n s)(j:∀ x,foldedSetIterable iter1 env x=pure x) :
  codeAny (model prog w) A (.compLoop (e2 elt tg iter tg1 iter1 ifs scope pos) 0 it acc env) R s:=by
 refine codeAny_loop rfl J (λn s k=>?_) n h;show wpAny _ A ((compTurn (e2 elt tg iter tg1 iter1 ifs scope pos) 0 it acc env).onRaise (λx=>do noteFrame x env;theTreesLotGoes x)) _ _ s;refine wpAny_noted ?_;rw[mJ];refine J0 (Z5 (J0 (JL (turn n s k) (λr a i=>?_) λ_ _ z=>z.elim)))
 cases r with
 | none=>exact J7 i
 | some v =>
  refine J0 (JL i (λ_ b q=>?_) λ_ _ z=>z.elim);refine J0 (JL q (λ_ c p=>?_) λ_ _ z=>z.elim);refine J0 (JL p (λx d o=>?_) λ_ _ z=>z.elim);refine J0 (Z5 (J0 (wpAny_of_eq (j x) (J0 (JW (JL o (λi1 e l=>?_) λ_ _ z=>z.elim))))));refine J0 (wpAny_runOwn (codeAny_mono l (λr f g=>?_)))
  cases r with
  | ok t=>exact J7 ⟨rfl,g⟩
  | error x=>exact g.elim
end
def LCW1 (J:It)(g:TG)(tt:TT)(k:TE)(l:Addr)(Q:List V->St->Hp->Prop)(W:Nat->Nat->List V->St->Hp->Prop):Prop :=
 ∀ i m acc c d,W i m acc c d->d l=some (.lst acc) /\
  ((J.stop i d/\Q acc c d)\/(J.go i d/\∀ x j,J.yld i d x j->g x c j λa n=>tt a n λb h =>
   if b=true then k a h λy f=>f l=some (.lst acc)/\acc.length<sizeLine/\∃ e,e<m/\W (i+1) e (acc++[y]) a (upd f l (.lst (acc++[y])))
   else ∃ e,e<m/\W (i+1) e acc a h))
def cC (cap:List (Option Nat))(n:TI)(g:TG)(d:TI)(q:TG)(tt:TT)(o:TE):TE:=λσ H Q=>n σ H λJ j=>∀ l,j l=none ->
 ∃ W:Nat->Nat->List V->St->Hp->Prop,(∃ m,W 0 m [] (r0 cap σ) (upd j l (.lst []))) /\
  ∀ i m acc c a,W i m acc c a->a l=some (.lst acc)/\((J.stop i a/\Q (.ref l) a)\/(J.go i a/\∀ x h,J.yld i a x h->g x c h λb t=>d b t λr s =>
   ∃ f:Nat->Nat->List V->St->Hp->Prop,(∃ p,f 0 p acc b s)/\LCW1 r q tt o l (λac k G=>∃ e,e<m/\W (i+1) e ac k G) f))
theorem jo {X:Cx}{elt tg iter P B:Expr}{o:Option Expr}{scope:Scope}{pos ap:Pos}{wi av:TI}{g g1:TG}{tt:TT}{te:TE}{N':List Str}{cap:List (Option Nat)}{use:Option (Value->Sem Unit)}{Q0:Value->Shared->Prop}(hc:X.calm=true)(hi:PI X tg iter wi)(ck:CapOk X.N N' X.env.scope scope cap)(hg:∀ C s₀ H₀ fp pins,PG (yP X N' scope C s₀ H₀ fp pins) tg g)(aY:∀ C s₀ H₀ fp pins,PI (yP X N' scope C s₀ H₀ fp pins) P B av)(aZ:∀ C s₀ H₀ fp pins,PG (yP X N' scope C s₀ H₀ fp pins) P g1)(ht:∀ C s₀ H₀ fp pins,PTo (yP X N' scope C s₀ H₀ fp pins) o tt)(he:∀ C s₀ H₀ fp pins,PE (yP X N' scope C s₀ H₀ fp pins) elt te)(hs:∀ x,foldedSetIterable iter X.env x=pure x)(aV:∀ C x,foldedSetIterable B (compEnvC scope (wS X.env.cells scope.names []) C X.env) x=pure x){pins:List (Addr × Obj)}{s:Shared}{σ:St}{H:Hp}{Q:VK}(I:Inv X pins σ H s)(h:cC cap wi g av g1 tt te σ H Q)(fin:∀ (l C:Addr) (H4:Hp) (s5:Shared) (m:Str->Option Value),Inv X pins σ H4 s5->Q (.ref l) H4->s5.heap.Ns C m->FpOk X pins H4 C->compPost (model X.prog X.w) X.A X.xe use Q0 (.ref l) C (.ok .next) s5) :
  wpAny (model X.prog X.w) X.A (comprehension (.ListComp elt [⟨tg,iter,[],0⟩,⟨P,B,o.toList,0⟩] scope pos) scope X.env ap (newList []) false (eval iter X.env) use) Q0 X.xe s:=by
 have N:∀ y∈scope.names,y.2=.free->∃ c,X.env.cells.lookup y.1=some c:=λy hy hf=>I.ok.has y.1 (ck.free y hy hf);refine wpAny_comprehension_free (use:=use) rfl hs (wj N) ck.kind ck.names (thn (hi pins s σ H _ I h) λv s1 h1=>thn h1 λb1 F h2=>?_);obtain⟨it,fp,tn,J,H2,e,I2,T,az,f2,body⟩:=h2;subst e;have ar:H2 F.heap.objs.size=none:=I2.hok.fresh (Je _);obtain⟨W,⟨m0,w0⟩,turn⟩:=body F.heap.objs.size ar;have A:Inv X pins σ (upd H2 F.heap.objs.size (.lst [])) { F with heap:=F.heap.push { cls:=.type "list",data:=.seq ([]:List Value).toArray },toks:=F.toks }:=I2.lnew (its:=[]) (t':=F.toks) .nil (Y1 _);refine JY (wpAny_newFunctionEnv ck.nocell (by intro y hy;simp at hy) (λE M L=>?_) ck.kind);dsimp only at M L ⊢;generalize hl:F.heap.objs.size=l at *;generalize hP:F.heap.push { cls:=.type "list",dict:=none,data:=.seq ([]:List Value).toArray }=P2 at *;generalize a5:upd H2 l (.lst [])=H3 at *;have old:∀ b o,P2.get? b=some o->E.get? b=some o:=λb o e=>L.extBut b o (JB (Jb e)) (J6 _ e);have aq:∀ b o,F.heap.get? b=some o->P2.get? b=some o:=λb o e=>hP ▸ J6 _ e
 have aQ:∀ b∈fp,b<l:=λb a=>by
  obtain⟨o,e,_⟩:=T.obj _ _ az b a;rw[<- hl];exact Jb e
 have a7:∀ b∈fp,H3 b=none:=λb a=>by
  rw[<- a5,zJ (JB (aQ b a))];exact(f2 b a).1
 have a4:P2.objs.size=l+1:=by rw[<- hP,Ze,hl]
 have D:∀ x c,(wS X.env.cells scope.names []).lookup x=some c->X.env.cells.lookup x=some c:=λx c e=>wI _ _ x c N (λ_ _ z=>by simp at z) e;generalize aN:({ F with heap:=P2,toks:=F.toks }:Shared)=s3 at *;have w:s3.heap=P2:=by rw[<- aN]
 let Y:=yP X N' scope P2.objs.size s3 H3 fp pins
 have K:Y.Ok:=by
  refine⟨A.ok.mod,ck.kind,A.ok.glob,A.ok.blt,by show s3.heap.objs.size<=P2.objs.size;rw[w];exact Je _,λx y c e1 e2=>A.ok.inj x y c (D x c e1) (D y c e2),λx hx=>?_,λx c hx=>absurd (show false=true from hx) Jn,A.ok.hd,A.ok.frames,.inl rfl,λb a=>⟨?_,λx c e=>?_⟩,A.bs,
   JR A.ok.bsz A.sz,λb o e a=>?_,λb a hz=>?_,A.stack,A.stkFree⟩
  ·have aU:scope.names.lookup x=some .free:=by
    rcases hx with hx|hx
    ·rcases yj hx with z|z
     ·exact absurd rfl (ck.nocell _ (xw z))
     ·exact z.2
    ·rcases yj hx with z|z
     ·exact z
     ·exact z.2
   exact xF _ _ x aU
  ·exact JB (by show b<P2.objs.size;rw[a4];exact ZV (aQ b a))
  ·exact(f2 b a).2.2.2.2.1 x c (D x c e)
  ·rcases (f2 b a).2.2.2.1 with z|z
   ·exact A.ok.noex b o e z
   ·exact absurd (JD (Jb e) (JR A.ok.bsz z)) (Yp _)
  ·rcases Ja.mp (A.stkSub b hz) with z|z
   ·exact(f2 b a).2.1 z
   ·exact(f2 b a).2.2.1 z
 have a3:Inv Y [] (r0 cap σ) H3 { F with heap:=E,toks:=F.toks }:=by
  refine⟨K,by show F.os=s3.os;rw[<- aN],I2.bare,by show Un _ _ _ _ s3.heap E;rw[w];exact Un.kept old,⟨_,M,λj x v e1 e2 e3=>?_⟩,λx c e=>?_,?_,λx c e=>A.freeC x c (D x c e),λp hp=>?_,λb o e=>?_,?_⟩
  ·have ba:N'[j]?=some x:=e1
   unfold r0 at e2;rw[JU]at e2
   cases ec:cap[j]? with
   | none=>rw[ec]at e2;cases e2
   | some oc =>
    rw[ec]at e2
    cases oc with
    | none=>cases e2
    | some i =>
     have a8:σ[i]?=some (some v):=by
      cases ei:σ[i]? with
      | none=>simp[ei]at e2
      | some v' =>
       simp[ei]at e2;rw[e2]
     have hz:(x,some i)∈N'.zip cap:=by
      refine Jz (i:=j) ?_;rw[YK];exact⟨ba,ec⟩
     obtain⟨hN,hf,hk⟩:=ck.cap _ hz i rfl;obtain⟨m,hn,aW⟩:=A.loc;obtain⟨u,r,lk⟩:=aW i x v hN a8 (by rcases hk with z|z;exact .inr (.inl z);exact .inr (.inr z));refine⟨u,r,.inr ⟨?_,?_⟩⟩
     ·exact xq hf
     ·rcases lk with ⟨z,_⟩|⟨_,c,a0,ae⟩
      ·have z':X.env.scope.names.lookup x=some .local:=z
       rcases hk with q|q
       ·rw[q]at z';cases z'
       ·rw[q]at z';cases z'
      ·obtain⟨c',aO⟩:=xF (cells:=X.env.cells) scope.names [] x hf
       have:=D x c' aO;rw[a0]at this;cases this;obtain⟨ob,e,d⟩:=ae;rw[w]at e;exact⟨c,aO,ob,old c ob e,d⟩
  ·obtain⟨v,ob,e',d⟩:=A.cell x c (D x c e)
   rw[w]at e';exact⟨v,ob,old c ob e',d⟩
  ·refine A.hok.fresh ?_
   rw[w];exact Je _
  ·have am:p∈X.pn++pins:=(Ju.mp hp).elim (λz=>z) (λz=>nomatch z)
   obtain⟨e,n,ne,nf,d⟩:=A.pin p am;rw[w]at e;refine⟨old _ _ e,n,JB (Jb e),λz=>?_,d⟩;rcases Ja.mp (A.stkSub _ z) with q|q
   ·exact ne q
   ·exact nf q
  ·have:=A.hok.kept (h':=E) (λb u q=>old b u (by rw[<- w];exact q))
   exact this b o e
  ·show (cap.map _).length=N'.length
   rw[Jg,ck.len]
 have S:∀ {t:Hp},(∀ b∈fp,t b=none)->∀ b∈fp,FpOk Y [] t b:=λ{t} hn b a=>by
  refine⟨hn b a,(K.exf b a).1,K.exfs b a,.inl a,(K.exf b a).2,λp hp=>?_⟩;have am:p∈X.pn++pins:=(Ju.mp hp).elim (λz=>z) (λz=>nomatch z);exact(f2 b a).2.2.2.2.2 p am
 have aL:tn 0 E:=T.keep 0 _ _ az λb a o e=>old b o (aq b o e)
 have loop:codeAny (model X.prog X.w) X.A (.compLoop (.ListComp elt [⟨tg,iter,[],0⟩,⟨P,B,o.toList,0⟩] scope pos) 0 (.ref it) (.ref l) Y.env) (compPost (model X.prog X.w) X.A X.xe use Q0 (.ref l) P2.objs.size) { F with heap:=E,toks:=F.toks }:=by
  refine mG (λn s'=>∃ i acc f t,Inv Y [] f t s'/\tn i s'.heap/\(∀ b∈fp,t b=none)/\W i n acc f t) ?_ m0 ⟨0,[],_,H3,a3,aL,a7,w0⟩ (aV _);rintro n s4 ⟨i,acc,ai,H4,I4,ay,aP,w4⟩;obtain⟨bB,q4⟩:=turn i n acc ai H4 w4;rcases q4 with ⟨stop,qn⟩|⟨go,step⟩
  ·refine thn (T.done Y rfl rfl rfl hc i [] s4 ai H4 Y.xe I4 (S aP) ay stop) λr s5 ⟨hr,I5⟩=>?_
   subst hr;obtain⟨m,hn,_⟩:=id I5.loc;have un:Un (frs X.stack) fp H3 H4 s3.heap s5.heap:=I5.base;have aR:s3.heap.objs.size<=P2.objs.size:=by rw[w];exact Je _
   have IX:Inv X pins σ H4 s5:=A.call' (ch:=fp) I5.os un I5.hok I5.bare λb a=>⟨(f2 b a).2.2.2.1,(f2 b a).2.1,(f2 b a).2.2.2.2.1,(f2 b a).2.2.2.2.2⟩;exact fin l P2.objs.size H4 s5 m IX qn hn (A.fpOk aR I5.free)
  ·refine thn (T.item Y rfl rfl rfl hc i [] s4 ai H4 Y.xe I4 (S aP) ay go) λr s5 ⟨u,hr,h5⟩=>?_
   subst hr;refine thn h5 λ_ s6 ⟨x,H6,I6,r6,y6,ak,a6⟩=>?_;have bo:=I6.pinned (S a6) (T.obj _ _ ak);refine thn (hg _ _ _ _ _ _ s6 ai H6 x u _ bo r6 (step x H6 y6)) λ_ s7 ⟨au,H7,I7,q7⟩=>?_
   have again:∀ {ah:St}{H9:Hp}{s9:Shared}{U:List V},Inv Y ([]++xt fp s6.heap) ah H9 s9->(∃ m',m'<n/\W (i+1) m' U ah H9)->∃ m,m<n/\∃ i acc f t,Inv Y [] f t s9/\tn i s9.heap/\(∀ b∈fp,t b=none)/\W i m acc f t:=λ{ah H9 s9 U} I9 ⟨m',hm,w9⟩=>by
    refine⟨m',hm,i+1,U,ah,H9,I9.unpinned,T.keep _ _ _ ak λb a o e=>(I9.pin (b,o) (Jy _ (Jy _ (yR a e)))).1,λb a=>?_,w9⟩;obtain⟨o,e,d⟩:=T.obj _ _ ak b a;exact(I9.pin (b,o) (Jy _ (Jy _ (yR a e)))).2.1
   generalize ([]++xt fp s6.heap:List (Addr × Obj))=pz at again I7;refine thn (aY _ _ _ _ _ _ s7 au H7 _ I7 q7) λv1 s8 h8=>thn h8 λbx s9 h9=>?_;obtain⟨aS,R,aw,J1,H9,e1,I9,T1,ax,f9,W1,⟨m1,w1⟩,aa⟩:=h9;subst e1;have G:∀ {t:Hp},(∀ b∈R,t b=none)->∀ b∈R,FpOk Y pz t b:=λhn b a=>⟨hn b a,(f9 b a).2⟩
   have Z:codeAny (model X.prog X.w) X.A (.compLoop (.ListComp elt [⟨tg,iter,[],0⟩,⟨P,B,o.toList,0⟩] scope pos) 1 (.ref aS) (.ref l) Y.env) (λr z=>match r with|.ok _=>∃ m,m<n/\∃ i acc f t,Inv Y [] f t z/\tn i z.heap/\(∀ b∈fp,t b=none)/\W i m acc f t|.error _=>False) s9:=by
    refine mF (λn s'=>∃ i acc f t,Inv Y pz f t s'/\aw i s'.heap/\(∀ b∈R,t b=none)/\W1 i n acc f t) ?_ m1 ⟨0,acc,au,H9,I9,ax,λb a=>(f9 b a).1,w1⟩;rintro k t4 ⟨j,ac,ag,G4,K4,u4,v4,z4⟩;obtain⟨bS,p4⟩:=aa j k ac ag G4 z4;rcases p4 with ⟨ab,pn⟩|⟨go1,ad⟩
    ·refine thn (T1.done Y rfl rfl rfl hc j pz t4 ag G4 Y.xe K4 (G v4) u4 ab) λr t5 ⟨hr,K5⟩=>?_
     subst hr;exact again K5 pn
    ·refine thn (T1.item Y rfl rfl rfl hc j pz t4 ag G4 Y.xe K4 (G v4) u4 go1) λr t5 ⟨u,hr,h5⟩=>?_
     subst hr;refine thn h5 λ_ t6 ⟨y,G6,K6,e6,d6,u6,v6⟩=>?_;have bh:=K6.pinned (G v6) (T1.obj _ _ u6);refine thn (aZ _ _ _ _ _ _ t6 ag G6 y u _ bh e6 (ad y G6 d6)) λ_ t7 ⟨aj,G7,K7,p7⟩=>?_;refine qK (ht _ _ _ _ _ _ t7 aj G7 _ K7 p7) λb t8 ⟨G8,K8,p8⟩=>?_
     have O:∀ {af:St}{G9:Hp}{t9:Shared}{ao:List V},Inv Y (pz++xt R t6.heap) af G9 t9->(∃ m',m'<k/\W1 (j+1) m' ao af G9)->∃ m,m<k/\∃ i acc f t,Inv Y pz f t t9/\aw i t9.heap/\(∀ b∈R,t b=none)/\W1 i m acc f t:=λ{af G9 t9 ao} K9 ⟨m',hm,z9⟩=>by
      refine⟨m',hm,j+1,ao,af,G9,K9.unpinned,T1.keep _ _ _ u6 λb a o e=>(K9.pin (b,o) (Jy _ (Jy _ (yR a e)))).1,λb a=>?_,z9⟩;obtain⟨o,e,d⟩:=T1.obj _ _ u6 b a;exact(K9.pin (b,o) (Jy _ (Jy _ (yR a e)))).2.1
     cases b with
     | false =>
      rw[Jf Jn]at p8 ⊢
      exact O K8 p8
     | true =>
      rw[Jp rfl]at p8 ⊢;refine thn (he _ _ _ _ _ _ t8 aj G8 _ K8 p8) λyv t9 ⟨yy,G9,K9,e9,aX,aT,p9⟩=>?_;refine thn (xB (X:=Y) _ t9 aj G9 (.ref l) [yy] (.ref l) [yv] (λ_ t=>t=upd G9 l (.lst (ac++[yy]))) K9 rfl (.cons e9 .nil) ⟨l,ac,yy,rfl,rfl,aX,aT,rfl⟩) λ_ b0 ⟨_,b2,bl,_,a9⟩=>?_;subst a9;exact O bl p9
   exact pK Z (T1.self X.A 0 _ _ _ ax Z)
 exact codeAny_compStart_list loop (T.self X.A 0 _ _ _ aL loop)
theorem jG {X:Cx}{elt tg iter b a:Expr}{o:Option Expr}{scope:Scope}{pos:Pos}{j c:TI}{g n:TG}{tt:TT}{k:TE}{N':List Str}{cap:List (Option Nat)}(y:X.calm=true)(hi:PI X tg iter j)(z:CapOk X.N N' X.env.scope scope cap)(v:∀ C s₀ H₀ fp pins,PG (yP X N' scope C s₀ H₀ fp pins) tg g)(e:∀ C s₀ H₀ fp pins,PI (yP X N' scope C s₀ H₀ fp pins) b a c)(i:∀ C s₀ H₀ fp pins,PG (yP X N' scope C s₀ H₀ fp pins) b n)(r:∀ C s₀ H₀ fp pins,PTo (yP X N' scope C s₀ H₀ fp pins) o tt)(w:∀ C s₀ H₀ fp pins,PE (yP X N' scope C s₀ H₀ fp pins) elt k)(t:∀ x,foldedSetIterable iter X.env x=pure x:=by intro _;rfl)(d:∀ C x,foldedSetIterable a (compEnvC scope (wS X.env.cells scope.names []) C X.env) x=pure x:=by intro _ _;rfl) :
  PE X (.ListComp elt [⟨tg,iter,[],0⟩,⟨b,a,o.toList,0⟩] scope pos) (cC cap j g c n tt k):=by
 intro pins s σ H Q I h;rw[eval_ListComp];exact jo (use:=none) y hi z v e i r w t d I h λl C B D m A q u f=>⟨m,u,λE p=>⟨.ref l,B,A.gone f p,rfl,q⟩⟩
end L2
namespace Own
open PySem PySem.Spec PyProof.Rows
abbrev IsZipC (h:Heap)(z TI TO:Addr)(own:Value)(c:Bool):Prop:=h.get? z=some { cls:=.type "zip",dict:=none,data:=.fields #[own,.bool c,.bool false,.ref TI,.ref TO],slots:=#[] }
section
variable {prog:Program}{w:World}{A:Around}{E:Value->Shared->Prop}{s:Shared}{z TI TO i1 i2:Addr}{f1 f2:List Addr}{n1 n2 k:Nat}{P1 P2:Nat->Value->Prop}{S1 S2:Nat->Heap->Prop}{a b:Value}
theorem lS {a:Addr}{Q:Option Obj->Shared->Prop}(b:s.heap.get? a=none)(h:Q none s):wpAny (model prog w) A (loadIfAlive a) Q E s:=by
 have c:Q (s.heap.get? a) s:=b.symm ▸ h;exact λ_ _ _=>c
theorem qJ {α:Type}{t:Addr}{c:Bool}{f:Bool->Sem α}{Q:α->Shared->Prop}(hz:IsZipN s.heap z TI TO t c)(a:s.heap.get? t=none)(h:wpAny (model prog w) A (f true) Q E s) :
  wpAny (model prog w) A (Builtin.SmallTypes.ownedTupleIsFree (.ref z) >>= f) Q E s:=by
 refine J0 ?_;unfold Builtin.SmallTypes.ownedTupleIsFree;refine rf 0 hz rfl rfl ?_;show wpAny _ _ (loadIfAlive ((t:Int).toNat) >>= _) _ _ _;rw[YF];refine J0 (lS a ?_);simp only[Option.isNone_none,Yk];exact J7 h
theorem mB (S:Sep z TI TO i1 i2 f1 f2)(F:Draws prog w A i1 f1 n1 P1 S1)(D:Draws prog w A i2 f2 n2 P2 S2){Q:Value->Shared->Prop}{t:Addr}{i:Bool}(hz:IsZipN s.heap z TI TO t i)(hn:s.heap.get? t=none)(hI:IsPair s.heap TI (.ref i1) (.ref i2))(hO:IsPair s.heap TO a b)(d1:S1 k s.heap)(d2:S2 k s.heap)(l1:k<n1)(l2:k<n2)(h:∀ x y h' tk,P1 k x->P2 k y->IsZip h' z TI TO (rawInt s.heap.objs.size)->IsPair h' TO x y->S1 (k+1) h'->S2 (k+1) h'->IsPair h' s.heap.objs.size x y ->
   (∀ c o,c∉[z,TO,i1,i2]->s.heap.get? c=some o->h'.get? c=some o)->Q (.ref s.heap.objs.size) { s with heap:=h',toks:=tk }) :
  wpAny (model prog w) A (Builtin.«zip.__next__» ⟨[.ref z],[]⟩) (λr Y=>∃ v,r=.done (.ret v)/\Q v Y) E s:=by
 have M:=S.all;simp only[JP,Ja,Jc,JG,Z6]at M;obtain⟨⟨zI,B,W,V⟩,⟨IO,I1,I2⟩,⟨O1,O2⟩,aa,_⟩:=M;refine rf 2 hz rfl rfl (rf 3 hz rfl rfl (J0 (Y3 hI rfl (qJ hz hn ?_))));rw[Jp rfl];refine J0 (YD (rf 4 hz rfl rfl (J0 (Ye hz (show 0<5 by decide) λha U n=>J0 ?_))));have G:IsZipC ha z TI TO .ellipsis i:=U;simp only[List.zipIdx_cons,List.zipIdx_nil,Yq,YH];refine J0 (J0 (ZY (J0 (F.item k _ _ _ l1 (F.frame _ _ _ d1 λc g o e=>(n.2 c λq=>S.z1 (q ▸ g)).trans e) λx hb tb Z db m=>J7 ?_))));have P:IsPair hb TO a b:=(m.2 TO O1).trans ((n.2 TO (Ne.symm B)).trans hO);refine J0 (Y3 P rfl (J0 (wpAny_updateSeq_pair P λg Oc sc=>J0 (wpAny_letGo (J7 ?_)))));have I:IsPair g TO x b:=Oc;have H:S2 k g:=D.frame _ _ _ d2 λc d o e=>(sc.2 c λq=>S.t2 (q ▸ d)).trans ((m.2 c λq=>S.o2 (q ▸ d)).trans ((n.2 c λq=>S.z2 (q ▸ d)).trans e));refine J0 (J0 (ZY (J0 (D.item k _ _ _ l2 H λy hd X py dd l=>J7 ?_))));have O:IsPair hd TO x b:=(l.2 TO O2).trans I;refine J0 (Y3 O rfl (J0 (wpAny_updateSeq_pair O λf Oe j=>J0 (wpAny_letGo (J7 (J7 ?_))))));have u:IsPair f TO x y:=Oe;refine J0 (Y3 u rfl (J0 (wpAny_newTuple (J0 ?_))));have sz:f.objs.size=s.heap.objs.size:=by rw[j.1,l.1,sc.1,m.1,n.1]
 have J:IsZipC f z TI TO .ellipsis i:=(j.2 z B).trans ((l.2 z V).trans ((sc.2 z B).trans ((m.2 z W).trans G)));have zn:f.objs.size≠z:=JQ (Jb J);unfold Builtin.SmallTypes.ownedTupleHandOut;refine J0 (Ye (J6 _ J) (show 0<5 by decide) λhf T L=>Ye T (show 1<5 by decide) λC R K=>J7 ⟨_,rfl,?_⟩);have up:∀ c o,c≠z->f.get? c=some o->C.get? c=some o:=λc o q e=>(K.2 c q).trans ((L.2 c q).trans (J6 _ e));have new:IsPair C f.objs.size x y:=(K.2 _ zn).trans ((L.2 _ zn).trans (JA _ rfl));have p:IsZip C z TI TO (rawInt f.objs.size):=R;rw[sz]at new p;show Q (.ref f.objs.size) _;rw[sz];refine h x y C X Z py p (up _ _ (Ne.symm B) u) ?_ ?_ new λc o g e=>?_
 ·exact F.frame _ _ _ db λc d o e=>up c o (λq=>S.z1 (q ▸ d)) ((j.2 c λq=>S.t1 (q ▸ d)).trans ((l.2 c λq=>S.o1 (q ▸ d)).trans ((sc.2 c λq=>S.t1 (q ▸ d)).trans e)))
 ·exact D.frame _ _ _ dd λc d o e=>up c o (λq=>S.z2 (q ▸ d)) ((j.2 c λq=>S.t2 (q ▸ d)).trans e)
 ·simp only[Ja,Jc,JG,Z6]at g
  obtain⟨i,N,c3,c4⟩:=g;exact up c o i ((j.2 c N).trans ((l.2 c c4).trans ((sc.2 c N).trans ((m.2 c c3).trans ((n.2 c i).trans e)))))
theorem nv (S:Sep z TI TO i1 i2 f1 f2) (m:Draws prog w A i1 f1 n1 P1 S1) {Q:Fin->Shared->Prop}{t:Addr}{d:Bool}(hz:IsZipN s.heap z TI TO t d) (hn:s.heap.get? t=none) (y:IsPair s.heap TI (.ref i1) (.ref i2)) (B:S1 n1 s.heap)
  (h:∀ h' x,(∀ c o,c∉[z,TO,i1,i2]->s.heap.get? c=some o->h'.get? c=some o)->(∃ o,h'.get? x=some o/\o.cls=.type "StopIteration")->E (.ref x) { s with heap:=h' }):wpAny (model prog w) A (Builtin.«zip.__next__» ⟨[.ref z],[]⟩) Q E s:=by
 have j:=S.all;simp only[JP,Ja,Jc,JG,Z6]at j;obtain⟨⟨F,D,p,G⟩,⟨IO,K,J⟩,⟨I,H⟩,C,_⟩:=j;refine rf 2 hz rfl rfl (rf 3 hz rfl rfl (J0 (Y3 y rfl (qJ hz hn ?_))));rw[Jp rfl];refine J0 (YD (rf 4 hz rfl rfl (J0 (Ye hz (show 0<5 by decide) λv n i=>J0 ?_))));have f:IsZipC v z TI TO .ellipsis d:=n;simp only[List.zipIdx_cons,List.zipIdx_nil,Yq,YH];refine J0 (J0 (ZY (J0 (m.done _ _ _ (m.frame _ _ _ B λc b o e=>(i.2 c λq=>S.z1 (q ▸ b)).trans e) λu x k ⟨r,ex,l⟩=>?_))));have g:IsZipC u z TI TO .ellipsis d:=k z _ p f;have xz:x≠z:=λq=>by rw[q,g]at ex;cases ex;exact absurd (show Value.type "zip" = Value.type "StopIteration" from l) (by decide)
 refine Ye g (show 0<5 by decide) λb _ sc=>h b x (λc o a e=>?_) ⟨r,(sc.2 x xz).trans ex,l⟩;simp only[Ja,Jc,JG,Z6]at a;exact(sc.2 c a.1).trans (k c o a.2.2.1 ((i.2 c a.1).trans e))
theorem n6 {t:Addr}{c:Bool}{o:Obj}(S:Sep z TI TO i1 i2 f1 f2)(l:Draws prog w A i1 f1 n1 P1 S1)(j:Draws prog w A i2 f2 n2 P2 S2){Q:Value->Shared->Prop}(hz:IsZipN s.heap z TI TO t c)(H:s.heap.get? t=some o)(J:IsPair s.heap TI (.ref i1) (.ref i2))(M:S1 k s.heap)(L:S2 k s.heap)(l1:k<n1)(l2:k<n2)(h:∀ x y h' tk,P1 k x->P2 k y->IsZipN h' z TI TO t true->S1 (k+1) h'->S2 (k+1) h'->IsPair h' s.heap.objs.size x y ->
   (∀ c o,c∉[z,i1,i2]->s.heap.get? c=some o->h'.get? c=some o)->Q (.ref s.heap.objs.size) { s with heap:=h',toks:=tk }) :
  wpAny (model prog w) A (Builtin.«zip.__next__» ⟨[.ref z],[]⟩) (λr F=>∃ v,r=.done (.ret v)/\Q v F) E s:=by
 have n:=S.all;simp only[JP,Ja,Jc,JG,Z6]at n;obtain⟨⟨P,O,C,B⟩,⟨IO,X,W⟩,⟨V,U⟩,N,_⟩:=n;refine rf 2 hz rfl rfl (rf 3 hz rfl rfl (J0 (Y3 J rfl (vq hz H λT u g=>?_))));rw[Jf Jn];refine J0 ?_;simp only[List.forIn_toArray,Yq,YH];refine J0 (J0 (JW (J0 (l.item k _ _ _ l1 (l.frame _ _ _ M λc a o e=>(g.2 c λq=>S.z1 (q ▸ a)).trans e) λx I R G db f=>J7 (J7 ?_)))));have m:S2 k I:=j.frame _ _ _ L λc b o e=>(f.2 c λq=>S.o2 (q ▸ b)).trans ((g.2 c λq=>S.z2 (q ▸ b)).trans e);refine J0 (J0 (JW (J0 (j.item k _ _ _ l2 m λy i D py K d=>J7 (J7 (J7 ?_))))));refine J0 (wpAny_newTuple (J7 ⟨_,rfl,?_⟩) (hsz:=by show 2<=sizeLine;decide));have sz:i.objs.size=s.heap.objs.size:=by rw[d.1,f.1,g.1]
 show Q (.ref i.objs.size) _;rw[sz];have p:IsZipN i z TI TO t true:=(d.2 z B).trans ((f.2 z C).trans u);have new:(i.push { cls:=.type "tuple",data:=.seq #[x,y] }).get? s.heap.objs.size=some { cls:=.type "tuple",data:=.seq #[x,y] }:=by rw[<- sz];exact JA _ rfl
 refine h x y _ D G py (J6 _ p) ?_ ?_ new λc o a e=>?_
 ·exact l.frame _ _ _ db λc b o e=>J6 _ ((d.2 c λq=>S.o1 (q ▸ b)).trans e)
 ·exact j.frame _ _ _ K λc b o e=>J6 _ e
 ·simp only[Ja,Jc,JG,Z6]at a
  exact J6 _ ((d.2 c a.2.2).trans ((f.2 c a.2.1).trans ((g.2 c a.1).trans e)))
def AnyZip (h:Heap)(z TI TO:Addr):Prop:=IsZip h z TI TO .none\/∃ t c,IsZipN h z TI TO t c
theorem AnyZip.obj {h:Heap}(x:AnyZip h z TI TO):∃ o,h.get? z=some o/\o.cls=.type "zip"/\∀ v,o.data≠.cell v:=by
 rcases x with x|⟨t,c,x⟩
 ·exact⟨_,x,rfl,λv q=>by cases q⟩
 ·exact⟨_,x,rfl,λv q=>by cases q⟩
theorem mC (S:Sep z TI TO i1 i2 f1 f2)(C:Draws prog w A i1 f1 n1 P1 S1)(B:Draws prog w A i2 f2 n2 P2 S2){Q:Value->Shared->Prop}(hz:AnyZip s.heap z TI TO)(p:IsPair s.heap TI (.ref i1) (.ref i2))(n:IsPair s.heap TO a b)(u:S1 k s.heap)(q:S2 k s.heap)(l1:k<n1)(l2:k<n2)(h:∀ x y h' tk,P1 k x->P2 k y->AnyZip h' z TI TO->(∃ a b,IsPair h' TO a b)->S1 (k+1) h'->S2 (k+1) h'->IsPair h' s.heap.objs.size x y ->
   (∀ c o,c∉[z,TO,i1,i2]->s.heap.get? c=some o->h'.get? c=some o)->Q (.ref s.heap.objs.size) { s with heap:=h',toks:=tk }) :
  wpAny (model prog w) A (Builtin.«zip.__next__» ⟨[.ref z],[]⟩) (λr H=>∃ v,r=.done (.ret v)/\Q v H) E s:=by
 rcases hz with hz|⟨t,c,hz⟩
 ·exact qI S C B hz p n u q l1 l2 λx y h' tk j py f l i g nw d=>h x y h' tk j py (.inr ⟨_,_,f⟩) ⟨_,_,l⟩ i g nw d
 ·cases F:s.heap.get? t with
  | none=>exact mB S C B hz F p n u q l1 l2 λx y h' tk j py f l i g nw d=>h x y h' tk j py (.inr ⟨_,_,f⟩) ⟨_,_,l⟩ i g nw d
  | some o =>
   have D:=S.all;simp only[JP,Ja,Jc,JG,Z6]at D;obtain⟨⟨M,G,O,N⟩,⟨IO,R,P⟩,⟨K,J⟩,L,_⟩:=D;refine n6 S C B hz F p u q l1 l2 λx y h' tk j py f i g nw d=>h x y h' tk j py (.inr ⟨_,_,f⟩) ⟨_,_,d TO _ (by simp[Ne.symm G,K,J]) n⟩ i g nw λc o I e=>d c o (λm=>I ?_) e;simp only[Ja,Jc,JG]at m ⊢;rcases m with m|m|m
   ·exact .inl m
   ·exact .inr (.inr (.inl m))
   ·exact .inr (.inr (.inr m))
theorem ny (S:Sep z TI TO i1 i2 f1 f2) (d:Draws prog w A i1 f1 n1 P1 S1) {Q:Fin->Shared->Prop}(hz:AnyZip s.heap z TI TO) (a:IsPair s.heap TI (.ref i1) (.ref i2)) (b:S1 n1 s.heap)
  (h:∀ h' x,(∀ c o,c∉[z,TO,i1,i2]->s.heap.get? c=some o->h'.get? c=some o)->(∃ o,h'.get? x=some o/\o.cls=.type "StopIteration")->E (.ref x) { s with heap:=h' }):wpAny (model prog w) A (Builtin.«zip.__next__» ⟨[.ref z],[]⟩) Q E s:=by
 rcases hz with hz|⟨t,c,hz⟩
 ·exact qH S d hz a b h
 ·cases e:s.heap.get? t with
  | none=>exact nv S d hz e a b h
  | some o=>exact tD S d hz e a b h
theorem lK {s:Shared}{E:Value->Shared->Prop}{Q:Value->Shared->Prop}(hz:AnyZip s.heap z TI TO)(h:Q (.ref z) s):wpAny (model prog w) A (pyIter (.ref z)) Q E s:=by
 obtain⟨a,b,c,_⟩:=hz.obj;have ty:s.TypeIs (.ref z) "zip":=⟨a,b,c⟩;exact wpAny_pyIter_slot ty F.slot_zip_iter (Y5 F.slot_zip_iter ty F.entry_zip_iter (show wpAny _ _ (ret (.ref z)) _ _ s from J7 ⟨_,rfl,"zip",_,ty,F.slot_zip_next.lookup,h⟩) (F.args_zip_iter_1 _))
end
end Own
namespace L2
open PySem PySem.Spec PyProof.Rows Own
theorem mH {P:Program}{w:World}{K:PySem.W.Frag}{y1:Str}{C:Pos}(V b2:Bool)(B O z TI TO i1 i2:Addr)(nd:[z,TI,TO,i1,i2].Nodup) :
  Turn P w K (.Name y1 C) (Itz K V b2 B O) [z,TI,TO,i1,i2] z (λi h=>AnyZip h z TI TO/\IsPair h TI (.ref i1) (.ref i2)/\(∃ a b,IsPair h TO a b)/\RIt V h i1 B i/\RIt b2 h i2 O i) where
 mem:=JH
 obj:=λi h ⟨p,r,⟨a,b,F⟩,n,u⟩ c M=>by
  simp only[Ja,Jc,JG]at M;rcases M with rfl|rfl|rfl|rfl|rfl
  ·obtain⟨o,e,_,d⟩:=p.obj;exact⟨o,e,d⟩
  ·exact⟨_,r,λv q=>by cases q⟩
  ·exact⟨_,F,λv q=>by cases q⟩
  ·exact⟨_,n,λv q=>by cases q⟩
  ·exact⟨_,u,λv q=>by cases q⟩
 keep:=λi h h' ⟨p,r,⟨a,b,F⟩,n,u⟩ L=>⟨p.imp (λq=>L z (by simp) _ q) (λ⟨t,c,q⟩=>⟨t,c,L z (by simp) _ q⟩),L TI (by simp) _ r,⟨a,b,L TO (by simp) _ F⟩,L i1 (by simp) _ n,L i2 (by simp) _ u⟩
 item:=by
  intro X hP hw hK M i pins s σ H E I D ⟨p,r,⟨a,b,F⟩,n,u⟩ ⟨xs,ys,x,y,J,q2,R,hy⟩;subst hP hw hK;obtain⟨Q,Z,C⟩:=I.sq J;obtain⟨u2,r2,p2⟩:=I.sq q2;obtain⟨v1,e1,rx⟩:=Z.get R;obtain⟨v2,e2,ry⟩:=r2.get hy;have k:=nd;simp only[JP,Ja,Jc,JG,Z6]at k;obtain⟨⟨zI,zO,Y,W⟩,⟨IO,I1,I2⟩,⟨O1,O2⟩,m,_⟩:=k;have g:∀ c∈[z,TI,TO,i1,i2],c≠B:=λc f=>I.sq_ne J (D c f);have G:∀ c∈[z,TI,TO,i1,i2],c≠O:=λc f=>I.sq_ne q2 (D c f);have S:Sep z TI TO i1 i2 [i1,B] [i2,O]:=⟨nd,by simp[Y,g z (by simp)],by simp[O1,g TO (by simp)],by simp[Ne.symm m,g i2 (by simp)],by simp[W,G z (by simp)],by simp[O2,G TO (by simp)],by simp[m,G i1 (by simp)]⟩;have hd:=I.ok.hd M;have D1:=draws (prog:=X.prog) (w:=X.w) (A:=X.A.in1) hd V i1 B Q.toArray (C.ne n);have D2:=draws (prog:=X.prog) (w:=X.w) (A:=X.A.in1) hd b2 i2 O u2.toArray (p2.ne u);obtain⟨oz,N,cz,dz⟩:=p.obj;have j:s.TypeIs (.ref z) "zip":=⟨oz,N,cz⟩;unfold pyNext
  refine J0 (Za (wpAny_callSpecial?_slot (name:="__next__") j YA (Y5 YA j Zx (mC S D1 D2 p r F ⟨n,C⟩ ⟨u,p2⟩ (by simpa using (J9.mp e1).1) (by simpa using (J9.mp e2).1)
   λw1 w2 h' tk ab aa zh ⟨oa,ob,Oh⟩ d1 d2 new U=>J7 ?_) (Zu _))))
  obtain rfl:v1=w1:=Jr (e1.symm.trans (by simpa using ab));obtain rfl:v2=w2:=Jr (e2.symm.trans (by simpa using aa));refine⟨_,rfl,J7 ?_⟩;have nz:s.heap.objs.size≠z:=JQ (Jb N)
  have ae:∀ c∈[z,TI,TO,i1,i2],c≠s.heap.objs.size:=λc f=>by
   simp only[Ja,JG,Jc]at f;rcases f with rfl|rfl|rfl|rfl|rfl
   ·exact JB (Jb N)
   ·exact JB (Jb r)
   ·exact JB (Jb F)
   ·exact JB (Jb n)
   ·exact JB (Jb u)
  refine⟨.ref s.heap.objs.size,_,I.spunN (fp:=[z,TI,TO,i1,i2]) (λc o f q=>?_) D (Je _) (vn new rx ry),rfl,⟨x,y,λl hl=>by rw[I.sq_inj hl J];exact R,λl hl=>by rw[I.sq_inj hl q2];exact hy,_,I.fresh,rfl,rfl⟩,
   ⟨zh,U TI _ (by simp[Ne.symm zI,IO,I1,I2]) r,⟨_,_,Oh⟩,d1.1,d2.1⟩,λc f=>by rw[zJ (ae c f),(D c f).1]⟩
  simp only[Ja,Jc,JG,Z6]at f;exact U c o (by simp[f]) q
 done:=by
  intro X hP hw hK M i pins s σ H E I D ⟨p,r,⟨a,b,F⟩,n,u⟩ ⟨xs,J,R⟩;subst hP hw hK;obtain⟨Q,Z,C⟩:=I.sq J;have k:=nd;simp only[JP,Ja,Jc,JG,Z6]at k;obtain⟨⟨zI,zO,Y,W⟩,⟨IO,I1,I2⟩,⟨O1,O2⟩,m,_⟩:=k;have g:∀ c∈[z,TI,TO,i1,i2],c≠B:=λc f=>I.sq_ne J (D c f);have S:Sep z TI TO i1 i2 [i1,B] [i2]:=⟨nd,by simp[Y,g z (by simp)],by simp[O1,g TO (by simp)],by simp[Ne.symm m,g i2 (by simp)],by simp[W],by simp[O2],by simp[m]⟩;have ad:i=Q.toArray.size:=by rw[Jj,<- Z.length,R]
  obtain⟨oz,N,cz,dz⟩:=p.obj;have j:s.TypeIs (.ref z) "zip":=⟨oz,N,cz⟩;unfold pyNext
  refine J0 (Za (wpAny_callSpecial?_slot (name:="__next__") j YA (Y5 YA j Zx
   (ny S (draws (prog:=X.prog) (w:=X.w) (A:=X.A.in1) (I.ok.hd M) V i1 B Q.toArray (C.ne n)) p r ⟨by rw[<- ad];exact n,C⟩ λh' x U ⟨o,eo,co⟩=>?_) (Zu _))))
  refine J0 (Zw (T:="StopIteration") (b:=true) ⟨o,eo,co⟩ isSubtype_stop (J7 ⟨rfl,I.spun (t':=s.toks) (fp:=[z,TI,TO,i1,i2]) (λc o f q=>U c o ?_ q) D⟩));simp only[Ja,Jc,JG,Z6]at f ⊢;exact⟨f.1,f.2.2.1,f.2.2.2.1,f.2.2.2.2⟩
 self:=λ_ _ _ _ _ st h=>lK st.1 h
theorem io {X:Cx}{a b:Expr}{t:TA}{p pos L:Pos}{C:Str}(j i:Bool) (P:Gl X "zip") (hm:X.mg "zip" = none) (ha:PA X [a,b] t) (N:starEach [a,b] X.env=[(false,eval a X.env),(false,eval b X.env)]:=by rfl) (e:starEach [b] X.env=[(false,eval b X.env)]:=by rfl) :
  PI X (.Name C L) (.Call (.Name "zip" p) [a,b] [] pos) (aF X.K j i t):=by
 intro pins s σ H R I h;refine Call_ (xJ I P hm (u:=.type "zip") (by rfl) (Yf (thn (ha pos pins s σ H _ I h) λus D ⟨Z,V,d,J,K⟩=>?_) (by rw[N,e]) (by rw[e];rfl)));obtain⟨B,A,Y,W,rfl,r,o,q⟩:=K;obtain⟨u,v,rfl,G,E⟩:=J.two;cases G;cases E;obtain⟨n,_,l⟩:=d.sq r;obtain⟨m,_,k⟩:=d.sq o;refine callType_new F.called_zip (by decide) (F.typeCall_zip_2 _ _) (F.newCall_zip_2 _ _) (λobj=>F.args_object_init_3 obj _ _) F.entry_zip_new (sY j i B A n.toArray m.toArray) ⟨l,k,λh' z ⟨TI,TO,x,w,M,f,g,S,Q,U,T⟩ O=>⟨⟨_,g,rfl⟩,?_⟩⟩;exact wpAny_pyIter_zip g ⟨_,[z,TI,TO,x,w],_,_,V,rfl,d.kept (t':=D.toks) O,mH j i B A z TI TO x w M,⟨.inl g,S,⟨_,_,Q⟩,U,T⟩,λc y=>d.fpOk (f c y) (d.hok.fresh (f c y)),q⟩
end L2
namespace Bn
open PySem L2 Own
def pw (e:Nat):Int:=((2 ^ e:Nat):Int)
def more (cs xs:List Int)(k:Int):List Int:=(List.range cs.length).map λi=>cs.getD i 0+k*xs.getD i 0
theorem nK {H:Hp}{ts:List V}{a b:List Nat}(z:Zip2 H ts (zj a) (zj b))(o:a.length<=b.length):Prs H ts (a.zip b):=by
 have j:=z.1;rw[yD]at j
 have all:∀ (i:Nat) t,ts[i]?=some t->IsFk H t ((a.zip b).getD i (0,0)):=λi t l=>by
  obtain⟨c,x,y,rfl,d,f,m⟩:=z.2 i t l;unfold zj at d f;rw[JU]at d f;obtain⟨h,ex,rfl⟩:=Yu.mp d;obtain⟨g,n,rfl⟩:=Yu.mp f;have both:(a.zip b)[i]?=some (h,g):=YK.mpr ⟨ex,n⟩;rw[JN,both];exact⟨c,rfl,m⟩
 have mp:ts.map (rp H)=a.zip b:=by
  refine List.ext_getElem? λi=>?_;rw[JU]
  cases e:ts[i]? with
  | none =>
   have k:=Z0.mp e
   exact(Z0.mpr (by rw[ZH];lia)).symm
  | some t =>
   have k:=(J9.mp e).1;rw[Option.map_some,(all i t e).dec,JN,J8 (by rw[ZH];lia)];rfl
 rw[<- mp];refine kw λx d=>?_;obtain⟨i,hi⟩:=YM.mp d;rw[(all i x hi).dec];exact all i x hi
end Bn
namespace L2
open PySem PySem.Spec PyProof.Rows Own
theorem gM {K:PySem.W.Frag}{j h:Bool}{n k:Addr}{xs ys:List V}(O:xs.length=ys.length){g D:TG}{f:TI}{tt:TT}{A:TE}{l:Addr}{σ:St}{H:Hp}{Q:VK}(b:Nat->List V->St->Hp->Prop)(L:b 0 [] σ H)(I:∀ i acc σ H,b i acc σ H->H l=some (.lst acc)/\SqB j K H n xs/\SqB h K H k ys)(F:∀ i acc σ H x y T,xs[i]?=some x->ys[i]?=some y->H T=none->b i acc σ H->g (.ref T) σ (upd H T (.tup [x,y])) λa u=>f a u λs t =>
   ∃ c:Nat->Nat->List V->St->Hp->Prop,(∃ r,c 0 r acc a t)/\LCW1 s D tt A l (λac o G=>Nx xs.length i (b (i+1) ac o G)) c)(hd:∀ acc σ H,b xs.length acc σ H->Q (.ref l) H):∃ W:Nat->Nat->List V->St->Hp->Prop,(∃ m,W 0 m [] σ H) /\
   ∀ i m acc d H',W i m acc d H'->H' l=some (.lst acc)/\(((Itz K j h n k).stop i H'/\Q (.ref l) H')\/((Itz K j h n k).go i H'/\∀ x w,(Itz K j h n k).yld i H' x w->g x d w λa u=>f a u λs t =>
    ∃ c:Nat->Nat->List V->St->Hp->Prop,(∃ r,c 0 r acc a t)/\LCW1 s D tt A l (λac o G=>∃ C,C<m/\W (i+1) C ac o G) c)):=by
 refine⟨λi m acc σ H=>m=xs.length-i/\i<=xs.length/\b i acc σ H,⟨xs.length,by simp,Y1 _,L⟩,?_⟩;rintro i m acc σ H ⟨rfl,hi,p⟩;obtain⟨E,q,B⟩:=I i acc σ H p;refine⟨E,?_⟩;by_cases z:i<xs.length
 ·refine .inr ⟨⟨xs,ys,_,_,q,B,J8 z,J8 (by lia)⟩,λv w ⟨x,y,ex,M,T,J,N,e2⟩=>?_⟩
  subst N e2;exact F i acc σ H x y T (ex xs q) (M ys B) J p
 ·have e:i=xs.length:=by lia
  subst e;exact .inl ⟨⟨xs,q,rfl⟩,hd acc σ H p⟩
theorem nY {K:PySem.W.Frag}{a:Addr}{zs:List V}{g:TG}{h:TE}{l:Addr}{ac:List V}{σ:St}{H:Hp}{Q:List V->St->Hp->Prop}(b:Nat->List V->St->Hp->Prop)(q:b 0 ac σ H)(o:∀ i acc σ H,b i acc σ H->H l=some (.lst acc)/\SqT K H a zs)(n:∀ i x acc σ H,zs[i]?=some x->b i acc σ H->g x σ H λc r=>h c r λy j=>j l=some (.lst acc)/\acc.length<sizeLine/\Nx zs.length i (b (i+1) (acc++[y]) c (upd j l (.lst (acc++[y])))))(hd:∀ acc σ H,b zs.length acc σ H->Q acc σ H):∃ W:Nat->Nat->List V->St->Hp->Prop,(∃ m,W 0 m ac σ H)/\LCW1 (Itt K a) g iP h l Q W:=by
 refine⟨λi m acc σ H=>m=zs.length-i/\i<=zs.length/\b i acc σ H,⟨_,rfl,Y1 _,q⟩,?_⟩;rintro i m acc σ H ⟨rfl,hi,p⟩;obtain⟨k,d⟩:=o i acc σ H p;refine⟨k,?_⟩;by_cases f:i<zs.length
 ·refine .inr ⟨⟨zs,zs[i],d,J8 f⟩,λx s ⟨e,y⟩=>?_⟩
  subst e;exact n i x acc σ _ (y zs d) p
 ·obtain rfl:i=zs.length:=by lia
  exact .inl ⟨⟨zs,d,Je _⟩,hd acc σ H p⟩
def yq {α:Type}(xs ys:List α):List α:=(xs.zip ys).flatMap λp=>[p.1,p.2]
theorem wW {α:Type}:∀ (xs ys:List α),xs.length=ys.length->(yq xs ys).length=2*xs.length
 | [],[],_=>rfl
 | x::xs,y::ys,h=>by
  have h':xs.length=ys.length:=by simpa using h
  have:=wW xs ys h';show (yq xs ys).length+2=2*(xs.length+1);rw[this];lia
theorem pT {α β:Type}(f:α->β)(xs ys:List α):yq (xs.map f) (ys.map f)=(yq xs ys).map f:=by
 induction xs generalizing ys with
 | nil=>rfl
 | cons x xs ih =>
  cases ys with
  | nil=>rfl
  | cons y ys =>
   show f x::f y::yq (xs.map f) (ys.map f)=f x::f y::(yq xs ys).map f;rw[ih ys]
theorem wG {α β:Type}{f g:α->Option β}:∀ (l:List α),(∀ x∈l,f x=g x)->l.filterMap f=l.filterMap g
 | [],_=>rfl
 | x::l,h=>by
  have e:=wG l λy a=>h y (JE _ a);simp only[List.filterMap_cons,h x JH,e]
def by2 {α:Type}(off:Nat)(xs:List α):List α:=(List.range ((xs.length+1-off) / 2)).filterMap λk=>xs[off+2*k]?
theorem qB {α:Type}(off:Nat)(a:off<=1)(xs:List α):(by2 off xs).length=(xs.length+1-off) / 2:=by
 unfold by2
 have e:(List.range ((xs.length+1-off) / 2)).filterMap (λk=>xs[off+2*k]?)=(List.range ((xs.length+1-off) / 2)).pmap (λk (h:k<(xs.length+1-off) / 2)=>xs[off+2*k]'(by lia)) (λk h=>YN.mp h):=by
  rw[List.pmap_eq_map_attach,<- List.filterMap_eq_map]
  conv=>lhs;rw[<- List.attach_map_subtype_val (List.range ((xs.length+1-off) / 2)),Zr]
  refine wG _ λk b=>?_;have:=YN.mp k.2;show xs[off+2*k.1]?=some _;rw[J8 (by lia)]
 rw[e,List.length_pmap,Yv]
theorem gg {α β:Type}(f:α->β)(off:Nat)(xs:List α):by2 off (xs.map f)=(by2 off xs).map f:=by
 unfold by2;rw[Jg,List.map_filterMap];refine wG _ λk _=>?_;rw[JU]
theorem mD {xs:List V}{us:List Value}(r:Vals xs us)(a:List Nat):Vals (a.filterMap λk=>xs[k]?) (a.filterMap λk=>us[k]?):=by
 induction a with
 | nil=>exact .nil
 | cons i a ih =>
  cases e:xs[i]? with
  | none =>
   have e2:us[i]?=none:=Z0.mpr (by rw[<- r.length];exact Z0.mp e)
   rw[List.filterMap_cons_none e,List.filterMap_cons_none e2];exact ih
  | some x =>
   obtain⟨u,e2,b⟩:=r.get e;rw[List.filterMap_cons_some e,List.filterMap_cons_some e2];exact .cons b ih
theorem jC (items:Array Value):slicePick items none none (some 2)=((List.range ((items.size+1) / 2)).filterMap λk=>items.toList[2*k]?).toArray:=by
 have b:sliceBounds none none (some 2) items.size=(0,(items.size:Int),2):=rfl
 have c:sliceRange 0 (items.size:Int) 2=(List.range ((items.size+1) / 2)).map λk=>2*k:=by
  unfold sliceRange;have a:(2:Int) > 0:=by decide
  by_cases h:(0:Int)<items.size
  ·have e:(((items.size:Int)-0+2-1) / 2).toNat=(items.size+1) / 2:=by lia
   simp only[a,Yk,h,e];apply ZJ;intro k _;lia
  ·have e:items.size=0:=by lia
   rw[e];rfl
 unfold slicePick;rw[b];show ((sliceRange 0 (items.size:Int) 2).filterMap (items[·]?)).toArray=_;rw[c,Zr];refine JV List.toArray (wG _ λk _=>?_);simp
theorem mX (items:Array Value):slicePick items (some 1) none (some 2)=((List.range (items.size / 2)).filterMap λk=>items.toList[1+2*k]?).toArray:=by
 have b:sliceBounds (some 1) none (some 2) items.size=(max 0 (min 1 (items.size:Int)),(items.size:Int),2):=rfl
 have c:sliceRange (max 0 (min 1 (items.size:Int))) (items.size:Int) 2=(List.range (items.size / 2)).map λk=>1+2*k:=by
  unfold sliceRange;have a:(2:Int) > 0:=by decide
  by_cases h:(1:Int)<items.size
  ·have m:max 0 (min 1 (items.size:Int))=1:=by lia
   rw[m];have e:(((items.size:Int)-1+2-1) / 2).toNat=items.size / 2:=by lia
   simp only[a,Yk,h,e];apply ZJ;intro k _;lia
  ·have e:items.size=0\/items.size=1:=by lia
   rcases e with e|e<;>rw[e]<;>rfl
 unfold slicePick;rw[b];show ((sliceRange (max 0 (min 1 (items.size:Int))) (items.size:Int) 2).filterMap (items[·]?)).toArray=_;rw[c,Zr];refine JV List.toArray (wG _ λk _=>?_);simp
def bR (K:PySem.W.Frag)(e:TE)(d ts:TO):TE:=λσ H Q=>e σ H λx g=>d σ g λlo f=>ts σ f λo b=>o=some 2/\∃ off a c,((lo=none/\off=0)\/(lo=some 1/\off=1))/\x=.ref a/\SqL K b a c/\∀ p,b p=none->Q (.ref p) (upd b p (.lst (by2 off c)))
theorem rT {X:Cx}{e st:Expr}{lo:Option Expr}{p:TE}{n ts:TO}{t pos:Pos}(L:PE X e p)(K:PO X lo n)(G:PO X (some st) ts):PE X (.Subscript e (.Slice lo none (some st) t) pos) (bR X.K p n ts):=by
 intro pins s σ H Q I h;refine Subscript_ (thn (L pins s σ H _ I h) λv y ⟨x,R,N,A,C⟩=>wpAny_Slice (thn (K pins y σ R _ N C) λm z ⟨ol,S,O,E,D⟩=>?_));rw[evalPart_none];refine J7 (thn (G pins z σ S _ O D) λg d ⟨o,P,M,po,B⟩=>?_);obtain⟨rfl,off,a,l,f,rfl,J,k⟩:=B;cases A;have i:Inv X pins σ P { d with heap:=d.heap.push { cls:=.type "slice",data:=.fields #[m,.none,g] } }:=M.kept (t':=d.toks) λb ob q=>J6 _ q;obtain⟨c,r,u,T⟩:=i.list J;have hlen:=r.length;show wpAny (model X.prog X.w) X.A (subscriptTail e (.Slice lo none (some st) t) (.ref a) (.ref d.heap.objs.size)) (EP X pins σ Q) X.xe { d with heap:=d.heap.push { cls:=.type "slice",data:=.fields #[m,.none,g] } };refine tail_any (ops:=[.ref a,.ref d.heap.objs.size]) u.isList.typeIs slot_list_getitem.lookup (wpAny_getItem_list_slice u.isList (ZN ..) E .none po (by simp) ?_ (by rw[Jj]<;>lia)) (by with_unfolding_all rfl)
 have F:slicePick c.toArray ol none (some 2)=((List.range ((c.length+1-off) / 2)).filterMap λk=>c[off+2*k]?).toArray:=by
  rcases f with ⟨rfl,rfl⟩|⟨rfl,rfl⟩
  ·rw[jC];simp only[Jj,Nat.sub_zero,Yy]
  ·rw[mX];simp only[Jj,Nat.add_sub_cancel]
 rw[F];have j:off<=1:=by rcases f with ⟨_,rfl⟩|⟨_,rfl⟩<;>decide
 have w:Vals (by2 off l) ((List.range ((c.length+1-off) / 2)).filterMap λk=>c[off+2*k]?):=by
  have:=mD r ((List.range ((c.length+1-off) / 2)).map λk=>off+2*k);rw[Zr,Zr]at this;unfold by2;rw[hlen];exact this
 refine⟨.ref _,_,i.laid (t':=d.toks) (o:=.lst (by2 off l)) (λb ob q=>J6 _ q) (Je _) ⟨by rw[qB off j];lia,_,0,w,?_⟩,rfl,k _ (i.hok.fresh (Je _))⟩;exact JA _ rfl
end L2
namespace L2
open PySem PySem.Spec PyProof.Rows Own Bn
def Bits (ts:List Int):Prop:=∀ t∈ts,t=0\/t=1
def stK (ts is:List Int):KN:=.inr ts::is.map Sum.inl
theorem nE {H:Hp}{ts is:List Int}{b:Addr}(h:NKey H (stK ts is) b):∃ t,H b=some (.tup (.ref t::is.map V.int))/\H t=some (.tup (ts.map V.int)):=by
 obtain⟨d,j,a⟩:=h;obtain⟨v,r,e,⟨t,c,f⟩,g⟩:=(show ∃ v r,d=v::r/\(∃ t,v=.ref t/\H t=some (.tup (ts.map V.int)))/\NIvs H (is.map Sum.inl) r from a)
 have key:∀ {is:List Int}{r:List V},NIvs H (is.map Sum.inl) r->r=is.map V.int:=by
  intro is
  induction is with
  | nil=>intro r h;exact h
  | cons i is ih =>
   intro r h;obtain⟨v,q,e,c,a⟩:=(show ∃ v q,r=v::q/\v=.int i/\NIvs H (is.map Sum.inl) q from h);rw[e,c,ih a];rfl
 exact⟨t,by rw[j,e,c,key g],f⟩
theorem uo {H:Hp}{ts is:List Int}{b t:Addr}(c:H b=some (.tup (.ref t::is.map V.int)))(a:H t=some (.tup (ts.map V.int))):NKey H (stK ts is) b:=by
 have key:∀ is:List Int,NIvs H (is.map Sum.inl) (is.map V.int):=by
  intro is
  induction is with
  | nil=>exact rfl
  | cons i is ih=>exact⟨_,_,rfl,rfl,ih⟩
 exact⟨_,c,⟨_,_,rfl,⟨t,rfl,a⟩,key is⟩⟩
def KeysAt (H:Hp)(bs:List Addr)(ks:List KN):Prop:=Paired (λb k=>NKey H k b) bs ks
theorem KeysAt.tups {H H':Hp}(t:Tups H H'){bs:List Addr}{ks:List KN}(h:KeysAt H bs ks):KeysAt H' bs ks:=xE (λ_ _ z=>z.tups t) h
theorem KeysAt.mem {H:Hp}{bs:List Addr}{ks:List KN}(h:KeysAt H bs ks):∀ b∈bs,∃ k∈ks,NKey H k b:=by
 induction h with
 | nil=>intro b a;cases a
 | cons q _ ih =>
  intro b a;rcases Ja.mp a with rfl|z
  ·exact⟨_,.head _,q⟩
  ·obtain⟨k,c,e⟩:=ih b z
   exact⟨k,.tail _ c,e⟩
end L2
namespace L2
open PySem PySem.Spec PyProof.Rows Own
theorem lF {P:Program}{w:World}{K:PySem.W.Frag}{mg mb:Str->Option Value}{CX:CXT}{k:Nat}{U a:Addr}{fd:FuncData}{x:Str}{sp:Sp}{f:Shared}{vs:List Value}{ns:List Int}(ts:List Addr)
  (W:K.In f.heap) (J:f.heap.Ns mainGlobals mg) (hb:f.heap.Ns builtinsNs mb) (aa:∀ x:Str,x≠"__name__"->mb x=bootBuiltins x) (Q:f.heap.NoLimit) (hg:f.gens = #[])
  (ha:f.heap.get? a=some { cls:=.type "list",data:=.seq vs.toArray }) (hi:IntsAre vs ns) (hl:ns.length<=sizeLine) (hr:Room k callerA)
  (B:∀ p∈ts,f.heap.get? p=some (PySem.W.tabObj #[])/\K.lookup p=none/\∃ c,PySem.W.codeHdIn K c p=true)
  (Z:∃ bm ob,mg "__builtins__" = some (.ref bm)/\bm≠builtinsNs/\f.heap.get? bm=some ob/\ob.cls=.type "module"/\ob.dict=some builtinsNs/\ob.data=.plain)
  (F:∀ base:Heap,K.In base->base.Ns mainGlobals mg->(∀ p∈ts,base.BuiltinsAt mg p)->FnOk P w K mg base CX k U fd [x] sp) (L:∀ (s:Shared) (u:Value),BindsTo s fd ⟨[u],[]⟩ [(x,u)])
  (Y:∀ H:Hp,SqL K H a (ns.map V.int)->(∀ p∈ts,H p=some (.tbl #[]))->sp [.ref a] H (λv _=>v=.bl true) λ_ _ _=>False)
  (ab:∀ H e i,CX [] H f (λ_ _ _=>False) e i->False) :
  codeAny (model P w) callerA (.call (.ref U) ⟨[.ref a],[]⟩) (λr i=>r=.ok (.ret (.bool true))/\OldK f.heap i.heap/\i.os=f.os/\AllBare i.gens) f:=by
 have rv:=tF hi;have O:=hi.length
 have aT:a∉ts:=λh=>by
  have:=(B a h).1;rw[ha]at this;cases this
 have core:∀ H:Hp,(∀ b,H b=none\/(b=a/\∃ o S,H b=some (.frz o (.lst S)))\/(b∈ts/\H b=some (.tbl #[])))->(∀ p∈ts,H p=some (.tbl #[]))->SqL K H a (ns.map V.int)->HOk P w H f.heap->(H a≠none->K.lookup a=none) ->
   codeAny (model P w) callerA (.call (.ref U) ⟨[.ref a],[]⟩) (λr i=>r=.ok (.ret (.bool true))/\OldK f.heap i.heap/\i.os=f.os/\AllBare i.gens) f:=by
  intro H R hT hS M hK;have g:∀ {b:Addr}{o:Obj},f.heap.get? b=some o->H b=none->(uw f.heap H).get? b=some o:=λe n=>jw e n
  have X:∀ {b:Addr}{o:Obj}{D:Array DictEntry}{E:Nat},f.heap.get? b=some o->o.data=.dict D E->H b=none:=λ{b o D E} e d=>by
   rcases R b with z|⟨z,_⟩|⟨z,_⟩
   ·exact z
   ·rw[z,ha]at e
    cases e;cases (show Data.seq vs.toArray _=Data.dict D E from d)
   ·rw[(B b z).1]at e
    cases e;cases (show Data.fields #[]=Data.dict D E from d)
  have l:∀ {b:Addr}{m:Str->Option Value},f.heap.Ns b m->(uw f.heap H).Ns b m:=λ{b m} ⟨o,D,E,e,d,r⟩=>⟨o,D,E,g e (X e d),d,r⟩
  have N:K.In (uw f.heap H):=λb o e=>g (W b o e) (by
   rcases R b with z|⟨z,y⟩|⟨z,_⟩
   ·exact z
   ·obtain⟨o',S,q⟩:=y
    rw[z]at e q;rw[hK (by rw[q];simp)]at e;cases e
   ·rw[(B b z).2.1]at e;cases e)
  have hM:Mod K mg (uw f.heap H):=⟨N,l J,⟨mb,l hb,aa⟩,let ⟨mc,h1,h2⟩:=Q;⟨mc,l h1,h2⟩⟩;have e0:Env0 P w K mg (uw f.heap H) callerA [] f H:=⟨rfl,hM,λb o e=>gC e,Nat.le_of_eq (lN _ _),trivial,λb hb=>absurd (show b∈([]:List Addr) from hb) (by simp),M,.of_eq hg⟩
  have hB:∀ p∈ts,(uw f.heap H).BuiltinsAt mg p:=λp C=>by
   obtain⟨bm,ob,b1,b2,I,b4,b5,t⟩:=Z;refine⟨bm,ob,b1,b2,λz=>?_,λz=>?_,g I ?_,b4,b5,t⟩
   ·obtain⟨og,D,E,e,d,_⟩:=J
    rw[<- z,I]at e;rw[<- Jr e,t]at d;cases d
   ·have e:=(B p C).1
    rw[<- z,I]at e;rw[Jr e]at t;cases t
   ·rcases R bm with z|⟨z,_⟩|⟨z,_⟩
    ·exact z
    ·rw[z,ha]at I
     rw[<- Jr I]at t;cases t
    ·rw[(B bm z).1]at I
     rw[<- Jr I]at t;cases t
  refine codeAny_mono ((F _ N (l J) hB).run callerA [] f H ⟨[.ref a],[]⟩ [.ref a] [.ref a] _ _ hr e0 (L f (.ref a)) (.cons rfl .nil) (Y H hS hT)) λr i h=>?_
  cases r with
  | error e=>exact(ab H e i h).elim
  | ok fl =>
   cases fl with
   | next=>exact False.elim h
   | brk=>exact False.elim h
   | cont=>exact False.elim h
   | ret u =>
    obtain⟨v,H',os,bare,un,A,r',q⟩:=h;have q':v=.bl true:=q;subst q';obtain rfl:u=Value.bool true:=r'
    have kept:∀ b o,f.heap.get? b=some o->b∉ts->i.heap.get? b=some o:=λb o e nb=>by
     rcases R b with z|⟨_,ob,S,z⟩|⟨z,_⟩
     ·exact un.keep b o e z (λy=>absurd (show b∈([]:List Addr) from y) (by simp)) (by simp)
     ·have z2:=un.frzs b ob _ z
      obtain⟨e1,_⟩:=M b _ z;obtain⟨e2,_⟩:=A b _ z2;rw[e]at e1;cases e1;exact e2
     ·exact absurd z nb
    have tabs:∀ b∈ts,∃ more,i.heap.get? b=some (PySem.W.tabObj (#[]++more)):=λb hb=>by
     obtain⟨more,z⟩:=un.tbls b _ (hT b hb);exact⟨more,A b _ z⟩
    refine⟨rfl,⟨λb o e=>?_,λb o e=>un.there b o e (by simp)⟩,os,bare⟩;by_cases hb:b∈ts
    ·obtain⟨t1,_,c,t3⟩:=B b hb
     rw[t1]at e;cases e;obtain⟨o2,ws,_,_,_,_,_,_,_,g1,g2,g3,g4,_⟩:=PySem.W.codeHd_of_K W t3;obtain⟨more,z⟩:=tabs b hb;exact .inr (.inl ⟨⟨c,o2,ws,g1,g2,g3,g4⟩,rfl,#[],more,rfl,z⟩)
    ·exact .inl (kept b o e hb)
 have tab:∀ {H:Hp}{p:Addr},p∈ts->ObjOk P w H f.heap p (.tbl #[]):=λC=>(B _ C).1
 cases T:K.lookup a with
 | some o =>
  have e:=W a o T;rw[ha]at e;cases e;refine core (λb=>if b∈ts then some (.tbl #[]) else none) (λb=>?_) (λp C=>Jp C) (.inr ⟨_,vs.toArray,_,T,rfl,rfl,rfl,by rw[Jj,O];exact hl,by simpa using rv⟩) (λb u z=>?_) λz=>absurd (Jf aT) z
  ·by_cases hb:b∈ts
   ·exact .inr (.inr ⟨hb,Jp hb⟩)
   ·exact .inl (Jf hb)
  ·by_cases hb:b∈ts
   ·have j:=(Jp hb).symm.trans z
    cases j;exact tab hb
   ·have j:=(Jf hb).symm.trans z
    cases j
 | none =>
  refine core (λb=>if b∈ts then some (.tbl #[]) else if b=a then some (.frz { cls:=.type "list",data:=.seq vs.toArray } (.lst (ns.map V.int))) else none) (λb=>?_) (λp C=>Jp C) (.inl (.inr ⟨{ cls:=.type "list",data:=.seq vs.toArray },(Jf aT).trans (Jp rfl)⟩)) (λb u z=>?_) λ_=>T
  ·by_cases hb:b∈ts
   ·exact .inr (.inr ⟨hb,Jp hb⟩)
   ·by_cases G:b=a
    ·exact .inr (.inl ⟨G,_,_,(Jf hb).trans (Jp G)⟩)
    ·exact .inl ((Jf hb).trans (Jf G))
  ·by_cases hb:b∈ts
   ·have j:=(Jp hb).symm.trans z
    cases j;exact tab hb
   ·by_cases G:b=a
    ·have j:=((Jf hb).trans (Jp G)).symm.trans z
     cases j;subst G;exact⟨ha,by rw[Jg];exact hl,vs,_,rv,ha⟩
    ·have j:=((Jf hb).trans (Jf G)).symm.trans z
     cases j
theorem lh {l:PySem.W.OpenLaw}{n k:Nat}{q:Program}{loose:List Str}{R:(Str->Option Value)->Heap->Prop}{C:World->Heap->Prop}{d:DefRec}{K:Params->PySem.W.Frag}{CX:CXT}{sp:PySem.W.Frag->Sp}{x:Str}(ts:List Addr)(hn:l.most=some n)(t:n<=sizeLine)(z:d.params.defaults=[])(J:Room k callerA)(N:∀ (w:World) (h:Heap),C w h->(K w.params).In h/\∀ p∈ts,h.get? p=some (PySem.W.tabObj #[]))(F:∀ (w:World) (mg:Str->Option Value) (i:Addr) (h:Heap),(K w.params).In h->h.Ns mainGlobals mg->mg d.name=some (.ref i)->(∀ p∈ts,(K w.params).lookup p=none/\∃ c,PySem.W.codeHdIn (K w.params) c p=true) /\
   ∃ fd:FuncData,(∀ (s:Shared) (u:Value),BindsTo s fd ⟨[u],[]⟩ [(x,u)]) /\
    ∀ base:Heap,(K w.params).In base->base.Ns mainGlobals mg->(∀ p∈ts,base.BuiltinsAt mg p)->FnOk l.prog w (K w.params) mg base CX k i fd [x] (sp (K w.params)))(r:∀ (K:PySem.W.Frag) (H:Hp) (a:Addr) (ns:List Int),ns.length<=n->SqL K H a (ns.map V.int)->(∀ p∈ts,H p=some (.tbl #[]))->sp K [.ref a] H (λv _=>v=.bl true) λ_ _ _=>False)(A:∀ (H:Hp) (s:Shared) (e:Value) (j:Shared),CX [] H s (λ_ _ _=>False) e j->False) :
  PySem.W.WalkO q loose R C l.row.toRowW d [] (λf vs=>PySem.call f vs):=by
 refine Att.attach_call hn z λw E b mg T i o pm cd doc a vs ns G Y U W S y g hints hlen L=>?_;obtain⟨D,I⟩:=N w _ Y;obtain⟨B,fd,M,Q⟩:=F w mg i _ D G.T.g y;exact lF ts D G.T.g G.T.b G.T.builtins G.T.nolimit L g hints (JR hlen t) J (λp m=>⟨I p m,(B p m).1,(B p m).2⟩) G.T.bmain Q M (λH P O=>r (K w.params) H a ns hlen P O) λH e j=>A H b e j
structure FunC (K:PySem.W.Frag) (x qual:Str) (st:Stmt) (f:Addr) (fd:FuncData) (c:Addr):Prop where
 ex:∃ (oc:Value) (od:Option Addr) (kV doc pm:Value) (an:Option Addr) (ct:Value) (osl:Array (Option Value)),
  fd=PySem.W.fnOf x qual (xO st) (yk st) (zM st) .none kV doc pm an (.ref c) ct/\K.lookup f=some ⟨oc,od,.func fd,osl⟩/\PySem.W.codeIn K (.ref c) qual=true
 kp:PySem.W.keepIn K (.ref f)=true
theorem FunC.ok {P:Program}{w:World}{K:PySem.W.Frag}{mg:Str->Option Value}{base:Heap}{x qual:Str}{st:Stmt}{f c:Addr}{fd:FuncData}{N ps:List Str}{k:Nat}{sp:Sp}(F:FunC K x qual st f fd c)(S:FnScope N ps (zM st))(len:∀ vs H Q E,sp vs H Q E->vs.length=ps.length)(a:∀ (A:Around) (outer:List Env) (s:Shared) (H:Hp) (vs:List V) (Q:VK) (E:XK),Room k (A.deeper (envOfC qual (zM st) s.heap.objs.size f (.ref c)))->sp vs H Q E ->
   ∃ t,PSs (nC CX0 P w K mg base N qual (zM st) f (.ref c) A outer s H E).nox (yk st) t/\t { nx:=λ_ i=>Q .non i,rt:=Q } (wT N vs) H):FnOk P w K mg base CX0 (k+1) f fd ps sp:=by
 obtain⟨m,l,kV,doc,pm,an,n,j,rfl,e,d⟩:=F.ex;refine gu e d S len λA outer s H vs Q E g b=>?_;obtain⟨t,h,q⟩:=a A outer s H vs Q E g b;exact⟨t,h.nox,q⟩
end L2
namespace L2
open PySem PySem.Spec PyProof.Rows Own Bn
def xK (N:Nt)(ts:List Int)(lane:Nat):List Int:=(yS false N.forks ts lane N.forks.length).1
def passE (N:Nt)(ts:List Int)(lane:Nat):Nat:=N.ends.idxOf (yS false N.forks ts lane N.forks.length).2
def cK (N:Nt):KN->Nat->Option KN
 | [.inr ts,.inl r],m=>if ((passE N ts m:Nat):Int)=r then some (stK (xK N ts m) [(r+1)%(N.lanes:Nat)]) else none
 | _,_=>none
theorem wO (N:Nt)(ts:List Int)(lane:Nat):(xK N ts lane).length=ts.length:=wJ _
theorem xu {N:Nt}{ts:List Int}{lane:Nat}(h:Bits ts):Bits (xK N ts lane):=xn h _
def TabQ (q:Str)(Pt:Addr)(H:Hp):Prop:=∃ l,H Pt=some (.tbl (triples l).toArray)/\TabOk H q l
theorem TabQ.keep {q:Str}{Pt:Addr}{H H':Hp}(t:TabQ q Pt H)(k:∀ b o,H b=some o->(∃ ps,o=.tbl ps)\/(∃ u v,o=.frz u v)->H' b=some o):TabQ q Pt H':=by
 obtain⟨l,c,a⟩:=t;exact⟨l,k _ _ c (.inl ⟨_,rfl⟩),a.frz λb o u e=>k _ _ e (.inr ⟨_,_,rfl⟩)⟩
theorem TabQ.same {q:Str}{Pt:Addr}{H H':Hp}(t:TabQ q Pt H)(s:Same H H'):TabQ q Pt H':=t.keep λb o e _=>s b o e
theorem TabQ.but {q:Str}{Pt l:Addr}{H H':Hp}{xs:List V}(t:TabQ q Pt H)(b:But l H H')(h:H l=some (.lst xs)):TabQ q Pt H':=t.keep λc o e z=>b c o e λy=>by
 rw[y,h]at e;cases e;rcases z with ⟨_,z⟩|⟨_,_,z⟩<;>cases z
def uH:Sp:=λb H Q _=>∃ r fr d c N,b=[.ref r]/\Nt.Ok N/\NetAt H r fr d c N/\∀ p a,Same H a->a p=some (.tup ((List.replicate N.forks.length (0:Int)).map V.int))->Q (.ref p) a
end L2
namespace K63
open PySem L2 Own Bn
abbrev kf:Stmt:=top 38
def oD:Sp:=λe H Q _=>∃ r fr g f N c b,∃ a:Nat,e=[.ref r,.ref c,.int (a:Nat)]/\Nt.Ok N/\NetAt H r fr g f N/\H c=some (.lst (b.map V.int))/\b.length=N.forks.length/\Bits b/\a<N.lanes /\
 ∀ d,But c H d->d c=some (.lst ((xK N b a).map V.int))->Q (.int (passE N b a:Nat)) d
section
variable {P:Program}{w:World}{K:PySem.W.Frag}{mg:Str->Option Value}{base:Heap}
theorem kS:FnScope ["_law_net_here","_law_turns","_law_lane","_law_k","_law_a","_law_b"] ["_law_net_here","_law_turns","_law_lane"] (zM kf):=by trivial
theorem gB {f:Addr}{fd:FuncData}(F:Fun K "_law_ball" "_law_ball" kf f fd) (G:Mgs mg):FnOk P w K mg base CX0 1 f fd ["_law_net_here","_law_turns","_law_lane"] oD:=by
 refine F.ok kS (λvs H Q E h=>?_) (λaa A outer s H vs Q E hr h=>?_)
 ·obtain⟨r,fr,er,C,N,tl,ts,lane,rfl,_⟩:=h
  rfl
 obtain⟨r,fr,er,C,N,l,ts,lane,rfl,ok,na,u,tl,bits,hl,k⟩:=h;refine⟨_,(@zG _ _ _ _ _ (@xa _ _ _ _ _ _ _ _ Yz rfl (@nM _ _ _ _ _ _ _ _ false rfl G.enum (@zA _ _ _ _ _ (@zi _ _ _ _ _ _ _ zy (@qv _ 0 _ _ (by trivial)) zE (λ_ _=>rfl)) zC (by rfl)) (by rfl)) (@yW _ _ _ _ _ _ rfl (@zQ _ _ _ _ _ (@zN _ _ 3 _ kS.nd rfl (.inl rfl) (by trivial)) (@zQ _ _ _ _ _ (@yW _ _ _ _ _ _ rfl (@zQ _ _ _ _ _ (@zN _ _ 4 _ kS.nd rfl (.inl rfl) (by trivial)) (@zQ _ _ _ _ _ (@zN _ _ 5 _ kS.nd rfl (.inl rfl) (by trivial)) yJ (by rfl)) (by rfl)) (by rfl) (by rfl)) yJ (by rfl)) (by rfl)) (by rfl) (by rfl)) (@zK _ _ _ (@ya _ _ _ _ _ _ _ _ (@zp _ _ _ _ _ _ _ _ tT (@qv _ 2 _ _ (by trivial)) (@zU _ _ _ _ _ (@zA _ _ _ _ _ (@qv _ 4 _ _ (by trivial)) (@zA _ _ _ _ _ (@qv _ 5 _ _ (by trivial)) zC (by rfl)) (by rfl))) (by rfl)) (@zG _ _ _ _ _ (@zY _ _ 2 _ _ _ _ kS.nd rfl (.inl rfl) (@zi _ _ _ _ _ _ _ yK (@yO _ _ _ _ (@zA _ _ _ _ _ (@qv _ 4 _ _ (by trivial)) (@zA _ _ _ _ _ (@qv _ 5 _ _ (by trivial)) zC (by rfl)) (by rfl))) (@zi _ _ _ _ _ _ _ yK (@qv _ 1 _ _ (by trivial)) (@qv _ 3 _ _ (by trivial)) (λ_ _=>rfl)) (λ_ _=>rfl)) (by rfl) (by trivial)) (@zK _ _ _ (@yV _ _ _ _ _ _ (@zS _ _ _ _ _ _ _ _ uO zE (@zi _ _ _ _ _ _ _ yK (@qv _ 1 _ _ (by trivial)) (@qv _ 3 _ _ (by trivial)) (λ_ _=>rfl))) (@wc _ _ _ _ _ _ _ (@qv _ 1 _ _ (by trivial)) (@qv _ 3 _ _ (by trivial)) xQ (by intro _;rfl)) (by rfl) (by rfl) (by rfl)))) zw)) (by intro _;rfl)) (@zK _ _ _ (@zT _ _ _ _ (@nN _ _ _ _ _ _ _ hr.units (@zi _ _ _ _ _ _ _ zy (@qv _ 0 _ _ (by trivial)) zE (λ_ _=>rfl)) (@zA _ _ _ _ _ (@qv _ 2 _ _ (by trivial)) zC (by rfl)) (by rfl) (by rfl) (by rfl) (by rfl))))),?_⟩;have v:∀ {d:Hp},But l H d->Tups H d:=λB b xs e=>B b _ e (xL e u λz=>by cases z);refine⟨_,rfl,r,_,_,_,rfl,rfl,SqT.of na.net,rfl,fr,C,rfl,SqT.of na.forks,?_⟩
 refine pF (K:=K) (b:=false) (a:=fr) (xs:=C) (λi σ d=>(∃ L J I,σ=[some (.ref r),some (.ref l),some (.int (yS false N.forks ts lane i).2),L,J,I])/\But l H d/\d l=some (.lst ((yS false N.forks ts lane i).1.map V.int)))
  ⟨⟨_,_,_,rfl⟩,But.of (Same.refl _),u⟩ (λi σ d _ q=>SqT.of (v q.2.1 _ _ na.forks)) ?_ ?_
 ·rintro i x σ d T hx hT ⟨⟨L,J,I,rfl⟩,m,t⟩
  obtain⟨a,g,rfl,eg,Z⟩:=(na.prs.tups (v m)).get hx;have gi:i<N.forks.length:=(J9.mp eg).1;have gd:N.forks.getD i (0,0)=g:=by rw[JN,eg];rfl
  have rs:yS false N.forks ts lane (i+1)=yH false (yS false N.forks ts lane i) i g:=by show yH _ _ _ _=_;rw[gd]
  have rl:=wJ (back:=false) (fs:=N.forks) (ts:=ts) (lane:=lane) i;have rb:=xn (back:=false) (fs:=N.forks) (lane:=lane) bits i;generalize yS false N.forks ts lane i=st at *;have y:=zD hT (.tup [.int i,.ref a]);refine⟨T,_,rfl,SqT.of zB,rfl,_,_,rfl,_,_,rfl,a,_,rfl,SqT.of (y _ _ Z),rfl,_,_,rfl,_,_,rfl,rfl,rfl,?_⟩;refine⟨_,rfl,_,rfl,_,rfl,by show 2<=sizeLine;decide,λq X=>?_⟩;have M:=zD X (.tup [.int (g.1:Nat),.int (g.2:Nat)]);refine⟨q,_,rfl,.inr (SqT.of zB),rfl,rfl,_,rfl,?_⟩;show if (if false=true then !inV (V.int (st.2:Nat)) [V.int (g.1:Nat),V.int (g.2:Nat)] else inV (V.int (st.2:Nat)) [V.int (g.1:Nat),V.int (g.2:Nat)])=true then _ else _;rw[Jf Jn,ju];have Y:=M _ _ (y _ _ t);have U:But l H (L2.upd (L2.upd d T (.tup [.int i,.ref a])) q (.tup [.int (g.1:Nat),.int (g.2:Nat)])):=m.trans (But.of (y.trans M));generalize L2.upd (L2.upd d T (.tup [.int i,.ref a])) q (.tup [.int (g.1:Nat),.int (g.2:Nat)])=H3 at *;clear M y X hT Z t m;by_cases on:st.2=g.1\/st.2=g.2
  ·rw[Jw on]
   refine yE ?_;have c:yH false st i g=(st.1.set i (1-st.1.getD i 0),if st.1.getD i 0=0 then g.1 else g.2):=by unfold yH;rw[Jp on];rfl
   have D:i<st.1.length:=by lia
   obtain⟨n,en,ex⟩:∃ n:Nat,n=(yH false st i g).2/\atI [V.int (g.1:Nat),V.int (g.2:Nat)] (st.1.getD i 0)=some (.int (n:Nat)):=by
    rcases rb _ (L2.ug D) with z|z
    ·exact⟨g.1,by rw[c,z];rfl,by rw[z];exact yg (j:=0) rfl⟩
    ·exact⟨g.2,by rw[c,z];rfl,by rw[z];exact yg (j:=1) rfl⟩
   refine⟨_,rfl,_,rfl,by show 2<=sizeLine;decide,λlq S=>?_⟩;have W:=zD S (.lst [.int (g.1:Nat),.int (g.2:Nat)]);have p:=W _ _ Y;refine⟨_,rfl,_,rfl,l,_,_,_,rfl,rfl,SqL.of p,vV D,lq,_,_,_,rfl,rfl,SqL.of zB,ex,?_⟩;refine⟨_,rfl,_,rfl,l,_,_,_,rfl,rfl,SqL.of p,vV D,_,_,rfl,rfl,_,rfl,_,rfl,l,_,_,i,rfl,rfl,p,sE (by rw[Jg];exact D),⟨_,_,_,by rw[rs,<- en];rfl⟩,λb o e ne=>?_,?_⟩
   ·rw[zJ ne];exact W _ _ (U b o e ne)
   ·rw[zB,rs,c,wm]
  ·rw[Jq on]
   have c:yH false st i g=st:=by unfold yH;rw[Jf on]
   exact zr ⟨⟨_,_,_,by rw[rs,c];rfl⟩,U,by rw[rs,c];exact Y⟩
 ·rintro σ d ⟨⟨L,J,I,rfl⟩,m,t⟩
  have O:=na.prs.len;rw[O]at t;have hh:=wZ (back:=false) (ts:=ts) ok.fk hl N.forks.length (Je _);have R:=v m _ _ na.ends;rw[qX]at R;refine⟨_,rfl,r,_,_,_,rfl,rfl,SqT.of (v m _ _ na.net),rfl,er,_,rfl,R,_,rfl,(((yS false N.forks ts lane C.length).2:Nat):Int),rfl,R,?_,?_⟩
  ·rw[O];exact JJ.mpr ⟨_,ok.en.mem_iff.mpr (YN.mpr hh),rfl⟩
  ·rw[uc,O]
   exact k d m t
end
end K63
namespace L2
open PySem PySem.Spec PyProof.Rows Own Bn
section
theorem nW {α:Type}[DecidableEq α]:∀ {l ks:List α},l.Nodup->(∀ x∈l,x∈ks)->l.length<=ks.length
 | [],_,_,_=>Y1 _
 | a::l,ks,nd,h=>by
  rw[JP]at nd;have ha:=h a (.head _);have:=nW (l:=l) (ks:=ks.erase a) nd.2 λx b=>(List.mem_erase_of_ne λ(z:x=a)=>nd.1 (z ▸ b)).mpr (h x (.tail _ b));rw[List.length_erase_of_mem ha]at this;have:0<ks.length:=List.length_pos_of_mem ha;rw[Ya];lia
end
def zF (N:Nt):List Int:=List.replicate N.forks.length 0
end L2
namespace L2
open PySem PySem.Spec PyProof.Rows Own Bn
def laneM (N:Nt)(m n h:Nat):Nat:=if h=0 then m%(N.lanes / 2) else N.lanes / 2+n%(N.lanes / 2)
def xW (N:Nt):KN->Nat->Option KN
 | [.inr ts,.inl m,.inl n],h=>if ((passE N ts (laneM N m.toNat n.toNat h):Nat):Int)=(m+n)%(N.lanes:Nat) then some (if h=0 then stK (xK N ts (laneM N m.toNat n.toNat h)) [(m+1)%(N.lanes:Nat),n] else stK (xK N ts (laneM N m.toNat n.toNat h)) [m,(n+1)%(N.lanes:Nat)]) else none
 | _,_=>none
def OkM (N:Nt)(k:KN):Prop:=∃ (a:List Int) (m n:Nat),k=stK a [(m:Nat),(n:Nat)]/\a.length=N.forks.length/\Bits a/\m<N.lanes/\n<N.lanes
section
variable {N:Nt}
theorem uC (ts:List Int)(m n h:Nat):xW N (stK ts [(m:Nat),(n:Nat)]) h=if ((passE N ts (laneM N m n h):Nat):Int)=(((m:Nat):Int)+(n:Nat))%(N.lanes:Nat) then some (if h=0 then stK (xK N ts (laneM N m n h)) [(((m:Nat):Int)+1)%(N.lanes:Nat),(n:Nat)] else stK (xK N ts (laneM N m n h)) [(m:Nat),(((n:Nat):Int)+1)%(N.lanes:Nat)]) else none:=rfl
theorem kF (ok:Nt.Ok N){s t:KN}{h:Nat}(c:OkM N s)(e:xW N s h=some t):OkM N t:=by
 obtain⟨i,m,n,rfl,b,a,f,d⟩:=c;have j:=ok.l1;rw[uC]at e;split at e
 ·have g:=Jr e
  rw[<- g];by_cases z:h=0
  ·rw[Jp z]
   exact⟨_,(m+1)%N.lanes,n,by rw[YU];rfl,(wO _ _ _).trans b,xu a,Nat.mod_lt _ (by lia),d⟩
  ·rw[Jf z]
   exact⟨_,m,(n+1)%N.lanes,by rw[YU];rfl,(wO _ _ _).trans b,xu a,f,Nat.mod_lt _ (by lia)⟩
 ·cases e
theorem qt (l2:2<=N.lanes)(ev:N.lanes%2=0)(m n h:Nat):laneM N m n h<N.lanes:=by
 unfold laneM;have a:=Nat.mod_lt m (show 0<N.lanes / 2 by lia);have b:=Nat.mod_lt n (show 0<N.lanes / 2 by lia);split<;>lia
def k0M (N:Nt):KN:=stK (zF N) [0,0]
end
end L2
namespace L2
open PySem PySem.Spec PyProof.Rows Own
def DCW (P:Program)(w:World)(J:It)(g:TG)(tk n:TE)(d:Addr)(Q:VK)(W:Nat->Nat->KVN->St->Hp->Prop):Prop :=
 ∀ i m c f e,W i m c f e->(J.stop i e/\Q (.ref d) e)\/(J.go i e/\∀ x l,J.yld i e x l->g x f l λa p=>tk a p λy o=>n a o λv h=>∃ b k,y=.ref b/\h d=some (DN P w d c)/\KsIn h c/\NKey h k b/\c.length<sizeLine /\
  ∃ j,j<m/\W (i+1) j (xN c k b v) a (upd h d (DN P w d (xN c k b v))))
def tDC (P:Program)(w:World)(cap:List (Option Nat))(b:TI)(g:TG)(tk c:TE):TE:=λσ H Q=>b σ H λJ a=>∀ d,a d=none ->
 ∃ W:Nat->Nat->KVN->St->Hp->Prop,(∃ m,W 0 m [] (r0 cap σ) (upd a d (DN P w d [])))/\DCW P w J g tk c d Q W
theorem mz {X:Cx}{pins:List (Addr × Obj)}{σ:St}{H:Hp}{s:Shared}{a b:Addr}{xs:KVN}{k:KN}{v:V}{r:Value}{E:Value->Shared->Prop}{Q:Unit->Shared->Prop}(u:X.A.units+3<cLine)(I:Inv X pins σ H s)(e:H a=some (DN X.prog X.w a xs))(ks:KsIn H xs)(i:NKey H k b)(g:RelV v r)(l:xs.length<sizeLine)(h:∀ d,Inv X pins σ (upd H a (DN X.prog X.w a (xN xs k b v))) d->Q () d) :
  wpAny (model X.prog X.w) X.A (dictSet a (.ref b) r) Q E s:=by
 obtain⟨z,p,f,rel,t⟩:=sM I.hok (.inl e) ks;have j:f.length<=sizeLine:=by rw[<- Yw rel];exact z
 have o:(xN xs k b v).length<=sizeLine:=by have:=wo xs k b v;lia
 refine wpAny_dictSet_heap (knd:=yb X.prog X.w) (k:=k) (hsz:=j) (show X.A.units+2<cLine by lia) (xv I.hok i) t λw c m=>h _ ?_;exact rz I (by rw[e];exact True.intro) m (let ⟨q,_,_,n,_⟩:=c;⟨q,n⟩) (dn_new o p (putN_rel rel k b g) c)
theorem gc {prog:Program}{w:World}{A:Around}{R:Result->Shared->Prop}{s:Shared}{i g tg iter:Expr}{scope:Scope}{pos:Pos}{it:Value}{D:Addr}{env:Env}(J:Nat->Shared->Prop)(turn:∀ n s,J n s->wpAny (model prog w) A (pyNext it) (λr a=>match r with
   | none=>R (.ok .next) a
   | some v=>wpAny (model prog w) A (letOwnedTupleGo tg it v) (λ_ b=>wpAny (model prog w) A (assign tg env v) (λ_ c=>wpAny (model prog w) A (eval i env) (λx d=>wpAny (model prog w) A (eval g env) (λy e=>wpAny (model prog w) A (dictSet D x y) (λ_ z=>∃ m,m<n/\J m z) NoX e) NoX d) NoX c) NoX b) NoX a) NoX s)(n:Nat)(h:J n s) :
  codeAny (model prog w) A (.compLoop (.DictComp i g [⟨tg,iter,[],0⟩] scope pos) 0 it (.ref D) env) R s:=by
 refine codeAny_loop rfl J (λn s k=>?_) n h;show wpAny _ A ((compTurn (.DictComp i g [⟨tg,iter,[],0⟩] scope pos) 0 it (.ref D) env).onRaise (λx=>do noteFrame x env;theTreesLotGoes x)) _ _ s;refine wpAny_noted ?_;rw[compTurn_dict];refine J0 (Z5 (J0 (JL (turn n s k) (λr a j=>?_) λ_ _ z=>z.elim)))
 cases r with
 | none=>exact J7 j
 | some v =>
  refine J0 (JL j (λ_ b t=>?_) λ_ _ z=>z.elim);refine J0 (JL t (λ_ c q=>?_) λ_ _ z=>z.elim);dsimp only;rw[YH];refine J0 (J7 ?_);rw[Jp rfl];refine J0 (J0 (JL q (λx d p=>J0 (JW (JL p (λy e o=>J0 (Z5 (JW (JL o (λ_ f l=>?_) λ_ _ z=>z.elim)))) λ_ _ z=>z.elim))) λ_ _ z=>z.elim));exact J7 ⟨rfl,l⟩
theorem jI {X:Cx}{kx vx tg iter:Expr}{scope:Scope}{pos:Pos}{wi:TI}{g:TG}{tk tv:TE}{N':List Str}{cap:List (Option Nat)}(hu:X.A.units+3<cLine)(hc:X.calm=true)(hi:PI X tg iter wi)(R:CapOk X.N N' X.env.scope scope cap)(hg:∀ C s₀ H₀ fp pins,PG (yP X N' scope C s₀ H₀ fp pins) tg g)(hk:∀ C s₀ H₀ fp pins,PE (yP X N' scope C s₀ H₀ fp pins) kx tk)(hv:∀ C s₀ H₀ fp pins,PE (yP X N' scope C s₀ H₀ fp pins) vx tv)(hs:∀ x,foldedSetIterable iter X.env x=pure x:=by intro _;rfl):PE X (.DictComp kx vx [⟨tg,iter,[],0⟩] scope pos) (tDC X.prog X.w cap wi g tk tv):=by
 intro pins s σ H Q I h;rw[arm_eval_DictComp];have K:∀ y∈scope.names,y.2=.free->∃ c,X.env.cells.lookup y.1=some c:=λy hy hf=>I.ok.has y.1 (R.free y hy hf);refine wpAny_comprehension_free (use:=none) rfl hs (wj K) R.kind R.names (thn (hi pins s σ H _ I h) λv s1 h1=>thn h1 λaU D h2=>?_);obtain⟨it,fp,tn,J,H2,e,I2,T,ah,P,body⟩:=h2;subst e;have ae:H2 D.heap.objs.size=none:=I2.hok.fresh (Je _);obtain⟨W,⟨m0,w0⟩,turn⟩:=body D.heap.objs.size ae
 have w:=I2.laid (a:=D.heap.objs.size) (o:=DN X.prog X.w D.heap.objs.size []) (h':=D.heap.push { cls:=.type "dict",data:=.dict #[] }) (t':=D.toks) (λ_ _ q=>J6 _ q) (Je _)
  (dn_new (vs:=[]) (Y1 _) (YT.mpr (JQ I2.big)) .nil (Heap.DictOfH.new _))
 refine JY (wpAny_newFunctionEnv R.nocell (by intro y hy;simp at hy) (λB G F=>?_) R.kind);dsimp only at G F ⊢;generalize hl:D.heap.objs.size=l at *;generalize hP:D.heap.push { cls:=.type "dict",dict:=none,data:=.dict #[] }=P2 at *;generalize aL:upd H2 l (DN X.prog X.w l [])=H3 at *;have old:∀ b o,P2.get? b=some o->B.get? b=some o:=λb o e=>F.extBut b o (JB (Jb e)) (J6 _ e);have ad:∀ b o,D.heap.get? b=some o->P2.get? b=some o:=λb o e=>hP ▸ J6 _ e
 have ao:∀ b∈fp,b<l:=λb f=>by
  obtain⟨o,e,_⟩:=T.obj _ _ ah b f;rw[<- hl];exact Jb e
 have aO:∀ b∈fp,H3 b=none:=λb f=>by
  rw[<- aL,zJ (JB (ao b f))];exact(P b f).1
 have az:P2.objs.size=l+1:=by rw[<- hP,Ze,hl]
 have A:∀ x c,(wS X.env.cells scope.names []).lookup x=some c->X.env.cells.lookup x=some c:=λx c e=>wI _ _ x c K (λ_ _ z=>by simp at z) e;generalize aj:({ D with heap:=P2,toks:=D.toks }:Shared)=s3 at *;have t:s3.heap=P2:=by rw[<- aj]
 let Y:=yP X N' scope P2.objs.size s3 H3 fp pins
 have E:Y.Ok:=by
  refine⟨w.ok.mod,R.kind,w.ok.glob,w.ok.blt,by show s3.heap.objs.size<=P2.objs.size;rw[t];exact Je _,λx y c e1 e2=>w.ok.inj x y c (A x c e1) (A y c e2),λx V=>?_,λx c V=>absurd (show false=true from V) Jn,w.ok.hd,w.ok.frames,.inl rfl,λb f=>⟨?_,λx c e=>?_⟩,w.bs,
   JR w.ok.bsz w.sz,λb o e f=>?_,λb f hz=>?_,w.stack,w.stkFree⟩
  ·have au:scope.names.lookup x=some .free:=by
    rcases V with V|V
    ·rcases yj V with z|z
     ·exact absurd rfl (R.nocell _ (xw z))
     ·exact z.2
    ·rcases yj V with z|z
     ·exact z
     ·exact z.2
   exact xF _ _ x au
  ·exact JB (by show b<P2.objs.size;rw[az];exact ZV (ao b f))
  ·exact(P b f).2.2.2.2.1 x c (A x c e)
  ·rcases (P b f).2.2.2.1 with z|z
   ·exact w.ok.noex b o e z
   ·exact absurd (JD (Jb e) (JR w.ok.bsz z)) (Yp _)
  ·rcases Ja.mp (w.stkSub b hz) with z|z
   ·exact(P b f).2.1 z
   ·exact(P b f).2.2.1 z
 have ay:Inv Y [] (r0 cap σ) H3 { D with heap:=B,toks:=D.toks }:=by
  refine⟨E,by show D.os=s3.os;rw[<- aj],I2.bare,by show Un _ _ _ _ s3.heap B;rw[t];exact Un.kept old,⟨_,G,λj x v e1 e2 e3=>?_⟩,λx c e=>?_,?_,λx c e=>w.freeC x c (A x c e),λp hp=>?_,λb o e=>?_,?_⟩
  ·have aQ:N'[j]?=some x:=e1
   unfold r0 at e2;rw[JU]at e2
   cases ec:cap[j]? with
   | none=>rw[ec]at e2;cases e2
   | some oc =>
    rw[ec]at e2
    cases oc with
    | none=>cases e2
    | some i =>
     have aP:σ[i]?=some (some v):=by
      cases ei:σ[i]? with
      | none=>simp[ei]at e2
      | some v' =>
       simp[ei]at e2;rw[e2]
     have hz:(x,some i)∈N'.zip cap:=by
      refine Jz (i:=j) ?_;rw[YK];exact⟨aQ,ec⟩
     obtain⟨hN,hf,hk⟩:=R.cap _ hz i rfl;obtain⟨m,hn,av⟩:=w.loc;obtain⟨u,r,lk⟩:=av i x v hN aP (by rcases hk with z|z;exact .inr (.inl z);exact .inr (.inr z));refine⟨u,r,.inr ⟨?_,?_⟩⟩
     ·exact xq hf
     ·rcases lk with ⟨z,_⟩|⟨_,c,ax,aa⟩
      ·have z':X.env.scope.names.lookup x=some .local:=z
       rcases hk with q|q
       ·rw[q]at z';cases z'
       ·rw[q]at z';cases z'
      ·obtain⟨c',ak⟩:=xF (cells:=X.env.cells) scope.names [] x hf
       have:=A x c' ak;rw[ax]at this;cases this;obtain⟨ob,e,d⟩:=aa;rw[t]at e;exact⟨c,ak,ob,old c ob e,d⟩
  ·obtain⟨v,ob,e',d⟩:=w.cell x c (A x c e)
   rw[t]at e';exact⟨v,ob,old c ob e',d⟩
  ·refine w.hok.fresh ?_
   rw[t];exact Je _
  ·have ab:p∈X.pn++pins:=(Ju.mp hp).elim (λz=>z) (λz=>nomatch z)
   obtain⟨e,n,ne,nf,d⟩:=w.pin p ab;rw[t]at e;refine⟨old _ _ e,n,JB (Jb e),λz=>?_,d⟩;rcases Ja.mp (w.stkSub _ z) with q|q
   ·exact ne q
   ·exact nf q
  ·have:=w.hok.kept (h':=B) (λb u q=>old b u (by rw[<- t];exact q))
   exact this b o e
  ·show (cap.map _).length=N'.length
   rw[Jg,R.len]
 have N:∀ {L:Hp},(∀ b∈fp,L b=none)->∀ b∈fp,FpOk Y [] L b:=λ{L} hn b f=>by
  refine⟨hn b f,(E.exf b f).1,E.exfs b f,.inl f,(E.exf b f).2,λp hp=>?_⟩;have ab:p∈X.pn++pins:=(Ju.mp hp).elim (λz=>z) (λz=>nomatch z);exact(P b f).2.2.2.2.2 p ab
 have ai:tn 0 B:=T.keep 0 _ _ ah λb f o e=>old b o (ad b o e)
 have loop:codeAny (model X.prog X.w) X.A (.compLoop (.DictComp kx vx [⟨tg,iter,[],0⟩] scope pos) 0 (.ref it) (.ref l) Y.env) (compPost (model X.prog X.w) X.A X.xe none (EP X pins σ Q) (.ref l) P2.objs.size) { D with heap:=B,toks:=D.toks }:=by
  refine gc (λn s'=>∃ i acc M L,Inv Y [] M L s'/\tn i s'.heap/\(∀ b∈fp,L b=none)/\W i n acc M L) ?_ m0 ⟨0,[],_,H3,ay,ai,aO,w0⟩;rintro n s4 ⟨i,acc,U,H4,I4,ag,am,w4⟩;have q4:=turn i n acc U H4 w4;rcases q4 with ⟨stop,qn⟩|⟨go,step⟩
  ·refine thn (T.done Y rfl rfl rfl hc i [] s4 U H4 Y.xe I4 (N am) ag stop) λr s5 ⟨hr,I5⟩=>?_
   subst hr;obtain⟨m,hn,_⟩:=id I5.loc;have un:Un (frs X.stack) fp H3 H4 s3.heap s5.heap:=I5.base;have ap:s3.heap.objs.size<=P2.objs.size:=by rw[t];exact Je _
   have IX:Inv X pins σ H4 s5:=w.call' (ch:=fp) I5.os un I5.hok I5.bare λb f=>⟨(P b f).2.2.2.1,(P b f).2.1,(P b f).2.2.2.2.1,(P b f).2.2.2.2.2⟩;exact⟨m,hn,λh' sb=>⟨.ref l,H4,IX.gone (w.fpOk ap I5.free) sb,rfl,qn⟩⟩
  ·refine thn (T.item Y rfl rfl rfl hc i [] s4 U H4 Y.xe I4 (N am) ag go) λr s5 ⟨u,hr,h5⟩=>?_
   subst hr;refine thn h5 λ_ s6 ⟨x,H6,I6,r6,y6,Z,aN⟩=>?_;have aR:=I6.pinned (N aN) (T.obj _ _ Z);refine thn (hg _ _ _ _ _ _ s6 U H6 x u _ aR r6 (step x H6 y6)) λ_ s7 ⟨af,H7,I7,q7⟩=>?_
   have again:∀ {S:St}{H9:Hp}{s9:Shared}{O:KVN},Inv Y ([]++xt fp s6.heap) S H9 s9->(∃ m',m'<n/\W (i+1) m' O S H9)->∃ m,m<n/\∃ i acc M L,Inv Y [] M L s9/\tn i s9.heap/\(∀ b∈fp,L b=none)/\W i m acc M L:=λ{S H9 s9 O} I9 ⟨m',hm,w9⟩=>by
    refine⟨m',hm,i+1,O,S,H9,I9.unpinned,T.keep _ _ _ Z λb f o e=>(I9.pin (b,o) (Jy _ (Jy _ (yR f e)))).1,λb f=>?_,w9⟩;obtain⟨o,e,d⟩:=T.obj _ _ Z b f;exact(I9.pin (b,o) (Jy _ (Jy _ (yR f e)))).2.1
   refine thn (hk _ _ _ _ _ _ s7 af H7 _ I7 q7) λu1 s8 ⟨y,H8,I8,r8,q8⟩=>thn (hv _ _ _ _ _ _ s8 af H8 _ I8 q8) λu2 s9 ⟨v,H9,I9,r9,b,k,ey,aw,aq,ar,l9,q9⟩=>?_;subst ey;cases (show u1=Value.ref b from r8);exact mz (X:=Y) hu I9 aw aq ar r9 l9 λaT aS=>again aS q9
 exact codeAny_compStart_dict loop (T.self X.A 0 _ _ _ ai loop)
end L2
namespace L2
open PySem PySem.Spec PyProof.Rows Own
theorem mE (p:KN × Addr × V)(xs:KVN)(k:KN):xY (p::xs) k=if p.1=k then some p.2.2 else xY xs k:=by
 unfold xY;rw[List.find?_cons];by_cases z:p.1=k
 ·rw[Jw z,Jp z];rfl
 ·rw[Jq z,Jf z]
theorem tM (xs:KVN)(k:KN)(b:Addr)(v:V):(xN xs k b v).map (·.1)=if (xY xs k).isSome then xs.map (·.1) else xs.map (·.1)++[k]:=by
 unfold xN;by_cases z:(xY xs k).isSome=true
 ·rw[Jp z,Jp z,Zs]
  refine ZJ λy _=>?_;show (if y.1=k then (y.1,y.2.1,v) else y).1=y.1;split<;>rfl
 ·rw[Jf z,Jf z,JT];rfl
theorem yw {xs:KVN}{k:KN}:(xY xs k).isSome=true↔k∈xs.map (·.1):=by
 induction xs with
 | nil=>exact⟨λh=>(nomatch h),λh=>(nomatch h)⟩
 | cons p xs ih =>
  rw[mE,Yd,Ja];by_cases z:p.1=k
  ·rw[Jp z];exact⟨λ_=>.inl z.symm,λ_=>rfl⟩
  ·rw[Jf z,ih]
   exact⟨.inr,λh=>h.elim (λq=>absurd q.symm z) id⟩
theorem KsIn.put {H:Hp}{xs:KVN}{k:KN}{b:Addr}{v:V}(h:KsIn H xs)(hb:NKey H k b):KsIn H (xN xs k b v):=by
 intro x a;unfold xN at a;split at a
 ·obtain⟨y,c,rfl⟩:=JJ.mp a
  split
  ·exact h y c
  ·exact h y c
 ·rcases Ju.mp a with z|z
  ·exact h x z
  ·rw[Js.mp z];exact hb
end L2
namespace L2
open PySem PySem.Spec PyProof.Rows Own Bn
inductive PlO:HO->Prop
 | tup (xs:List V):PlO (.tup xs)
 | lst (xs:List V):PlO (.lst xs)
 | dK:PlO (.dK [])
def KpN (H H':Hp):Prop:=∀ b o,H b=some o->PlO o->H' b=some o
theorem KpN.same {H H':Hp}(s:Same H H'):KpN H H':=λb o e _=>s b o e
theorem KpN.trans {H c a:Hp}(x:KpN H c)(y:KpN c a):KpN H a:=λb o e n=>y b o (x b o e n) n
theorem KpN.but {P:Addr}{q:Array Value}{H H':Hp}(b:But P H H')(a:H P=some (.tbl q)):KpN H H':=λc o e n=>b c o e (xL e a λz=>by subst z;cases n)
theorem KpN.strip {H:Hp}{cl:List (Str × Addr)}(fz:CellsFz cl H):KpN H (strip cl H):=λb o e n=>by
 rw[yB]
 ·exact e
 ·intro a
  obtain⟨u,q⟩:=fz b a;rw[e]at q;cases q;cases n
theorem KpN.tups {H H':Hp}(k:KpN H H'):Tups H H':=λb a e=>k b _ e (.tup a)
instance memN (k:KN) (ks:List KN):Decidable (k∈ks):=decidable_of_iff (ks.any (λx=>decide (x=k))=true) (by simp)
def ddN (ks:List KN)(k:KN):List KN:=if k∈ks then ks else ks++[k]
def ddL (ss:List KN):List KN:=ss.foldl ddN []
theorem pJ (ss:List KN)(s:KN):ddL (ss++[s])=ddN (ddL ss) s:=by unfold ddL;rw[List.foldl_append];rfl
theorem rq (ss:List KN):(∀ x,x∈ddL ss↔x∈ss)/\(ddL ss).length<=ss.length/\((ddL ss).length=ss.length↔ss.Nodup):=by
 rcases List.eq_nil_or_concat ss with rfl|⟨ss,s,rfl⟩
 ·exact⟨λx=>Iff.rfl,Je _,⟨λ_=>List.nodup_nil,λ_=>rfl⟩⟩
 ·rw[List.concat_eq_append]
  obtain⟨b,k,j⟩:=rq ss;rw[pJ]
  have f:(ss++[s]).Nodup↔ss.Nodup/\s∉ss:=by
   rw[List.nodup_append];constructor
   ·rintro⟨a,_,c⟩
    exact⟨a,λz=>c s z s (.head _) rfl⟩
   ·rintro⟨a,c⟩
    exact⟨a,JP.mpr ⟨Jc,List.nodup_nil⟩,λx i y g e=>c (by rw[<- Js.mp g,<- e];exact i)⟩
  unfold ddN;by_cases c:s∈ddL ss
  ·rw[Jp c]
   have d:=(b s).mp c;refine⟨λx=>?_,by rw[Jd];show _<=_+1;lia,?_⟩
   ·rw[b,Ju,Js]
    exact⟨.inl,λz=>z.elim id λy=>y ▸ d⟩
   ·rw[f,Jd]
    exact⟨λz=>by have:(ddL ss).length=ss.length+1:=z;lia,λz=>absurd d z.2⟩
  ·rw[Jf c]
   have d:s∉ss:=λz=>c ((b s).mpr z);refine⟨λx=>?_,by rw[Jd,Jd];show _+1<=_+1;lia,?_⟩
   ·rw[Ju,Ju,b]
   ·rw[f,Jd,Jd,<- j]
    exact⟨λz=>⟨by have:(ddL ss).length+1=ss.length+1:=z;lia,d⟩,λz=>by rw[z.1]⟩
termination_by ss.length
decreasing_by rename_i h;rw[h,List.length_concat];exact Nat.lt_succ_self _
def xh (a:V->Option KN)(xs:List V)(k0:KN)(moves:List Nat)(step:KN->Nat->Option KN):Bool:=match xs.mapM a with
 | none=>false
 | some ss=>(decide ss.Nodup && decide (k0∈ss)) && ss.all λs=>moves.all λm=>match step s m with|none=>false|some t=>decide (t∈ss)
theorem x5 {a:V->Option KN}{xs:List V}{k0:KN}{moves:List Nat}{step:KN->Nat->Option KN}(h:xs.mapM a=none):xh a xs k0 moves step=false:=by
 unfold xh;rw[h]
theorem x4 {a:V->Option KN}{xs:List V}{ss:List KN}{k0:KN}{moves:List Nat}{step:KN->Nat->Option KN}(h:xs.mapM a=some ss):xh a xs k0 moves step=((decide ss.Nodup && decide (k0∈ss)) && ss.all λs=>moves.all λm=>match step s m with|none=>false|some t=>decide (t∈ss)):=by
 unfold xh;rw[h]
theorem tV {α β:Type}{f:α->Option β}{xs:List α}:xs.mapM f=none↔∃ x∈xs,f x=none:=by
 induction xs with
 | nil=>simp
 | cons x xs ih =>
  rw[List.mapM_cons]
  cases e:f x with
  | none=>exact⟨λ_=>⟨x,.head _,e⟩,λ_=>rfl⟩
  | some y =>
   cases g:xs.mapM f with
   | none =>
    obtain⟨z,a,q⟩:=ih.mp g
    exact⟨λ_=>⟨z,.tail _ a,q⟩,λ_=>rfl⟩
   | some b =>
    refine⟨λz=>(by cases z),λ⟨z,a,q⟩=>?_⟩;rcases Ja.mp a with rfl|w
    ·rw[e]at q;cases q
    ·rw[ih.mpr ⟨z,w,q⟩]at g;cases g
theorem vN {α β:Type}{f:α->Option β}:∀ {xs:List α}{ys:List β},xs.mapM f=some ys->xs.length=ys.length/\∀ (i:Nat) x,xs[i]?=some x->∃ y,ys[i]?=some y/\f x=some y
 | [],ys,h=>by
  rw[List.mapM_nil]at h;cases h
  exact⟨rfl,λi x e=>by cases e⟩
 | x::xs,ys,h=>by
  rw[List.mapM_cons]at h
  cases e:f x with
  | none=>rw[e]at h;cases h
  | some y =>
   rw[e]at h
   cases g:xs.mapM f with
   | none=>rw[g]at h;cases h
   | some zs =>
    rw[g]at h;cases h;obtain⟨c,b⟩:=vN g;refine⟨JV (· + 1) c,λi u a=>?_⟩
    cases i with
    | zero=>cases a;exact⟨y,rfl,e⟩
    | succ i=>exact b i u a
section
variable {K:PySem.W.Frag}{a:Addr}{xs:List V}{g g1:TG}{wi1:TI}{tt:TT}{te tk tv:TE}{l:Addr}{σ:St}{H:Hp}{Q:VK}
theorem gN (c:Nat->List V->St->Hp->Prop)(z:c 0 [] σ H)(w:∀ i acc σ H,c i acc σ H->H l=some (.lst acc)/\SqT K H a xs)(v:∀ i acc σ H x,xs[i]?=some x->c i acc σ H->g x σ H λb q=>wi1 b q λn o =>
   ∃ d:Nat->Nat->List V->St->Hp->Prop,(∃ k,d 0 k acc b o)/\LCW1 n g1 tt te l (λac h G=>Nx xs.length i (c (i+1) ac h G)) d)(hd:∀ acc σ H,c xs.length acc σ H->Q (.ref l) H):∃ W:Nat->Nat->List V->St->Hp->Prop,(∃ m,W 0 m [] σ H) /\
   ∀ i m acc f H',W i m acc f H'->H' l=some (.lst acc)/\(((Itt K a).stop i H'/\Q (.ref l) H')\/((Itt K a).go i H'/\∀ x r,(Itt K a).yld i H' x r->g x f r λb q=>wi1 b q λn o =>
    ∃ d:Nat->Nat->List V->St->Hp->Prop,(∃ k,d 0 k acc b o)/\LCW1 n g1 tt te l (λac h G=>∃ t,t<m/\W (i+1) t ac h G) d)):=by
 refine⟨λi m acc σ H=>m=xs.length-i/\i<=xs.length/\c i acc σ H,⟨xs.length,by simp,Y1 _,z⟩,?_⟩;rintro i m acc σ H ⟨rfl,hi,p⟩;obtain⟨u,j⟩:=w i acc σ H p;refine⟨u,?_⟩;by_cases s:i<xs.length
 ·refine .inr ⟨⟨xs,xs[i],j,J8 s⟩,λx r ⟨e,y⟩=>?_⟩
  subst e;exact v i acc σ _ x (y xs j) p
 ·obtain rfl:i=xs.length:=by lia
  exact .inl ⟨⟨xs,j,Je _⟩,hd acc σ H p⟩
theorem dZ {P:Program}{w:World}(d:Nat->KVN->St->Hp->Prop)(q:d 0 [] σ H)(o:∀ i acc σ H,d i acc σ H->SqT K H a xs)(n:∀ i x acc σ H,xs[i]?=some x->d i acc σ H->g x σ H λc s=>tk c s λy r=>tv c r λv f=>∃ b k,y=.ref b/\f l=some (DN P w l acc)/\KsIn f acc/\NKey f k b/\acc.length<sizeLine/\Nx xs.length i (d (i+1) (xN acc k b v) c (upd f l (DN P w l (xN acc k b v)))))(hd:∀ acc σ H,d xs.length acc σ H->Q (.ref l) H):∃ W:Nat->Nat->KVN->St->Hp->Prop,(∃ m,W 0 m [] σ H)/\DCW P w (Itt K a) g tk tv l Q W:=by
 refine⟨λi m acc σ H=>m=xs.length-i/\i<=xs.length/\d i acc σ H,⟨_,rfl,Y1 _,q⟩,?_⟩;rintro i m acc σ H ⟨rfl,hi,p⟩;have h:=o i acc σ H p;by_cases j:i<xs.length
 ·refine .inr ⟨⟨xs,xs[i],h,J8 j⟩,λx t ⟨e,y⟩=>?_⟩
  subst e;exact n i x acc σ _ (y xs h) p
 ·obtain rfl:i=xs.length:=by lia
  exact .inl ⟨⟨xs,h,Je _⟩,hd acc σ H p⟩
end
end L2
namespace Bn
open PySem L2 Own
def Deep (K:PySem.W.Frag)(H:Hp):Nat->V->Prop
 | 0,x=>AnyT K H x
 | n+1,x=>AnyT K H x/\∀ xs,zX H x=some xs->xs.length<=1000/\∀ y∈xs,Deep K H n y
theorem Deep.any {K:PySem.W.Frag}{H:Hp}:∀ {n:Nat}{x:V},Deep K H n x->AnyT K H x
 | 0,_,h=>h
 | _+1,_,h=>h.1
theorem kg {K:PySem.W.Frag}{H H':Hp}{x:V}(s:Same H H')(a:AnyT K H x):zX H' x=zX H x:=by
 cases z:zX H x with
 | some e =>
  obtain⟨b,rfl,c⟩:=yM z
  exact yT (s _ _ c)
 | none =>
  cases y:zX H' x with
  | none=>rfl
  | some d =>
   obtain⟨b,rfl,c⟩:=yM y;obtain⟨T,ty,_⟩:=a
   cases ty with
   | tup h=>rw[yT h]at z;cases z
   | lst h=>rw[s _ _ h]at c;cases c
   | frz h=>rw[s _ _ h]at c;cases c
   | dK h=>rw[s _ _ h]at c;cases c
   | dT h=>rw[s _ _ h]at c;cases c
   | ins h=>rw[s _ _ h]at c;cases c
def yQ (H:Hp)(many b:Int)(x:V):Bool:=match zX H x with
 | some a=>decide ((a.length:Int)=many) && a.all (yF b)
 | none=>false
end Bn
namespace L2
open PySem PySem.Spec PyProof.Rows Own Bn
def An (H:Hp)(x:V):Prop:=Flat x\/∃ a,x=.ref a/\((∃ b,H a=some (.tup b))\/(∃ b,H a=some (.lst b))\/H a=some (.dK []))
theorem An.any {K:PySem.W.Frag}{H:Hp}{x:V}(h:An H x):AnyT K H x:=by
 rcases h with h|⟨a,rfl,⟨b,h⟩|⟨b,h⟩|h⟩
 ·exact(Good.flat (D:=λ_=>True) h).any
 ·exact⟨_,.tup h,_,rfl⟩
 ·exact⟨_,.lst h,_,rfl⟩
 ·exact⟨_,.dK h,_,rfl⟩
theorem An.kp {H H':Hp}{x:V}(k:KpN H H')(h:An H x):An H' x:=by
 rcases h with h|⟨a,e,⟨b,h⟩|⟨b,h⟩|h⟩
 ·exact .inl h
 ·exact .inr ⟨a,e,.inl ⟨b,k _ _ h (.tup _)⟩⟩
 ·exact .inr ⟨a,e,.inr (.inl ⟨b,k _ _ h (.lst _)⟩)⟩
 ·exact .inr ⟨a,e,.inr (.inr (k _ _ h .dK))⟩
theorem An.row {H H':Hp}{x:V}(k:KpN H H')(h:An H x):zX H' x=zX H x:=by
 rcases h with h|⟨a,e,⟨c,h⟩|⟨c,h⟩|h⟩
 ·cases x<;>first|rfl|exact h.elim
 ·subst e;rw[yT h,yT (k _ _ h (.tup _))]
 ·subst e
  have b:=k _ _ h (.lst _);simp only[zX,h,b]
 ·subst e
  have b:=k _ _ h .dK;simp only[zX,h,b]
def Dp (H:Hp):Nat->V->Prop
 | 0,x=>An H x
 | n+1,x=>An H x/\∀ xs,zX H x=some xs->xs.length<=1000/\∀ y∈xs,Dp H n y
theorem Dp.an {H:Hp}:∀ {n:Nat}{x:V},Dp H n x->An H x
 | 0,_,h=>h
 | _+1,_,h=>h.1
theorem Dp.deep {K:PySem.W.Frag}{H:Hp}:∀ {n:Nat}{x:V},Dp H n x->Deep K H n x
 | 0,_,h=>h.any
 | _+1,_,h=>⟨h.1.any,λxs e=>⟨(h.2 xs e).1,λy a=>((h.2 xs e).2 y a).deep⟩⟩
theorem Dp.kp {H H':Hp}(k:KpN H H'):∀ {n:Nat}{x:V},Dp H n x->Dp H' n x
 | 0,_,h=>An.kp k h
 | _+1,_,h=>⟨h.1.kp k,λxs e=>by
  rw[h.1.row k]at e
  exact⟨(h.2 xs e).1,λy a=>((h.2 xs e).2 y a).kp k⟩⟩
theorem Dp.flat {H:Hp}{n:Nat}{x:V}(h:Flat x):Dp H n x:=by
 cases n with
 | zero=>exact .inl h
 | succ n=>exact⟨.inl h,λa e=>by cases x<;>first|cases e|exact h.elim⟩
def qx (xs:List V):List Int:=xs.filterMap λx=>match x with|.int i=>some i|_=>none
theorem jt {xs:List V}(h:∀ x∈xs,pR x=true):xs=(qx xs).map V.int:=by
 induction xs with
 | nil=>rfl
 | cons x xs ih =>
  have e:=h x (.head _)
  cases x with
  | int i=>show V.int i::xs=V.int i::(qx xs).map V.int;rw[<- ih λy a=>h y (.tail _ a)]
  | _=>cases e
def ic (H:Hp)(x:V):List Int:=qx ((zX H x).getD [])
theorem qC {x:V}{b:Int}(h:yF b x=true):pR x=true:=by
 cases x with
 | int i=>rfl
 | _=>cases h
def gr:V->Int
 | .int i=>i
 | _=>0
def yn (H:Hp)(a lanes:Int)(x:V):Bool:=match zX H x with
 | some [t,m,n]=>yQ H a 2 t && (yF lanes m && yF lanes n)
 | _=>false
def wR (H:Hp)(a lanes:Int)(x:V):Option KN:=if yn H a lanes x=true then match zX H x with
 | some [t,m,n]=>some (stK (ic H t) [gr m,gr n])
 | _=>none else none
theorem nF (H:Hp)(a lanes:Int)(x:V):(wR H a lanes x).isSome=yn H a lanes x:=by
 unfold wR;by_cases c:yn H a lanes x=true
 ·rw[Jp c,c]
  unfold yn at c;split at c
  ·rfl
  ·cases c
 ·rw[Jf c,show yn H a lanes x=false by simpa using c];rfl
theorem sW {b:Int}{x:V}(h:yF b x=true):∃ i:Nat,x=.int (i:Nat)/\(i:Int)<b:=by
 cases x with
 | int i =>
  obtain⟨p,q⟩:=(YC _ _).mp (show (decide (0<=i) && decide (i<b))=true from h);have p:=YR p;have q:=YR q
  exact⟨i.toNat,by rw[Int.toNat_of_nonneg p],by rw[Int.toNat_of_nonneg p];exact q⟩
 | _=>cases h
theorem vD {H:Hp}{N:Nt}{x:V}{s:KN}(h:wR H (N.forks.length:Nat) (N.lanes:Nat) x=some s):OkM N s/\∃ b,x=.ref b/\NKey H s b:=by
 unfold wR at h;split at h
 ·rename_i c
  unfold yn at c;split at c
  ·rename_i t m n e
   rw[e]at h;cases h;obtain⟨b,rfl,z⟩:=yM e;obtain⟨a,f⟩:=(YC _ _).mp c;obtain⟨f,A⟩:=(YC _ _).mp f;obtain⟨i,rfl,F⟩:=sW f;obtain⟨j,rfl,E⟩:=sW A;unfold yQ at a;split at a
   ·rename_i d k
    obtain⟨B,l⟩:=(YC _ _).mp a;have g:=jt λy r=>qC (Yt.mp l y r);obtain⟨t,rfl,w⟩:=yM k;have o:ic H (.ref t)=qx d:=by unfold ic;rw[k];rfl
    rw[o];have D:(qx d).length=d.length:=by have:=JV List.length g;rw[Jg]at this;exact this.symm
    have C:=YR B;refine⟨⟨_,i,j,rfl,by lia,λu v=>?_,by lia,by lia⟩,b,rfl,uo z (by rw[<- g];exact w)⟩;have:=Yt.mp l (.int u) (by rw[g];exact JJ.mpr ⟨u,v,rfl⟩);obtain⟨p,q⟩:=(YC _ _).mp (show (decide (0<=u) && decide (u<2))=true from this);have p:=YR p;have q:=YR q;lia
   ·cases a
  ·cases c
 ·cases h
end L2
namespace L2
open PySem PySem.Spec PyProof.Rows Own Bn
def uz:Nat->List (List Int)
 | 0=>[[]]
 | n+1=>(uz n).map (0::·)++(uz n).map (1::·)
theorem pQ:∀ n,(uz n).length=2 ^ n
 | 0=>rfl
 | n+1=>by
  show ((uz n).map (0::·)++(uz n).map (1::·)).length=_;rw[Jd,Jg,Jg,pQ n,Zi];lia
theorem qh:∀ {ts:List Int},Bits ts->ts∈uz ts.length
 | [],_=>.head _
 | t::ts,h=>by
  have ih:=qh (ts:=ts) λx a=>h x (.tail _ a);show t::ts∈(uz ts.length).map (0::·)++(uz ts.length).map (1::·);rcases h t (.head _) with rfl|rfl
  ·exact YB _ (JJ.mpr ⟨ts,ih,rfl⟩)
  ·exact Jy _ (JJ.mpr ⟨ts,ih,rfl⟩)
theorem rB {a u:TS}{D:Ends}{σ:St}{H:Hp}(I:St->Hp->Prop)(key:∀ σ H,I σ H->u D σ H)(h:∀ b:Ends,(∀ σ H,I σ H->b.nx σ H)->b.rt=D.rt->a b σ H):qL a u D σ H:=h { D with nx:=u D } key rfl
theorem o7 {i:Nat}{v:V}{σ:St}{H:Hp}{a u:TS}{D:Ends}(R:VK)(h:qL a u D (σ.set i (some v)) H):(λx b=>wF i x σ b ({ nx:=qL a u D,rt:=R }:Ends).nx) v H:=h
def yt (N:Nt):KN->Nat->KN
 | [.inr ts,.inl m,.inl n],h=>if h=0 then stK (xK N ts (laneM N m.toNat n.toNat h)) [(m+1)%(N.lanes:Nat),n] else stK (xK N ts (laneM N m.toNat n.toNat h)) [m,(n+1)%(N.lanes:Nat)]
 | k,_=>k
def xM (N:Nt):KN->Nat->Bool
 | [.inr ts,.inl m,.inl n],h=>decide (((passE N ts (laneM N m.toNat n.toNat h):Nat):Int)=(m+n)%(N.lanes:Nat))
 | _,_=>false
theorem qG (N:Nt)(ts:List Int)(m n h:Nat):yt N (stK ts [(m:Nat),(n:Nat)]) h=if h=0 then stK (xK N ts (laneM N m n h)) [(((m:Nat):Int)+1)%(N.lanes:Nat),(n:Nat)] else stK (xK N ts (laneM N m n h)) [(m:Nat),(((n:Nat):Int)+1)%(N.lanes:Nat)]:=rfl
theorem qy (N:Nt)(ts:List Int)(m n h:Nat):xM N (stK ts [(m:Nat),(n:Nat)]) h=decide (((passE N ts (laneM N m n h):Nat):Int)=(((m:Nat):Int)+(n:Nat))%(N.lanes:Nat)):=rfl
theorem tH {N:Nt}{k:KN}(ok:OkM N k)(h:Nat):xW N k h=if xM N k h=true then some (yt N k h) else none:=by
 obtain⟨a,m,n,rfl,_⟩:=ok;rw[uC,qG,qy];by_cases c:((passE N a (laneM N m n h):Nat):Int)=(((m:Nat):Int)+(n:Nat))%(N.lanes:Nat)
 ·rw[Jp c,Jp (Jw c)]
 ·rw[Jf c,Jf (λz=>c (YR z))]
theorem gm {N:Nt}(ok:Nt.Ok N){k:KN}(c:OkM N k)(h:Nat):OkM N (yt N k h):=by
 obtain⟨f,m,n,rfl,b,a,e,d⟩:=c;have g:=ok.l1;rw[qG];by_cases z:h=0
 ·rw[Jp z]
  exact⟨_,(m+1)%N.lanes,n,by rw[YU];rfl,(wO _ _ _).trans b,xu a,Nat.mod_lt _ (by lia),d⟩
 ·rw[Jf z]
  exact⟨_,m,(n+1)%N.lanes,by rw[YU];rfl,(wO _ _ _).trans b,xu a,e,Nat.mod_lt _ (by lia)⟩
def AftAt (N:Nt)(k:KN)(H:Hp)(x:V)(h:Nat):Prop:=∃ p b,x=.ref p/\H p=some (.tup [.int (h:Nat),.ref b])/\NKey H (yt N k h) b
theorem AftAt.tups {N:Nt}{k:KN}{H H':Hp}{x:V}{h:Nat}(t:Tups H H'):AftAt N k H x h->AftAt N k H' x h
 | ⟨p,b,e,c,a⟩=>⟨p,b,e,t _ _ c,a.tups t⟩
def vj:Sp:=λe H Q _=>∃ r fr g f N b k,e=[.ref r,.ref b]/\Nt.Ok N/\N.lanes%2=0/\NetAt H r fr g f N/\NKey H k b/\OkM N k /\
 ∀ p c d a,Same H a->H c=none->a p=some (.tup [.bl ((List.range 2).all (xM N k)),.ref c])->a c=some (.lst d)->Paired (AftAt N k a) d (List.range 2)->Q (.ref p) a
theorem rg {i:Nat}{v v':V}{σ:St}{H:Hp}{Q:St->Hp->Prop}(e:v=v')(h:wF i v' σ H Q):wF i v σ H Q:=e ▸ h
theorem dX (a b:Int):decide (V.int a=V.int b)=decide (a=b):=by
 by_cases c:a=b
 ·rw[Jw c,c];exact Jw rfl
 ·rw[Jq c];exact Jq λz=>c (V.int.inj z)
theorem nR {N:Nt}(g:N.lanes<=8)(d:N.forks.length<=13){ks:List KN}(nd:ks.Nodup)(h:∀ k∈ks,OkM N k):ks.length<=524288:=by
 have e:=nW (l:=ks) (ks:=(uz N.forks.length).flatMap λb=>(List.range N.lanes).flatMap λm=>(List.range N.lanes).map λn=>stK b [((m:Nat):Int),((n:Nat):Int)]) (List.nodup_iff_pairwise_ne.mp nd) λk o=>by
  obtain⟨b,m,n,rfl,s,r,q,p⟩:=h k o;exact List.mem_flatMap.mpr ⟨b,s ▸ qh r,List.mem_flatMap.mpr ⟨m,YN.mpr q,JJ.mpr ⟨n,YN.mpr p,rfl⟩⟩⟩
 have len:((uz N.forks.length).flatMap λb=>(List.range N.lanes).flatMap λm=>(List.range N.lanes).map λn=>stK b [((m:Nat):Int),((n:Nat):Int)]).length=2 ^ N.forks.length*(N.lanes*N.lanes):=by
  have c:∀ {A B:Type}(a:List A) (f:A->List B) (c:Nat),(∀ x∈a,(f x).length=c)->(a.flatMap f).length=a.length*c:=λa f c i=>by
   induction a with
   | nil=>rw[List.flatMap_nil];show 0=0*c;lia
   | cons x a ih =>
    rw[List.flatMap_cons,Jd,i x (.head _),ih λy j=>i y (.tail _ j),Ya,Nat.add_mul];lia
  rw[c _ _ (N.lanes*N.lanes) λb _=>by rw[c _ _ N.lanes λm _=>by rw[Jg,Yv],Yv],pQ]
 rw[len]at e;refine JR e (JR (Nat.mul_le_mul (Nat.pow_le_pow_right (by decide) d) (Nat.mul_le_mul g g)) (by decide))
end L2
namespace K63
open PySem L2 Own Bn
abbrev oN:Stmt:=top 39
section
variable {P:Program}{w:World}{K:PySem.W.Frag}{mg:Str->Option Value}{base:Heap}
theorem qN:FnScope ["_law_net_here","_law_knot","_law_lanes","_law_right","_law_found","_law_half","_law_turns","_law_rests","_law_lane","_law_end"] ["_law_net_here","_law_knot"] (zM oN):=by trivial
theorem jV {f fB:Addr}{fd dB:FuncData}(F:Fun K "_law_after" "_law_after" oN f fd) (G:Mgs mg) (UB:Use P w K mg base "_law_ball" ["_law_net_here","_law_turns","_law_lane"] 1 oD fB dB):FnOk P w K mg base CX0 2 f fd ["_law_net_here","_law_knot"] vj:=by
 refine F.ok qN (λvs H Q E h=>?_) (λaN A outer s H vs Q E hr h=>?_)
 ·obtain⟨r,fr,er,ps,N,b,k,rfl,_⟩:=h
  rfl
 obtain⟨r,fr,er,ps,N,b,k,rfl,ok,ev,na,kb,⟨d,m,n,rfl,tl,bits,hm,hn⟩,q⟩:=h;refine⟨_,(@zG _ _ _ _ _ (@zY _ _ 2 _ _ _ _ qN.nd rfl (.inl rfl) (@zi _ _ _ _ _ _ _ zy (@qv _ 0 _ _ (by trivial)) zE (λ_ _=>rfl)) (by rfl) (by trivial)) (@zG _ _ _ _ _ (@kr _ _ 3 4 _ _ _ _ _ _ _ _ _ _ _ rfl qN.nd rfl rfl (by decide) rfl rfl (@zA _ _ _ _ _ yu (@zA _ _ _ _ _ (@yO _ _ _ _ zC) zC (by rfl)) (by rfl)) (by rfl) (by rfl)) (@zG _ _ _ _ _ (@xa _ _ _ _ _ _ _ _ Yz rfl (@xA _ _ _ _ (@zU _ _ _ _ _ (@zA _ _ _ _ _ zE (@zA _ _ _ _ _ zE zC (by rfl)) (by rfl)))) (@zN _ _ 5 _ qN.nd rfl (.inl rfl) (by trivial)) (@zG _ _ _ _ _ (@kr _ _ 6 7 _ _ _ _ _ _ _ _ _ _ _ rfl qN.nd rfl rfl (by decide) rfl rfl (@zA _ _ _ _ _ (@zZ _ _ _ _ _ _ _ _ _ yZ (by rfl) G.list (by rfl) (@zA _ _ _ _ _ (@zi _ _ _ _ _ _ _ zy (@qv _ 1 _ _ (by trivial)) zE (λ_ _=>rfl)) zC (by rfl)) (by decide) (by decide) (by rfl) (by rfl)) (@zA _ _ _ _ _ (@zZ _ _ _ _ _ _ _ _ _ yZ (by rfl) G.list (by rfl) (@zA _ _ _ _ _ (@yI _ _ _ _ _ _ _ _ _ _ yc (@qv _ 1 _ _ (by trivial)) (@zx _ _ _ zE) yN) zC (by rfl)) (by decide) (by decide) (by rfl) (by rfl)) zC (by rfl)) (by rfl)) (by rfl) (by rfl)) (@zG _ _ _ _ _ (@zY _ _ 8 _ _ _ _ qN.nd rfl (.inl rfl) (@zS _ _ _ _ _ _ _ _ yX (@zS _ _ _ _ _ _ _ _ wE (@qv _ 5 _ _ (by trivial)) (@zS _ _ _ _ _ _ _ _ wu (@qv _ 2 _ _ (by trivial)) zE)) (@zS _ _ _ _ _ _ _ _ yh (@zi _ _ _ _ _ _ _ yK (@qv _ 7 _ _ (by trivial)) (@qv _ 5 _ _ (by trivial)) (λ_ _=>rfl)) (@zS _ _ _ _ _ _ _ _ wu (@qv _ 2 _ _ (by trivial)) zE))) (by rfl) (by trivial)) (@zG _ _ _ _ _ (@zY _ _ 9 _ _ _ _ qN.nd rfl (.inl rfl) (@zL _ _ _ _ _ _ _ _ _ _ _ _ _ _ _ _ UB.ok hr (by rfl) UB.m UB.kp UB.b .nil zW (@zA _ _ _ _ _ (@qv _ 0 _ _ (by trivial)) (@zA _ _ _ _ _ (@qv _ 6 _ _ (by trivial)) (@zA _ _ _ _ _ (@qv _ 8 _ _ (by trivial)) zC (by rfl)) (by rfl)) (by rfl)) (by decide) (by rfl) (by rfl)) (by rfl) (by trivial)) (@zG _ _ _ _ _ (@zY _ _ 3 _ _ _ _ qN.nd rfl (.inl rfl) (@xb _ _ _ _ _ _ _ (@qv _ 3 _ _ (by trivial)) (@wD _ _ _ _ _ (@wN _ _ _ _ _ _ _ _ xg (@qv _ 9 _ _ (by trivial)) (@zS _ _ _ _ _ _ _ _ yh (@zS _ _ _ _ _ _ _ _ yX (@zi _ _ _ _ _ _ _ zy (@qv _ 1 _ _ (by trivial)) zE (λ_ _=>rfl)) (@zi _ _ _ _ _ _ _ zy (@qv _ 1 _ _ (by trivial)) zE (λ_ _=>rfl))) (@qv _ 2 _ _ (by trivial))) (yC _)))) (by rfl) (by trivial)) (@zG _ _ _ _ _ (@yV _ _ _ _ _ _ (@zS _ _ _ _ _ _ _ _ yh (@zS _ _ _ _ _ _ _ _ yX (@zi _ _ _ _ _ _ _ yK (@qv _ 7 _ _ (by trivial)) (@qv _ 5 _ _ (by trivial)) (λ_ _=>rfl)) zE) (@qv _ 2 _ _ (by trivial))) (@wc _ _ _ _ _ _ _ (@qv _ 7 _ _ (by trivial)) (@qv _ 5 _ _ (by trivial)) xQ (by intro _;rfl)) (by rfl) (by rfl) (by rfl)) (@zK _ _ _ (@wp _ _ _ _ (@tR _ _ _ _ _ _ _ _ _ _ _ _ YS Zm Zn xB (@qv _ 4 _ _ (by trivial)) (@zA _ _ _ _ _ (@zU _ _ _ _ _ (@zA _ _ _ _ _ (@qv _ 5 _ _ (by trivial)) (@zA _ _ _ _ _ (@zU _ _ _ _ _ (@zA _ _ _ _ _ (@zZ _ _ _ _ _ _ _ _ _ zu (by rfl) G.tuple (by rfl) (@zA _ _ _ _ _ (@qv _ 6 _ _ (by trivial)) zC (by rfl)) (by decide) (by decide) (by rfl) (by rfl)) (@zA _ _ _ _ _ (@zi _ _ _ _ _ _ _ yK (@qv _ 7 _ _ (by trivial)) zE (λ_ _=>rfl)) (@zA _ _ _ _ _ (@zi _ _ _ _ _ _ _ yK (@qv _ 7 _ _ (by trivial)) zE (λ_ _=>rfl)) zC (by rfl)) (by rfl)) (by rfl))) zC (by rfl)) (by rfl))) zC (by rfl)) (by rfl) (by rfl) (by rfl) (by rfl) (by rfl)) (by rfl)))))))) (by intro _;rfl)) (@zK _ _ _ (@zT _ _ _ _ (@zU _ _ _ _ _ (@zA _ _ _ _ _ (@qv _ 3 _ _ (by trivial)) (@zA _ _ _ _ _ (@qv _ 4 _ _ (by trivial)) zC (by rfl)) (by rfl)))))))),?_⟩;obtain⟨t,hb,ht⟩:=nE kb;have l1:=ok.l1;have ay:=ok.l16;have l2:2<=N.lanes:=by lia
 have fm:=ok.fm;refine⟨_,rfl,r,_,_,_,rfl,rfl,SqT.of na.net,rfl,?_⟩;refine⟨by show 0<=sizeLine;decide,λl Y=>?_⟩;have s0:=zD Y (.lst []);refine⟨_,_,rfl,?_⟩;refine⟨by show 2<=sizeLine;decide,λT hT=>?_⟩;have s1:=zD hT (.tup [.int 0,.int 1]);refine⟨T,rfl,⟨_,SqT.of zB⟩,?_⟩;have au:=s1 _ _ (zB (H:=H) (a:=l) (o:=.lst []));have aw:L2.upd (L2.upd H l (.lst [])) T (.tup [.int 0,.int 1]) T=some (.tup [.int 0,.int 1]):=zB;have u1:=s0.trans s1;generalize L2.upd (L2.upd H l (.lst [])) T (.tup [.int 0,.int 1])=H1 at *;clear s0 s1 hT
 refine rh (K:=K) (a:=T) (xs:=[.int 0,.int 1]) (λi σ j=>∃ acc v5 v6 v7 v8 v9,σ=[some (.ref r),some (.ref b),some (.int (N.lanes:Nat)),some (.bl ((List.range i).all (xM N (stK d [((m:Nat):Int),((n:Nat):Int)])))),some (.ref l),v5,v6,v7,v8,v9]/\Same H j/\j T=some (.tup [.int 0,.int 1])/\j l=some (.lst acc)/\Paired (AftAt N (stK d [((m:Nat):Int),((n:Nat):Int)]) j) acc (List.range i)) ⟨[],_,_,_,_,_,rfl,u1,aw,au,.nil⟩ (λi σ j _ z=>by
  obtain⟨_,_,_,_,_,_,_,_,z,_⟩:=z
  exact SqT.of z) ?_ ?_
 rotate_left
 ·rintro σ j ⟨acc,v5,v6,v7,v8,v9,rfl,L,ab,J,pr⟩
  refine⟨_,rfl,_,rfl,by show 2<=sizeLine;decide,λp hp=>?_⟩;have M:=zD hp (.tup [.bl ((List.range 2).all (xM N (stK d [((m:Nat):Int),((n:Nat):Int)]))),.ref l]);exact q p l acc _ (L.trans M) Y zB (M _ _ J) (xE (λ_ _ z=>z.tups (Tups.of M)) pr)
 rintro i x σ j hx ⟨acc,v5,v6,v7,v8,v9,rfl,L,ab,J,pr⟩;have i2:i<2:=(J9.mp hx).1
 obtain rfl:x=.int (i:Nat):=by
  rcases (by lia:i=0\/i=1) with rfl|rfl<;>exact(Jr hx).symm
 refine⟨_,rfl,b,_,_,_,rfl,rfl,SqT.of (L _ _ hb),rfl,t,_,rfl,.inr (SqT.of (L _ _ ht)),λR W=>?_⟩;have M:=zD W (.lst (d.map V.int));refine⟨_,rfl,_,rfl,b,_,rfl,M _ _ (L _ _ hb),λc H4 s4 hc=>⟨c,_,rfl,.inr (SqT.of hc),λg C=>?_⟩⟩
 have e4:xU (V.ref t::[((m:Nat):Int),((n:Nat):Int)].map V.int) (some 1) none=[V.int (m:Nat),V.int (n:Nat)]:=by
  rw[show (some (1:Int))=some (((1:Nat)):Int) from rfl,y8 _ 1 (by show 1<=3;decide)];rfl
 rw[e4];have s5:=zD C (.lst [.int (m:Nat),.int (n:Nat)]);have ai:R≠g:=zH (s4 _ _ zB) C;have O:=s5 _ _ (s4 _ _ (zB (H:=j) (a:=R) (o:=.lst (d.map V.int))));have B:L2.upd H4 g (.lst [.int (m:Nat),.int (n:Nat)]) g=some (.lst [.int (m:Nat),.int (n:Nat)]):=zB;have u5:=(M.trans s4).trans s5;have flb:j R=none:=W;have ad:j g=none:=(M.trans s4).free C;refine⟨_,_,rfl,?_⟩;generalize L2.upd H4 g (.lst [.int (m:Nat),.int (n:Nat)])=H5 at *;clear M s4 s5 hc e4 C W;obtain⟨xi,ae⟩:∃ xi:Nat,xi=if i=0 then m else n:=⟨_,rfl⟩
 have ak:([.int (m:Nat),.int (n:Nat)]:List V)[i]?=some (.int (xi:Nat)):=by
  rcases (by lia:i=0\/i=1) with rfl|rfl<;>rw[ae]<;>rfl
 have hw:((N.lanes:Nat):Int) / 2=((N.lanes / 2:Nat):Int):=rfl
 have af:((i:Nat):Int)*(((N.lanes:Nat):Int) / 2)+((xi:Nat):Int)%(((N.lanes:Nat):Int) / 2)=((laneM N m n i:Nat):Int):=by
  rw[hw,ae];unfold laneM;rcases (by lia:i=0\/i=1) with rfl|rfl
  ·rw[Jp rfl,Jp rfl,YU];lia
  ·rw[Jf (by decide),Jf (by decide),Int.natCast_add,YU];lia
 refine⟨_,rfl,_,rfl,_,_,rfl,rfl,⟨by decide,by decide⟩,_,_,rfl,rfl,.inl ⟨by lia,by lia⟩,_,rfl,_,rfl,g,_,_,_,rfl,rfl,SqL.of B,yg ak,_,rfl,_,_,rfl,rfl,⟨by decide,by decide⟩,_,_,rfl,rfl,by show (0:Int)<((N.lanes:Nat):Int) / 2;lia,_,_,rfl,rfl,?_⟩;refine rg (v':=.int (laneM N m n i:Nat)) (JV V.int af) ?_;have ap:=qt l2 ev m n i;have aj:=na.tups (Tups.of (L.trans u5));refine⟨_,rfl,_,rfl,_,rfl,r,fr,er,ps,N,R,d,laneM N m n i,rfl,ok,aj,O,tl,bits,ap,λS b6 h6=>?_⟩;have u6:Same j S:=λc o e=>b6 c o (u5 c o e) (zH e flb);have y:=b6 _ _ B ai.symm;clear b6 O B aj u5;have Z:=u6 _ _ (L _ _ hb);have rt:((List.range (i+1)).all (xM N (stK d [((m:Nat):Int),((n:Nat):Int)])))=((List.range i).all (xM N (stK d [((m:Nat):Int),((n:Nat):Int)])) && xM N (stK d [((m:Nat):Int),((n:Nat):Int)]) i):=by rw[List.range_succ,List.all_append];simp
 refine o7 (λ_ _=>True) ?_;refine rB (λσ H7=>σ=[some (.ref r),some (.ref b),some (.int (N.lanes:Nat)),some (.bl ((List.range (i+1)).all (xM N (stK d [((m:Nat):Int),((n:Nat):Int)])))),some (.ref l),some (.int (i:Nat)),some (.ref R),some (.ref g),some (.int (laneM N m n i:Nat)),some (.int (passE N d (laneM N m n i):Nat))]/\H7=S) ?_ λD ah _=>?_
 rotate_left
 ·refine⟨_,rfl,_,rfl,?_⟩
  cases z:(List.range i).all (xM N (stK d [((m:Nat):Int),((n:Nat):Int)])) with
  | false =>
   rw[z]at rt
   exact zr (rg (v':=.bl ((List.range (i+1)).all (xM N (stK d [((m:Nat):Int),((n:Nat):Int)])))) (by rw[rt];rfl) (ah _ _ ⟨rfl,rfl⟩))
  | true =>
   rw[z,W0,qy]at rt;refine yE ⟨_,rfl,_,rfl,b,_,_,_,rfl,rfl,SqT.of Z,rfl,_,rfl,b,_,_,_,rfl,rfl,SqT.of Z,rfl,_,_,rfl,rfl,_,rfl,_,_,rfl,rfl,by show (0:Int)<(N.lanes:Nat);lia,rfl,?_⟩;exact rg (v':=.bl ((List.range (i+1)).all (xM N (stK d [((m:Nat):Int),((n:Nat):Int)])))) (by rw[rt];exact JV V.bl (dX _ _)) (ah _ _ ⟨rfl,rfl⟩)
 rintro σ H7 ⟨rfl,eH⟩;rw[eH];clear eH
 have am:yt N (stK d [((m:Nat):Int),((n:Nat):Int)]) i=stK (xK N d (laneM N m n i)) (if i=0 then [(((m:Nat):Int)+1)%(N.lanes:Nat),(n:Nat)] else [(m:Nat),(((n:Nat):Int)+1)%(N.lanes:Nat)]):=by
  rw[qG];split<;>rfl
 have nl:([.int (m:Nat),.int (n:Nat)]:List V).set i (.int ((((xi:Nat):Int)+1)%(N.lanes:Nat)))=(if i=0 then [(((m:Nat):Int)+1)%(N.lanes:Nat),((n:Nat):Int)] else [((m:Nat):Int),(((n:Nat):Int)+1)%(N.lanes:Nat)]).map V.int:=by
  rw[ae];rcases (by lia:i=0\/i=1) with rfl|rfl<;>rfl
 refine⟨_,rfl,_,rfl,g,_,_,_,rfl,rfl,SqL.of y,yg ak,_,_,rfl,rfl,_,rfl,_,_,rfl,rfl,by show (0:Int)<(N.lanes:Nat);lia,?_⟩;refine⟨_,rfl,_,rfl,g,_,_,i,rfl,rfl,y,sE i2,?_⟩;rw[nl];have az:T≠g:=zH ab ad;have aL:l≠g:=zH J ad;have q8:∀ {c:Addr}{o:HO},j c=some o->∀ v,L2.upd S g v c=some o:=λe v=>by rw[zJ (zH e ad)];exact u6 _ _ e
 have I:=q8 J (.lst ((if i=0 then [(((m:Nat):Int)+1)%(N.lanes:Nat),((n:Nat):Int)] else [((m:Nat):Int),(((n:Nat):Int)+1)%(N.lanes:Nat)]).map V.int));have aa:=q8 ab (.lst ((if i=0 then [(((m:Nat):Int)+1)%(N.lanes:Nat),((n:Nat):Int)] else [((m:Nat):Int),(((n:Nat):Int)+1)%(N.lanes:Nat)]).map V.int));have u8:Same j (L2.upd S g (.lst ((if i=0 then [(((m:Nat):Int)+1)%(N.lanes:Nat),((n:Nat):Int)] else [((m:Nat):Int),(((n:Nat):Int)+1)%(N.lanes:Nat)]).map V.int))):=λc o e=>q8 e _;have av:L2.upd S g (.lst ((if i=0 then [(((m:Nat):Int)+1)%(N.lanes:Nat),((n:Nat):Int)] else [((m:Nat):Int),(((n:Nat):Int)+1)%(N.lanes:Nat)]).map V.int)) R=some (.lst ((xK N d (laneM N m n i)).map V.int)):=by rw[zJ ai];exact h6
 have X:L2.upd S g (.lst ((if i=0 then [(((m:Nat):Int)+1)%(N.lanes:Nat),((n:Nat):Int)] else [((m:Nat):Int),(((n:Nat):Int)+1)%(N.lanes:Nat)]).map V.int)) g=some (.lst ((if i=0 then [(((m:Nat):Int)+1)%(N.lanes:Nat),((n:Nat):Int)] else [((m:Nat):Int),(((n:Nat):Int)+1)%(N.lanes:Nat)]).map V.int)):=zB;dsimp only;generalize L2.upd S g (.lst ((if i=0 then [(((m:Nat):Int)+1)%(N.lanes:Nat),((n:Nat):Int)] else [((m:Nat):Int),(((n:Nat):Int)+1)%(N.lanes:Nat)]).map V.int))=H8 at *;obtain⟨x0,x1,ex⟩:∃ x0 x1:Int,(if i=0 then [(((m:Nat):Int)+1)%(N.lanes:Nat),((n:Nat):Int)] else [((m:Nat):Int),(((n:Nat):Int)+1)%(N.lanes:Nat)])=[x0,x1]:=by split<;>exact⟨_,_,rfl⟩
 rw[ex]at X am;clear q8 Z u6 y h6 rt nl;refine⟨_,rfl,.inl ⟨rfl,_,SqL.of I⟩,_,rfl,_,rfl,R,_,rfl,.inl ⟨SqL.of av,λtt aq=>?_⟩⟩;have s9:=zD aq (.tup ((xK N d (laneM N m n i)).map V.int));refine⟨_,rfl,g,_,_,_,rfl,rfl,SqL.of (s9 _ _ X),rfl,_,rfl,g,_,_,_,rfl,rfl,SqL.of (s9 _ _ X),rfl,by show 3<=sizeLine;decide,λkq ar=>⟨by show 2<=sizeLine;decide,λp hp=>?_⟩⟩;have ag:=zD ar (.tup [.ref tt,.int x0,.int x1]);have U:=zD hp (.tup [.int (i:Nat),.ref kq]);have u:=(s9.trans ag).trans U;have key:=uo (H:=L2.upd _ p (.tup [.int (i:Nat),.ref kq])) (is:=[x0,x1]) (t:=tt) (U _ _ zB) (U _ _ (ag _ _ zB));have ao:AftAt N (stK d [((m:Nat):Int),((n:Nat):Int)]) (L2.upd _ p (.tup [.int (i:Nat),.ref kq])) (.ref p) i:=⟨p,kq,rfl,zB,am ▸ key⟩;have al:=Yw pr;rw[Yv]at al;refine⟨l,acc,.ref p,rfl,rfl,u _ _ I,by rw[al,JM];lia,?_⟩;have ax:∀ {c:Addr}{o:HO},H c=some o->c≠l:=λe=>zH e Y;have tf:∀ v,Tups (L2.upd _ p (.tup [.int (i:Nat),.ref kq])) (L2.upd (L2.upd _ p (.tup [.int (i:Nat),.ref kq])) l (.lst v)):=λv=>Tups.lst (u _ _ I);refine⟨acc++[.ref p],_,_,_,_,_,rfl,λc o e=>?_,?_,zB,?_⟩
 ·rw[zJ (ax e)];exact u _ _ (u8 _ _ (L _ _ e))
 ·rw[zJ λz=>by rw[z,I]at aa;cases aa];exact u _ _ aa
 ·rw[List.range_succ]
  exact Paired.snoc (xE (λ_ _ z=>(z.tups (Tups.of (u8.trans u))).tups (tf _)) pr) (ao.tups (tf _))
end
end K63
namespace L2
open PySem PySem.Spec PyProof.Rows Own Bn
def TyD (P:Program)(w:World)(K:PySem.W.Frag)(H:Hp)(x:V)(t:Value):Prop:=TyOf K H x t\/∃ a b,x=.ref a/\H a=some (DN P w a b)/\t=.type "dict"
section
variable {X:Cx}
theorem sO:CallR X (.builtin "isinstance") (λvs H Q=>∃ x T t k,vs=[x,.ty T]/\TyD X.prog X.w X.K H x t/\PySem.W.kitOne X.K t (.type T)=some k/\Q (.bl k) H):=by
 intro pins s σ H vs p Q I g h;obtain⟨x,T,t,k,rfl,b,e,q⟩:=h;obtain⟨u,v,rfl,d,c⟩:=g.two;cases (show v=Value.type T from c);rcases b with b|⟨a,f,rfl,m,rfl⟩
 ·exact sI I d b e λn=>⟨.bl k,H,I.tok n,rfl,q⟩
 ·cases (show u=Value.ref a from d)
  have i:ObjOk X.prog X.w H s.heap a (DN X.prog X.w a f):=I.hok a _ m;obtain⟨⟨_,_,vs,_,o,r,w,j,l,_⟩,_⟩:=i;exact Yx PySem.W.kitx_dict I.kIn ⟨o,j,l.1⟩ e (λz=>nomatch z) λn=>⟨.bl k,H,I.tok n,rfl,q⟩
end
def AnyN (P:Program)(w:World)(K:PySem.W.Frag)(H:Hp)(x:V):Prop:=AnyT K H x\/∃ a b,x=.ref a/\H a=some (DN P w a b)
theorem wB {P:Program}{w:World}{H:Hp}{a:Addr}{xs:KVN}(e:H a=some (DN P w a xs)):zX H (.ref a)=none:=by simp only[zX,e];rfl
theorem AnyN.isi {P:Program}{w:World}{K:PySem.W.Frag}{H:Hp}{x:V}(h:AnyN P w K H x):∃ t,TyD P w K H x t/\PySem.W.kitOne K t (.type "tuple")=some (zX H x).isSome:=by
 rcases h with h|⟨a,b,rfl,e⟩
 ·obtain⟨t,I⟩:=h.isi
  exact⟨t,.inl I.ty,I.tup⟩
 ·exact⟨.type "dict",.inr ⟨a,b,rfl,e,rfl⟩,by rw[wB e];rfl⟩
def AnD (P:Program)(w:World)(H:Hp)(x:V):Prop:=An H x\/∃ a b,x=.ref a/\H a=some (DN P w a b)
theorem AnD.any {P:Program}{w:World}{K:PySem.W.Frag}{H:Hp}{x:V}(h:AnD P w H x):AnyN P w K H x:=h.imp (λa=>a.any) id
def vF (P:Program)(w:World)(K:PySem.W.Frag)(q:Lam)(i:List Str)(g:LSpc)(L:Lam)(fr:List Str)(lsp:LSpc):Sp:=λp H Q _=>∃ x fs k mv f e a j moves cl vals step Ok n c,
 p=[x,.ref fs,.ref k,.ref mv,.ref f]/\e.map (·.1)=i/\LamAt H fs q e a/\NKey H j k/\Way K H mv f L fr lsp cl vals step Ok moves n/\moves.length<=16/\AnyN P w K H x /\
 (∀ d,zX H x=some d->d.length<=600000/\∀ y∈d,(∀ h (l:VK),KpN H h->(∀ m,Same h m->l (.bl (c y).isSome) m)->g a [y] h l E0)/\∀ s,c y=some s->Ok s/\∃ b,y=.ref b/\NKey H s b) /\
 ∀ o,Same H o->Q (.bl (match zX H x with|none=>false|some d=>xh c d j moves step)) o
end L2
namespace L2
open PySem PySem.Spec PyProof.Rows Own
section
variable {prog:Program}{w:World}{A:Around}{E:Value->Shared->Prop}
theorem NIs.same {h h':Heap}(t:∀ b o,o.cls=.type "tuple"->h.get? b=some o->h'.get? b=some o) {ks:KN}{a:Addr}(p:NIs prog w h ks a):NIs prog w h' ks a:=by
 have one:∀ {k:KI}{v:Value},NIt prog w h k v->NIt prog w h' k v:=λ{k v} q=>by
  cases k with
  | inl i=>exact q
  | inr u =>
   obtain⟨b,e,o,c,n,j,d,g⟩:=q;exact⟨b,e,o,c,n,t b o d j,d,g⟩
 have all:∀ {ks:KN}{f:List Value},NIts prog w h ks f->NIts prog w h' ks f:=λ{ks}=>by
  induction ks with
  | nil=>exact λq=>q
  | cons k ks ih =>
   intro f q;obtain⟨v,r,e,m,l⟩:=q;exact⟨v,r,e,one m,ih l⟩
 obtain⟨o,c,n,j,d,g,s⟩:=p;exact⟨o,c,n,t a o d j,d,g,all s⟩
variable {d it l:Addr}{its:Array Value}{ps:List (KN × Addr × Value)}{res:Value}
def PairsH (P:Program)(w:World)(h:Heap)(its:Array Value)(ps:List (KN × Addr × Value)):Prop :=
 its.size=ps.length/\∀ (i:Nat) (x:Value),its[i]?=some x->∃ t v k b ob m,x=.ref t/\h.get? t=some ob/\ob.cls=.type "tuple"/\ob.data=.seq #[.ref b,v] m/\NIs P w h k b/\ps[i]?=some (k,b,v)
theorem PairsH.same {h h':Heap}(p:PairsH prog w h its ps) (f:∀ b o,o.cls=.type "tuple"->h.get? b=some o->h'.get? b=some o):PairsH prog w h' its ps :=
 ⟨p.1,λi x e=>let ⟨t,v,k,b,ob,m,j,e2,a,g,d,c⟩:=p.2 i x e;⟨t,v,k,b,ob,m,j,f t ob a e2,a,g,d.same f,c⟩⟩
theorem qU {R:Result->Shared->Prop}(hh:A.handled=none)(hu:A.units+3<cLine):∀ (m i:Nat) (s:Shared) (xs:List (KN × Addr × Value)),i+m=its.size->s.heap.IsListIter it l i->s.heap.IsList l its->s.heap.DictOfH (yb prog w) d xs->PairsH prog w s.heap its ps->it≠d->xs.length+m<=sizeLine ->
  (∀ h' tk,h'.DictOfH (yb prog w) d (mergeN xs (ps.drop i))->(∀ b o,b≠d->b≠it->s.heap.get? b=some o->h'.get? b=some o)->R (.ok (.ret res)) { s with heap:=h',toks:=tk }) ->
  codeAny (model prog w) A (.builtin "dict.update.loop" ⟨[.ref d,.ref it,rawInt (i:Int),res],[]⟩) R s:=by
 intro m
 induction m with
 | zero =>
  intro i s xs im hit G p n ne hz fin;refine ZE wH ?_;rw[Zg yz];show wpAny _ A.in1 (pyNext (Value.ref it) >>= _) _ _ _;refine J0 (wpAny_pyNext_list_end (A:=A.in1) hh hit G (Array.getElem?_eq_none (by lia)) λh' j=>?_);refine J0 (J7 (J7 (fin h' s.toks ?_ λb o _ nb e=>j b o nb e)));rw[List.drop_eq_nil_of_le (by rw[<- n.1];lia)];obtain⟨o,u,y,e,c,H,O,h,N⟩:=p;refine⟨o,u,y,j d o (Ne.symm ne) e,c,H,O,λx M=>(h x M).same λb o' I X=>j b o' ?_ X,N⟩;rintro rfl;obtain⟨F,e2,a,_⟩:=hit;rw[X]at e2;obtain rfl:=Jr e2
  rw[I]at a;exact absurd (Value.type.inj a) (by decide)
 | succ m ih =>
  intro i s xs im hit G p n ne hz fin;obtain⟨x,ex⟩:∃ x,its[i]?=some x:=⟨_,getElem?_pos its i (by lia)⟩;obtain⟨t,v,k,b,ob,mm,rfl,et,I,dt,hk,V⟩:=n.2 i x ex;refine ZE wH ?_;rw[Zg yz];show wpAny _ A.in1 (pyNext (Value.ref it) >>= _) _ _ _;refine J0 (wpAny_pyNext_list_item (A:=A.in1) hit G ex λQ E f=>?_)
  have W:∀ {b:Addr}{o:Obj},o.cls=.type "tuple"->s.heap.get? b=some o->b≠it:=λ{b o} c e z=>by
   obtain⟨F,e2,a,_⟩:=hit;rw[z]at e;rw[e]at e2;obtain rfl:=Jr e2;rw[c]at a;exact absurd (Value.type.inj a) (by decide)
  have Y:∀ {b:Addr}{o:Obj},o.cls=.type "tuple"->s.heap.get? b=some o->b≠d:=λ{b o} c e z=>by
   obtain⟨F,u,y,e2,a,H,_⟩:=p;rw[z]at e;rw[e]at e2;obtain rfl:=Jr e2;have q:=a.1;rw[c]at q;exact absurd (Value.type.inj q) (by decide)
  have L:∀ b o,o.cls=.type "tuple"->s.heap.get? b=some o->Q.get? b=some o:=λb o c e=>(f.2 b (W c e)).trans e;have C:=L t ob I et;have ty:({ s with heap:=Q }:Shared).TypeIs (.ref t) "tuple":=⟨ob,C,I⟩
  have U:Q.DictOfH (yb prog w) d xs:=by
   obtain⟨o,u,y,e,c,H,O,h,N⟩:=p;exact⟨o,u,y,(f.2 d (Ne.symm ne)).trans e,c,H,O,λx M=>(h x M).same L,N⟩
  refine J0 (JW (J0 (wpAny_tryCatch ?_)));unfold Builtin.Dict.pairItems;refine J0 (YG ty ?_);rw[Jp (by decide)];refine J0 (Y3 C dt (J7 ?_));refine JW (wpAny_dictSet_heap (knd:=yb prog w) (show A.in1.units+2<cLine by rw[Around.in1_units];lia) (hk.same L) U (λP T B=>?_) (by lia));refine J7 ⟨plainId_quiet yz _,?_⟩;have g:∀ b o,b≠d->b≠it->s.heap.get? b=some o->P.get? b=some o:=λb o K J e=>(B.2 b K).trans ((f.2 b J).trans e);have Z:=mO xs (k,b,v)
  have D:P.IsListIter it l (i+1):=by
   obtain⟨o,e,r⟩:=E;exact⟨o,(B.2 it ne).trans e,r⟩
  have S:P.IsList l its:=by
   obtain⟨o,e,c,r⟩:=G;refine⟨o,g l o (λz=>?_) (λz=>?_) e,c,r⟩
   ·obtain⟨F,u,y,e2,a,_⟩:=p
    rw[<- z,e]at e2;obtain rfl:=Jr e2;have q:=a.1;rw[c]at q;exact absurd (Value.type.inj q) (by decide)
   ·obtain⟨F,e2,a,_⟩:=hit
    rw[<- z,e]at e2;obtain rfl:=Jr e2;rw[c]at a;exact absurd (Value.type.inj a) (by decide)
  refine ih (i+1) _ (storedH xs k b v) (by lia) D S T (n.same λb o c e=>g b o (Y c e) (W c e) e) ne (by have:(storedH xs k b v).length<=xs.length+1:=Z;lia) λh' tk d' j=>fin h' tk ?_ λb o K J e=>j b o K J (g b o K J e);have il:i<ps.length:=by rw[<- n.1];lia
  rw[YY il,show ps[i]=(k,b,v) from (J9.mp V).2];exact d'
theorem pI {s:Shared}{n:Nat}{Q:Value->Shared->Prop}(y:A.handled=none) (N:A.units+4<cLine) (I:s.heap.get? l=some { cls:=.type "list",data:=.seq its n }) (H:PairsH prog w s.heap its ps) (M:its.size<=sizeLine)
  (h:∀ f k,f.DictOfH (yb prog w) s.heap.objs.size (mergeN [] ps)->(∀ b o,s.heap.get? b=some o->f.get? b=some o)->Q (.ref s.heap.objs.size) { s with heap:=f,toks:=k }) :
  wpAny (model prog w) A (call (.type "dict") [.ref l]) Q E s:=by
 refine callType_codes (Q₁:=λob v=>ob=.ref s.heap.objs.size/\v={ s with heap:=s.heap.push { cls:=.type "dict",data:=.dict #[] } }) F.kt_called_dict (F.kt_typeCall_dict_1 _) F.entry_dict_init (kt_code_dict_new _ ⟨rfl,rfl⟩) ?_;rintro ob v ⟨rfl,rfl⟩;have nw:(s.heap.push { cls:=.type "dict",data:=.dict #[] }).DictOfH (yb prog w) s.heap.objs.size []:=Heap.DictOfH.new s.heap;have d:=J6 ({ cls:=.type "dict",data:=.dict #[] }:Obj) I;have B:({ s with heap:=s.heap.push { cls:=.type "dict",data:=.dict #[] } }:Shared).TypeIs (.ref l) "list":=⟨_,d,rfl⟩;refine⟨nw.typeIs,F.args_dict_init_2 _ _,?_⟩;unfold Builtin.«dict.__init__» Builtin.Dict.selfAndRest;refine J0 (J0 (wpAny_notOrdered_dict nw.typeIs (J7 ?_)));show wpAny _ _ (Builtin.Dict.updateFrom "dict.__init__" s.heap.objs.size (Value.ref l) [] Value.none) _ _ _;unfold Builtin.Dict.updateFrom;refine J0 (YG B ?_);rw[Jp (by decide)];refine J0 (lD d y λj m c=>?_);rw[Jp (by rfl)];refine J0 (YD ?_);have g:=c _ _ d;refine J0 (wpAny_pyIter_list ⟨_,g,rfl,_,rfl⟩ ?_);refine J7 ⟨plainId_quiet yz _,?_⟩;have a:∀ b o,(s.heap.push { cls:=.type "dict",data:=.dict #[] }).get? b=some o->(j.push ({ cls:=.type "list_iterator",data:=.fields #[.ref l,.int 0 0] }:Obj)).get? b=some o:=λb o e=>J6 _ (c b o e);obtain⟨C,t,u,z,cd,J,q,L,p⟩:=nw;have dl:s.heap.objs.size<j.objs.size:=Jb (c _ _ z);refine qU (A:=A.in1) (R:=wants (λr i=>r=Value.none/\Q (.ref s.heap.objs.size) i) E) (it:=j.objs.size) (ps:=ps) (l:=l) (its:=its) y (by rw[Around.in1_units];lia) its.size 0 { s with heap:=j.push { cls:=.type "list_iterator",data:=.fields #[.ref l,.int 0 0] },toks:=m } [] (by lia) ⟨_,JA _ rfl,rfl,rfl⟩ ⟨_,J6 _ g,rfl,_,rfl⟩ ⟨C,t,u,a _ _ z,cd,J,q,λx G=>absurd G Jc,p⟩ (H.same λb o _ e=>a b o (J6 _ e)) (JQ dl) (by rw[List.length_nil];lia) λf k K D=>⟨rfl,h f k K λb o e=>?_⟩;have bl:=Jb e;exact D b o (JB bl) (JB (Z3 bl dl)) (a b o (J6 _ e))
end
def PrH (H:Hp)(t:V)(p:KN × Addr × V):Prop:=∃ a,t=.ref a/\H a=some (.tup [.ref p.2.1,p.2.2])/\NKey H p.1 p.2.1
section
variable {X:Cx}{pins:List (Addr × Obj)}{σ:St}{H:Hp}{s:Shared}{A:Around}{E:Value->Shared->Prop}
theorem ky (I:Inv X pins σ H s){ts:List V}{xs:KVN}(p:Paired (PrH H) ts xs):∀ {its:List Value},Vals ts its->∃ ps,Paired PrN xs ps/\its.length=ps.length/\∀ (i:Nat) (x:Value),its[i]?=some x->∃ t v k b ob m,x=.ref t/\s.heap.get? t=some ob/\ob.cls=.type "tuple"/\ob.data=.seq #[.ref b,v] m/\NIs X.prog X.w s.heap k b/\ps[i]?=some (k,b,v):=by
 induction p with
 | nil =>
  intro its r;cases r
  exact⟨[],.nil,rfl,λi x e=>by simp at e⟩
 | @cons t q ts xs h _ ih =>
  intro its r
  cases r with
  | cons r rs =>
   obtain⟨ps,rel,len,j⟩:=ih rs;obtain⟨a,rfl,n,l⟩:=h;cases r;obtain⟨c,g,⟨o,u,co,m,w⟩,_⟩:=I.tuple (SqT.of (K:=X.K) n);obtain⟨x,y,rfl,f,d⟩:=li g;cases f;refine⟨(q.1,q.2.1,y)::ps,.cons ⟨rfl,rfl,d⟩ rel,by simp[len],λi z e=>?_⟩
   cases i with
   | zero =>
    obtain rfl:Value.ref a=z:=by simpa using e
    exact⟨a,y,q.1,q.2.1,o,m,rfl,u,co,w,xv I.hok l,rfl⟩
   | succ i=>exact j i z (by simpa using e)
theorem gF {l:Addr}{ts:List V}{xs:KVN}{Q:Value->Shared->Prop}(k:A.handled=none)(g:A.units+4<cLine)(I:Inv X pins σ H s)(e:H l=some (.lst ts))(p:Paired (PrH H) ts xs)(h:∀ q b,H q=none->Inv X pins σ (upd H q (DN X.prog X.w q (yY [] xs))) b->Q (.ref q) b):wpAny (model X.prog X.w) A (call (.type "dict") [.ref l]) Q E s:=by
 obtain⟨z,t,n,r,m⟩:=I.hok _ _ e;obtain⟨ps,rel,len,j⟩:=ky I p r;have u:=Yw p;refine pI (ps:=ps) k g m ⟨by simpa using len,λi x ex=>j i x (by simpa using ex)⟩ (by rw[Jj,<- r.length];exact z) λv c o f=>?_;have d:=uS xs [];rw[List.length_nil]at d;exact h _ _ (I.hok.fresh (Je _)) (I.laid (a:=s.heap.objs.size) (t':=c) f (Je _) (dn_new (by lia) (YT.mpr (Ne.symm (JB I.big))) (oh rel .nil) o))
end
section
variable {X:Cx}
theorem um (d:X.calm=true)(c:X.A.units+4<cLine):CallR X (.type "dict") (λvs H Q=>∃ l ts xs,vs=[.ref l]/\H l=some (.lst ts)/\Paired (PrH H) ts xs/\∀ q,H q=none->Q (.ref q) (upd H q (DN X.prog X.w q (yY [] xs)))):=by
 intro pins s σ H vs g Q I r h;obtain⟨l,ts,xs,rfl,e,p,q⟩:=h;obtain⟨u,rfl,a⟩:=vz r;obtain rfl:u=Value.ref l:=a;exact gF (I.ok.hd d) c I e p λx i b f=>⟨.ref x,_,f,rfl,q x b⟩
end
end L2
namespace L2
open PySem PySem.Spec PyProof.Rows Own Bn
theorem vk {H:Hp}{a:Addr}{xs:List V}(e:H a=some (.lst xs)):zX H (.ref a)=none:=by simp only[zX,e]
end L2
namespace L2
open PySem PySem.Spec PyProof PyProof.Rows Own Bn
theorem vS {xs:List V}{lo hi:Option Int}{y:V}(h:y∈xU xs lo hi):y∈xs:=Zz (ZA h)
theorem iB (xs:List V)(n:Nat):(xU xs (some (n:Int)) none).length<=xs.length-n:=by
 unfold xU;rw[JC,Yc,HT.sIx_nat,HT.sIx_none];lia
section
variable {X:Cx}
theorem iw (n:X.A.units<cLine):OpR X (compareOp .NotEq) (λx y H Q=>∃ a b xs,x=.ref a/\y=.ref b/\H a=some (.tup xs)/\H b=some (.tup [])/\Q (.bl (!xs.isEmpty)) H):=by
 intro pins s σ H x y v u Q I g f ⟨a,b,xs,r,e2,p,o,q⟩;subst r e2;cases g;cases f;obtain⟨c,d,m,_⟩:=I.tuple (SqT.of p);obtain⟨t,i,k,_⟩:=I.tuple (SqT.of o);cases i;refine SeqAt.RcNeAt.tuples (e:=λ_=>true) m k n (λj _ h=>absurd h (Nat.not_lt_zero _)) X.prog X.w _ _ ?_
 have e:(!((List.range (min c.toArray.size ([]:List Value).toArray.size)).all (λ_=>true) && c.toArray.size == ([]:List Value).toArray.size)) = !xs.isEmpty:=by
  have l:=d.length
  cases xs with
  | nil=>cases d;rfl
  | cons z w=>cases d;simp
 exact⟨.bl _,H,I,JV Value.bool e,q⟩
end
end L2
namespace L2
open PySem PySem.Spec PyProof.Rows Own PySem.W
theorem uk {X:Cx}(j:X.calm=true):CallR X (.type "list") (λvs H Q=>∃ a xs,vs=[.ref a]/\H a=some (DN X.prog X.w a xs)/\∀ l,H l=none->Q (.ref l) (upd H l (.lst (xs.map λp=>.ref p.2.1)))):=by
 intro pins s σ H vs y Q I e h;obtain⟨a,xs,rfl,i,q⟩:=h;obtain⟨u,rfl,f⟩:=e.one;cases f;obtain⟨⟨z,k,ws,r,o,v,C,t,n,m,b,A⟩,_,_⟩:=(show ObjOk X.prog X.w H s.heap a (DN X.prog X.w a xs) from I.hok a _ i);have wl:v.size=xs.length:=by rw[size_of_entries b,<- Yw r]
 refine kdl_call (kH n m k) (I.ok.hd j) t (by rw[wl];exact z) λB d acc c g new items=>?_;obtain⟨x,w⟩:=items
 have al:acc.toList=ws.map λq=>Value.ref q.2.1:=by
  rw[iH x w,b,Zs];rfl
 have vs:Vals (xs.map λp=>V.ref p.2.1) acc.toList:=by rw[al];exact iL r
 exact⟨.ref s.heap.objs.size,_,I.laid (t':=d) (o:=.lst (xs.map λp=>.ref p.2.1)) g (Je _) ⟨by rw[Jg];exact z,acc.toList,c,vs,new⟩,rfl,q _ (I.hok.fresh (Je _))⟩
end L2
namespace L2
open PySem PySem.Spec PyProof.Rows Own Bn
def eJ (N:Nt):KN->Nat->KN
 | [.inr ts,.inl r],m=>stK (xK N ts m) [(r+1)%(N.lanes:Nat)]
 | k,_=>k
def aG (ks:List KN)(k:KN):Bool:=ks.any λx=>decide (x=k)
section
variable (N:Nt)(ks:List KN)
def la1 (s:KN)(c:List Int)(a:LAcc)(m:Nat):LAcc :=
 ⟨if aG ks (eJ N s m)=true then a.on else cS a.on (eJ N s m) (ce ((gY a.on (eJ N s m)).getD (mZ c m)) (mZ c m)),if cK N s m=none then a.fl++[mZ c m] else a.fl⟩
def laS (moves:List Nat)(a:LAcc)(p:KN × List Int):LAcc:=moves.foldl (la1 N ks p.1 p.2) a
end
end L2
namespace Bn
open PySem L2 Own
theorem wb (N:Nt):(y4 N).forks.length=N.forks.length:=(wa N).length_eq
end Bn
namespace L2
open PySem PySem.Spec PyProof.Rows Own
theorem FnOk.any {P:Program}{w:World}{K:PySem.W.Frag}{mg:Str->Option Value}{base:Heap}{CX:CXT}{k:Nat}{f:Addr}{fd:FuncData}{ps:List Str}{sp:Nat->Sp}(M:Nat)(F:∀ m,m<=M->FnOk P w K mg base CX k f fd ps (sp m)) :
  FnOk P w K mg base CX k f fd ps (λvs H Q E=>∃ m,m<=M/\sp m vs H Q E) :=
 ⟨λvs H Q E ⟨m,a,q⟩=>(F m a).len vs H Q E q,λA outer s H args b vs Q E d e g c ⟨m,a,q⟩=>(F m a).run A outer s H args b vs Q E d e g c q⟩
end L2
namespace Bn
open PySem L2 Own
def mergeN:Nat->List Nat->List Nat->List Fk × List Nat
 | 0,a,b=>(a.zip b,a++b)
 | m+1,a,b=>((mergeN m (by2 0 a) (by2 1 b)).1++(mergeN m (by2 1 a) (by2 0 b)).1++(mergeN m (by2 0 a) (by2 1 b)).2.zip (mergeN m (by2 1 a) (by2 0 b)).2,yq (mergeN m (by2 0 a) (by2 1 b)).2 (mergeN m (by2 1 a) (by2 0 b)).2)
theorem lu {m n:Nat}(h:n=2 ^ (m+1)):n / 2=2 ^ m/\n-n / 2=2 ^ m/\n / 2<=n:=by
 rw[Zi]at h;lia
theorem vB {α:Type}{m:Nat}{a:List α}(h:a.length=2 ^ (m+1)):(by2 0 a).length=2 ^ m/\(by2 1 a).length=2 ^ m:=by
 rw[qB 0 (by decide),qB 1 (by decide),h,Zi];lia
theorem wP:∀ (m:Nat) (a b:List Nat),a.length=2 ^ m->b.length=2 ^ m->(mergeN m a b).2.length=2 ^ (m+1)/\(mergeN m a b).1.length=(m+1)*2 ^ m
 | 0,a,b,ha,hb=>by
  show (a++b).length=_/\(a.zip b).length=_
  rw[Jd,ZH,ha,hb];exact⟨rfl,rfl⟩
 | m+1,a,b,ha,hb=>by
  obtain⟨k,j⟩:=vB ha;obtain⟨i,h⟩:=vB hb;obtain⟨d,g⟩:=wP m _ _ k h;obtain⟨c,f⟩:=wP m _ _ j i;show (yq _ _).length=_/\(_++_++List.zip _ _).length=_;rw[wW _ _ (d.trans c.symm),Jd,Jd,ZH,d,c,g,f,Nat.min_self];have e:(m+1)*2 ^ m+(m+1)*2 ^ m=(m+1)*2 ^ (m+1):=by rw[<- Nat.two_mul,Zi,Nat.mul_left_comm,Nat.mul_comm 2 (2 ^ m)]
  refine⟨by rw[Zi 2 (m+1),Nat.mul_comm],?_⟩;rw[e,<- Nat.succ_mul]
def pY:Nat->Nat
 | 0=>0
 | m+1=>pY m+pY m+(m+1)*2 ^ m
theorem si:∀ m,m<=10->pY m<=100000/\(m+1)*2 ^ m<=20000:=by decide +kernel
def yU (m:Nat):Nt:=⟨2 ^ (m+1),(mergeN m ((List.range (2 ^ (m+1))).take (2 ^ m)) ((List.range (2 ^ (m+1))).drop (2 ^ m))).1,(mergeN m ((List.range (2 ^ (m+1))).take (2 ^ m)) ((List.range (2 ^ (m+1))).drop (2 ^ m))).2⟩
theorem lA:∀ m,m<4->(yU m).forks.length<=128/\(∀ f∈(yU m).forks,f.1<2 ^ (m+1)/\f.2<2 ^ (m+1)/\f.1≠f.2)/\(yU m).ends.Perm (List.range (2 ^ (m+1))):=by decide +kernel
theorem tY {k:Nat}(h:k<5):1<=2 ^ k/\2 ^ k<=16:=⟨Nat.one_le_two_pow,Nat.pow_le_pow_right (show 0<2 by decide) (show k<=4 by lia)⟩
theorem uR {m:Nat}(h:m<4):(yU m).Ok:=let ⟨a,b,c⟩:=lA m h;⟨(tY (k:=m+1) (by lia)).1,(tY (k:=m+1) (by lia)).2,a,b,c⟩
end Bn
namespace Bn
open PySem L2 Own
inductive Pln where
 | net (N:Nt)|way (w k:Nat)|dbl (p:Pln)|ren (p:Pln) (ns:List Nat)|bes (p q:Pln)|beh (p q:Pln)
def pwr (n:Nat):Nat:=if n=2 then 1 else if n=4 then 2 else if n=8 then 3 else if n=16 then 4 else 0
def bH (w k:Nat):Nat:=if w=0 then 2 ^ k*k*(k+1) / 4 else if w=1 then 2 ^ k*k*k / 2 else 2 ^ k*k / 2
namespace Pln
def lanes:Pln->Nat
 | .net N=>N.lanes
 | .way _ k=>2 ^ k
 | .dbl p=>2*p.lanes
 | .ren p _=>p.lanes
 | .bes p q=>p.lanes+q.lanes
 | .beh p _=>p.lanes
def many:Pln->Nat
 | .net N=>N.forks.length
 | .way w k=>bH w k
 | .dbl p=>2*p.many+p.lanes*pwr (2*p.lanes)
 | .ren p _=>p.many
 | .bes p q=>p.many+q.many
 | .beh p q=>p.many+q.many
def hi:Pln->Nat
 | .net _=>1
 | .way _ _=>1
 | .dbl p=>p.hi+1
 | .ren p _=>p.hi+1
 | .bes p q=>max p.hi q.hi+1
 | .beh p q=>max p.hi q.hi+1
end Pln
inductive Kn where
 | no|stair|merges|halves
 deriving DecidableEq
def Kn.v:Kn->V
 | .no=>.non
 | .stair=>.str "stair"
 | .merges=>.str "merges"
 | .halves=>.str "halves"
def Pln.known:Pln->Kn
 | .net N=>if N.lanes=1 then .stair else .no
 | .way w k=>if w<2 then .stair else if k=1 then .stair else .merges
 | .dbl p=>if p.known=.stair then .stair else .no
 | .ren p _=>if p.known=.merges then .no else p.known
 | .bes p q=>if p.known=.stair/\q.known=.stair/\p.lanes=q.lanes then .halves else .no
 | .beh p q=>if q.known=.stair\/p.known=.halves/\q.known=.merges then .stair else .no
end Bn
namespace L2
open PySem PySem.Spec PyProof.Rows Own Bn
section
variable {k:KN}{c:Int}{ks:List KN}
variable {H:Hp}{b:Addr}
theorem cu {xs:KVN}(h:KsIn H xs):KeysAt H (xs.map λp=>p.2.1) (xs.map (·.1)):=by
 unfold KeysAt
 induction xs with
 | nil=>exact .nil
 | cons x xs ih=>exact .cons (h x (.head _)) (ih λy a=>h y (.tail _ a))
theorem tz {u:Addr}:∀ {vs:List Addr}{ks:List KN},KeysAt H (vs++[u]) ks->∃ k f,ks=f++[k]/\KeysAt H vs f/\NKey H k u
 | [],_,.cons a .nil=>⟨_,[],rfl,.nil,a⟩
 | _::_,_,.cons a b=>by
  obtain⟨k,f,e,c,d⟩:=tz b;exact⟨k,_::f,by rw[e];rfl,.cons a c,d⟩
theorem mY {ys zs:List V}(p:ys.Perm zs):∀ {bs:List Addr}{ks:List KN},zs=bs.map V.ref->KeysAt H bs ks->∃ d c,ys=d.map V.ref/\KeysAt H d c/\c.Perm ks:=by
 induction p with
 | nil=>intro bs ks e h;exact⟨bs,ks,e,h,.refl _⟩
 | @cons x B A _ ih =>
  intro bs ks e h
  cases h with
  | nil=>cases e
  | @cons b k bs ks a r =>
   injection e with j e2;obtain⟨d,c,i,g,f⟩:=ih e2 r
   exact⟨b::d,k::c,by rw[j,i];rfl,.cons a g,f.cons k⟩
 | @swap x y l =>
  intro bs ks e h
  cases h with
  | nil=>cases e
  | cons a r =>
   cases r with
   | nil=>injection e with _ e;cases e
   | cons b r =>
    injection e with j e;injection e with e2 v
    exact⟨_::_::_,_::_::_,by rw[j,e2,v];rfl,.cons b (.cons a r),.swap _ _ _⟩
 | trans _ _ o n =>
  intro bs ks e h;obtain⟨z,w,i,g,f⟩:=n e h;obtain⟨q,m,u,t,s⟩:=o i g;exact⟨q,m,u,t,s.trans f⟩
theorem qw {bs:List Addr}(h:KeysAt H bs ks){i:Nat}{b:Addr}(e:bs[i]?=some b):∃ k,ks[i]?=some k/\NKey H k b:=by
 unfold KeysAt at h
 induction h generalizing i b with
 | nil=>cases e
 | cons a _ ih =>
  cases i with
  | zero=>cases e;exact⟨_,rfl,a⟩
  | succ i=>exact ih e
end
theorem qg:∀ (ps:KVN) (acc:KVN),(L2.yY acc ps).map (·.1)=(ps.map (·.1)).foldl ddN (acc.map (·.1))
 | [],acc=>rfl
 | p::ps,acc=>by
  show (L2.yY (xN acc p.1 p.2.1 p.2.2) ps).map (·.1)=(ps.map (·.1)).foldl ddN (ddN (acc.map (·.1)) p.1);rw[qg ps,tM]
  congr 1
  unfold ddN;by_cases c:p.1∈acc.map (·.1)
  ·rw[Jp c,Jp (yw.mpr c)]
  ·rw[Jf c,Jf λz=>c (yw.mp z)]
theorem lB (ps:KVN):(L2.yY [] ps).map (·.1)=ddL (ps.map (·.1)):=qg ps []
theorem qf {H:Hp}:∀ {ps acc:KVN},KsIn H acc->KsIn H ps->KsIn H (L2.yY acc ps)
 | [],_,h,_=>h
 | p::ps,_,h,g=>qf (ps:=ps) (h.put (g p (.head _))) λx a=>g x (.tail _ a)
theorem fi {H:Hp}{ts:List V}{a:KVN}(p:Paired (PrH H) ts a):KsIn H a:=by
 induction p with
 | nil=>intro y b;cases b
 | cons h _ ih =>
  intro x c;rcases Ja.mp c with z|z
  ·obtain⟨_,_,_,k⟩:=h
   rw[z];exact k
  ·exact ih x z
theorem kz {A B:Type}{R:A->B->Prop}{xs:List A}{ys:List B}(p:Paired R xs ys):∀ {i:Nat}{x:A},xs[i]?=some x->∃ y,ys[i]?=some y/\R x y:=by
 induction p with
 | nil=>intro i x e;cases e
 | cons h _ ih =>
  intro i x e
  cases i with
  | zero=>cases e;exact⟨_,rfl,h⟩
  | succ i=>exact ih e
theorem eI {N:Nt}(ok:Nt.Ok N):OkM N (k0M N):=⟨_,0,0,rfl,Zb,λt a=>.inl (List.eq_of_mem_replicate a),ok.l1,ok.l1⟩
def wz (N:Nt)(ss:List KN)(k:KN):Bool:=(List.range 2).all (xM N k) && (List.range 2).all λh=>decide (yt N k h∈ss)
theorem jx {N:Nt}{ss:List KN}{k:KN}(ok:OkM N k):wz N ss k=[0,1].all λm=>match xW N k m with|none=>false|some t=>decide (t∈ss):=by
 have e:List.range 2=[0,1]:=rfl;unfold wz;rw[e];simp only[List.all_cons,List.all_nil,Bool.and_true];rw[tH ok 0,tH ok 1];cases xM N k 0<;>cases xM N k 1<;>simp
theorem lY {a:V->Option KN}{xs:List V}{ss:List KN}{N:Nt}{k0:KN}(e:xs.mapM a=some ss)(ok:∀ k∈ss,OkM N k):xh a xs k0 [0,1] (xW N)=(decide ss.Nodup && (decide (k0∈ss) && ss.all (wz N ss))):=by
 have same:∀ F G:KN->Bool,(∀ k∈ss,F k=G k)->ss.all F=ss.all G:=λF G h=>by
  refine Yh.mpr ?_;rw[Yt,Yt];exact forall_congr' λk=>forall_congr' λb=>by rw[h k b]
 rw[x4 e,Bool.and_assoc,same (wz N ss) _ λk b=>jx (ok k b)]
structure KpM (H H':Hp):Prop where
 tup:∀ b xs,H b=some (.tup xs)->H' b=some (.tup xs)
 lst:∀ b xs,H b=some (.lst xs)->∃ ys,H' b=some (.lst ys)
 dict:∀ b,H b=some (.dK [])->H' b=some (.dK [])
theorem KpM.same {H H':Hp}(s:Same H H'):KpM H H':=⟨λb a e=>s b _ e,λb a e=>⟨a,s b _ e⟩,λb e=>s b _ e⟩
theorem KpM.trans {H d c:Hp}(x:KpM H d)(y:KpM d c):KpM H c:=⟨λb a e=>y.tup b a (x.tup b a e),λb a e=>by
 obtain⟨f,g⟩:=x.lst b a e
 exact y.lst b f g,λb e=>y.dict b (x.dict b e)⟩
theorem KpM.kpn {H H':Hp}(k:KpN H H'):KpM H H':=⟨λb a e=>k b _ e (.tup a),λb a e=>⟨a,k b _ e (.lst a)⟩,λb e=>k b _ e .dK⟩
theorem KpM.list {H:Hp}{l:Addr}{ys zs:List V}(e:H l=some (.lst ys)):KpM H (L2.upd H l (.lst zs)):=by
 refine⟨λb a h=>?_,λb a h=>?_,λb h=>?_⟩
 ·rw[zJ];· exact h
  ·rintro rfl;rw[e]at h;cases h
 ·by_cases z:b=l
  ·rw[z];exact⟨zs,zB⟩
  ·rw[zJ z];exact⟨a,h⟩
 ·rw[zJ];· exact h
  ·rintro rfl;rw[e]at h;cases h
theorem KpM.tab {H H':Hp}{q:Str}{Pt:Addr}(t:TabQ q Pt H)(B:But Pt H H'):KpM H H':=by
 obtain⟨ls,a,_⟩:=t;exact .kpn (KpN.but B a)
theorem KpM.tups {H H':Hp}(k:KpM H H'):Tups H H':=λb a e=>k.tup b a e
theorem KpM.an {H H':Hp}(k:KpM H H'){x:V}(a:An H x):An H' x/\zX H' x=zX H x:=by
 rcases a with a|⟨c,rfl,⟨d,e⟩|⟨d,e⟩|e⟩
 ·exact⟨.inl a,by cases x<;>first|rfl|exact a.elim⟩
 ·have b:=k.tup _ _ e
  exact⟨.inr ⟨_,rfl,.inl ⟨_,b⟩⟩,by rw[yT e,yT b]⟩
 ·obtain⟨f,b⟩:=k.lst _ _ e
  exact⟨.inr ⟨_,rfl,.inr (.inl ⟨_,b⟩)⟩,by rw[vk e,vk b]⟩
 ·have b:=k.dict _ e
  exact⟨.inr ⟨_,rfl,.inr (.inr b)⟩,by simp only[zX,e,b]⟩
theorem tU {A B:Type}{f g:A->Option B}:∀ {xs:List A},(∀ x∈xs,f x=g x)->xs.mapM f=xs.mapM g
 | [],_=>rfl
 | x::xs,h=>by
  rw[List.mapM_cons,List.mapM_cons,h x (.head _),tU λy a=>h y (.tail _ a)]
theorem iE {f g:V->Option KN}{xs:List V}{k0:KN}{moves:List Nat}{step:KN->Nat->Option KN}(h:∀ x∈xs,f x=g x):xh f xs k0 moves step=xh g xs k0 moves step:=by
 have e:=tU h
 cases c:xs.mapM g with
 | none=>rw[x5 c,x5 (e.trans c)]
 | some ss=>rw[x4 c,x4 (e.trans c)]
theorem gX {i:Nat}{b c:Bool}{σ:St}{H:Hp}{Q:St->Hp->Prop}(e:b=c)(h:wF i (.bl c) σ H Q):wF i (.bl b) σ H Q:=e ▸ h
theorem cX {a b c:Bool}{H:Hp}{Q:VK}(e:b=c)(h:rNe (.bl a) (.bl c) H Q):rNe (.bl a) (.bl b) H Q:=e ▸ h
theorem rR {H:Hp}{l:Addr}(S:PkAt H l):∃ xs,H l=some (.lst xs):=by
 obtain⟨a,b,h,_⟩:=S.ex;exact⟨_,h⟩
theorem KpM.butA {H H':Hp}{l:Addr}(B:But l H H')(S:PkAt H l)(f:PkAt H' l):KpM H H':=by
 obtain⟨g,c⟩:=rR S;obtain⟨d,e⟩:=rR f;refine⟨λb a h=>B _ _ h ?_,λb a h=>?_,λb h=>B _ _ h ?_⟩
 ·rintro rfl;rw[c]at h;cases h
 ·by_cases z:b=l
  ·rw[z];exact⟨d,e⟩
  ·exact⟨a,B _ _ h z⟩
 ·rintro rfl;rw[c]at h;cases h
theorem Dp.kpm {H H':Hp}(k:KpM H H'):∀ {n:Nat}{x:V},Dp H n x->Dp H' n x
 | 0,_,h=>(k.an h).1
 | _+1,_,h=>⟨(k.an h.1).1,λxs e=>by
  rw[(k.an h.1).2]at e
  exact⟨(h.2 xs e).1,λy a=>((h.2 xs e).2 y a).kpm k⟩⟩
theorem Dp.same {H H':Hp}(s:Same H H'){n:Nat}{x:V}(h:Dp H n x):Dp H' n x:=h.kp (KpN.same s)
theorem Dp.lst {H:Hp}{n:Nat}{a:Addr}{xs:List V}(e:H a=some (.lst xs)):Dp H n (.ref a):=by
 have an:An H (.ref a):=.inr ⟨a,rfl,.inr (.inl ⟨xs,e⟩)⟩
 cases n with
 | zero=>exact an
 | succ n=>exact⟨an,λb z=>by rw[vk e]at z;cases z⟩
theorem Dp.tup {H:Hp}{n:Nat}{a:Addr}{xs:List V}(e:H a=some (.tup xs))(l:xs.length<=1000)(m:∀ y∈xs,Dp H n y):Dp H (n+1) (.ref a) :=
 ⟨.inr ⟨a,rfl,.inl ⟨xs,e⟩⟩,λb z=>by
  rw[yT e]at z;obtain rfl:=Jr z
  exact⟨l,m⟩⟩
theorem Dp.mono {H:Hp}:∀ {n m:Nat}{x:V},n<=m->Dp H m x->Dp H n x
 | 0,0,_,_,h=>h
 | 0,_+1,_,_,h=>h.1
 | _+1,0,_,l,_=>absurd l (Nat.not_succ_le_zero _)
 | _+1,_+1,_,l,h=>⟨h.1,λxs e=>⟨(h.2 xs e).1,λy a=>((h.2 xs e).2 y a).mono (Nat.le_of_succ_le_succ l)⟩⟩
theorem Dp.ints {H:Hp}{n:Nat}{a:Addr}{is:List Int}(e:H a=some (.tup (is.map V.int)))(l:is.length<=1000):Dp H (n+1) (.ref a) :=
 .tup e (by rw[Jg];exact l) λy b=>by
  obtain⟨i,_,rfl⟩:=JJ.mp b;exact .flat trivial
theorem Dp.knot {N:Nt}{H:Hp}{b:Addr}{k:KN}(a:Nt.Ok N)(ok:OkM N k)(h:NKey H k b):Dp H 2 (.ref b):=by
 obtain⟨e,m,n,rfl,f,_⟩:=ok;obtain⟨t,d,e2⟩:=nE h;have g:=a.fm;refine .tup d (by show 3<=1000;decide) λy c=>?_;rcases Ja.mp c with rfl|z
 ·exact .ints e2 (by lia)
 ·obtain⟨i,_,rfl⟩:=JJ.mp z
  exact .flat trivial
def su:Sp:=λc H Q _=>∃ l r fr e d N b k,c=[.ref l,.ref r,.ref b]/\PkAt H l/\Nt.Ok N/\NetAt H r fr e d N/\NKey H k b/\OkM N k /\
 ∀ y a,Dp a 2 y->PkAt a l->But l H a->Q y a
end L2
namespace K63
open PySem L2 Own Bn
abbrev oK:Stmt:=top 44
section
variable {P:Program}{w:World}{K:PySem.W.Frag}{mg:Str->Option Value}{base:Heap}
theorem oE:FnScope ["_law_left_here","_law_net_here","_law_knot","_law_turns","_law_m","_law_n","_law_odd","_law_at","_law_some"] ["_law_left_here","_law_net_here","_law_knot"] (zM oK):=by trivial
theorem jT {f fK fO:Addr}{fd dK dO:FuncData}(F:Fun K "_law_bent" "_law_bent" oK f fd) (G:Mgs mg) (UK:Use P w K mg base "_law_pick" ["_law_left_here","_law_many"] 1 xj fK dK) (j:Use P w K mg base "_law_of" ["_law_left_here","_law_some"] 2 mQ fO dO):FnOk P w K mg base CX0 3 f fd ["_law_left_here","_law_net_here","_law_knot"] su:=by
 refine F.ok oE (λvs H Q E h=>?_) (λck A outer s H vs Q E hr h=>?_)
 ·obtain⟨l,r,fr,er,ps,N,b,k,rfl,_⟩:=h
  rfl
 obtain⟨l,r,fr,er,ps,N,b,k,rfl,S,ok,na,kb,⟨g,m,n,rfl,tl,bits,hm,hn⟩,q⟩:=h;have az:Room 1 _:=hr.mono (by decide);refine⟨_,(@zG _ _ _ _ _ (@yV _ _ _ _ _ _ (@qv _ 2 _ _ (by trivial)) (@yW _ _ _ _ _ _ rfl (@zQ _ _ _ _ _ (@zN _ _ 3 _ oE.nd rfl (.inl rfl) (by trivial)) (@zQ _ _ _ _ _ (@zN _ _ 4 _ oE.nd rfl (.inl rfl) (by trivial)) (@zQ _ _ _ _ _ (@zN _ _ 5 _ oE.nd rfl (.inl rfl) (by trivial)) yJ (by rfl)) (by rfl)) (by rfl)) (by rfl) (by rfl)) (by rfl) (by rfl) (by rfl)) (@zG _ _ _ _ _ (@zY _ _ 6 _ _ _ _ oE.nd rfl (.inl rfl) (@yO _ _ _ _ (@zA _ _ _ _ _ (@tN _ _ _ _ _ _ vC zE) (@zA _ _ _ _ _ (@zi _ _ _ _ _ _ _ zy (@qv _ 1 _ _ (by trivial)) zE (λ_ _=>rfl)) (@zA _ _ _ _ _ yu (@zA _ _ _ _ _ yu (@zA _ _ _ _ _ vJ (@zA _ _ _ _ _ rS (@zA _ _ _ _ _ (@zU _ _ _ _ _ (@zA _ _ _ _ _ zE zC (by rfl))) (@zA _ _ _ _ _ zE (@zA _ _ _ _ _ zE zC (by rfl)) (by rfl)) (by rfl)) (by rfl)) (by rfl)) (by rfl)) (by rfl)) (by rfl)) (by rfl))) (by rfl) (by trivial)) (@zG _ _ _ _ _ (@ya _ _ _ _ _ _ _ _ (@kn _ _ _ _ _ _ _ (@zp _ _ _ _ _ _ _ _ (iw hr.units0) (@qv _ 3 _ _ (by trivial)) (@zU _ _ _ _ _ zC) (yC _)) (@nJ _ _ _ _ (@zp _ _ _ _ _ _ _ _ xg (@zL _ _ _ _ _ _ _ _ _ _ _ _ _ _ _ _ UK.ok az (by rfl) UK.m UK.kp UK.b .nil zW (@zA _ _ _ _ _ (@qv _ 0 _ _ (by trivial)) (@zA _ _ _ _ _ zE zC (by rfl)) (by rfl)) (by decide) (by rfl) (by rfl)) zE (yC _)))).pt (@zG _ _ _ _ _ (@zY _ _ 7 _ _ _ _ oE.nd rfl (.inl rfl) (@zL _ _ _ _ _ _ _ _ _ _ _ _ _ _ _ _ UK.ok az (by rfl) UK.m UK.kp UK.b .nil zW (@zA _ _ _ _ _ (@qv _ 0 _ _ (by trivial)) (@zA _ _ _ _ _ (@zP _ _ _ _ _ _ _ _ _ zV (by rfl) G.len JX (@zA _ _ _ _ _ (@qv _ 3 _ _ (by trivial)) zC (by rfl)) (by decide) (by decide) (by rfl) (by rfl)) zC (by rfl)) (by rfl)) (by decide) (by rfl) (by rfl)) (by rfl) (by trivial)) (@zK _ _ _ (@zT _ _ _ _ (@zU _ _ _ _ _ (@zA _ _ _ _ _ (@zS _ _ _ _ _ _ _ _ yp (@zS _ _ _ _ _ _ _ _ yp (@yI _ _ _ _ _ _ _ _ _ _ yc (@qv _ 3 _ _ (by trivial)) yN (@zx _ _ _ (@qv _ 7 _ _ (by trivial)))) (@zU _ _ _ _ _ (@zA _ _ _ _ _ (@zL _ _ _ _ _ _ _ _ _ _ _ _ _ _ _ _ j.ok hr (by rfl) j.m j.kp j.b .nil zW (@zA _ _ _ _ _ (@qv _ 0 _ _ (by trivial)) (@zA _ _ _ _ _ (@yO _ _ _ _ (@zA _ _ _ _ _ (@zS _ _ _ _ _ _ _ _ uO zE (@zi _ _ _ _ _ _ _ zy (@qv _ 3 _ _ (by trivial)) (@qv _ 7 _ _ (by trivial)) (λ_ _=>rfl))) (@zA _ _ _ _ _ yu (@zA _ _ _ _ _ zE (@zA _ _ _ _ _ (@tN _ _ _ _ _ _ vC zE) (@zA _ _ _ _ _ vJ zC (by rfl)) (by rfl)) (by rfl)) (by rfl)) (by rfl))) zC (by rfl)) (by rfl)) (by decide) (by rfl) (by rfl)) zC (by rfl)))) (@yI _ _ _ _ _ _ _ _ _ _ yc (@qv _ 3 _ _ (by trivial)) (@zx _ _ _ (@zS _ _ _ _ _ _ _ _ yX (@qv _ 7 _ _ (by trivial)) zE)) yN)) (@zA _ _ _ _ _ (@qv _ 4 _ _ (by trivial)) (@zA _ _ _ _ _ (@qv _ 5 _ _ (by trivial)) zC (by rfl)) (by rfl)) (by rfl)))))) zw) (@zG _ _ _ _ _ (@zY _ _ 8 _ _ _ _ oE.nd rfl (.inl rfl) (@yO _ _ _ _ (@zA _ _ _ _ _ (@zU _ _ _ _ _ (@zA _ _ _ _ _ (@qv _ 3 _ _ (by trivial)) (@zA _ _ _ _ _ (@zL _ _ _ _ _ _ _ _ _ _ _ _ _ _ _ _ j.ok hr (by rfl) j.m j.kp j.b .nil zW (@zA _ _ _ _ _ (@qv _ 0 _ _ (by trivial)) (@zA _ _ _ _ _ (@qv _ 6 _ _ (by trivial)) zC (by rfl)) (by rfl)) (by decide) (by rfl) (by rfl)) (@zA _ _ _ _ _ (@qv _ 5 _ _ (by trivial)) zC (by rfl)) (by rfl)) (by rfl))) (@zA _ _ _ _ _ (@zU _ _ _ _ _ (@zA _ _ _ _ _ (@qv _ 3 _ _ (by trivial)) (@zA _ _ _ _ _ (@qv _ 4 _ _ (by trivial)) (@zA _ _ _ _ _ (@zL _ _ _ _ _ _ _ _ _ _ _ _ _ _ _ _ j.ok hr (by rfl) j.m j.kp j.b .nil zW (@zA _ _ _ _ _ (@qv _ 0 _ _ (by trivial)) (@zA _ _ _ _ _ (@qv _ 6 _ _ (by trivial)) zC (by rfl)) (by rfl)) (by decide) (by rfl) (by rfl)) zC (by rfl)) (by rfl)) (by rfl))) (@zA _ _ _ _ _ (@zU _ _ _ _ _ (@zA _ _ _ _ _ (@qv _ 3 _ _ (by trivial)) (@zA _ _ _ _ _ (@qv _ 5 _ _ (by trivial)) (@zA _ _ _ _ _ (@qv _ 4 _ _ (by trivial)) zC (by rfl)) (by rfl)) (by rfl))) (@zA _ _ _ _ _ (@zU _ _ _ _ _ (@zA _ _ _ _ _ (@qv _ 3 _ _ (by trivial)) (@zA _ _ _ _ _ (@qv _ 4 _ _ (by trivial)) zC (by rfl)) (by rfl))) (@zA _ _ _ _ _ (@zU _ _ _ _ _ (@zA _ _ _ _ _ (@qv _ 3 _ _ (by trivial)) (@zA _ _ _ _ _ (@qv _ 4 _ _ (by trivial)) (@zA _ _ _ _ _ (@qv _ 5 _ _ (by trivial)) (@zA _ _ _ _ _ zE zC (by rfl)) (by rfl)) (by rfl)) (by rfl))) zC (by rfl)) (by rfl)) (by rfl)) (by rfl)) (by rfl))) (by rfl) (by trivial)) (@zK _ _ _ (@zT _ _ _ _ (@zL _ _ _ _ _ _ _ _ _ _ _ _ _ _ _ _ j.ok hr (by rfl) j.m j.kp j.b .nil zW (@zA _ _ _ _ _ (@qv _ 0 _ _ (by trivial)) (@zA _ _ _ _ _ (@zS _ _ _ _ _ _ _ _ vL (@qv _ 8 _ _ (by trivial)) (@yO _ _ _ _ (@zA _ _ _ _ _ (@zZ _ _ _ _ _ _ _ _ _ yZ (by rfl) G.list (by rfl) (@zA _ _ _ _ _ (@qv _ 2 _ _ (by trivial)) zC (by rfl)) (by decide) (by decide) (by rfl) (by rfl)) (@zA _ _ _ _ _ (@zU _ _ _ _ _ (@zA _ _ _ _ _ (@zZ _ _ _ _ _ _ _ _ _ yZ (by rfl) G.list (by rfl) (@zA _ _ _ _ _ (@qv _ 3 _ _ (by trivial)) zC (by rfl)) (by decide) (by decide) (by rfl) (by rfl)) (@zA _ _ _ _ _ (@qv _ 4 _ _ (by trivial)) (@zA _ _ _ _ _ (@qv _ 5 _ _ (by trivial)) zC (by rfl)) (by rfl)) (by rfl))) (@zA _ _ _ _ _ (@zU _ _ _ _ _ (@zA _ _ _ _ _ (@zS _ _ _ _ _ _ _ _ yp (@qv _ 3 _ _ (by trivial)) (@zU _ _ _ _ _ (@zA _ _ _ _ _ zE zC (by rfl)))) (@zA _ _ _ _ _ (@qv _ 4 _ _ (by trivial)) (@zA _ _ _ _ _ (@qv _ 5 _ _ (by trivial)) zC (by rfl)) (by rfl)) (by rfl))) (@zA _ _ _ _ _ (@zU _ _ _ _ _ (@zA _ _ _ _ _ (@yI _ _ _ _ _ _ _ _ _ _ yc (@qv _ 3 _ _ (by trivial)) (@zx _ _ _ zE) yN) (@zA _ _ _ _ _ (@qv _ 4 _ _ (by trivial)) (@zA _ _ _ _ _ (@qv _ 5 _ _ (by trivial)) zC (by rfl)) (by rfl)) (by rfl))) (@zA _ _ _ _ _ vJ zC (by rfl)) (by rfl)) (by rfl)) (by rfl)) (by rfl)))) zC (by rfl)) (by rfl)) (by decide) (by rfl) (by rfl)))))))),?_⟩;obtain⟨t,hb,ht⟩:=nE kb;have fm:=ok.fm;refine⟨_,rfl,b,_,rfl,SqT.of hb,rfl,_,_,rfl,_,_,rfl,_,_,rfl,rfl,?_⟩;refine⟨_,rfl,_,rfl,r,_,_,_,rfl,rfl,SqT.of na.net,rfl,by show 1<=sizeLine;decide,λI ay=>⟨by show 9<=sizeLine;decide,λlo am=>?_⟩⟩;have s1:=zD ay (.tup [.int 0]);have s2:=zD am (.lst [.int (-1),.int (N.lanes:Nat),.bl true,.bl false,.non,.str "0",.ref I,.int 0,.int 1])
 have od:∀ y∈([.int (-1),.int (N.lanes:Nat),.bl true,.bl false,.non,.str "0",.ref I,.int 0,.int 1]:List V),Dp (L2.upd (L2.upd H I (.tup [.int 0])) lo (.lst [.int (-1),.int (N.lanes:Nat),.bl true,.bl false,.non,.str "0",.ref I,.int 0,.int 1])) 1 y:=λy x=>by
  simp only[Ja,Jc,JG]at x;rcases x with rfl|rfl|rfl|rfl|rfl|rfl|rfl|rfl|rfl
  ·exact .flat trivial
  ·exact .flat trivial
  ·exact .flat trivial
  ·exact .flat trivial
  ·exact .flat trivial
  ·exact .flat trivial
  ·exact .ints (is:=[0]) (s2 _ _ zB) (by decide)
  ·exact .flat trivial
  ·exact .flat trivial
 have u2:=s1.trans s2;have S2:=S.keep u2;have W:lo≠l:=((S.keep s1).ne am).symm;have ab:L2.upd (L2.upd H I (.tup [.int 0])) lo (.lst [.int (-1),.int (N.lanes:Nat),.bl true,.bl false,.non,.str "0",.ref I,.int 0,.int 1]) lo=some (.lst [.int (-1),.int (N.lanes:Nat),.bl true,.bl false,.non,.str "0",.ref I,.int 0,.int 1]):=zB;have ol:0<([.int (-1),.int (N.lanes:Nat),.bl true,.bl false,.non,.str "0",.ref I,.int 0,.int 1]:List V).length/\([.int (-1),.int (N.lanes:Nat),.bl true,.bl false,.non,.str "0",.ref I,.int 0,.int 1]:List V).length<=100000:=⟨by show 0<9;decide,by show 9<=100000;decide⟩;refine o7 (λ_ _=>True) ?_;generalize L2.upd (L2.upd H I (.tup [.int 0])) lo (.lst [.int (-1),.int (N.lanes:Nat),.bl true,.bl false,.non,.str "0",.ref I,.int 0,.int 1])=H2 at *;generalize ([.int (-1),.int (N.lanes:Nat),.bl true,.bl false,.non,.str "0",.ref I,.int 0,.int 1]:List V)=ae at *;have Z:=u2 _ _ ht;have aY:=u2 _ _ hb;have ao:But l H H2:=But.of u2;clear s1 s2 ay am u2;refine rB (λσ H3=>(∃ v7 v8,σ=[some (.ref l),some (.ref r),some (.ref b),some (.ref t),some (.int (m:Nat)),some (.int (n:Nat)),some (.ref lo),v7,v8])/\PkAt H3 l/\But l H2 H3) ?_ λD au rt=>?_
 rotate_left
 ·refine⟨_,rfl,by show 0<=sizeLine;decide,λte ag=>⟨t,te,_,rfl,rfl,zD ag _ _ _ Z,zB,_,rfl,?_⟩⟩
  have s3:=zD ag (.tup []);have S3:=S2.keep s3;have Y:=s3 _ _ Z;have B3:But l H2 (L2.upd H2 te (.tup [])):=But.of s3;generalize L2.upd H2 te (.tup [])=H3 at *;clear s3 ag
  cases g with
  | nil=>exact zr (zr (au _ _ ⟨⟨_,_,rfl⟩,S3,B3⟩))
  | cons t0 ar =>
  have p0:0<(t0::ar).length:=Nat.succ_pos _;refine yE ?_;generalize t0::ar=g at *;refine⟨_,rfl,l,2,rfl,by decide,by decide,S3,λv H4 hv S4 B4=>⟨rfl,_,rfl,?_⟩⟩;have ba:=B3.trans B4;by_cases c:V.int ((v:Nat):Int)=V.int 0
  rotate_left
  ·rw[Jq c]
   exact zr (au _ _ ⟨⟨_,_,rfl⟩,S4,ba⟩)
  rw[Jw c];have k4:=KpM.butA B4 S3 S4;have ax:=k4.tup _ _ Y;have bo:(g.map V.int).length=g.length:=Jg _;refine yE ⟨_,rfl,_,rfl,t,_,rfl,.inr (SqT.of ax),l,_,rfl,by lia,by lia,S4,λR H5 cf S5 B5=>?_⟩;have aj:=(KpM.butA B5 S4 S5).tup _ _ ax;have b9:=ba.trans B5;have vb:R<g.length:=by lia
  refine⟨_,rfl,_,rfl,_,rfl,t,_,rfl,aj,λt2 H6 s6 h6=>?_⟩;have vt:(g.map V.int)[R]?=some (.int (g[R])):=by rw[JU,J8 vb];rfl
  refine⟨_,rfl,_,rfl,_,rfl,t,_,_,_,rfl,rfl,SqT.of (s6 _ _ aj),yg vt,_,_,rfl,rfl,_,rfl,by show 5<=sizeLine;decide,λlq aT=>?_⟩;have s7:=zD aT (.lst [.int (1-g[R]),.bl true,.int 2,.int (-1),.non]);have S7:=(S5.keep s6).keep s7;have bx:lq≠l:=((S5.keep s6).ne aT).symm;refine⟨l,lq,[.int (1-g[R]),.bl true,.int 2,.int (-1),.non],rfl,S7,bx,zB,by show 0<5;decide,by show 5<=100000;decide,λi y H8 x S8 B8=>?_⟩
  have fy:Flat y:=by
   have aV:=Jz x;simp only[Ja,Jc,JG]at aV;rcases aV with rfl|rfl|rfl|rfl|rfl<;>trivial
  have u7:=s6.trans s7;have k8:=(KpM.same u7).trans (KpM.butA B8 S7 S8);have bB:=(KpM.same s7).trans (KpM.butA B8 S7 S8);have h8:=bB.tup _ _ h6;have bS:=k8.tup _ _ aj;have b8:=b9.trans ((But.of u7:But l H5 _).trans B8);refine⟨by show 1<=sizeLine;decide,λt3 ap=>?_⟩;have s9:=zD ap (.tup [y]);rw[yo _ R (by lia)]at h8;have tk:((g.map V.int).take R).length<=g.length:=by rw[JC];lia
  refine⟨t2,t3,_,_,rfl,rfl,s9 _ _ h8,zB,by show _+1<=sizeLine;rw[JM];lia,λt4 HA sA hA=>?_⟩;refine⟨_,rfl,_,rfl,_,_,rfl,rfl,_,rfl,t,_,rfl,sA _ _ (s9 _ _ bS),λt5 HB sB hB=>?_⟩;rw[show ((R:Int)+1)=((R+1:Nat):Int) from rfl,y8 _ (R+1) (by lia)]at hB;have dk:((g.map V.int).drop (R+1)).length<=g.length:=by rw[Yc];lia
  refine⟨t4,t5,_,_,rfl,rfl,sB _ _ hA,hB,by rw[Jd];show _+1+_<=sizeLine;rw[JM];lia,λt6 HC sC hC=>?_⟩;refine⟨_,rfl,_,rfl,by show 3<=sizeLine;decide,λp hp=>?_⟩;have sD:=zD hp (.tup [.ref t6,.int (m:Nat),.int (n:Nat)]);have uD:=((s9.trans sA).trans (sB.trans sC)).trans sD;rw[rt];refine q _ _ ?_ (S8.keep uD) (ao.trans (b8.trans (But.of uD)));refine .tup (n:=1) zB (by show 3<=1000;decide) λz d=>?_;simp only[Ja,Jc,JG]at d;rcases d with rfl|rfl|rfl
  ·refine .tup (n:=0) (sD _ _ hC) ?_ λz d=>?_
   ·rw[Jd,Jd];show _+1+_<=_;lia
   ·rcases Ju.mp d with e|e
    ·rcases Ju.mp e with e|e
     ·obtain⟨i,_,rfl⟩:=JJ.mp (ZA e)
      exact .flat trivial
     ·rw[Js.mp e];exact .flat fy
    ·obtain⟨i,_,rfl⟩:=JJ.mp (Zz e)
     exact .flat trivial
  ·exact .flat trivial
  ·exact .flat trivial
 rintro σ H3 ⟨⟨v7,v8,rfl⟩,S3,B3⟩;have X:=KpM.butA B3 S2 S3;have T:=B3 _ _ ab W;have af:∀ y∈ae,Dp H3 1 y:=λy x=>(od y x).kpm X;have bl:=ao.trans B3;have aX:=X.tup _ _ aY;have Y:=X.tup _ _ Z;clear X ab od ao aY Z S2 B3;have dt:∀ {HX:Hp},HX t=some (.tup (g.map V.int))->Dp HX 1 (.ref t):=λh=>.ints h (by lia);refine⟨_,rfl,_,rfl,_,rfl,l,lo,ae,rfl,S3,W,T,ol.1,ol.2,λi y1 H4 aw S4 B4=>?_⟩;have kA:=KpM.butA B4 S3 S4;refine⟨_,rfl,by show 3<=sizeLine;decide,λU aS=>?_⟩;have s5:=zD aS (.tup [.ref t,y1,.int (n:Nat)]);have S5:=S4.keep s5;have aa:=s5 _ _ (B4 _ _ T W);refine⟨_,rfl,_,rfl,_,rfl,_,rfl,l,lo,ae,rfl,S5,W,aa,ol.1,ol.2,λi2 y2 H6 av S6 B6=>?_⟩;have kB:=kA.trans ((KpM.same s5).trans (KpM.butA B6 S5 S6));have a0:=B4.trans ((But.of s5:But l H4 _).trans B6);have aZ:=(KpM.butA B6 S5 S6).tup _ _ (zB (H:=H4) (a:=U) (o:=.tup [.ref t,y1,.int (n:Nat)]));have d1:=(af y1 (Jz aw)).kpm kB;have d2:=(af y2 (Jz av)).kpm kB;have ai:=kB.tup _ _ Y;have aW:=kB.tup _ _ aX;have C:=dt ai;have bh:=bl.trans a0;clear aa S5 s5 kA B4 S4 aw av T af a0 kB Y aX bl S3 aS B6;refine⟨by show 3<=sizeLine;decide,λO aR=>⟨_,rfl,_,rfl,_,rfl,by show 3<=sizeLine;decide,λM aQ=>⟨_,rfl,_,rfl,by show 2<=sizeLine;decide,λL aP=>⟨_,rfl,_,rfl,_,rfl,by show 4<=sizeLine;decide,λJ aO=>⟨by show 5<=sizeLine;decide,λls ak=>?_⟩⟩⟩⟩⟩;have a2:=zD aR (.tup [.ref t,.int (m:Nat),y2]);have a3:=zD aQ (.tup [.ref t,.int (n:Nat),.int (m:Nat)]);have a4:=zD aP (.tup [.ref t,.int (m:Nat)]);have a5:=zD aO (.tup [.ref t,.int (m:Nat),.int (n:Nat),.int 0]);have aL:=zD ak (.lst [.ref U,.ref O,.ref M,.ref L,.ref J]);have w5:=a5.trans aL;have w4:=a4.trans w5;have w3:=a3.trans w4;have u:=a2.trans w3;have B:∀ {HX:Hp}{p:Addr}{xs:List V},HX p=some (.tup xs)->xs.length<=1000->(∀ y∈xs,Dp HX 1 y)->Dp HX 2 (.ref p):=λh l m=>.tup h l m
 have f1:Dp _ 2 (.ref U):=B (u _ _ aZ) (by show 3<=1000;decide) λz d=>by
  simp only[Ja,Jc,JG]at d;rcases d with rfl|rfl|rfl
  ·exact Dp.same u C
  ·exact Dp.same u d1
  ·exact .flat trivial
 have f2:Dp _ 2 (.ref O):=B (w3 _ _ zB) (by show 3<=1000;decide) λz d=>by
  simp only[Ja,Jc,JG]at d;rcases d with rfl|rfl|rfl
  ·exact Dp.same u C
  ·exact .flat trivial
  ·exact Dp.same u d2
 have f3:Dp _ 2 (.ref M):=B (w4 _ _ zB) (by show 3<=1000;decide) λz d=>by
  simp only[Ja,Jc,JG]at d;rcases d with rfl|rfl|rfl
  ·exact Dp.same u C
  ·exact .flat trivial
  ·exact .flat trivial
 have f4:Dp _ 2 (.ref L):=B (w5 _ _ zB) (by show 2<=1000;decide) λz d=>by
  simp only[Ja,Jc,JG]at d;rcases d with rfl|rfl
  ·exact Dp.same u C
  ·exact .flat trivial
 have f5:Dp _ 2 (.ref J):=B (aL _ _ zB) (by show 4<=1000;decide) λz d=>by
  simp only[Ja,Jc,JG]at d;rcases d with rfl|rfl|rfl|rfl
  ·exact Dp.same u C
  ·exact .flat trivial
  ·exact .flat trivial
  ·exact .flat trivial
 have g5:∀ y∈[V.ref U,.ref O,.ref M,.ref L,.ref J],Dp _ 2 y:=λy x=>by
  simp only[Ja,Jc,JG]at x;rcases x with rfl|rfl|rfl|rfl|rfl
  ·exact f1
  ·exact f2
  ·exact f3
  ·exact f4
  ·exact f5
 have S7:=S6.keep u;have ah:=u _ _ ai;have b7:=u _ _ aW;have cb:=bh.trans (But.of u);clear f1 f2 f3 f4 f5 B d1 d2 C ai aW bh;have b5:L2.upd (L2.upd (L2.upd (L2.upd (L2.upd H6 O (.tup [.ref t,.int (m:Nat),y2])) M (.tup [.ref t,.int (n:Nat),.int (m:Nat)])) L (.tup [.ref t,.int (m:Nat)])) J (.tup [.ref t,.int (m:Nat),.int (n:Nat),.int 0])) ls (.lst [.ref U,.ref O,.ref M,.ref L,.ref J]) ls=some (.lst [.ref U,.ref O,.ref M,.ref L,.ref J]):=zB;have cc:ls≠l:=((S6.keep (a2.trans (a3.trans (a4.trans a5)))).ne ak).symm;show Ends.nx _ _ (L2.upd (L2.upd (L2.upd (L2.upd (L2.upd H6 O (.tup [.ref t,.int (m:Nat),y2])) M (.tup [.ref t,.int (n:Nat),.int (m:Nat)])) L (.tup [.ref t,.int (m:Nat)])) J (.tup [.ref t,.int (m:Nat),.int (n:Nat),.int 0])) ls (.lst [.ref U,.ref O,.ref M,.ref L,.ref J]));generalize L2.upd (L2.upd (L2.upd (L2.upd (L2.upd H6 O (.tup [.ref t,.int (m:Nat),y2])) M (.tup [.ref t,.int (n:Nat),.int (m:Nat)])) L (.tup [.ref t,.int (m:Nat)])) J (.tup [.ref t,.int (m:Nat),.int (n:Nat),.int 0])) ls (.lst [.ref U,.ref O,.ref M,.ref L,.ref J])=H7 at *;clear a2 a3 a4 a5 aL u w3 w4 w5 ak aO aP aQ aR aZ S6;have l5:[V.ref U,.ref O,.ref M,.ref L,.ref J].length=5:=rfl;generalize [V.ref U,.ref O,.ref M,.ref L,.ref J]=ad at *;refine⟨_,rfl,_,rfl,_,rfl,b,_,rfl,.inr (SqT.of b7),λq1 aN=>⟨_,rfl,t,_,rfl,.inr (SqT.of (zD aN _ _ _ ah)),λq2 b4=>⟨_,rfl,_,rfl,by show 3<=sizeLine;decide,λq3 b3=>⟨_,rfl,by show 1<=sizeLine;decide,λq4 b2=>?_⟩⟩⟩⟩;have a1:=zD aN (.lst (.ref t::[((m:Nat):Int),((n:Nat):Int)].map V.int));have a2:=zD b4 (.lst (g.map V.int));have a3:=zD b3 (.tup [.ref q2,.int (m:Nat),.int (n:Nat)]);have a4:=zD b2 (.tup [.int 0]);have w4:=((a1.trans a2).trans a3).trans a4;have bo:(g.map V.int).length=g.length:=Jg _;refine⟨t,q4,_,_,rfl,rfl,w4 _ _ ah,zB,by show _+1<=sizeLine;rw[JM];lia,λq5 H8 a5 h5=>⟨_,rfl,_,rfl,by show 3<=sizeLine;decide,λq6 b1=>?_⟩⟩;have a6:=zD b1 (.tup [.ref q5,.int (m:Nat),.int (n:Nat)]);have w6:=(w4.trans a5).trans a6;refine⟨_,rfl,_,rfl,t,_,rfl,w6 _ _ ah,λq7 H9 a7 h7=>⟨_,rfl,_,rfl,by show 3<=sizeLine;decide,λq8 b0=>⟨by show 5<=sizeLine;decide,λl2 b6=>?_⟩⟩⟩;have a8:=zD b0 (.tup [.ref q7,.int (m:Nat),.int (n:Nat)]);have a9:=zD b6 (.lst [.ref q1,.ref q3,.ref q6,.ref q8,.non]);have w9:=(w6.trans a7).trans (a8.trans a9);refine⟨ls,l2,_,_,rfl,rfl,w9 _ _ b5,zB,by show _+5<=_;rw[l5];decide,λl3 aU=>?_⟩;have aL:=zD aU (.lst (ad++[.ref q1,.ref q3,.ref q6,.ref q8,.non]));have wL:=w9.trans aL;have c9:=a9.trans aL;have c8:=a8.trans c9;have c7:=a7.trans c8;have c6:=a6.trans c7;have c4:=a4.trans (a5.trans c6);have c3:=a3.trans c4;have c2:=a2.trans c3;have SL:=S7.keep wL;have n3:l3≠l:=((S7.keep w9).ne aU).symm
 have cutD:∀ z∈xU (g.map V.int) (some 1) none,Flat z:=λz d=>by
  obtain⟨i,_,rfl⟩:=JJ.mp (vS d)
  trivial
 have aq:(xU (g.map V.int) (some 1) none).length<=1000:=by
  have:=iB (g.map V.int) 1;rw[show (some ((1:Nat):Int))=some (1:Int) from rfl]at this;lia
 have all:∀ y∈ad++[.ref q1,.ref q3,.ref q6,.ref q8,.non],Dp _ 2 y:=λy x=>by
  rcases Ju.mp x with e|e
  ·exact Dp.same wL (g5 y e)
  ·simp only[Ja,Jc,JG]at e
   rcases e with rfl|rfl|rfl|rfl|rfl
   ·exact .lst (c2 _ _ zB)
   ·refine .tup (c4 _ _ zB) (by show 3<=1000;decide) λz d=>?_
    simp only[Ja,Jc,JG]at d;rcases d with rfl|rfl|rfl
    ·exact .lst (c3 _ _ zB)
    ·exact .flat trivial
    ·exact .flat trivial
   ·refine .tup (c7 _ _ zB) (by show 3<=1000;decide) λz d=>?_
    simp only[Ja,Jc,JG]at d;rcases d with rfl|rfl|rfl
    ·refine .tup (c6 _ _ h5) (by rw[Jd];show _+1<=_;lia) λz d=>?_
     rcases Ju.mp d with e|e
     ·obtain⟨i,_,rfl⟩:=JJ.mp e
      exact .flat trivial
     ·rw[Js.mp e];exact .flat trivial
    ·exact .flat trivial
    ·exact .flat trivial
   ·refine .tup (c9 _ _ zB) (by show 3<=1000;decide) λz d=>?_
    simp only[Ja,Jc,JG]at d;rcases d with rfl|rfl|rfl
    ·exact .tup (c8 _ _ h7) aq λz d=>.flat (cutD z d)
    ·exact .flat trivial
    ·exact .flat trivial
   ·exact .flat trivial
 refine⟨l,l3,_,rfl,SL,n3,zB,by rw[Jd,l5];exact Nat.succ_pos _,by rw[Jd,l5];show 5+5<=_;decide,λi y HE x SE BE=>?_⟩;exact q y HE ((all y (Jz x)).kpm (KpM.butA BE SL SE)) SE (cb.trans ((But.of wL).trans BE))
end
end K63
namespace L2
open PySem PySem.Spec PyProof.Rows Own Bn
def DpK (H:Hp)(x:V):Prop:=An H x/\∀ a,zX H x=some a->a.length≠3\/∀ y∈a,Dp H 1 y
theorem Dp.k {H:Hp}{x:V}(d:Dp H 2 x):DpK H x:=⟨d.1,λa e=>.inr (d.2 a e).2⟩
theorem DpK.via {H H':Hp}{x:V}(A:∀ {y:V},An H y->An H' y/\zX H' y=zX H y)(D:∀ {y:V},Dp H 1 y->Dp H' 1 y)(d:DpK H x):DpK H' x:=⟨(A d.1).1,λa e=>by
 rw[(A d.1).2]at e
 exact(d.2 a e).imp id λh y b=>D (h y b)⟩
theorem DpK.kpm {H H':Hp}{x:V}(k:KpM H H')(d:DpK H x):DpK H' x:=d.via (λa=>k.an a) λh=>h.kpm k
theorem DpK.kp {H H':Hp}{x:V}(k:KpN H H')(d:DpK H x):DpK H' x:=d.via (λa=>⟨a.kp k,a.row k⟩) λh=>h.kp k
theorem tm {H H':Hp}{a lanes:Int}{x:V}(A:∀ {y:V},An H y->zX H' y=zX H y)(d:DpK H x):yn H' a lanes x=yn H a lanes x:=by
 unfold yn;rw[A d.1];split
 ·rename_i t m n e
  rcases d.2 _ e with h|h
  ·exact absurd rfl h
  ·unfold yQ
   rw[A (h t (.head _)).an]
 ·rfl
theorem kG {H H':Hp}{a lanes:Int}{x:V}(A:∀ {y:V},An H y->zX H' y=zX H y)(d:DpK H x):wR H' a lanes x=wR H a lanes x:=by
 unfold wR;rw[tm A d,A d.1];by_cases c:yn H a lanes x=true
 ·rw[Jp c,Jp c]
  split
  ·rename_i t m n e
   rcases d.2 _ e with h|h
   ·exact absurd rfl h
   ·unfold ic
    rw[A (h t (.head _)).an]
  ·rfl
 ·rw[Jf c,Jf c]
theorem tw {H H':Hp}{b lanes:Int}{x:V}(k:KpN H H')(d:DpK H x):yn H' b lanes x=yn H b lanes x:=tm (λa=>a.row k) d
def y9 (K:PySem.W.Frag):Sp:=λb H Q _=>∃ r fr d c N,∃ x,b=[.ref r,x]/\Nt.Ok N/\NetAt H r fr d c N/\DpK H x/\∀ a,Same H a->Q (.bl (yn H (N.forks.length:Nat) (N.lanes:Nat) x)) a
def Thg (P:Program)(w:World)(H:Hp)(x:V):Prop:=AnD P w H x/\∀ a,zX H x=some a->a.length<=600000/\∀ y∈a,DpK H y
theorem Thg.via {P:Program}{w:World}{H H':Hp}{x:V}(k:KpM H H')(D:∀ a xs,H a=some (DN P w a xs)->H' a=some (DN P w a xs))(t:Thg P w H x):Thg P w H' x:=by
 have e:AnD P w H' x/\zX H' x=zX H x:=by
  rcases t.1 with a|⟨a,xs,rfl,h⟩
  ·exact⟨.inl (k.an a).1,(k.an a).2⟩
  ·exact⟨.inr ⟨a,xs,rfl,D _ _ h⟩,by rw[wB h,wB (D _ _ h)]⟩
 refine⟨e.1,λxs z=>?_⟩;rw[e.2]at z;exact⟨(t.2 xs z).1,λy b=>((t.2 xs z).2 y b).kpm k⟩
theorem Thg.same {P:Program}{w:World}{H H':Hp}{x:V}(s:Same H H')(t:Thg P w H x):Thg P w H' x:=t.via (KpM.same s) λa b h=>s _ _ h
theorem Thg.but {P:Program}{w:World}{H H':Hp}{l:Addr}{x:V}(B:But l H H')(S:PkAt H l)(b:PkAt H' l)(t:Thg P w H x):Thg P w H' x:=t.via (KpM.butA B S b) λa c h=>B _ _ h (by
 obtain⟨z,e⟩:=rR S
 exact xL h e λq=>by cases q)
theorem Thg.tab {P:Program}{w:World}{H H':Hp}{q:Str}{Pt:Addr}{x:V}(t:TabQ q Pt H)(B:But Pt H H')(h:Thg P w H x):Thg P w H' x:=h.via (KpM.tab t B) λa c e=>by
 obtain⟨ls,b,_⟩:=t;exact B _ _ e (xL e b λq=>by cases q)
theorem Thg.flat {P:Program}{w:World}{H:Hp}{x:V}(f:Flat x):Thg P w H x:=⟨.inl (.inl f),λa e=>by cases x<;>first|cases e|exact f.elim⟩
theorem Thg.lst {P:Program}{w:World}{H:Hp}{a:Addr}{xs:List V}(e:H a=some (.lst xs)):Thg P w H (.ref a):=⟨.inl (.inr ⟨a,rfl,.inr (.inl ⟨xs,e⟩)⟩),λb z=>by rw[vk e]at z;cases z⟩
theorem Thg.tup {P:Program}{w:World}{H:Hp}{a:Addr}{xs:List V}(e:H a=some (.tup xs))(l:xs.length<=600000)(m:∀ y∈xs,DpK H y):Thg P w H (.ref a):=⟨.inl (.inr ⟨a,rfl,.inl ⟨xs,e⟩⟩),λb z=>by
 rw[yT e]at z;obtain rfl:=Jr z
 exact⟨l,m⟩⟩
theorem Thg.dict {P:Program}{w:World}{H:Hp}{a:Addr}(e:H a=some (.dK [])):Thg P w H (.ref a):=⟨.inl (.inr ⟨a,rfl,.inr (.inr e)⟩),λb z=>by simp only[zX,e]at z;cases z⟩
theorem Thg.list {P:Program}{w:World}{H:Hp}{x:V}{l:Addr}{ys zs:List V}(e:H l=some (.lst ys))(t:Thg P w H x):Thg P w (L2.upd H l (.lst zs)) x:=t.via (KpM.list e) λa b h=>by
 rw[zJ (xL h e λq=>by cases q)];exact h
def bmV (N:Nt)(H:Hp)(x:V):Bool:=match zX H x with
 | none=>false
 | some a=>xh (wR H (N.forks.length:Nat) (N.lanes:Nat)) a (k0M N) [0,1] (xW N)
theorem gh {P:Program}{w:World}{N:Nt}{H H':Hp}{x:V}(k:KpM H H')(D:∀ a xs,H a=some (DN P w a xs)->H' a=some (DN P w a xs))(t:Thg P w H x):bmV N H' x=bmV N H x:=by
 have e:zX H' x=zX H x:=by
  rcases t.1 with a|⟨a,xs,rfl,h⟩
  ·exact(k.an a).2
  ·rw[wB h,wB (D _ _ h)]
 unfold bmV;rw[e]
 cases z:zX H x with
 | none=>rfl
 | some xs=>exact iE λy b=>kG (λa=>(k.an a).2) ((t.2 xs z).2 y b)
def sr (P:Program)(w:World):Sp:=λc H Q _=>∃ r fr e d N,∃ x,c=[.ref r,x]/\Nt.Ok N/\N.lanes%2=0/\NetAt H r fr e d N/\AnD P w H x/\(∀ a,zX H x=some a->a.length<=600000/\∀ y∈a,DpK H y) /\
 ∀ b,Same H b->Q (.bl (match zX H x with|none=>false|some a=>xh (wR H (N.forks.length:Nat) (N.lanes:Nat)) a (k0M N) [0,1] (xW N))) b
theorem DpK.row {N:Nt}{H:Hp}{a:Addr}{bs:List Addr}{ks:List KN}(c:Nt.Ok N)(e:H a=some (.tup (bs.map V.ref)))(f:KeysAt H bs ks)(ok:∀ k∈ks,OkM N k):DpK H (.ref a):=⟨.inr ⟨a,rfl,.inl ⟨_,e⟩⟩,λi z=>by
 rw[yT e]at z;obtain rfl:=Jr z;refine .inr λy g=>?_;obtain⟨b,bm,rfl⟩:=JJ.mp g;obtain⟨k,h,d⟩:=f.mem b bm
 exact(Dp.knot c (ok k h) d).mono (by decide)⟩
end L2
namespace K63
open PySem L2 Own Bn
abbrev rF:Stmt:=top 45
def uE (P:Program)(w:World):Sp:=λc H Q _=>∃ l r fr e d N bk bs a,c=[.ref l,.ref r,.ref bk]/\PkAt H l/\Nt.Ok N/\NetAt H r fr e d N/\H bk=some (.tup (bs.map V.ref))/\KeysAt H bs a/\(∀ k∈a,OkM N k)/\0<a.length/\a.length<=524288 /\
 ∀ y b,Thg P w b y->PkAt b l->But l H b->Q y b
section
variable {P:Program}{w:World}{K:PySem.W.Frag}{mg:Str->Option Value}{base:Heap}
theorem iW:FnScope ["_law_left_here","_law_net_here","_law_book","_law_at","_law_way","_law_some"] ["_law_left_here","_law_net_here","_law_book"] (zM rF):=by trivial
theorem ma {f fK fO fP fB:Addr}{fd dK dO dP dB:FuncData}(F:Fun K "_law_spoilt" "_law_spoilt" rF f fd) (G:Mgs mg) (GD:MgD mg) (Y:Use P w K mg base "_law_pick" ["_law_left_here","_law_many"] 1 xj fK dK) (UO:Use P w K mg base "_law_of" ["_law_left_here","_law_some"] 2 mQ fO dO) (UP:Use P w K mg base "_law_placed" ["_law_left_here","_law_some"] 2 x9 fP dP) (UB:Use P w K mg base "_law_bent" ["_law_left_here","_law_net_here","_law_knot"] 3 su fB dB):FnOk P w K mg base CX0 4 f fd ["_law_left_here","_law_net_here","_law_book"] (uE P w):=by
 refine F.ok iW (λvs H Q E h=>?_) (λaW A outer s H vs Q E hr h=>?_)
 ·obtain⟨l,r,fr,er,ps,N,bk,bs,ks,rfl,_⟩:=h
  rfl
 obtain⟨l,r,fr,er,ps,N,bk,bs,ks,rfl,S,ok,na,ag,ka,ab,kp,kl,q⟩:=h;have ao:Room 1 _:=hr.mono (by decide);have am:Room 2 _:=hr.mono (by decide);refine⟨_,(@zG _ _ _ _ _ (@zY _ _ 3 _ _ _ _ iW.nd rfl (.inl rfl) (@zL _ _ _ _ _ _ _ _ _ _ _ _ _ _ _ _ Y.ok ao (by rfl) Y.m Y.kp Y.b .nil zW (@zA _ _ _ _ _ (@qv _ 0 _ _ (by trivial)) (@zA _ _ _ _ _ (@zP _ _ _ _ _ _ _ _ _ zV (by rfl) G.len JX (@zA _ _ _ _ _ (@qv _ 2 _ _ (by trivial)) zC (by rfl)) (by decide) (by decide) (by rfl) (by rfl)) zC (by rfl)) (by rfl)) (by decide) (by rfl) (by rfl)) (by rfl) (by trivial)) (@zG _ _ _ _ _ (@zY _ _ 4 _ _ _ _ iW.nd rfl (.inl rfl) (@zL _ _ _ _ _ _ _ _ _ _ _ _ _ _ _ _ Y.ok ao (by rfl) Y.m Y.kp Y.b .nil zW (@zA _ _ _ _ _ (@qv _ 0 _ _ (by trivial)) (@zA _ _ _ _ _ zE zC (by rfl)) (by rfl)) (by decide) (by rfl) (by rfl)) (by rfl) (by trivial)) (@zG _ _ _ _ _ (@ya _ _ _ _ _ _ _ _ (@zp _ _ _ _ _ _ _ _ xg (@qv _ 4 _ _ (by trivial)) zE (yC _)) (@zK _ _ _ (@zT _ _ _ _ (@zS _ _ _ _ _ _ _ _ yp (@yI _ _ _ _ _ _ _ _ _ _ yc (@qv _ 2 _ _ (by trivial)) yN (@zx _ _ _ (@qv _ 3 _ _ (by trivial)))) (@yI _ _ _ _ _ _ _ _ _ _ yc (@qv _ 2 _ _ (by trivial)) (@zx _ _ _ (@zS _ _ _ _ _ _ _ _ yX (@qv _ 3 _ _ (by trivial)) zE)) yN)))) zw) (@zG _ _ _ _ _ (@ya _ _ _ _ _ _ _ _ (@zp _ _ _ _ _ _ _ _ xg (@qv _ 4 _ _ (by trivial)) zE (yC _)) (@zK _ _ _ (@zT _ _ _ _ (@zS _ _ _ _ _ _ _ _ yp (@qv _ 2 _ _ (by trivial)) (@zU _ _ _ _ _ (@zA _ _ _ _ _ (@zi _ _ _ _ _ _ _ zy (@qv _ 2 _ _ (by trivial)) (@qv _ 3 _ _ (by trivial)) (λ_ _=>rfl)) zC (by rfl)))))) zw) (@zG _ _ _ _ _ (@ya _ _ _ _ _ _ _ _ (@zp _ _ _ _ _ _ _ _ xg (@qv _ 4 _ _ (by trivial)) zE (yC _)) (@zG _ _ _ _ _ (@zY _ _ 5 _ _ _ _ iW.nd rfl (.inl rfl) (@yO _ _ _ _ (@zA _ _ _ _ _ (@zZ _ _ _ _ _ _ _ _ _ yZ (by rfl) G.list (by rfl) (@zA _ _ _ _ _ (@qv _ 2 _ _ (by trivial)) zC (by rfl)) (by decide) (by decide) (by rfl) (by rfl)) (@zA _ _ _ _ _ (@zU _ _ _ _ _ (@zA _ _ _ _ _ (@qv _ 2 _ _ (by trivial)) zC (by rfl))) (@zA _ _ _ _ _ (@zS _ _ _ _ _ _ _ _ yp (@qv _ 2 _ _ (by trivial)) (@zU _ _ _ _ _ (@zA _ _ _ _ _ vJ zC (by rfl)))) (@zA _ _ _ _ _ (@zS _ _ _ _ _ _ _ _ yp (@qv _ 2 _ _ (by trivial)) (@zU _ _ _ _ _ (@zA _ _ _ _ _ (@zU _ _ _ _ _ zC) zC (by rfl)))) (@zA _ _ _ _ _ qR zC (by rfl)) (by rfl)) (by rfl)) (by rfl)) (by rfl))) (by rfl) (by trivial)) (@zK _ _ _ (@zT _ _ _ _ (@zL _ _ _ _ _ _ _ _ _ _ _ _ _ _ _ _ UO.ok am (by rfl) UO.m UO.kp UO.b .nil zW (@zA _ _ _ _ _ (@qv _ 0 _ _ (by trivial)) (@zA _ _ _ _ _ (@zS _ _ _ _ _ _ _ _ vL (@qv _ 5 _ _ (by trivial)) (@yO _ _ _ _ (@zA _ _ _ _ _ (@zZ _ _ _ _ _ _ _ _ _ (um rfl (Nat.lt_of_le_of_lt (Nat.add_le_add_left (by decide) _) hr.units)) (by rfl) GD.dict (by rfl) (@zA _ _ _ _ _ (@wq _ _ _ _ none _ _ _ _ _ _ ["_law_knot"] [none] rfl (@xA _ _ _ _ (@qv _ 2 _ _ (by trivial))) (CapOk.of (by kernel_rfl)) (λ_ _ _ _ _=>(@zN _ _ 0 _ (show (["_law_knot"]:List Str).Nodup from by decide +kernel) rfl (.inl rfl) (.inr rfl))) (λ_ _ _ _ _=>yx) (λ_ _ _ _ _=>(@zU _ _ _ _ _ (@zA _ _ _ _ _ (@qv _ 0 _ _ (by trivial)) (@zA _ _ _ _ _ zE zC (by rfl)) (by rfl)))) (by intro _;rfl)) zC (by rfl)) (by decide) (by decide) (by rfl) (by rfl)) zC (by rfl)))) zC (by rfl)) (by rfl)) (by decide) (by rfl) (by rfl))))) zw) (@zG _ _ _ _ _ (@ya _ _ _ _ _ _ _ _ (@zp _ _ _ _ _ _ _ _ xg (@qv _ 4 _ _ (by trivial)) zE (yC _)) (@zK _ _ _ (@zT _ _ _ _ (@zZ _ _ _ _ _ _ _ _ _ zu (by rfl) G.tuple (by rfl) (@zA _ _ _ _ _ (@zL _ _ _ _ _ _ _ _ _ _ _ _ _ _ _ _ UP.ok am (by rfl) UP.m UP.kp UP.b .nil zW (@zA _ _ _ _ _ (@qv _ 0 _ _ (by trivial)) (@zA _ _ _ _ _ (@qv _ 2 _ _ (by trivial)) zC (by rfl)) (by rfl)) (by decide) (by rfl) (by rfl)) zC (by rfl)) (by decide) (by decide) (by rfl) (by rfl)))) zw) (@zK _ _ _ (@zT _ _ _ _ (@zS _ _ _ _ _ _ _ _ yp (@zS _ _ _ _ _ _ _ _ yp (@yI _ _ _ _ _ _ _ _ _ _ yc (@qv _ 2 _ _ (by trivial)) yN (@zx _ _ _ (@qv _ 3 _ _ (by trivial)))) (@zU _ _ _ _ _ (@zA _ _ _ _ _ (@zL _ _ _ _ _ _ _ _ _ _ _ _ _ _ _ _ UB.ok hr (by rfl) UB.m UB.kp UB.b .nil zW (@zA _ _ _ _ _ (@qv _ 0 _ _ (by trivial)) (@zA _ _ _ _ _ (@qv _ 1 _ _ (by trivial)) (@zA _ _ _ _ _ (@zi _ _ _ _ _ _ _ zy (@qv _ 2 _ _ (by trivial)) (@qv _ 3 _ _ (by trivial)) (λ_ _=>rfl)) zC (by rfl)) (by rfl)) (by rfl)) (by decide) (by rfl) (by rfl)) zC (by rfl)))) (@yI _ _ _ _ _ _ _ _ _ _ yc (@qv _ 2 _ _ (by trivial)) (@zx _ _ _ (@zS _ _ _ _ _ _ _ _ yX (@qv _ 3 _ _ (by trivial)) zE)) yN)))))))))),?_⟩;have bl:=Yw ka;have aU:(bs.map V.ref).length=bs.length:=Jg _;refine⟨_,rfl,_,rfl,bk,_,rfl,.inr (SqT.of ag),l,_,rfl,by lia,by lia,S,λv H1 hv S1 B1=>?_⟩;refine⟨_,rfl,l,6,rfl,by decide,by decide,S1,λwy H2 hw Z B2=>?_⟩;have L:=B1.trans B2;have U:Tups H H2:=L.tups S;have g:=U _ _ ag;have ak:=ka.tups U;have az:=na.tups U;clear ag ka na B1 B2 U S1;have vb:v<bs.length:=by lia
 have ae:(bs.map V.ref)[v]?=some (.ref bs[v]):=by rw[JU,J8 vb];rfl
 have dk:∀ {D:Hp},KeysAt D bs ks->∀ y∈bs.map V.ref,Dp D 2 y:=λ{D} kx y m=>by
  obtain⟨b,bm,rfl⟩:=JJ.mp m;obtain⟨k,hk,kb⟩:=kx.mem b bm;exact Dp.knot ok (ab k hk) kb
 have tk:∀ {D:Hp},Same H2 D->KeysAt D bs ks:=λs'=>ak.tups (Tups.of s');have fin:∀ y D,Same H2 D->Thg P w D y->Q y D:=λy D s' t=>q y D t (Z.keep s') (L.trans (But.of s'));have b6:bs.length<=524288:=by lia
 refine⟨_,rfl,rfl,_,rfl,?_⟩;by_cases c0:V.int ((wy:Nat):Int)=V.int 0
 ·rw[Jw c0]
  refine yE ⟨_,rfl,_,rfl,_,rfl,bk,_,rfl,g,λp1 J j I=>⟨_,rfl,_,rfl,_,_,rfl,rfl,_,rfl,bk,_,rfl,j _ _ g,λp2 H4 C h4=>⟨p1,p2,_,_,rfl,rfl,C _ _ I,h4,?_,λp3 H5 B h5=>fin _ _ ((j.trans C).trans B) (.tup h5 ?_ λy m=>?_)⟩⟩⟩
  ·rw[yo _ v (by lia),show ((v:Int)+1)=((v+1:Nat):Int) from rfl,y8 _ (v+1) (by lia),JC,Yc,JM];lia
  ·rw[Jd,yo _ v (by lia),show ((v:Int)+1)=((v+1:Nat):Int) from rfl,y8 _ (v+1) (by lia),JC,Yc];lia
  ·refine(dk (tk ((j.trans C).trans B)) y ?_).k
   rcases Ju.mp m with e|e
   ·exact vS e
   ·exact vS e
 rw[Jq c0];refine zr ⟨_,rfl,rfl,_,rfl,?_⟩;by_cases c1:V.int ((wy:Nat):Int)=V.int 1
 ·rw[Jw c1]
  refine yE ⟨_,rfl,_,rfl,_,rfl,bk,_,_,_,rfl,rfl,SqT.of g,yg ae,by show 1<=sizeLine;decide,λp1 aQ=>?_⟩;have j:=zD aQ (.tup [.ref bs[v]]);refine⟨bk,p1,_,_,rfl,rfl,j _ _ g,zB,by show _+1<=sizeLine;rw[JM];lia,λp3 H5 B h5=>fin _ _ (j.trans B) (.tup h5 ?_ λy m=>?_)⟩
  ·rw[Jd];show _+1<=_;lia
  ·refine(dk (tk (j.trans B)) y ?_).k
   rcases Ju.mp m with e|e
   ·exact e
   ·rw[Js.mp e];exact Jz ae
 rw[Jq c1];refine zr ⟨_,rfl,rfl,_,rfl,?_⟩;by_cases c2:V.int ((wy:Nat):Int)=V.int 2
 ·rw[Jw c2]
  refine yE ?_;refine⟨_,rfl,bk,_,rfl,.inr (SqT.of g),λT av=>⟨_,rfl,by show 1<=sizeLine;decide,λR au=>⟨_,rfl,by show 1<=sizeLine;decide,λq3 ar=>?_⟩⟩⟩;have a1:=zD av (.lst (bs.map V.ref));have a2:=zD au (.tup [.ref bk]);have a3:=zD ar (.tup [.non]);have w3:=(a1.trans a2).trans a3;refine⟨bk,q3,_,_,rfl,rfl,w3 _ _ g,zB,by show _+1<=sizeLine;rw[JM];lia,λO H4 a4 h4=>⟨_,rfl,by show 0<=sizeLine;decide,λq5 aq=>⟨by show 1<=sizeLine;decide,λq6 ap=>?_⟩⟩⟩;have a5:=zD aq (.tup []);have a6:=zD ap (.tup [.ref q5]);have X:=((w3.trans a4).trans a5).trans a6;refine⟨bk,q6,_,_,rfl,rfl,X _ _ g,zB,by show _+1<=sizeLine;rw[JM];lia,λM H7 a7 h7=>λd hd=>⟨by show 5<=sizeLine;decide,λls af=>?_⟩⟩;have a8:=zD hd (.dK []);have a9:=zD af (.lst [.ref T,.ref R,.ref O,.ref M,.ref d]);have c8:=a8.trans a9;have c6:=(a7.trans c8);have c4:=(a5.trans a6).trans c6;have c2:=(a3.trans a4).trans c4;have c1:=a2.trans c2;have w9:=(X.trans a7).trans c8;have W:=tk w9
  have ai:∀ y∈[V.ref T,.ref R,.ref O,.ref M,.ref d],Thg P w (L2.upd (L2.upd H7 d (.dK [])) ls (.lst [.ref T,.ref R,.ref O,.ref M,.ref d])) y:=λy m=>by
   simp only[Ja,Jc,JG]at m;rcases m with rfl|rfl|rfl|rfl|rfl
   ·exact .lst (c1 _ _ zB)
   ·refine .tup (c2 _ _ zB) (by show 1<=600000;decide) λz hz=>?_
    rw[Js.mp hz];exact .row ok (w9 _ _ g) W ab
   ·refine .tup (c4 _ _ h4) (by rw[Jd];show _+1<=_;lia) λz hz=>?_
    rcases Ju.mp hz with e|e
    ·exact(dk W z e).k
    ·rw[Js.mp e];exact(Dp.flat (x:=.non) (n:=2) trivial).k
   ·refine .tup (c8 _ _ h7) (by rw[Jd];show _+1<=_;lia) λz hz=>?_
    rcases Ju.mp hz with e|e
    ·exact(dk W z e).k
    ·rw[Js.mp e]
     exact(Dp.tup (n:=1) (xs:=[]) (c6 _ _ (a6 _ _ zB)) (by decide) λu hu=>(nomatch hu)).k
   ·exact⟨.inl (.inr ⟨d,rfl,.inr (.inr (a9 _ _ zB))⟩),λxs e=>by simp only[zX,a9 _ _ (zB (H:=H7) (a:=d) (o:=.dK []))]at e;cases e⟩
  have S9:=Z.keep w9;have aV:ls≠l:=((Z.keep ((X.trans a7).trans a8)).ne af).symm;have ah:L2.upd (L2.upd H7 d (.dK [])) ls (.lst [.ref T,.ref R,.ref O,.ref M,.ref d]) ls=some (.lst [.ref T,.ref R,.ref O,.ref M,.ref d]):=zB;have l5:[V.ref T,.ref R,.ref O,.ref M,.ref d].length=5:=rfl;show Ends.nx _ _ (L2.upd (L2.upd H7 d (.dK [])) ls (.lst [.ref T,.ref R,.ref O,.ref M,.ref d]));generalize L2.upd (L2.upd H7 d (.dK [])) ls (.lst [.ref T,.ref R,.ref O,.ref M,.ref d])=H9 at *;generalize [V.ref T,.ref R,.ref O,.ref M,.ref d]=fv at *;clear a1 a2 a3 a4 a5 a6 a7 a8 a9 c1 c2 c4 c6 c8 w3 X af hd av au ar aq ap h4 h7;have aa:=w9 _ _ g;refine⟨_,rfl,_,rfl,_,rfl,bk,rfl,⟨_,SqT.of aa⟩,λl2 ax=>?_⟩;have j:=zD ax (.lst []);refine vO (K:=K) (a:=bk) (xs:=bs.map V.ref) (λi acc σ J=>(∃ v,σ=[v])/\Same H9 J/\J l2=some (.lst acc)/\∃ qs:KVN,Paired (PrH J) acc qs/\acc.length=i) ⟨⟨_,rfl⟩,j,zB,[],.nil,rfl⟩ (λi acc σ J q=>⟨q.2.2.1,SqT.of (q.2.1 _ _ aa)⟩) ?_ ?_
  ·rintro i y acc σ J m ⟨⟨v,rfl⟩,C,I,qs,pr,al⟩
   have il:=(J9.mp m).1;rw[JU]at m;obtain⟨b,eb,rfl⟩:=Yu.mp m;obtain⟨k0,ek,kb⟩:=qw W eb;refine⟨_,rfl,by show 2<=sizeLine;decide,λt ht=>?_⟩;have B:=zD ht (.tup [.ref b,.int 1]);have h5:=B _ _ I;have tq:Tups _ (L2.upd (L2.upd J t (.tup [.ref b,.int 1])) l2 (.lst (acc++[.ref t]))):=Tups.lst h5;refine⟨h5,by rw[JM];lia,nx il ⟨⟨_,rfl⟩,λc o e=>?_,zB,qs++[(k0,b,.int 1)],Paired.snoc (xE (λx y ⟨a,h1,h2,I⟩=>⟨a,h1,tq _ _ (B _ _ h2),(I.tups (Tups.of B)).tups tq⟩) pr) ⟨t,rfl,tq _ _ zB,(kb.tups (Tups.of (C.trans B))).tups tq⟩,by rw[Jd,al];rfl⟩⟩;rw[zJ (zH e ax)];exact B _ _ (C c o e)
  rintro acc σ J ⟨⟨v,rfl⟩,C,I,qs,pr,al⟩;refine⟨l2,acc,qs,rfl,I,pr,λdq aS=>⟨by show 1<=sizeLine;decide,λl6 aR=>?_⟩⟩;have B:=zD aS (DN P w dq (L2.yY [] qs));have s6:=zD aR (.lst [.ref dq]);have X:=(C.trans B).trans s6;refine⟨ls,l6,_,_,rfl,rfl,X _ _ ah,zB,by show _+1<=_;rw[l5];decide,λl7 aw=>?_⟩;have s7:=zD aw (.lst (fv++[.ref dq]));have w7:=X.trans s7
  have six:∀ y∈fv++[.ref dq],Thg P w _ y:=λy m=>by
   rcases Ju.mp m with e|e
   ·exact Thg.same w7 (ai y e)
   ·rw[Js.mp e]
    have ay:=s7 _ _ (s6 _ _ (zB (H:=J) (a:=dq) (o:=DN P w dq (L2.yY [] qs))));exact⟨.inr ⟨dq,_,rfl,ay⟩,λxs z=>by rw[wB ay]at z;cases z⟩
  have SX:=S9.keep w7;have n7:l7≠l:=((S9.keep X).ne aw).symm;refine⟨l,l7,_,rfl,SX,n7,zB,by rw[Jd,l5];exact Nat.succ_pos _,by rw[Jd,l5];show 5+1<=_;decide,λi y HE m SE BE=>?_⟩;exact q y HE (Thg.but BE SX SE (six y (Jz m))) SE (L.trans ((But.of (w9.trans w7)).trans BE))
 rw[Jq c2];refine zr ⟨_,rfl,rfl,_,rfl,?_⟩;by_cases c3:V.int ((wy:Nat):Int)=V.int 3
 ·rw[Jw c3]
  refine yE ⟨_,rfl,_,rfl,l,bk,_,rfl,Z,λz=>?_,.inr g,by lia,λp ys J pm hp I S3 B3=>?_⟩
  ·obtain⟨_,e⟩:=rR Z
   rw[z,e]at g;cases g
  have aO:=KpM.butA B3 Z S3;refine⟨p,ys,rfl,.inl ⟨SqL.of I,λt ht=>?_⟩⟩;have C:=zD ht (.tup ys);have aL:=ak.tups (aO.trans (KpM.same C)).tups;refine q _ _ (.tup zB (by rw[pm.length_eq,aU];lia) λy m=>(dk aL y (pm.mem_iff.mp m)).k) (S3.keep C) (L.trans (B3.trans (But.of C)))
 rw[Jq c3];refine zr ⟨_,rfl,_,rfl,_,rfl,bk,_,rfl,g,λp1 J j I=>?_⟩;refine⟨_,rfl,_,rfl,_,rfl,_,rfl,bk,_,_,_,rfl,rfl,SqT.of (j _ _ g),yg ae,?_⟩;obtain⟨kv,aT,aN⟩:=qw (tk j) (J8 vb);refine⟨l,r,fr,er,ps,N,bs[v],kv,rfl,Z.keep j,ok,az.tups (Tups.of j),aN,ab kv (Jz aT),λy H4 dy S4 B4=>?_⟩;have ad:=KpM.butA B4 (Z.keep j) S4;refine⟨by show 1<=sizeLine;decide,λp2 aP=>?_⟩;have B:=zD aP (.tup [y]);refine⟨p1,p2,_,_,rfl,rfl,B _ _ (ad.tup _ _ I),zB,?_,λp3 H6 s6 h6=>?_⟩
 ·rw[yo _ v (by lia),JC,JM];show _+1<=_;lia
 refine⟨_,rfl,_,rfl,_,_,rfl,rfl,_,rfl,bk,_,rfl,s6 _ _ (B _ _ (ad.tup _ _ (j _ _ g))),λp4 H7 s7 h7=>⟨p3,p4,_,_,rfl,rfl,s7 _ _ h6,h7,?_,λp5 H8 s8 h8=>?_⟩⟩
 ·rw[Jd,yo _ v (by lia),show ((v:Int)+1)=((v+1:Nat):Int) from rfl,y8 _ (v+1) (by lia),JC,Yc,JM];show _+1+_<=_;lia
 have u8:=((B.trans s6).trans s7).trans s8;have aj:=(tk j).tups ((ad.trans (KpM.same u8)).tups);refine q _ _ (.tup h8 ?_ λz hz=>?_) (S4.keep u8) (L.trans ((But.of j).trans (B4.trans (But.of u8))))
 ·rw[Jd,Jd,yo _ v (by lia),show ((v:Int)+1)=((v+1:Nat):Int) from rfl,y8 _ (v+1) (by lia),JC,Yc];show _+1+_<=_;lia
 ·rcases Ju.mp hz with e|e
  ·rcases Ju.mp e with e|e
   ·exact(dk aj z (vS e)).k
   ·rw[Js.mp e];exact(Dp.same u8 dy).k
  ·exact(dk aj z (vS e)).k
abbrev kZ:Stmt:=top 43
def oB:Sp:=λc H Q _=>∃ r fr e d N,c=[.ref r]/\Nt.Ok N/\N.lanes%2=0/\NetAt H r fr e d N/\N.lanes<=8/\N.forks.length<=13 /\
 ∀ l bs a b,Same H b->H l=none->b l=some (.lst (bs.map V.ref))->KeysAt b bs a->(∀ k∈a,OkM N k)->0<a.length->a.length<=524288->Q (.ref l) b
theorem gO {α:Type}{l:List α}(h:l≠[]):∃ x,l=l.dropLast++[x]:=⟨l.getLast h,(List.dropLast_concat_getLast h).symm⟩
theorem iM {xs:KVN}{k:KN}{b:Addr}{v:V}(h:k∉xs.map (·.1)):xN xs k b v=xs++[(k,b,v)]:=by
 unfold xN;rw[Jf λz=>h (yw.mp z)]
theorem kQ:FnScope ["_law_net_here","_law_found","_law_waiting","_law_half","_law_knot"] ["_law_net_here"] (zM kZ):=by trivial
theorem i9 {f fA:Addr}{fd dA:FuncData}(F:Fun K "_law_come_to" "_law_come_to" kZ f fd) (G:Mgs mg) (UA:Use P w K mg base "_law_after" ["_law_net_here","_law_knot"] 2 vj fA dA):FnOk P w K mg base CX0 3 f fd ["_law_net_here"] oB:=by
 refine F.ok kQ (λB H Q E h=>?_) (λa7 A outer s H B Q E hr h=>?_)
 ·obtain⟨r,fr,er,ps,N,rfl,_⟩:=h
  rfl
 obtain⟨r,fr,er,ps,N,rfl,ok,ev,na,l8,aR,k⟩:=h;refine⟨_,(@zG _ _ _ _ _ (@zY _ _ 1 _ _ _ _ kQ.nd rfl (.inl rfl) (jF hr.u3 (@zU _ _ _ _ _ (@zA _ _ _ _ _ (@zS _ _ _ _ _ _ _ _ rV (@zU _ _ _ _ _ (@zA _ _ _ _ _ zE zC (by rfl))) (@zP _ _ _ _ _ _ _ _ _ zV (by rfl) G.len JX (@zA _ _ _ _ _ (@zi _ _ _ _ _ _ _ zy (@qv _ 0 _ _ (by trivial)) zE (λ_ _=>rfl)) zC (by rfl)) (by decide) (by decide) (by rfl) (by rfl))) (@zA _ _ _ _ _ zE (@zA _ _ _ _ _ zE zC (by rfl)) (by rfl)) (by rfl))) yu) (by rfl) (by trivial)) (@zG _ _ _ _ _ (@zY _ _ 2 _ _ _ _ kQ.nd rfl (.inl rfl) (@zZ _ _ _ _ _ _ _ _ _ (uk rfl) (by rfl) G.list (by rfl) (@zA _ _ _ _ _ (@qv _ 1 _ _ (by trivial)) zC (by rfl)) (by decide) (by decide) (by rfl) (by rfl)) (by rfl) (by trivial)) (@zG _ _ _ _ _ (@qO _ _ _ _ _ _ Yz (@zp _ _ _ _ _ _ _ _ (oV hr.units0) (@qv _ 2 _ _ (by trivial)) (@yO _ _ _ _ zC) (yC _)) (@zK _ _ _ (@xa _ _ _ _ _ _ _ _ Yz rfl (@vm _ _ _ _ (@zi _ _ _ _ _ _ _ zy (@zL _ _ _ _ _ _ _ _ _ _ _ _ _ _ _ _ UA.ok hr (by rfl) UA.m UA.kp UA.b .nil zW (@zA _ _ _ _ _ (@qv _ 0 _ _ (by trivial)) (@zA _ _ _ _ _ (@fq _ _ _ _ _ _ _ _ _ YS PySem.F.slot_list_pop PySem.F.type_list_pop eK (@qv _ 2 _ _ (by trivial)) (by rfl) (by rfl)) zC (by rfl)) (by rfl)) (by decide) (by rfl) (by rfl)) zE (λ_ _=>rfl))) (@yW _ _ _ _ _ _ rfl (@zQ _ _ _ _ _ (@zN _ _ 3 _ kQ.nd rfl (.inl rfl) (by trivial)) (@zQ _ _ _ _ _ (@zN _ _ 4 _ kQ.nd rfl (.inl rfl) (by trivial)) yJ (by rfl)) (by rfl)) (by rfl) (by rfl)) (@zK _ _ _ (@ya _ _ _ _ _ _ _ _ (@oS _ _ _ _ _ _ (vK hr.u3 (@qv _ 4 _ _ (by trivial)) (@qv _ 1 _ _ (by trivial))) (by rfl)) (@zG _ _ _ _ _ (ie hr.u3 (@qv _ 1 _ _ (by trivial)) (@qv _ 4 _ _ (by trivial)) yu (by rfl)) (@zK _ _ _ (@wp _ _ _ _ (@tR _ _ _ _ _ _ _ _ _ _ _ _ YS Zm Zn xB (@qv _ 2 _ _ (by trivial)) (@zA _ _ _ _ _ (@qv _ 4 _ _ (by trivial)) zC (by rfl)) (by rfl) (by rfl) (by rfl) (by rfl) (by rfl)) (by rfl)))) zw)) (by intro _;rfl)))) (@zK _ _ _ (@zT _ _ _ _ (@zZ _ _ _ _ _ _ _ _ _ (uk rfl) (by rfl) G.list (by rfl) (@zA _ _ _ _ _ (@qv _ 1 _ _ (by trivial)) zC (by rfl)) (by decide) (by decide) (by rfl) (by rfl))))))),?_⟩;have fm:=ok.fm;have pl:=na.prs.len;refine λd ak=>?_;have s1:=zD ak (DN P w d []);refine⟨by show 1<=sizeLine;decide,λt0 aP=>?_⟩;have s2:=zD aP (.tup [.int 0]);have v2:=s1.trans s2;refine⟨_,rfl,r,_,_,_,rfl,rfl,SqT.of (v2 _ _ na.net),rfl,fr,ps,rfl,.inr (SqT.of (v2 _ _ na.forks)),t0,_,ps.length,rfl,rfl,zB,by lia,λt J U ht=>⟨by show 3<=sizeLine;decide,λi aQ=>?_⟩⟩;have s4:=zD aQ (.tup [.ref t,.int 0,.int 0]);have k4:NKey (L2.upd J i (.tup [.ref t,.int 0,.int 0])) (k0M N) i:=uo (is:=[0,0]) zB (s4 _ _ (by rw[ht,pl];exact JV (λz=>some (HO.tup z)) List.map_replicate.symm));have w4:=(s2.trans U).trans s4;have I:=w4 _ _ (zB (H:=H) (a:=d) (o:=DN P w d []));refine⟨i,k0M N,rfl,I,k4,?_⟩;refine o7 Q ?_;have tX:Tups (L2.upd J i (.tup [.ref t,.int 0,.int 0])) (L2.upd (L2.upd J i (.tup [.ref t,.int 0,.int 0])) d (DN P w d [(k0M N,i,.bl true)])):=λb xs e=>by rw[zJ (xL e I λz=>by cases z)];exact e
 have k5:=k4.tups tX;have sX:Same H (L2.upd (L2.upd J i (.tup [.ref t,.int 0,.int 0])) d (DN P w d [(k0M N,i,.bl true)])):=λb o e=>by rw[zJ (zH e ak)];exact w4 _ _ (s1 b o e)
 have M:L2.upd (L2.upd J i (.tup [.ref t,.int 0,.int 0])) d (DN P w d [(k0M N,i,.bl true)]) d=some (DN P w d [(k0M N,i,.bl true)]):=zB;show qL _ _ _ _ (L2.upd (L2.upd J i (.tup [.ref t,.int 0,.int 0])) d (DN P w d [(k0M N,i,.bl true)]));generalize L2.upd (L2.upd J i (.tup [.ref t,.int 0,.int 0])) d (DN P w d [(k0M N,i,.bl true)])=H5 at *;clear tX I w4 k4 s4 aQ U ht v2 s2 aP s1;refine⟨_,rfl,d,_,rfl,M,λlw Z=>?_⟩;have s6:=zD Z (.lst [.ref i]);have ad:d≠lw:=zH M Z;have ax:H lw=none:=sX.free Z;have q:=s6 _ _ M;have v:L2.upd H5 lw (.lst [.ref i]) lw=some (.lst ([i].map V.ref)):=zB;have k6:=k5.tups (Tups.of s6);have u6:=sX.trans s6;have o0:OkM N (k0M N):=eI ok;refine o7 Q ?_;show qL _ _ _ _ (L2.upd H5 lw (.lst [.ref i]));generalize L2.upd H5 lw (.lst [.ref i])=n at *;clear s6 M k5 sX Z
 let Iv:Nat->St->Hp->Prop:=λm σ H2=>∃ xs O ks v3 v4,σ=[some (.ref r),some (.ref d),some (.ref lw),v3,v4]/\Same H H2/\H2 d=some (DN P w d xs)/\KsIn H2 xs/\(xs.map (·.1)).Nodup/\(∀ k∈xs.map (·.1),OkM N k)/\0<xs.length/\H2 lw=some (.lst (O.map V.ref))/\KeysAt H2 O ks/\(∀ k∈ks,OkM N k)/\O.length<=xs.length/\m=(524288-xs.length)*3+O.length
 refine⟨Iv,⟨_,[(k0M N,i,.bl true)],[i],[k0M N],none,none,rfl,u6,q,λx hx=>by rw[Js.mp hx];exact k6,JP.mpr ⟨Jc,List.nodup_nil⟩,λk W=>by rw[Js.mp W];exact o0,Nat.zero_lt_one,v,.cons k6 .nil,λk W=>by rw[Js.mp W];exact o0,Je _,rfl⟩,?_⟩;clear q v k6 u6 n H5 i;rintro m σ H2 ⟨xs,O,ks,v3,v4,rfl,s2,hd,kx,nd,ab,xp,hl,ku,ar,ux,em⟩;have xl:=nR l8 aR nd ab;rw[Jg]at xl;have aS:=Yw ku;refine⟨_,rfl,(by show 0<=sizeLine;decide),λe he=>?_⟩;have U:=zD he (.lst []);refine⟨lw,e,O.map V.ref,rfl,rfl,SqL.of (U _ _ hl),SqL.of zB,_,rfl,?_⟩;have am:=U _ _ hd;have T:=U _ _ hl;have af:=kx.tups (Tups.of U);have aN:=ku.tups (Tups.of U);have u3:=s2.trans U;generalize L2.upd H2 e (.lst [])=J at *;clear U he hd hl kx ku s2 H2;by_cases un:O=[]
 ·rw[show (!(O.map V.ref).isEmpty)=false by rw[un];rfl]
  refine zr ⟨_,rfl,d,xs,rfl,am,λp hp=>?_⟩;have s8:=zD hp (.lst (xs.map λp=>.ref p.2.1));have a5:(xs.map λp=>V.ref p.2.1)=(xs.map λp=>p.2.1).map V.ref:=by rw[Zs];rfl
  exact k p _ _ _ (u3.trans s8) (u3.free hp) (by rw[<- a5];exact zB) ((cu af).tups (Tups.of s8)) ab (by rw[Jg];exact xp) (by rw[Jg];exact xl)
 rw[show (!(O.map V.ref).isEmpty)=true by cases O with
  | nil=>exact absurd rfl un
  | cons a b=>rfl]
 refine yE ⟨λao H'=>∃ m',m'<m/\Iv m' ao H',λao H' hN=>hN,?_⟩;obtain⟨u0,eu⟩:=gO un;generalize O.dropLast=B at eu;subst eu;rw[Jd]at ux em aS;change B.length+1<=_ at ux;change m=_+(B.length+1) at em;obtain⟨l,ks,rfl,kv,aO⟩:=tz aN;have av:=ar l (Jy _ (.head _));rw[JT]at T;refine⟨_,rfl,_,rfl,.inl ⟨rfl,_,SqL.of T⟩,lw,_,.ref u0,rfl,rfl,T,?_,?_⟩
 ·rw[Jd];exact List.getElem?_concat_length
 rw[show (B.map V.ref++[u0].map V.ref).dropLast=B.map V.ref from List.dropLast_concat];have R:∀ o,Tups J (L2.upd J lw (.lst o)):=λo b ys e=>by rw[zJ (xL e T λz=>by cases z)];exact e
 have I:L2.upd J lw (.lst (B.map V.ref)) d=some (DN P w d xs):=by rw[zJ ad];exact am
 have ah:L2.upd J lw (.lst (B.map V.ref)) lw=some (.lst (B.map V.ref)):=zB;have u4:Same H (L2.upd J lw (.lst (B.map V.ref))):=λb o e=>by rw[zJ (zH e ax)];exact u3 b o e
 have ay:=af.tups (R (B.map V.ref));have az:=kv.tups (R (B.map V.ref));have aL:=aO.tups (R (B.map V.ref));generalize L2.upd J lw (.lst (B.map V.ref))=H4 at *;clear R T am af kv aN u3 aO;refine⟨r,fr,er,ps,N,u0,l,rfl,ok,ev,na.tups (Tups.of u4),aL,av,λp fl acc H5 s5 ai hp hf pr=>?_⟩;have u5:=u4.trans s5;have M:=s5 _ _ I;have aY:=s5 _ _ ah;have aU:=ay.tups (Tups.of s5);have aW:=az.tups (Tups.of s5);have a6:=Yw pr;rw[Yv]at a6;have a4:fl≠d:=(zH I ai).symm;have a3:fl≠lw:=(zH ah ai).symm;clear I ah ay az u4 s5 ai aL;refine⟨p,_,_,_,rfl,rfl,SqT.of hp,rfl,fl,rfl,⟨_,SqL.of hf⟩,?_⟩
 refine pE (K:=K) (a:=fl) (xs:=acc) (λj σ n=>∃ c g D v3 v4,σ=[some (.ref r),some (.ref d),some (.ref lw),v3,v4]/\Same H n/\Tups H5 n/\n fl=some (.lst acc)/\n d=some (DN P w d c)/\KsIn n c/\(c.map (·.1)).Nodup/\(∀ k∈c.map (·.1),OkM N k)/\0<c.length/\n lw=some (.lst (g.map V.ref))/\KeysAt n g D/\(∀ k∈D,OkM N k)/\g.length+1<=c.length/\(524288-c.length)*3+g.length<m) ⟨xs,B,ks,_,_,rfl,u5,Tups.of (Same.refl _),hf,M,aU,nd,ab,xp,aY,aW,λk W=>ar k (YB _ W),ux,by lia⟩ (λj σ n _ z=>by
  obtain⟨_,_,_,_,_,_,_,_,z,_⟩:=z
  exact SqL.of z) ?_ ?_
 rotate_left
 ·rintro σ n ⟨c,g,D,v3,v4,rfl,u6,_,_,q,C,Y,X,aa,v,S,L,aq,ae⟩
  exact⟨_,ae,c,g,D,v3,v4,rfl,u6,q,C,Y,X,aa,v,S,L,by lia,rfl⟩
 rintro j y σ n hy ⟨c,g,D,v3,v4,rfl,u6,t6,aj,q,C,Y,X,aa,v,S,L,aq,ae⟩;obtain⟨h,eh,ph,u,rfl,h1,h2⟩:=kz pr hy;refine⟨ph,_,rfl,SqT.of (t6 _ _ h1),rfl,_,_,rfl,_,_,rfl,rfl,?_⟩;have kb:=h2.tups t6;have okN:=gm ok av h;refine⟨_,rfl,_,rfl,d,u,c,_,rfl,rfl,⟨.inl q,C⟩,kb,_,rfl,?_⟩;by_cases cm:yt N l h∈c.map (·.1)
 ·rw[show (xY c (yt N l h)).isSome=true from yw.mpr cm]
  exact zr ⟨c,g,D,_,_,rfl,u6,t6,aj,q,C,Y,X,aa,v,S,L,aq,ae⟩
 rw[show (xY c (yt N l h)).isSome=false by
  cases z:(xY c (yt N l h)).isSome with
  | false=>rfl
  | true=>exact absurd (yw.mp z) cm]
 have aw:((c++[(yt N l h,u,V.bl true)]).map (·.1)).Nodup:=by
  rw[JT];exact List.nodup_append.mpr ⟨Y,JP.mpr ⟨Jc,List.nodup_nil⟩,λa ha b hb e=>cm ((show b=yt N l h from Js.mp hb) ▸ e ▸ ha)⟩
 have au:∀ k∈(c++[(yt N l h,u,V.bl true)]).map (·.1),OkM N k:=λk W=>by
  rw[JT]at W;rcases Ju.mp W with z|z
  ·exact X k z
  ·rw[Js.mp z];exact okN
 have ap:=nR l8 aR aw au;rw[Jg,Jd]at ap;change c.length+1<=_ at ap;refine yE ⟨_,rfl,_,rfl,d,u,c,_,rfl,rfl,q,C,kb,by rw[JM];lia,?_⟩;rw[iM cm];have R:Tups n (L2.upd n d (DN P w d (c++[(yt N l h,u,.bl true)]))):=λb ys e=>by rw[zJ (xL e q λz=>by cases z)];exact e
 have a0:L2.upd n d (DN P w d (c++[(yt N l h,u,.bl true)])) d=some (DN P w d (c++[(yt N l h,u,.bl true)])):=zB;have ag:L2.upd n d (DN P w d (c++[(yt N l h,u,.bl true)])) lw=some (.lst (g.map V.ref)):=by rw[zJ ad.symm];exact v
 have aZ:L2.upd n d (DN P w d (c++[(yt N l h,u,.bl true)])) fl=some (.lst acc):=by rw[zJ a4];exact aj
 have u7:Same H (L2.upd n d (DN P w d (c++[(yt N l h,u,.bl true)]))):=λb o e=>by rw[zJ (zH e ak)];exact u6 b o e
 have aT:KsIn (L2.upd n d (DN P w d (c++[(yt N l h,u,.bl true)]))) (c++[(yt N l h,u,.bl true)]):=λx hx=>by
  rcases Ju.mp hx with z|z
  ·exact(C x z).tups R
  ·rw[Js.mp z];exact kb.tups R
 have aV:=S.tups R;have aX:=kb.tups R;have t7:Tups H5 (L2.upd n d (DN P w d (c++[(yt N l h,u,.bl true)]))):=λb ys e=>R _ _ (t6 b ys e);show Ends.nx _ _ (L2.upd n d (DN P w d (c++[(yt N l h,u,.bl true)])));generalize L2.upd n d (DN P w d (c++[(yt N l h,u,.bl true)]))=H7 at *;clear R q v aj u6 C S kb t6;refine⟨_,rfl,.inl ⟨rfl,_,SqL.of ag⟩,_,rfl,lw,_,_,rfl,rfl,ag,by rw[Jg,JM];lia,?_⟩;have tl:∀ o,Tups H7 (L2.upd H7 lw (.lst o)):=λo b ys e=>by rw[zJ (xL e ag λz=>by cases z)];exact e
 refine⟨c++[(yt N l h,u,.bl true)],g++[u],D++[yt N l h],_,_,rfl,λb o e=>?_,λb ys e=>tl _ _ _ (t7 b ys e),?_,?_,aT.tups (tl _),aw,au,by rw[Jd];lia,?_,Paired.snoc (aV.tups (tl _)) (aX.tups (tl _)),λk W=>?_,by rw[Jd,Jd];show g.length+1+1<=c.length+1;lia,?_⟩
 ·rw[zJ (zH e ax)];exact u7 b o e
 ·rw[zJ a3];exact aZ
 ·rw[zJ ad];exact a0
 ·rw[JT];exact zB
 ·rcases Ju.mp W with z|z
  ·exact L k z
  ·rw[Js.mp z];exact okN
 ·rw[Jd,Jd]
  show (524288-(c.length+1))*3+(g.length+1)<m;lia
abbrev fH:Stmt:=top 40
abbrev kX:Stmt:=top 41
def kI (K:PySem.W.Frag):Sp:=λa H Q _=>∃ x,∃ many:Int,a=[x,.int many]/\AnyT K H x/\Q (.bl (yF many x)) H
theorem bW:FnScope ["_law_thing","_law_most"] ["_law_thing","_law_most"] (zM fH):=by trivial
theorem eA {f:Addr}{fd:FuncData}(F:Fun K "_law_whole" "_law_whole" fH f fd) (G:Mgs mg):FnOk P w K mg base CX0 1 f fd ["_law_thing","_law_most"] (kI K):=by
 refine F.ok bW (λa H Q E h=>?_) (λd A outer s H a Q E g h=>?_)
 ·obtain⟨x,many,rfl,_⟩:=h
  rfl
 obtain⟨x,many,rfl,c,k⟩:=h;refine⟨_,(@zK _ _ _ (@zT _ _ _ _ (@xb _ _ _ _ _ _ _ (@zP _ _ _ _ _ _ _ _ _ xG (by rfl) G.isi (by rfl) (@zA _ _ _ _ _ (@qv _ 0 _ _ (by trivial)) (@zA _ _ _ _ _ (@xC _ _ (.ty "int") (.type "int") _ (by rfl) G.int (by rfl) rfl (by decide) (by decide)) zC (by rfl)) (by rfl)) (by decide) (by decide) (by rfl) (by rfl)) (@xb _ _ _ _ _ _ _ (@jE _ _ _ _ (@zP _ _ _ _ _ _ _ _ _ xG (by rfl) G.isi (by rfl) (@zA _ _ _ _ _ (@qv _ 0 _ _ (by trivial)) (@zA _ _ _ _ _ (@xC _ _ (.ty "bool") (.type "bool") _ (by rfl) G.bool (by rfl) rfl (by decide) (by decide)) zC (by rfl)) (by rfl)) (by decide) (by decide) (by rfl) (by rfl))) (@wD _ _ _ _ _ (@qT _ _ _ _ _ _ _ _ _ _ _ _ gp nQ zE (@qv _ 0 _ _ (by trivial)) (@qv _ 1 _ _ (by trivial)) (by with_unfolding_all rfl))))))),?_⟩;obtain⟨t,I⟩:=c.isi;refine⟨_,rfl,_,"int",_,_,rfl,I.ty,I.int,_,rfl,?_⟩
 cases x with
 | int i =>
  refine yE ⟨_,rfl,_,"bool",_,_,rfl,I.ty,I.bool,_,rfl,_,rfl,yE ⟨_,rfl,_,_,rfl,rfl,_,rfl,?_⟩⟩;have e:yF many (.int i)=(decide (0<=i) && decide (i<many)):=rfl;rw[e]at k;by_cases z:0<=i
  ·rw[Jw z]at k ⊢
   exact yE ⟨_,rfl,_,_,rfl,rfl,k⟩
  ·rw[Jq z]at k ⊢
   exact zr k
 | bl b =>
  refine yE ⟨_,rfl,_,"bool",_,_,rfl,I.ty,I.bool,_,rfl,_,rfl,?_⟩
  exact zr k
 | non=>exact zr k
 | str z=>exact zr k
 | flt z=>exact zr k
 | byt z=>exact zr k
 | ref z=>exact zr k
 | ty z=>exact zr k
theorem bg:FnScope ["_law_net_here","_law_thing"] ["_law_net_here","_law_thing"] (zM kX):=by trivial
theorem i7 {f fW:Addr}{fd dW:FuncData}(F:Fun K "_law_is_knot" "_law_is_knot" kX f fd) (G:Mgs mg) (d:Use P w K mg base "_law_whole" ["_law_thing","_law_most"] 1 (kI K) fW dW):FnOk P w K mg base CX0 2 f fd ["_law_net_here","_law_thing"] (y9 K):=by
 refine F.ok bg (λvs H Q E h=>?_) (λad A outer s H vs Q E R h=>?_)
 ·obtain⟨r,fr,er,L,N,x,rfl,_⟩:=h
  rfl
 obtain⟨r,fr,er,L,N,x,rfl,ok,na,Y,k⟩:=h;refine⟨_,(@zG _ _ _ _ _ (@ya _ _ _ _ _ _ _ _ (PW.pt (@wn _ _ _ _ _ _ _ (@xZ _ _ _ _ (@xR _ _ _ (@zP _ _ _ _ _ _ _ _ _ xG (by rfl) G.isi (by rfl) (@zA _ _ _ _ _ (@qv _ 1 _ _ (by trivial)) (@zA _ _ _ _ _ (@xC _ _ (.ty "tuple") (.type "tuple") _ (by rfl) G.tuple (by rfl) rfl (by decide) (by decide)) zC (by rfl)) (by rfl)) (by decide) (by decide) (by rfl) (by rfl)) (by intro _;rfl))) (@wn _ _ _ _ _ _ _ (@zp _ _ _ _ _ _ _ _ tS (@zP _ _ _ _ _ _ _ _ _ zV (by rfl) G.len JX (@zA _ _ _ _ _ (@qv _ 1 _ _ (by trivial)) zC (by rfl)) (by decide) (by decide) (by rfl) (by rfl)) zE (yC _)) (@wC _ _ _ _ (@xZ _ _ _ _ (@xR _ _ _ (@zP _ _ _ _ _ _ _ _ _ xG (by rfl) G.isi (by rfl) (@zA _ _ _ _ _ (@zi _ _ _ _ _ _ _ zy (@qv _ 1 _ _ (by trivial)) zE (λ_ _=>rfl)) (@zA _ _ _ _ _ (@xC _ _ (.ty "tuple") (.type "tuple") _ (by rfl) G.tuple (by rfl) rfl (by decide) (by decide)) zC (by rfl)) (by rfl)) (by decide) (by decide) (by rfl) (by rfl)) (by intro _;rfl))))))) (@zK _ _ _ (@zT _ _ _ _ yu)) zw) (@zG _ _ _ _ _ (@ya _ _ _ _ _ _ _ _ (PW.pt (@wn _ _ _ _ _ _ _ (@zp _ _ _ _ _ _ _ _ tS (@zP _ _ _ _ _ _ _ _ _ zV (by rfl) G.len JX (@zA _ _ _ _ _ (@zi _ _ _ _ _ _ _ zy (@qv _ 1 _ _ (by trivial)) zE (λ_ _=>rfl)) zC (by rfl)) (by decide) (by decide) (by rfl) (by rfl)) (@zP _ _ _ _ _ _ _ _ _ zV (by rfl) G.len JX (@zA _ _ _ _ _ (@zi _ _ _ _ _ _ _ zy (@qv _ 0 _ _ (by trivial)) zE (λ_ _=>rfl)) zC (by rfl)) (by decide) (by decide) (by rfl) (by rfl)) (yC _)) (@wC _ _ _ _ (@xZ _ _ _ _ (@xR _ _ _ (@zP _ _ _ _ _ _ _ _ _ (xP rfl true) (by rfl) G.all (by rfl) (@zA _ _ _ _ _ (@wq _ _ _ _ none _ _ _ _ _ _ ["_law_turn"] [none] rfl (@xA _ _ _ _ (@zi _ _ _ _ _ _ _ zy (@qv _ 1 _ _ (by trivial)) zE (λ_ _=>rfl))) (CapOk.of (by kernel_rfl)) (λ_ _ _ _ _=>(@zN _ _ 0 _ (show (["_law_turn"]:List Str).Nodup from by decide +kernel) rfl (.inl rfl) (.inr rfl))) (λ_ _ _ _ _=>yx) (λ_ _ _ _ _=>(@zL _ _ _ _ _ _ _ _ _ _ _ _ _ _ _ _ d.ok R (by rfl) d.m d.kp d.b .nil zW (@zA _ _ _ _ _ (@qv _ 0 _ _ (by trivial)) (@zA _ _ _ _ _ zE zC (by rfl)) (by rfl)) (by decide) (by rfl) (by rfl))) (by intro _;rfl)) zC (by rfl)) (by decide) (by decide) (by rfl) (by rfl)) (by intro _;rfl)))))) (@zK _ _ _ (@zT _ _ _ _ yu)) zw) (@zK _ _ _ (@zT _ _ _ _ (@xb _ _ _ _ _ _ _ (@zL _ _ _ _ _ _ _ _ _ _ _ _ _ _ _ _ d.ok R (by rfl) d.m d.kp d.b .nil zW (@zA _ _ _ _ _ (@zi _ _ _ _ _ _ _ zy (@qv _ 1 _ _ (by trivial)) zE (λ_ _=>rfl)) (@zA _ _ _ _ _ (@zi _ _ _ _ _ _ _ zy (@qv _ 0 _ _ (by trivial)) zE (λ_ _=>rfl)) zC (by rfl)) (by rfl)) (by decide) (by rfl) (by rfl)) (@wD _ _ _ _ _ (@zL _ _ _ _ _ _ _ _ _ _ _ _ _ _ _ _ d.ok R (by rfl) d.m d.kp d.b .nil zW (@zA _ _ _ _ _ (@zi _ _ _ _ _ _ _ zy (@qv _ 1 _ _ (by trivial)) zE (λ_ _=>rfl)) (@zA _ _ _ _ _ (@zi _ _ _ _ _ _ _ zy (@qv _ 0 _ _ (by trivial)) zE (λ_ _=>rfl)) zC (by rfl)) (by rfl)) (by decide) (by rfl) (by rfl)))))))),?_⟩;have ab:=ok.l16;have fm:=ok.fm;have pl:=na.prs.len;obtain⟨ty,I⟩:=(Y.1.any (K:=K)).isi
 have no:∀ {xs:List V},zX H x=some xs->xs.length≠3->yn H (N.forks.length:Nat) (N.lanes:Nat) x=false:=λ{xs} e n=>by
  unfold yn;split
  ·rename_i t m n' z
   rw[e]at z;cases z;exact absurd rfl n
  ·rfl
 refine⟨_,rfl,_,"tuple",_,_,rfl,I.ty,I.tup,_,rfl,?_⟩
 cases z:zX H x with
 | none =>
  have e:yn H (N.forks.length:Nat) (N.lanes:Nat) x=false:=by unfold yn;rw[z]
  rw[e]at k
  exact yE (yE (k H (Same.refl _)))
 | some xs =>
 obtain⟨b,rfl,p⟩:=yM z;refine zr ⟨_,rfl,_,_,rfl,.inr (SqT.of p),rfl,_,rfl,?_⟩;by_cases M:xs.length=3
 rotate_left
 ·rw[no z M]at k
  rw[show (!decide (V.int ((xs.length:Nat):Int)=V.int 3))=true by rw[Jq λe=>M (by have:=V.int.inj e;lia)];rfl];exact yE (yE (k H (Same.refl _)))
 rw[show (!decide (V.int ((xs.length:Nat):Int)=V.int 3))=false by rw[Jw (show V.int ((xs.length:Nat):Int)=V.int 3 from JV V.int (by lia))];rfl]
 obtain⟨t,m,n,rfl⟩:∃ t m n,xs=[t,m,n]:=by
  match xs,M with
  | [t,m,n],_=>exact⟨t,m,n,rfl⟩
 have kv:yn H (N.forks.length:Nat) (N.lanes:Nat) (.ref b)=(yQ H (N.forks.length:Nat) 2 t && (yF (N.lanes:Nat) m && yF (N.lanes:Nat) n)):=by unfold yn;rw[z]
 rw[kv]at k;have T:∀ y∈[t,m,n],Dp H 1 y:=(Y.2 _ z).resolve_left λz=>z rfl;have Z:=(T t (.head _)).deep (K:=K);have dm:=(T m (.tail _ (.head _))).deep (K:=K);have dn:=(T n (.tail _ (.tail _ (.head _)))).deep (K:=K);obtain⟨aa,I2⟩:=Z.any.isi;refine zr ⟨_,rfl,b,_,_,_,rfl,rfl,SqT.of p,rfl,_,"tuple",_,_,rfl,I2.ty,I2.tup,_,rfl,?_⟩
 cases D:zX H t with
 | none =>
  have e2:yQ H (N.forks.length:Nat) 2 t=false:=by unfold yQ;rw[D]
  rw[e2]at k
  exact yE (k H (Same.refl _))
 | some g =>
 have e2:yQ H (N.forks.length:Nat) 2 t=(decide ((g.length:Int)=(N.forks.length:Nat)) && g.all (yF 2)):=by unfold yQ;rw[D]
 rw[e2]at k;obtain⟨a,rfl,S⟩:=yM D;obtain⟨tl,U⟩:=Z.2 _ D;refine zr ?_;refine⟨_,rfl,b,_,_,_,rfl,rfl,SqT.of p,rfl,a,_,rfl,.inr (SqT.of S),_,rfl,r,_,_,_,rfl,rfl,SqT.of na.net,rfl,fr,L,rfl,.inr (SqT.of na.forks),rfl,_,rfl,?_⟩;show if (!decide (V.int ((g.length:Nat):Int)=V.int ((L.length:Nat):Int)))=true then _ else _;rw[pl];by_cases lm:(g.length:Int)=(N.forks.length:Nat)
 rotate_left
 ·rw[Jq lm]at k
  rw[Jq λe=>lm (V.int.inj e)];exact yE (yE (k H (Same.refl _)))
 rw[Jw lm]at k;rw[Jw (JV V.int lm)];refine zr ⟨_,rfl,b,_,_,_,rfl,rfl,SqT.of p,rfl,a,rfl,⟨_,SqT.of S⟩,λl X=>?_⟩;refine vO (K:=K) (a:=a) (xs:=g) (λi acc σ u=>(∃ v,σ=[v])/\Same H u/\u l=some (.lst acc)/\acc=((g.take i).map (yF 2)).map V.bl) ⟨⟨_,rfl⟩,zD X _,zB,rfl⟩ (λi acc σ u q=>⟨q.2.2.1,SqT.of (q.2.1 _ _ S)⟩) ?_ ?_
 ·rintro i y acc σ u O ⟨⟨v,rfl⟩,j,J,rfl⟩
  have W:=(J9.mp O).1;refine⟨_,rfl,y,2,rfl,AnyT.same j (U y (Jz O)),?_⟩;refine⟨J,?_,nx W ⟨⟨_,rfl⟩,λc o e=>?_,zB,?_⟩⟩
  ·rw[Jg,Jg,JC,JM];lia
  ·rw[zJ (zH e X)];exact j c o e
  ·rw[JZ W,JT,JT,(J9.mp O).2];rfl
 rintro acc σ u ⟨⟨v,rfl⟩,j,J,rfl⟩;rw[Yb]at J;refine⟨l,g.map (yF 2),rfl,.inl (.inl J),_,rfl,?_⟩;have ea:(g.map (yF 2)).all id=g.all (yF 2):=by rw[List.all_map];rfl
 rw[ea];rw[W0]at k
 cases al:g.all (yF 2) with
 | false =>
  rw[al]at k
  exact yE (k _ j)
 | true =>
 rw[al,W0]at k;have C:=j _ _ p;have B:=j _ _ na.net;refine zr ⟨_,rfl,b,_,_,_,rfl,rfl,SqT.of C,rfl,_,rfl,r,_,_,_,rfl,rfl,SqT.of B,rfl,m,_,rfl,AnyT.same j dm.any,_,rfl,?_⟩
 cases bm:yF (N.lanes:Nat) m with
 | false =>
  rw[bm]at k
  exact zr (k _ j)
 | true =>
 rw[bm,W0]at k;exact yE ⟨_,rfl,b,_,_,_,rfl,rfl,SqT.of C,rfl,_,rfl,r,_,_,_,rfl,rfl,SqT.of B,rfl,n,_,rfl,AnyT.same j dn.any,k _ j⟩
abbrev kY:Stmt:=top 42
theorem kR:FnScope ["_law_net_here","_law_thing","_law_known","_law_knot","_law_right","_law_some"] ["_law_net_here","_law_thing"] (zM kY):=by trivial
theorem i8 {f fN fA:Addr}{fd dN dA:FuncData}(F:Fun K "_law_is_book" "_law_is_book" kY f fd) (G:Mgs mg) (GD:MgD mg) (UN:Use P w K mg base "_law_is_knot" ["_law_net_here","_law_thing"] 2 (y9 K) fN dN) (UA:Use P w K mg base "_law_after" ["_law_net_here","_law_knot"] 2 vj fA dA):FnOk P w K mg base CX0 3 f fd ["_law_net_here","_law_thing"] (sr P w):=by
 refine F.ok kR (λvs H Q E h=>?_) (λaP A outer s H vs Q E hr h=>?_)
 ·obtain⟨r,fr,er,ps,N,x,rfl,_⟩:=h
  rfl
 obtain⟨r,fr,er,ps,N,x,rfl,ok,ev,na,ax,dx,k⟩:=h;refine⟨_,(@zG _ _ _ _ _ (@ya _ _ _ _ _ _ _ _ (PW.pt (@wn _ _ _ _ _ _ _ (@xZ _ _ _ _ (@xR _ _ _ (@zP _ _ _ _ _ _ _ _ _ sO (by rfl) G.isi (by rfl) (@zA _ _ _ _ _ (@qv _ 1 _ _ (by trivial)) (@zA _ _ _ _ _ (@xC _ _ (.ty "tuple") (.type "tuple") _ (by rfl) G.tuple (by rfl) rfl (by decide) (by decide)) zC (by rfl)) (by rfl)) (by decide) (by decide) (by rfl) (by rfl)) (by intro _;rfl))) (@wC _ _ _ _ (@xZ _ _ _ _ (@xR _ _ _ (@zP _ _ _ _ _ _ _ _ _ (xP rfl true) (by rfl) G.all (by rfl) (@zA _ _ _ _ _ (@wq _ _ _ _ none _ _ _ _ _ _ ["_law_knot","_law_net_here"] [none,some 0] rfl (@xA _ _ _ _ (@qv _ 1 _ _ (by trivial))) (CapOk.of (by kernel_rfl)) (λ_ _ _ _ _=>(@zN _ _ 0 _ (show (["_law_knot","_law_net_here"]:List Str).Nodup from by decide +kernel) rfl (.inl rfl) (.inr rfl))) (λ_ _ _ _ _=>yx) (λ_ _ _ _ _=>(@zL _ _ _ _ _ _ _ _ _ _ _ _ _ _ _ _ UN.ok hr (by rfl) UN.m UN.kp UN.b .nil zW (@zA _ _ _ _ _ (@qv _ 1 _ _ (by trivial)) (@zA _ _ _ _ _ (@qv _ 0 _ _ (by trivial)) zC (by rfl)) (by rfl)) (by decide) (by rfl) (by rfl))) (by intro _;rfl)) zC (by rfl)) (by decide) (by decide) (by rfl) (by rfl)) (by intro _;rfl)))))) (@zK _ _ _ (@zT _ _ _ _ yu)) zw) (@zG _ _ _ _ _ (@zY _ _ 2 _ _ _ _ kR.nd rfl (.inr rfl) (@zZ _ _ _ _ _ _ _ _ _ (um rfl (Nat.lt_of_le_of_lt (Nat.add_le_add_left (by decide) _) hr.units)) (by rfl) GD.dict (by rfl) (@zA _ _ _ _ _ (@wq _ _ _ _ none _ _ _ _ _ _ ["_law_knot"] [none] rfl (@xA _ _ _ _ (@qv _ 1 _ _ (by trivial))) (CapOk.of (by kernel_rfl)) (λ_ _ _ _ _=>(@zN _ _ 0 _ (show (["_law_knot"]:List Str).Nodup from by decide +kernel) rfl (.inl rfl) (.inr rfl))) (λ_ _ _ _ _=>yx) (λ_ _ _ _ _=>(@zU _ _ _ _ _ (@zA _ _ _ _ _ (@qv _ 0 _ _ (by trivial)) (@zA _ _ _ _ _ yu zC (by rfl)) (by rfl)))) (by intro _;rfl)) zC (by rfl)) (by decide) (by decide) (by rfl) (by rfl)) (by rfl) (by trivial)) (@zG _ _ _ _ _ (@ya _ _ _ _ _ _ _ _ (PW.pt (@wn _ _ _ _ _ _ _ (@zp _ _ _ _ _ _ _ _ tS (@zP _ _ _ _ _ _ _ _ _ sN (by rfl) G.len JX (@zA _ _ _ _ _ (@qv _ 2 _ _ (by trivial)) zC (by rfl)) (by decide) (by decide) (by rfl) (by rfl)) (@zP _ _ _ _ _ _ _ _ _ zV (by rfl) G.len JX (@zA _ _ _ _ _ (@qv _ 1 _ _ (by trivial)) zC (by rfl)) (by decide) (by decide) (by rfl) (by rfl)) (yC _)) (@wC _ _ _ _ (@oS _ _ _ _ _ _ (vK hr.u3 (@zU _ _ _ _ _ (@zA _ _ _ _ _ (@zS _ _ _ _ _ _ _ _ rV (@zU _ _ _ _ _ (@zA _ _ _ _ _ zE zC (by rfl))) (@zP _ _ _ _ _ _ _ _ _ zV (by rfl) G.len JX (@zA _ _ _ _ _ (@zi _ _ _ _ _ _ _ zy (@qv _ 0 _ _ (by trivial)) zE (λ_ _=>rfl)) zC (by rfl)) (by decide) (by decide) (by rfl) (by rfl))) (@zA _ _ _ _ _ zE (@zA _ _ _ _ _ zE zC (by rfl)) (by rfl)) (by rfl))) (@qv _ 2 _ _ (by trivial))) (by rfl))))) (@zK _ _ _ (@zT _ _ _ _ yu)) zw) (@zG _ _ _ _ _ (@xa _ _ _ _ _ _ _ _ Yz rfl (@xA _ _ _ _ (@qv _ 1 _ _ (by trivial))) (@zN _ _ 3 _ kR.nd rfl (.inl rfl) (by trivial)) (@zG _ _ _ _ _ (@yV _ _ _ _ _ _ (@zL _ _ _ _ _ _ _ _ _ _ _ _ _ _ _ _ UA.ok hr (by rfl) UA.m UA.kp UA.b .nil zW (@zA _ _ _ _ _ (@qv _ 0 _ _ (by trivial)) (@zA _ _ _ _ _ (@qv _ 3 _ _ (by trivial)) zC (by rfl)) (by rfl)) (by decide) (by rfl) (by rfl)) (@yW _ _ _ _ _ _ rfl (@zQ _ _ _ _ _ (@zN _ _ 4 _ kR.nd rfl (.inl rfl) (by trivial)) (@zQ _ _ _ _ _ (@zN _ _ 5 _ kR.nd rfl (.inl rfl) (by trivial)) yJ (by rfl)) (by rfl)) (by rfl) (by rfl)) (by rfl) (by rfl) (by rfl)) (@zK _ _ _ (@ya _ _ _ _ _ _ _ _ (PW.pt (@wn _ _ _ _ _ _ _ (@xZ _ _ _ _ (@xR _ _ _ (@qv _ 4 _ _ (by trivial)) (by intro _;rfl))) (@wC _ _ _ _ (@xZ _ _ _ _ (@xR _ _ _ (@zP _ _ _ _ _ _ _ _ _ (xP rfl true) (by rfl) G.all (by rfl) (@zA _ _ _ _ _ (@wq _ _ _ _ none _ _ _ (dE K 2 (pB (wF 0) (pB (wF 1) dG))) _ _ ["_law_half","_law_further","_law_known"] [none,none,some 2] rfl (@vm _ _ _ _ (@qv _ 5 _ _ (by trivial))) (CapOk.of (by kernel_rfl)) (λ_ _ _ _ _=>(@yW _ _ _ _ _ _ rfl (@zQ _ _ _ _ _ (@zN _ _ 0 _ (show (["_law_half","_law_further","_law_known"]:List Str).Nodup from by decide +kernel) rfl (.inl rfl) (.inr rfl)) (@zQ _ _ _ _ _ (@zN _ _ 1 _ (show (["_law_half","_law_further","_law_known"]:List Str).Nodup from by decide +kernel) rfl (.inl rfl) (.inr rfl)) yJ (by rfl)) (by rfl)) (by rfl) (by rfl))) (λ_ _ _ _ _=>yx) (λ_ _ _ _ _=>(@wN _ _ _ _ _ _ _ (fc P w) (jL hr.u3) (@qv _ 1 _ _ (by trivial)) (@qv _ 2 _ _ (by trivial)) (by rfl))) (by intro _;rfl)) zC (by rfl)) (by decide) (by decide) (by rfl) (by rfl)) (by intro _;rfl)))))) (@zK _ _ _ (@zT _ _ _ _ yu)) zw))) (by intro _;rfl)) (@zK _ _ _ (@zT _ _ _ _ yu)))))),?_⟩;have aN:=ok.l16;have fm:=ok.fm;have pl:=na.prs.len;obtain⟨ty,It,Iu⟩:=ax.any.isi;refine⟨_,rfl,_,"tuple",_,_,rfl,It,Iu,_,rfl,?_⟩
 cases z:zX H x with
 | none =>
  rw[z]at k
  exact yE (yE (k H (Same.refl _)))
 | some xs =>
 rw[z]at k;change ∀ O,Same H O->Q (.bl (xh (wR H (N.forks.length:Nat) (N.lanes:Nat)) xs (k0M N) [0,1] (xW N))) O at k;obtain⟨a,rfl,ha⟩:=yM z;obtain⟨xl,az⟩:=dx _ z;refine zr ⟨_,rfl,a,rfl,⟨_,SqT.of ha⟩,λl hl=>?_⟩;have s1:=zD hl (.lst []);refine vO (K:=K) (a:=a) (xs:=xs) (λi acc σ Y=>(∃ v,σ=[v,some (.ref r)])/\Same H Y/\Y l=some (.lst acc)/\acc=((xs.take i).map λy=>(wR H (N.forks.length:Nat) (N.lanes:Nat) y).isSome).map V.bl) ⟨⟨_,rfl⟩,s1,zB,rfl⟩ (λi acc σ Y q=>⟨q.2.2.1,SqT.of (q.2.1 _ _ ha)⟩) ?_ ?_
 ·rintro i y acc σ Y B ⟨⟨v,rfl⟩,I,M,rfl⟩
  have S:=(J9.mp B).1;have dy:=az y (Jz B);have kp:=KpN.same I;refine⟨_,rfl,_,rfl,r,fr,er,ps,N,y,rfl,ok,na.tups (Tups.of I),dy.kp kp,λn s3=>?_⟩;have u3:=I.trans s3;refine⟨s3 _ _ M,by rw[Jg,Jg,JC,JM];lia,nx S ⟨⟨_,rfl⟩,λc o e=>?_,zB,?_⟩⟩
  ·rw[zJ (zH e hl)];exact u3 c o e
  ·rw[JZ S,JT,JT,(J9.mp B).2,tw kp dy,<- nF];rfl
 rintro acc σ Y ⟨⟨v,rfl⟩,I,M,rfl⟩;rw[Yb]at M;refine⟨l,_,rfl,.inl (.inl M),_,rfl,?_⟩
 cases hm:xs.mapM (wR H (N.forks.length:Nat) (N.lanes:Nat)) with
 | none =>
  obtain⟨y,ym,aw⟩:=tV.mp hm;have e:(xs.map λy=>(wR H (N.forks.length:Nat) (N.lanes:Nat) y).isSome).all id=false:=List.all_eq_false.mpr ⟨false,JJ.mpr ⟨y,ym,by rw[aw];rfl⟩,by simp⟩;have zz:=k _ I;rw[x5 hm]at zz;rw[e]
  exact yE zz
 | some ss =>
 obtain⟨ae,hs⟩:=vN hm
 have e:(xs.map λy=>(wR H (N.forks.length:Nat) (N.lanes:Nat) y).isSome).all id=true:=Yt.mpr λb hb=>by
  obtain⟨y,ym,rfl⟩:=JJ.mp hb;obtain⟨i,S,ei⟩:=Yn.mp ym;obtain⟨d,_,e0⟩:=hs i y (by rw[J8 S,ei]);rw[e0];rfl
 rw[e];refine zr ?_;have W:=I _ _ ha
 have av:∀ k∈ss,OkM N k:=λk hk=>by
  obtain⟨i,S,ei⟩:=Yn.mp hk;obtain⟨d,e0,e1⟩:=hs i xs[i] (J8 (by lia));rw[J8 S,ei]at e0;cases e0;exact(vD e1).1
 have L:=λO s'=>(lY (k0:=k0M N) hm av) ▸ k O s';clear k;refine⟨_,rfl,a,rfl,⟨_,SqT.of W⟩,λl2 ao=>?_⟩;have s3:=zD ao (.lst [])
 have T:∀ {i:Nat}{y:V},xs[i]?=some y->∃ d b,ss[i]?=some d/\y=.ref b/\OkM N d/\NKey H d b:=λ{i y} B=>by
  obtain⟨d,e1,e2⟩:=hs i y B;obtain⟨o1,b,e3,kb⟩:=vD e2;exact⟨d,b,e1,e3,o1,kb⟩
 refine vO (K:=K) (a:=a) (xs:=xs) (λi acc σ n=>(∃ v,σ=[v])/\Same Y n/\n l2=some (.lst acc)/\∃ g:KVN,Paired (PrH n) acc g/\g.map (·.1)=ss.take i/\acc.length=i) ⟨⟨_,rfl⟩,s3,zB,[],.nil,rfl,rfl⟩ (λi acc σ n q=>⟨q.2.2.1,SqT.of (q.2.1 _ _ W)⟩) ?_ ?_
 ·rintro i y acc σ n B ⟨⟨v,rfl⟩,s4,C,g,pr,eq,al⟩
  have S:=(J9.mp B).1;obtain⟨d,b,es,rfl,o0,kb⟩:=T B;refine⟨_,rfl,by show 2<=sizeLine;decide,λt ht=>?_⟩;have D:=zD ht (.tup [.ref b,.bl true]);have h5:=D _ _ C;have tq:Tups _ (L2.upd (L2.upd n t (.tup [.ref b,.bl true])) l2 (.lst (acc++[.ref t]))):=Tups.lst h5;refine⟨h5,by rw[JM];lia,nx S ⟨⟨_,rfl⟩,λc o e=>?_,zB,g++[(d,b,.bl true)],Paired.snoc (xE (λx y ⟨a,h1,M,C⟩=>⟨a,h1,tq _ _ (D _ _ M),(C.tups (Tups.of D)).tups tq⟩) pr) ⟨t,rfl,tq _ _ zB,(kb.tups (Tups.of ((I.trans s4).trans D))).tups tq⟩,?_,by rw[Jd,al];rfl⟩⟩
  ·rw[zJ (zH e ao)];exact D _ _ (s4 c o e)
  ·rw[JT,eq,List.take_succ,es];rfl
 rintro acc σ n ⟨⟨v,rfl⟩,s4,C,g,pr,eq,al⟩;rw[ae,Yb]at eq;refine⟨l2,acc,g,rfl,C,pr,λq hq=>?_⟩;have af:KsIn n g:=fi pr;have D:=zD hq (DN P w q (L2.yY [] g));have ah:KsIn (L2.upd n q (DN P w q (L2.yY [] g))) (L2.yY [] g):=(qf (ps:=g) (acc:=[]) (λx hx=>(nomatch hx)) af).tups (Tups.of D);have U:L2.upd n q (DN P w q (L2.yY [] g)) q=some (DN P w q (L2.yY [] g)):=zB;obtain⟨dm,dl,dn⟩:=rq ss;have mk:(L2.yY [] g).map (·.1)=ddL ss:=by rw[lB,eq]
 rw[<- mk]at dm dl dn;rw[Jg]at dl dn;have Z:=(I.trans s4).trans D;refine o7 (λ_ _=>True) ?_;show qL _ _ _ _ (L2.upd n q (DN P w q (L2.yY [] g)));generalize L2.yY [] g=J at *;generalize L2.upd n q (DN P w q J)=H5 at *;clear D s4 s3 C pr af hq eq g W I M;have ay:=Z _ _ ha;refine⟨_,rfl,q,J,rfl,.inl U,_,rfl,a,xs,rfl,.inr (SqT.of ay),rfl,_,rfl,?_⟩;by_cases nd:ss.Nodup
 rotate_left
 ·rw[show (!decide (V.int (J.length:Nat)=V.int (xs.length:Nat)))=true from by
   rw[dX,Jq λ(e:((J.length:Nat):Int)=(xs.length:Nat))=>nd (dn.mp (by lia))];rfl]
  rw[Jq nd]at L;exact yE (yE (L _ Z))
 rw[show (!decide (V.int (J.length:Nat)=V.int (xs.length:Nat)))=false from by
   rw[dX,Jw (show ((J.length:Nat):Int)=(xs.length:Nat) by have:=dn.mpr nd;lia)];rfl]
 rw[Jw nd]at L;refine zr ?_;refine⟨by show 1<=sizeLine;decide,λt0 aj=>?_⟩;have s6:=zD aj (.tup [.int 0]);have v6:=Z.trans s6;refine⟨_,rfl,r,_,_,_,rfl,rfl,SqT.of (v6 _ _ na.net),rfl,fr,ps,rfl,.inr (SqT.of (v6 _ _ na.forks)),t0,_,ps.length,rfl,rfl,zB,by lia,λt H6 s7 ht=>⟨by show 3<=sizeLine;decide,λb0 ap=>?_⟩⟩;have s8:=zD ap (.tup [.ref t,.int 0,.int 0]);have k8:NKey (L2.upd H6 b0 (.tup [.ref t,.int 0,.int 0])) (k0M N) b0:=uo (is:=[0,0]) zB (s8 _ _ (by rw[ht,pl];exact JV (λz=>some (HO.tup z)) List.map_replicate.symm));have w8:=(s6.trans s7).trans s8;have u8:=Z.trans w8;have ak:=w8 _ _ U;have ag:=ah.tups (Tups.of w8);refine⟨_,rfl,q,b0,J,k0M N,rfl,rfl,⟨.inl ak,ag⟩,k8,_,rfl,?_⟩
 have vi:∀ t,(xY J t).isSome=decide (t∈ss):=λt=>by
  rw[Yh,decide_eq_true_iff,yw,dm]
 rw[vi];generalize L2.upd H6 b0 (.tup [.ref t,.int 0,.int 0])=H8 at *;clear s8 ap s7 ht s6 aj v6 w8 k8 U ah Z;by_cases c0:k0M N∈ss
 rotate_left
 ·rw[Jq c0]at L ⊢
  exact yE (L _ u8)
 rw[Jw c0]at L ⊢;refine zr ?_;have aq:=u8 _ _ ha;refine⟨_,rfl,a,rfl,⟨_,SqT.of aq⟩,?_⟩;refine rh (K:=K) (a:=a) (xs:=xs) (λi σ H9=>(∃ v3 v4 v5,σ=[some (.ref r),some (.ref a),some (.ref q),v3,v4,v5])/\Same H8 H9/\(ss.take i).all (wz N ss)=true) ⟨⟨_,_,_,rfl⟩,Same.refl _,rfl⟩ (λi σ H9 _ z=>SqT.of (z.2.1 _ _ aq)) ?_ ?_
 rotate_left
 ·rintro σ H9 ⟨⟨v3,v4,v5,rfl⟩,X,al⟩
  rw[ae,Yb]at al;rw[al]at L;exact L _ (u8.trans X)
 rintro i y σ H9 B ⟨⟨v3,v4,v5,rfl⟩,X,al⟩;obtain⟨d,b,es,rfl,o0,kb⟩:=T B;have u9:=u8.trans X;refine⟨_,rfl,_,rfl,r,fr,er,ps,N,b,d,rfl,ok,ev,na.tups (Tups.of u9),kb.tups (Tups.of u9),o0,λp fl acc aL R aO hp hf pr=>?_⟩;refine⟨p,_,rfl,SqT.of hp,rfl,_,_,rfl,_,_,rfl,rfl,?_⟩;have ad:=u9.trans R;have ab:=R _ _ (X _ _ ak);have aa:=ag.tups (Tups.of (X.trans R))
 have bad:wz N ss d=false->∀ O,Same H O->Q (.bl false) O:=λe O s'=>by
  have:=L O s'
  rwa [List.all_eq_false.mpr ⟨d,Jz es,by rw[e];decide⟩]at this
 refine⟨_,rfl,_,rfl,?_⟩;unfold wz at bad
 cases cr:(List.range 2).all (xM N d) with
 | false =>
  rw[cr]at bad
  exact yE (yE (bad rfl _ ad))
 | true =>
 rw[cr,W0]at bad;refine zr ⟨_,rfl,fl,rfl,⟨_,SqL.of hf⟩,λl3 am=>?_⟩;have au:=zD am (.lst []);have ar:=Yw pr;rw[Yv]at ar;refine nX (K:=K) (a:=fl) (xs:=acc) (λj ac σ u=>(∃ v0 v1,σ=[v0,v1,some (.ref q)])/\Same aL u/\u l3=some (.lst ac)/\ac=((List.range j).map λh=>decide (yt N d h∈ss)).map V.bl) ⟨⟨_,_,rfl⟩,au,zB,rfl⟩ (λj ac σ u z=>⟨z.2.2.1,SqL.of (z.2.1 _ _ hf)⟩) ?_ ?_
 ·rintro j y ac σ u ai ⟨⟨v0,v1,rfl⟩,m,C,rfl⟩
  obtain⟨h,eh,ph,bh,rfl,h1,M⟩:=kz pr ai;have jl:=(J9.mp ai).1
  obtain rfl:h=j:=by
   rw[List.getElem?_range (by lia)]at eh;exact(Jr eh).symm
  refine⟨ph,_,rfl,SqT.of (m _ _ h1),rfl,_,_,rfl,_,_,rfl,rfl,?_⟩;refine⟨_,rfl,_,rfl,q,J,rfl,⟨.inl (m _ _ ab),aa.tups (Tups.of m)⟩,.inl ⟨bh,yt N d h,rfl,M.tups (Tups.of m),?_⟩⟩;refine⟨C,by rw[Jg,Jg,Yv,JM];lia,nx jl ⟨⟨_,_,rfl⟩,λc o e=>?_,zB,?_⟩⟩
  ·rw[zJ (zH e am)];exact m c o e
  ·rw[List.range_succ,JT,JT,vi];rfl
 rintro ac σ u ⟨⟨v0,v1,rfl⟩,m,C,rfl⟩;refine⟨l3,_,rfl,.inl (.inl C),_,rfl,?_⟩;rw[ar];have ea:((List.range 2).map λh=>decide (yt N d h∈ss)).all id=(List.range 2).all λh=>decide (yt N d h∈ss):=by rw[List.all_map];rfl
 rw[ea]
 cases cs:(List.range 2).all λh=>decide (yt N d h∈ss) with
 | false =>
  rw[cs]at bad
  exact yE (bad rfl _ (ad.trans m))
 | true =>
 refine zr ⟨⟨_,_,_,rfl⟩,(X.trans R).trans m,?_⟩;rw[List.take_succ,es,List.all_append,al];show (true && (wz N ss d && true))=true;unfold wz;rw[cr,cs];rfl
abbrev oF:Stmt:=top 1
abbrev oM:Stmt:=top 2
abbrev oJ:Stmt:=top 3
def sj (K:PySem.W.Frag):Sp:=λa H Q _=>∃ x,a=[x]/\AnyT K H x/\Q (.bl (pR x)) H
def sv (K:PySem.W.Frag):Sp:=λa H Q _=>∃ x b,a=[x,.int b]/\AnyT K H x/\Q (.bl (yF b x)) H
def vh (K:PySem.W.Frag):Sp:=λa H Q _=>∃ x m,a=[x,.int m]/\AnyT K H x/\Q (.bl (vI H m x)) H
theorem be:FnScope ["thing"] ["thing"] (zM oF):=by trivial
theorem jO {f:Addr}{fd:FuncData}(F:Fun K "is_whole" "is_whole" oF f fd) (G:Mgs mg):FnOk P w K mg base CX0 1 f fd ["thing"] (sj K):=by
 refine F.ok be (λa H Q E h=>?_) (λd A outer s H a Q E e h=>?_)
 ·obtain⟨x,rfl,_⟩:=h
  rfl
 obtain⟨x,rfl,c,k⟩:=h;refine⟨_,(@zK _ _ _ (@zT _ _ _ _ (@xb _ _ _ _ _ _ _ (@zP _ _ _ _ _ _ _ _ _ xG (by rfl) G.isi (by rfl) (@zA _ _ _ _ _ (@qv _ 0 _ _ (by trivial)) (@zA _ _ _ _ _ (@xC _ _ (.ty "int") (.type "int") _ (by rfl) G.int (by rfl) rfl (by decide) (by decide)) zC (by rfl)) (by rfl)) (by decide) (by decide) (by rfl) (by rfl)) (@wD _ _ _ _ _ (@jE _ _ _ _ (@zP _ _ _ _ _ _ _ _ _ xG (by rfl) G.isi (by rfl) (@zA _ _ _ _ _ (@qv _ 0 _ _ (by trivial)) (@zA _ _ _ _ _ (@xC _ _ (.ty "bool") (.type "bool") _ (by rfl) G.bool (by rfl) rfl (by decide) (by decide)) zC (by rfl)) (by rfl)) (by decide) (by decide) (by rfl) (by rfl))))))),?_⟩;obtain⟨t,I⟩:=c.isi;refine⟨_,rfl,_,"int",_,_,rfl,I.ty,I.int,_,rfl,?_⟩
 cases x with
 | int i=>exact yE ⟨_,rfl,_,"bool",_,_,rfl,I.ty,I.bool,_,rfl,k⟩
 | bl b=>exact yE ⟨_,rfl,_,"bool",_,_,rfl,I.ty,I.bool,_,rfl,k⟩
 | non=>exact zr k
 | str z=>exact zr k
 | flt z=>exact zr k
 | byt z=>exact zr k
 | ref z=>exact zr k
 | ty z=>exact zr k
theorem bi:FnScope ["thing","bound"] ["thing","bound"] (zM oM):=by trivial
theorem jU {f g:Addr}{fd j:FuncData}(F:Fun K "is_below" "is_below" oM f fd) (G:Mgs mg) (a:Use P w K mg base "is_whole" ["thing"] 1 (sj K) g j):FnOk P w K mg base CX0 2 f fd ["thing","bound"] (sv K):=by
 refine F.ok bi (λc H Q E h=>?_) (λm A outer s H c Q E d h=>?_)
 ·obtain⟨x,b,rfl,_⟩:=h
  rfl
 obtain⟨x,b,rfl,l,k⟩:=h;refine⟨_,(@zK _ _ _ (@zT _ _ _ _ (@xb _ _ _ _ _ _ _ (@zL _ _ _ _ _ _ _ _ _ _ _ _ _ _ _ _ a.ok d (by rfl) a.m a.kp a.b .nil zW (@zA _ _ _ _ _ (@qv _ 0 _ _ (by trivial)) zC (by rfl)) (by decide) (by rfl) (by rfl)) (@wD _ _ _ _ _ (@qT _ _ _ _ _ _ _ _ _ _ _ _ gp nQ zE (@qv _ 0 _ _ (by trivial)) (@qv _ 1 _ _ (by trivial)) (by with_unfolding_all rfl)))))),?_⟩;refine⟨_,rfl,_,rfl,l,_,rfl,?_⟩
 cases x with
 | int i =>
  refine yE ⟨_,rfl,_,_,rfl,rfl,_,rfl,?_⟩;have e:yF b (.int i)=(decide (0<=i) && decide (i<b)):=rfl;rw[e]at k;by_cases z:(0:Int)<=i
  ·rw[Jw z]at k ⊢
   exact yE ⟨_,rfl,_,_,rfl,rfl,k⟩
  ·rw[Jq z]at k ⊢
   exact zr k
 | bl z=>exact zr k
 | non=>exact zr k
 | str z=>exact zr k
 | flt z=>exact zr k
 | byt z=>exact zr k
 | ref z=>exact zr k
 | ty z=>exact zr k
theorem bf:FnScope ["thing","many"] ["thing","many"] (zM oJ):=by trivial
theorem jS {f:Addr}{fd:FuncData}(F:Fun K "is_row" "is_row" oJ f fd) (G:Mgs mg):FnOk P w K mg base CX0 1 f fd ["thing","many"] (vh K):=by
 refine F.ok bf (λc H Q E h=>?_) (λi A outer s H c Q E j h=>?_)
 ·obtain⟨x,m,rfl,_⟩:=h
  rfl
 obtain⟨x,m,rfl,g,k⟩:=h;refine⟨_,(@zK _ _ _ (@zT _ _ _ _ (@xb _ _ _ _ _ _ _ (@zP _ _ _ _ _ _ _ _ _ xG (by rfl) G.isi (by rfl) (@zA _ _ _ _ _ (@qv _ 0 _ _ (by trivial)) (@zA _ _ _ _ _ (@xC _ _ (.ty "tuple") (.type "tuple") _ (by rfl) G.tuple (by rfl) rfl (by decide) (by decide)) zC (by rfl)) (by rfl)) (by decide) (by decide) (by rfl) (by rfl)) (@wD _ _ _ _ _ (@wN _ _ _ _ _ _ _ _ xg (@zP _ _ _ _ _ _ _ _ _ zV (by rfl) G.len JX (@zA _ _ _ _ _ (@qv _ 0 _ _ (by trivial)) zC (by rfl)) (by decide) (by decide) (by rfl) (by rfl)) (@qv _ 1 _ _ (by trivial)) (yC _)))))),?_⟩;obtain⟨t,I⟩:=g.isi;refine⟨_,rfl,_,"tuple",_,_,rfl,I.ty,I.tup,_,rfl,?_⟩
 cases z:zX H x with
 | none =>
  have e:vI H m x=false:=by unfold vI;rw[z]
  rw[e]at k
  exact zr k
 | some b =>
  have e:vI H m x=decide ((b.length:Int)=m):=by unfold vI;rw[z]
  rw[e]at k;obtain⟨a,rfl,d⟩:=yM z;exact yE ⟨_,rfl,a,_,rfl,.inr (SqT.of d),_,rfl,rfl,by rw[rc];exact k⟩
abbrev vH:Stmt:=top 4
def sw (K:PySem.W.Frag):Sp:=λc H Q _=>∃ x,∃ many b:Int,c=[x,.int many,.int b]/\Deep K H 1 x/\∀ a,Same H a->Q (.bl (yQ H many b x)) a
theorem nB {K:PySem.W.Frag}{H H':Hp}(s:Same H H'):∀ {n:Nat}{x:V},Deep K H n x->Deep K H' n x
 | 0,_,h=>AnyT.same s h
 | n+1,x,h=>⟨AnyT.same s h.1,λxs e=>by
  rw[kg s h.1]at e
  exact⟨(h.2 xs e).1,λy a=>nB s ((h.2 xs e).2 y a)⟩⟩
theorem br:FnScope ["thing","many","bound"] ["thing","many","bound"] (zM vH):=by trivial
theorem qW {f L M:Addr}{fd N O:FuncData}(F:Fun K "are_below" "are_below" vH f fd) (G:Mgs mg) (m:Use P w K mg base "is_row" ["thing","many"] 1 (vh K) L N) (n:Use P w K mg base "is_below" ["thing","bound"] 2 (sv K) M O):FnOk P w K mg base CX0 3 f fd ["thing","many","bound"] (sw K):=by
 refine F.ok br (λJ H Q E h=>?_) (λR A outer s H J Q E B h=>?_)
 ·obtain⟨x,many,b,rfl,_⟩:=h
  rfl
 obtain⟨x,many,b,rfl,r,k⟩:=h;have t:Room 1 _:=B.mono (by decide);refine⟨_,(@zK _ _ _ (@zT _ _ _ _ (@xb _ _ _ _ _ _ _ (@zL _ _ _ _ _ _ _ _ _ _ _ _ _ _ _ _ m.ok t (by rfl) m.m m.kp m.b .nil zW (@zA _ _ _ _ _ (@qv _ 0 _ _ (by trivial)) (@zA _ _ _ _ _ (@qv _ 1 _ _ (by trivial)) zC (by rfl)) (by rfl)) (by decide) (by rfl) (by rfl)) (@wD _ _ _ _ _ (@zP _ _ _ _ _ _ _ _ _ (xP rfl true) (by rfl) G.all (by rfl) (@zA _ _ _ _ _ (@wq _ _ _ _ none _ _ _ _ _ _ ["number","bound"] [none,some 2] rfl (@xA _ _ _ _ (@qv _ 0 _ _ (by trivial))) (CapOk.of (by kernel_rfl)) (λ_ _ _ _ _=>(@zN _ _ 0 _ (show (["number","bound"]:List Str).Nodup from by decide +kernel) rfl (.inl rfl) (.inr rfl))) (λ_ _ _ _ _=>yx) (λ_ _ _ _ _=>(@zL _ _ _ _ _ _ _ _ _ _ _ _ _ _ _ _ n.ok B (by rfl) n.m n.kp n.b .nil zW (@zA _ _ _ _ _ (@qv _ 0 _ _ (by trivial)) (@zA _ _ _ _ _ (@qv _ 1 _ _ (by trivial)) zC (by rfl)) (by rfl)) (by decide) (by rfl) (by rfl))) (by intro _;rfl)) zC (by rfl)) (by decide) (by decide) (by rfl) (by rfl)))))),?_⟩;refine⟨_,rfl,_,rfl,x,many,rfl,r.any,_,rfl,?_⟩
 cases z:zX H x with
 | none =>
  have e:vI H many x=false:=by unfold vI;rw[z]
  have e2:yQ H many b x=false:=by unfold yQ;rw[z]
  rw[e];rw[e2]at k
  exact zr (k H (Same.refl H))
 | some xs =>
  have e:vI H many x=decide ((xs.length:Int)=many):=by unfold vI;rw[z]
  have e2:yQ H many b x=(decide ((xs.length:Int)=many) && xs.all (yF b)):=by unfold yQ;rw[z]
  rw[e];rw[e2]at k;obtain⟨a,rfl,D⟩:=yM z;by_cases lm:(xs.length:Int)=many
  ·rw[Jw lm]at k ⊢
   refine yE ⟨_,rfl,a,rfl,⟨_,SqT.of D⟩,λl C=>?_⟩;refine vO (K:=K) (a:=a) (xs:=xs) (λi acc σ d=>(∃ v,σ=[v,some (.int b)])/\Same H d/\d l=some (.lst acc)/\acc=((xs.take i).map (yF b)).map V.bl) ⟨⟨_,rfl⟩,zD C _,zB,rfl⟩ (λi acc σ d q=>⟨q.2.2.1,SqT.of (q.2.1 _ _ D)⟩) ?_ ?_
   ·rintro i y acc σ d p ⟨⟨v,rfl⟩,g,j,rfl⟩
    have u:=(J9.mp p).1;refine⟨_,rfl,_,rfl,y,b,rfl,AnyT.same g (((r.2 xs z).2 y (Jz p))),?_⟩;refine⟨j,?_,nx u ⟨⟨_,rfl⟩,λc o e=>?_,zB,?_⟩⟩
    ·rw[Jg,Jg,JC];exact Nat.lt_of_le_of_lt (Nat.min_le_left _ _) (JD (show i<1000 by have:=(r.2 xs z).1;lia) (by decide))
    ·rw[zJ (zH e C)];exact g c o e
    ·have I:xs[i]=y:=(J9.mp p).2
     rw[JZ u,JT,JT,I];rfl
   ·rintro acc σ d ⟨⟨v,rfl⟩,g,j,rfl⟩
    rw[Yb]at j;refine⟨l,xs.map (yF b),rfl,SqL.of j,?_⟩;rw[List.all_map];exact k d g
  ·rw[Jq lm]at k ⊢
   exact zr (k H (Same.refl H))
abbrev rN:Stmt:=top 10
abbrev rO:Stmt:=top 17
abbrev oI:Stmt:=top 18
abbrev rL:Stmt:=top 21
theorem jg (n:Nat):List.replicate n (V.int 0)=(List.replicate n (0:Int)).map V.int:=(List.map_replicate).symm
def uI:Sp:=λb H Q _=>∃ r fr d c N,b=[.ref r]/\Nt.Ok N/\NetAt H r fr d c N/\∀ p a,Same H a->NKey a (k0M N) p->Q (.ref p) a
def vg:Sp:=λd H Q _=>∃ r fr f e N b k,∃ h:Nat,d=[.ref r,.ref b,.int (h:Nat)]/\Nt.Ok N/\N.lanes%2=0/\NetAt H r fr f e N/\NKey H k b/\OkM N k /\
 (∀ a,Same H a->xW N k h=none->Q .non a)/\(∀ a c t,Same H a->xW N k h=some t->NKey a t c->Q (.ref c) a)
def wv:LSpc:=λvals a H Q E=>∃ r b,∃ h:Nat,vals=[.ref r]/\a=[.ref b,.int (h:Nat)]/\vg [.ref r,.ref b,.int (h:Nat)] H Q E
theorem jm {H:Hp}{r fr er:Addr}{ps:List V}{N:Nt}{moves:List Nat}(ok:Nt.Ok N)(ev:N.lanes%2=0)(na:NetAt H r fr er ps N):Led wv [.ref r] (xW N) (OkM N) moves H:=λe s b m Q t os _ d c a =>
 ⟨r,b,m,rfl,rfl,r,fr,er,ps,N,b,s,m,rfl,ok,ev,na.tups t,d,os,c,a⟩
theorem bn:FnScope ["net"] ["net"] (zM rN):=by trivial
theorem mo {f:Addr}{fd:FuncData}(F:Fun K "first_turns" "first_turns" rN f fd) (G:Mgs mg):FnOk P w K mg base CX0 1 f fd ["net"] uH:=by
 refine F.ok bn (λc H Q E h=>?_) (λm A outer s H c Q E n h=>?_)
 ·obtain⟨r,fr,j,b,N,rfl,_⟩:=h
  rfl
 obtain⟨r,fr,j,b,N,rfl,ok,na,k⟩:=h;refine⟨_,(@zK _ _ _ (@zT _ _ _ _ (@zS _ _ _ _ _ _ _ _ rV (@zU _ _ _ _ _ (@zA _ _ _ _ _ zE zC (by rfl))) (@zP _ _ _ _ _ _ _ _ _ zV (by rfl) G.len JX (@zA _ _ _ _ _ (@zi _ _ _ _ _ _ _ zy (@qv _ 0 _ _ (by trivial)) zE (λ_ _=>rfl)) zC (by rfl)) (by decide) (by decide) (by rfl) (by rfl))))),?_⟩;refine⟨by show 1<=sizeLine;decide,λt g=>?_⟩;have a:=zD g (.tup [.int 0]);have e:=na.prs.len;have o:=ok.fm;refine⟨_,rfl,r,_,_,_,rfl,rfl,SqT.of (a _ _ na.net),rfl,fr,b,rfl,.inr (SqT.of (a _ _ na.forks)),t,_,b.length,rfl,rfl,zB,by lia,λp l d i=>k p l (a.trans d) ?_⟩;rw[i,jg,e]
theorem bp:FnScope ["net"] ["net"] (zM rO):=by trivial
theorem mq {f m:Addr}{fd dT:FuncData}(F:Fun K "first_knot" "first_knot" rO f fd) (a:Use P w K mg base "first_turns" ["net"] 1 uH m dT):FnOk P w K mg base CX0 2 f fd ["net"] uI:=by
 refine F.ok bp (λe H Q E h=>?_) (λn A outer s H e Q E i h=>?_)
 ·obtain⟨r,fr,d,c,N,rfl,_⟩:=h
  rfl
 obtain⟨r,fr,d,c,N,rfl,ok,na,k⟩:=h;refine⟨_,(@zK _ _ _ (@zT _ _ _ _ (@zU _ _ _ _ _ (@zA _ _ _ _ _ (@zL _ _ _ _ _ _ _ _ _ _ _ _ _ _ _ _ a.ok i (by rfl) a.m a.kp a.b .nil zW (@zA _ _ _ _ _ (@qv _ 0 _ _ (by trivial)) zC (by rfl)) (by decide) (by rfl) (by rfl)) (@zA _ _ _ _ _ zE (@zA _ _ _ _ _ zE zC (by rfl)) (by rfl)) (by rfl))))),?_⟩;refine⟨_,rfl,r,fr,d,c,N,rfl,ok,na,λt o g l=>⟨by show 3<=sizeLine;decide,λp j=>?_⟩⟩;have b:=zD j (.tup [.ref t,.int 0,.int 0]);exact k p _ (g.trans b) (uo (is:=[0,0]) (t:=t) zB (b _ _ l))
theorem rE:FnScope ["net","knot","half","turns","m","n","lanes","width","lane","onward","end"] ["net","knot","half"] (zM oI):=by trivial
theorem jR {f X:Addr}{fd Y:FuncData}(F:Fun K "knot_behind" "knot_behind" oI f fd) (j:Use P w K mg base "passed" ["net","turns","lane"] 3 (pf false) X Y):FnOk P w K mg base CX0 4 f fd ["net","knot","half"] vg:=by
 refine F.ok rE (λJ H Q E h=>?_) (λZ A outer s H J Q E T h=>?_)
 ·obtain⟨r,fr,C,x,N,b,k,h,rfl,_⟩:=h
  rfl
 obtain⟨r,fr,C,x,N,b,k,h,rfl,ok,ev,na,R,⟨d,m,n,rfl,L,bits,ml,nl⟩,M,v⟩:=h;refine⟨_,(@zG _ _ _ _ _ (@yV _ _ _ _ _ _ (@qv _ 1 _ _ (by trivial)) (@yW _ _ _ _ _ _ rfl (@zQ _ _ _ _ _ (@zN _ _ 3 _ rE.nd rfl (.inl rfl) (by trivial)) (@zQ _ _ _ _ _ (@zN _ _ 4 _ rE.nd rfl (.inl rfl) (by trivial)) (@zQ _ _ _ _ _ (@zN _ _ 5 _ rE.nd rfl (.inl rfl) (by trivial)) yJ (by rfl)) (by rfl)) (by rfl)) (by rfl) (by rfl)) (by rfl) (by rfl) (by rfl)) (@zG _ _ _ _ _ (@zY _ _ 6 _ _ _ _ rE.nd rfl (.inl rfl) (@zi _ _ _ _ _ _ _ zy (@qv _ 0 _ _ (by trivial)) zE (λ_ _=>rfl)) (by rfl) (by trivial)) (@zG _ _ _ _ _ (@zY _ _ 7 _ _ _ _ rE.nd rfl (.inl rfl) (@zS _ _ _ _ _ _ _ _ wu (@qv _ 6 _ _ (by trivial)) zE) (by rfl) (by trivial)) (@zG _ _ _ _ _ (@zY _ _ 8 _ _ _ _ rE.nd rfl (.inl rfl) (@qQ _ _ _ _ _ _ _ _ (@zp _ _ _ _ _ _ _ _ xg (@qv _ 2 _ _ (by trivial)) zE (yC _)) (@zS _ _ _ _ _ _ _ _ yh (@qv _ 4 _ _ (by trivial)) (@qv _ 7 _ _ (by trivial))) (@zS _ _ _ _ _ _ _ _ yX (@qv _ 7 _ _ (by trivial)) (@zS _ _ _ _ _ _ _ _ yh (@qv _ 5 _ _ (by trivial)) (@qv _ 7 _ _ (by trivial))))) (by rfl) (by trivial)) (@zG _ _ _ _ _ (@yV _ _ _ _ _ _ (@zL _ _ _ _ _ _ _ _ _ _ _ _ _ _ _ _ j.ok T (by rfl) j.m j.kp j.b .nil zW (@zA _ _ _ _ _ (@qv _ 0 _ _ (by trivial)) (@zA _ _ _ _ _ (@qv _ 3 _ _ (by trivial)) (@zA _ _ _ _ _ (@qv _ 8 _ _ (by trivial)) zC (by rfl)) (by rfl)) (by rfl)) (by decide) (by rfl) (by rfl)) (@yW _ _ _ _ _ _ rfl (@zQ _ _ _ _ _ (@zN _ _ 9 _ rE.nd rfl (.inl rfl) (by trivial)) (@zQ _ _ _ _ _ (@zN _ _ 10 _ rE.nd rfl (.inl rfl) (by trivial)) yJ (by rfl)) (by rfl)) (by rfl) (by rfl)) (by rfl) (by rfl) (by rfl)) (@zG _ _ _ _ _ (@ya _ _ _ _ _ _ _ _ (@zp _ _ _ _ _ _ _ _ tS (@qv _ 10 _ _ (by trivial)) (@zS _ _ _ _ _ _ _ _ yh (@zS _ _ _ _ _ _ _ _ yX (@qv _ 4 _ _ (by trivial)) (@qv _ 5 _ _ (by trivial))) (@qv _ 6 _ _ (by trivial))) (yC _)) (@zK _ _ _ (@zT _ _ _ _ vJ)) zw) (@zG _ _ _ _ _ (@ya _ _ _ _ _ _ _ _ (@zp _ _ _ _ _ _ _ _ xg (@qv _ 2 _ _ (by trivial)) zE (yC _)) (@zK _ _ _ (@zT _ _ _ _ (@zU _ _ _ _ _ (@zA _ _ _ _ _ (@qv _ 9 _ _ (by trivial)) (@zA _ _ _ _ _ (@zS _ _ _ _ _ _ _ _ yh (@zS _ _ _ _ _ _ _ _ yX (@qv _ 4 _ _ (by trivial)) zE) (@qv _ 6 _ _ (by trivial))) (@zA _ _ _ _ _ (@qv _ 5 _ _ (by trivial)) zC (by rfl)) (by rfl)) (by rfl))))) zw) (@zK _ _ _ (@zT _ _ _ _ (@zU _ _ _ _ _ (@zA _ _ _ _ _ (@qv _ 9 _ _ (by trivial)) (@zA _ _ _ _ _ (@qv _ 4 _ _ (by trivial)) (@zA _ _ _ _ _ (@zS _ _ _ _ _ _ _ _ yh (@zS _ _ _ _ _ _ _ _ yX (@qv _ 5 _ _ (by trivial)) zE) (@qv _ 6 _ _ (by trivial))) zC (by rfl)) (by rfl)) (by rfl)))))))))))),?_⟩;obtain⟨t,W,S⟩:=nE R;have l1:=ok.l1;have O:2<=N.lanes:=by lia
 have hw:((N.lanes:Nat):Int) / 2=((N.lanes / 2:Nat):Int):=rfl;refine⟨_,rfl,b,_,rfl,SqT.of W,rfl,_,_,rfl,_,_,rfl,_,_,rfl,rfl,?_⟩;refine⟨_,rfl,r,_,_,_,rfl,rfl,SqT.of na.net,rfl,?_⟩;refine⟨_,rfl,_,_,rfl,rfl,⟨by decide,by decide⟩,?_⟩;refine o7 Q ?_;refine rB (λσ I=>(∃ u v10,σ=[some (.ref r),some (.ref b),some (.int (h:Nat)),some (.ref t),some (.int (m:Nat)),some (.int (n:Nat)),some (.int (N.lanes:Nat)),some (.int ((N.lanes / 2:Nat):Int)),some (.int ((laneM N m n h:Nat):Int)),u,v10])/\I=H) ?_ λD g _=>?_
 rotate_left
 ·have B:(decide (V.int ((h:Nat):Int)=V.int 0)=true)↔h=0:=⟨λz=>by have:=V.int.inj (YR z);lia,λz=>by rw[z];exact Jw rfl⟩
  refine⟨_,rfl,rfl,_,rfl,jr (λy=>?_) (λy=>?_)⟩
  ·refine⟨_,rfl,_,rfl,_,_,rfl,rfl,by show (0:Int)<((N.lanes / 2:Nat):Int);lia,g _ _ ⟨⟨none,none,?_⟩,rfl⟩⟩
   unfold laneM;rw[Jp (B.mp y),YU];rfl
  ·refine⟨_,rfl,_,rfl,_,rfl,_,_,rfl,rfl,by show (0:Int)<((N.lanes / 2:Nat):Int);lia,_,_,rfl,rfl,g _ _ ⟨⟨none,none,?_⟩,rfl⟩⟩
   unfold laneM;rw[Jf (λz=>y (B.mpr z)),Int.natCast_add,YU];rfl
 rintro σ I ⟨⟨u,v10,rfl⟩,G⟩;rw[G];clear G;refine⟨_,rfl,_,rfl,_,rfl,r,fr,C,x,N,t,d,laneM N m n h,rfl,ok,na,S,L,bits,qt O ev m n h,λp a H1 l U i=>?_⟩;refine⟨p,_,rfl,SqT.of U,rfl,_,_,rfl,_,_,rfl,rfl,?_⟩;have st:=uC (N:=N) d m n h;refine⟨_,rfl,_,rfl,_,rfl,_,_,rfl,rfl,_,rfl,_,_,rfl,rfl,by show (0:Int)<((N.lanes:Nat):Int);lia,rfl,?_⟩;by_cases c:((passE N d (laneM N m n h):Nat):Int)=(((m:Nat):Int)+(n:Nat))%(N.lanes:Nat)
 ·rw[Jp c]at st
  refine⟨false,?_,zr ?_⟩
  ·show V.bl (!decide (V.int ((passE N d (laneM N m n h):Nat):Int)=V.int ((((m:Nat):Int)+(n:Nat))%(N.lanes:Nat))))=V.bl false
   rw[c,Jw rfl];rfl
  refine⟨_,rfl,rfl,?_⟩;by_cases z:h=0
  ·rw[Jp z]at st
   refine⟨true,by rw[z];rfl,yE ⟨_,rfl,_,rfl,_,_,rfl,rfl,_,rfl,_,_,rfl,rfl,by show (0:Int)<((N.lanes:Nat):Int);lia,_,rfl,by show 3<=sizeLine;decide,λq o=>?_⟩⟩;have e:=zD o (.tup [.ref a,.int ((((m:Nat):Int)+1)%(N.lanes:Nat)),.int (n:Nat)]);exact v _ q _ (l.trans e) st (uo (is:=[(((m:Nat):Int)+1)%(N.lanes:Nat),((n:Nat):Int)]) (t:=a) zB (e _ _ i))
  ·rw[Jf z]at st
   refine⟨false,JV V.bl (Jq λy=>z (by have:=V.int.inj y;lia)),zr ⟨_,rfl,_,rfl,_,rfl,_,_,rfl,rfl,_,rfl,_,_,rfl,rfl,by show (0:Int)<((N.lanes:Nat):Int);lia,by show 3<=sizeLine;decide,λq o=>?_⟩⟩;have e:=zD o (.tup [.ref a,.int (m:Nat),.int ((((n:Nat):Int)+1)%(N.lanes:Nat))]);exact v _ q _ (l.trans e) st (uo (is:=[((m:Nat):Int),(((n:Nat):Int)+1)%(N.lanes:Nat)]) (t:=a) zB (e _ _ i))
 ·rw[Jf c]at st
  refine⟨true,?_,yE (M _ l st)⟩;show V.bl (!decide (V.int ((passE N d (laneM N m n h):Nat):Int)=V.int ((((m:Nat):Int)+(n:Nat))%(N.lanes:Nat))))=V.bl true;rw[Jq (λz=>c (V.int.inj z))];rfl
theorem bj:FnScope ["net","thing"] ["net","thing"] (zM rL):=by trivial
theorem mn {f T U:Addr}{fd Z dB:FuncData}(F:Fun K "is_knot" "is_knot" rL f fd) (G:Mgs mg) (i:Use P w K mg base "is_row" ["thing","many"] 1 (vh K) T Z) (a:Use P w K mg base "are_below" ["thing","many","bound"] 3 (sw K) U dB):FnOk P w K mg base CX0 4 f fd ["net","thing"] (y9 K):=by
 refine F.ok bj (λM H Q E h=>?_) (λaa A outer s H M Q E q h=>?_)
 ·obtain⟨r,fr,V,D,N,x,rfl,_⟩:=h
  rfl
 obtain⟨r,fr,V,D,N,x,rfl,ok,na,J,k⟩:=h;have B:Room 1 _:=q.mono (by decide);refine⟨_,(@zK _ _ _ (@zT _ _ _ _ (@xb _ _ _ _ _ _ _ (@zL _ _ _ _ _ _ _ _ _ _ _ _ _ _ _ _ i.ok B (by rfl) i.m i.kp i.b .nil zW (@zA _ _ _ _ _ (@qv _ 1 _ _ (by trivial)) (@zA _ _ _ _ _ zE zC (by rfl)) (by rfl)) (by decide) (by rfl) (by rfl)) (@xb _ _ _ _ _ _ _ (@zL _ _ _ _ _ _ _ _ _ _ _ _ _ _ _ _ a.ok q (by rfl) a.m a.kp a.b .nil zW (@zA _ _ _ _ _ (@zi _ _ _ _ _ _ _ zy (@qv _ 1 _ _ (by trivial)) zE (λ_ _=>rfl)) (@zA _ _ _ _ _ (@zP _ _ _ _ _ _ _ _ _ zV (by rfl) G.len JX (@zA _ _ _ _ _ (@zi _ _ _ _ _ _ _ zy (@qv _ 0 _ _ (by trivial)) zE (λ_ _=>rfl)) zC (by rfl)) (by decide) (by decide) (by rfl) (by rfl)) (@zA _ _ _ _ _ zE zC (by rfl)) (by rfl)) (by rfl)) (by decide) (by rfl) (by rfl)) (@wD _ _ _ _ _ (@zL _ _ _ _ _ _ _ _ _ _ _ _ _ _ _ _ a.ok q (by rfl) a.m a.kp a.b .nil zW (@zA _ _ _ _ _ (@yI _ _ _ _ _ _ _ _ _ _ yc (@qv _ 1 _ _ (by trivial)) (@zx _ _ _ zE) yN) (@zA _ _ _ _ _ zE (@zA _ _ _ _ _ (@zi _ _ _ _ _ _ _ zy (@qv _ 0 _ _ (by trivial)) zE (λ_ _=>rfl)) zC (by rfl)) (by rfl)) (by rfl)) (by decide) (by rfl) (by rfl))))))),?_⟩;refine⟨_,rfl,x,3,rfl,J.1.any,_,rfl,?_⟩
 have no:vI H 3 x=false->yn H (N.forks.length:Nat) (N.lanes:Nat) x=false:=λe=>by
  unfold yn;split
  ·rename_i t m n z
   unfold vI at e;rw[z]at e;cases e
  ·rfl
 cases c:vI H 3 x with
 | false =>
  rw[no c]at k
  exact zr (k H (Same.refl H))
 | true =>
 refine yE ?_
 obtain⟨t,m,n,d⟩:∃ t m n,zX H x=some [t,m,n]:=by
  unfold vI at c;split at c
  ·rename_i C z
   have l:=YR c
   match C,l,z with
   | [t,m,n],_,z=>exact⟨t,m,n,z⟩
   | [],l,_=>cases l
   | [_],l,_=>cases l
   | [_,_],l,_=>cases l
   | _::_::_::_::_,l,_=>simp at l;lia
  ·cases c
 obtain⟨b,rfl,I⟩:=yM d;have v:∀ y∈[t,m,n],Dp H 1 y:=(J.2 _ d).resolve_left λz=>z rfl;have W:=(v t (.head _)).deep (K:=K);have Y:=(v m (.tail _ (.head _))).deep (K:=K);have X:=(v n (.tail _ (.tail _ (.head _)))).deep (K:=K)
 have ev:∀ j,Same H j->Q (.bl (yQ H (N.forks.length:Nat) 2 t && (yF (N.lanes:Nat) m && yF (N.lanes:Nat) n))) j:=λj s=>by
  have:=k j s;unfold yn at this;rw[d]at this;exact this
 refine⟨_,rfl,b,_,_,_,rfl,rfl,SqT.of I,rfl,?_⟩;refine⟨_,rfl,r,_,_,_,rfl,rfl,SqT.of na.net,rfl,fr,D,rfl,.inr (SqT.of na.forks),t,_,2,rfl,W,λH1 o=>⟨_,rfl,?_⟩⟩;rw[na.prs.len]
 cases L:yQ H (N.forks.length:Nat) 2 t with
 | false =>
  rw[L]at ev
  exact zr (ev H1 o)
 | true =>
 rw[L]at ev;refine yE ⟨_,rfl,_,rfl,b,_,rfl,o _ _ I,λp H2 R u=>?_⟩;have g:=o.trans R;refine⟨_,rfl,r,_,_,_,rfl,rfl,SqT.of (g _ _ na.net),rfl,.ref p,2,_,rfl,⟨⟨_,.tup u,_,rfl⟩,λC z=>?_⟩,λH3 O=>?_⟩
 ·rw[yT u]at z
  obtain rfl:=Jr z;refine⟨by show 2<=1000;decide,λy S=>?_⟩;rcases Ja.mp (show y∈[m,n] from S) with rfl|z
  ·exact(nB g Y).any
  ·rw[Js.mp z];exact(nB g X).any
 ·have e:yQ H2 2 (N.lanes:Nat) (.ref p)=(yF (N.lanes:Nat) m && yF (N.lanes:Nat) n):=by
   unfold yQ;rw[yT u];show (decide ((2:Int)=2) && (yF (N.lanes:Nat) m && (yF (N.lanes:Nat) n && true)))=_;rw[Jw rfl,W0,Bool.and_true]
  rw[e];exact ev H3 (g.trans O)
abbrev rM:Stmt:=top 11
theorem cM:FnScope ["thing","is_state","first","moves","led","known"] ["thing","is_state","first","moves","led"] (zM rM):=by trivial
theorem mj {f:Addr}{fd:FuncData}{SL L:Lam}{aj fr ak ap:List Str}{aa lsp:LSpc}(F:Fun K "is_book" "is_book" rM f fd) (G:Mgs mg) (LS:LamQ CX0 P w K mg base 4 SL aj ak aa) (LQ:LamQ CX0 P w K mg base 4 L fr ap lsp):FnOk P w K mg base CX0 6 f fd ["thing","is_state","first","moves","led"] (vF P w K SL aj aa L fr lsp):=by
 refine F.ok cM (λvs H Q E h=>?_) (λay A outer s H vs Q E hr h=>?_)
 ·obtain⟨x,fs,b0,mv,f,af,J,k0,moves,cl,vals,step,Ok,n,B,rfl,_⟩:=h
  rfl
 obtain⟨x,fs,b0,mv,f,af,J,k0,moves,cl,vals,step,Ok,n,B,rfl,eS,laS,aq,W,aw,ax,v,k⟩:=h;refine⟨_,(@zG _ _ _ _ _ (@ya _ _ _ _ _ _ _ _ (@wn _ _ _ _ _ _ _ (@xZ _ _ _ _ (@xR _ _ _ (@zP _ _ _ _ _ _ _ _ _ sO (by rfl) G.isi (by rfl) (@zA _ _ _ _ _ (@qv _ 0 _ _ (by trivial)) (@zA _ _ _ _ _ (@xC _ _ (.ty "tuple") (.type "tuple") _ (by rfl) G.tuple (by rfl) rfl (by decide) (by decide)) zC (by rfl)) (by rfl)) (by decide) (by decide) (by rfl) (by rfl)) (by intro _;rfl))) (@wC _ _ _ _ (@xZ _ _ _ _ (@xR _ _ _ (@zP _ _ _ _ _ _ _ _ _ (xP rfl true) (by rfl) G.all (by rfl) (@zA _ _ _ _ _ (@wq _ _ _ _ none _ _ _ _ _ _ ["state","is_state"] [none,some 1] rfl (@xA _ _ _ _ (@qv _ 0 _ _ (by trivial))) (CapOk.of (by kernel_rfl)) (λ_ _ _ _ _=>(@zN _ _ 0 _ (show (["state","is_state"]:List Str).Nodup from by decide +kernel) rfl (.inl rfl) (.inr rfl))) (λ_ _ _ _ _=>yx) (λ_ _ _ _ _=>(nO LS hr (@qv _ 1 _ _ (by trivial)) zW (@zA _ _ _ _ _ (@qv _ 0 _ _ (by trivial)) zC (by rfl)))) (by intro _;rfl)) zC (by rfl)) (by decide) (by decide) (by rfl) (by rfl)) (by intro _;rfl))))).pt (@zK _ _ _ (@zT _ _ _ _ yu)) zw) (@zG _ _ _ _ _ (@zY _ _ 5 _ _ _ _ cM.nd rfl (.inr rfl) (jI hr.u3 (N':=["state"]) (cap:=[none]) rfl (@xA _ _ _ _ (@qv _ 0 _ _ (by trivial))) (CapOk.of (by kernel_rfl)) (λ_ _ _ _ _=>(@zN _ _ 0 _ (show (["state"]:List Str).Nodup from by decide +kernel) rfl (.inl rfl) (.inr rfl))) (λ_ _ _ _ _=>(@qv _ 0 _ _ (by trivial))) (λ_ _ _ _ _=>yu)) (by rfl) (by trivial)) (@zG _ _ _ _ _ (@ya _ _ _ _ _ _ _ _ (@wn _ _ _ _ _ _ _ (@zp _ _ _ _ _ _ _ _ tS (@zP _ _ _ _ _ _ _ _ _ sN (by rfl) G.len JX (@zA _ _ _ _ _ (@qv _ 5 _ _ (by trivial)) zC (by rfl)) (by decide) (by decide) (by rfl) (by rfl)) (@zP _ _ _ _ _ _ _ _ _ zV (by rfl) G.len JX (@zA _ _ _ _ _ (@qv _ 0 _ _ (by trivial)) zC (by rfl)) (by decide) (by decide) (by rfl) (by rfl)) (yC _)) (@wC _ _ _ _ (@oS _ _ _ _ _ _ (vK hr.u3 (@qv _ 2 _ _ (by trivial)) (@qv _ 5 _ _ (by trivial))) (by rfl)))).pt (@zK _ _ _ (@zT _ _ _ _ yu)) zw) (@zK _ _ _ (@zT _ _ _ _ (@zP _ _ _ _ _ _ _ _ _ (xP rfl true) (by rfl) G.all (by rfl) (@zA _ _ _ _ _ (@jG _ _ _ _ _ _ none _ _ _ (ee K (kC 4)) _ _ _ _ ["state","move","known","led","moves"] [none,none,some 5,some 4,some 3] rfl (@xA _ _ _ _ (@qv _ 0 _ _ (by trivial))) (CapOk.of (by kernel_rfl)) (λ_ _ _ _ _=>(@zN _ _ 0 _ (show (["state","move","known","led","moves"]:List Str).Nodup from by decide +kernel) rfl (.inl rfl) (.inr rfl))) (λ_ _ _ _ _=>(@xA _ _ _ _ (@qv _ 4 _ _ (by trivial)))) (λ_ _ _ _ _=>(@zN _ _ 1 _ (show (["state","move","known","led","moves"]:List Str).Nodup from by decide +kernel) rfl (.inl rfl) (.inr rfl))) (λ_ _ _ _ _=>yx) (λ_ _ _ _ _=>(@wN _ _ _ _ _ _ _ (fc P w) (jL hr.u3) (nO LQ hr (@qv _ 3 _ _ (by trivial)) zW (@zA _ _ _ _ _ (@qv _ 0 _ _ (by trivial)) (@zA _ _ _ _ _ (@qv _ 1 _ _ (by trivial)) zC (by rfl)) (by rfl))) (@qv _ 2 _ _ (by trivial)) (by rfl))) (by intro _;rfl) (by intro _ _;rfl)) zC (by rfl)) (by decide) (by decide) (by rfl) (by rfl))))))),?_⟩;obtain⟨t,It,Iu⟩:=ax.isi;refine⟨_,rfl,_,"tuple",_,_,rfl,It,Iu,_,rfl,?_⟩
 cases X:zX H x with
 | none =>
  rw[X]at k
  exact yE (yE (k _ (Same.refl _)))
 | some xs =>
 obtain⟨a,rfl,ha⟩:=yM X;rw[X]at k;change ∀ H',Same H H'->Q (.bl (xh B xs k0 moves step)) H' at k;obtain⟨xl,hy⟩:=v xs X;refine zr ?_;refine⟨_,rfl,a,rfl,⟨_,SqT.of ha⟩,λl hl=>?_⟩;have sl:=zD hl (.lst []);refine vO (K:=K) (a:=a) (xs:=xs) (λj acc σ M=>(∃ I,σ=[I,some (.ref fs)])/\Same H M/\M l=some (.lst acc)/\acc=(xs.take j).map λy=>V.bl (B y).isSome) ⟨⟨_,rfl⟩,sl,zB,rfl⟩ (λj acc σ M z=>⟨z.2.2.1,SqT.of (z.2.1 _ _ ha)⟩) ?_ ?_
 ·rintro j x acc σ M v ⟨⟨I,rfl⟩,s2,h2,rfl⟩
  have jl:j<xs.length:=(J9.mp v).1;have xm:x∈xs:=Jz v;have ab:=laS.frz λb o u e=>s2 _ _ e;obtain⟨pm,cc,ct,oc,fz,tk,ad,_⟩:=ab.ex;refine⟨fs,rfl,⟨_,_,_,_,ad⟩,_,rfl,af,J,eS,ab,(hy x xm).1 _ _ ((KpN.same s2).trans (KpN.strip ab.fz)) λC s3 low=>?_⟩;have Z:=vG s3;generalize back af M C=H4 at Z ⊢;have u4:=s2.trans Z;refine⟨Z _ _ h2,by rw[Jg,JC,JM];lia,nx jl ⟨⟨_,rfl⟩,λb o e=>?_,zB,?_⟩⟩
  ·rw[zJ (zH e hl)];exact u4 b o e
  ·rw[<- W2 jl,JT,(J9.mp v).2];rfl
 rintro acc σ M ⟨⟨I,rfl⟩,s2,h2,rfl⟩;rw[Yb]at h2;refine⟨l,xs.map λy=>(B y).isSome,rfl,.inl (.inl (by rw[Zs];exact h2)),_,rfl,?_⟩
 cases hm:xs.mapM B with
 | none =>
  obtain⟨y,ym,av⟩:=tV.mp hm;have e:(xs.map λy=>(B y).isSome).all id=false:=List.all_eq_false.mpr ⟨false,JJ.mpr ⟨y,ym,by rw[av];rfl⟩,by simp⟩;have z:=k _ s2;rw[x5 hm]at z;rw[e]
  exact yE z
 | some ss =>
 obtain⟨ag,hs⟩:=vN hm
 have e:(xs.map λy=>(B y).isSome).all id=true:=Yt.mpr λb hb=>by
  obtain⟨y,ym,rfl⟩:=JJ.mp hb;obtain⟨i,il,ei⟩:=Yn.mp ym;obtain⟨p,_,e0⟩:=hs i y (by rw[J8 il,ei]);rw[e0];rfl
 rw[e];refine zr ?_;have ai:=s2 _ _ ha;refine⟨_,rfl,a,rfl,⟨_,SqT.of ai⟩,λd hd=>?_⟩;refine dZ (K:=K) (a:=a) (xs:=xs) (λj acc σ C=>(∃ I,σ=[I])/\Same M C/\C d=some (DN P w d acc)/\acc.map (·.1)=ddL (ss.take j)/\KsIn C acc/\acc.length<=j) ⟨⟨_,rfl⟩,zD hd _,zB,rfl,λx v=>(nomatch v),Y1 _⟩ (λj acc σ C z=>SqT.of (z.2.1 _ _ ai)) ?_ ?_
 ·rintro j x acc σ C v ⟨⟨I,rfl⟩,s3,h3,ek,ks,al⟩
  have jl:j<xs.length:=(J9.mp v).1;obtain⟨p,es,e0⟩:=hs j x v;obtain⟨_,b,rfl,kb⟩:=(hy x (Jz v)).2 p e0;have U:=(kb.tups (Tups.of s2)).tups (Tups.of s3);have ar:j<ss.length:=(J9.mp es).1;have tp:Tups C (L2.upd C d (DN P w d (xN acc p b (.bl true)))):=λc ys e=>by rw[zJ (xL e h3 λz=>by cases z)];exact e
  refine⟨_,rfl,b,p,rfl,h3,ks,U,by rw[JM];lia,nx jl ⟨⟨_,rfl⟩,λc o e=>?_,zB,?_,(ks.put U).tups tp,?_⟩⟩
  ·rw[zJ (zH e hd)];exact s3 c o e
  ·rw[tM,<- W2 ar,pJ,(J9.mp es).2,<- ek]
   unfold ddN;by_cases c:p∈acc.map (·.1)
   ·rw[Jp c,Jp (yw.mpr c)]
   ·rw[Jf c,Jf λz=>c (yw.mp z)]
  ·have:=wo acc p b (.bl true)
   lia
 rintro acc σ C ⟨⟨I,rfl⟩,s3,h3,ek,ks,al⟩;rw[ag,Yb]at ek;obtain⟨dm,dl,dn⟩:=rq ss;rw[<- ek]at dm dl dn;rw[Jg]at dl dn;have u3:=s2.trans s3;have ae:=u3 _ _ ha;have U:=aq.tups (Tups.of u3);have z:=k;rw[x4 hm]at z;refine⟨_,rfl,d,acc,rfl,.inl h3,_,rfl,a,xs,rfl,.inr (SqT.of ae),rfl,_,rfl,?_⟩;by_cases nd:ss.Nodup
 rotate_left
 ·rw[show (!decide (V.int (acc.length:Nat)=V.int (xs.length:Nat)))=true from by
   rw[rc,Jq λ(e:((acc.length:Nat):Int)=(xs.length:Nat))=>nd (dn.mp (by lia))];rfl]
  rw[Jq nd]at z;exact yE (yE (z _ u3))
 rw[show (!decide (V.int (acc.length:Nat)=V.int (xs.length:Nat)))=false from by
   rw[rc,Jw (show ((acc.length:Nat):Int)=(xs.length:Nat) by have:=dn.mpr nd;lia)];rfl]
 refine zr ⟨_,rfl,_,rfl,d,b0,acc,k0,rfl,rfl,⟨.inl h3,ks⟩,U,_,rfl,?_⟩
 have vi:∀ t,(xY acc t).isSome=decide (t∈ss):=λt=>by
  rw[Yh,decide_eq_true_iff,yw,dm]
 rw[vi];rw[Jw nd]at z;by_cases c0:k0∈ss
 rotate_left
 ·rw[Jq c0]at z ⊢
  exact yE (z _ u3)
 rw[Jw c0]at z ⊢;refine zr ?_
 let T:KN->Nat->Bool:=λs m=>match step s m with|none=>false|some t=>decide (t∈ss)
 let g:Nat->List Bool:=λi=>(ss.take i).flatMap λs=>moves.map (T s)
 have acl:∀ i,(g i).length<=i*16:=λi=>by
  show ((ss.take i).flatMap λs=>moves.map (T s)).length<=_
  have key:∀ rs:List KN,(rs.flatMap λs=>moves.map (T s)).length<=rs.length*16:=λrs=>by
   induction rs with
   | nil=>exact Je _
   | cons r rs ih =>
    rw[List.flatMap_cons,Jd,Jg,Ya,Nat.add_mul];lia
  have:=key (ss.take i);rw[JC]at this;lia
 refine⟨_,rfl,a,rfl,⟨_,SqT.of ae⟩,λl2 ah=>?_⟩;refine gN (K:=K) (a:=a) (xs:=xs) (Q:=λx H1=>dw (List.set (L2.wT ["thing","is_state","first","moves","led","known"] [V.ref a,V.ref fs,V.ref b0,V.ref mv,V.ref f]) 5 (some (V.ref d))) H1 λvs M=>∃ a bs,x::vs=[V.ref a]/\SqB true K M a (List.map V.bl bs)/\Q (V.bl (bs.all id)) M) (λi ac σ H4=>(∃ I N,σ=[I,N,some (.ref d),some (.ref f),some (.ref mv)])/\Same C H4/\H4 l2=some (.lst ac)/\ac=(g i).map V.bl) ⟨⟨_,_,rfl⟩,zD ah _,zB,rfl⟩ (λi ac σ H4 z=>⟨z.2.2.1,SqT.of (z.2.1 _ _ ae)⟩) ?_ ?_
 ·rintro i ac σ H4 x v ⟨⟨I,N,rfl⟩,Z,h4,rfl⟩
  have il:i<xs.length:=(J9.mp v).1;obtain⟨p,es,e0⟩:=hs i x v;obtain⟨am,b,rfl,kb⟩:=(hy x (Jz v)).2 p e0;have au:i<ss.length:=(J9.mp es).1
  have ao:g (i+1)=g i++moves.map (T p):=by
   show (ss.take (i+1)).flatMap _=_;rw[<- W2 au,List.flatMap_append,(J9.mp es).2,List.flatMap_singleton]
  have u4:=u3.trans Z;refine⟨_,rfl,mv,rfl,⟨_,(W.mv.tups (Tups.of u4)).sq⟩,?_⟩;refine nY (K:=K) (a:=mv) (zs:=moves.map λm=>V.int (m:Nat)) (λj ac σ R=>(∃ N,σ=[some (.ref b),N,some (.ref d),some (.ref f),some (.ref mv)])/\Same C R/\R l2=some (.lst ac)/\ac=(g i++(moves.take j).map (T p)).map V.bl) ⟨⟨_,rfl⟩,Z,h4,by rw[List.take_zero,List.map_nil,Yi]⟩ (λj ac σ R z=>⟨z.2.2.1,(W.mv.tups (Tups.of (u3.trans z.2.1))).sq⟩) ?_ ?_
  ·rintro j x ac σ R v ⟨⟨N,rfl⟩,Y,h5,rfl⟩
   rw[JU]at v;obtain⟨m,em,rfl⟩:=Yu.mp v;have jl:j<moves.length:=(J9.mp em).1;have u5:=u3.trans Y;have S:=W.la.frz λb o u e=>u5 _ _ e;obtain⟨pm,cc,ct,oc,fz,tk,ad,_⟩:=S.ex
   have tj:(moves.take (j+1)).map (T p)=(moves.take j).map (T p)++[T p m]:=by
    rw[<- W2 jl,JT,(J9.mp em).2];rfl
   have fin:∀ (O:Hp) (q:Bool),Same R O->q=T p m->O l2=some (.lst ((g i++(moves.take j).map (T p)).map V.bl))/\((g i++(moves.take j).map (T p)).map V.bl).length<sizeLine/\Nx (moves.map λm=>V.int (m:Nat)).length j ((∃ N,[some (V.ref b),some (V.int (m:Nat)),some (.ref d),some (.ref f),some (.ref mv)]=[some (.ref b),N,some (.ref d),some (.ref f),some (.ref mv)])/\Same C (L2.upd O l2 (.lst ((g i++(moves.take j).map (T p)).map V.bl++[V.bl q])))/\L2.upd O l2 (.lst ((g i++(moves.take j).map (T p)).map V.bl++[V.bl q])) l2=some (.lst ((g i++(moves.take j).map (T p)).map V.bl++[V.bl q]))/\(g i++(moves.take j).map (T p)).map V.bl++[V.bl q]=(g i++(moves.take (j+1)).map (T p)).map V.bl):=λO q D eq=>by
    subst eq;refine⟨D _ _ h5,?_,nx (by rw[Jg];exact jl) ⟨⟨_,rfl⟩,λb o e=>?_,zB,?_⟩⟩
    ·have:=acl i
     rw[Jg,Jd,Jg,JC,JM];lia
    ·rw[zJ (zH e ah)];exact D _ _ (Y b o e)
    ·rw[tj,<- Y7,JT (l₂:=[_])];rfl
   refine⟨f,rfl,⟨_,_,_,_,ad⟩,_,rfl,_,rfl,cl,vals,W.fr,S,W.ld _ p b m _ ((Tups.of u5).trans (uB S.fz)) am (Jz em) ((kb.tups (Tups.of u5)).tups (uB S.fz)) (λH6 s6 e low=>?_) (λH6 b' t s6 e kt low=>?_)⟩
   ·have D:=vG s6
    generalize back cl R H6=O at D ⊢;exact⟨_,rfl,d,acc,rfl,⟨.inl (D _ _ (Y _ _ h3)),ks.tups (Tups.of (Y.trans D))⟩,.inr ⟨rfl,fin O _ D (by show false=match step p m with|none=>false|some t=>decide (t∈ss);rw[e])⟩⟩
   ·have D:=vG s6
    have k7:=kt.tups (mM (H:=R) low);generalize back cl R H6=O at D k7 ⊢;exact⟨_,rfl,d,acc,rfl,⟨.inl (D _ _ (Y _ _ h3)),ks.tups (Tups.of (Y.trans D))⟩,.inl ⟨b',t,rfl,k7,fin O _ D (by rw[vi];show _=match step p m with|none=>false|some t=>decide (t∈ss);rw[e])⟩⟩
  ·rintro ac σ R ⟨⟨N,rfl⟩,Y,h5,rfl⟩
   rw[Jg,Yb]at h5 ⊢;rw[<- ao]at h5 ⊢;exact nx il ⟨⟨_,_,rfl⟩,Y,h5,rfl⟩
 ·rintro ac σ H4 ⟨⟨I,N,rfl⟩,Z,h4,rfl⟩
  rw[ag]at h4;refine⟨l2,g ss.length,rfl,.inl (.inl h4),?_⟩
  have e:(g ss.length).all id=ss.all λs=>moves.all λm=>match step s m with|none=>false|some t=>decide (t∈ss):=by
   show ((ss.take ss.length).flatMap λs=>moves.map (T s)).all id=_;rw[Yb,List.all_flatMap]
   congr 1
   funext s
   rw[List.all_map];rfl
  rw[e];exact z _ (u3.trans Z)
abbrev xk:Stmt:=top 20
theorem nU {l:List (Str × NameKind)}{x:Str}{k:NameKind}(h:l.lookup x=some k):(x,k)∈l:=by
 obtain⟨a,c,e,_⟩:=List.lookup_eq_some_iff.mp h;rw[e];exact Ju.mpr (.inr (.head _))
def eP (q:Str):Stmt->Lam
 | .Return (some (.Call _ (_::.Lambda p b s _::_) _ _)) _=>⟨p,b,s,q⟩
 | _=>⟨⟨[],[],none,[],[],none,[]⟩,.Name "" ⟨0,0,0,0⟩,zM xk,q⟩
def eQ (q:Str):Stmt->Lam
 | .Return (some (.Call _ (_::_::_::_::.Lambda p b s _::_) _ _)) _=>⟨p,b,s,q⟩
 | _=>⟨⟨[],[],none,[],[],none,[]⟩,.Name "" ⟨0,0,0,0⟩,zM xk,q⟩
def tZ (q:Str):Lam:=eP q ((yk xk).getD 0 (.Pass ⟨0,0,0,0⟩))
def uX (q:Str):Lam:=eQ q ((yk xk).getD 0 (.Pass ⟨0,0,0,0⟩))
def ot (K:PySem.W.Frag):LSpc:=λvals a H Q E=>∃ r,∃ x,vals=[.ref r]/\a=[x]/\y9 K [.ref r,x] H Q E
def uF (P:Program)(w:World)(K:PySem.W.Frag)(q:Str)(Pt:Addr):Sp:=λc H Q _=>∃ r fr e d N,∃ x,c=[.ref r,x]/\Nt.Ok N/\N.lanes%2=0/\NetAt H r fr e d N/\AnD P w H x/\(∀ a,zX H x=some a->a.length<=600000/\∀ y∈a,DpK H y)/\TabQ q Pt H /\
 ∀ b,But Pt H b->TabQ q Pt b->Q (.bl (match zX H x with|none=>false|some a=>xh (wR H (N.forks.length:Nat) (N.lanes:Nat)) a (k0M N) [0,1] (xW N))) b
theorem bb:LamScope ["knot"] ["net"] (tZ "").scope:=⟨rfl,rfl,rfl,by decide +kernel,by decide +kernel,by decide +kernel,by decide +kernel,λx a=>(show ∀ y∈(tZ "").scope.names,y.2=.free->y.1∈[("net":Str)] from by decide +kernel) _ (nU a) rfl⟩
theorem bc:LamScope ["knot","half"] ["net"] (uX "").scope:=⟨rfl,rfl,rfl,by decide +kernel,by decide +kernel,by decide +kernel,by decide +kernel,λx a=>(show ∀ y∈(uX "").scope.names,y.2=.free->y.1∈[("net":Str)] from by decide +kernel) _ (nU a) rfl⟩
theorem fw {us:List Value}(h:us.length=1):∃ u,us=[u]:=by
 match us,h with
 | [u],_=>exact⟨u,rfl⟩
theorem gw {us:List Value}(h:us.length=2):∃ u v,us=[u,v]:=by
 match us,h with
 | [u,v],_=>exact⟨u,v,rfl⟩
theorem gQ (q:Str) {f:Addr}{fd:FuncData}(a:Use P w K mg base "is_knot" ["net","thing"] 4 (y9 K) f fd):LamQ CX0 P w K mg base 4 (tZ q) ["net"] ["knot"] (ot K):=by
 refine⟨bb,λvals b H Q E h=>?_,λcl i e pm g l=>by obtain⟨u,rfl⟩:=fw e;rfl,λcl j c A outer s H vals b Q E k d fz h=>?_⟩
 ·obtain⟨r,x,_,rfl,_⟩:=h
  rfl
 obtain⟨r,x,rfl,rfl,h⟩:=h;refine⟨_,zL a.ok d (by rfl) a.m a.kp a.b .nil zW (zA (pv 1) (zA (pv 0) zC)),?_⟩;exact⟨_,rfl,_,rfl,h⟩
theorem jq (q:Str) {f:Addr}{fd:FuncData}(a:Use P w K mg base "knot_behind" ["net","knot","half"] 4 vg f fd):LamQ CX0 P w K mg base 4 (uX q) ["net"] ["knot","half"] wv:=by
 refine⟨bc,λvals d H Q E h=>?_,λcl j g pm i n=>by obtain⟨u,v,rfl⟩:=gw g;rfl,λcl l c A outer s H vals d Q E m e fz h=>?_⟩
 ·obtain⟨r,b,h,_,rfl,_⟩:=h
  rfl
 obtain⟨r,b,k,rfl,rfl,h⟩:=h;refine⟨_,zL a.ok e (by rfl) a.m a.kp a.b .nil zW (zA (pv 2) (zA (pv 0) (zA (pv 1) zC))),?_⟩;exact⟨_,rfl,_,rfl,_,rfl,h⟩
theorem j3 {sc:Scope}{l:List Str}{env:Env}(h:(sc.names.filter λy=>y.2 == .free).map (·.1)=l)(k:∀ x∈l,env.kindOf x=some .cell):∀ x,(x,NameKind.free)∈sc.names->env.kindOf x=some .cell\/env.kindOf x=some .free:=λx a =>
 .inl (k x (by rw[<- h];exact JJ.mpr ⟨_,List.mem_filter.mpr ⟨a,rfl⟩,rfl⟩))
theorem pD {sc:Scope}{x0:Str}{env:Env}(h:(sc.names.filter λy=>y.2 == .free).map (·.1)=[x0])(k0:env.kindOf x0=some .cell):∀ x,(x,NameKind.free)∈sc.names->env.kindOf x=some .cell\/env.kindOf x=some .free:=j3 h λx a=>by
 rw[Js.mp a];exact k0
theorem e7 {X:Cx}{x:Str}{i:Nat}(d:X.N[i]?=some x)(c:X.env.scope.names.lookup x=some .cell)(b:X.fn x=true):∀ p∈[(x,i)],X.N[p.2]?=some p.1/\X.env.scope.names.lookup p.1=some .cell/\X.fn p.1=true:=λp a=>by
 rw[Js.mp a];exact⟨d,c,b⟩
theorem uP {cs:List (Str × Addr)}{x:Str}(h:cs.map (·.1)=[x]):∃ c,cs=[(x,c)]:=by
 match cs,h with
 | [(y,c)],h=>exact⟨c,by rw[show y=x from (ZZ h).1]⟩
def qS:Str:=("shows_merge":Str)++(".<locals>.":Str)++("<lambda>":Str)
theorem bX:FnScope ["net","thing"] ["net","thing"] (zM xk):=by trivial
theorem md {f fB fF c Pt R:Addr}{fd dB dF:FuncData}(F:FunC K "shows_merge" "shows_merge" xk f fd c) (hH:mg "HALVES" = some (.ref R)) (sH:∀ H',SqT K H' R (zj [0,1])) (CK:CodeK K mg base c Pt) (UB:Use P w K mg base "is_book" ["thing","is_state","first","moves","led"] 6 (vF P w K (tZ qS) ["net"] (ot K) (uX qS) ["net"] wv) fB dB) (UF:Use P w K mg base "first_knot" ["net"] 2 uI fF dF):FnOk P w K mg base CX0 7 f fd ["net","thing"] (uF P w K qS Pt):=by
 refine F.ok bX (λvs H Q E h=>?_) (λA outer s H vs Q E hr h=>?_)
 ·obtain⟨r,fr,er,ps,N,x,rfl,_⟩:=h
  rfl
 obtain⟨r,fr,er,ps,N,x,rfl,ok,ev,na,ax,p,tab,k⟩:=h;refine⟨_,(@zK _ _ _ (@zT _ _ _ _ (jJ (E:=E0) UB.ok hr (by rfl) UB.m UB.kp UB.b [("net",0)] (by decide) (e7 rfl rfl rfl) (@zA _ _ _ _ _ (@qv _ 1 _ _ (by trivial)) (@zA _ _ _ _ _ (jH (fr:=["net"]) CK rfl rfl (pD (x0:="net") rfl rfl) rfl) (@zA _ _ _ _ _ (@zL _ _ _ _ _ _ _ _ _ _ _ _ _ _ _ _ UF.ok (hr.mono (by decide)) (by rfl) UF.m UF.kp UF.b .nil zW (@zA _ _ _ _ _ (@qv _ 0 _ _ (by trivial)) zC (by rfl)) (by decide) (by rfl) (by rfl)) (@zA _ _ _ _ _ (@iq _ _ (.ref R) _ _ (by rfl) @hH rfl (by decide)) (@zA _ _ _ _ _ (jH (fr:=["net"]) CK rfl rfl (pD (x0:="net") rfl rfl) rfl) zC (by rfl)) (by rfl)) (by rfl)) (by rfl)) (by rfl))))),?_⟩;have aw:=ok.l16;obtain⟨l,hP,tok⟩:=id tab;refine⟨_,rfl,l,hP,tok,λf1 aO l1 H1 ag ai az ae J ab Y=>?_⟩;have ap:=na.tups (KpN.tups (KpN.but (λb o e n=>Y b o e n) hP));refine⟨_,rfl,r,fr,er,ps,N,rfl,ok,ap,λb0 H2 I k2=>?_⟩;refine⟨l1,I _ _ J,ab.frz (λb o u e=>I _ _ e),λf2 aN l2 H3 af ah ay ad au aa X=>?_⟩;refine⟨[.ref r],rfl,λj x i v p C=>?_,λcs B av G nd ca out aj=>?_⟩
 ·match j,p,C with
  | 0,p,C=>cases p;cases C;rfl
  | j+1,p,C=>cases p
 obtain⟨c1,rfl⟩:=uP ag;obtain⟨D,rfl⟩:=uP af;obtain⟨c3,rfl⟩:=uP av;have e1:c1=c3:=Jr ((ai _ (.head _)).symm.trans (G _ (.head _)));have e3:D=c3:=Jr ((ah _ (.head _)).symm.trans (G _ (.head _)));subst e1 e3;have b1:But Pt H H1:=λb o e n=>Y b o e n;have b3:But Pt H2 H3:=λb o e n=>X b o e n;have L:But Pt H H3:=(b1.trans (But.of I)).trans b3
 have g:Same H3 B:=λb o e=>by
  rw[out b λS=>by rw[aj b S]at e;cases e];exact e
 have d:KpN H B:=(KpN.but L hP).trans (KpN.same g);have U:=na.tups d.tups;have ar:KpN H2 B:=(KpN.but b3 (I _ _ J)).trans (KpN.same g);have ak:∀ b o u,H1 b=some (.frz o u)->B b=some (.frz o u):=λb o u e=>g _ _ (X _ _ (I _ _ e) (xL (I _ _ e) (I _ _ J) λz=>by cases z))
 have O:LamRaw B f1 (tZ qS) [("net",D)]:=by
  obtain⟨pm,cd,ct,oc,fs,tk,O,M,r3,r4⟩:=ae.ex;exact⟨pm,cd,ct,oc,fs,tk,ak _ _ _ O,ak _ _ _ M,r3,r4⟩
 have M:LamRaw B f2 (uX qS) [("net",D)]:=by
  obtain⟨pm,cd,ct,oc,fs,tk,O,M,r3,r4⟩:=ad.ex;exact⟨pm,cd,ct,oc,fs,tk,g _ _ O,g _ _ M,r3,r4⟩
 have nd1:[("net":Str)].Nodup:=by decide
 have la1:=O.at_ (ws:=[.ref r]) ca nd1 nd rfl λi x c v p C=>⟨i,p,C⟩;have aq:=M.at_ (ws:=[.ref r]) ca nd1 nd rfl λi x c v p C=>⟨i,p,C⟩;have W:Way K B R f2 (uX qS) ["net"] wv [("net",D)] [.ref r] (xW N) (OkM N) [0,1] 2:=⟨.inr sH,rfl,aq,jm ok ev U,by decide,λs m t os _ e=>kF ok os e,by decide⟩
 have ao:AnyN P w K B x/\zX B x=zX H x:=by
  rcases ax with ax|⟨a,xs,rfl,e⟩
  ·exact⟨.inl (ax.kp d).any,ax.row d⟩
  ·have e4:=g _ _ (L _ _ e (xL e hP λz=>by cases z))
   exact⟨.inr ⟨a,xs,rfl,e4⟩,by rw[wB e4,wB e]⟩
 have am:=ao.2;refine⟨x,f1,b0,R,f2,[("net",D)],[.ref r],_,[0,1],[("net",D)],[.ref r],xW N,OkM N,2,wR H (N.forks.length:Nat) (N.lanes:Nat),rfl,rfl,la1,k2.tups ar.tups,W,by decide,ao.1,λxs Z=>?_,λH5 s5=>?_⟩
 ·rw[am]at Z
  obtain⟨x1,x2⟩:=p xs Z;refine⟨x1,λy ym=>⟨λH5 Q1 k5 q=>?_,λs hs=>?_⟩⟩
  ·have V:=d.trans k5
   refine⟨r,y,rfl,rfl,r,fr,er,ps,N,y,rfl,ok,U.tups k5.tups,(x2 y ym).kp V,λH6 s6=>?_⟩;rw[tw V (x2 y ym),<- nF];exact q H6 s6
  ·obtain⟨o1,b,e,kb⟩:=vD hs
   exact⟨o1,b,e,kb.tups d.tups⟩
 rw[am]
 have aL:CellsFz [("net",D)] H5:=λb S=>by
  obtain⟨o,z⟩:=ca.fz b S;exact⟨o,s5 _ _ z⟩
 have T:Same H3 (strip [("net",D)] H5):=λb o e=>by
  rw[yB λS=>by rw[aj b S]at e;cases e];exact s5 _ _ (g _ _ e)
 exact k _ (L.trans (But.of T)) (TabQ.same ⟨l2,au,aa⟩ T)
abbrev rK:Stmt:=top 6
theorem gD (n:Nat):(List.replicate n [V.int 0]).flatten=(List.replicate n (0:Int)).map V.int:=by
 induction n with
 | zero=>rfl
 | succ n ih=>rw[Y9,ZU,ih,Y9];rfl
def uG:Sp:=λb H Q _=>∃ r fr d c N,b=[.ref r]/\Nt.Ok N/\NetAt H r fr d c N/\∀ p a,Same H a->a p=some (.tup ((uV N).map V.int))->Q (.ref p) a
theorem rD:FnScope ["net","lanes","forks","ends","reached","found","one","other","layer"] ["net"] (zM rK):=by trivial
theorem mi {f:Addr}{fd:FuncData}(F:Fun K "layers" "layers" rK f fd) (G:Mgs mg):FnOk P w K mg base CX0 1 f fd ["net"] uG:=by
 refine F.ok rD (λY H Q E h=>?_) (λad A outer s H Y Q E hr h=>?_)
 ·obtain⟨r,fr,X,T,N,rfl,_⟩:=h
  rfl
 obtain⟨r,fr,X,T,N,rfl,ok,na,k⟩:=h;refine⟨_,(@zG _ _ _ _ _ (@yV _ _ _ _ _ _ (@qv _ 0 _ _ (by trivial)) (@yW _ _ _ _ _ _ rfl (@zQ _ _ _ _ _ (@zN _ _ 1 _ rD.nd rfl (.inl rfl) (by trivial)) (@zQ _ _ _ _ _ (@zN _ _ 2 _ rD.nd rfl (.inl rfl) (by trivial)) (@zQ _ _ _ _ _ (@zN _ _ 3 _ rD.nd rfl (.inl rfl) (by trivial)) yJ (by rfl)) (by rfl)) (by rfl)) (by rfl) (by rfl)) (by rfl) (by rfl) (by rfl)) (@zG _ _ _ _ _ (@zY _ _ 4 _ _ _ _ rD.nd rfl (.inl rfl) (@zS _ _ _ _ _ _ _ _ ft (@yO _ _ _ _ (@zA _ _ _ _ _ zE zC (by rfl))) (@qv _ 1 _ _ (by trivial))) (by rfl) (by trivial)) (@zG _ _ _ _ _ (@zY _ _ 5 _ _ _ _ rD.nd rfl (.inl rfl) (@yO _ _ _ _ zC) (by rfl) (by trivial)) (@zG _ _ _ _ _ (@xa _ _ _ _ _ _ _ _ Yz rfl (@xA _ _ _ _ (@qv _ 2 _ _ (by trivial))) (@yW _ _ _ _ _ _ rfl (@zQ _ _ _ _ _ (@zN _ _ 6 _ rD.nd rfl (.inl rfl) (by trivial)) (@zQ _ _ _ _ _ (@zN _ _ 7 _ rD.nd rfl (.inl rfl) (by trivial)) yJ (by rfl)) (by rfl)) (by rfl) (by rfl)) (@zG _ _ _ _ _ (@zY _ _ 8 _ _ _ _ rD.nd rfl (.inl rfl) (@zS _ _ _ _ _ _ _ _ yX zE (@zP _ _ _ _ _ _ _ _ _ (vU rfl) (by rfl) G.max (by rfl) (@zA _ _ _ _ _ (@zi _ _ _ _ _ _ _ yK (@qv _ 4 _ _ (by trivial)) (@qv _ 6 _ _ (by trivial)) (λ_ _=>rfl)) (@zA _ _ _ _ _ (@zi _ _ _ _ _ _ _ yK (@qv _ 4 _ _ (by trivial)) (@qv _ 7 _ _ (by trivial)) (λ_ _=>rfl)) zC (by rfl)) (by rfl)) (by decide) (by decide) (by rfl) (by rfl))) (by rfl) (by trivial)) (@zG _ _ _ _ _ (@yV _ _ _ _ _ _ (@qv _ 8 _ _ (by trivial)) (@wc _ _ _ _ _ _ _ (@qv _ 4 _ _ (by trivial)) (@qv _ 6 _ _ (by trivial)) xQ (by intro _;rfl)) (by rfl) (by rfl) (by rfl)) (@zG _ _ _ _ _ (@yV _ _ _ _ _ _ (@qv _ 8 _ _ (by trivial)) (@wc _ _ _ _ _ _ _ (@qv _ 4 _ _ (by trivial)) (@qv _ 7 _ _ (by trivial)) xQ (by intro _;rfl)) (by rfl) (by rfl) (by rfl)) (@zK _ _ _ (@wp _ _ _ _ (@tR _ _ _ _ _ _ _ _ _ _ _ _ YS Zm Zn xB (@qv _ 5 _ _ (by trivial)) (@zA _ _ _ _ _ (@qv _ 8 _ _ (by trivial)) zC (by rfl)) (by rfl) (by rfl) (by rfl) (by rfl) (by rfl)) (by rfl)))))) (by intro _;rfl)) (@zK _ _ _ (@zT _ _ _ _ (@zZ _ _ _ _ _ _ _ _ _ zu (by rfl) G.tuple (by rfl) (@zA _ _ _ _ _ (@qv _ 5 _ _ (by trivial)) zC (by rfl)) (by decide) (by decide) (by rfl) (by rfl)))))))),?_⟩;have l1:=ok.l1;have ab:=ok.l16;have fm:=ok.fm;have pl:=na.prs.len;have Z:((N.lanes:Nat):Int).toNat=N.lanes:=by lia
 refine⟨_,rfl,r,_,rfl,SqT.of na.net,rfl,_,_,rfl,_,_,rfl,_,_,rfl,rfl,?_⟩;refine⟨(by show 1<=sizeLine;decide),λp1 M=>?_⟩;have S:=zD M (.lst [.int 0]);refine⟨_,rfl,p1,N.lanes,_,rfl,rfl,zB,by lia,by lia,by show 1*_<=sizeLine;rw[JM];lia,λc t=>?_⟩;have R:=S.trans (zD t (.lst (List.replicate ((N.lanes:Int)).toNat [V.int 0]).flatten))
 have j:H c=none:=by
  cases z:H c with
  | none=>rfl
  | some o=>exact absurd (S _ _ z) (by rw[t];exact λw=>nomatch w)
 refine⟨(by show 0<=sizeLine;decide),λlf m=>?_⟩;have O:=R.trans (zD m (.lst []))
 have u:H lf=none:=by
  cases z:H lf with
  | none=>rfl
  | some o=>exact absurd (R _ _ z) (by rw[m];exact λw=>nomatch w)
 have d:c≠lf:=zH zB m;refine⟨_,rfl,fr,rfl,⟨_,SqT.of (O _ _ na.forks)⟩,?_⟩
 refine rh (K:=K) (a:=fr) (xs:=T) (λi σ l=>(∃ J I D,σ=[some (.ref r),some (.int N.lanes),some (.ref fr),some (.ref X),some (.ref c),some (.ref lf),J,I,D])/\Same H l/\l c=some (.lst ((lay N.lanes (N.forks.take i)).1.map V.int))/\l lf=some (.lst ((lay N.lanes (N.forks.take i)).2.map V.int)))
  ⟨⟨_,_,_,rfl⟩,O,by rw[zJ d,zB,Z,gD];rfl,zB⟩ (λi σ l _ q=>SqT.of (q.2.1 _ _ na.forks)) ?_ ?_
 ·rintro i p σ l hp ⟨⟨J,I,D,rfl⟩,v,C,B⟩
  obtain⟨a,g,rfl,L,ha⟩:=(na.prs.tups (Tups.of v)).get hp;have aa:=ok.fk g (Jz L);have ig:i<N.forks.length:=(J9.mp L).1;have ln:=uW (n:=N.lanes) i N.forks (by lia);have U:=qp (n:=N.lanes) L;generalize lay N.lanes (N.forks.take i)=st at *;refine⟨a,_,rfl,SqT.of ha,rfl,_,_,rfl,_,_,rfl,rfl,?_⟩;refine⟨_,rfl,_,rfl,c,_,_,_,rfl,rfl,SqL.of C,vV (by lia),_,rfl,_,rfl,c,_,_,_,rfl,rfl,SqL.of C,vV (by lia),_,_,rfl,_,_,rfl,rfl,?_⟩;refine⟨_,rfl,_,rfl,_,rfl,c,_,_,g.1,rfl,rfl,C,sE (by rw[Jg];lia),?_⟩;refine⟨_,rfl,_,rfl,_,rfl,c,_,_,g.2,rfl,rfl,zB,sE (by rw[List.length_set,Jg];lia),?_⟩;have W:∀ x y,L2.upd (L2.upd l c x) c y lf=some (.lst (st.2.map V.int)):=λx y=>by rw[zJ d.symm,zJ d.symm];exact B
  refine⟨_,rfl,.inl ⟨rfl,_,SqL.of (W _ _)⟩,_,rfl,lf,_,_,rfl,rfl,W _ _,by rw[Jg,ln.2];exact JD (show i<1000 by lia) (by decide),⟨_,_,_,rfl⟩,λb o e=>?_,?_,?_⟩
  ·rw[zJ (zH e u),zJ (zH e j),zJ (zH e j)];exact v b o e
  ·rw[zJ d,zB,U]
   unfold xx;rw[wm,wm];rfl
  ·rw[zB,U]
   unfold xx;rw[JT];rfl
 ·rintro σ l ⟨⟨J,I,D,rfl⟩,v,C,B⟩
  rw[pl,Yb]at B;exact⟨_,rfl,lf,_,rfl,.inl ⟨SqL.of B,λq hq=>k q _ (v.trans (zD hq _)) zB⟩⟩
abbrev oH:Stmt:=top 7
def sn:Sp:=λf H Q _=>∃ r fr e g N,f=[.ref r]/\Nt.Ok N/\NetAt H r fr e g N/\∀ d c b a,Same H a->NetAt a d c e b (y4 N)->Q (.ref d) a
theorem iX:FnScope ["net","lanes","forks","ends"] ["net"] (zM oH):=by trivial
theorem jQ {f fY:Addr}{fd dY:FuncData}(F:Fun K "plain" "plain" oH f fd) (G:Mgs mg) (M:Use P w K mg base "layers" ["net"] 1 uG fY dY):FnOk P w K mg base CX0 2 f fd ["net"] sn:=by
 refine F.ok iX (λvs H Q E h=>?_) (λaa A outer s H vs Q E hr h=>?_)
 ·obtain⟨r,fr,W,U,N,rfl,_⟩:=h
  rfl
 obtain⟨r,fr,W,U,N,rfl,ok,na,k⟩:=h;refine⟨_,(@zG _ _ _ _ _ (@yV _ _ _ _ _ _ (@qv _ 0 _ _ (by trivial)) (@yW _ _ _ _ _ _ rfl (@zQ _ _ _ _ _ (@zN _ _ 1 _ iX.nd rfl (.inl rfl) (by trivial)) (@zQ _ _ _ _ _ (@zN _ _ 2 _ iX.nd rfl (.inl rfl) (by trivial)) (@zQ _ _ _ _ _ (@zN _ _ 3 _ iX.nd rfl (.inl rfl) (by trivial)) yJ (by rfl)) (by rfl)) (by rfl)) (by rfl) (by rfl)) (by rfl) (by rfl) (by rfl)) (@zK _ _ _ (@zT _ _ _ _ (@zU _ _ _ _ _ (@zA _ _ _ _ _ (@qv _ 1 _ _ (by trivial)) (@zA _ _ _ _ _ (@zZ _ _ _ _ _ _ _ _ _ zu (by rfl) G.tuple (by rfl) (@zA _ _ _ _ _ (@wq _ _ _ _ none _ _ _ (dE K 2 (pB (wF 0) (pB (wF 1) dG))) _ _ ["layer","fork"] [none,none] rfl (@vm _ _ _ _ (@oU _ _ _ _ _ _ _ _ false false (by rfl) G.sorted (by rfl) G.zip rfl hr.units (@zA _ _ _ _ _ (@zL _ _ _ _ _ _ _ _ _ _ _ _ _ _ _ _ M.ok hr (by rfl) M.m M.kp M.b .nil zW (@zA _ _ _ _ _ (@qv _ 0 _ _ (by trivial)) zC (by rfl)) (by decide) (by rfl) (by rfl)) (@zA _ _ _ _ _ (@qv _ 2 _ _ (by trivial)) zC (by rfl)) (by rfl)) (by rfl) (by rfl) (by rfl))) (CapOk.of (by kernel_rfl)) (λ_ _ _ _ _=>(@yW _ _ _ _ _ _ rfl (@zQ _ _ _ _ _ (@zN _ _ 0 _ (show (["layer","fork"]:List Str).Nodup from by decide +kernel) rfl (.inl rfl) (.inr rfl)) (@zQ _ _ _ _ _ (@zN _ _ 1 _ (show (["layer","fork"]:List Str).Nodup from by decide +kernel) rfl (.inl rfl) (.inr rfl)) yJ (by rfl)) (by rfl)) (by rfl) (by rfl))) (λ_ _ _ _ _=>yx) (λ_ _ _ _ _=>(@qv _ 1 _ _ (by trivial))) (by intro _;rfl)) zC (by rfl)) (by decide) (by decide) (by rfl) (by rfl)) (@zA _ _ _ _ _ (@qv _ 3 _ _ (by trivial)) zC (by rfl)) (by rfl)) (by rfl)))))),?_⟩;have fm:=ok.fm;have pl:=na.prs.len;have ll:=ou N;refine⟨_,rfl,r,_,rfl,SqT.of na.net,rfl,_,_,rfl,_,_,rfl,_,_,rfl,rfl,?_⟩;refine⟨_,rfl,_,rfl,r,fr,W,U,N,rfl,ok,na,λp H1 s1 hp=>?_⟩;have z:=na.tups (Tups.of s1);refine⟨_,rfl,p,fr,_,U,rfl,SqT.of hp,SqT.of z.forks,by rw[Jg];lia,by rw[Jg];lia,λts i s2 Y=>?_⟩;have v:=z.tups (Tups.of s2);obtain⟨S,C⟩:=iI Y v.prs;rw[<- fe]at S;have low:∀ x∈ts,(dec i x).2.1<32/\(dec i x).2.2<32:=λx d=>kj ok _ (by rw[<- S];exact JJ.mpr ⟨x,d,rfl⟩);refine⟨λx=>rnk (dec i x),.inr ⟨2,by decide,λx d=>⟨?_,λy hy=>eO (C x d) (C y hy) (low x d) (low y hy)⟩⟩,λl c J pm so=>?_⟩
 ·obtain⟨t,g,rfl,V,_⟩:=C x d
  exact⟨t,_,_,rfl,V⟩
 have Z:=zD J (.lst c);have zl:c.length=N.forks.length:=by rw[pm.length_eq,Y.1,Jg];exact ll
 have ze:c.map (dec i)=sG (pz N):=vd ok (by rw[<- S];exact pm.map _) (List.pairwise_map.mpr so);have X:∀ x∈c,Trp i x (dec i x):=λx d=>C x (pm.mem_iff.mp d);refine⟨l,rfl,⟨_,SqL.of (yi J (.lst c))⟩,λI m=>?_⟩;refine nX (K:=K) (a:=l) (xs:=c) (λj acc σ n=>(∃ R O,σ=[R,O])/\Same i n/\n l=some (.lst c)/\n I=some (.lst acc)/\acc.length=j/\Prs n acc ((c.take j).map λx=>(dec i x).2)) ⟨⟨_,_,rfl⟩,Z.trans (zD m _),zD m _ _ _ (yi J (.lst c)),zB,rfl,trivial⟩ (λj acc σ n q=>⟨q.2.2.2.1,SqL.of q.2.2.1⟩) ?_ ?_
 ·rintro j x acc σ n d ⟨⟨R,O,rfl⟩,u,l4,L,al,pr⟩
  have jl:=(J9.mp d).1;obtain⟨t,g,e,V,h2⟩:=X x (Jz d);have ne:I≠l:=by rintro rfl;rw[yi J (.lst c)]at m;cases m
  have keep:Same i (upd n I (.lst (acc++[.ref g]))):=λb o e=>by rw[zJ (zH (Z b o e) m)];exact u b o e
  refine⟨t,_,e,SqT.of (u _ _ V),rfl,_,_,rfl,_,_,rfl,rfl,_,rfl,L,JD (show _<1000 by lia) (by decide),nx jl ⟨⟨_,_,rfl⟩,keep,by rw[zJ ne.symm];exact l4,zB,by simp[al],?_⟩⟩;have xe:c[j]=x:=(J9.mp d).2;rw[JZ jl,JT,xe];exact Prs.add (f:=(dec i x).2) (keep _ _ h2) (pr.tups (Tups.lst L))
 ·rintro acc σ n ⟨⟨R,O,rfl⟩,u,l4,L,al,pr⟩
  rw[Yb]at pr
  have pe:(c.map λx=>(dec i x).2)=uN N:=by
   unfold uN;rw[<- ze,Zs];rfl
  rw[pe]at pr;refine⟨I,_,rfl,.inl ⟨SqL.of L,λq hq=>?_⟩⟩;have T:=zD hq (.tup acc);refine⟨_,rfl,(by show 3<=sizeLine;decide),λr' B=>?_⟩;have D:=zD B (.tup [.int N.lanes,.ref q,.ref W]);refine k r' q acc _ ((((s1.trans s2).trans u).trans T).trans D) ⟨yi B _,D _ _ (yi hq _),pr.tups (Tups.of (T.trans D)),?_⟩;exact D _ _ (T _ _ (u _ _ v.ends))
abbrev fJ:Stmt:=top 23
abbrev oG:Stmt:=top 26
abbrev uK:Stmt:=top 27
def kK:Sp:=λa H Q _=>∃ m:Nat,a=[.int m]/\m<=20/\Q (.int ((2 ^ m:Nat):Int)) H
def sk:Sp:=λa H Q _=>∃ m:Nat,a=[.int m]/\m<=10/\∀ l,H l=none->Q (.ref l) (upd H l (.lst (zj (List.range (2 ^ m)))))
def vE:Sp:=λi H Q _=>∃ (p c lf le:Addr) (h:List V) (fs:List Fk) (row a:List Nat),i=[.ref p,.ref c]/\H p=some (.lst (zj row))/\H c=some (.tup [.ref lf,.ref le])/\H lf=some (.lst h)/\Prs H h fs/\H le=some (.lst (zj a))/\Nt.Ok ⟨row.length,fs,a⟩ /\
 ∀ g e f d b,Same H b->NetAt b g e f d (y4 ⟨row.length,fs,a⟩)->Q (.ref g) b
theorem iY:FnScope ["many","power","doubling"] ["many"] (zM fJ):=by trivial
theorem eC {f:Addr}{fd:FuncData}(F:Fun K "power_of_two" "power_of_two" fJ f fd) (G:Mgs mg):FnOk P w K mg base CX0 1 f fd ["many"] kK:=by
 refine F.ok iY (λc H Q E h=>?_) (λd A outer s H c Q E e h=>?_)
 ·obtain⟨m,rfl,_⟩:=h
  rfl
 obtain⟨m,rfl,g,k⟩:=h;refine⟨_,(@zG _ _ _ _ _ (@zY _ _ 1 _ _ _ _ iY.nd rfl (.inl rfl) zE (by rfl) (by trivial)) (@zG _ _ _ _ _ (@xa _ _ _ _ _ _ _ _ Yz rfl (@wM _ _ _ _ _ _ rfl G.range (@zA _ _ _ _ _ (@qv _ 0 _ _ (by trivial)) zC (by rfl)) (by rfl)) (@zN _ _ 2 _ iY.nd rfl (.inl rfl) (by trivial)) (@zK _ _ _ (@fh _ _ 1 _ _ _ _ _ _ iY.nd rfl (.inl rfl) zE gS (by trivial))) (by intro _;rfl)) (@zK _ _ _ (@zT _ _ _ _ (@qv _ 1 _ _ (by trivial)))))),?_⟩;refine⟨_,rfl,m,rfl,by lia,by lia,vP (lo:=0) (n:=((m:Nat):Int).toNat) (λi σ b=>b=H/\∃ a,σ=[some (.int m),some (.int ((2 ^ i:Nat):Int)),a]) ⟨rfl,_,rfl⟩ ?_ ?_⟩
 ·rintro i σ b hi ⟨rfl,a,rfl⟩
  refine⟨_,rfl,_,_,rfl,rfl,.inr ⟨by decide,by decide⟩,rfl,some (.int (0+(i:Nat))),?_⟩;rw[<- show ((2 ^ i:Nat):Int)*2=((2 ^ (i+1):Nat):Int) from by rw[Zi,Int.natCast_mul];rfl];rfl
 ·rintro σ b ⟨rfl,a,rfl⟩
  refine⟨_,rfl,?_⟩;rw[show ((m:Nat):Int).toNat=m from by lia];exact k
theorem bY:FnScope ["k"] ["k"] (zM oG):=by trivial
theorem jP {f i:Addr}{fd j:FuncData}(F:Fun K "row_of" "row_of" oG f fd) (G:Mgs mg) (a:Use P w K mg base "power_of_two" ["many"] 1 kK i j):FnOk P w K mg base CX0 2 f fd ["k"] sk:=by
 refine F.ok bY (λc H Q E h=>?_) (λn A outer s H c Q E d h=>?_)
 ·obtain⟨m,rfl,_⟩:=h
  rfl
 obtain⟨m,rfl,e,k⟩:=h;refine⟨_,(@zK _ _ _ (@zT _ _ _ _ (@tQ _ _ _ _ _ _ _ rfl (by rfl) G.list (by rfl) G.range (@zA _ _ _ _ _ (@zL _ _ _ _ _ _ _ _ _ _ _ _ _ _ _ _ a.ok d (by rfl) a.m a.kp a.b .nil zW (@zA _ _ _ _ _ (@qv _ 0 _ _ (by trivial)) zC (by rfl)) (by decide) (by rfl) (by rfl)) zC (by rfl)) (by rfl) (by rfl)))),?_⟩;have b:2 ^ m<=2 ^ 10:=Nat.pow_le_pow_right (by decide) e;exact⟨_,rfl,m,rfl,by lia,2 ^ m,rfl,JR b (by decide),λl g=>k l g⟩
theorem fG:FnScope ["row","made","forks","ends"] ["row","made"] (zM uK):=by trivial
theorem oX {f I:Addr}{fd J:FuncData}(F:Fun K "net_of" "net_of" uK f fd) (G:Mgs mg) (j:Use P w K mg base "plain" ["net"] 2 sn I J):FnOk P w K mg base CX0 3 f fd ["row","made"] vE:=by
 refine F.ok fG (λu H Q E h=>?_) (λM A outer s H u Q E B h=>?_)
 ·obtain⟨p,c,lf,le,g,fs,row,i,rfl,_⟩:=h
  rfl
 obtain⟨p,c,lf,le,g,fs,row,i,rfl,C,D,q,pr,hle,ok,k⟩:=h;refine⟨_,(@zG _ _ _ _ _ (@yV _ _ _ _ _ _ (@qv _ 1 _ _ (by trivial)) (@yW _ _ _ _ _ _ rfl (@zQ _ _ _ _ _ (@zN _ _ 2 _ fG.nd rfl (.inl rfl) (by trivial)) (@zQ _ _ _ _ _ (@zN _ _ 3 _ fG.nd rfl (.inl rfl) (by trivial)) yJ (by rfl)) (by rfl)) (by rfl) (by rfl)) (by rfl) (by rfl) (by rfl)) (@zK _ _ _ (@zT _ _ _ _ (@zL _ _ _ _ _ _ _ _ _ _ _ _ _ _ _ _ j.ok B (by rfl) j.m j.kp j.b .nil zW (@zA _ _ _ _ _ (@zU _ _ _ _ _ (@zA _ _ _ _ _ (@zP _ _ _ _ _ _ _ _ _ zV (by rfl) G.len JX (@zA _ _ _ _ _ (@qv _ 0 _ _ (by trivial)) zC (by rfl)) (by decide) (by decide) (by rfl) (by rfl)) (@zA _ _ _ _ _ (@zZ _ _ _ _ _ _ _ _ _ zu (by rfl) G.tuple (by rfl) (@zA _ _ _ _ _ (@qv _ 2 _ _ (by trivial)) zC (by rfl)) (by decide) (by decide) (by rfl) (by rfl)) (@zA _ _ _ _ _ (@zZ _ _ _ _ _ _ _ _ _ zu (by rfl) G.tuple (by rfl) (@zA _ _ _ _ _ (@qv _ 3 _ _ (by trivial)) zC (by rfl)) (by decide) (by decide) (by rfl) (by rfl)) zC (by rfl)) (by rfl)) (by rfl))) zC (by rfl)) (by decide) (by rfl) (by rfl))))),?_⟩;refine⟨_,rfl,c,_,rfl,SqT.of D,rfl,_,_,rfl,_,_,rfl,rfl,?_⟩;refine⟨_,rfl,p,_,rfl,.inl (SqL.of C),_,rfl,lf,_,rfl,.inl ⟨SqL.of q,λfr b=>?_⟩⟩;have m:=zD b (.tup g);refine⟨_,rfl,le,_,rfl,.inl ⟨SqL.of (m _ _ hle),λa d=>?_⟩⟩;have l:=zD d (.tup (zj i));refine⟨(by show 3<=sizeLine;decide),λr o=>?_⟩;have e:=zD o (.tup [.int ((zj row).length:Nat),.ref fr,.ref a]);have y:L2.upd (L2.upd (L2.upd H fr (.tup g)) a (.tup (zj i))) r (.tup [.int ((zj row).length:Nat),.ref fr,.ref a]) r=some (.tup [.int (row.length:Nat),.ref fr,.ref a]):=by rw[zB,yD]
 refine⟨r,fr,a,g,⟨row.length,fs,i⟩,rfl,ok,⟨y,e _ _ (l _ _ (yi b _)),pr.tups (Tups.of ((m.trans l).trans e)),e _ _ (yi d _)⟩,λx t n L v z=>k x t a n L (((m.trans l).trans e).trans v) z⟩
abbrev sBy:Stmt:=top 29
def kM:Sp:=λf H Q _=>∃ e d a b,f=[.ref e,.ref d]/\H e=some (.lst a)/\H d=some (.lst b)/\a.length=b.length/\a.length<=1000/\∀ l c,Same H c->c l=some (.lst (yq a b))->Q (.ref l) c
theorem pS {α:Type}(xs ys:List α)(i:Nat)(x y:α)(d:xs[i]?=some x)(c:ys[i]?=some y):yq (xs.take (i+1)) (ys.take (i+1))=yq (xs.take i) (ys.take i)++[x,y]:=by
 obtain⟨b,ex⟩:=J9.mp d;obtain⟨a,e⟩:=J9.mp c;rw[JZ b,JZ a,ex,e];unfold yq;rw[List.zip_append (by rw[JC,JC];lia),List.flatMap_append];rfl
theorem bq:FnScope ["one","other"] ["one","other"] (zM sBy):=by trivial
theorem cW {f:Addr}{fd:FuncData}(F:Fun K "by_turns" "by_turns" sBy f fd) (G:Mgs mg):FnOk P w K mg base CX0 1 f fd ["one","other"] kM:=by
 refine F.ok bq (λU H Q E h=>?_) (λZ A outer s H U Q E hr h=>?_)
 ·obtain⟨L,J,t,r,rfl,_⟩:=h
  rfl
 obtain⟨L,J,t,r,rfl,S,R,b,hz,k⟩:=h;refine⟨_,(@zK _ _ _ (@zT _ _ _ _ (@jG _ _ _ _ _ _ none _ _ _ (ee K (kC 0)) _ _ _ _ ["pair","thing"] [none,none] rfl (@io _ _ _ _ _ _ _ _ true true rfl G.zip (@zA _ _ _ _ _ (@qv _ 0 _ _ (by trivial)) (@zA _ _ _ _ _ (@qv _ 1 _ _ (by trivial)) zC (by rfl)) (by rfl)) (by rfl) (by rfl)) (CapOk.of (by kernel_rfl)) (λ_ _ _ _ _=>(@zN _ _ 0 _ (show (["pair","thing"]:List Str).Nodup from by decide +kernel) rfl (.inl rfl) (.inr rfl))) (λ_ _ _ _ _=>(@xA _ _ _ _ (@qv _ 0 _ _ (by trivial)))) (λ_ _ _ _ _=>(@zN _ _ 1 _ (show (["pair","thing"]:List Str).Nodup from by decide +kernel) rfl (.inl rfl) (.inr rfl))) (λ_ _ _ _ _=>yx) (λ_ _ _ _ _=>(@qv _ 1 _ _ (by trivial))) (by intro _;rfl) (by intro _ _;rfl)))),?_⟩;refine⟨_,rfl,_,rfl,L,J,t,r,rfl,SqL.of S,SqL.of R,λl O=>?_⟩;refine gM b (λi acc σ m=>(∃ I g,σ=[I,g])/\Same H m/\m l=some (.lst acc)/\acc=yq (t.take i) (r.take i)) ⟨⟨_,_,rfl⟩,zD O _,zB,rfl⟩ (λi acc σ m z=>⟨z.2.2.1,SqL.of (z.2.1 _ _ S),SqL.of (z.2.1 _ _ R)⟩) ?_ ?_
 ·rintro i acc σ m x y T M X n ⟨⟨I,g,rfl⟩,C,a,e2⟩
  have W:=(J9.mp M).1
  have al:acc.length<=2000:=by
   rw[e2,wW _ _ (by rw[JC,JC,b]),JC];lia
  refine⟨_,rfl,T,rfl,⟨_,.inl (.inl (yi n _))⟩,?_⟩;have V:l≠T:=zH a n;refine nY (zs:=[x,y]) (λj ac q G=>(∃ g,q=[some (.ref T),g])/\Same H G/\G T=some (.tup [x,y])/\G l=some (.lst ac)/\ac=acc++[x,y].take j) ⟨⟨_,rfl⟩,C.trans (zD n _),yi n _,zD n _ _ _ a,(Yi _).symm⟩ (λj ac q G z=>⟨z.2.2.2.1,.inl (.inl z.2.2.1)⟩) ?_ ?_
  ·rintro j u ac q G N ⟨⟨g,rfl⟩,B,p,d,v⟩
   have D:=(J9.mp N).1;refine⟨_,rfl,d,?_,nx D ⟨⟨_,rfl⟩,λc o e=>?_,?_,zB,?_⟩⟩
   ·rw[v,Jd,JC,JM]
    simp only[Ya,List.length_nil]at D ⊢;lia
   ·rw[zJ (zH e O)];exact B c o e
   ·rw[zJ (Ne.symm V)];exact p
   ·obtain⟨_,Y⟩:=J9.mp N
    rw[v,Y7,JZ D,Y]
  ·rintro ac q G ⟨⟨g,rfl⟩,B,p,d,v⟩
   refine nx W ⟨⟨_,_,rfl⟩,B,d,?_⟩;rw[v,e2,pS t r i x y M X];rfl
 ·rintro acc σ m ⟨_,C,a,e2⟩
  refine k l m C ?_;rw[a,e2,Yb,b,Yb]
abbrev wA:Stmt:=top 28
def xc (m:Nat):Sp:=λh H Q _=>∃ g f a b,h=[.ref g,.ref f]/\H g=some (.lst (zj a))/\H f=some (.lst (zj b))/\a.length=2 ^ m/\b.length=2 ^ m/\m<=8/\∀ c lf le e d,Same H d->d c=some (.tup [.ref lf,.ref le])->d lf=some (.lst e)->Prs d e (mergeN m a b).1->d le=some (.lst (zj (mergeN m a b).2))->Q (.ref c) d
theorem eL (row:List Nat)(i:Nat)(h:i<=row.length):xU (zj row) none (some (i:Int))=zj (row.take i):=by
 rw[yo _ _ (by rw[yD];exact h)];unfold zj;rw[List.map_take]
theorem eM (row:List Nat)(i:Nat)(h:i<=row.length):xU (zj row) (some (i:Int)) none=zj (row.drop i):=by
 rw[y8 _ _ (by rw[yD];exact h)];unfold zj;rw[List.map_drop]
theorem gH (a b:List Nat):yq (zj a) (zj b)=zj (yq a b):=by unfold zj;exact pT _ a b
theorem nS (off:Nat)(a:List Nat):by2 off (zj a)=zj (by2 off a):=by unfold zj;exact gg _ off a
theorem cj (a b:List Nat):zj a++zj b=zj (a++b):=by unfold zj;exact(JT ..).symm
theorem mU:FnScope ["one","other","first_forks","first_ends","second_forks","second_ends","last_forks"] ["one","other"] (zM wA):=by trivial
theorem vX {f fB:Addr}{fd dB:FuncData}(F:Fun K "merger_of" "merger_of" wA f fd) (G:Mgs mg) (UB:Use P w K mg base "by_turns" ["one","other"] 1 kM fB dB) (bS:Binds K fd ["one","other"] []) (mS:mg "merger_of" = some (.ref f)) (n:Nat)
  (GS:FnOk P w K mg base CX0 (n+1) f fd ["one","other"] (λvs H Q E=>∃ m,n=m+1/\xc m vs H Q E)):FnOk P w K mg base CX0 (n+2) f fd ["one","other"] (xc n):=by
 have e:Use P w K mg base "merger_of" ["one","other"] (n+1) (λvs H Q E=>∃ m,n=m+1/\xc m vs H Q E) f fd:=⟨GS,bS,F.kp,mS⟩;refine F.ok mU (λvs H Q E h=>?_) (λap A outer s H vs Q E hr h=>?_)
 ·obtain⟨q,x,a,b,rfl,_⟩:=h
  rfl
 obtain⟨q,x,a,b,rfl,C,h2,al,bl,ad,k⟩:=h;have ag:Room 1 _:=hr.mono (by lia);refine⟨_,(@zG _ _ _ _ _ (@ya _ _ _ _ _ _ _ _ (@zp _ _ _ _ _ _ _ _ nQ (@zP _ _ _ _ _ _ _ _ _ zV (by rfl) G.len JX (@zA _ _ _ _ _ (@qv _ 0 _ _ (by trivial)) zC (by rfl)) (by decide) (by decide) (by rfl) (by rfl)) zE (yC _)) (@zK _ _ _ (@zT _ _ _ _ (@zU _ _ _ _ _ (@zA _ _ _ _ _ (@tO _ _ _ _ _ _ _ _ true true (by rfl) G.list (by rfl) G.zip rfl (@zA _ _ _ _ _ (@qv _ 0 _ _ (by trivial)) (@zA _ _ _ _ _ (@qv _ 1 _ _ (by trivial)) zC (by rfl)) (by rfl)) (by rfl) (by rfl) (by rfl)) (@zA _ _ _ _ _ (@zS _ _ _ _ _ _ _ _ vL (@qv _ 0 _ _ (by trivial)) (@qv _ 1 _ _ (by trivial))) zC (by rfl)) (by rfl))))) zw) (@zG _ _ _ _ _ (@yV _ _ _ _ _ _ (@zL _ _ _ _ _ _ _ _ _ _ _ _ _ _ _ _ e.ok hr (by rfl) e.m e.kp e.b .nil zW (@zA _ _ _ _ _ (@rT _ _ _ _ _ _ _ _ _ (@qv _ 0 _ _ (by trivial)) yN (@zx _ _ _ zE)) (@zA _ _ _ _ _ (@rT _ _ _ _ _ _ _ _ _ (@qv _ 1 _ _ (by trivial)) (@zx _ _ _ zE) (@zx _ _ _ zE)) zC (by rfl)) (by rfl)) (by decide) (by rfl) (by rfl)) (@yW _ _ _ _ _ _ rfl (@zQ _ _ _ _ _ (@zN _ _ 2 _ mU.nd rfl (.inl rfl) (by trivial)) (@zQ _ _ _ _ _ (@zN _ _ 3 _ mU.nd rfl (.inl rfl) (by trivial)) yJ (by rfl)) (by rfl)) (by rfl) (by rfl)) (by rfl) (by rfl) (by rfl)) (@zG _ _ _ _ _ (@yV _ _ _ _ _ _ (@zL _ _ _ _ _ _ _ _ _ _ _ _ _ _ _ _ e.ok hr (by rfl) e.m e.kp e.b .nil zW (@zA _ _ _ _ _ (@rT _ _ _ _ _ _ _ _ _ (@qv _ 0 _ _ (by trivial)) (@zx _ _ _ zE) (@zx _ _ _ zE)) (@zA _ _ _ _ _ (@rT _ _ _ _ _ _ _ _ _ (@qv _ 1 _ _ (by trivial)) yN (@zx _ _ _ zE)) zC (by rfl)) (by rfl)) (by decide) (by rfl) (by rfl)) (@yW _ _ _ _ _ _ rfl (@zQ _ _ _ _ _ (@zN _ _ 4 _ mU.nd rfl (.inl rfl) (by trivial)) (@zQ _ _ _ _ _ (@zN _ _ 5 _ mU.nd rfl (.inl rfl) (by trivial)) yJ (by rfl)) (by rfl)) (by rfl) (by rfl)) (by rfl) (by rfl) (by rfl)) (@zG _ _ _ _ _ (@zY _ _ 6 _ _ _ _ mU.nd rfl (.inl rfl) (@tO _ _ _ _ _ _ _ _ true true (by rfl) G.list (by rfl) G.zip rfl (@zA _ _ _ _ _ (@qv _ 3 _ _ (by trivial)) (@zA _ _ _ _ _ (@qv _ 5 _ _ (by trivial)) zC (by rfl)) (by rfl)) (by rfl) (by rfl) (by rfl)) (by rfl) (by trivial)) (@zK _ _ _ (@zT _ _ _ _ (@zU _ _ _ _ _ (@zA _ _ _ _ _ (@zS _ _ _ _ _ _ _ _ vL (@zS _ _ _ _ _ _ _ _ vL (@qv _ 2 _ _ (by trivial)) (@qv _ 4 _ _ (by trivial))) (@qv _ 6 _ _ (by trivial))) (@zA _ _ _ _ _ (@zL _ _ _ _ _ _ _ _ _ _ _ _ _ _ _ _ UB.ok ag (by rfl) UB.m UB.kp UB.b .nil zW (@zA _ _ _ _ _ (@qv _ 3 _ _ (by trivial)) (@zA _ _ _ _ _ (@qv _ 5 _ _ (by trivial)) zC (by rfl)) (by rfl)) (by decide) (by rfl) (by rfl)) zC (by rfl)) (by rfl))))))))),?_⟩;have na:=yD a;have nb:=yD b;have p8:2 ^ n<=2 ^ 8:=Nat.pow_le_pow_right (by decide) ad;have e8:2 ^ 8=256:=rfl;refine⟨_,rfl,q,_,rfl,.inl (SqL.of C),_,_,rfl,rfl,_,rfl,?_⟩
 cases n with
 | zero =>
  have ar:a.length=1:=al;have aq:b.length=1:=bl;rw[Jw (show (((zj a).length:Nat):Int)<2 by lia)];refine yE ⟨_,rfl,_,rfl,q,x,_,_,rfl,SqL.of C,SqL.of h2,by lia,by lia,λlz u H2 s3 n1 y z=>?_⟩;have pz:=nK z (by lia);have v:=zD y (.lst u);have u4:=s3.trans v;refine⟨_,rfl,_,rfl,q,x,_,_,rfl,rfl,u4 _ _ C,u4 _ _ h2,by rw[JM];lia,λl5 Y=>⟨(by show 2<=sizeLine;decide),λc B=>?_⟩⟩;have p:=zD Y (.lst (zj a++zj b));have o:=zD B (.tup [.ref lz,.ref l5]);refine k c lz l5 u _ ((u4.trans p).trans o) (yi B _) (o _ _ (p _ _ (yi y _))) (((pz.tups (Tups.of v)).tups (Tups.of p)).tups (Tups.of o)) ?_
  rw[o _ _ (yi Y _),cj];rfl
 | succ m =>
  obtain⟨a0,a1⟩:=vB al;obtain⟨b0,b1⟩:=vB bl;have pw:2 ^ (m+1)=2 ^ m*2:=Zi ..;have p0:=Nat.one_le_two_pow (n:=m);rw[Jq (show ¬(((zj a).length:Nat):Int)<2 by lia)];refine zr ⟨_,rfl,2,rfl,rfl,0,q,_,.inl ⟨rfl,rfl⟩,rfl,SqL.of C,λq1 W=>?_⟩;rw[nS];have s1:=zD W (.lst (zj (by2 0 a)));refine⟨_,rfl,1,rfl,2,rfl,rfl,1,x,_,.inr ⟨rfl,rfl⟩,rfl,SqL.of (s1 _ _ h2),λq2 V=>?_⟩;rw[nS];have s2:=zD V (.lst (zj (by2 1 b)));refine⟨m,rfl,q1,q2,by2 0 a,by2 1 b,rfl,s2 _ _ (yi W _),yi V _,a0,b1,by lia,λc3 af O J H3 s3 ak ai M aa=>?_⟩;have u3:=(s1.trans s2).trans s3;refine⟨c3,_,rfl,SqT.of ak,rfl,_,_,rfl,_,_,rfl,rfl,?_⟩;refine⟨_,rfl,1,rfl,2,rfl,rfl,1,q,_,.inr ⟨rfl,rfl⟩,rfl,SqL.of (u3 _ _ C),λq4 U=>?_⟩;rw[nS];have v:=zD U (.lst (zj (by2 1 a)));refine⟨_,rfl,2,rfl,rfl,0,x,_,.inl ⟨rfl,rfl⟩,rfl,SqL.of (v _ _ (u3 _ _ h2)),λq5 T=>?_⟩;rw[nS];have p:=zD T (.lst (zj (by2 0 b)));refine⟨m,rfl,q4,q5,by2 1 a,by2 0 b,rfl,p _ _ (yi U _),yi T _,a1,b0,by lia,λc6 ae N I H6 o aj ah L Z=>?_⟩;have t:=(v.trans p).trans o;refine⟨c6,_,rfl,SqT.of aj,rfl,_,_,rfl,_,_,rfl,rfl,?_⟩;obtain⟨l,xf⟩:=wP m _ _ a0 b1;obtain⟨yl,yf⟩:=wP m _ _ a1 b0;have bd:=(si m (by lia)).2;have ao:=M.len;have am:=L.len;refine⟨_,rfl,_,rfl,O,N,_,_,rfl,SqL.of (t _ _ aa),SqL.of Z,by rw[yD,yD,l,yl];exact Je _,by rw[yD,l];lia,λlz u H7 s7 n1 y z=>?_⟩;have pz:=nK z (by rw[l,yl];exact Je _);have s8:=zD y (.lst u);have r:=s7.trans s8;have tl:=pz.len;rw[ZH,l,yl,Nat.min_self]at tl;refine⟨_,rfl,_,rfl,af,ae,_,_,rfl,rfl,r _ _ (t _ _ ai),r _ _ ah,by rw[JM];lia,λl9 X=>?_⟩;have s9:=zD X (.lst (J++I));refine⟨_,rfl,l9,lz,_,_,rfl,rfl,yi X _,s9 _ _ (yi y _),by rw[JM,Jd];lia,λS g=>?_⟩;have D:=zD g (.lst ((J++I)++u));have i:=(r.trans s9).trans D;refine⟨_,rfl,_,rfl,O,N,_,_,rfl,i _ _ (t _ _ aa),i _ _ Z,by rw[yD,yD,l,yl],by rw[yD,l];lia,λR au j ab=>?_⟩;rw[gH]at ab;refine⟨(by show 2<=sizeLine;decide),λc B=>?_⟩;have d:=zD B (.tup [.ref S,.ref R]);refine k c S R _ _ ((u3.trans t).trans ((i.trans j).trans d)) (yi B _) (d _ _ (j _ _ (yi g _))) ?_ (d _ _ ab);refine Prs.tups (Tups.of ((s9.trans D).trans (j.trans d))) ?_;exact Prs.app (Prs.app ((M.tups (Tups.of t)).tups (Tups.of r)) (L.tups (Tups.of r))) (pz.tups (Tups.of s8))
theorem uQ {f d:Addr}{fd e:FuncData}(F:Fun K "merger_of" "merger_of" wA f fd) (G:Mgs mg) (c:Use P w K mg base "by_turns" ["one","other"] 1 kM d e) (b:Binds K fd ["one","other"] []) (a:mg "merger_of" = some (.ref f)):∀ n:Nat,FnOk P w K mg base CX0 (n+2) f fd ["one","other"] (xc n)
 | 0=>vX F G c b a 0 ⟨λvs H Q E ⟨m,h,_⟩=>by lia,λA outer s H args us vs Q E _ _ _ _ ⟨m,h,_⟩=>by lia⟩
 | m+1=>vX F G c b a (m+1) ((uQ F G c b a m).imp λvs H Q E ⟨g,h,q⟩=>by cases h;exact q)
abbrev wY:Sp:=λa H Q E=>∃ m,m<=4/\xc m a H Q E
theorem qV {f b:Addr}{fd c:FuncData}(F:Fun K "merger_of" "merger_of" wA f fd) (G:Mgs mg) (e:Use P w K mg base "by_turns" ["one","other"] 1 kM b c) (d:Binds K fd ["one","other"] []) (a:mg "merger_of" = some (.ref f)):FnOk P w K mg base CX0 6 f fd ["one","other"] wY :=
 FnOk.any 4 λm g=>(uQ F G e d a m).mono (by lia)
abbrev rJ:Stmt:=top 25
def wk:Sp:=λf H Q _=>∃ k:Nat,f=[.int ((k+1:Nat):Int)]/\k<4/\∀ e c d b a,Same H a->NetAt a e c d b (y4 (yU k))->Q (.ref e) a
theorem fE:FnScope ["k","row","half"] ["k"] (zM rJ):=by trivial
theorem mh {f fR fT fM:Addr}{fd dR dT dM:FuncData}(F:Fun K "merger" "merger" rJ f fd) (G:Mgs mg) (g:Use P w K mg base "row_of" ["k"] 2 sk fR dR) (e:Use P w K mg base "merger_of" ["one","other"] 6 wY fT dT) (i:Use P w K mg base "net_of" ["row","made"] 3 vE fM dM):FnOk P w K mg base CX0 7 f fd ["k"] wk:=by
 refine F.ok fE (λD H Q E h=>?_) (λaa A outer s H D Q E j h=>?_)
 ·obtain⟨k,rfl,_⟩:=h
  rfl
 obtain⟨k,rfl,W,q⟩:=h;have n:Room 2 _:=j.mono (by decide);have m:Room 3 _:=j.mono (by decide);refine⟨_,(@zG _ _ _ _ _ (@zY _ _ 1 _ _ _ _ fE.nd rfl (.inl rfl) (@zL _ _ _ _ _ _ _ _ _ _ _ _ _ _ _ _ g.ok n (by rfl) g.m g.kp g.b .nil zW (@zA _ _ _ _ _ (@qv _ 0 _ _ (by trivial)) zC (by rfl)) (by decide) (by rfl) (by rfl)) (by rfl) (by trivial)) (@zG _ _ _ _ _ (@zY _ _ 2 _ _ _ _ fE.nd rfl (.inl rfl) (@zS _ _ _ _ _ _ _ _ wu (@zP _ _ _ _ _ _ _ _ _ zV (by rfl) G.len JX (@zA _ _ _ _ _ (@qv _ 1 _ _ (by trivial)) zC (by rfl)) (by decide) (by decide) (by rfl) (by rfl)) zE) (by rfl) (by trivial)) (@zK _ _ _ (@zT _ _ _ _ (@zL _ _ _ _ _ _ _ _ _ _ _ _ _ _ _ _ i.ok m (by rfl) i.m i.kp i.b .nil zW (@zA _ _ _ _ _ (@qv _ 1 _ _ (by trivial)) (@zA _ _ _ _ _ (@zL _ _ _ _ _ _ _ _ _ _ _ _ _ _ _ _ e.ok j (by rfl) e.m e.kp e.b .nil zW (@zA _ _ _ _ _ (@yI _ _ _ _ _ _ _ _ _ _ nH (@qv _ 1 _ _ (by trivial)) yN (@zx _ _ _ (@qv _ 2 _ _ (by trivial)))) (@zA _ _ _ _ _ (@yI _ _ _ _ _ _ _ _ _ _ nH (@qv _ 1 _ _ (by trivial)) (@zx _ _ _ (@qv _ 2 _ _ (by trivial))) yN) zC (by rfl)) (by rfl)) (by decide) (by rfl) (by rfl)) zC (by rfl)) (by rfl)) (by decide) (by rfl) (by rfl)))))),?_⟩;refine⟨_,rfl,k+1,rfl,by lia,λp B=>?_⟩;have L:=zD B (.lst (zj (List.range (2 ^ (k+1)))));have d:=yi B (.lst (zj (List.range (2 ^ (k+1)))));have N:(List.range (2 ^ (k+1))).length=2 ^ (k+1):=Yv;obtain⟨u,t2,I⟩:=lu N;have nl:=yD (List.range (2 ^ (k+1)));refine⟨_,rfl,p,_,rfl,.inl (SqL.of d),_,_,rfl,rfl,⟨by decide,by decide⟩,?_⟩;have eh:(((zj (List.range (2 ^ (k+1)))).length:Nat):Int) / 2=((2 ^ k:Nat):Int):=by rw[nl,<- u];lia
 simp only[eh];have z:2 ^ k<=(List.range (2 ^ (k+1))).length:=by rw[<- u];exact I
 refine⟨_,rfl,_,rfl,_,rfl,_,rfl,p,_,rfl,SqL.of d,λT b=>?_⟩;rw[eL _ _ z];have x:=zD b (.lst (zj ((List.range (2 ^ (k+1))).take (2 ^ k))));refine⟨_,rfl,_,rfl,_,rfl,p,_,rfl,SqL.of (x _ _ d),λS a=>?_⟩;rw[eM _ _ z];have v:=zD a (.lst (zj ((List.range (2 ^ (k+1))).drop (2 ^ k))));have V:((List.range (2 ^ (k+1))).take (2 ^ k)).length=2 ^ k:=by rw[JC];lia
 have U:((List.range (2 ^ (k+1))).drop (2 ^ k)).length=2 ^ k:=by rw[Yc];lia
 refine⟨k,by lia,T,S,_,_,rfl,v _ _ (yi b _),yi a _,V,U,by lia,λc lf le R H4 J Z X pr Y=>?_⟩;have t:=(x.trans v).trans J;have C:(⟨(List.range (2 ^ (k+1))).length,(mergeN k ((List.range (2 ^ (k+1))).take (2 ^ k)) ((List.range (2 ^ (k+1))).drop (2 ^ k))).1,(mergeN k ((List.range (2 ^ (k+1))).take (2 ^ k)) ((List.range (2 ^ (k+1))).drop (2 ^ k))).2⟩:Nt)=yU k:=by rw[Yv];rfl
 refine⟨p,c,lf,le,R,_,List.range (2 ^ (k+1)),_,rfl,t _ _ d,Z,X,pr,Y,by rw[C];exact uR W,λO o r l H' M y=>?_⟩;rw[C]at y;exact q O o r l H' ((L.trans t).trans M) y
abbrev kU:Stmt:=top 37
def pj:Sp:=λb H Q _=>∃ l:Addr,b=[.ref l]/\PkAt H l/\∀ r fr d c N a,Nt.Ok N->N.lanes%2=0->N.lanes<=8->N.forks.length<=13->NetAt a r fr d c N->PkAt a l->But l H a->Q (.ref r) a
theorem ga (v:Nat)(x:V)(h:([V.int 2,.int 4,.int 4,.int 6]:List V)[v]?=some x):∃ n:Nat,x=.int (n:Nat)/\1<=n/\n<=8/\n%2=0:=by
 match v,h with
 | 0,h=>cases h;exact⟨2,rfl,by decide,by decide,by decide⟩
 | 1,h=>cases h;exact⟨4,rfl,by decide,by decide,by decide⟩
 | 2,h=>cases h;exact⟨4,rfl,by decide,by decide,by decide⟩
 | 3,h=>cases h;exact⟨6,rfl,by decide,by decide,by decide⟩
theorem jB (v:Nat)(x:V)(h:([V.int 1,.int 2,.int 2,.int 3]:List V)[v]?=some x):∃ n:Nat,x=.int ((n+1:Nat):Int)/\n<3:=by
 match v,h with
 | 0,h=>cases h;exact⟨0,rfl,by decide⟩
 | 1,h=>cases h;exact⟨1,rfl,by decide⟩
 | 2,h=>cases h;exact⟨1,rfl,by decide⟩
 | 3,h=>cases h;exact⟨2,rfl,by decide⟩
theorem oe:∀ k,k<4->(yU k).forks.length<=32/\0<(yU k).forks.length/\(yU k).lanes=2 ^ (k+1):=by decide +kernel
theorem wd:∀ k,k<3->(yU k).forks.length<=12/\(yU k).lanes<=8:=by decide +kernel
def FewAt (H:Hp)(n:Nat)(x:V):Prop:=∃ t b a,x=.ref t/\H t=some (.tup b)/\Prs H b a/\a.length<=2/\∀ f∈a,f.1<n/\f.2<n/\f.1≠f.2
theorem FewAt.tups {H H':Hp}{n:Nat}{x:V}(t:Tups H H'):FewAt H n x->FewAt H' n x
 | ⟨a,b,c,e,h,p,r⟩=>⟨a,b,c,e,t _ _ h,p.tups t,r⟩
theorem Prs.cut {H:Hp}:∀ {ps:List V}{fs:List Fk}(k:Nat),Prs H ps fs->Prs H (ps.take k) (fs.take k)/\Prs H (ps.drop k) (fs.drop k)
 | [],[],k,_=>by simp[Prs]
 | p::ps,f::fs,0,h=>⟨trivial,h⟩
 | p::ps,f::fs,k+1,⟨x,h⟩=>⟨⟨x,(Prs.cut k h).1⟩,(Prs.cut k h).2⟩
theorem kh {n:Nat}{a:List Nat}(h:a.Perm (List.range n)):(a.drop 1++a.take 1).Perm (List.range n):=by
 refine List.Perm.trans ?_ h;refine(Zc).trans ?_;rw[Zv]
theorem rC:FnScope ["_law_left_here","_law_lanes","_law_forks","_law_ends","_law_at","_law_one","_law_some"] ["_law_left_here"] (zM kU):=by trivial
theorem i5 {f fK fO fN fM:Addr}{fd dK dO dN dM:FuncData}(F:Fun K "_law_merging_net" "_law_merging_net" kU f fd) (G:Mgs mg) (B:Use P w K mg base "_law_pick" ["_law_left_here","_law_many"] 1 xj fK dK) (t:Use P w K mg base "_law_of" ["_law_left_here","_law_some"] 2 mQ fO dO) (UN:Use P w K mg base "_law_net" ["_law_left_here","_law_lanes","_law_most"] 3 (pi 6) fN dN)
  (UM:Use P w K mg base "merger" ["k"] 7 wk fM dM):FnOk P w K mg base CX0 8 f fd ["_law_left_here"] pj:=by
 refine F.ok rC (λvs H Q E h=>?_) (λb3 A outer s H vs Q E hr h=>?_)
 ·obtain⟨l,rfl,_⟩:=h
  rfl
 obtain⟨l,rfl,S,k⟩:=h;have ah:Room 1 _:=hr.mono (by decide);have ag:Room 2 _:=hr.mono (by decide);have aY:Room 3 _:=hr.mono (by decide);refine⟨_,(@zG _ _ _ _ _ (@ya _ _ _ _ _ _ _ _ (@zp _ _ _ _ _ _ _ _ xg (@zL _ _ _ _ _ _ _ _ _ _ _ _ _ _ _ _ B.ok ah (by rfl) B.m B.kp B.b .nil zW (@zA _ _ _ _ _ (@qv _ 0 _ _ (by trivial)) (@zA _ _ _ _ _ zE zC (by rfl)) (by rfl)) (by decide) (by rfl) (by rfl)) zE (yC _)) (@zK _ _ _ (@zT _ _ _ _ (@zL _ _ _ _ _ _ _ _ _ _ _ _ _ _ _ _ UN.ok aY (by rfl) UN.m UN.kp UN.b .nil zW (@zA _ _ _ _ _ (@qv _ 0 _ _ (by trivial)) (@zA _ _ _ _ _ (@zL _ _ _ _ _ _ _ _ _ _ _ _ _ _ _ _ t.ok ag (by rfl) t.m t.kp t.b .nil zW (@zA _ _ _ _ _ (@qv _ 0 _ _ (by trivial)) (@zA _ _ _ _ _ (@yO _ _ _ _ (@zA _ _ _ _ _ zE (@zA _ _ _ _ _ zE (@zA _ _ _ _ _ zE (@zA _ _ _ _ _ zE zC (by rfl)) (by rfl)) (by rfl)) (by rfl))) zC (by rfl)) (by rfl)) (by decide) (by rfl) (by rfl)) (@zA _ _ _ _ _ zE zC (by rfl)) (by rfl)) (by rfl)) (by decide) (by rfl) (by rfl)))) zw) (@zG _ _ _ _ _ (@yV _ _ _ _ _ _ (@zL _ _ _ _ _ _ _ _ _ _ _ _ _ _ _ _ UM.ok hr (by rfl) UM.m UM.kp UM.b .nil zW (@zA _ _ _ _ _ (@zL _ _ _ _ _ _ _ _ _ _ _ _ _ _ _ _ t.ok ag (by rfl) t.m t.kp t.b .nil zW (@zA _ _ _ _ _ (@qv _ 0 _ _ (by trivial)) (@zA _ _ _ _ _ (@yO _ _ _ _ (@zA _ _ _ _ _ zE (@zA _ _ _ _ _ zE (@zA _ _ _ _ _ zE (@zA _ _ _ _ _ zE zC (by rfl)) (by rfl)) (by rfl)) (by rfl))) zC (by rfl)) (by rfl)) (by decide) (by rfl) (by rfl)) zC (by rfl)) (by decide) (by rfl) (by rfl)) (@yW _ _ _ _ _ _ rfl (@zQ _ _ _ _ _ (@zN _ _ 1 _ rC.nd rfl (.inl rfl) (by trivial)) (@zQ _ _ _ _ _ (@zN _ _ 2 _ rC.nd rfl (.inl rfl) (by trivial)) (@zQ _ _ _ _ _ (@zN _ _ 3 _ rC.nd rfl (.inl rfl) (by trivial)) yJ (by rfl)) (by rfl)) (by rfl)) (by rfl) (by rfl)) (by rfl) (by rfl) (by rfl)) (@zG _ _ _ _ _ (@zY _ _ 4 _ _ _ _ rC.nd rfl (.inl rfl) (@zL _ _ _ _ _ _ _ _ _ _ _ _ _ _ _ _ B.ok ah (by rfl) B.m B.kp B.b .nil zW (@zA _ _ _ _ _ (@qv _ 0 _ _ (by trivial)) (@zA _ _ _ _ _ (@zP _ _ _ _ _ _ _ _ _ zV (by rfl) G.len JX (@zA _ _ _ _ _ (@qv _ 2 _ _ (by trivial)) zC (by rfl)) (by decide) (by decide) (by rfl) (by rfl)) zC (by rfl)) (by rfl)) (by decide) (by rfl) (by rfl)) (by rfl) (by trivial)) (@zG _ _ _ _ _ (@zY _ _ 5 _ _ _ _ rC.nd rfl (.inl rfl) (@zi _ _ _ _ _ _ _ zy (@qv _ 2 _ _ (by trivial)) (@qv _ 4 _ _ (by trivial)) (λ_ _=>rfl)) (by rfl) (by trivial)) (@zG _ _ _ _ _ (@zY _ _ 6 _ _ _ _ rC.nd rfl (.inl rfl) (@yO _ _ _ _ (@zA _ _ _ _ _ (@zU _ _ _ _ _ (@zA _ _ _ _ _ (@qv _ 5 _ _ (by trivial)) zC (by rfl))) (@zA _ _ _ _ _ (@zU _ _ _ _ _ (@zA _ _ _ _ _ (@qv _ 5 _ _ (by trivial)) zC (by rfl))) (@zA _ _ _ _ _ (@zU _ _ _ _ _ (@zA _ _ _ _ _ (@nP _ _ _ _ _ _ _ (@qv _ 5 _ _ (by trivial)) (@zx _ _ _ (@tN _ _ _ _ _ _ vC zE))) zC (by rfl))) (@zA _ _ _ _ _ (@zU _ _ _ _ _ zC) (@zA _ _ _ _ _ (@zU _ _ _ _ _ (@zA _ _ _ _ _ (@qv _ 5 _ _ (by trivial)) (@zA _ _ _ _ _ (@qv _ 5 _ _ (by trivial)) zC (by rfl)) (by rfl))) (@zA _ _ _ _ _ (@zU _ _ _ _ _ (@zA _ _ _ _ _ (@qv _ 5 _ _ (by trivial)) (@zA _ _ _ _ _ (@nP _ _ _ _ _ _ _ (@qv _ 5 _ _ (by trivial)) (@zx _ _ _ (@tN _ _ _ _ _ _ vC zE))) zC (by rfl)) (by rfl))) zC (by rfl)) (by rfl)) (by rfl)) (by rfl)) (by rfl)) (by rfl))) (by rfl) (by trivial)) (@zG _ _ _ _ _ (@zY _ _ 2 _ _ _ _ rC.nd rfl (.inl rfl) (@zS _ _ _ _ _ _ _ _ yp (@zS _ _ _ _ _ _ _ _ yp (@yI _ _ _ _ _ _ _ _ _ _ yc (@qv _ 2 _ _ (by trivial)) yN (@zx _ _ _ (@qv _ 4 _ _ (by trivial)))) (@zL _ _ _ _ _ _ _ _ _ _ _ _ _ _ _ _ t.ok ag (by rfl) t.m t.kp t.b .nil zW (@zA _ _ _ _ _ (@qv _ 0 _ _ (by trivial)) (@zA _ _ _ _ _ (@qv _ 6 _ _ (by trivial)) zC (by rfl)) (by rfl)) (by decide) (by rfl) (by rfl))) (@yI _ _ _ _ _ _ _ _ _ _ yc (@qv _ 2 _ _ (by trivial)) (@zx _ _ _ (@zS _ _ _ _ _ _ _ _ yX (@qv _ 4 _ _ (by trivial)) zE)) yN)) (by rfl) (by trivial)) (@zG _ _ _ _ _ (@ya _ _ _ _ _ _ _ _ (@zp _ _ _ _ _ _ _ _ xg (@zL _ _ _ _ _ _ _ _ _ _ _ _ _ _ _ _ B.ok ah (by rfl) B.m B.kp B.b .nil zW (@zA _ _ _ _ _ (@qv _ 0 _ _ (by trivial)) (@zA _ _ _ _ _ zE zC (by rfl)) (by rfl)) (by decide) (by rfl) (by rfl)) zE (yC _)) (@zK _ _ _ (@zY _ _ 3 _ _ _ _ rC.nd rfl (.inl rfl) (@zS _ _ _ _ _ _ _ _ yp (@yI _ _ _ _ _ _ _ _ _ _ yc (@qv _ 3 _ _ (by trivial)) (@zx _ _ _ zE) yN) (@yI _ _ _ _ _ _ _ _ _ _ yc (@qv _ 3 _ _ (by trivial)) yN (@zx _ _ _ zE))) (by rfl) (by trivial))) zw) (@zK _ _ _ (@zT _ _ _ _ (@zU _ _ _ _ _ (@zA _ _ _ _ _ (@qv _ 1 _ _ (by trivial)) (@zA _ _ _ _ _ (@qv _ 2 _ _ (by trivial)) (@zA _ _ _ _ _ (@qv _ 3 _ _ (by trivial)) zC (by rfl)) (by rfl)) (by rfl)))))))))))),?_⟩
 have Y:∀ {H:Hp}{q:Addr},PkAt H l->H q=none->q≠l:=λ{H q} S hq=>by
  obtain⟨_,_,h,_⟩:=S.ex;exact(zH h hq).symm
 refine⟨_,rfl,l,3,rfl,by decide,by decide,S,λx H1 hx S1 B1=>⟨rfl,_,rfl,?_⟩⟩;by_cases c:V.int ((x:Nat):Int)=V.int 0
 ·rw[Jw c]
  refine yE ⟨_,rfl,_,rfl,(by show 4<=sizeLine;decide),λq hq=>?_⟩;have s2:=zD hq (.lst [V.int 2,.int 4,.int 4,.int 6]);refine⟨l,q,_,rfl,S1.keep s2,Y S1 hq,zB,(by show 0<4;decide),(by show 4<=100000;decide),λi y H3 hy S3 B3=>?_⟩;obtain⟨n,rfl,n1,b0,ne⟩:=ga i y hy;refine⟨l,n,rfl,S3,n1,by lia,λr fr er D N H4 ok ln fm na S4 B4=>?_⟩;exact k r fr er D N H4 ok (by rw[ln];exact ne) (by lia) (by lia) na S4 (((B1.trans (But.of s2)).trans B3).trans B4)
 rw[Jq c];refine zr ⟨_,rfl,(by show 4<=sizeLine;decide),λq hq=>?_⟩;have s2:=zD hq (.lst [V.int 1,.int 2,.int 2,.int 3]);refine⟨l,q,_,rfl,S1.keep s2,Y S1 hq,zB,(by show 0<4;decide),(by show 4<=100000;decide),λi y H3 hy S3 B3=>?_⟩;obtain⟨n,rfl,n3⟩:=jB i y hy;have n4:n<4:=by lia
 refine⟨n,rfl,n4,λr fr er D H4 s4 na=>?_⟩;have S4:=S3.keep s4;have B4:=((B1.trans (But.of s2)).trans B3).trans (But.of s4:But l H3 H4);have ok:=qP (uR n4)
 have fm:(y4 (yU n)).forks.length<=12:=by
  obtain⟨m1,_⟩:=wd n n3;rw[wb];lia
 have f0:0<(y4 (yU n)).forks.length:=by
  obtain⟨_,m2,_⟩:=oe n n4;rw[wb];lia
 have af:(y4 (yU n)).lanes%2=0:=by
  show 2 ^ (n+1)%2=0;rw[Zi];lia
 have ae:(y4 (yU n)).lanes<=8:=(wd n n3).2;generalize y4 (yU n)=N at ok na fm f0 af ae;refine⟨r,_,rfl,SqT.of na.net,rfl,_,_,rfl,_,_,rfl,_,_,rfl,rfl,?_⟩;have pl:=na.prs.len;refine⟨_,rfl,_,rfl,fr,_,rfl,.inr (SqT.of na.forks),l,_,rfl,by lia,by lia,S4,λv H5 hv S5 B5=>?_⟩;have vl:v<N.forks.length:=by lia
 have ad:=na.tups (B5.tups S4);obtain⟨g,b,eg,ef,hg⟩:=ad.prs.get (i:=v) (J8 (show v<D.length by lia));have bo:D[v]?=some (.ref g):=by rw[J8 (show v<D.length by lia),eg]
 have j:=ok.fk b (Jz ef);refine⟨_,rfl,_,rfl,fr,_,_,_,rfl,rfl,SqT.of ad.forks,yg bo,?_⟩;refine⟨_,rfl,(by show 1<=sizeLine;decide),λC aX=>?_⟩;have a1:=zD aX (.tup [.ref g]);refine⟨_,rfl,(by show 1<=sizeLine;decide),λT aW=>?_⟩;have a2:=zD aW (.tup [.ref g]);refine⟨_,rfl,_,rfl,_,rfl,rfl,g,_,_,rfl,SqT.of (a2 _ _ (a1 _ _ hg)),λW bl=>?_⟩;have a3:=zD bl (.tup [.int (b.2:Nat),.int (b.1:Nat)]);refine⟨(by show 1<=sizeLine;decide),λR aV=>?_⟩;have a4:=zD aV (.tup [.ref W]);refine⟨(by show 0<=sizeLine;decide),λO aU=>?_⟩;have a5:=zD aU (.tup []);refine⟨_,rfl,_,rfl,(by show 2<=sizeLine;decide),λM aT=>?_⟩;have a6:=zD aT (.tup [.ref g,.ref g]);have u6:=(((((a1.trans a2).trans a3).trans a4).trans a5).trans a6);refine⟨_,rfl,_,rfl,_,rfl,_,rfl,rfl,g,_,_,rfl,SqT.of (u6 _ _ hg),λU bh=>?_⟩;have a7:=zD bh (.tup [.int (b.2:Nat),.int (b.1:Nat)]);refine⟨(by show 2<=sizeLine;decide),λL aS=>?_⟩;have X:=zD aS (.tup [.ref g,.ref U]);refine⟨(by show 6<=sizeLine;decide),λls ba=>?_⟩;have I:=zD ba (.lst [.ref C,.ref T,.ref R,.ref O,.ref M,.ref L]);have u9:=((u6.trans a7).trans X).trans I;have m:=zB (H:=L2.upd (L2.upd (L2.upd (L2.upd (L2.upd (L2.upd (L2.upd (L2.upd H5 C (.tup [.ref g])) T (.tup [.ref g])) W (.tup [.int (b.2:Nat),.int (b.1:Nat)])) R (.tup [.ref W])) O (.tup [])) M (.tup [.ref g,.ref g])) U (.tup [.int (b.2:Nat),.int (b.1:Nat)])) L (.tup [.ref g,.ref U])) (a:=ls) (o:=.lst [.ref C,.ref T,.ref R,.ref O,.ref M,.ref L]);have w1:=I _ _ (X _ _ (a7 _ _ (a6 _ _ (a5 _ _ (a4 _ _ (a3 _ _ (a2 _ _ (zB (H:=H5) (a:=C) (o:=.tup [.ref g])))))))));have w2:=I _ _ (X _ _ (a7 _ _ (a6 _ _ (a5 _ _ (a4 _ _ (a3 _ _ (zB (H:=L2.upd H5 C (.tup [.ref g])) (a:=T) (o:=.tup [.ref g]))))))));have w3:=I _ _ (X _ _ (a7 _ _ (a6 _ _ (a5 _ _ (a4 _ _ (zB (a:=W) (o:=.tup [.int (b.2:Nat),.int (b.1:Nat)])))))));have w4:=I _ _ (X _ _ (a7 _ _ (a6 _ _ (a5 _ _ (zB (a:=R) (o:=.tup [.ref W]))))));have w5:=I _ _ (X _ _ (a7 _ _ (a6 _ _ (zB (a:=O) (o:=.tup [])))));have w6:=I _ _ (X _ _ (a7 _ _ (zB (a:=M) (o:=.tup [.ref g,.ref g]))));have w7:=I _ _ (X _ _ (zB (a:=U) (o:=.tup [.int (b.2:Nat),.int (b.1:Nat)])));have w8:=I _ _ (zB (a:=L) (o:=.tup [.ref g,.ref U]));have p:=u9 _ _ hg;have ab:=ad.tups (Tups.of u9);have S9:=S5.keep u9;have B9:=B4.trans (B5.trans (But.of u9));generalize L2.upd (L2.upd (L2.upd (L2.upd (L2.upd (L2.upd (L2.upd (L2.upd (L2.upd H5 C (.tup [.ref g])) T (.tup [.ref g])) W (.tup [.int (b.2:Nat),.int (b.1:Nat)])) R (.tup [.ref W])) O (.tup [])) M (.tup [.ref g,.ref g])) U (.tup [.int (b.2:Nat),.int (b.1:Nat)])) L (.tup [.ref g,.ref U])) ls (.lst [.ref C,.ref T,.ref R,.ref O,.ref M,.ref L])=H9 at u9 m w1 w2 w3 w4 w5 w6 w7 w8 p ab S9 B9;have ap:(b.2,b.1).1<N.lanes/\(b.2,b.1).2<N.lanes/\(b.2,b.1).1≠(b.2,b.1).2:=⟨j.2.1,j.1,λz=>j.2.2 z.symm⟩
 have bB:∀ x∈[V.ref C,.ref T,.ref R,.ref O,.ref M,.ref L],FewAt H9 N.lanes x:=λx hx=>by
  simp only[Ja,JG,Jc]at hx;rcases hx with rfl|rfl|rfl|rfl|rfl|rfl
  ·exact⟨C,_,[b],rfl,w1,⟨⟨g,rfl,p⟩,trivial⟩,(by show 1<=2;decide),λf e=>by rw[Js.mp e];exact j⟩
  ·exact⟨T,_,[b],rfl,w2,⟨⟨g,rfl,p⟩,trivial⟩,(by show 1<=2;decide),λf e=>by rw[Js.mp e];exact j⟩
  ·exact⟨R,_,[(b.2,b.1)],rfl,w4,⟨⟨W,rfl,w3⟩,trivial⟩,(by show 1<=2;decide),λf e=>by rw[Js.mp e];exact ap⟩
  ·exact⟨O,_,[],rfl,w5,trivial,(by show 0<=2;decide),λf e=>by simp at e⟩
  ·refine⟨M,_,[b,b],rfl,w6,⟨⟨g,rfl,p⟩,⟨g,rfl,p⟩,trivial⟩,(by show 2<=2;decide),λf e=>?_⟩
   simp only[Ja,Jc,JG]at e;rcases e with rfl|rfl<;>exact j
  ·refine⟨L,_,[b,(b.2,b.1)],rfl,w8,⟨⟨g,rfl,p⟩,⟨U,rfl,w7⟩,trivial⟩,(by show 2<=2;decide),λf e=>?_⟩
   simp only[Ja,Jc,JG]at e;rcases e with rfl|rfl
   ·exact j
   ·exact ap
 refine⟨_,rfl,_,rfl,_,rfl,fr,D,rfl,ab.forks,λpa Ha sa av=>?_⟩;rw[yo _ _ (by lia)]at av
 have aQ:ls≠l:=λz=>by
  obtain⟨_,_,h,_⟩:=S9.ex;rw[z,h]at m;cases m
 refine⟨_,rfl,_,rfl,l,ls,_,rfl,S9.keep sa,aQ,sa _ _ m,(by show 0<6;decide),(by show 6<=100000;decide),λiu u Hu hu Su Bu=>?_⟩;have tu:Tups Ha Hu:=Bu.tups (S9.keep sa);obtain⟨tt,qs,gs,rfl,aR,ao,gl,bx⟩:=((bB u (Jz hu)).tups (Tups.of sa)).tups tu;have J:=(ab.tups (Tups.of sa)).tups tu;have aj:=tu _ _ av;have ql:=ao.len;refine⟨pa,tt,_,_,rfl,rfl,aj,aR,by rw[JC,JM];lia,λpb Hb sb a0=>?_⟩;refine⟨_,rfl,_,rfl,_,_,rfl,rfl,_,rfl,fr,D,rfl,sb _ _ J.forks,λpc Hc sc au=>?_⟩;have bS:((v:Nat):Int)+1=((v+1:Nat):Int):=by lia
 rw[bS,y8 _ _ (by lia)]at au;refine⟨pb,pc,_,_,rfl,rfl,sc _ _ a0,au,by rw[Jd,JC,Yc,JM];lia,λpd Hd sd aZ=>?_⟩;have ud:=(sb.trans sc).trans sd
 have aO:Prs Hd ((D.take v++qs)++D.drop (v+1)) ((N.forks.take v++gs)++N.forks.drop (v+1)) :=
  Prs.app (Prs.app ((Prs.cut v J.prs).1.tups (Tups.of ud)) (ao.tups (Tups.of ud))) ((Prs.cut (v+1) J.prs).2.tups (Tups.of ud))
 have az:∀ f∈(N.forks.take v++gs)++N.forks.drop (v+1),f.1<N.lanes/\f.2<N.lanes/\f.1≠f.2:=λf e=>by
  rcases Ju.mp e with z|z
  ·rcases Ju.mp z with y|y
   ·exact ok.fk f (ZA y)
   ·exact bx f y
  ·exact ok.fk f (Zz z)
 have aL:((N.forks.take v++gs)++N.forks.drop (v+1)).length<=128:=by rw[Jd,Jd,JC,Yc];lia
 have Z:((N.forks.take v++gs)++N.forks.drop (v+1)).length<=13:=by rw[Jd,Jd,JC,Yc];lia
 have aP:=J.tups (Tups.of ud);have Sd:=Su.keep ud;have Bd:=B9.trans (((But.of sa).trans Bu).trans (But.of ud));have el:N.ends.length=N.lanes:=by rw[ok.en.length_eq,Yv]
 have aq:=ok.l16;have l1:=ok.l1;refine⟨_,rfl,l,8,rfl,by decide,by decide,Sd,λz He hz Se Be=>⟨rfl,_,rfl,?_⟩⟩;have aa:=aP.tups (Be.tups Sd);have ar:=Be.tups Sd _ _ aZ;have pre:=aO.tups (Be.tups Sd);by_cases c2:V.int ((z:Nat):Int)=V.int 0
 ·rw[Jw c2]
  refine yE ⟨_,rfl,_,rfl,er,_,rfl,aa.ends,λp1 H1 am ay=>?_⟩;have e1:xU (zj N.ends) (some 1) none=zj (N.ends.drop 1):=by rw[show (some (1:Int))=some (((1:Nat)):Int) from rfl,y8 _ 1 (by rw[yD];lia)];unfold zj;rw[List.map_drop]
  rw[e1]at ay;refine⟨_,rfl,_,rfl,er,_,rfl,am _ _ aa.ends,λp2 H2 ak ax=>?_⟩;have e2:xU (zj N.ends) none (some 1)=zj (N.ends.take 1):=by rw[show (some (1:Int))=some (((1:Nat)):Int) from rfl,yo _ 1 (by rw[yD];lia)];unfold zj;rw[List.map_take]
  rw[e2]at ax;refine⟨p1,p2,_,_,rfl,rfl,ak _ _ ay,ax,by rw[yD,yD,Yc,JC,JM];lia,λp3 b4 aN aw=>?_⟩;have e3:zj (N.ends.drop 1)++zj (N.ends.take 1)=zj (N.ends.drop 1++N.ends.take 1):=by unfold zj;rw[JT]
  rw[e3]at aw;have u3:=(am.trans ak).trans aN;refine⟨_,rfl,_,rfl,_,rfl,(by show 3<=sizeLine;decide),λr' ai=>?_⟩;have d:=zD ai (.tup [.int (N.lanes:Nat),.ref pd,.ref p3]);exact k r' pd p3 _ ⟨N.lanes,(N.forks.take v++gs)++N.forks.drop (v+1),N.ends.drop 1++N.ends.take 1⟩ _ ⟨l1,aq,aL,az,kh ok.en⟩ af ae Z ⟨zB,d _ _ (u3 _ _ ar),pre.tups (Tups.of (u3.trans d)),d _ _ aw⟩ (Se.keep (u3.trans d)) (Bd.trans (Be.trans (But.of (u3.trans d))))
 rw[Jq c2];refine zr ⟨_,rfl,_,rfl,_,rfl,(by show 3<=sizeLine;decide),λr' ai=>?_⟩;have d:=zD ai (.tup [.int (N.lanes:Nat),.ref pd,.ref er]);exact k r' pd er _ ⟨N.lanes,(N.forks.take v++gs)++N.forks.drop (v+1),N.ends⟩ _ ⟨l1,aq,aL,az,ok.en⟩ af ae Z ⟨zB,d _ _ ar,pre.tups (Tups.of d),d _ _ aa.ends⟩ (Se.keep d) (Bd.trans (Be.trans (But.of d)))
end
abbrev fU:Stmt:=top 46
def nG (K:PySem.W.Frag)(Pt:Addr):Sp:=λb H Q _=>∃ (a:Addr) (ns:List Int),b=[.ref a]/\SqL K H a (ns.map V.int)/\ns.length<=63/\H Pt=some (.tbl #[])/\∀ c,Q (.bl true) c
def Scr (K:PySem.W.Frag)(a:Addr)(xs:List V)(H:Hp):Prop:=H a=some (.lst xs)\/(∃ o,H a=some (.frz o (.lst xs)))\/∀ b,SqL K b a xs
theorem Scr.of {K:PySem.W.Frag}{a:Addr}{xs:List V}{H:Hp}(h:SqL K H a xs):Scr K a xs H:=by
 rcases h with (h|h)|h
 ·exact .inl h
 ·exact .inr (.inl h)
 ·exact .inr (.inr λb=>.inr h)
theorem Scr.sq {K:PySem.W.Frag}{a:Addr}{xs:List V}{H:Hp}(h:Scr K a xs H):SqL K H a xs:=by
 rcases h with h|h|h
 ·exact .inl (.inl h)
 ·exact .inl (.inr h)
 ·exact h H
theorem Scr.keep {K:PySem.W.Frag}{a:Addr}{xs:List V}{H H':Hp}(h:Scr K a xs H)(k:∀ o,H a=some o->(o=.lst xs\/∃ u,o=.frz u (.lst xs))->(∀ H',SqL K H' a xs)\/H' a=some o):Scr K a xs H':=by
 rcases h with h|⟨o,h⟩|h
 ·rcases k _ h (.inl rfl) with z|z
  ·exact .inr (.inr z)
  ·exact .inl z
 ·rcases k _ h (.inr ⟨o,rfl⟩) with z|z
  ·exact .inr (.inr z)
  ·exact .inr (.inl ⟨o,z⟩)
 ·exact .inr (.inr h)
structure LE (K:PySem.W.Frag) (a l Pt:Addr) (xs:List V) (H:Hp):Prop where
 S:PkAt H l
 tab:TabQ qS Pt H
 scr:Scr K a xs H
 al:a≠l\/∀ H',SqL K H' a xs
section
variable {K:PySem.W.Frag}{a l Pt:Addr}{xs:List V}{H H':Hp}
theorem LE.same (h:LE K a l Pt xs H)(s:Same H H'):LE K a l Pt xs H':=⟨h.S.keep s,h.tab.same s,h.scr.keep λo e _=>.inr (s _ _ e),h.al⟩
theorem LE.pick (h:LE K a l Pt xs H)(d:PkAt H' l)(b:But l H H'):LE K a l Pt xs H':=by
 obtain⟨g,f,c,_⟩:=h.S.ex;refine⟨d,h.tab.but b c,h.scr.keep λo e _=>?_,h.al⟩;rcases h.al with z|z
 ·exact .inr (b _ _ e z)
 ·exact .inl z
theorem LE.ver (h:LE K a l Pt xs H)(t:TabQ qS Pt H')(b:But Pt H H'):LE K a l Pt xs H':=by
 obtain⟨ls,f,_⟩:=h.tab;obtain⟨x,y,d,r⟩:=h.S.ex;refine⟨⟨x,y,b _ _ d (xL d f λq=>by cases q),r⟩,t,h.scr.keep λo e c=>.inr (b _ _ e λq=>?_),h.al⟩;rw[q,f]at e;cases e;rcases c with c|⟨u,c⟩<;>cases c
end
section
variable {P:Program}{w:World}{K:PySem.W.Frag}{mg:Str->Option Value}{base:Heap}
theorem scW:FnScope ["_law_script","_law_k","_law_left_here","_law_net_here","_law_other","_law_book","_law_things","_law_thing","_law_found"] ["_law_script"] (zM fU):=by trivial
theorem eE {f fL fK fN fM fP fC fS fV fB Pt:Addr}{fd dL dK dN dM dP dC dS dV dB:FuncData}(F:Fun K "law" "law" fU f fd) (G:Mgs mg) (UL:Use P w K mg base "_law_left" ["_law_script","_law_k"] 2 (oA K) fL dL) (UK:Use P w K mg base "_law_pick" ["_law_left_here","_law_many"] 1 xj fK dK) (UN:Use P w K mg base "_law_merging_net" ["_law_left_here"] 8 pj fN dN) (UM:Use P w K mg base "merger" ["k"] 7 wk fM dM)
  (UP:Use P w K mg base "_law_placed" ["_law_left_here","_law_some"] 2 x9 fP dP) (UC:Use P w K mg base "_law_come_to" ["_law_net_here"] 3 oB fC dC) (US:Use P w K mg base "_law_spoilt" ["_law_left_here","_law_net_here","_law_book"] 4 (uE P w) fS dS) (UV:Use P w K mg base "shows_merge" ["net","thing"] 7 (uF P w K qS Pt) fV dV) (UB:Use P w K mg base "_law_is_book" ["_law_net_here","_law_thing"] 3 (sr P w) fB dB):FnOk P w K mg base CX0 9 f fd ["_law_script"] (nG K Pt):=by
 refine F.ok scW (λvs H Q E h=>?_) (λdz A outer s H vs Q E hr h=>?_)
 ·obtain⟨a,ns,rfl,_⟩:=h
  rfl
 obtain⟨a,ns,rfl,hS,dm,dd,k⟩:=h;have tab:TabQ qS Pt H:=⟨[],dd,λp hp=>absurd hp Jc⟩;have c1:Room 1 _:=hr.mono (by decide);have b1:Room 2 _:=hr.mono (by decide);have ax:Room 3 _:=hr.mono (by decide);have c0:Room 4 _:=hr.mono (by decide);have b0:Room 7 _:=hr.mono (by decide);refine⟨_,(@zG _ _ _ _ _ (@xa _ _ _ _ _ _ _ _ Yz rfl (@wM _ _ _ _ _ _ rfl G.range (@zA _ _ _ _ _ (@zP _ _ _ _ _ _ _ _ _ (vU rfl) (by rfl) G.max (by rfl) (@zA _ _ _ _ _ zE (@zA _ _ _ _ _ (@zP _ _ _ _ _ _ _ _ _ (lW rfl) (by rfl) G.min (by rfl) (@zA _ _ _ _ _ zE (@zA _ _ _ _ _ (@zP _ _ _ _ _ _ _ _ _ zV (by rfl) G.len JX (@zA _ _ _ _ _ (@qv _ 0 _ _ (by trivial)) zC (by rfl)) (by decide) (by decide) (by rfl) (by rfl)) zC (by rfl)) (by rfl)) (by decide) (by decide) (by rfl) (by rfl)) zC (by rfl)) (by rfl)) (by decide) (by decide) (by rfl) (by rfl)) zC (by rfl)) (by rfl)) (@zN _ _ 1 _ scW.nd rfl (.inl rfl) (by trivial)) (@zG _ _ _ _ _ (@zY _ _ 2 _ _ _ _ scW.nd rfl (.inr rfl) (@zL _ _ _ _ _ _ _ _ _ _ _ _ _ _ _ _ UL.ok b1 (by rfl) UL.m UL.kp UL.b .nil zW (@zA _ _ _ _ _ (@qv _ 0 _ _ (by trivial)) (@zA _ _ _ _ _ (@qv _ 1 _ _ (by trivial)) zC (by rfl)) (by rfl)) (by decide) (by rfl) (by rfl)) (by rfl) (by trivial)) (@zG _ _ _ _ _ (@yV _ _ _ _ _ _ (@zU _ _ _ _ _ (@zA _ _ _ _ _ (@zL _ _ _ _ _ _ _ _ _ _ _ _ _ _ _ _ UN.ok hr (by rfl) UN.m UN.kp UN.b .nil zW (@zA _ _ _ _ _ (@qv _ 2 _ _ (by trivial)) zC (by rfl)) (by decide) (by rfl) (by rfl)) (@zA _ _ _ _ _ (@zL _ _ _ _ _ _ _ _ _ _ _ _ _ _ _ _ UM.ok b0 (by rfl) UM.m UM.kp UM.b .nil zW (@zA _ _ _ _ _ (@zS _ _ _ _ _ _ _ _ yX zE (@zL _ _ _ _ _ _ _ _ _ _ _ _ _ _ _ _ UK.ok c1 (by rfl) UK.m UK.kp UK.b .nil zW (@zA _ _ _ _ _ (@qv _ 2 _ _ (by trivial)) (@zA _ _ _ _ _ zE zC (by rfl)) (by rfl)) (by decide) (by rfl) (by rfl))) zC (by rfl)) (by decide) (by rfl) (by rfl)) zC (by rfl)) (by rfl))) (@yW _ _ _ _ _ _ rfl (@zQ _ _ _ _ _ (@zN _ _ 3 _ scW.nd rfl (.inr rfl) (by trivial)) (@zQ _ _ _ _ _ (@zN _ _ 4 _ scW.nd rfl (.inl rfl) (by trivial)) yJ (by rfl)) (by rfl)) (by rfl) (by rfl)) (by rfl) (by rfl) (by rfl)) (@zG _ _ _ _ _ (@zY _ _ 5 _ _ _ _ scW.nd rfl (.inr rfl) (@zZ _ _ _ _ _ _ _ _ _ zu (by rfl) G.tuple (by rfl) (@zA _ _ _ _ _ (@zL _ _ _ _ _ _ _ _ _ _ _ _ _ _ _ _ UP.ok b1 (by rfl) UP.m UP.kp UP.b .nil zW (@zA _ _ _ _ _ (@qv _ 2 _ _ (by trivial)) (@zA _ _ _ _ _ (@zL _ _ _ _ _ _ _ _ _ _ _ _ _ _ _ _ UC.ok ax (by rfl) UC.m UC.kp UC.b .nil zW (@zA _ _ _ _ _ (@qv _ 3 _ _ (by trivial)) zC (by rfl)) (by decide) (by rfl) (by rfl)) zC (by rfl)) (by rfl)) (by decide) (by rfl) (by rfl)) zC (by rfl)) (by decide) (by decide) (by rfl) (by rfl)) (by rfl) (by trivial)) (@zG _ _ _ _ _ (@zY _ _ 6 _ _ _ _ scW.nd rfl (.inl rfl) (@yO _ _ _ _ (@zA _ _ _ _ _ vJ (@zA _ _ _ _ _ yu (@zA _ _ _ _ _ zE (@zA _ _ _ _ _ rS (@zA _ _ _ _ _ (@zU _ _ _ _ _ zC) (@zA _ _ _ _ _ (@yO _ _ _ _ zC) (@zA _ _ _ _ _ qR (@zA _ _ _ _ _ (@zU _ _ _ _ _ (@zA _ _ _ _ _ (@zU _ _ _ _ _ zC) zC (by rfl))) (@zA _ _ _ _ _ (@zU _ _ _ _ _ (@zA _ _ _ _ _ (@zU _ _ _ _ _ (@zA _ _ _ _ _ (@zU _ _ _ _ _ zC) (@zA _ _ _ _ _ zE (@zA _ _ _ _ _ zE zC (by rfl)) (by rfl)) (by rfl))) zC (by rfl))) (@zA _ _ _ _ _ (@zZ _ _ _ _ _ _ _ _ _ zu (by rfl) G.tuple (by rfl) (@zA _ _ _ _ _ (@zL _ _ _ _ _ _ _ _ _ _ _ _ _ _ _ _ UC.ok ax (by rfl) UC.m UC.kp UC.b .nil zW (@zA _ _ _ _ _ (@qv _ 4 _ _ (by trivial)) zC (by rfl)) (by decide) (by rfl) (by rfl)) zC (by rfl)) (by decide) (by decide) (by rfl) (by rfl)) (@zA _ _ _ _ _ (@qv _ 5 _ _ (by trivial)) (@zA _ _ _ _ _ (@yI _ _ _ _ _ _ _ _ _ _ yc (@qv _ 5 _ _ (by trivial)) yN (@zx _ _ _ zE)) zC (by rfl)) (by rfl)) (by rfl)) (by rfl)) (by rfl)) (by rfl)) (by rfl)) (by rfl)) (by rfl)) (by rfl)) (by rfl)) (by rfl))) (by rfl) (by trivial)) (@zK _ _ _ (@xa _ _ _ _ _ _ _ _ Yz rfl (@vm _ _ _ _ (@zS _ _ _ _ _ _ _ _ vL (@qv _ 6 _ _ (by trivial)) (@wq _ _ _ _ none _ _ _ _ _ _ ["_law_turn","_law_left_here","_law_net_here","_law_book"] [none,some 2,some 3,some 5] rfl (@wM _ _ _ _ _ _ rfl G.range (@zA _ _ _ _ _ zE zC (by rfl)) (by rfl)) (CapOk.of (by kernel_rfl)) (λ_ _ _ _ _=>(@zN _ _ 0 _ (show (["_law_turn","_law_left_here","_law_net_here","_law_book"]:List Str).Nodup from by decide +kernel) rfl (.inl rfl) (.inr rfl))) (λ_ _ _ _ _=>yx) (λ_ _ _ _ _=>(@zL _ _ _ _ _ _ _ _ _ _ _ _ _ _ _ _ US.ok c0 (by rfl) US.m US.kp US.b .nil zW (@zA _ _ _ _ _ (@qv _ 1 _ _ (by trivial)) (@zA _ _ _ _ _ (@qv _ 2 _ _ (by trivial)) (@zA _ _ _ _ _ (@qv _ 3 _ _ (by trivial)) zC (by rfl)) (by rfl)) (by rfl)) (by decide) (by rfl) (by rfl))) (by intro _;rfl)))) (@zN _ _ 7 _ scW.nd rfl (.inl rfl) (by trivial)) (@zG _ _ _ _ _ (@zY _ _ 8 _ _ _ _ scW.nd rfl (.inl rfl) (@zL _ _ _ _ _ _ _ _ _ _ _ _ _ _ _ _ UV.ok b0 (by rfl) UV.m UV.kp UV.b .nil zW (@zA _ _ _ _ _ (@qv _ 3 _ _ (by trivial)) (@zA _ _ _ _ _ (@qv _ 7 _ _ (by trivial)) zC (by rfl)) (by rfl)) (by decide) (by rfl) (by rfl)) (by rfl) (by trivial)) (@zK _ _ _ (@ya _ _ _ _ _ _ _ _ (@wn _ _ _ _ _ _ _ (@xZ _ _ _ _ (@xR _ _ _ (@zP _ _ _ _ _ _ _ _ _ xG (by rfl) G.isi (by rfl) (@zA _ _ _ _ _ (@qv _ 8 _ _ (by trivial)) (@zA _ _ _ _ _ (@xC _ _ (.ty "bool") (.type "bool") _ (by rfl) G.bool (by rfl) rfl (by decide) (by decide)) zC (by rfl)) (by rfl)) (by decide) (by decide) (by rfl) (by rfl)) (by intro _;rfl))) (@wC _ _ _ _ (@zp _ _ _ _ _ _ _ _ tS (@qv _ 8 _ _ (by trivial)) (@zL _ _ _ _ _ _ _ _ _ _ _ _ _ _ _ _ UB.ok ax (by rfl) UB.m UB.kp UB.b .nil zW (@zA _ _ _ _ _ (@qv _ 3 _ _ (by trivial)) (@zA _ _ _ _ _ (@qv _ 7 _ _ (by trivial)) zC (by rfl)) (by rfl)) (by decide) (by rfl) (by rfl)) (yC _)))).pt (@zK _ _ _ (@zT _ _ _ _ yu)) zw))) (by intro _;rfl))))))) (by intro _;rfl)) (@zK _ _ _ (@zT _ _ _ _ yu))),?_⟩;refine⟨_,rfl,a,_,rfl,.inl hS,_,_,rfl,_,_,rfl,_,rfl,?_,?_,?_⟩
 ·split<;>split<;>lia
 ·rw[Jg];split<;>split<;>lia
 refine vP (lo:=0) (λi σ g=>(∃ v1 v2 v3 v4 v5 v6 v7 v8,σ=[some (.ref a),v1,v2,v3,v4,v5,v6,v7,v8])/\Scr K a (ns.map V.int) g/\TabQ qS Pt g) ⟨⟨_,_,_,_,_,_,_,_,rfl⟩,Scr.of hS,tab⟩ ?_ (λσ g _=>k g);rintro i σ g hi ⟨⟨v1,v2,v3,v4,v5,v6,v7,v8,rfl⟩,ad,tab⟩
 have ib:i<31:=by
  have:(if (if ((ns.map V.int).length:Int)<4 then ((ns.map V.int).length:Int) else 4) > 1 then (if ((ns.map V.int).length:Int)<4 then ((ns.map V.int).length:Int) else 4) else 1)<=30:=by split<;>split<;>lia
  lia
 clear hi;refine⟨_,rfl,_,rfl,a,ns,_,rfl,ad.sq,dm,by lia,by lia,λl H3 hl I S3=>?_⟩
 have ar:LE K a l Pt (ns.map V.int) H3:=⟨S3,tab.same I,ad.keep λo e _=>.inr (I _ _ e),by
  rcases ad with z|⟨o,z⟩|z
  ·exact .inl (zH z hl)
  ·exact .inl (zH z hl)
  ·exact .inr z⟩
 clear ad tab I hl S3;refine⟨_,rfl,l,rfl,ar.S,λr fr er ps N H4 ok ev n8 ct a0 S4 B4=>?_⟩;have bh:=ar.pick S4 B4;refine⟨_,rfl,l,2,rfl,by decide,by decide,S4,λv H5 hv S5 B5=>?_⟩;have ba:=bh.pick S5 B5;have aZ:=a0.tups (B5.tups S4);refine⟨_,_,rfl,rfl,v,JV (λz=>[V.int z]) (by lia),by lia,λr2 dn dp cf H6 s6 O=>⟨by show 2<=sizeLine;decide,λpt b2=>?_⟩⟩;have s7:=zD b2 (.tup [.ref r,.ref r2]);have ak:=qP (uR (show v<4 by lia))
 have cb:(y4 (yU v)).lanes%2=0:=by
  show 2 ^ (v+1)%2=0;rw[Zi];lia
 have aN:(y4 (yU v)).lanes<=8/\(y4 (yU v)).forks.length<=13:=by
  obtain⟨m1,m2⟩:=wd v (by lia);exact⟨m2,by rw[wb];lia⟩
 refine⟨pt,_,rfl,SqT.of zB,rfl,_,_,rfl,_,_,rfl,rfl,?_⟩;have aq:=(ba.same s6).same s7;have ao:=aZ.tups (Tups.of (s6.trans s7));have aW:=O.tups (Tups.of s7);generalize y4 (yU v)=M at *;generalize L2.upd H6 pt (.tup [.ref r,.ref r2])=H7 at *;clear s7 b2 s6 O ba aZ bh a0 ar B4 B5 S4 S5;refine⟨_,rfl,_,rfl,r,fr,er,ps,N,rfl,ok,ev,ao,n8,ct,λlc bs ks H8 s8 ah b5 aw aT kp kl=>?_⟩;have ae:=aq.same s8;have aU:lc≠l:=(aq.S.ne ah).symm;have bl:=Yw aw;have aO:(bs.map V.ref).length=bs.length:=Jg _;refine⟨l,lc,_,rfl,ae.S,aU,.inl b5,by lia,λp ys H9 pm hp b3 S9 B9=>⟨p,ys,rfl,.inl ⟨SqL.of b3,λbk b8=>?_⟩⟩⟩;have ag:=KpM.butA B9 ae.S S9;obtain⟨d,R,rfl,bS,pk⟩:=mY pm rfl (aw.tups ag.tups);have sA:=zD b8 (.tup (d.map V.ref));have ap:=(ae.pick S9 B9).same sA;have aY:=((ao.tups (Tups.of s8)).tups ag.tups).tups (Tups.of sA);have aV:=((aW.tups (Tups.of s8)).tups ag.tups).tups (Tups.of sA);have av:=bS.tups (Tups.of sA);have aj:∀ k∈R,OkM N k:=λk hk=>aT k (pk.mem_iff.mp hk);have bx:0<R.length:=by rw[pk.length_eq];exact kp
 have bB:R.length<=524288:=by rw[pk.length_eq];exact kl
 have ai:L2.upd H9 bk (.tup (d.map V.ref)) bk=some (.tup (d.map V.ref)):=zB;refine o7 (λ_ _=>True) ?_;show qL _ _ _ _ (L2.upd H9 bk (.tup (d.map V.ref)));generalize L2.upd H9 bk (.tup (d.map V.ref))=HA at *;clear sA b8 bS ag pm hp b3 S9 B9 aU b5 ah aw s8 ae aq ao aW bl aO aT kp kl pk;have bl:=Yw av;have aO:(d.map V.ref).length=d.length:=Jg _;refine⟨by show 0<=sizeLine;decide,λt1 h1=>⟨by show 0<=sizeLine;decide,λt2 h2=>λZ h3=>⟨by show 0<=sizeLine;decide,λt4 h4=>⟨by show 1<=sizeLine;decide,λY h5=>⟨by show 0<=sizeLine;decide,λt6 h6=>⟨by show 3<=sizeLine;decide,λt7 h7=>⟨by show 1<=sizeLine;decide,λX h8=>?_⟩⟩⟩⟩⟩⟩⟩;have a1:=zD h1 (.tup []);have a2:=zD h2 (.lst []);have a3:=zD h3 (.dK []);have a4:=zD h4 (.tup []);have a5:=zD h5 (.tup [.ref t4]);have a6:=zD h6 (.tup []);have a7:=zD h7 (.tup [.ref t6,.int 0,.int 0]);have a8:=zD h8 (.tup [.ref t7]);have w8:=((((((a1.trans a2).trans a3).trans a4).trans a5).trans a6).trans a7).trans a8;refine⟨_,rfl,r2,dn,dp,cf,M,rfl,ak,cb,aV.tups (Tups.of w8),aN.1,aN.2,λlc dt dy HB sB ah b4 au aa cH cP=>⟨lc,_,rfl,.inl ⟨SqL.of b4,λU h9=>?_⟩⟩⟩;have a9:=zD h9 (.tup (dt.map V.ref));have w9:=(w8.trans sB).trans a9;refine⟨_,rfl,_,rfl,_,rfl,bk,_,rfl,w9 _ _ ai,λt HC sC b9=>⟨by show 12<=sizeLine;decide,λlt ay=>?_⟩⟩;have aL:=zD ay (.lst [.non,.bl true,.int 0,.str "",.ref t1,.ref t2,.ref Z,.ref Y,.ref X,.ref U,.ref bk,.ref t]);have wL:=(w9.trans sC).trans aL;have c9:=a9.trans (sC.trans aL);have c8:=a8.trans (sB.trans c9);have c7:=a7.trans c8;have c6:=a6.trans c7;have c5:=a5.trans c6;have c4:=a4.trans c5;have c3:=a3.trans c4;have c2:=a2.trans c3;have af:=av.tups (Tups.of wL)
 have dk:∀ {HX:Hp},KeysAt HX d R->∀ y∈d.map V.ref,Dp HX 2 y:=λ{HX} kx y T=>by
  obtain⟨b,bm,rfl⟩:=JJ.mp T;obtain⟨k,hk,kb⟩:=kx.mem b bm;exact Dp.knot ok (aj k hk) kb
 have dx:=Yw au
 have aS:∀ y∈([.non,.bl true,.int 0,.str "",.ref t1,.ref t2,.ref Z,.ref Y,.ref X,.ref U,.ref bk,.ref t]:List V),Thg P w (L2.upd HC lt (.lst [.non,.bl true,.int 0,.str "",.ref t1,.ref t2,.ref Z,.ref Y,.ref X,.ref U,.ref bk,.ref t])) y:=λy T=>by
  simp only[Ja,Jc,JG]at T;rcases T with rfl|rfl|rfl|rfl|rfl|rfl|rfl|rfl|rfl|rfl|rfl|rfl
  ·exact .flat trivial
  ·exact .flat trivial
  ·exact .flat trivial
  ·exact .flat trivial
  ·exact .tup (xs:=[]) (c2 _ _ zB) (by decide) λz J=>(nomatch J)
  ·exact .lst (c3 _ _ zB)
  ·exact .dict (c4 _ _ zB)
  ·refine .tup (c6 _ _ zB) (by show 1<=600000;decide) λz J=>?_
   rw[Js.mp J];exact(Dp.tup (n:=1) (xs:=[]) (c5 _ _ zB) (by decide) λu hu=>(nomatch hu)).k
  ·refine .tup (sB.trans c9 |>.trans (Same.refl _) |> λz=>z _ _ zB) (by show 1<=600000;decide) λz J=>?_
   rw[Js.mp J];refine(Dp.tup (n:=1) (c8 _ _ zB) (by show 3<=1000;decide) λu hu=>?_).k;simp only[Ja,Jc,JG]at hu;rcases hu with rfl|rfl|rfl
   ·exact .tup (n:=0) (xs:=[]) (c7 _ _ zB) (by decide) λu hu=>(nomatch hu)
   ·exact .flat trivial
   ·exact .flat trivial
  ·refine .tup ((sC.trans aL) _ _ zB) (by rw[Jg];lia) λz J=>?_
   obtain⟨b,bm,rfl⟩:=JJ.mp J;obtain⟨k,hk,kb⟩:=au.mem b bm;exact(Dp.knot ak (aa k hk) (kb.tups (Tups.of c9))).k
  ·exact .tup (wL _ _ ai) (by lia) λz J=>(dk af z J).k
  ·refine .tup (aL _ _ b9) ?_ λz J=>(dk af z (vS J)).k
   rw[show (some (1:Int))=some (((1:Nat)):Int) from rfl,yo _ 1 (by lia),JC];lia
 have D:=ap.same wL;have am:=aY.tups (Tups.of wL);have b7:=wL _ _ ai;have az:L2.upd HC lt (.lst [.non,.bl true,.int 0,.str "",.ref t1,.ref t2,.ref Z,.ref Y,.ref X,.ref U,.ref bk,.ref t]) lt=some (.lst [.non,.bl true,.int 0,.str "",.ref t1,.ref t2,.ref Z,.ref Y,.ref X,.ref U,.ref bk,.ref t]):=zB;have cx:lt≠l:=((ap.S.keep (w9.trans sC)).ne ay).symm;have bo:([.non,.bl true,.int 0,.str "",.ref t1,.ref t2,.ref Z,.ref Y,.ref X,.ref U,.ref bk,.ref t]:List V).length=12:=rfl;show Ends.nx _ _ (L2.upd HC lt (.lst [.non,.bl true,.int 0,.str "",.ref t1,.ref t2,.ref Z,.ref Y,.ref X,.ref U,.ref bk,.ref t]));generalize L2.upd HC lt (.lst [.non,.bl true,.int 0,.str "",.ref t1,.ref t2,.ref Z,.ref Y,.ref X,.ref U,.ref bk,.ref t])=HL at *;generalize ([.non,.bl true,.int 0,.str "",.ref t1,.ref t2,.ref Z,.ref Y,.ref X,.ref U,.ref bk,.ref t]:List V)=B at *;clear wL c9 c8 c7 c6 c5 c4 c3 c2 aL sC a9 sB w9 w8 a1 a2 a3 a4 a5 a6 a7 a8 ay b9 h9 b4 ah h1 h2 h3 h4 h5 h6 h7 h8 au aa cH cP dx dk ap aY aV av ai ak cb aN;refine⟨_,rfl,_,rfl,by decide,by decide,λl9 S=>?_⟩;have s0:=zD S (.lst []);have n9:l9≠l:=(D.S.ne S).symm;have cm:lt≠l9:=zH az S;refine lE (lo:=0) (n:=(10:Int).toNat) (λj acc σ g=>(∃ v0,σ=[v0,some (.ref l),some (.ref r),some (.ref bk)])/\PkAt g l/\But l HL g/\g l9=some (.lst acc)/\acc.length=j/\∀ y∈acc,Thg P w g y) ⟨⟨_,rfl⟩,D.S.keep s0,But.of s0,zB,rfl,λy T=>(nomatch T)⟩ (λj acc σ g z=>z.2.2.2.1) ?_ ?_
 ·rintro j acc σ g hj ⟨⟨v0,rfl⟩,S2,C,h2,al,ta⟩
  have k2:=KpM.butA C D.S S2;refine⟨_,rfl,_,rfl,_,rfl,l,r,fr,er,ps,N,bk,d,R,rfl,S2,ok,am.tups k2.tups,k2.tup _ _ b7,af.tups k2.tups,aj,bx,bB,λy H3 ty S3 B3=>?_⟩;have h3:=B3 _ _ h2 n9;refine⟨h3,by rw[al,JM];have:j<10:=hj;lia,nx hj ⟨⟨_,rfl⟩,S3.upd n9.symm,λb o e n=>?_,zB,by rw[Jd,al];rfl,λz J=>?_⟩⟩
  ·rw[zJ (zH e S)];exact B3 _ _ (C b o e n) n
  ·rcases Ju.mp J with e|e
   ·exact Thg.list h3 (Thg.but B3 S2 S3 (ta z e))
   ·rw[Js.mp e];exact Thg.list h3 ty
 rintro acc σ g ⟨⟨v0,rfl⟩,S2,C,h2,al,ta⟩;have le2:=D.pick S2 C;have k2:=KpM.butA C D.S S2;have ab:=C _ _ az cx;refine⟨lt,l9,_,_,rfl,rfl,ab,h2,by rw[bo,al];decide,λl3 b6=>?_⟩;have I:=zD b6 (.lst (B++acc));refine⟨l3,rfl,⟨_,SqL.of zB⟩,?_⟩;have cz:=le2.same I;have ck:=(am.tups k2.tups).tups (Tups.of I)
 have cc:∀ y∈B++acc,Thg P w (L2.upd g l3 (.lst (B++acc))) y:=λy T=>by
  rcases Ju.mp T with e|e
  ·exact Thg.same I (Thg.but C D.S S2 (aS y e))
  ·exact Thg.same I (ta y e)
 have hX:L2.upd g l3 (.lst (B++acc)) l3=some (.lst (B++acc)):=zB;show ∃ W:Nat->Nat->St->Hp->Prop,(∃ m,W 0 m _ (L2.upd g l3 (.lst (B++acc))))/\_;generalize L2.upd g l3 (.lst (B++acc))=HX at *;generalize B++acc=all at *;clear I b6 ab h2 al ta k2 le2 C S2 cm s0 S aS az am D af b7 bx bB aj bl aO bo;refine pE (K:=K) (a:=l3) (xs:=all) (λj σ L=>(∃ v7 v8,σ=[some (.ref a),some (.int (0+(i:Nat))),some (.ref l),some (.ref r),some (.ref r2),some (.ref bk),some (.ref lt),v7,v8])/\LE K a l Pt (ns.map V.int) L/\NetAt L r fr er ps N/\L l3=some (.lst all)/\∀ y∈all,Thg P w L y) ⟨⟨_,_,rfl⟩,cz,ck,hX,cc⟩ (λj σ L _ z=>SqL.of z.2.2.2.1) ?_ ?_
 rotate_left
 ·rintro σ L ⟨⟨v7,v8,rfl⟩,leZ,_,_,_⟩
  exact⟨⟨_,_,_,_,_,_,_,_,rfl⟩,leZ.scr,leZ.tab⟩
 rintro j x σ L hx ⟨⟨v7,v8,rfl⟩,leZ,aX,hZ,aR⟩;have tx:=aR x (Jz hx);refine⟨_,rfl,_,rfl,r,fr,er,ps,N,x,rfl,ok,ev,aX,tx.1,tx.2,leZ.tab,λg C aP=>?_⟩;have k2:=KpM.tab leZ.tab C;have aQ:=Thg.tab leZ.tab C tx;have O:=aX.tups k2.tups;have dr:∀ b ys,L b=some (DN P w b ys)->g b=some (DN P w b ys):=λb ys e=>C _ _ e (xL e leZ.tab.choose_spec.1 λq=>by cases q);have dq:bmV N g x=bmV N L x:=gh k2 dr tx;refine gX (c:=bmV N L x) rfl ?_;generalize bmV N L x=found at *;refine⟨_,rfl,_,"bool",_,true,rfl,.bl found,rfl,_,rfl,zr ⟨_,rfl,_,rfl,_,rfl,r,fr,er,ps,N,x,rfl,ok,ev,O,aQ.1,aQ.2,λH3 I=>?_⟩⟩;refine cX (c:=found) dq ?_;refine⟨rfl,_,rfl,?_⟩;rw[show (!decide (V.bl found=V.bl found))=false by rw[Jw rfl];rfl];exact zr ⟨⟨_,_,rfl⟩,(leZ.ver aP C).same I,O.tups (Tups.of I),I _ _ (C _ _ hZ (xL hZ leZ.tab.choose_spec.1 λz=>by cases z)),λy T=>Thg.same I (Thg.tab leZ.tab C (aR y T))⟩
end
structure FnAt (K:PySem.W.Frag) (x:Str) (st:Stmt) (f:Addr) (fd:FuncData):Prop where
 ns:PySem.W.nsIn K mainGlobals x=some (some (.ref f))
 fn:Fun K x x st f fd
theorem yG {K:PySem.W.Frag}{x:Str}{st:Stmt}{f:Addr}{oc:Value}{od an:Option Addr}{osl:Array (Option Value)}{kV doc pm cdv ct:Value}(a:PySem.W.nsIn K mainGlobals x=some (some (.ref f)))(l:K.lookup f=some ⟨oc,od,.func (PySem.W.fnOf x x (xO st) (yk st) (zM st) .none kV doc pm an cdv ct),osl⟩)(c:PySem.W.codeIn K cdv x=true)(k:PySem.W.keepIn K (.ref f)=true):FnAt K x st f (PySem.W.fnOf x x (xO st) (yk st) (zM st) .none kV doc pm an cdv ct):=⟨a,dH l c k⟩
structure FnAtC (K:PySem.W.Frag) (x:Str) (st:Stmt) (f:Addr) (fd:FuncData) (c:Addr):Prop where
 ns:PySem.W.nsIn K mainGlobals x=some (some (.ref f))
 fn:FunC K x x st f fd c
theorem dJ {K:PySem.W.Frag}{x:Str}{st:Stmt}{f c:Addr}{oc:Value}{od an:Option Addr}{osl:Array (Option Value)}{kV doc pm ct:Value}(a:PySem.W.nsIn K mainGlobals x=some (some (.ref f)))(l:K.lookup f=some ⟨oc,od,.func (PySem.W.fnOf x x (xO st) (yk st) (zM st) .none kV doc pm an (.ref c) ct),osl⟩)(cd:PySem.W.codeIn K (.ref c) x=true)(k:PySem.W.keepIn K (.ref f)=true):FnAtC K x st f (PySem.W.fnOf x x (xO st) (yk st) (zM st) .none kV doc pm an (.ref c) ct) c:=⟨a,⟨⟨_,_,_,_,_,_,_,_,rfl,l,cd⟩,k⟩⟩
theorem _root_.L2.FunC.fun {K:PySem.W.Frag}{x qual:Str}{st:Stmt}{f:Addr}{fd:FuncData}{c:Addr}(F:FunC K x qual st f fd c):Fun K x qual st f fd:=by
 obtain⟨d,b,kV,doc,pm,an,g,a,e,l,q⟩:=F.ex;exact⟨⟨d,b,kV,doc,pm,an,.ref c,g,a,e,l,q⟩,F.kp⟩
theorem lV {K:PySem.W.Frag}{c P:Addr}{od:Option Addr}{vs:Array Value}{osl:Array (Option Value)}(l:K.lookup c=some ⟨.type "code",od,.fields vs,osl⟩) (e:PySem.W.codeHdIn [(c,⟨.type "code",od,.fields vs,osl⟩)] c P=true):PySem.W.codeHdIn K c P=true:=by
 have q:List.lookup c [(c,(⟨.type "code",od,.fields vs,osl⟩:Obj))]=some ⟨.type "code",od,.fields vs,osl⟩:=by rw[Ys,beq_self_eq_true]
 unfold PySem.W.codeHdIn at e ⊢;rw[q]at e;rw[l];exact e
theorem us1 {us:List Value}(h:us.length=1):∃ a,us=[a]:=by
 match us,h with
 | [a],_=>exact⟨a,rfl⟩
theorem us2 {us:List Value}(h:us.length=2):∃ b a,us=[b,a]:=by
 match us,h with
 | [b,a],_=>exact⟨b,a,rfl⟩
theorem us3 {us:List Value}(h:us.length=3):∃ c b a,us=[c,b,a]:=by
 match us,h with
 | [c,b,a],_=>exact⟨c,b,a,rfl⟩
theorem us4 {us:List Value}(h:us.length=4):∃ c b a u3,us=[c,b,a,u3]:=by
 match us,h with
 | [c,b,a,u3],_=>exact⟨c,b,a,u3,rfl⟩
theorem us5 {us:List Value}(h:us.length=5):∃ d c b u3 a,us=[d,c,b,u3,a]:=by
 match us,h with
 | [d,c,b,u3,a],_=>exact⟨d,c,b,u3,a,rfl⟩
set_option maxHeartbeats 4000001 in
theorem df {l:PySem.W.OpenLaw}{w:World}{K:PySem.W.Frag}{h:Heap}{mg:Str->Option Value}{fa f1 f2 f3 f4 f5 f6 f7 f8 f9 aO aN aL az ay ax aw av au ar aq ap ao am ak aj ai ah ag af ae ad ab aa Z Y W eh:Addr}{d1 d2 d3 d4 d5 d6 d7 d8 d9 cc cb b0 bS bx bo bl bh ba a9 a8 a7 a6 a5 a4 a3 a0 aZ aY aX aW aV aU aT aS aR aQ aP:FuncData}(X:K.In h) (G:h.Ns mainGlobals mg) (eg:mg "law" = some (.ref fa))
  {g Pt:Addr}
  (A1:FnAt K "is_whole" oF f1 d1)
  (A2:FnAt K "is_below" oM f2 d2)
  (A3:FnAt K "is_row" oJ f3 d3)
  (A4:FnAt K "are_below" vH f4 d4)
  (A5:FnAt K "_law_cell_at" ke f5 d5)
  (A6:FnAt K "_law_left" kW f6 d6)
  (A7:FnAt K "_law_pick" kT f7 d7)
  (A8:FnAt K "_law_of" sOf f8 d8)
  (A9:FnAt K "_law_placed" rG f9 d9)
  (Q:FnAt K "_law_net" fQ aO cc)
  (P:FnAt K "layers" rK aN cb)
  (O:FnAt K "plain" oH aL b0)
  (N:FnAt K "power_of_two" fJ az bS)
  (L:FnAt K "row_of" oG ay bx)
  (J:FnAt K "net_of" uK ax bo)
  (I:FnAt K "by_turns" sBy aw bl)
  (H:FnAt K "merger_of" wA av bh)
  (F:FnAt K "merger" rJ au ba)
  (E:FnAt K "_law_merging_net" kU ar a9)
  (D:FnAt K "end_of" fZ aq a8)
  (C:FnAt K "run_through" fI ap a7)
  (B:FnAt K "passed" rH ao a6)
  (A:FnAt K "first_turns" rN am a5)
  (z:FnAt K "first_knot" rO ak a4)
  (y:FnAt K "knot_behind" oI aj a3)
  (x:FnAt K "is_knot" rL ai a0)
  (u:FnAt K "is_book" rM ah aZ)
  (t:FnAtC K "shows_merge" xk ag aY g)
  (r:FnAt K "_law_ball" kf af aX)
  (q:FnAt K "_law_after" oN ae aW)
  (o:FnAt K "_law_whole" fH ad aV)
  (n:FnAt K "_law_is_knot" kX ab aU)
  (m:FnAt K "_law_is_book" kY aa aT)
  (k:FnAt K "_law_come_to" kZ Z aS)
  (j:FnAt K "_law_bent" oK Y aR)
  (i:FnAt K "_law_spoilt" rF W aQ)
  (U:FnAt K "law" fU eh aP)
  (z1:PySem.W.nsIn K mainGlobals "len" = some none)
  (z2:PySem.W.nsIn K mainGlobals "range" = some none)
  (z3:PySem.W.nsIn K mainGlobals "tuple" = some none)
  (z4:PySem.W.nsIn K mainGlobals "enumerate" = some none)
  (z5:PySem.W.nsIn K mainGlobals "abs" = some none)
  (z6:PySem.W.nsIn K mainGlobals "zip" = some none)
  (z7:PySem.W.nsIn K mainGlobals "isinstance" = some none)
  (z8:PySem.W.nsIn K mainGlobals "all" = some none)
  (z9:PySem.W.nsIn K mainGlobals "sum" = some none)
  (c5:PySem.W.nsIn K mainGlobals "bool" = some none)
  (c4:PySem.W.nsIn K mainGlobals "int" = some none)
  (c3:PySem.W.nsIn K mainGlobals "str" = some none)
  (c2:PySem.W.nsIn K mainGlobals "max" = some none)
  (c1:PySem.W.nsIn K mainGlobals "min" = some none)
  (c0:PySem.W.nsIn K mainGlobals "sorted" = some none)
  (cP:PySem.W.nsIn K mainGlobals "list" = some none)
  (cz:PySem.W.nsIn K mainGlobals "dict" = some none)
  {T:Addr}{ef ec:Tok}{c7:Array (Option Value)}{c8:Nat}{ei:Option Addr}(cx:PySem.W.nsIn K mainGlobals "HALVES" = some (some (.ref T))) (eb:K.lookup T=some ⟨.type "tuple",ei,.seq #[.int 0 ef,.int 1 ec] c8,c7⟩)
  (cH:PySem.W.codeHdIn K g Pt=true) (c9:mainGlobals≠Pt) (kP:K.lookup Pt=none)
  (zd:PySem.W.nsIn K cStatics "sys.int_max_str_digits" = some none)
  : (K.lookup Pt=none/\∃ c,PySem.W.codeHdIn K c Pt=true)/\∃ fd:FuncData,(∀ (s:Shared) (v:Value),BindsTo s fd ⟨[v],[]⟩ [("_law_script",v)])/\∀ base:Heap,K.In base->base.Ns mainGlobals mg->(∀ p∈[Pt],base.BuiltinsAt mg p)->FnOk l.prog w K mg base CX0 9 fa fd ["_law_script"] (nG K Pt):=by
 have e:=eg.symm.trans (JF X G U.ns);cases e;have M:Mgs mg:=⟨Y0 X G z1,Y0 X G z2,Y0 X G z3,Y0 X G z4,Y0 X G z5,Y0 X G z6,Y0 X G z7,Y0 X G z8,Y0 X G z9,Y0 X G c5,Y0 X G c4,Y0 X G c3,Y0 X G c2,Y0 X G c1,Y0 X G c0,Y0 X G cP⟩;have M2:MgD mg:=⟨Y0 X G cz⟩;have b1:=A1.fn.binds (ps:=["thing"]) λ_ _ _ _ _ _ b a=>by obtain⟨d,rfl⟩:=us1 a;rfl
 have m1:=JF X G A1.ns;have b2:=A2.fn.binds (ps:=["thing","bound"]) λ_ _ _ _ _ _ b a=>by obtain⟨d,f,rfl⟩:=us2 a;rfl
 have m2:=JF X G A2.ns;have b3:=A3.fn.binds (ps:=["thing","many"]) λ_ _ _ _ _ _ b a=>by obtain⟨d,f,rfl⟩:=us2 a;rfl
 have m3:=JF X G A3.ns;have b4:=A4.fn.binds (ps:=["thing","many","bound"]) λ_ _ _ _ _ _ b a=>by obtain⟨d,f,R,rfl⟩:=us3 a;rfl
 have m4:=JF X G A4.ns;have b5:=A5.fn.binds (ps:=["_law_script","_law_k"]) λ_ _ _ _ _ _ b a=>by obtain⟨d,f,rfl⟩:=us2 a;rfl
 have m5:=JF X G A5.ns;have b6:=A6.fn.binds (ps:=["_law_script","_law_k"]) λ_ _ _ _ _ _ b a=>by obtain⟨d,f,rfl⟩:=us2 a;rfl
 have m6:=JF X G A6.ns;have b7:=A7.fn.binds (ps:=["_law_left_here","_law_many"]) λ_ _ _ _ _ _ b a=>by obtain⟨d,f,rfl⟩:=us2 a;rfl
 have m7:=JF X G A7.ns;have b8:=A8.fn.binds (ps:=["_law_left_here","_law_some"]) λ_ _ _ _ _ _ b a=>by obtain⟨d,f,rfl⟩:=us2 a;rfl
 have m8:=JF X G A8.ns;have b9:=A9.fn.binds (ps:=["_law_left_here","_law_some"]) λ_ _ _ _ _ _ b a=>by obtain⟨d,f,rfl⟩:=us2 a;rfl
 have m9:=JF X G A9.ns;have e9:=Q.fn.binds (ps:=["_law_left_here","_law_lanes","_law_most"]) λ_ _ _ _ _ _ b a=>by obtain⟨d,f,R,rfl⟩:=us3 a;rfl
 have ea:=JF X G Q.ns;have e8:=P.fn.binds (ps:=["net"]) λ_ _ _ _ _ _ b a=>by obtain⟨d,rfl⟩:=us1 a;rfl
 have dY:=JF X G P.ns;have e6:=O.fn.binds (ps:=["net"]) λ_ _ _ _ _ _ b a=>by obtain⟨d,rfl⟩:=us1 a;rfl
 have dW:=JF X G O.ns;have e5:=N.fn.binds (ps:=["many"]) λ_ _ _ _ _ _ b a=>by obtain⟨d,rfl⟩:=us1 a;rfl
 have dV:=JF X G N.ns;have e4:=L.fn.binds (ps:=["k"]) λ_ _ _ _ _ _ b a=>by obtain⟨d,rfl⟩:=us1 a;rfl
 have dT:=JF X G L.ns;have e3:=J.fn.binds (ps:=["row","made"]) λ_ _ _ _ _ _ b a=>by obtain⟨d,f,rfl⟩:=us2 a;rfl
 have dS:=JF X G J.ns;have e1:=I.fn.binds (ps:=["one","other"]) λ_ _ _ _ _ _ b a=>by obtain⟨d,f,rfl⟩:=us2 a;rfl
 have dR:=JF X G I.ns;have cf:=H.fn.binds (ps:=["one","other"]) λ_ _ _ _ _ _ b a=>by obtain⟨d,f,rfl⟩:=us2 a;rfl
 have V:=JF X G H.ns;have e0:=F.fn.binds (ps:=["k"]) λ_ _ _ _ _ _ b a=>by obtain⟨d,rfl⟩:=us1 a;rfl
 have dP:=JF X G F.ns;have eT:=E.fn.binds (ps:=["_law_left_here"]) λ_ _ _ _ _ _ b a=>by obtain⟨d,rfl⟩:=us1 a;rfl
 have dO:=JF X G E.ns;have eS:=D.fn.binds (ps:=["net","lane"]) λ_ _ _ _ _ _ b a=>by obtain⟨d,f,rfl⟩:=us2 a;rfl
 have dM:=JF X G D.ns;have eN:=C.fn.binds (ps:=["net","turns","lane","back"]) λ_ _ _ _ _ _ b a=>by obtain⟨d,f,R,u3,rfl⟩:=us4 a;rfl
 have dK:=JF X G C.ns;have eH:=B.fn.binds (ps:=["net","turns","lane"]) λ_ _ _ _ _ _ b a=>by obtain⟨d,f,R,rfl⟩:=us3 a;rfl
 have dF:=JF X G B.ns;have eF:=A.fn.binds (ps:=["net"]) λ_ _ _ _ _ _ b a=>by obtain⟨d,rfl⟩:=us1 a;rfl
 have dD:=JF X G A.ns;have ez:=z.fn.binds (ps:=["net"]) λ_ _ _ _ _ _ b a=>by obtain⟨d,rfl⟩:=us1 a;rfl
 have dC:=JF X G z.ns;have ey:=y.fn.binds (ps:=["net","knot","half"]) λ_ _ _ _ _ _ b a=>by obtain⟨d,f,R,rfl⟩:=us3 a;rfl
 have dB:=JF X G y.ns;have ew:=x.fn.binds (ps:=["net","thing"]) λ_ _ _ _ _ _ b a=>by obtain⟨d,f,rfl⟩:=us2 a;rfl
 have dA:=JF X G x.ns;have eu:=u.fn.binds (ps:=["thing","is_state","first","moves","led"]) λ_ _ _ _ _ _ b a=>by obtain⟨d,f,R,u3,u4,rfl⟩:=us5 a;rfl
 have dz:=JF X G u.ns;have et:=t.fn.fun.binds (ps:=["net","thing"]) λ_ _ _ _ _ _ b a=>by obtain⟨d,f,rfl⟩:=us2 a;rfl
 have dy:=JF X G t.ns;have es:=r.fn.binds (ps:=["_law_net_here","_law_turns","_law_lane"]) λ_ _ _ _ _ _ b a=>by obtain⟨d,f,R,rfl⟩:=us3 a;rfl
 have dx:=JF X G r.ns;have er:=q.fn.binds (ps:=["_law_net_here","_law_knot"]) λ_ _ _ _ _ _ b a=>by obtain⟨d,f,rfl⟩:=us2 a;rfl
 have dt:=JF X G q.ns;have ep:=o.fn.binds (ps:=["_law_thing","_law_most"]) λ_ _ _ _ _ _ b a=>by obtain⟨d,f,rfl⟩:=us2 a;rfl
 have dr:=JF X G o.ns;have eo:=n.fn.binds (ps:=["_law_net_here","_law_thing"]) λ_ _ _ _ _ _ b a=>by obtain⟨d,f,rfl⟩:=us2 a;rfl
 have dq:=JF X G n.ns;have en:=m.fn.binds (ps:=["_law_net_here","_law_thing"]) λ_ _ _ _ _ _ b a=>by obtain⟨d,f,rfl⟩:=us2 a;rfl
 have dp:=JF X G m.ns;have el:=k.fn.binds (ps:=["_law_net_here"]) λ_ _ _ _ _ _ b a=>by obtain⟨d,rfl⟩:=us1 a;rfl
 have dn:=JF X G k.ns;have ek:=j.fn.binds (ps:=["_law_left_here","_law_net_here","_law_knot"]) λ_ _ _ _ _ _ b a=>by obtain⟨d,f,R,rfl⟩:=us3 a;rfl
 have dm:=JF X G j.ns;have ej:=i.fn.binds (ps:=["_law_left_here","_law_net_here","_law_book"]) λ_ _ _ _ _ _ b a=>by obtain⟨d,f,R,rfl⟩:=us3 a;rfl
 have dk:=JF X G i.ns;have dd:=JF X G cx;have c6:∀ H',SqT K H' T (zj [0,1]):=λH'=>.inr ⟨_,_,_,eb,rfl,rfl,(by show 2<=sizeLine;decide),.cons ⟨_,rfl⟩ (.cons ⟨_,rfl⟩ .nil)⟩;obtain⟨oc,od,kV,doc,pm,an,gd,ct,fY,ed,_,_⟩:=id U.fn.ex;refine⟨⟨kP,g,cH⟩,aP,λs v=>by rw[ed];exact .of_eq rfl,λbase _ _ bB=>?_⟩;have CK:CodeK K mg base g Pt:=⟨cH,bB Pt (.head _),c9⟩;have U1:Use l.prog w K mg base "is_whole" ["thing"] 1 (sj K) f1 d1:=⟨jO A1.fn M,b1,A1.fn.kp,m1⟩;have U2:Use l.prog w K mg base "is_below" ["thing","bound"] 2 (sv K) f2 d2:=⟨jU A2.fn M U1,b2,A2.fn.kp,m2⟩;have U3:Use l.prog w K mg base "is_row" ["thing","many"] 1 (vh K) f3 d3:=⟨jS A3.fn M,b3,A3.fn.kp,m3⟩;have U4:Use l.prog w K mg base "are_below" ["thing","many","bound"] 3 (sw K) f4 d4:=⟨qW A4.fn M U3 U2,b4,A4.fn.kp,m4⟩;have U5:Use l.prog w K mg base "_law_cell_at" ["_law_script","_law_k"] 1 (oC K) f5 d5:=⟨gA A5.fn M,b5,A5.fn.kp,m5⟩;have U6:Use l.prog w K mg base "_law_left" ["_law_script","_law_k"] 2 (oA K) f6 d6:=⟨i6 A6.fn M zd U5,b6,A6.fn.kp,m6⟩;have S:Use l.prog w K mg base "_law_pick" ["_law_left_here","_law_many"] 1 xj f7 d7:=⟨i4 A7.fn,b7,A7.fn.kp,m7⟩;have U8:Use l.prog w K mg base "_law_of" ["_law_left_here","_law_some"] 2 mQ f8 d8:=⟨cV A8.fn M S,b8,A8.fn.kp,m8⟩;have U9:Use l.prog w K mg base "_law_placed" ["_law_left_here","_law_some"] 2 x9 f9 d9:=⟨me A9.fn M S,b9,A9.fn.kp,m9⟩;have fW:Use l.prog w K mg base "_law_net" ["_law_left_here","_law_lanes","_law_most"] 3 (pi 6) aO cc:=⟨eD 6 (by decide) Q.fn M S U8 U9,e9,Q.fn.kp,ea⟩;have fV:Use l.prog w K mg base "layers" ["net"] 1 uG aN cb:=⟨mi P.fn M,e8,P.fn.kp,dY⟩;have fT:Use l.prog w K mg base "plain" ["net"] 2 sn aL b0:=⟨jQ O.fn M fV,e6,O.fn.kp,dW⟩;have fS:Use l.prog w K mg base "power_of_two" ["many"] 1 kK az bS:=⟨eC N.fn M,e5,N.fn.kp,dV⟩;have fR:Use l.prog w K mg base "row_of" ["k"] 2 sk ay bx:=⟨jP L.fn M fS,e4,L.fn.kp,dT⟩;have fP:Use l.prog w K mg base "net_of" ["row","made"] 3 vE ax bo:=⟨oX J.fn M fT,e3,J.fn.kp,dS⟩;have fO:Use l.prog w K mg base "by_turns" ["one","other"] 1 kM aw bl:=⟨cW I.fn M,e1,I.fn.kp,dR⟩;have fN:Use l.prog w K mg base "merger_of" ["one","other"] 6 wY av bh:=⟨qV H.fn M fO cf V,cf,H.fn.kp,V⟩;have cm:Use l.prog w K mg base "merger" ["k"] 7 wk au ba:=⟨mh F.fn M fR fN fP,e0,F.fn.kp,dP⟩;have fM:Use l.prog w K mg base "_law_merging_net" ["_law_left_here"] 8 pj ar a9:=⟨i5 E.fn M S U8 fW cm,eT,E.fn.kp,dO⟩;have fL:Use l.prog w K mg base "end_of" ["net","lane"] 1 kL aq a8:=⟨eG D.fn,eS,D.fn.kp,dM⟩;have fK:Use l.prog w K mg base "run_through" ["net","turns","lane","back"] 2 kJ ap a7:=⟨eB C.fn M fL,eN,C.fn.kp,dK⟩;have fF:Use l.prog w K mg base "passed" ["net","turns","lane"] 3 (pf false) ao a6:=⟨mf B.fn fK,eH,B.fn.kp,dF⟩;have fD:Use l.prog w K mg base "first_turns" ["net"] 1 uH am a5:=⟨mo A.fn M,eF,A.fn.kp,dD⟩;have fC:Use l.prog w K mg base "first_knot" ["net"] 2 uI ak a4:=⟨mq z.fn fD,ez,z.fn.kp,dC⟩;have fB:Use l.prog w K mg base "knot_behind" ["net","knot","half"] 4 vg aj a3:=⟨jR y.fn fF,ey,y.fn.kp,dB⟩;have fA:Use l.prog w K mg base "is_knot" ["net","thing"] 4 (y9 K) ai a0:=⟨mn x.fn M U3 U4,ew,x.fn.kp,dA⟩;have fy:Use l.prog w K mg base "is_book" ["thing","is_state","first","moves","led"] 6 (vF l.prog w K (tZ qS) ["net"] (ot K) (uX qS) ["net"] wv) ah aZ:=⟨mj u.fn M (gQ qS fA) (jq qS fB),eu,u.fn.kp,dz⟩;have fx:Use l.prog w K mg base "shows_merge" ["net","thing"] 7 (uF l.prog w K qS Pt) ag aY:=⟨md t.fn dd c6 CK fy fC,et,t.fn.kp,dy⟩;have fv:Use l.prog w K mg base "_law_ball" ["_law_net_here","_law_turns","_law_lane"] 1 oD af aX:=⟨gB r.fn M,es,r.fn.kp,dx⟩;have ck:Use l.prog w K mg base "_law_after" ["_law_net_here","_law_knot"] 2 vj ae aW:=⟨jV q.fn M fv,er,q.fn.kp,dt⟩;have fp:Use l.prog w K mg base "_law_whole" ["_law_thing","_law_most"] 1 (kI K) ad aV:=⟨eA o.fn M,ep,o.fn.kp,dr⟩;have fo:Use l.prog w K mg base "_law_is_knot" ["_law_net_here","_law_thing"] 2 (y9 K) ab aU:=⟨i7 n.fn M fp,eo,n.fn.kp,dq⟩;have fm:Use l.prog w K mg base "_law_is_book" ["_law_net_here","_law_thing"] 3 (sr l.prog w) aa aT:=⟨i8 m.fn M M2 fo ck,en,m.fn.kp,dp⟩;have fl:Use l.prog w K mg base "_law_come_to" ["_law_net_here"] 3 oB Z aS:=⟨i9 k.fn M ck,el,k.fn.kp,dn⟩;have fk:Use l.prog w K mg base "_law_bent" ["_law_left_here","_law_net_here","_law_knot"] 3 su Y aR:=⟨jT j.fn M S U8,ek,j.fn.kp,dm⟩;have ff:Use l.prog w K mg base "_law_spoilt" ["_law_left_here","_law_net_here","_law_book"] 4 (uE l.prog w) W aQ:=⟨ma i.fn M M2 S U8 U9 fk,ej,i.fn.kp,dk⟩;exact eE U.fn M U6 S fM cm U9 fl ff fx fm
theorem bI {l:PySem.W.OpenLaw}{q:Program}{loose:List Str}{v:(Str->Option Value)->Heap->Prop}{i:World->Heap->Prop}{d:DefRec}{K:Params->PySem.W.Frag}{Pt:Addr}(hn:l.most=some 63) (g:d.params.defaults=[])
  (r:∀ (w:World) (h:Heap),i w h->(K w.params).In h/\∀ p∈[Pt],h.get? p=some (PySem.W.tabObj #[]))
  (F:∀ (w:World) (mg:Str->Option Value) (e:Addr) (h:Heap),(K w.params).In h->h.Ns mainGlobals mg->mg d.name=some (.ref e)->((K w.params).lookup Pt=none/\∃ c,PySem.W.codeHdIn (K w.params) c Pt=true) /\
   ∃ fd:FuncData,(∀ (s:Shared) (u:Value),BindsTo s fd ⟨[u],[]⟩ [("_law_script",u)])/\∀ base:Heap,(K w.params).In base->base.Ns mainGlobals mg->(∀ p∈[Pt],base.BuiltinsAt mg p)->FnOk l.prog w (K w.params) mg base CX0 9 e fd ["_law_script"] (nG (K w.params) Pt)) :
  PySem.W.WalkO q loose v i l.row.toRowW d [] (λf vs=>PySem.call f vs) :=
 L2.lh (n:=63) (k:=9) (x:="_law_script") (CX:=CX0) (sp:=λK=>nG K Pt) [Pt] hn (by decide) g ⟨rfl,by decide,by decide,rfl⟩ r (λw mg e h a b c=>⟨λp m=>Js.mp m ▸ (F w mg e h a b c).1,(F w mg e h a b c).2⟩) (λ_ _ a ns o t j=>⟨a,ns,rfl,t,o,j Pt (.head _),λ_=>rfl⟩) λ_ _ _ _ z=>z
end K63
theorem PySem.W.Fast.tw1762400183955356722:True:=trivial
theorem PySem.W.Fast.tw745069379178462110:True:=trivial
theorem PySem.W.Fast.tw5822895375588862839:True:=trivial
theorem PySem.W.Fast.tw7334712249450364242:True:=trivial
theorem PySem.W.Fast.tw10289401631308175598:True:=trivial
theorem PySem.W.Fast.tw1788041084657768656:True:=trivial
theorem PySem.W.Fast.tw1090160416722666620:True:=trivial
theorem PySem.W.Fast.tw2092687171094931507:True:=trivial
theorem PySem.W.Fast.tw15567167840829005083:True:=trivial
theorem PySem.W.Fast.tw11462197854106154701:True:=trivial
theorem PySem.W.Fast.tw14816975294933358765:True:=trivial
theorem PySem.W.Fast.tw8521745533303830203:True:=trivial
theorem PySem.W.Fast.tw12372952227261417919:True:=trivial
theorem PySem.W.Fast.tw16487299480463442779:True:=trivial
theorem PySem.W.Fast.tw11767377369336203512:True:=trivial
theorem PySem.W.Fast.tw15146013543545877132:True:=trivial
theorem PySem.W.Fast.tw11844540817432290760:True:=trivial
theorem PySem.W.Fast.tw7294008526818654225:True:=trivial
theorem PySem.W.Fast.tw3210233169391462021:True:=trivial
theorem PySem.W.Fast.tw11716621873522119965:True:=trivial
theorem PySem.W.Fast.tw15817220655292762078:True:=trivial
theorem PySem.W.Fast.tw31507088827961544:True:=trivial
theorem PySem.W.Fast.tw11519328068363675270:True:=trivial
theorem PySem.W.Fast.tw1533390900971613532:True:=trivial
theorem PySem.W.Fast.tw16715133062010259924:True:=trivial
theorem PySem.W.Fast.tw9789200357373065230:True:=trivial
theorem PySem.W.Fast.tw2138004072057115771:True:=trivial
theorem PySem.W.Fast.tw16230082484639719105:True:=trivial
theorem PySem.W.Fast.tw4206965948767217959:True:=trivial
theorem PySem.W.Fast.tw16436631690586704167:True:=trivial
theorem PySem.W.Fast.tw6440417564995465716:True:=trivial
theorem PySem.W.Fast.tw14983035199224602956:True:=trivial
theorem PySem.W.Fast.tw13072035453271644814:True:=trivial
theorem PySem.W.Fast.tw7043120607808008309:True:=trivial
theorem PySem.W.Fast.tw14756306242508315536:True:=trivial
theorem PySem.W.Fast.tw9159546020169647302:True:=trivial
theorem PySem.W.Fast.tw9231822756027415054:True:=trivial
theorem PySem.W.Fast.tw1116393538156743254:True:=trivial
theorem PySem.W.Fast.tw15442054960123804123:True:=trivial
theorem PySem.W.Fast.tw1273106156883087591:True:=trivial
theorem PySem.W.Fast.tw7076955725514905471:True:=trivial
theorem PySem.W.Fast.tw4555884109743184775:True:=trivial
open PySem PySem.W PyProof.Rows
set_option maxRecDepth 100000 in
set_option maxHeartbeats 0 in
theorem PySem.Challenge.cw_stairlanes_k63_books_spoilt_holds : PySem.Challenge.rw_stairlanes_k63_books_spoilt.Holds := by
 w_on;o_law;k_head;(case hw=>w_witness2)
 k_fill
 refine K63.bI (l:=PySem.Challenge.rw_stairlanes_k63_books_spoilt) rfl rfl (fun w h Y=>⟨PySem.W.km_in_of Y,PySem.W.km_tabs_of Y⟩) ?F
 case F =>
  intro w mg fa h KX G hmg
  refine' K63.df KX G hmg (K63.yG ?a1 ?l1 ?c1 ?k1) (K63.yG ?a2 ?l2 ?c2 ?k2) (K63.yG ?a3 ?l3 ?c3 ?k3) (K63.yG ?a4 ?l4 ?c4 ?k4) (K63.yG ?a5 ?l5 ?c5 ?k5) (K63.yG ?a6 ?l6 ?c6 ?k6) (K63.yG ?a7 ?l7 ?c7 ?k7) (K63.yG ?a8 ?l8 ?c8 ?k8) (K63.yG ?a9 ?l9 ?c9 ?k9) (K63.yG ?a10 ?l10 ?c10 ?k10) (K63.yG ?a11 ?l11 ?c11 ?k11) (K63.yG ?a12 ?l12 ?c12 ?k12) (K63.yG ?a13 ?l13 ?c13 ?k13) (K63.yG ?a14 ?l14 ?c14 ?k14) (K63.yG ?a15 ?l15 ?c15 ?k15) (K63.yG ?a16 ?l16 ?c16 ?k16) (K63.yG ?a17 ?l17 ?c17 ?k17) (K63.yG ?a18 ?l18 ?c18 ?k18) (K63.yG ?a19 ?l19 ?c19 ?k19) (K63.yG ?a20 ?l20 ?c20 ?k20) (K63.yG ?a21 ?l21 ?c21 ?k21) (K63.yG ?a22 ?l22 ?c22 ?k22) (K63.yG ?a23 ?l23 ?c23 ?k23) (K63.yG ?a24 ?l24 ?c24 ?k24) (K63.yG ?a25 ?l25 ?c25 ?k25) (K63.yG ?a26 ?l26 ?c26 ?k26) (K63.yG ?a27 ?l27 ?c27 ?k27) (K63.dJ ?a28 ?l28 ?c28 ?k28) (K63.yG ?a29 ?l29 ?c29 ?k29) (K63.yG ?a30 ?l30 ?c30 ?k30) (K63.yG ?a31 ?l31 ?c31 ?k31) (K63.yG ?a32 ?l32 ?c32 ?k32) (K63.yG ?a33 ?l33 ?c33 ?k33) (K63.yG ?a34 ?l34 ?c34 ?k34) (K63.yG ?a35 ?l35 ?c35 ?k35) (K63.yG ?a36 ?l36 ?c36 ?k36) (K63.yG ?a37 ?l37 ?c37 ?k37) ?z1 ?z2 ?z3 ?z4 ?z5 ?z6 ?z7 ?z8 ?z9 ?z10 ?z11 ?z12 ?z13 ?z14 ?z15 ?z16 ?z17 ?zHv ?lHv (K63.lV ?lH2 ?eH2) ?nB4 ?kP ?zd
  (case a1=>k_is);(case l1=>k_is);(case c1=>k_is);(case k1=>k_is)
  (case a2=>k_is);(case l2=>k_is);(case c2=>k_is);(case k2=>k_is)
  (case a3=>k_is);(case l3=>k_is);(case c3=>k_is);(case k3=>k_is)
  (case a4=>k_is);(case l4=>k_is);(case c4=>k_is);(case k4=>k_is)
  (case a5=>k_is);(case l5=>k_is);(case c5=>k_is);(case k5=>k_is)
  (case a6=>k_is);(case l6=>k_is);(case c6=>k_is);(case k6=>k_is)
  (case a7=>k_is);(case l7=>k_is);(case c7=>k_is);(case k7=>k_is)
  (case a8=>k_is);(case l8=>k_is);(case c8=>k_is);(case k8=>k_is)
  (case a9=>k_is);(case l9=>k_is);(case c9=>k_is);(case k9=>k_is)
  (case a10=>k_is);(case l10=>k_is);(case c10=>k_is);(case k10=>k_is)
  (case a11=>k_is);(case l11=>k_is);(case c11=>k_is);(case k11=>k_is)
  (case a12=>k_is);(case l12=>k_is);(case c12=>k_is);(case k12=>k_is)
  (case a13=>k_is);(case l13=>k_is);(case c13=>k_is);(case k13=>k_is)
  (case a14=>k_is);(case l14=>k_is);(case c14=>k_is);(case k14=>k_is)
  (case a15=>k_is);(case l15=>k_is);(case c15=>k_is);(case k15=>k_is)
  (case a16=>k_is);(case l16=>k_is);(case c16=>k_is);(case k16=>k_is)
  (case a17=>k_is);(case l17=>k_is);(case c17=>k_is);(case k17=>k_is)
  (case a18=>k_is);(case l18=>k_is);(case c18=>k_is);(case k18=>k_is)
  (case a19=>k_is);(case l19=>k_is);(case c19=>k_is);(case k19=>k_is)
  (case a20=>k_is);(case l20=>k_is);(case c20=>k_is);(case k20=>k_is)
  (case a21=>k_is);(case l21=>k_is);(case c21=>k_is);(case k21=>k_is)
  (case a22=>k_is);(case l22=>k_is);(case c22=>k_is);(case k22=>k_is)
  (case a23=>k_is);(case l23=>k_is);(case c23=>k_is);(case k23=>k_is)
  (case a24=>k_is);(case l24=>k_is);(case c24=>k_is);(case k24=>k_is)
  (case a25=>k_is);(case l25=>k_is);(case c25=>k_is);(case k25=>k_is)
  (case a26=>k_is);(case l26=>k_is);(case c26=>k_is);(case k26=>k_is)
  (case a27=>k_is);(case l27=>k_is);(case c27=>k_is);(case k27=>k_is)
  (case a28=>k_is);(case l28=>k_is);(case c28=>k_is);(case k28=>k_is)
  (case a29=>k_is);(case l29=>k_is);(case c29=>k_is);(case k29=>k_is)
  (case a30=>k_is);(case l30=>k_is);(case c30=>k_is);(case k30=>k_is)
  (case a31=>k_is);(case l31=>k_is);(case c31=>k_is);(case k31=>k_is)
  (case a32=>k_is);(case l32=>k_is);(case c32=>k_is);(case k32=>k_is)
  (case a33=>k_is);(case l33=>k_is);(case c33=>k_is);(case k33=>k_is)
  (case a34=>k_is);(case l34=>k_is);(case c34=>k_is);(case k34=>k_is)
  (case a35=>k_is);(case l35=>k_is);(case c35=>k_is);(case k35=>k_is)
  (case a36=>k_is);(case l36=>k_is);(case c36=>k_is);(case k36=>k_is)
  (case a37=>k_is);(case l37=>k_is);(case c37=>k_is);(case k37=>k_is)
  (case z1=>k_is)
  (case z2=>k_is)
  (case z3=>k_is)
  (case z4=>k_is)
  (case z5=>k_is)
  (case z6=>k_is)
  (case z7=>k_is)
  (case z8=>k_is)
  (case z9=>k_is)
  (case z10=>k_is)
  (case z11=>k_is)
  (case z12=>k_is)
  (case z13=>k_is)
  (case z14=>k_is)
  (case z15=>k_is)
  (case z16=>k_is)
  (case z17=>k_is)
  (case zHv=>k_is);(case lHv=>k_is)
  (case lH2=>k_is);(case eH2=>rfl);(case nB4=>decide);(case kP=>rfl)
  (case zd=>k_is)
