import PyProof.Rows.All
import Wide.All
import OpenK.AllK
import Wide.FinOn
import Lean
import PyProof.EqAt
import PyProof.EqKinds
import PyProof.TupleCall
import PyProof.NeKinds
import KE.KIntText
import PyProof.TupleOfStr
import PyProof.ReprRoads
import KE.KItemsList
import KE.KSortTup
import PyProof.Rows.Range3
import PyProof.AutoIntG2
import PyProof.NeData
import PyProof.DictKinds
import PyProof.AttrMiss
import PyProof.IsiH_list
import KE.KDictOf
import KE.KDictSum
import PyProof.DictWalks
import PyProof.DictItems
import KE.KDictList
import KE.KEqDict
import KE.KPairComp
import PyProof.DictTruth
import PyProof.MeetsDict
import PyProof.DictCompW
import PyProof.EvalArms
import KE.KLam
import KE.KNestM
import PyProof.Defs
import PyProof.P3In
import PyProof.Rows.SortRev
import PyProof.StrBlockL
import PyProof.StrLawsTight
import PyProof.StrWalks
import PyProof.SliceStr2
import PyProof.StrLawsIdx
import PyProof.Rows.ReprOcc
import PyProof.Rows.StrBin
import PyProof.CollectIter
import PyProof.Rows.FStr
import PyProof.Rows.SetFrom
import PySem.Challenge.RW_stairlanes_k46_places_spoilt
set_option Elab.async false
set_option linter.all false
set_option maxRecDepth 100000
local macro_rules|`(tactic|trivial)=>`(tactic|first|exact⟨by rfl,by first|exact Or.inl rfl|exact Or.inr (.inl rfl)|exact Or.inr (.inr rfl),by decide,by decide⟩|exact⟨rfl,rfl,rfl,by decide +kernel,rfl,by decide +kernel,by decide +kernel⟩|exact True.intro|rfl|assumption|exact .inl rfl|exact .inr rfl)
section
open PySem PySem.Spec PyProof.Rows
def J0:=@wpAny_bind
def J2:=@Heap.get?_push_of_some
def J7:=@wpAny_pure
def J8:=@List.getElem?_eq_some_iff
def J9:=@List.length_append
def Ja:=@List.getElem?_eq_getElem
def Jb:=@Nat.le_refl
def Jc:=@List.length_map
def Jd:=@List.mem_singleton
def Je:=@List.size_toArray
def Jf:=@Bool.false_ne_true
def Jg:=@Heap.lt_size
def Jh:=@List.length_take
def Ji:=@List.mem_cons
def Jj:=@decide_eq_false
def Jk:=@Heap.get?_push_size
def Jm:=@List.getD_eq_getElem?_getD
def Jn:=@Option.some.inj
def Jp:=@List.mem_append_right
def Jq:=@List.mem_of_getElem?
def Jr:=@List.mem_append
def Js:=@sizeLine_eq
def Jt:=@Nat.ne_of_lt
def Ju:=@PySem.W.mg_of
def Jv:=@if_neg
def Jw:=@decide_eq_true
def Jx:=@Nat.lt_of_lt_of_le
def Jy:=@PySem.boot_len
def Jz:=@Nat.le_trans
def JA:=@List.not_mem_nil
def JB:=@List.map_append
def JC:=@wpAny_mono
def JD:=@List.mem_map
def JE:=@if_pos
def JF:=@wpAny_newObj_type
def JG:=@List.getElem?_map
def JH:=@congrArg
def JJ:=@List.mem_cons_of_mem
def JK:=@List.mem_cons_self
def JL:=@Nat.zero_le
def JM:=@PySem.W.mg_none_of
def JN:=@PassesOwn.never
def JP:=@List.take_of_length_le
def JQ:=@List.take_succ_eq_append_getElem
def JR:=@List.take_length
def JS:=@List.length_range
def JT:=@List.nodup_cons
def JU:=@Bool.and_eq_true
def JV:=@List.all_eq_true
def JW:=@List.length_drop
def JX:=@PySem.F.plainAttrs_list
def JY:=@Int.toNat_natCast
def JZ:=@Bool.eq_iff_iff
def Y0:=@List.map_cons
def Y1:=@List.replicate_succ
def Y2:=@PyProof.Rows.callWith_type1
def Y3:=@of_decide_eq_true
def Y4:=@wpAny_holding
def Y5:=@List.lookup_cons
def Y6:=@List.take_append_getElem
def Y7:=@wpAny_call_entry
def Y8:=@List.mem_range
def Y9:=@Option.map_eq_some_iff
def Ya:=@PySem.W.kia_one
def Yb:=@PyProof.Rows.slot_tuple_getitem
def Yc:=@Nat.lt_irrefl
def Yd:=@wpAny_standAt
def Ye:=@wpAny_seqItems
def Yf:=@or_false
def Yg:=@Nat.pow_le_pow_right
def Yh:=@List.mem_iff_getElem
def Yi:=@wpAny_truthy_bool
def Yj:=@List.getElem_mem
def Yk:=@List.length_cons
def Ym:=@Heap.size_push
def Yn:=@List.append_nil
def Yp:=@List.length_nil
def Yq:=@wpAny_dictEpoch
def Yr:=@wpAny_typeOf
def Ys:=@List.append_assoc
def Yt:=@Paired.length
def Yu:=@PySem.F.slot_list_append
def Yv:=@PySem.F.type_list_append
def Yw:=@beq_eq_false_iff_ne
def Yx:=@PySem.mem_of_lookup
def Yy:=@wpAny_Call_Name_kw
def Yz:=@List.filterMap_map
def YA:=@wpAny_setField_rec
def YB:=@Nat.one_le_two_pow
def YC:=@List.map_replicate
def YD:=@wpAny_ite_split
def YE:=@Nat.lt_succ_of_lt
def YF:=@List.mem_append_left
def YG:=@List.nodup_nil
def YH:=@Nat.ne_of_gt
def YJ:=@codeAny_mono
def YK:=@wpAny_isInstance
def YL:=@Nat.pow_succ
def YM:=@List.mem_nil_iff
def YN:=@Array.getElem?_eq_getElem
def YQ:=@Array.length_toList
def YR:=@List.length_reverse
def YS:=@List.take_succ_cons
def YT:=@wpAny_passesOwn
def YU:=@List.forIn_cons
def YV:=@Nat.min_eq_left
def YW:=@List.length_zip
def YX:=@assignInOrder_cons
def YY:=@wpAny_rule
def YZ:=@List.flatten_cons
def Z0:=@call_meets
def Z1:=@wpAny_typeNameOfWhole_keyiter
def Z2:=@Int.emod_nonneg
def Z3:=@F.slot_dict_keyiterator_next
def Z4:=@List.filterMap_cons
def Z5:=@List.map_congr_left
def Z6:=@List.map_map
def Z7:=@List.forIn_nil
def Z8:=@Int.emod_lt_of_pos
def Z9:=@Nat.lt_of_le_of_lt
def Za:=@List.getElem?_zip_eq_some
def Zb:=@wpAny_field
def Zc:=@wpAny_dictEntries
def Zd:=@AutoSeq1.wpAny_loadPart'
def Ze:=@List.eq_of_mem_replicate
end
namespace L2
open PySem PySem.Spec PyProof.Rows
abbrev Key:=Sum Int Str
def uV:Key->Value->Bool
  | .inl k,v=>Value.isInt k v
  | .inr x,v=>Value.isStrOf x v
def bU (w:World):Key->Int
  | .inl k=>hashInt k
  | .inr x=>hashStr w x
theorem yM:∀ {k:Key}{v:Value},uV k v=true->(∃ i t,k=Sum.inl i/\v=Value.int i t)\/(∃ x t,k=Sum.inr x/\v=Value.str x t)
  | .inl i,v,h=>by
    obtain⟨t,e⟩:=Value.isInt_shape (k:=i) (v:=v) h
    exact .inl ⟨i,t,rfl,e⟩
  | .inr x,v,h=>by
    obtain⟨t,e⟩:=Value.isStrOf_shape (x:=x) (v:=v) h;exact .inr ⟨x,t,rfl,e⟩
theorem mj (i:Int)(t:Tok):uV (.inl i) (.int i t)=true:=by simp[uV,Value.isInt]
theorem mi (x:Str)(t:Tok):uV (.inr x) (.str x t)=true:=by simp[uV,Value.isStrOf]
theorem fw (a b:Int):decide ((Sum.inl a:Key)=Sum.inl b)=(a == b):=by
  by_cases e:a=b
  · subst e;simp
  · have h:¬(Sum.inl a:Key)=Sum.inl b:=λq=>e (Sum.inl.inj q)
    rw[Jj h];exact(Yw.mpr e).symm
theorem fq (a b:Str):decide ((Sum.inr a:Key)=Sum.inr b)=decide (a=b):=by
  by_cases e:a=b
  · subst e;simp
  · have h:¬(Sum.inr a:Key)=Sum.inr b:=λq=>e (Sum.inr.inj q)
    rw[Jj h,Jj e]
theorem fv (a:Int)(b:Str):decide ((Sum.inl a:Key)=Sum.inr b)=false:=Jj (λq=>nomatch q)
theorem ft (a:Str)(b:Int):decide ((Sum.inr a:Key)=Sum.inl b)=false:=Jj (λq=>nomatch q)
def yW (prog:Program)(w:World):PySem.KeyKind prog w Key where
  is:=uV
  hash:=bU w
  inj:=λv a b l f=>by
    rcases yM l with ⟨i,t,rfl,rfl⟩|⟨x,t,rfl,rfl⟩
    · rcases yM f with ⟨j,u,rfl,e⟩|⟨y,u,rfl,e⟩
      · injection e with c _;rw[c]
      · exact nomatch e
    · rcases yM f with ⟨j,u,rfl,e⟩|⟨y,u,rfl,e⟩
      · exact nomatch e
      · injection e with c _;rw[c]
  byValue:=λk v h=>by
    rcases yM h with ⟨i,t,rfl,rfl⟩|⟨x,t,rfl,rfl⟩<;>rfl
  pyHash:=λd h=>by
    rcases yM d with ⟨i,t,rfl,rfl⟩|⟨x,t,rfl,rfl⟩
    · exact wpAny_pyHash_int h
    · exact wpAny_pyHash_str h
  eqBool:=λg d h=>by
    rcases yM g with ⟨i,t,rfl,rfl⟩|⟨x,t,rfl,rfl⟩
    · rcases yM d with ⟨j,u,rfl,rfl⟩|⟨y,u,rfl,rfl⟩
      · rw[fw]at h;exact wpAny_eqBool_int h
      · rw[fv]at h;exact SeqAt.EqAt.int_str i t y u _ _ _ _ h
    · rcases yM d with ⟨j,u,rfl,rfl⟩|⟨y,u,rfl,rfl⟩
      · rw[ft]at h;exact SeqAt.EqAt.str_int x t j u _ _ _ _ h
      · rw[fq]at h;exact wpAny_eqBool_str h
  «strs»:=λk x t v h=>by
    rcases yM h with ⟨i,u,rfl,e⟩|⟨y,u,rfl,e⟩
    · exact nomatch e
    · injection e with c _
      subst c;cases v<;>rfl
theorem pj (prog:Program)(w:World)(k:Key)(v:Value):(yW prog w).is k v=uV k v:=rfl
theorem qK (prog:Program)(w:World)(i:Int)(t:Tok):(yW prog w).is (.inl i) (.int i t)=true:=mj i t
theorem qJ (prog:Program)(w:World)(x:Str)(t:Tok):(yW prog w).is (.inr x) (.str x t)=true:=mi x t
inductive V where
  | non|bl (b:Bool)|int (i:Int)|str (x:Str)|byt (b:Array UInt8)|flt (b:UInt64)|ref (a:Addr)|ty (n:String)
  deriving DecidableEq
def RelV:V->Value->Prop
  | .non,u=>u=Value.none
  | .bl b,u=>u=Value.bool b
  | .int i,u=>∃ t,u=Value.int i t
  | .str x,u=>∃ t,u=Value.str x t
  | .byt b,u=>∃ t,u=Value.bytes b t
  | .flt b,u=>∃ t,u=Value.float b t
  | .ref a,u=>u=Value.ref a
  | .ty n,u=>u=Value.type n
abbrev Vals:List V->List Value->Prop:=Paired RelV
theorem Vals.length {xs:List V}{us:List Value}(r:Vals xs us):xs.length=us.length:=Yt r
theorem Vals.get:∀ {xs:List V}{us:List Value}{i:Nat}{x:V},Vals xs us->xs[i]?=some x->∃ u,us[i]?=some u/\RelV x u
  | _,_,_,_,.nil,e=>by simp at e
  | _,_,0,_,.cons r _,e=>by simp at e;subst e;exact⟨_,rfl,r⟩
  | _,_,i+1,x,.cons _ t,e=>by
    obtain⟨u,b,a⟩:=Vals.get (i:=i) (x:=x) t (by simpa using e);exact⟨u,by simpa using b,a⟩
theorem Vals.set {x:V}{u:Value}(r:RelV x u):∀ {xs:List V}{us:List Value}(i:Nat),Vals xs us->Vals (xs.set i x) (us.set i u)
  | _,_,_,.nil=>.nil
  | _,_,0,.cons _ t=>.cons r t
  | _,_,i+1,.cons q t=>.cons q (Vals.set r i t)
theorem Vals.append:∀ {xs ys:List V}{us ws:List Value},Vals xs us->Vals ys ws->Vals (xs++ys) (us++ws)
  | _,_,_,_,.nil,s=>s
  | _,_,_,_,.cons r t,s=>.cons r (Vals.append t s)
theorem Vals.take:∀ {xs:List V}{us:List Value}(n:Nat),Vals xs us->Vals (xs.take n) (us.take n)
  | _,_,0,_=>.nil
  | _,_,_+1,.nil=>.nil
  | _,_,n+1,.cons r t=>.cons r (Vals.take n t)
theorem Vals.drop:∀ {xs:List V}{us:List Value}(n:Nat),Vals xs us->Vals (xs.drop n) (us.drop n)
  | _,_,0,r=>r
  | _,_,_+1,.nil=>.nil
  | _,_,n+1,.cons _ t=>Vals.drop n t
def RelO:Option V->Option Value->Prop
  | some v,some u=>RelV v u
  | none,none=>True
  | _,_=>False
def KV {a:Type}:List (a × V)->List (a × Value)->Prop:=Paired λ(p:a × V) (q:a × Value)=>p.1=q.1/\RelV p.2 q.2
def kV:Key->V
  | .inl i=>.int i
  | .inr x=>.str x
inductive HO where
  | lst (xs:List V)
  | tup (xs:List V)
  | dK (kvs:List (Key × V))|dT (kvs:List (List Key × V))
  | set (S:Int->Bool) (n:Nat)
  | ins (C dx:Addr) (fs:List (Str × V))
  | own (x:Addr)
  | xd (fs:List (Str × V))
  | met (f x:Addr)
  | rng (lo hi:Int)
  | frz (o:Obj) (u:HO)
  | tbl (ps:Array Value)
  | ext (φ:Heap->Prop)
abbrev Hp:=Addr->Option HO
def upd (H:Hp)(a:Addr)(o:HO):Hp:=λb=>if b=a then some o else H b
theorem zE {H:Hp}{a:Addr}{o:HO}:upd H a o a=some o:=by unfold upd;rw[JE rfl]
theorem zJ {H:Hp}{a b:Addr}{o:HO}(h:b≠a):upd H a o b=H b:=by unfold upd;rw[Jv h]
theorem xi {H:Hp}{a b:Addr}{o u:HO}(h:H a=some o)(h':H b=some u)(d:o≠u):a≠b:=by
  intro e;subst e;rw[h]at h';exact d (Jn h')
theorem zG {H:Hp}{a b:Addr}{o:HO}(h:H a=some o)(h':H b=none):a≠b:=by
  intro e;subst e;rw[h]at h';cases h'
def TupX (h:Heap)(a:Addr)(items:Array Value):Prop:=∃ o,h.get? a=some o/\o.cls=.type "tuple"/\∃ n,o.data=.seq items n/\o.dict=none
theorem TupX.tup {h:Heap}{a:Addr}{items:Array Value}(x:TupX h a items):IsTup h a items:=let ⟨o,e,c,n,d,_⟩:=x;⟨o,e,c,n,d⟩
theorem TupX.new (h:Heap)(items:Array Value):TupX (h.push { cls:=.type "tuple",data:=.seq items }) h.objs.size items:=⟨_,Jk _ rfl,rfl,0,rfl,rfl⟩
section
variable (P:Program)(w:World)
def ObjOk (H:Hp)(h:Heap)(a:Addr):HO->Prop
  | .lst xs=>xs.length<=sizeLine/\∃ (its:List Value) (n:Nat),Vals xs its/\h.get? a=some { cls:=.type "list",data:=.seq its.toArray n }
  | .tup xs=>xs.length<=sizeLine/\∃ its:List Value,Vals xs its/\TupX h a its.toArray
  | .dK b=>b.length<=sizeLine/\(a == sysModules)=false/\∃ g,KV b g/\h.DictOf (yW P w) a g
  | .dT b=>b.length<=sizeLine/\(a == sysModules)=false/\∃ xs:List (List Key × Addr × Value),
      Paired (λ(p:List Key × V) (q:List Key × Addr × Value)=>p.1=q.1/\H q.2.1=some (.tup (p.1.map kV))/\RelV p.2 q.2.2) b xs /\
      ∃ o k m,h.get? a=some o/\o.ExactDict/\o.data=.dict k m/\k.toList=xs.map (entryOfKey (tupleKind (yW P w)))/\(xs.map (·.1)).Nodup
  | .set S n=>h.SetOf (intKind P w) a S n
  | .ins C d fs=>H d=some (.own a)/\fs.length<=1000/\d≠a/\h.get? a=some (PySem.W.instObj C d) /\
      ∃ c,h.Ns1 d c/\(∀ f,RelO (fs.lookup f) (c f))/\PySem.Within c (fs.map (·.1))
  | .own _=>∃ o,h.get? a=some o
  | .xd fs=>∃ c,h.Ns1 a c/\∀ f,RelO (fs.lookup f) (c f)
  | .rng lo hi=>∃ t u v,h.get? a=some { cls:=.type "range",data:=.fields #[.int lo t,.int hi u,.int 1 v] }
  | .frz o u=>h.get? a=some o/\ObjOk H h a u
  | .tbl l=>h.get? a=some { cls:=.none,data:=.fields l }
  | .met f x=>h.get? a=some (PySem.W.methodObj (.ref f) (.ref x))
  | .ext e=>e h/\(∃ o,h.get? a=some o)/\∀ j i:Heap,e j->(∀ o,j.get? a=some o->i.get? a=some o)->e i
def HOk (H:Hp)(h:Heap):Prop:=∀ a o,H a=some o->ObjOk P w H h a o
end
section
variable {P:Program}{w:World}{H H':Hp}{h h':Heap}{a:Addr}{o:HO}
theorem ObjOk.lt (x:ObjOk P w H h a o):a<h.objs.size:=by
  cases o with
  | lst c=>obtain⟨_,_,_,_,e⟩:=x;exact Jg e
  | tup c=>obtain⟨_,_,_,p⟩:=x;exact p.tup.lt
  | dK b=>obtain⟨_,_,_,_,o,_,_,e,_⟩:=x;exact Jg e
  | dT b=>obtain⟨_,_,_,_,o,_,_,e,_⟩:=x;exact Jg e
  | set S n=>obtain⟨o,_,_,_,e,_⟩:=x;exact Jg e
  | ins C i fs=>obtain⟨_,_,_,e,_⟩:=x;exact Jg e
  | own y=>obtain⟨_,e⟩:=x;exact Jg e
  | xd fs=>obtain⟨_,⟨_,_,_,e,_⟩,_⟩:=x;exact Jg e
  | rng lo hi=>obtain⟨_,_,_,e⟩:=x;exact Jg e
  | frz ob u=>obtain⟨e,_⟩:=x;exact Jg e
  | tbl g=>exact Jg (show h.get? a=some _ from x)
  | met f y=>exact Jg (show h.get? a=some _ from x)
  | ext d=>obtain⟨_,⟨_,e⟩,_⟩:=x;exact Jg e
theorem Paired.mapP {α β:Type}{F G:α->β->Prop}:∀ {l₁:List α}{l₂:List β},Paired F l₁ l₂->(∀ a b,F a b->G a b)->Paired G l₁ l₂
  | _,_,.nil,_=>.nil
  | _,_,.cons r t,f=>.cons (f _ _ r) (Paired.mapP t f)
theorem ObjOk.stay (x:ObjOk P w H h a o)(k:∀ b u,(b=a\/H b=some (.own a))->h.get? b=some u->h'.get? b=some u)(E:∀ b,H b=some (.own a)->H' b=some (.own a))(D:∀ b xs,H b=some (.tup xs)->H' b=some (.tup xs)):ObjOk P w H' h' a o:=by
  induction o with
  | lst xs=>obtain⟨z,j,n,r,e⟩:=x;exact⟨z,j,n,r,k _ _ (.inl rfl) e⟩
  | tup xs=>obtain⟨z,j,r,ob,e,c⟩:=x;exact⟨z,j,r,ob,k _ _ (.inl rfl) e,c⟩
  | dK s=>obtain⟨z,y,B,r,ob,g,i,e,c⟩:=x;exact⟨z,y,B,r,ob,g,i,k _ _ (.inl rfl) e,c⟩
  | dT s =>
    obtain⟨z,y,xs,r,ob,g,i,e,c⟩:=x
    exact⟨z,y,xs,Paired.mapP r λp q z=>⟨z.1,D _ _ z.2.1,z.2.2⟩,ob,g,i,k _ _ (.inl rfl) e,c⟩
  | set S n=>obtain⟨ob,g,i,t,e,c⟩:=x;exact⟨ob,g,i,t,k _ _ (.inl rfl) e,c⟩
  | ins C G fs =>
    obtain⟨d,z,ne,e,m,⟨l,g,i,e2,c⟩,r⟩:=x
    exact⟨E _ d,z,ne,k _ _ (.inl rfl) e,m,⟨l,g,i,k _ _ (.inr d) e2,c⟩,r⟩
  | own y=>obtain⟨ob,e⟩:=x;exact⟨ob,k _ _ (.inl rfl) e⟩
  | xd fs=>obtain⟨m,⟨l,g,i,e,c⟩,r⟩:=x;exact⟨m,⟨l,g,i,k _ _ (.inl rfl) e,c⟩,r⟩
  | rng lo hi=>obtain⟨t,u,v,e⟩:=x;exact⟨t,u,v,k _ _ (.inl rfl) e⟩
  | frz ob u ih=>obtain⟨e,q⟩:=x;exact⟨k _ _ (.inl rfl) e,ih q⟩
  | tbl A =>
    have e:h.get? a=some { cls:=.none,data:=.fields A }:=x;show h'.get? a=some { cls:=.none,data:=.fields A }
    exact k a _ (.inl rfl) e
  | met f y =>
    have e:h.get? a=some (PySem.W.methodObj (.ref f) (.ref y)):=x;show h'.get? a=some (PySem.W.methodObj (.ref f) (.ref y))
    exact k a _ (.inl rfl) e
  | ext F=>obtain⟨p,⟨o,e⟩,st⟩:=x;exact⟨st _ _ p λo q=>k _ _ (.inl rfl) q,⟨o,k _ _ (.inl rfl) e⟩,st⟩
theorem HOk.lt (x:HOk P w H h)(e:H a=some o):a<h.objs.size:=(x a o e).lt
theorem HOk.fresh (x:HOk P w H h)(e:h.objs.size<=a):H a=none:=by
  cases q:H a with
  | none=>rfl
  | some u=>exact absurd (Jx (x.lt q) e) (Yc _)
theorem HOk.kept (x:HOk P w H h)(k:∀ b u,h.get? b=some u->h'.get? b=some u):HOk P w H h':=λa o e =>
  (x a o e).stay (λb u _ q=>k b u q) (λ_ q=>q) λ_ _ q=>q
theorem HOk.laid (x:HOk P w H h)(k:∀ b u,h.get? b=some u->h'.get? b=some u)(g:h.objs.size<=a)(new:ObjOk P w (upd H a o) h' a o):HOk P w (upd H a o) h':=λb u e=>by
  have d:=x.fresh g;by_cases f:b=a
  · subst f;rw[zE]at e;cases e;exact new
  · rw[zJ f]at e
    exact(x b u e).stay (λc v _ q=>k c v q) (λc q=>by rw[zJ (zG q d)];exact q) λc i q=>by rw[zJ (zG q d)];exact q
end
def Rd (H:Hp)(a:Addr)(u:HO):Prop:=H a=some u\/∃ o,H a=some (.frz o u)
theorem Rd.ok {P:Program}{w:World}{H:Hp}{h:Heap}{a:Addr}{u:HO}(r:Rd H a u)(x:HOk P w H h):ObjOk P w H h a u:=by
  rcases r with r|⟨o,r⟩
  · exact x a u r
  · obtain⟨_,q⟩:=x a _ r
    exact q
def Mut:Option HO->Prop
  | some (.lst _)=>True
  | some (.dK _)=>True
  | some (.dT _)=>True
  | some (.set _ _)=>True
  | some (.ins _ _ _)=>True
  | some (.ext _)=>True
  | _=>False
section
variable {P:Program}{w:World}{H:Hp}{h h':Heap}{x e:Addr}{o':HO}
theorem HOk.write (ok:HOk P w H h)(i:Mut (H x))(o:e=x\/H e=some (.own x))(k:∀ b u,b≠e->h.get? b=some u->h'.get? b=some u)(m:∃ u,h'.get? e=some u)(new:ObjOk P w (upd H x o') h' x o'):HOk P w (upd H x o') h':=λb u q=>by
  have d:∀ c y,H c=some (.own y)->c≠x:=λc y r z=>by subst z;rw[r]at i;exact i
  have f:∀ c g,H c=some (.tup g)->c≠x:=λc g r z=>by subst z;rw[r]at i;exact i
  by_cases l:b=x
  · subst l;rw[zE]at q;cases q;exact new
  · rw[zJ l]at q
    by_cases a:b=e
    · have n:H b=some (.own x):=by
        rcases o with z|z
        · exact absurd (a.trans z) l
        · rw[a];exact z
      rw[q]at n;cases n;obtain⟨v,p⟩:=m;exact⟨v,by rw[a];exact p⟩
    · refine(ok b u q).stay (λc v j r=>k c v ?_ r) (λc r=>by rw[zJ (d c b r)];exact r) λc g r=>by rw[zJ (f c g r)];exact r
      rcases j with rfl|j
      · exact a
      · rintro rfl
        rcases o with z|z
        · exact d c b j z
        · rw[j]at z;cases z;exact l rfl
end
structure Un (fs ex:List Addr) (H H':Hp) (h h':Heap):Prop where
  keep:∀ b o,h.get? b=some o->H b=none->b∉fs->b∉ex->h'.get? b=some o
  slot:∀ b o,h.get? b=some o->H b=none->b∈fs->b∉ex->∃ sl,h'.get? b=some { o with slots:=sl }
  free:∀ b o,h.get? b=some o->H b=none->b∉ex->H' b=none
  there:∀ b o,h.get? b=some o->b∉ex->∃ o',h'.get? b=some o'
  tups:∀ b xs,H b=some (.tup xs)->H' b=some (.tup xs)
  frzs:∀ b o u,H b=some (.frz o u)->H' b=some (.frz o u)
  tbls:∀ b ps,H b=some (.tbl ps)->∃ more,H' b=some (.tbl (ps++more))
section
variable {fs ex:List Addr}{H H1:Hp}{h h1 h':Heap}{a x e:Addr}{o:HO}
theorem Un.any (u:Un fs ex H H1 h h1){b:Addr}{ob:Obj}(q:h.get? b=some ob)(n:H b=none)(a:b∉ex):∃ sl,h1.get? b=some { ob with slots:=sl }:=by
  by_cases c:b∈fs
  · exact u.slot b ob q n c a
  · exact⟨ob.slots,u.keep b ob q n c a⟩
theorem Un.kept (k:∀ b u,h.get? b=some u->h'.get? b=some u):Un fs ex H H h h' :=
  ⟨λb ob q _ _ _=>k b ob q,λb ob q _ _ _=>⟨ob.slots,k b ob q⟩,λ_ _ _ n _=>n,λb ob q _=>⟨ob,k b ob q⟩,λ_ _ q=>q,λ_ _ _ q=>q,λ_ a q=>⟨#[],by rw[q];simp⟩⟩
theorem Un.refl:Un fs ex H H h h:=Un.kept λ_ _ q=>q
theorem Un.laid (k:∀ b u,h.get? b=some u->h'.get? b=some u)(d:h.objs.size<=a)(hn:H a=none):Un fs ex H (upd H a o) h h' where
  keep:=λb u q _ _ _=>k b u q
  slot:=λb u q _ _ _=>⟨u.slots,k b u q⟩
  free:=λb u q n _=>by rw[zJ (Jt (Jx (Jg q) d))];exact n
  there:=λb u q _=>⟨u,k b u q⟩
  tups:=λb c q=>by rw[zJ (zG q hn)];exact q
  frzs:=λb u c q=>by rw[zJ (zG q hn)];exact q
  tbls:=λb e q=>⟨#[],by rw[zJ (zG q hn),q];simp⟩
theorem Un.write (c:Mut (H x))(l:e=x\/H e=some (.own x))(k:∀ b u,b≠e->h.get? b=some u->h'.get? b=some u)(f:∃ u,h'.get? e=some u):Un fs ex H (upd H x o) h h':=by
  have g:∀ b,H b=none->b≠x:=λb n z=>by subst z;rw[n]at c;exact c
  have i:∀ b,H b=none->b≠e:=λb n z=>by
    subst z;rcases l with r|r
    · exact g b n r
    · rw[n]at r;cases r
  have d:∀ b u,H b=some u->¬ Mut (some u)->b≠x:=λb u q nm z=>by subst z;rw[q]at c;exact nm c
  refine⟨λb u q n _ _=>k b u (i b n) q,λb u q n _ _=>⟨u.slots,k b u (i b n) q⟩,λb u q n _=>by rw[zJ (g b n)];exact n,λb u q _=>?_,
    λb j q=>by rw[zJ (d b _ q λz=>z)];exact q,λb u j q=>by rw[zJ (d b _ q λz=>z)];exact q,λb m q=>⟨#[],by rw[zJ (d b _ q λz=>z),q];simp⟩⟩
  by_cases a:b=e
  · subst a;exact f
  · exact⟨u,k b u a q⟩
end
def trk (h:Heap)(H:Hp):List Addr:=(List.range h.objs.size).filter λa=>(H a).isSome
def uk (h:Heap)(H:Hp):Heap:=PySem.W.hideAll h (trk h H)
theorem mr (h:Heap)(H:Hp):(uk h H).objs.size=h.objs.size:=PySem.W.hideAll_size _ _
theorem jh {h:Heap}{H:Hp}{b:Addr}{o:Obj}(e:h.get? b=some o)(n:H b=none):(uk h H).get? b=some o :=
  PySem.W.hideAll_get _ e λa=>by
    have q:(H b).isSome=true:=(List.mem_filter.mp a).2;rw[n]at q;simp at q
theorem iX {h:Heap}{H:Hp}{b:Addr}{o:Obj}(e:(uk h H).get? b=some o):h.get? b=some o/\H b=none:=by
  have a:h.get? b=some o:=PySem.W.of_hideAll (trk h H) e;refine⟨a,?_⟩
  cases q:H b with
  | none=>rfl
  | some x =>
    have c:b∈trk h H:=List.mem_filter.mpr ⟨Y8.mpr (Jg a),by simp[q]⟩;have z:(uk h H).get? b=none:=PySem.W.hideAll_none (trk h H) c;rw[z]at e;cases e
def gB (g h:Heap)(L:Addr):List (Addr × Obj):=(List.range h.objs.size).filterMap λa=>if a=L\/(g.get? a).isSome=true then none else (h.get? a).map λo=>(a,o)
def rest (g h:Heap)(L d:Addr):List (Addr × Obj):=(gB g h L).filter λp=>decide (p.1≠d)
structure Mod (K:PySem.W.Frag) (mg:Str->Option Value) (base:Heap):Prop where
  kin:K.In base
  glob:base.Ns mainGlobals mg
  blt:∃ mb,base.Ns builtinsNs mb/\∀ x:Str,x≠"__name__"->mb x=bootBuiltins x
  nolimit:base.NoLimit
structure Cx where
  prog:Program
  w:World
  K:PySem.W.Frag
  mg:Str->Option Value
  base:Heap
  A:Around
  N:List Str
  s₀:Shared
  H₀:Hp
  env:Env
  outer:List Env
  stack:List Env
  ex:List Addr
  fn:Str->Bool
  calm:Bool
  pn:List (Addr × Obj)
  xe:Value->Shared->Prop
def frs (l:List Env):List Addr:=l.filterMap (·.frame)
abbrev Cx.fs (X:Cx):List Addr:=frs X.outer
def Vis (sc:Scope)(x:Str):Prop:=sc.names.lookup x=some .local \/ sc.names.lookup x=some .cell\/sc.names.lookup x=some .free
def Loc (sc:Scope)(x:Str):Prop:=sc.names.lookup x=some .local \/ sc.names.lookup x=some .cell
def Look (env:Env)(h:Heap)(m:Str->Option Value)(x:Str)(u:Value):Prop :=
  (env.kindOf x=some .local /\ m x=some u)\/((env.kindOf x=some .cell\/env.kindOf x=some .free)/\∃ c,env.cells.lookup x=some c/\h.IsCell c (some u))
structure Cx.Ok (X:Cx):Prop where
  mod:Mod X.K X.mg X.base
  kind:X.env.scope.kind=.function
  glob:X.env.globals=mainGlobals
  blt:X.env.builtins=builtinsNs
  above:X.s₀.heap.objs.size<=X.env.locals
  inj:∀ x y c,X.env.cells.lookup x=some c->X.env.cells.lookup y=some c->x=y
  has:∀ x,(X.env.kindOf x=some .cell\/X.env.kindOf x=some .free)->∃ c,X.env.cells.lookup x=some c
  cab:∀ x c,X.fn x=true->X.env.cells.lookup x=some c->X.s₀.heap.objs.size<=c
  hd:X.calm=true->X.A.handled=none
  frames:X.A.frames=some X.stack
  stk:X.stack=X.outer\/(X.stack=X.env::X.outer/\X.env.frame=some X.env.locals)
  exf:∀ b∈X.ex,b≠X.env.locals/\∀ x c,X.env.cells.lookup x=some c->c≠b
  bs:∀ b o,X.base.get? b=some o->X.s₀.heap.get? b=some o/\X.H₀ b=none
  bsz:X.base.objs.size<=X.s₀.heap.objs.size
  noex:∀ b o,X.base.get? b=some o->b∉X.ex
  exfs:∀ b∈X.ex,b∉X.fs
  funs:X.s₀.heap.FunFrames X.base X.outer
  frf:∀ b∈X.fs,X.H₀ b=none
structure Inv (X:Cx) (pins:List (Addr × Obj)) (σ:List (Option V)) (H:Hp) (s:Shared):Prop where
  ok:X.Ok
  os:s.os=X.s₀.os
  bare:AllBare s.gens
  base:Un X.fs X.ex X.H₀ H X.s₀.heap s.heap
  loc:∃ m,s.heap.Ns X.env.locals m/\∀ (i:Nat) (x:Str) (v:V),X.N[i]?=some x->σ[i]?=some (some v)->Vis X.env.scope x->∃ u,RelV v u/\Look X.env s.heap m x u
  cell:∀ x c,X.env.cells.lookup x=some c->∃ v,s.heap.IsCell c v
  free:H X.env.locals=none
  freeC:∀ x c,X.env.cells.lookup x=some c->H c=none
  pin:∀ p∈X.pn++pins,s.heap.get? p.1=some p.2/\H p.1=none/\p.1≠X.env.locals/\p.1∉X.fs/\∀ v,p.2.data≠.cell v
  hok:HOk X.prog X.w H s.heap
  len:σ.length=X.N.length
section
variable {X:Cx}{pins:List (Addr × Obj)}{σ:List (Option V)}{H H':Hp}{s:Shared}{h':Heap}
theorem Cx.Ok.nofr (ok:X.Ok){b:Addr}{o:Obj}(e:X.base.get? b=some o):b∉X.fs:=λa=>by
  have:=(ok.funs.mem a).1;rw[e]at this;cases this
theorem Inv.bs (I:Inv X pins σ H s):∀ b o,X.base.get? b=some o->s.heap.get? b=some o/\H b=none:=λb o e =>
  ⟨I.base.keep b o (I.ok.bs b o e).1 (I.ok.bs b o e).2 (I.ok.nofr e) (I.ok.noex b o e),I.base.free b o (I.ok.bs b o e).1 (I.ok.bs b o e).2 (I.ok.noex b o e)⟩
theorem Inv.bk (I:Inv X pins σ H s):∀ b o,X.base.get? b=some o->s.heap.get? b=some o:=λb o e=>(I.bs b o e).1
theorem Inv.mod (I:Inv X pins σ H s):Mod X.K X.mg X.base:=I.ok.mod
theorem Inv.kIn (I:Inv X pins σ H s):X.K.In s.heap:=I.ok.mod.kin.keeps I.bk
theorem Inv.lt (I:Inv X pins σ H s):X.env.locals<s.heap.objs.size:=let ⟨_,a,_⟩:=I.loc;a.lt
theorem Inv.sz (I:Inv X pins σ H s):X.s₀.heap.objs.size<=s.heap.objs.size:=Jz I.ok.above (Nat.le_of_lt I.lt)
theorem Inv.nofs (I:Inv X pins σ H s){a:Addr}(h:s.heap.objs.size<=a):a∉X.fs:=λc=>by
  obtain⟨_,o,b,_⟩:=I.ok.funs.mem c;exact absurd (Jx (Jg b) (Jz I.sz h)) (Yc _)
theorem Inv.cne (I:Inv X pins σ H s):∀ x c,X.env.cells.lookup x=some c->c≠X.env.locals:=λx c e z=>by
  obtain⟨v,o,d,f⟩:=I.cell x c e;obtain⟨m,⟨g,h,i,a,b,_⟩,_⟩:=I.loc;rw[z,a]at d;cases d;rw[b]at f;cases f
theorem Inv.funs (I:Inv X pins σ H s):s.heap.FunFrames X.base X.outer:=by
  have all:∀ (l:List Env),(∀ b∈frs l,b∈X.fs)->X.s₀.heap.FunFrames X.base l->s.heap.FunFrames X.base l:=by
    intro l
    induction l with
    | nil=>intro _ _;trivial
    | cons env r ih =>
      intro f j;obtain⟨k,⟨L,o,a,i,h,m⟩,g⟩:=j;have d:L∈X.fs:=f L (by unfold frs;rw[Z4,a];exact JK);obtain⟨n,e⟩:=I.base.slot L o h (I.ok.frf L d) d λz=>I.ok.exfs L z d;exact⟨k,⟨L,_,a,i,e,m⟩,ih (λb c=>f b (by unfold frs;rw[Z4,a];exact JJ _ c)) g⟩
  exact all X.outer (λ_ c=>c) I.ok.funs
theorem Inv.stack (I:Inv X pins σ H s):s.heap.FunFrames X.base X.stack:=by
  rcases I.ok.stk with e|⟨e,b⟩
  · rw[e];exact I.funs
  · rw[e]
    obtain⟨m,a,_⟩:=I.loc;refine .cons (by rw[I.ok.kind];decide) b a ?_ I.funs;exact Heap.get?_none_of_le (Jz I.ok.bsz I.ok.above)
theorem Inv.stkSub (I:Inv X pins σ H s):∀ b∈frs X.stack,b∈X.env.locals::X.fs:=λb a=>by
  rcases I.ok.stk with e|⟨e,c⟩
  · rw[e]at a;exact JJ _ a
  · rw[e]at a
    unfold frs at a;rw[Z4,c]at a;exact a
theorem Inv.stkFree (I:Inv X pins σ H s):∀ b∈frs X.stack,H b=none:=λb a=>by
  rcases Ji.mp (I.stkSub b a) with e|a
  · rw[e];exact I.free
  · obtain⟨_,o,c,_⟩:=I.ok.funs.mem a
    exact I.base.free b o c (I.ok.frf b a) λz=>I.ok.exfs b z a
theorem Inv.step {g':Array GenState}{t':Nat}{d':Drawn}{ch:List Addr}(I:Inv X pins σ H s)(g:∀ b∈ch,(b∈X.ex\/X.s₀.heap.objs.size<=b)/\b≠X.env.locals/\(∀ x c,X.env.cells.lookup x=some c->c≠b)/\∀ p∈X.pn++pins,p.1≠b)(keep:∀ b o,b≠X.env.locals->b∉X.fs->b∉ch->s.heap.get? b=some o->H b=none->h'.get? b=some o)(slot:∀ b o,b≠X.env.locals->b∈X.fs->b∉ch->s.heap.get? b=some o->H b=none->∃ sl,h'.get? b=some { o with slots:=sl })(free:∀ b o,b∉ch->s.heap.get? b=some o->H b=none->H' b=none)(there:∀ b o,b∉ch->s.heap.get? b=some o->∃ A,h'.get? b=some A)(tups:∀ b t,H b=some (.tup t)->H' b=some (.tup t))(D:∀ b o u,H b=some (.frz o u)->H' b=some (.frz o u))(C:∀ b E,H b=some (.tbl E)->∃ more,H' b=some (.tbl (E++more)))(ns:∀ m,s.heap.Ns X.env.locals m->h'.Ns X.env.locals m)(J:HOk X.prog X.w H' h')(R:AllBare g') :
    Inv X pins σ H' { s with heap:=h',gens:=g',drawn:=d',toks:=t' }:=by
  have B:∀ b o,X.s₀.heap.get? b=some o->b≠X.env.locals:=λb o e=>Jt (Jx (Jg e) I.ok.above)
  have j:∀ b o,X.s₀.heap.get? b=some o->b∉X.ex->b∉ch:=λb o e a w=>by
    rcases (g b w).1 with z|z
    · exact a z
    · exact absurd (Jx (Jg e) z) (Yc _)
  have cellK:∀ x c,X.env.cells.lookup x=some c->∀ v,s.heap.IsCell c v->h'.IsCell c v:=λx c e v ⟨o,y,F⟩=>by
    have f:c∉ch:=λz=>(g c z).2.2.1 x c e rfl;by_cases M:c∈X.fs
    · obtain⟨sl,q⟩:=slot c o (I.cne x c e) M f y (I.freeC x c e)
      exact⟨_,q,F⟩
    · exact⟨o,keep c o (I.cne x c e) M f y (I.freeC x c e),F⟩
  refine⟨I.ok,I.os,R,⟨λb o e n w a=>?_,λb o e n w a=>?_,λb o e n a=>?_,λb o e a=>?_,λb t e=>tups b t (I.base.tups b t e),λb o t e=>D b o t (I.base.frzs b o t e),λb E e=>?_⟩,?_,λx c e=>?_,?_,λx c e=>?_,λp L=>?_,J,I.len⟩
  · exact keep b o (B b o e) w (j b o e a) (I.base.keep b o e n w a) (I.base.free b o e n a)
  · obtain⟨sl,h⟩:=I.base.slot b o e n w a
    obtain⟨G,e2⟩:=slot b _ (B b o e) w (j b o e a) h (I.base.free b o e n a);exact⟨G,e2⟩
  · obtain⟨A,h⟩:=I.base.there b o e a
    exact free b A (j b o e a) h (I.base.free b o e n a)
  · obtain⟨A,h⟩:=I.base.there b o e a
    exact there b A (j b o e a) h
  · obtain⟨O,h⟩:=I.base.tbls b E e
    obtain⟨N,e2⟩:=C b _ h;exact⟨O++N,by rw[e2,Array.append_assoc]⟩
  · obtain⟨m,P,Q⟩:=I.loc
    refine⟨m,ns m P,λi x v h e2 S=>?_⟩;obtain⟨u,r,l⟩:=Q i x v h e2 S;refine⟨u,r,?_⟩;rcases l with l|⟨k,c,e,z⟩
    · exact .inl l
    · exact .inr ⟨k,c,e,cellK x c e _ z⟩
  · obtain⟨v,z⟩:=I.cell x c e
    exact⟨v,cellK x c e v z⟩
  · obtain⟨m,⟨o,_,_,y,_⟩,_⟩:=I.loc
    exact free _ o (λz=>(g _ z).2.1 rfl) y I.free
  · obtain⟨v,o,y,F⟩:=I.cell x c e
    exact free c o (λz=>(g c z).2.2.1 x c e rfl) y (I.freeC x c e)
  · obtain⟨e,n,ne,K,d⟩:=I.pin p L
    have f:p.1∉ch:=λz=>(g p.1 z).2.2.2 p L rfl;exact⟨keep p.1 p.2 ne K f e n,free p.1 p.2 f e n,ne,K,d⟩
theorem Inv.un {t':Nat}(I:Inv X pins σ H s)(u:Un X.fs [] H H' s.heap h')(hok:HOk X.prog X.w H' h'):Inv X pins σ H' { s with heap:=h',toks:=t' }:=by
  obtain⟨m,⟨o,q,t,g,r⟩,_⟩:=id I.loc;obtain⟨k,j⟩:=u.any g I.free (by simp)
  exact I.step (g':=s.gens) (d':=s.drawn) (ch:=[]) (λ_ z=>nomatch z) (λb o _ c _ e n=>u.keep b o e n c (by simp)) (λb o _ c _ e n=>u.slot b o e n c (by simp)) (λb o _ e n=>u.free b o e n (by simp)) (λb o _ e=>u.there b o e (by simp)) u.tups u.frzs u.tbls (λp i=>by
    obtain⟨l,d,f,a,h⟩:=i;rw[g]at a;cases a
    exact⟨_,d,f,j,h⟩) hok I.bare
theorem Inv.call {g':Array GenState}{t':Nat}{d':Drawn}{ch:List Addr}(I:Inv X pins σ H s)(u:Un (frs X.stack) ch H H' s.heap h')(hok:HOk X.prog X.w H' h')(q:AllBare g')(f:∀ b∈ch,(b∈X.ex\/X.s₀.heap.objs.size<=b)/\b≠X.env.locals/\(∀ x c,X.env.cells.lookup x=some c->c≠b)/\∀ p∈X.pn++pins,p.1≠b) :
    Inv X pins σ H' { s with heap:=h',gens:=g',drawn:=d',toks:=t' }:=by
  obtain⟨m,⟨o,A,B,j,r⟩,_⟩:=id I.loc;obtain⟨v,g⟩:=u.any j I.free λz=>(f _ z).2.1 rfl
  exact I.step (ch:=ch) f (λb o g t a e n=>u.keep b o e n (λz=>(Ji.mp (I.stkSub b z)).elim g t) a) (λb o _ _ a e n=>u.any e n a) (λb o a e n=>u.free b o e n a) (λb o a e=>u.there b o e a) u.tups u.frzs u.tbls (λy l=>by
    obtain⟨w,h,i,d,k⟩:=l;rw[j]at d;cases d
    exact⟨_,h,i,g,k⟩) hok q
theorem Inv.turned {t':Nat}{it:Addr}(I:Inv X pins σ H s)(k:∀ b o,b≠it->s.heap.get? b=some o->h'.get? b=some o)(hn:H it=none)(f:it≠X.env.locals)(t:it∈X.ex\/X.s₀.heap.objs.size<=it)(l:∀ x c,X.env.cells.lookup x=some c->c≠it)(j:∀ p∈X.pn++pins,p.1≠it):Inv X pins σ H { s with heap:=h',toks:=t' }:=by
  have d:∀ b u,H b=some u->b≠it:=λb u e z=>by rw[z,hn]at e;cases e
  refine I.step (g':=s.gens) (d':=s.drawn) (ch:=[it]) (λb i=>?_) (λb o _ _ a e _=>k b o (λz=>a (by simp[z])) e) (λb o _ _ a e _=>⟨o.slots,k b o (λz=>a (by simp[z])) e⟩) (λ_ _ _ _ n=>n)
    (λb o a e=>⟨o,k b o (λz=>a (by simp[z])) e⟩) (λ_ _ e=>e) (λ_ _ _ e=>e) (λb A e=>⟨#[],by rw[e];simp⟩) (λm h=>?_) (λb u e=>?_) I.bare
  · have e:b=it:=by simpa using i
    subst e;exact⟨t,f,l,j⟩
  · obtain⟨o,w,y,g,r⟩:=h
    exact⟨o,w,y,k _ o (Ne.symm f) g,r⟩
  · refine(I.hok b u e).stay (λc v a q=>k c v ?_ q) (λ_ q=>q) λ_ _ q=>q
    rcases a with z|z
    · rw[z];exact d b u e
    · exact d c _ z
theorem Inv.tok (I:Inv X pins σ H s)(t:Nat):Inv X pins σ H { s with toks:=t }:=I.un (h':=s.heap) (t':=t) Un.refl I.hok
theorem Inv.kept {t':Nat}(I:Inv X pins σ H s)(k:∀ b u,s.heap.get? b=some u->h'.get? b=some u):Inv X pins σ H { s with heap:=h',toks:=t' }:=I.un (Un.kept k) (I.hok.kept k)
theorem Inv.laid {a:Addr}{o:HO}{t':Nat}(I:Inv X pins σ H s)(k:∀ b u,s.heap.get? b=some u->h'.get? b=some u)(c:s.heap.objs.size<=a)(new:ObjOk X.prog X.w (upd H a o) h' a o) :
    Inv X pins σ (upd H a o) { s with heap:=h',toks:=t' }:=I.un (Un.laid k c (I.hok.fresh c)) (I.hok.laid k c new)
theorem Inv.write {x e:Addr}{o:HO}{t':Nat}(I:Inv X pins σ H s)(c:Mut (H x))(d:e=x\/H e=some (.own x))(k:∀ b u,b≠e->s.heap.get? b=some u->h'.get? b=some u)(a:∃ u,h'.get? e=some u)(new:ObjOk X.prog X.w (upd H x o) h' x o):Inv X pins σ (upd H x o) { s with heap:=h',toks:=t' }:=I.un (Un.write c d k a) (I.hok.write c d k a new)
theorem Inv.pins_of {a:List (Addr × Obj)}(I:Inv X pins σ H s)(h:∀ p∈a,s.heap.get? p.1=some p.2/\H p.1=none/\p.1≠X.env.locals/\p.1∉X.fs/\∀ v,p.2.data≠.cell v):Inv X a σ H s :=
  ⟨I.ok,I.os,I.bare,I.base,I.loc,I.cell,I.free,I.freeC,λp b=>(Jr.mp b).elim (λz=>I.pin p (YF _ z)) (h p),I.hok,I.len⟩
theorem qD {N:List Str}(c:N.Nodup){i j:Nat}{x:Str}(a:N[i]?=some x)(b:N[j]?=some x):i=j:=by
  obtain⟨f,d⟩:=J8.mp a;obtain⟨e,e2⟩:=J8.mp b;exact(List.getElem_inj c).mp (d.trans e2.symm)
theorem uw {M:Model}{A:Around}{E:Value->Shared->Prop}{i:Nat}{x:Str}{v:V}{u:Value}{Q:Unit->Shared->Prop}(I:Inv X pins σ H s)(hN:X.N.Nodup)(hi:X.N[i]?=some x)(t:Loc X.env.scope x)(r:RelV v u)(h:∀ W,Inv X pins (σ.set i (some v)) H W->(∃ a,Heap.SameBut a s.heap W.heap/\(a=X.env.locals\/X.env.cells.lookup x=some a))->Q () W)(hf:X.fn x=true\/X.env.scope.names.lookup x=some .local:=by first|exact .inl rfl|exact .inr rfl|assumption):wpAny M A (storeName X.env x u) Q E s:=by
  obtain⟨m,hn,hl⟩:=id I.loc;have O:(X.env.scope.kind == .class || (X.env.scope.kind == .module && X.env.locals != X.env.globals))=false:=by rw[I.ok.kind];rfl
  have C:i<σ.length:=by rw[I.len];exact(J8.mp hi).1
  have cne:=I.cne
  have tracked:∀ {a:Addr}{h':Heap},(∃ o,s.heap.get? a=some o/\H a=none)->Heap.SameBut a s.heap h'->HOk X.prog X.w H h':=λ{a h'} ha f b ob e=>by
    obtain⟨_,_,w⟩:=ha;refine(I.hok b ob e).stay (λc P l q=>(f.2 c ?_).trans q) (λ_ q=>q) λ_ _ q=>q;rintro rfl;rcases l with rfl|l
    · rw[w]at e;cases e
    · rw[w]at l;cases l
  rcases t with B|B
  · refine wpAny_storeName_local B hn (λh' ab f=>?_) O
    obtain⟨oL,_,_,aa,_⟩:=id hn;refine h _ ⟨I.ok,I.os,I.bare,⟨λb o e n F t=>?_,λb o e n F t=>?_,I.base.free,λb o e t=>?_,I.base.tups,I.base.frzs,I.base.tbls⟩,⟨_,ab,λj y S g e2 e3=>?_⟩,λy c e=>?_,I.free,I.freeC,λp hp=>?_,tracked ⟨oL,aa,I.free⟩ f,by simpa using I.len⟩ ⟨_,f,.inl rfl⟩
    · exact(f.2 b (Jt (Jx (Jg e) I.ok.above))).trans (I.base.keep b o e n F t)
    · obtain⟨U,g⟩:=I.base.slot b o e n F t
      exact⟨U,(f.2 b (Jt (Jx (Jg e) I.ok.above))).trans g⟩
    · obtain⟨Z,g⟩:=I.base.there b o e t
      exact⟨Z,(f.2 b (Jt (Jx (Jg e) I.ok.above))).trans g⟩
    · by_cases D:j=i
      · subst D
        rw[hi]at g;cases g;rw[List.getElem?_set_self C]at e2;cases e2;exact⟨u,r,.inl ⟨B,by simp⟩⟩
      · rw[List.getElem?_set_ne (Ne.symm D)]at e2
        obtain⟨T,Y,q⟩:=hl j y S g e2 e3;refine⟨T,Y,?_⟩;rcases q with ⟨k,e⟩|⟨k,c,e,z⟩
        · refine .inl ⟨k,?_⟩
          have:y≠x:=λe=>D (qD hN g (e ▸ hi));simp[this,e]
        · exact .inr ⟨k,c,e,z.sameBut f (cne y c e)⟩
    · obtain⟨P,z⟩:=I.cell y c e
      exact⟨P,z.sameBut f (cne y c e)⟩
    · obtain⟨e,n,ne,nf,d⟩:=I.pin p hp
      exact⟨(f.2 p.1 ne).trans e,n,ne,nf,d⟩
  · have G:X.fn x=true:=by
      rcases hf with z|z
      · exact z
      · rw[z]at B;cases B
    obtain⟨c,l⟩:=I.ok.has x (.inl B);obtain⟨P,z⟩:=I.cell x c l;refine wpAny_storeName_cell I.ok.kind B l z (λh' L f=>?_);obtain⟨oc,J,N⟩:=id z;refine h { s with heap:=h' } ⟨I.ok,I.os,I.bare,⟨λb o e n F t=>?_,λb o e n F t=>?_,I.base.free,λb o e t=>?_,I.base.tups,I.base.frzs,I.base.tbls⟩,⟨m,hn.sameBut f (Ne.symm (cne x c l)),λj y S g e2 e3=>?_⟩,λy R e=>?_,I.free,I.freeC,λp hp=>?_,tracked ⟨oc,J,I.freeC x c l⟩ f,by simpa using I.len⟩ ⟨c,f,.inr l⟩
    · exact(f.2 b (Jt (Jx (Jg e) (I.ok.cab x c G l)))).trans (I.base.keep b o e n F t)
    · obtain⟨U,g⟩:=I.base.slot b o e n F t
      exact⟨U,(f.2 b (Jt (Jx (Jg e) (I.ok.cab x c G l)))).trans g⟩
    · obtain⟨Z,g⟩:=I.base.there b o e t
      exact⟨Z,(f.2 b (Jt (Jx (Jg e) (I.ok.cab x c G l)))).trans g⟩
    · by_cases D:j=i
      · subst D
        rw[hi]at g;cases g;rw[List.getElem?_set_self C]at e2;cases e2;exact⟨u,r,.inr ⟨.inl B,c,l,L⟩⟩
      · rw[List.getElem?_set_ne (Ne.symm D)]at e2
        obtain⟨T,Y,q⟩:=hl j y S g e2 e3;refine⟨T,Y,?_⟩;rcases q with q|⟨k,R,e,z'⟩
        · exact .inl q
        · refine .inr ⟨k,R,e,z'.sameBut f ?_⟩
          rintro rfl;exact D (qD hN g (I.ok.inj _ _ _ e l ▸ hi))
    · by_cases K:R=c
      · subst K;exact⟨_,L⟩
      · obtain⟨w2,z2⟩:=I.cell y R e
        exact⟨w2,z2.sameBut f K⟩
    · obtain⟨e,n,ne,nf,d⟩:=I.pin p hp
      refine⟨(f.2 p.1 ?_).trans e,n,ne,nf,d⟩;intro q;rw[q,J]at e;have q':oc=p.2:=Jn e;exact d P (by rw[<- q'];exact N)
theorem xM {M:Model}{A:Around}{E:Value->Shared->Prop}{i:Nat}{x:Str}{v:V}{u:Value}{Q:Unit->Shared->Prop}(I:Inv X pins σ H s)(d:X.N.Nodup)(hi:X.N[i]?=some x)(b:Loc X.env.scope x)(r:RelV v u)(h:∀ a,Inv X pins (σ.set i (some v)) H a->Q () a)(c:X.fn x=true\/X.env.scope.names.lookup x=some .local:=by first|exact .inl rfl|exact .inr rfl|assumption):wpAny M A (storeName X.env x u) Q E s :=
  uw I d hi b r (λa e _=>h a e) c
theorem Inv.call' {a:Shared}{ch:List Addr}(I:Inv X pins σ H s)(g:a.os=s.os)(u:Un (frs X.stack) ch H H' s.heap a.heap)(hok:HOk X.prog X.w H' a.heap)(h:AllBare a.gens)(d:∀ b∈ch,(b∈X.ex\/X.s₀.heap.objs.size<=b)/\b≠X.env.locals/\(∀ x c,X.env.cells.lookup x=some c->c≠b)/\∀ p∈X.pn++pins,p.1≠b):Inv X pins σ H' a:=by
  obtain⟨h',g',d',t',f⟩:=a;have e:f=s.os:=g;subst e;exact I.call (g':=g') (t':=t') (d':=d') u hok h d
end
abbrev XK:=Value->Option Addr->Hp->Prop
abbrev St:=List (Option V)
abbrev VK:=V->Hp->Prop
abbrev TE:=St->Hp->VK->Prop
abbrev TT:=St->Hp->(Bool->Hp->Prop)->Prop
abbrev TA:=St->Hp->(List V->Hp->Prop)->Prop
structure Ends where
  nx:St->Hp->Prop
  rt:VK
  bk:St->Hp->Prop:=λ_ _=>False
  ct:St->Hp->Prop:=λ_ _=>False
abbrev TS:=Ends->St->Hp->Prop
def EP (X:Cx)(pins:List (Addr × Obj))(σ:St)(Q:VK)(u:Value)(b:Shared):Prop:=∃ v a,Inv X pins σ a b/\RelV v u/\Q v a
def TP (X:Cx)(pins:List (Addr × Obj))(σ:St)(Q:Bool->Hp->Prop)(b:Bool)(c:Shared):Prop:=∃ a,Inv X pins σ a c/\Q b a
def AP (X:Cx)(pins:List (Addr × Obj))(σ:St)(Q:List V->Hp->Prop)(us:List Value)(c:Shared):Prop:=∃ a b,Inv X pins σ b c/\Vals a us/\Q a b
def SP (X:Cx)(pins:List (Addr × Obj))(D:Ends)(f:Flow)(c:Shared):Prop :=
  match f with
  | .next=>∃ a b,Inv X pins a b c/\D.nx a b
  | .brk=>∃ a b,Inv X pins a b c/\D.bk a b
  | .cont=>∃ a b,Inv X pins a b c/\D.ct a b
  | .ret u=>∃ v a b,Inv X pins a b c/\RelV v u/\D.rt v b
def PE (X:Cx)(e:Expr)(t:TE):Prop :=
  ∀ (pins:List (Addr × Obj)) (s:Shared) (σ:St) (H:Hp) (Q:VK),Inv X pins σ H s->t σ H Q->wpAny (model X.prog X.w) X.A (eval e X.env) (EP X pins σ Q) X.xe s
def PT (X:Cx)(e:Expr)(t:TT):Prop :=
  ∀ (pins:List (Addr × Obj)) (s:Shared) (σ:St) (H:Hp) (Q:Bool->Hp->Prop),Inv X pins σ H s->t σ H Q->wpAny (model X.prog X.w) X.A (isTrue e X.env (eval e X.env)) (TP X pins σ Q) X.xe s
def PW (X:Cx)(e:Expr)(t:TT):Prop :=
  ∀ (whole:Sem Value) (pins:List (Addr × Obj)) (s:Shared) (σ:St) (H:Hp) (Q:Bool->Hp->Prop),Inv X pins σ H s->t σ H Q->wpAny (model X.prog X.w) X.A (isTrue e X.env whole) (TP X pins σ Q) X.xe s
theorem PW.pt {X:Cx}{e:Expr}{t:TT}(h:PW X e t):PT X e t:=h _
def PA (X:Cx)(a:List Expr)(t:TA):Prop :=
  ∀ (pos:Pos) (pins:List (Addr × Obj)) (s:Shared) (σ:St) (H:Hp) (Q:List V->Hp->Prop),Inv X pins σ H s->t σ H Q->wpAny (model X.prog X.w) X.A (spliced (backTo pos (starEach a X.env))) (AP X pins σ Q) X.xe s
def PS (X:Cx)(st:Stmt)(t:TS):Prop :=
  ∀ (pins:List (Addr × Obj)) (s:Shared) (σ:St) (H:Hp) (D:Ends),Inv X pins σ H s->t D σ H->wpAny (model X.prog X.w) X.A (exec st X.env) (SP X pins D) X.xe s
def PSs (X:Cx)(st:List Stmt)(t:TS):Prop :=
  ∀ (pins:List (Addr × Obj)) (s:Shared) (σ:St) (H:Hp) (D:Ends),Inv X pins σ H s->t D σ H->wpAny (model X.prog X.w) X.A (execs st X.env) (SP X pins D) X.xe s
theorem thn {α:Type}{t:Sem α}{Q b:α->Shared->Prop}{M:Model}{A:Around}{E:Value->Shared->Prop}{s:Shared}(h:wpAny M A t Q E s)(c:∀ a s,Q a s->b a s):wpAny M A t b E s:=JC h c λ_ _ x=>x
section
variable {X:Cx}
def iC (i:Nat):TE:=λσ H Q=>∃ v,σ[i]?=some (some v)/\Q v H
def tC (v:V):TE:=λ_ H Q=>Q v H
theorem gv {i:Nat}{x:Str}{pos:Pos}(o:X.N[i]?=some x) (g:Vis X.env.scope x) (hd:(x == ("__debug__":Str))=false:=by decide) (d:(x == ("__classdict__":Str))=false:=by decide):PE X (.Name x pos) (iC i):=by
  intro pins s σ H Q I h;obtain⟨v,e,h⟩:=h;obtain⟨m,j,n⟩:=I.loc;obtain⟨u,r,l⟩:=n i x v o e g;have fin:EP X pins σ Q u s:=⟨v,H,I,r,h⟩;rcases l with ⟨b,k⟩|⟨b,c,f,a⟩
  · exact wpAny_Name (wpAny_loadName_local I.ok.kind b j k fin) hd
  · rcases b with b|b
    · exact wpAny_Name (wpAny_loadName_cell I.ok.kind b f a fin) hd
    · exact wpAny_Name (wpAny_loadName_free I.ok.kind b f a fin d) hd
theorem zD {i j pos}:PE X (.Constant (.int i) j pos) (tC (.int i)):=λ_ _ _ H _ I h=>wpAny_Constant_int ⟨.int i,H,I.tok _,⟨_,rfl⟩,h⟩
theorem yo {b j pos}:PE X (.Constant (.bool b) j pos) (tC (.bl b)):=λ_ _ _ H _ I h=>Constant_bool ⟨.bl b,H,I,rfl,h⟩
theorem sZ {j pos}:PE X (.Constant .none j pos) (tC .non):=λ_ _ _ H _ I h=>Constant_none ⟨.non,H,I,rfl,h⟩
theorem kr {x j pos}:PE X (.Constant (.str x) j pos) (tC (.str x)):=λ_ _ _ H _ I h=>Calls.Constant_str ⟨.str x,H,I.tok _,⟨_,rfl⟩,h⟩
def Gl (X:Cx)(x:Str):Prop:=X.env.kindOf x=some .globalImplicit
theorem nA {E:Value->Shared->Prop}{pins:List (Addr × Obj)}{s:Shared}{σ:St}{H:Hp}{x:Str}{u:Value}{pos:Pos}{Q:Value->Shared->Prop}(I:Inv X pins σ H s) (a:Gl X x) (hm:X.mg x=some u) (h:Q u s)
    (hd:(x == ("__debug__":Str))=false:=by decide):wpAny (model X.prog X.w) X.A (eval (.Name x pos) X.env) Q E s :=
  Calls.Name_function_global I.ok.kind a (Calls.loadGlobal_global (by rw[I.ok.glob];exact I.mod.glob.keeps I.bk) hm h) hd
theorem xc {E:Value->Shared->Prop}{pins:List (Addr × Obj)}{s:Shared}{σ:St}{H:Hp}{x:Str}{u:Value}{pos:Pos}{Q:Value->Shared->Prop}(I:Inv X pins σ H s) (b:Gl X x) (hm:X.mg x=none) (a:bootBuiltins x=some u) (h:Q u s)
    (hn:x≠"__name__":=by decide) (c:(x == ("__debug__":Str))=false:=by decide):wpAny (model X.prog X.w) X.A (eval (.Name x pos) X.env) Q E s:=by
  obtain⟨f,e,d⟩:=I.mod.blt;exact Calls.Name_function_global I.ok.kind b (Calls.loadGlobal_builtin (by rw[I.ok.glob];exact I.mod.glob.keeps I.bk) hm (by rw[I.ok.blt];exact e.keeps I.bk) ((d x hn).trans a) h) c
theorem ya {x:Str}{v:V}{u:Value}{pos:Pos}(b:Gl X x) (hm:X.mg x=none) (a:bootBuiltins x=some u) (r:RelV v u) (hn:x≠"__name__":=by decide) (c:(x == ("__debug__":Str))=false:=by decide):PE X (.Name x pos) (tC v) :=
  λ_ _ _ H _ I h=>xc I b hm a ⟨v,H,I,r,h⟩ hn c
variable {a b:Expr}{ta tb:TE}{pos:Pos}
def PC (X:Cx)(op:CmpOp)(a b:Expr)(t:TE):Prop :=
  ∀ (pins:List (Addr × Obj)) (s:Shared) (σ:St) (H:Hp) (Q:VK),Inv X pins σ H s->t σ H Q ->
    wpAny (model X.prog X.w) X.A (eval a X.env) (λv d=>wpAny (model X.prog X.w) X.A (eval b X.env) (λu c=>wpAny (model X.prog X.w) X.A (compareOp op v u) (EP X pins σ Q) X.xe c) X.xe d) X.xe s
def tB (t:TE):TT:=λσ H Q=>t σ H λx a=>∃ c,x=.bl c/\Q c a
theorem sV {op:CmpOp}{t:TE}(h:PC X op a b t)(e:behindInMarks op b=false:=by first|exact nobehind _ (by decide) (by decide)|rfl):PT X (.Compare a [op] [b] pos) (tB t):=by
  intro pins s σ H Q I i;refine wpAny_isTrue_Compare1 (thn (h pins s σ H _ I i) λv o e=>thn e λu n j=>thn j λc m ⟨x,l,k,f,g⟩=>?_) e;obtain⟨d,rfl,q⟩:=g;cases f;exact Yi ⟨l,k,q⟩
theorem yp {e:Expr}{t:TE}(h:PE X e t)(f:∀ whole,isTrue e X.env whole=(do let v <- whole;standAt e.pos;holding [v] (truthy v)):=by intro _;rfl):PT X e (tB t):=by
  intro pins s σ H Q I c;refine isTrue_plain (thn (h pins s σ H _ I c) λv j ⟨x,i,g,a,b⟩=>?_) (f _);obtain⟨d,rfl,q⟩:=b;cases a;exact Yi ⟨i,g,q⟩
variable {tA tB':TT}{rest:List Expr}
def cq (t u:TT):TT:=λσ H Q=>t σ H λc a=>if c=true then u σ a Q else Q false a
def tOr (t u:TT):TT:=λσ H Q=>t σ H λc a=>if c=true then Q true a else u σ a Q
def cZ (t:TT):TT:=λσ H Q=>t σ H λc a=>Q (!c) a
theorem oY (ha:PT X a tA):PW X (.BoolOp .And [a] pos) tA:=by
  intro b pins s σ H Q I h;refine isTrue_and (thn (ha pins s σ H Q I h) λc d e=>?_)
  cases c with
  | true=>exact isTrue_and_nil e
  | false=>exact e
theorem xt (ha:PT X a tA):PW X (.BoolOp .Or [a] pos) tA:=by
  intro b pins s σ H Q I h;refine isTrue_or (thn (ha pins s σ H Q I h) λc d e=>?_)
  cases c with
  | false=>exact isTrue_or_nil e
  | true=>exact e
theorem pW (ha:PT X a tA)(j:PW X (.BoolOp .And (b::rest) pos) tB'):PW X (.BoolOp .And (a::b::rest) pos) (cq tA tB'):=by
  intro g pins s σ H Q I h;refine isTrue_and (thn (ha pins s σ H _ I h) λc i ⟨f,e,d⟩=>?_)
  cases c with
  | true=>exact j g pins i σ f Q e d
  | false=>exact⟨f,e,d⟩
theorem wE (ha:PT X a tA)(j:PW X (.BoolOp .Or (b::rest) pos) tB'):PW X (.BoolOp .Or (a::b::rest) pos) (tOr tA tB'):=by
  intro g pins s σ H Q I h;refine isTrue_or (thn (ha pins s σ H _ I h) λc i ⟨f,e,d⟩=>?_)
  cases c with
  | true=>exact⟨f,e,d⟩
  | false=>exact j g pins i σ f Q e d
theorem xO (ha:PT X a tA):PT X (.UnaryOp .Not a pos) (cZ tA):=by
  intro pins s σ H Q I h;exact isTrue_not (ha pins s σ H (λc b=>Q (!c) b) I h)
def dY (ta tb:TE):TE:=λσ H Q=>ta σ H λx a=>∃ c,x=.bl c/\if c=true then tb σ a Q else Q (.bl false) a
def eY (ta:TE):TE:=λσ H Q=>ta σ H λx a=>∃ c,x=.bl c/\Q (.bl (!c)) a
theorem wF {op}{t:TE}(h:PE X a t):PE X (.BoolOp op [a] pos) t:=λpins s σ H Q I b=>BoolOp_one (h pins s σ H Q I b)
theorem xX (ha:PE X a ta)(j:PE X (.BoolOp .And (b::rest) pos) tb):PE X (.BoolOp .And (a::b::rest) pos) (dY ta tb):=by
  intro pins s σ H Q I h;refine BoolOp_and (thn (ha pins s σ H _ I h) λv g ⟨x,f,e,i,d⟩=>?_);obtain⟨c,rfl,d⟩:=d;cases i;refine Yi ?_
  cases c with
  | true=>exact j pins g σ f Q e d
  | false=>exact⟨.bl false,f,e,rfl,d⟩
theorem jA (ha:PE X a ta):PE X (.UnaryOp .Not a pos) (eY ta):=by
  intro pins s σ H Q I h;refine UnaryOp_ (thn (ha pins s σ H _ I h) λv g ⟨x,f,e,d,b⟩=>?_);obtain⟨c,rfl,b⟩:=b;cases d;exact not_of (Yi ⟨.bl (!c),f,e,rfl,b⟩)
def tIf (t:TT)(ta tb:TE):TE:=λσ H Q=>t σ H λc a=>if c=true then ta σ a Q else tb σ a Q
theorem uQ {c:Expr}(j:PT X c tA)(ha:PE X a ta)(k:PE X b tb):PE X (.IfExp c a b pos) (tIf tA ta tb):=by
  intro pins s σ H Q I h;refine wpAny_IfExp (thn (j pins s σ H _ I h) λd e ⟨i,g,f⟩=>?_)
  cases d with
  | true=>exact ha pins e σ i Q g f
  | false=>exact k pins e σ i Q g f
end
def SqL (K:PySem.W.Frag)(H:Hp)(a:Addr)(xs:List V):Prop :=
  Rd H a (.lst xs) \/
    ∃ (o:Obj) (b:Array Value) (n:Nat),K.lookup a=some o/\o.cls=.type "list"/\o.dict=none/\o.data=.seq b n/\b.size<=sizeLine/\Vals xs b.toList
def SqT (K:PySem.W.Frag)(H:Hp)(a:Addr)(xs:List V):Prop :=
  Rd H a (.tup xs) \/
    ∃ (o:Obj) (b:Array Value) (n:Nat),K.lookup a=some o/\o.cls=.type "tuple"/\o.data=.seq b n/\b.size<=sizeLine/\Vals xs b.toList
def bZ:Value->Option V
  | .none=>some .non
  | .bool b=>some (.bl b)
  | .int i _=>some (.int i)
  | .str x _=>some (.str x)
  | .bytes b _=>some (.byt b)
  | .float b _=>some (.flt b)
  | .ref a=>some (.ref a)
  | .type n=>some (.ty n)
  | _=>none
theorem RelV.abs {x:V}{u:Value}(r:RelV x u):bZ u=some x:=by
  cases x with
  | non=>cases r;rfl
  | bl _=>cases r;rfl
  | int _=>obtain⟨t,rfl⟩:=r;rfl
  | str _=>obtain⟨t,rfl⟩:=r;rfl
  | byt _=>obtain⟨t,rfl⟩:=r;rfl
  | flt _=>obtain⟨t,rfl⟩:=r;rfl
  | ref _=>cases r;rfl
  | ty _=>cases r;rfl
theorem RelV.inj {x y:V}{u:Value}(r:RelV x u)(q:RelV y u):x=y:=Jn (r.abs.symm.trans q.abs)
theorem Vals.inj:∀ {xs ys:List V}{us:List Value},Vals xs us->Vals ys us->xs=ys
  | _,_,_,.nil,.nil=>rfl
  | _,_,_,.cons r t,.cons a t'=>by rw[r.inj a,Vals.inj t t']
section
variable {X:Cx}{pins:List (Addr × Obj)}{σ:St}{H:Hp}{s:Shared}{a:Addr}{xs ys:List V}
theorem SqL.of {K:PySem.W.Frag}(h:H a=some (.lst xs)):SqL K H a xs:=.inl (.inl h)
theorem SqT.of {K:PySem.W.Frag}(h:H a=some (.tup xs)):SqT K H a xs:=.inl (.inl h)
theorem Inv.list (I:Inv X pins σ H s)(h:SqL X.K H a xs):∃ its:List Value,Vals xs its/\PlainL s.heap a its.toArray/\xs.length<=sizeLine:=by
  rcases h with h|⟨o,its,n,c,f,d,b,g,r⟩
  · obtain⟨z,its,n,r,e⟩:=h.ok I.hok
    exact⟨its,r,⟨_,n,e,rfl,rfl,rfl⟩,z⟩
  · refine⟨its.toList,r,⟨o,n,I.kIn a o c,f,d,by simpa using b⟩,?_⟩
    have e:=r.length;simp only[YQ]at e;omega
theorem Inv.tuple (I:Inv X pins σ H s)(h:SqT X.K H a xs):∃ its:List Value,Vals xs its/\IsTup s.heap a its.toArray/\xs.length<=sizeLine:=by
  rcases h with h|⟨o,its,n,c,d,b,f,r⟩
  · obtain⟨z,its,r,p⟩:=h.ok I.hok
    exact⟨its,r,p.tup,z⟩
  · refine⟨its.toList,r,⟨o,I.kIn a o c,d,n,by simpa using b⟩,?_⟩
    have e:=r.length;simp only[YQ]at e;omega
theorem Inv.list_inj (I:Inv X pins σ H s)(h:SqL X.K H a xs)(h':SqL X.K H a ys):xs=ys:=by
  obtain⟨c,r,⟨o,n,e,_,_,d⟩,_⟩:=I.list h;obtain⟨b,i,⟨k,l,f,_,_,g⟩,_⟩:=I.list h';rw[e]at f;cases f;rw[d]at g;injection g with j _;have:c=b:=by simpa using JH Array.toList j
  subst this;exact r.inj i
theorem Inv.tuple_inj (I:Inv X pins σ H s)(h:SqT X.K H a xs)(h':SqT X.K H a ys):xs=ys:=by
  obtain⟨c,r,⟨o,e,_,n,d⟩,_⟩:=I.tuple h;obtain⟨b,i,⟨k,f,_,l,g⟩,_⟩:=I.tuple h';rw[e]at f;cases f;rw[d]at g;injection g with j _;have:c=b:=by simpa using JH Array.toList j
  subst this;exact r.inj i
end
abbrev Cx.wish (X:Cx)(E:Value->Shared->Prop):Cx:={ X with xe:=E }
abbrev Cx.nox (X:Cx):Cx:=X.wish λ_ _=>False
theorem Cx.Ok.wish {X:Cx}(ok:X.Ok)(E:Value->Shared->Prop):(X.wish E).Ok :=
  ⟨ok.mod,ok.kind,ok.glob,ok.blt,ok.above,ok.inj,ok.has,ok.cab,ok.hd,ok.frames,ok.stk,ok.exf,ok.bs,ok.bsz,ok.noex,ok.exfs,ok.funs,ok.frf⟩
theorem Cx.Ok.unwish {X:Cx}{E:Value->Shared->Prop}(ok:(X.wish E).Ok):X.Ok :=
  ⟨ok.mod,ok.kind,ok.glob,ok.blt,ok.above,ok.inj,ok.has,ok.cab,ok.hd,ok.frames,ok.stk,ok.exf,ok.bs,ok.bsz,ok.noex,ok.exfs,ok.funs,ok.frf⟩
section
variable {X:Cx}{pins:List (Addr × Obj)}{σ:St}{H:Hp}{s:Shared}{E:Value->Shared->Prop}
theorem Inv.wish (I:Inv X pins σ H s)(E:Value->Shared->Prop):Inv (X.wish E) pins σ H s:=⟨I.ok.wish E,I.os,I.bare,I.base,I.loc,I.cell,I.free,I.freeC,I.pin,I.hok,I.len⟩
theorem Inv.unwish (I:Inv (X.wish E) pins σ H s):Inv X pins σ H s:=⟨I.ok.unwish,I.os,I.bare,I.base,I.loc,I.cell,I.free,I.freeC,I.pin,I.hok,I.len⟩
theorem SP.unwish {D:Ends}{f:Flow}{c:Shared}(h:SP (X.wish E) pins D f c):SP X pins D f c:=by
  cases f with
  | next=>obtain⟨a,b,I,q⟩:=h;exact⟨a,b,I.unwish,q⟩
  | brk=>obtain⟨a,b,I,q⟩:=h;exact⟨a,b,I.unwish,q⟩
  | cont=>obtain⟨a,b,I,q⟩:=h;exact⟨a,b,I.unwish,q⟩
  | ret u=>obtain⟨v,a,b,I,r,q⟩:=h;exact⟨v,a,b,I.unwish,r,q⟩
theorem PSs.nox {st:List Stmt}{t:TS}(h:PSs X.nox st t):PSs X st t:=λpins s σ H D I a =>
  JC (h pins s σ H D (I.wish _) a) (λ_ _ q=>q.unwish) λ_ _ z=>False.elim z
end
section
variable {X:Cx}{st:Stmt}{rest:List Stmt}{t u:TS}{e:Expr}{te:TE}{pos:Pos}
def ee:TS:=λD σ H=>D.nx σ H
def qr (t u:TS):TS:=λD σ H=>t { D with nx:=u D } σ H
theorem zq:PSs X [] ee:=λ_ _ σ H _ I h=>wpAny_execs_nil ⟨σ,H,I,h⟩
theorem zF (d:PS X st t)(c:PSs X rest u):PSs X (st::rest) (qr t u):=by
  intro pins s σ H D I h;refine wpAny_execs_cons (thn (d pins s σ H { D with nx:=u D } I h) λf b q=>?_)
  cases f with
  | next =>
    obtain⟨a,g,e,q⟩:=q
    exact c pins b a g D e q
  | ret v=>exact q
  | brk=>exact q
  | cont=>exact q
theorem zH (a:PS X st t):PSs X [st] t:=by
  intro pins s σ H D I h;refine wpAny_execs_cons (thn (a pins s σ H D I h) λf b q=>?_)
  cases f with
  | next=>exact wpAny_execs_nil q
  | ret v=>exact q
  | brk=>exact q
  | cont=>exact q
theorem Inv.quiet {pins:List (Addr × Obj)}{σ:St}{H:Hp}{s:Shared}(I:Inv X pins σ H s):interactive X.env=false:=by simp[interactive,I.ok.kind]
def dQ (te:TE):TS:=λD σ H=>te σ H λ_ a=>D.nx σ a
theorem xU (c:PE X e te)(b:swapsWith e none pos.line X.env=pure false:=by rfl):PS X (.Expr e pos) (dQ te):=by
  intro pins s σ H D I h;exact wpAny_Expr_any (thn (c pins s σ H _ I h) λv g ⟨x,f,d,i,a⟩=>⟨σ,f,d,a⟩) I.quiet b
def cX (te:TE):TS:=λD σ H=>te σ H D.rt
theorem zU (c:PE X e te):PS X (.Return (some e) pos) (cX te):=by
  intro pins s σ H D I h;exact wpAny_Return_some (thn (c pins s σ H _ I h) λv g ⟨x,f,d,a,b⟩=>⟨x,σ,f,d,a,b⟩)
def gO (c:TT)(t u:TS):TS:=λD σ H=>c σ H λb a=>if b=true then t D σ a else u D σ a
theorem yH {c:Expr}{a b:List Stmt}{e:TT}(k:PT X c e)(ha:PSs X a t)(l:PSs X b u):PS X (.If c a b pos) (gO e t u):=by
  intro pins s σ H D I h;refine wpAny_If (thn (k pins s σ H _ I h) λd f ⟨j,i,g⟩=>?_)
  cases d with
  | true=>exact ha pins f σ j D i g
  | false=>exact l pins f σ j D i g
end
abbrev TG:=V->St->Hp->(St->Hp->Prop)->Prop
abbrev TGs:=List V->St->Hp->(St->Hp->Prop)->Prop
def PG (X:Cx)(target:Expr)(t:TG):Prop :=
  ∀ (pins:List (Addr × Obj)) (s:Shared) (σ:St) (H:Hp) (v:V) (u:Value) (Q:St->Hp->Prop),Inv X pins σ H s->RelV v u->t v σ H Q ->
    wpAny (model X.prog X.w) X.A (assign target X.env u) (λ_ c=>∃ a b,Inv X pins a b c/\Q a b) X.xe s
def PGs (X:Cx)(ts:List Expr)(t:TGs):Prop :=
  ∀ (pins:List (Addr × Obj)) (s:Shared) (σ:St) (H:Hp) (b:List V) (c:List Value) (Q:St->Hp->Prop),Inv X pins σ H s->Vals b c->t b σ H Q ->
    wpAny (model X.prog X.w) X.A (assignInOrder ((assignEach ts X.env).map (·.2)) c) (λ_ e=>∃ a d,Inv X pins a d e/\Q a d) X.xe s
abbrev TSet:=V->V->V->Hp->(Hp->Prop)->Prop
def PSet (X:Cx)(t:TSet):Prop :=
  ∀ (pins:List (Addr × Obj)) (s:Shared) (σ:St) (H:Hp) (o i v:V) (a b u:Value) (Q:Hp->Prop),Inv X pins σ H s->RelV o a->RelV i b->RelV v u->t o i v H Q ->
    wpAny (model X.prog X.w) X.A (setItem a b u) (λ_ d=>∃ c,Inv X pins σ c d/\Q c) X.xe s
section
variable {X:Cx}{pos:Pos}
def x6 (i:Nat):TG:=λv σ H Q=>Q (σ.set i (some v)) H
theorem zM {i:Nat}{x:Str}(c:X.N.Nodup)(hi:X.N[i]?=some x)(a:Loc X.env.scope x)(b:X.fn x=true\/X.env.scope.names.lookup x=some .local:=by first|exact .inl rfl|exact .inr rfl|assumption):PG X (.Name x pos) (x6 i):=by
  intro pins s σ H v u Q I r h;exact wpAny_assign_Name (xM I c hi a r (λe d=>⟨_,H,d,h⟩) b)
def eF:TGs:=λa σ H Q=>a=[]/\Q σ H
def qT (t:TG)(u:TGs):TGs:=λb σ H Q=>∃ v r,b=v::r/\t v σ H λa c=>u r a c Q
theorem yC:PGs X [] eF:=by
  intro pins s σ H a b Q I r h;obtain⟨e,h⟩:=h;subst e;cases r;exact assignInOrder_nil ⟨σ,H,I,h⟩
theorem zQ {e:Expr}{a:List Expr}{t:TG}{u:TGs}(j:PG X e t)(i:PGs X a u)(g:(assignEach (e::a) X.env).map (·.2)=assign e X.env::(assignEach a X.env).map (·.2):=by rfl):PGs X (e::a) (qT t u):=by
  intro pins s σ H n p Q I r h;obtain⟨v,o,k,h⟩:=h;subst k
  cases r with
  | cons r d =>
    rw[g];refine YX (thn (j pins s σ H _ _ _ I r h) λ_ c ⟨b,m,l,f⟩=>?_);exact i pins c b m _ _ Q l d f
def eE (K:PySem.W.Frag)(n:Nat)(t:TGs):TG:=λv σ H Q=>∃ a b,v=.ref a/\SqT K H a b/\b.length=n/\t b σ H Q
theorem yL {c:List Expr}{k:Nat}{t:TGs}{n:Nat}(q:X.calm=true)(h:PGs X c t)(hn:(assignEach c X.env).length=n:=by rfl)(f:(assignEach c X.env).findIdx? (·.1)=none:=by rfl):PG X (.Tuple c k pos) (eE X.K n t):=by
  intro pins s σ H v u Q I r d;obtain⟨a,i,x,m,p,d⟩:=d;subst x;cases r;obtain⟨z,g,l,A⟩:=I.tuple m;refine assign_Tuple_tuple (I.ok.hd q) l (by simp[hn,<- p,g.length]) f λw j=>?_;have y:Inv X pins σ H { s with heap:=w }:=I.kept (t':=s.toks) λb o e=>j b o (Jt (Jg e)) e;exact h pins _ σ H i _ Q y (by simpa using g) d
def bY (to a:TE)(t:TSet):TG:=λv σ H Q=>to σ H λo d=>a σ d λi c=>t o i v c λb=>Q σ b
theorem xv {o i:Expr}{to c:TE}{t:TSet}(n:PE X o to)(hi:PE X i c)(m:PSet X t)(ha:∀ v,assign (.Subscript o i pos) X.env v=(do
      let a <- holding [v] (eval o X.env)
      let b <- holding [v,a] (eval i X.env)
      standAt pos
      holding [v,a,b] (setItem a b v)
      release [v,a,b] []):=by intro _;rfl):PG X (.Subscript o i pos) (bY to c t):=by
  intro pins s σ H v u Q I r h;rw[ha];refine J0 (Y4 (thn (n pins s σ H _ I h) λa e ⟨x,B,w,g,l⟩=>?_));refine J0 (Y4 (thn (hi pins e σ B _ w l) λb d ⟨y,A,q,f,k⟩=>?_));refine J0 (Yd (J0 (Y4 (thn (m pins d σ A x y v a b u _ q g f r k) λ_ C ⟨z,p,j⟩=>?_))));exact wpAny_release ⟨σ,z,p,j⟩
def iF (a:TE)(g:TG):TS:=λD σ H=>a σ H λx b=>g x σ b D.nx
theorem yN {tg e:Expr}{a:TE}{g:TG}(k:PE X e a)(j:PG X tg g)(i:swapsWithSole [tg] e pos.line X.env=pure false:=by rfl)(f:swappedStores [tg] e X.env=pure none:=by rfl)(l:(assignEach [tg] X.env).map (·.2)=[assign tg X.env]:=by rfl):PS X (.Assign [tg] e pos) (iF a g):=by
  intro pins s σ H D I h;refine wpAny_Assign_stores (thn (k pins s σ H _ I h) λv b ⟨x,n,m,c,d⟩=>?_) i f;rw[l];exact thn (j pins b σ n x v _ m c d) λ_ o q=>q
theorem zZ {i:Nat}{x:Str}{e:Expr}{a:TE}{pos':Pos}(k:X.N.Nodup)(hi:X.N[i]?=some x)(d:Loc X.env.scope x)(j:PE X e a)(f:swapsWith e (some (.Name x pos')) pos.line X.env=pure false:=by rfl)(g:X.fn x=true\/X.env.scope.names.lookup x=some .local:=by first|exact .inl rfl|exact .inr rfl|assumption) :
    PS X (.Assign [.Name x pos'] e pos) (iF a (x6 i)):=by
  intro pins s σ H D I h;refine wpAny_Assign_Name (thn (j pins s σ H _ I h) λv p ⟨y,n,m,b,c⟩=>?_) f;exact xM m k hi d b (λo l=>⟨_,n,l,c⟩) g
def cY (i j:Nat)(b:TA):TS:=λD σ H=>b σ H λa c=>∃ v w,a=[v,w]/\D.nx ((σ.set i (some v)).set j (some w)) c
theorem sW {i j:Nat}{x y:Str}{a b:Expr}{r:TA}{k py pt:Pos}{kt k2 pt2}(N:X.calm=true)(z:X.N.Nodup)(hi:X.N[i]?=some x)(M:X.N[j]?=some y)(n:i≠j)(u:X.env.scope.names.lookup x=some .local)(t:X.env.scope.names.lookup y=some .local)(ha:PA X [a,b] r)(K:swappedStores [.Tuple [.Name x k,.Name y py] kt pt] (.Tuple [a,b] k2 pt2) X.env=pure (some [x,y]))(L:swapsWithSole [.Tuple [.Name x k,.Name y py] kt pt] (.Tuple [a,b] k2 pt2) pos.line X.env=pure false:=by rfl) :
    PS X (.Assign [.Tuple [.Name x k,.Name y py] kt pt] (.Tuple [a,b] k2 pt2) pos) (cY i j r):=by
  intro pins s σ H D I h;rw[exec_Assign_arm];refine J0 (Yd ?_);rw[L];refine J0 (J7 ?_);rw[Jv (by decide)];refine J0 (Tuple_ (thn (ha _ pins s σ H _ I h) λC f ⟨T,B,S,F,g⟩=>?_));obtain⟨v,w,O,g⟩:=g;subst O
  obtain⟨d,c,rfl,E,l⟩:∃ d c,C=[d,c]/\RelV v d/\RelV w c:=by
    cases F with
    | cons p q =>
      cases q with
      | cons J G =>
        cases G;exact⟨_,_,rfl,p,J⟩
  refine JF ?_ (by show 2<=sizeLine;decide);have R:Inv X pins σ B { f with heap:=f.heap.push { cls:=.type "tuple",data:=.seq [d,c].toArray } }:=S.kept (t':=f.toks) λb o e=>J2 _ e;rw[K];refine J0 (J7 ?_);show wpAny (model X.prog X.w) X.A (do rule "assign.swapped-stores";let items <- unpackItems (.ref f.heap.objs.size) 2 none;assignInOrder [λv=>bindName X.env y v,λv=>bindName X.env x v] items.reverse;pure Flow.next) _ _ _;refine J0 (YY (J0 (unpackItems_tuple (items:=#[d,c]) (I.ok.hd N) (IsTup.new f.heap _) λh' m=>?_)));have Q:=R.kept (h':=h') (t':=f.toks) λb o e=>m b o (Jt (Jg e)) e;show wpAny _ _ (assignInOrder [λv=>bindName X.env y v,λv=>bindName X.env x v] [c,d] >>= λ_=>pure Flow.next) _ _ _;refine J0 (YX (wpAny_bindName (xM Q z M (.inl t) l (λV P=>?_) (.inr t))));refine YX (wpAny_bindName (xM P z hi (.inl u) E (λU A=>assignInOrder_nil (J7 ?_)) (.inr u)));rw[List.set_comm _ _ (Ne.symm n)]at A;exact⟨_,B,A,g⟩
def gN (c:TT)(g:TS):TS:=λD σ H=>∃ W:Nat->St->Hp->Prop,(∃ m,W m σ H)/\∀ m σ H,W m σ H ->
  c σ H λb e=>if b=true then ∃ N:St->Hp->Prop,(∀ a f,N a f->∃ d,d<m/\W d a f)/\g { D with nx:=N,ct:=N,bk:=D.nx } σ e else D.nx σ e
theorem rZ {c:Expr}{body:List Stmt}{q:TT}{r:TS}(t:PassesOwn (model X.prog X.w) X.A X.env X.xe)(J:PT X c q)(K:PSs X body r):PS X (.While c body [] pos) (gN q r):=by
  intro pins s σ H D I h;obtain⟨W,⟨G,B⟩,turn⟩:=h;refine wpAny_While (codeAny_whileLoop (λn F=>∃ g z,Inv X pins g z F/\W n g z) ?_ G ⟨σ,H,I,B⟩);rintro n E ⟨d,y,L,A⟩;refine YT t (thn (J pins E d y _ L (turn n d y A)) λb C ⟨x,w,j⟩=>?_)
  cases b with
  | true =>
    obtain⟨N,u,j⟩:=j;rw[JE rfl];refine YT t (thn (K pins C d x _ w j) λf M i=>?_)
    cases f with
    | next =>
      obtain⟨a,e,p,l⟩:=i;obtain⟨m,o,k⟩:=u a e l
      exact⟨m,o,a,e,p,k⟩
    | cont =>
      obtain⟨a,e,p,l⟩:=i;obtain⟨m,o,k⟩:=u a e l
      exact⟨m,o,a,e,p,k⟩
    | brk=>exact i
    | ret v=>exact i
  | false =>
    rw[Jv Jf];exact wpAny_execs_nil ⟨d,x,w,j⟩
end
structure It where
  go:Nat->Hp->Prop
  yld:Nat->Hp->V->Hp->Prop
  stop:Nat->Hp->Prop
def FpOk (X:Cx)(pins:List (Addr × Obj))(H:Hp)(b:Addr):Prop :=
  H b=none/\b≠X.env.locals/\b∉X.fs/\(b∈X.ex\/X.s₀.heap.objs.size<=b)/\(∀ x c,X.env.cells.lookup x=some c->c≠b)/\∀ p∈X.pn++pins,p.1≠b
theorem Inv.fpOk {X:Cx}{pins:List (Addr × Obj)}{σ:St}{H H':Hp}{s:Shared}{b:Addr}(I:Inv X pins σ H s)(a:s.heap.objs.size<=b)(hn:H' b=none):FpOk X pins H' b:=by
  refine⟨hn,YH (Jx I.lt a),I.nofs a,.inr (Jz I.sz a),λx c e z=>?_,λp d z=>?_⟩
  · obtain⟨v,q⟩:=I.cell x c e
    exact absurd (Jx q.lt (by rw[z];exact a)) (Yc _)
  · exact absurd (Jx (Jg (I.pin p d).1) (by rw[z];exact a)) (Yc _)
structure Turn (P:Program) (w:World) (K:PySem.W.Frag) (tg:Expr) (J:It) (fp:List Addr) (it:Addr) (tn:Nat->Heap->Prop):Prop where
  mem:it∈fp
  obj:∀ i h,tn i h->∀ b∈fp,∃ o,h.get? b=some o/\∀ v,o.data≠.cell v
  keep:∀ i h h',tn i h->(∀ b∈fp,∀ o,h.get? b=some o->h'.get? b=some o)->tn i h'
  item:∀ (X:Cx),X.prog=P->X.w=w->X.K=K->X.calm=true->∀ (i:Nat) (pins:List (Addr × Obj)) (s:Shared) (σ:St) (H:Hp) (E:Value->Shared->Prop),Inv X pins σ H s->(∀ b∈fp,FpOk X pins H b)->tn i s.heap->J.go i H ->
    wpAny (model P w) X.A (pyNext (.ref it)) (λr s1=>∃ u,r=some u /\
      wpAny (model P w) X.A (letOwnedTupleGo tg (.ref it) u) (λ_ s2=>∃ x H',Inv X pins σ H' s2/\RelV x u/\J.yld i H x H'/\tn (i+1) s2.heap/\∀ b∈fp,H' b=none) E s1) E s
  done:∀ (X:Cx),X.prog=P->X.w=w->X.K=K->X.calm=true->∀ (i:Nat) (pins:List (Addr × Obj)) (s:Shared) (σ:St) (H:Hp) (E:Value->Shared->Prop),Inv X pins σ H s->(∀ b∈fp,FpOk X pins H b)->tn i s.heap->J.stop i H ->
    wpAny (model P w) X.A (pyNext (.ref it)) (λr s1=>r=none/\Inv X pins σ H s1) E s
  self:∀ (A:Around) (i:Nat) (s:Shared) (Q:Value->Shared->Prop) (E:Value->Shared->Prop),tn i s.heap->Q (.ref it) s->wpAny (model P w) A (pyIter (.ref it)) Q E s
abbrev TI:=St->Hp->(It->Hp->Prop)->Prop
def PIE (X:Cx)(pins:List (Addr × Obj))(σ:St)(tg:Expr)(R:It->Hp->Prop)(c:Value)(s2:Shared):Prop :=
  ∃ (it:Addr) (e:List Addr) (d:Nat->Heap->Prop) (J:It) (a:Hp),c=.ref it/\Inv X pins σ a s2/\Turn X.prog X.w X.K tg J e it d/\d 0 s2.heap/\(∀ b∈e,FpOk X pins a b)/\R J a
def PI (X:Cx)(tg iter:Expr)(a:TI):Prop :=
  ∀ (pins:List (Addr × Obj)) (s:Shared) (σ:St) (H:Hp) (R:It->Hp->Prop),Inv X pins σ H s->a σ H R ->
    wpAny (model X.prog X.w) X.A (eval iter X.env) (λv b=>wpAny (model X.prog X.w) X.A (pyIter v) (PIE X pins σ tg R) X.xe b) X.xe s
theorem nD {M:Model}{A:Around}{E:Value->Shared->Prop}{s:Shared}{tg:Expr}{it:Addr}{u:Value}{o:Obj}{n:String}{vs:Array Value}{Q:Unit->Shared->Prop}(b:s.heap.get? it=some o) (c:o.cls=.type n) (hd:o.data=.fields vs)
    (hn:["enumerate","zip","dict_itemiterator","dict_reverseitemiterator","odict_iterator","itertools.zip_longest","itertools.pairwise"].contains n=false) (a:Q () s):wpAny M A (letOwnedTupleGo tg (.ref it) u) Q E s:=by
  unfold letOwnedTupleGo
  cases tg<;>first
    | exact J7 a
    | (cases u<;>first
        | exact J7 a
        | (refine J0 (wpAny_load b ?_)
           rw[c,hd];show wpAny M A (if (["enumerate","zip","dict_itemiterator","dict_reverseitemiterator","odict_iterator","itertools.zip_longest","itertools.pairwise"].contains n && vs[0]? == some (rawInt _))=true then _ else _) Q E s;rw[Jv (by intro h;rw[hn,Bool.false_and]at h;cases h)]
           exact J7 a))
def Itl (K:PySem.W.Frag)(a:Addr):It :=
  ⟨λi H=>∃ b x,SqL K H a b/\b[i]?=some x,λi H x c=>c=H/\∀ b,SqL K H a b->b[i]?=some x,λi H=>∃ b,SqL K H a b/\b.length<=i⟩
def Itt (K:PySem.W.Frag)(a:Addr):It :=
  ⟨λi H=>∃ b x,SqT K H a b/\b[i]?=some x,λi H x c=>c=H/\∀ b,SqT K H a b->b[i]?=some x,λi H=>∃ b,SqT K H a b/\b.length<=i⟩
def Itr (lo:Int)(n:Nat):It:=⟨λi _=>i<n,λi H x a=>a=H/\x=.int (lo+i),λi _=>n<=i⟩
theorem nZ {P:Program}{w:World}{K:PySem.W.Frag}{tg:Expr}(a it:Addr):Turn P w K tg (Itl K a) [it] it (λi h=>h.IsListIter it a i) where
  mem:=by simp
  obj:=λi h st b f=>by
    have e:b=it:=by simpa using f
    subst e;obtain⟨o,e,c,d⟩:=st;exact⟨o,e,λv z=>by rw[d]at z;cases z⟩
  keep:=λi h m st k=>st.at λo e=>k it (by simp) o e
  item:=by
    intro X y r A L i pins s σ H E I l st t;subst y r A;obtain⟨M,x,j,q⟩:=t;obtain⟨J,n,p,Q⟩:=I.list j;obtain⟨u,S,O⟩:=n.get q;obtain⟨G,F,T,D,C,B⟩:=l it (by simp);refine wpAny_pyNext_list_item st p.isList (x:=u) (by simpa using S) λm g N=>?_;have V:Inv X pins σ H { s with heap:=m }:=I.turned (t':=s.toks) (λb o f e=>(N.2 b f).trans e) G F D C B;obtain⟨o,e,c,d⟩:=id g;exact⟨u,rfl,nD (s:={ s with heap:=m }) e c d (by decide) ⟨x,H,V,O,⟨rfl,λW R=>by rw[I.list_inj R j];exact q⟩,g,λb f=>(l b f).1⟩⟩
  done:=by
    intro X y r A L i pins s σ H E I l st t;subst y r A;obtain⟨M,j,q⟩:=t;obtain⟨J,n,p,Q⟩:=I.list j;obtain⟨G,F,T,D,C,B⟩:=l it (by simp);have Y:=n.length;exact wpAny_pyNext_list_end (I.ok.hd L) st p.isList (by simp;omega) λm U=>⟨rfl,I.turned (t':=s.toks) (λb o f e=>U b o f e) G F D C B⟩
  self:=λ_ _ _ _ _ st h=>wpAny_pyIter_listiter st h
theorem ql {P:Program}{w:World}{K:PySem.W.Frag}{tg:Expr}(a it:Addr):Turn P w K tg (Itt K a) [it] it (λi h=>h.IsTupleIter it a i) where
  mem:=by simp
  obj:=λi h st b f=>by
    have e:b=it:=by simpa using f
    subst e;obtain⟨o,e,c,d⟩:=st;exact⟨o,e,λv z=>by rw[d]at z;cases z⟩
  keep:=λi h n st k=>st.at λo e=>k it (by simp) o e
  item:=by
    intro X A t B L i pins s σ H E I m st y;subst A t B;obtain⟨M,x,l,r⟩:=y;obtain⟨g,q,p,Q⟩:=I.tuple l;obtain⟨u,S,O⟩:=q.get r;obtain⟨J,G,T,F,D,C⟩:=m it (by simp);refine wpAny_pyNext_tuple_item st (show s.heap.IsTuple a g.toArray from p) (x:=u) (by simpa using S) λn j N=>?_;have V:Inv X pins σ H { s with heap:=n }:=I.turned (t':=s.toks) (λb o f e=>(N.2 b f).trans e) J G F D C;obtain⟨o,e,c,d⟩:=id j;exact⟨u,rfl,nD (s:={ s with heap:=n }) e c d (by decide) ⟨x,H,V,O,⟨rfl,λW R=>by rw[I.tuple_inj R l];exact r⟩,j,λb f=>(m b f).1⟩⟩
  done:=by
    intro X A t B L i pins s σ H E I m st y;subst A t B;obtain⟨M,l,r⟩:=y;obtain⟨g,q,p,Q⟩:=I.tuple l;obtain⟨J,G,T,F,D,C⟩:=m it (by simp);have Y:=q.length;exact wpAny_pyNext_tuple_end (I.ok.hd L) st (show s.heap.IsTuple a g.toArray from p) (by simp;omega) λn U=>⟨rfl,I.turned (t':=s.toks) (λb o f e=>U b o f e) J G F D C⟩
  self:=λ_ _ _ _ _ st h=>wpAny_pyIter_tupleiter st h
theorem qm {P:Program}{w:World}{K:PySem.W.Frag}{tg:Expr}(it:Addr)(lo:Int)(n:Nat):Turn P w K tg (Itr lo n) [it] it (λi h=>IsRangeIter h it (lo+(i:Nat)*1) ((n:Int)-(i:Nat)) 1) where
  mem:=by simp
  obj:=λi h st b a=>by
    have e:b=it:=by simpa using a
    subst e
    exact⟨_,st,λv z=>by
      have B:Data.fields _=Data.cell v:=z
      cases B⟩
  keep:=λi h f st k=>k it (by simp) _ st
  item:=by
    intro X m g p l i pins s σ H E I d st j;subst m g p;obtain⟨y,x,F,u,r,q⟩:=d it (by simp);have W:=Walks.range (prog:=X.prog) (w:=X.w) (I.ok.hd l) it lo 1 n;refine W.item i s _ _ j st λv f A D c C=>?_;obtain⟨t,rfl⟩:=D;have J:Inv X pins σ H { s with heap:=f,toks:=A }:=I.turned (λb o a e=>C b o (by simpa using a) e) y x u r q;refine⟨_,rfl,nD (s:={ s with heap:=f,toks:=A }) (n:="range_iterator") c rfl rfl (by decide) ⟨.int (lo+i),H,J,⟨t,?_⟩,⟨rfl,rfl⟩,c,λb a=>(d b a).1⟩⟩;rw[Int.mul_one]
  done:=by
    intro X m g p l i pins s σ H E I d st j;subst m g p;obtain⟨y,x,F,u,r,q⟩:=d it (by simp);exact wpAny_pyNext_range_end (I.ok.hd l) st (by have:n<=i:=j;omega) λf G=>⟨rfl,I.turned (t':=s.toks) (λb o a e=>G b o a e) y x u r q⟩
  self:=λ_ _ _ _ _ st h=>wpAny_pyIter_rangeiter st h
section
variable {X:Cx}{tg:Expr}
def cM (K:PySem.W.Frag)(d:TE):TI:=λσ H R=>d σ H λx b=>∃ a,x=.ref a/\(∃ c,SqL K b a c)/\R (Itl K a) b
def cK (K:PySem.W.Frag)(d:TE):TI:=λσ H R=>d σ H λx b=>∃ a,x=.ref a/\(∃ c,SqT K b a c)/\R (Itt K a) b
theorem oe {l:Expr}{f:TE}(k:PE X l f):PI X tg l (cM X.K f):=by
  intro pins s σ H R I h;refine thn (k pins s σ H _ I h) λv c ⟨x,n,d,g,i⟩=>?_;obtain⟨a,e,⟨t,j⟩,q⟩:=i;subst e;cases g;obtain⟨r,u,p,w⟩:=d.list j;refine wpAny_pyIter_list p.isList ?_;refine⟨c.heap.objs.size,[c.heap.objs.size],_,_,n,rfl,d.kept (t':=c.toks) λb o e=>J2 _ e,nZ a _,⟨_,Jk _ rfl,rfl,rfl⟩,λb m=>?_,q⟩;have e:b=c.heap.objs.size:=by simpa using m
  subst e;exact d.fpOk (Jb _) (d.hok.fresh (Jb _))
theorem yg {l:Expr}{g:TE}(m:PE X l g):PI X tg l (cK X.K g):=by
  intro pins s σ H R I h;refine thn (m pins s σ H _ I h) λv c ⟨x,r,d,i,j⟩=>?_;obtain⟨a,e,⟨t,k⟩,q⟩:=j;subst e;cases i;obtain⟨f,u,p,w⟩:=d.tuple k;refine wpAny_pyIter_tuple (show c.heap.IsTuple a f.toArray from p) ?_;refine⟨c.heap.objs.size,[c.heap.objs.size],_,_,r,rfl,d.kept (t':=c.toks) λb o e=>J2 _ e,ql a _,⟨_,Jk _ rfl,rfl,rfl⟩,λb n=>?_,q⟩;have e:b=c.heap.objs.size:=by simpa using n
  subst e;exact d.fpOk (Jb _) (d.hok.fresh (Jb _))
theorem kW {pins:List (Addr × Obj)}{σ:St}{H:Hp}{s:Shared}{R:It->Hp->Prop}{E:Value->Shared->Prop}{lo hi:Int}{t u v:Tok}{tk:Nat}(I:Inv X pins σ H s)(h:-(2 ^ 62)<=lo)(g:lo<2 ^ 62)(f:-(2 ^ 62)<=hi)(d:hi<2 ^ 62)(q:R (Itr lo (hi-lo).toNat) H):wpAny (model X.prog X.w) X.A (pyIter (.ref s.heap.objs.size)) (PIE X pins σ tg R) E { s with heap:=s.heap.push { cls:=.type "range",data:=.fields #[.int lo t,.int hi u,.int 1 v] },toks:=tk }:=by
  refine wpAny_pyIter_range (IsRange.new ..) (small_one h g f d) ?_;have a:Inv X pins σ H { s with heap:=s.heap.push { cls:=.type "range",data:=.fields #[.int lo t,.int hi u,.int 1 v] },toks:=tk }:=I.kept λb o e=>J2 _ e
  refine⟨(s.heap.push { cls:=.type "range",data:=.fields #[.int lo t,.int hi u,.int 1 v] }).objs.size,[(s.heap.push { cls:=.type "range",data:=.fields #[.int lo t,.int hi u,.int 1 v] }).objs.size],_,_,H,rfl,
    a.kept (t':=tk) λb o e=>J2 _ e,qm _ lo (hi-lo).toNat,?_,λb c=>?_,q⟩
  · have i:lo+((0:Nat):Int)*1=lo:=by simp
    have e2:(((hi-lo).toNat:Nat):Int)-((0:Nat):Int)=Builtin.Range.rangeSize lo hi 1:=by rw[rangeSize_one];split<;>omega
    show IsRangeIter _ _ (lo+((0:Nat):Int)*1) ((((hi-lo).toNat:Nat):Int)-((0:Nat):Int)) 1;rw[i,e2];exact Jk _ rfl
  · have e:b=(s.heap.push { cls:=.type "range",data:=.fields #[.int lo t,.int hi u,.int 1 v] }).objs.size:=by simpa using c
    subst e;exact a.fpOk (Jb _) (a.hok.fresh (Jb _))
def cL (b:TA):TI:=λσ H R=>b σ H λa c=>∃ j:Int,a=[.int j]/\-(2 ^ 62)<=j/\j<2 ^ 62/\R (Itr 0 j.toNat) c
theorem yk {a:Expr}{c:TA}{p pos:Pos}(k:Gl X "range") (hm:X.mg "range" = none) (ha:PA X [a] c) (i:starEach [a] X.env=[(false,eval a X.env)]:=by rfl):PI X tg (.Call (.Name "range" p) [a] [] pos) (cL c):=by
  intro pins s σ H R I h;refine Call_ (xc I k hm boot_range (Y2 (thn (ha pos pins s σ H _ I h) λn o ⟨m,u,l,f,b⟩=>?_) i rfl));obtain⟨j,e,b,g,q⟩:=b;subst e
  cases f with
  | cons r d =>
    cases d;obtain⟨t,rfl⟩:=r;exact call_range_1 (kW l (by omega) (by omega) b g (by simpa using q))
def dJ (e:TI)(g:TG)(f:TS):TS:=λD σ H=>e σ H λJ j=>∃ W:Nat->Nat->St->Hp->Prop,(∃ m,W 0 m σ j)/\∀ i m σ H,W i m σ H ->
  (J.stop i H/\D.nx σ H)\/(J.go i H/\∃ N:St->Hp->Prop,(∀ b a,N b a->∃ d,d<m/\W (i+1) d b a)/\∀ x a,J.yld i H x a->g x σ a λc h=>f { D with nx:=N,ct:=N,bk:=D.nx } c h)
def xu (fp:List Addr)(h:Heap):List (Addr × Obj):=fp.filterMap λb=>(h.get? b).map λo=>(b,o)
theorem yR {fp:List Addr}{h:Heap}{b:Addr}{o:Obj}(a:b∈fp)(e:h.get? b=some o):(b,o)∈xu fp h:=List.mem_filterMap.mpr ⟨b,a,by rw[e];rfl⟩
theorem mQ {fp:List Addr}{h:Heap}{p:Addr × Obj}(a:p∈xu fp h):p.1∈fp/\h.get? p.1=some p.2:=by
  obtain⟨b,c,e⟩:=List.mem_filterMap.mp a
  cases q:h.get? b with
  | none=>rw[q]at e;cases e
  | some o =>
    rw[q]at e;have d:(b,o)=p:=Jn e;subst d;exact⟨c,q⟩
theorem Inv.pinned {pins:List (Addr × Obj)}{σ:St}{H:Hp}{s:Shared}{fp:List Addr}(I:Inv X pins σ H s)(h:∀ b∈fp,FpOk X pins H b)(g:∀ b∈fp,∃ o,s.heap.get? b=some o/\∀ v,o.data≠.cell v):Inv X (pins++xu fp s.heap) σ H s :=
  I.pins_of λp f=>(Jr.mp f).elim (λz=>I.pin p (Jp _ z)) λz=>by
    obtain⟨a,e⟩:=mQ z;obtain⟨k,j,i,_⟩:=h p.1 a;obtain⟨o,c,d⟩:=g p.1 a;rw[e]at c;cases c;exact⟨e,k,j,i,d⟩
theorem Inv.unpinned {pins pl:List (Addr × Obj)}{σ:St}{H:Hp}{s:Shared}(I:Inv X (pins++pl) σ H s):Inv X pins σ H s:=I.pins_of λp a=>I.pin p (Jp _ (YF _ a))
theorem yd {iter:Expr}{body:List Stmt}{Q:TI}{g:TG}{S:TS}{pos:Pos}(A:PassesOwn (model X.prog X.w) X.A X.env X.xe)(Z:X.calm=true)(hi:PI X tg iter Q)(hg:PG X tg g)(c:PSs X body S)(hs:∀ x,foldedSetIterable iter X.env x=pure x:=by intro _;rfl):PS X (.For tg iter body [] pos) (dJ Q g S):=by
  intro pins s σ H D I h;refine wpAny_For (thn (hi pins s σ H _ I h) λv s1 h1=>thn h1 λaa s2 h2=>?_) hs;obtain⟨it,B,R,J,H2,e,I2,T,M,f2,W,⟨m0,w0⟩,turn⟩:=h2;subst e;have q:∀ {t:Hp},(∀ b∈B,t b=none)->∀ b∈B,FpOk X pins t b:=λhn b c=>⟨hn b c,(f2 b c).2⟩;refine codeAny_forLoop_any (λn Y=>∃ i p t,Inv X pins p t Y/\R i Y.heap/\(∀ b∈B,t b=none)/\W i n p t) ?_ m0 ⟨0,σ,H2,I2,M,λb c=>(f2 b c).1,w0⟩;rintro n V ⟨i,l,F,I3,C,E,w3⟩;rcases turn i n l F w3 with ⟨stop,qn⟩|⟨go,N,hN,step⟩
  · refine YT A (thn (T.done X rfl rfl rfl Z i pins V l F X.xe I3 (q E) C stop) λr s4 ⟨K,I4⟩=>?_)
    subst K;exact wpAny_execs_nil ⟨l,F,I4,qn⟩
  · refine YT A (thn (T.item X rfl rfl rfl Z i pins V l F X.xe I3 (q E) C go) λr s4 ⟨u,K,h4⟩=>?_)
    subst K;refine YT A (thn h4 λ_ U ⟨x,H5,I5,r5,y5,y,O⟩=>?_);have P:=I5.pinned (q O) (T.obj _ _ y);refine YT A (thn (hg _ U l H5 x u _ P r5 (step x H5 y5)) λ_ s6 ⟨L,H6,I6,q6⟩=>?_);refine YT A (thn (c _ s6 L H6 _ I6 q6) λf G w=>?_)
    have again:∀ {a:St}{k:Hp},Inv X (pins++xu B U.heap) a k G->N a k->∃ m,m<n/\∃ i p t,Inv X pins p t G/\R i G.heap/\(∀ b∈B,t b=none)/\W i m p t:=λ{a k} j z=>by
      obtain⟨m',hm,w7⟩:=hN a k z;refine⟨m',hm,i+1,a,k,j.unpinned,T.keep _ _ _ y λb c o e=>(j.pin (b,o) (Jp _ (Jp _ (yR c e)))).1,λb c=>?_,w7⟩;obtain⟨o,e,d⟩:=T.obj _ _ y b c;exact(j.pin (b,o) (Jp _ (Jp _ (yR c e)))).2.1
    cases f with
    | next=>obtain⟨a,k,j,z⟩:=w;exact again j z
    | cont=>obtain⟨a,k,j,z⟩:=w;exact again j z
    | brk=>obtain⟨a,k,j,w⟩:=w;exact⟨a,k,j.unpinned,w⟩
    | ret v=>obtain⟨x7,a,k,j,r7,w⟩:=w;exact⟨x7,a,k,j.unpinned,r7,w⟩
end
theorem jo {K:PySem.W.Frag}{a:Addr}{xs:List V}{g:TG}{k:TS}{D:Ends}{σ:St}{H:Hp}(b:Nat->St->Hp->Prop)(t:b 0 σ H)(r:∀ i σ H,i<=xs.length->b i σ H->SqL K H a xs)(o:∀ i x σ H,xs[i]?=some x->b i σ H->g x σ H λd j=>k { D with nx:=b (i+1),ct:=b (i+1),bk:=D.nx } d j)(s:∀ σ H,b xs.length σ H->D.nx σ H) :
    ∃ W:Nat->Nat->St->Hp->Prop,(∃ m,W 0 m σ H)/\∀ i m σ H,W i m σ H ->
      ((Itl K a).stop i H/\D.nx σ H)\/((Itl K a).go i H/\∃ N:St->Hp->Prop,(∀ f c,N f c->∃ l,l<m/\W (i+1) l f c)/\∀ x c,(Itl K a).yld i H x c->g x σ c λd j=>k { D with nx:=N,ct:=N,bk:=D.nx } d j):=by
  refine⟨λi m σ H=>m=xs.length-i/\i<=xs.length/\b i σ H,⟨xs.length,by simp,JL _,t⟩,?_⟩;rintro i m σ H ⟨rfl,hi,p⟩;have q:=r i σ H hi p;by_cases h:i<xs.length
  · refine .inr ⟨⟨xs,xs[i],q,by simp[h]⟩,b (i+1),λf c n=>⟨xs.length-(i+1),by omega,rfl,h,n⟩,λx c y=>?_⟩
    obtain⟨e,y⟩:=y;subst e;exact o i x σ _ (y xs q) p
  · have e:i=xs.length:=by omega
    subst e;exact .inl ⟨⟨xs,q,Jb _⟩,s σ H p⟩
theorem vG {K:PySem.W.Frag}{a:Addr}{xs:List V}{g:TG}{k:TS}{D:Ends}{σ:St}{H:Hp}(b:Nat->St->Hp->Prop)(t:b 0 σ H)(r:∀ i σ H,i<=xs.length->b i σ H->SqT K H a xs)(o:∀ i x σ H,xs[i]?=some x->b i σ H->g x σ H λd j=>k { D with nx:=b (i+1),ct:=b (i+1),bk:=D.nx } d j)(s:∀ σ H,b xs.length σ H->D.nx σ H) :
    ∃ W:Nat->Nat->St->Hp->Prop,(∃ m,W 0 m σ H)/\∀ i m σ H,W i m σ H ->
      ((Itt K a).stop i H/\D.nx σ H)\/((Itt K a).go i H/\∃ N:St->Hp->Prop,(∀ f c,N f c->∃ l,l<m/\W (i+1) l f c)/\∀ x c,(Itt K a).yld i H x c->g x σ c λd j=>k { D with nx:=N,ct:=N,bk:=D.nx } d j):=by
  refine⟨λi m σ H=>m=xs.length-i/\i<=xs.length/\b i σ H,⟨xs.length,by simp,JL _,t⟩,?_⟩;rintro i m σ H ⟨rfl,hi,p⟩;have q:=r i σ H hi p;by_cases h:i<xs.length
  · refine .inr ⟨⟨xs,xs[i],q,by simp[h]⟩,b (i+1),λf c n=>⟨xs.length-(i+1),by omega,rfl,h,n⟩,λx c y=>?_⟩
    obtain⟨e,y⟩:=y;subst e;exact o i x σ _ (y xs q) p
  · have e:i=xs.length:=by omega
    subst e;exact .inl ⟨⟨xs,q,Jb _⟩,s σ H p⟩
theorem xI {lo:Int}{n:Nat}{g:TG}{j:TS}{D:Ends}{σ:St}{H:Hp}(a:Nat->St->Hp->Prop)(r:a 0 σ H)(o:∀ i σ H,i<n->a i σ H->g (.int (lo+i)) σ H λc h=>j { D with nx:=a (i+1),ct:=a (i+1),bk:=D.nx } c h)(q:∀ σ H,a n σ H->D.nx σ H) :
    ∃ W:Nat->Nat->St->Hp->Prop,(∃ m,W 0 m σ H)/\∀ i m σ H,W i m σ H ->
      ((Itr lo n).stop i H/\D.nx σ H)\/((Itr lo n).go i H/\∃ N:St->Hp->Prop,(∀ d b,N d b->∃ k,k<m/\W (i+1) k d b)/\∀ x b,(Itr lo n).yld i H x b->g x σ b λc h=>j { D with nx:=N,ct:=N,bk:=D.nx } c h):=by
  refine⟨λi m σ H=>m=n-i/\i<=n/\a i σ H,⟨n,by simp,JL _,r⟩,?_⟩;rintro i m σ H ⟨rfl,hi,p⟩;by_cases f:i<n
  · refine .inr ⟨f,a (i+1),λd b l=>⟨n-(i+1),by omega,rfl,f,l⟩,λx b y=>?_⟩
    obtain⟨e,y⟩:=y;subst e y;exact o i σ _ f p
  · have e:i=n:=by omega
    subst e;exact .inl ⟨Jb _,q σ H p⟩
abbrev R2:=V->V->Hp->VK->Prop
def OpR (X:Cx)(f:Value->Value->Sem Value)(r:R2):Prop :=
  ∀ (pins:List (Addr × Obj)) (s:Shared) (σ:St) (H:Hp) (x y:V) (v u:Value) (Q:VK),Inv X pins σ H s->RelV x v->RelV y u->r x y H Q ->
    wpAny (model X.prog X.w) X.A (f v u) (EP X pins σ Q) X.xe s
def UnR (X:Cx)(f:Value->Sem Value)(r:V->Hp->VK->Prop):Prop :=
  ∀ (pins:List (Addr × Obj)) (s:Shared) (σ:St) (H:Hp) (x:V) (v:Value) (Q:VK),Inv X pins σ H s->RelV x v->r x H Q ->
    wpAny (model X.prog X.w) X.A (f v) (EP X pins σ Q) X.xe s
def CallR (X:Cx)(f:Value)(r:List V->Hp->VK->Prop):Prop :=
  ∀ (pins:List (Addr × Obj)) (s:Shared) (σ:St) (H:Hp) (a:List V) (b:List Value) (Q:VK),Inv X pins σ H s->Vals a b->r a H Q ->
    wpAny (model X.prog X.w) X.A (call f b) (EP X pins σ Q) X.xe s
def TruR (X:Cx)(r:V->Hp->(Bool->Hp->Prop)->Prop):Prop :=
  ∀ (pins:List (Addr × Obj)) (s:Shared) (σ:St) (H:Hp) (x:V) (v:Value) (Q:Bool->Hp->Prop),Inv X pins σ H s->RelV x v->r x H Q ->
    wpAny (model X.prog X.w) X.A (truthy v) (TP X pins σ Q) X.xe s
def tOp (r:R2)(b a:TE):TE:=λσ H Q=>b σ H λx d=>a σ d λy c=>r x y c Q
def tUn (r:V->Hp->VK->Prop)(a:TE):TE:=λσ H Q=>a σ H λx b=>r x b Q
def rI (C:Int->Int->Prop)(g:Int->Int->V):R2:=λx y H Q=>∃ i j,x=.int i/\y=.int j/\C i j/\Q (g i j) H
def rI0 (g:Int->Int->V):R2:=λx y H Q=>∃ i j,x=.int i/\y=.int j/\Q (g i j) H
def rU (g:Int->V):V->Hp->VK->Prop:=λx H Q=>∃ i,x=.int i/\Q (g i) H
section
variable {X:Cx}{a b:Expr}{ta tb:TE}{pos:Pos}
theorem eP (ha:PE X a ta)(o:PE X b tb){pins:List (Addr × Obj)}{s:Shared}{σ:St}{H:Hp}{R:V->V->Hp->Prop}(I:Inv X pins σ H s)(h:ta σ H λx g=>tb σ g λy c=>R x y c){Q:Value->Shared->Prop}{f:Value->Value->Sem Value}(n:∀ v u s2 x y c,Inv X pins σ c s2->RelV x v->RelV y u->R x y c->wpAny (model X.prog X.w) X.A (f v u) Q X.xe s2) :
    wpAny (model X.prog X.w) X.A (eval a X.env) (λv e=>wpAny (model X.prog X.w) X.A (eval b X.env) (λu d=>wpAny (model X.prog X.w) X.A (f v u) Q X.xe d) X.xe e) X.xe s:=by
  refine thn (ha pins s σ H _ I h) λv i ⟨x,g,q,k,m⟩=>?_;refine thn (o pins i σ g _ q m) λu s2 ⟨y,c,p,j,l⟩=>?_;exact n v u s2 x y c p k j l
theorem zP {op:Operator}{r:R2}(f:OpR X (binaryOp op) r)(ha:PE X a ta)(g:PE X b tb):PE X (.BinOp a op b pos) (tOp r ta tb):=by
  intro pins s σ H Q I h;exact wpAny_BinOp (eP ha g I h λv u c x y j i e d q=>f pins c σ j x y v u Q i e d q)
theorem gG {op:UnaryOp}{r:V->Hp->VK->Prop}(e:UnR X (unaryOp op) r)(ha:PE X a ta):PE X (.UnaryOp op a pos) (tUn r ta):=by
  intro pins s σ H Q I h;exact UnaryOp_ (thn (ha pins s σ H _ I h) λv b ⟨x,g,f,c,d⟩=>e pins b σ g x v Q f c d)
theorem opI {f:Value->Value->Sem Value}{C:Int->Int->Prop}{g:Int->Int->Int}(rule:∀ (i j:Int) (t u:Tok) (s:Shared) (Q:Value->Shared->Prop) (E:Value->Shared->Prop),C i j->Q (.int (g i j) s.toks) { s with toks:=s.toks+1 }->wpAny (model X.prog X.w) X.A (f (.int i t) (.int j u)) Q E s) :
    OpR X f (rI C λi j=>.int (g i j)):=by
  intro pins s σ H x y v u Q I c b h;obtain⟨i,j,rfl,rfl,d,q⟩:=h;obtain⟨t,rfl⟩:=c;obtain⟨a,rfl⟩:=b;exact rule i j t a s _ _ d ⟨.int (g i j),H,I.tok _,⟨_,rfl⟩,q⟩
theorem cA {f:Value->Value->Sem Value}{g:Int->Int->Int}(rule:∀ (i j:Int) (t u:Tok) (s:Shared) (Q:Value->Shared->Prop) (E:Value->Shared->Prop),Q (.int (g i j) s.toks) { s with toks:=s.toks+1 }->wpAny (model X.prog X.w) X.A (f (.int i t) (.int j u)) Q E s) :
    OpR X f (rI0 λi j=>.int (g i j)):=by
  intro pins s σ H x y v u Q I c b h;obtain⟨i,j,rfl,rfl,q⟩:=h;obtain⟨t,rfl⟩:=c;obtain⟨a,rfl⟩:=b;exact rule i j t a s _ _ ⟨.int (g i j),H,I.tok _,⟨_,rfl⟩,q⟩
theorem iP {f:Value->Value->Sem Value}{g:Int->Int->Bool}(rule:∀ (i j:Int) (t u:Tok) (s:Shared) (Q:Value->Shared->Prop) (E:Value->Shared->Prop),Q (.bool (g i j)) s->wpAny (model X.prog X.w) X.A (f (.int i t) (.int j u)) Q E s) :
    OpR X f (rI0 λi j=>.bl (g i j)):=by
  intro pins s σ H x y v u Q I c b h;obtain⟨i,j,rfl,rfl,q⟩:=h;obtain⟨t,rfl⟩:=c;obtain⟨a,rfl⟩:=b;exact rule i j t a s _ _ ⟨.bl (g i j),H,I,rfl,q⟩
def CDiv (i j:Int):Prop:=0<j/\j<1073741824
def CPow (i j:Int):Prop:=0<=j/\j<=1000000/\i.natAbs<2 ^ 64
def CMul (i j:Int):Prop:=(-(2 ^ 64)<i/\i<2 ^ 64)\/(-(2 ^ 64)<j/\j<2 ^ 64)
theorem CMul.ok {i j:Int}(h:CMul i j):IntMulOk i j:=by
  rcases h with ⟨b,a⟩|⟨b,a⟩
  · exact .of_left (intBits_le_64 b a)
  · exact .of_right (intBits_le_64 b a)
theorem yI:OpR X (binaryOp .Add) (rI0 λi j=>.int (i+j)):=cA λ_ _ _ _ _ _ _ q=>add_int q
theorem xY:OpR X (binaryOp .Sub) (rI0 λi j=>.int (i-j)):=cA λ_ _ _ _ _ _ _ q=>sub_int q
theorem xZ:OpR X (binaryOp .Mult) (rI CMul λi j=>.int (i*j)):=opI λ_ _ _ _ _ _ _ a q=>mul_int q a.ok
theorem xw:OpR X (binaryOp .FloorDiv) (rI CDiv λi j=>.int (i / j)):=opI λi j _ _ _ _ _ a q=>by
  have c:(0:Int)<j:=a.1;have b:j<1073741824:=a.2;exact floordiv_int (by omega) (by rw[Int.fdiv_eq_ediv_of_nonneg i (by omega)];exact q) (.inl (PyProof.noPylong_small (by omega)))
theorem xa:OpR X (binaryOp .Mod) (rI (λ_ j=>0<j) λi j=>.int (i%j)):=opI λi j _ _ _ _ _ a q=>by
  have b:(0:Int)<j:=a;exact mod_int' (by omega) (by rw[Int.fmod_eq_emod_of_nonneg i (by omega)];exact q)
theorem sj:OpR X (binaryOp .Pow) (rI CPow λi j=>.int (i ^ j.toNat)):=opI λ_ _ _ _ _ _ _ a q=>pow_int_small a.1 a.2.1 a.2.2 q
theorem unI {f:Value->Sem Value}{g:Int->Int}(rule:∀ (i:Int) (t:Tok) (s:Shared) (Q:Value->Shared->Prop) (E:Value->Shared->Prop),Q (.int (g i) s.toks) { s with toks:=s.toks+1 }->wpAny (model X.prog X.w) X.A (f (.int i t)) Q E s) :
    UnR X f (rU λi=>.int (g i)):=by
  intro pins s σ H x v Q I a h;obtain⟨i,rfl,q⟩:=h;obtain⟨t,rfl⟩:=a;exact rule i t s _ _ ⟨.int (g i),H,I.tok _,⟨_,rfl⟩,q⟩
theorem lj:UnR X (unaryOp .USub) (rU λi=>.int (-i)):=unI λ_ _ _ _ _ q=>neg_int q
end
def da:V->V->Bool
  | .non,.non=>true|.non,.int _=>true|.int _,.non=>true|.non,.bl _=>true|.bl _,.non=>true|.non,.str _=>true|.str _,.non=>true
  | .int _,.int _=>true|.bl _,.bl _=>true|.str _,.str _=>true|.byt _,.byt _=>true
  | .int _,.str _=>true|.str _,.int _=>true|.bl _,.str _=>true|.str _,.bl _=>true
  | _,_=>false
def rEq:R2:=λx y H Q=>da x y=true/\Q (.bl (decide (x=y))) H
def rNe:R2:=λx y H Q=>da x y=true/\Q (.bl (!decide (x=y))) H
theorem nH {i j:Int}:decide (V.int i=V.int j)=(i == j):=by
  rw[JZ];simp
theorem jz {i j:Bool}:decide (V.bl i=V.bl j)=(i == j):=by
  rw[JZ];simp
theorem nG {i j:Str}:decide (V.str i=V.str j)=(i == j):=by
  rw[JZ];simp
theorem nJ {i j:Array UInt8}:decide (V.byt i=V.byt j)=(i.toList == j.toList):=by
  rw[JZ];cases i;cases j;simp
section
variable {X:Cx}{a b c:Expr}{ta tb tc:TE}{pos:Pos}
theorem yA {pins:List (Addr × Obj)}{σ:St}{H:Hp}{s:Shared}{Q:VK}{k a:Bool}(I:Inv X pins σ H s)(q:Q (.bl k) H)(e:k=a):EP X pins σ Q (.bool a) s:=by
  subst e;exact⟨.bl k,H,I,rfl,q⟩
theorem xD:OpR X (compareOp .Eq) rEq:=by
  intro pins s σ H x y v u Q I d a h;obtain⟨c,q⟩:=h
  cases x with
  | non =>
    cases d
    cases y with
    | non=>cases a;exact PySem.EqNone.eq_none_none (yA I q (by simp))
    | bl j=>cases a;exact PySem.EqNone.eq_none_bool (yA I q (by simp))
    | int j=>obtain⟨b,rfl⟩:=a;exact PySem.EqNone.eq_none_int (yA I q (by simp))
    | str j=>obtain⟨b,rfl⟩:=a;exact PySem.EqNone.eq_none_str (yA I q (by simp))
    | _=>exact absurd (show false=true from c) Jf
  | bl i =>
    cases d
    cases y with
    | non=>cases a;exact PySem.EqNone.eq_bool_none (yA I q (by simp))
    | bl j=>cases a;exact eq_bool (yA I q jz)
    | str j=>obtain⟨b,rfl⟩:=a;exact PySem.EqMixed.eq_bool_str (yA I q (by simp))
    | _=>exact absurd (show false=true from c) Jf
  | int i =>
    obtain⟨t,rfl⟩:=d
    cases y with
    | non=>cases a;exact PySem.EqNone.eq_int_none (yA I q (by simp))
    | int j=>obtain⟨b,rfl⟩:=a;exact eq_int (yA I q nH)
    | str j=>obtain⟨b,rfl⟩:=a;exact PySem.EqMixed.eq_int_str (yA I q (by simp))
    | _=>exact absurd (show false=true from c) Jf
  | str i =>
    obtain⟨t,rfl⟩:=d
    cases y with
    | non=>cases a;exact PySem.EqNone.eq_str_none (yA I q (by simp))
    | bl j=>cases a;exact PySem.EqMixed.eq_str_bool (yA I q (by simp))
    | int j=>obtain⟨b,rfl⟩:=a;exact PySem.EqMixed.eq_str_int (yA I q (by simp))
    | str j=>obtain⟨b,rfl⟩:=a;exact eq_str (yA I q nG)
    | _=>exact absurd (show false=true from c) Jf
  | byt i =>
    obtain⟨t,rfl⟩:=d
    cases y with
    | byt j=>obtain⟨b,rfl⟩:=a;exact PySem.W.eq_bytes (yA I q nJ)
    | _=>exact absurd (show false=true from c) Jf
  | _=>cases y<;>exact absurd (show false=true from c) Jf
theorem tH:OpR X (compareOp .NotEq) rNe:=by
  intro pins s σ H x y v u Q I d a h;obtain⟨c,q⟩:=h
  cases x with
  | non =>
    cases d
    cases y with
    | non=>cases a;exact PySem.EqNone.ne_none_none (yA I q (by simp))
    | bl j=>cases a;exact PySem.EqNone.ne_none_bool (yA I q (by simp))
    | int j=>obtain⟨b,rfl⟩:=a;exact PySem.EqNone.ne_none_int (yA I q (by simp))
    | str j=>obtain⟨b,rfl⟩:=a;exact PySem.EqNone.ne_none_str (yA I q (by simp))
    | _=>exact absurd (show false=true from c) Jf
  | bl i =>
    cases d
    cases y with
    | non=>cases a;exact PySem.EqNone.ne_bool_none (yA I q (by simp))
    | bl j=>cases a;exact ne_bool (yA I q (JH not jz))
    | str j=>obtain⟨b,rfl⟩:=a;exact PySem.EqMixed.ne_bool_str (yA I q (by simp))
    | _=>exact absurd (show false=true from c) Jf
  | int i =>
    obtain⟨t,rfl⟩:=d
    cases y with
    | non=>cases a;exact PySem.EqNone.ne_int_none (yA I q (by simp))
    | int j=>obtain⟨b,rfl⟩:=a;exact ne_int (yA I q (JH not nH))
    | str j=>obtain⟨b,rfl⟩:=a;exact PySem.EqMixed.ne_int_str (yA I q (by simp))
    | _=>exact absurd (show false=true from c) Jf
  | str i =>
    obtain⟨t,rfl⟩:=d
    cases y with
    | non=>cases a;exact PySem.EqNone.ne_str_none (yA I q (by simp))
    | bl j=>cases a;exact PySem.EqMixed.ne_str_bool (yA I q (by simp))
    | int j=>obtain⟨b,rfl⟩:=a;exact PySem.EqMixed.ne_str_int (yA I q (by simp))
    | str j=>obtain⟨b,rfl⟩:=a;exact ne_str (yA I q (JH not nG))
    | _=>exact absurd (show false=true from c) Jf
  | byt i =>
    obtain⟨t,rfl⟩:=d
    cases y with
    | byt j=>obtain⟨b,rfl⟩:=a;exact PySem.W.ne_bytes (yA I q (JH not nJ))
    | _=>exact absurd (show false=true from c) Jf
  | _=>cases y<;>exact absurd (show false=true from c) Jf
theorem jH:OpR X (compareOp .Lt) (rI0 λi j=>.bl (decide (i<j))):=iP λ_ _ _ _ _ _ _ q=>lt_int q
theorem tI:OpR X (compareOp .LtE) (rI0 λi j=>.bl (decide (i<=j))):=iP λ_ _ _ _ _ _ _ q=>le_int q
theorem rg:OpR X (compareOp .Gt) (rI0 λi j=>.bl (decide (j<i))):=iP λ_ _ _ _ _ _ _ q=>gt_int q
theorem gH:OpR X (compareOp .GtE) (rI0 λi j=>.bl (decide (j<=i))):=iP λ_ _ _ _ _ _ _ q=>ge_int q
theorem g7:OpR X (compareOp .Is) (λx y H Q=>y=.non/\Q (.bl (decide (x=.non))) H):=by
  intro pins s σ H x y v u Q I a b h;obtain⟨rfl,q⟩:=h;cases b;refine is_none_gen (yA I q ?_)
  cases x<;>first
    | (cases a;rfl)
    | (obtain⟨t,rfl⟩:=a;rfl)
theorem zt (b:Expr){op:CmpOp}(h:op≠.In:=by decide)(a:op≠.NotIn:=by decide):behindInMarks op b=false:=by
  have c:(op == CmpOp.In)=false:=by cases op<;>first|rfl|exact absurd rfl h
  have e2:(op == CmpOp.NotIn)=false:=by cases op<;>first|rfl|exact absurd rfl a
  cases b<;>simp[behindInMarks,c,e2]
theorem y8 {op:CmpOp}{r:R2}(f:OpR X (compareOp op) r)(ha:PE X a ta)(g:PE X b tb)(hm:behindInMarks op b=false):PE X (.Compare a [op] [b] pos) (tOp r ta tb):=by
  intro pins s σ H Q I h;exact wpAny_Compare1 (eP ha g I h λv u c x y j i e d q=>f pins c σ j x y v u Q i e d q) hm
def eV (t:TE):TT:=λσ H Q=>t σ H λx a=>∃ k,x=.bl k/\Q k a
theorem zp {op:CmpOp}{r:R2}(o:OpR X (compareOp op) r)(ha:PE X a ta)(p:PE X b tb)(hm:behindInMarks op b=false):PT X (.Compare a [op] [b] pos) (eV (tOp r ta tb)):=by
  intro pins s σ H Q I h
  refine wpAny_isTrue_Compare1 (thn (ha pins s σ H _ I h) λv f ⟨x,C,w,j,n⟩=>thn (p pins f σ C _ w n) λu d ⟨y,B,t,i,m⟩ =>
    thn (o pins d σ B x y v u _ t j i m) λc D ⟨z,A,q,g,k,e,l⟩=>?_) hm
  subst e;cases g;exact Yi ⟨A,q,l⟩
def gR (r c:R2)(ta tb tc:TE):TE:=λσ H Q=>ta σ H λx f=>tb σ f λy e=>r x y e λz a=>∃ k,z=.bl k /\
  (if k=true then tc σ a λb d=>c y b d Q else Q (.bl false) a)
theorem rc {op f:CmpOp}{r j:R2}(J:OpR X (compareOp op) r)(g:OpR X (compareOp f) j)(ha:PE X a ta)(L:PE X b tb)(K:PE X c tc)(hm:lastMarks [op,f] [b,c]=false:=by with_unfolding_all rfl):PE X (.Compare a [op,f] [b,c] pos) (gR r j ta tb tc):=by
  intro pins s σ H Q I h
  refine Compare_chain (thn (ha pins s σ H _ I h) λv A ⟨x,S,O,D,G⟩=>chain_link (thn (L pins A σ S _ O G) λu w ⟨y,R,N,i,F⟩ =>
    thn (J pins w σ R x y v u _ N D i F) λd t ⟨z,n,m,C,k,e,l⟩=>?_)) hm
  subst e;cases C;refine Yi ?_
  cases k with
  | false=>exact ite_ff ⟨.bl false,n,m,rfl,l⟩
  | true=>exact ite_tt (chain_last (thn (K pins t σ n _ m l) λp q ⟨o,P,M,B,E⟩=>g pins q σ P y o u p Q M i B E))
def TruV (K:PySem.W.Frag)(x:V)(H:Hp)(k:Bool):Prop :=
  match x with
  | .non=>k=false
  | .bl b=>k=b
  | .int i=>k=(i != 0)
  | .str y=>y.length<=sizeLine/\k=((y.length:Int) != 0)
  | .byt y=>y.size<=sizeLine/\k=((y.size:Int) != 0)
  | .ref p=>(∃ a,SqL K H p a/\k = !a.isEmpty)\/(∃ a,SqT K H p a/\k = !a.isEmpty)\/∃ c,H p=some (.dK c)/\k = !c.isEmpty
  | _=>False
theorem oK {a:Type}{kvs:List (a × V)}{vs:List (a × Value)}(r:KV kvs vs):(!vs.isEmpty) = !kvs.isEmpty:=by
  cases r<;>rfl
theorem uX {xs:List V}{its:List Value}(r:Vals xs its):(!its.toArray.isEmpty) = !xs.isEmpty:=by
  cases r<;>simp
theorem uT:(sizeLine:Nat)<2 ^ 63:=by rw[Js];decide
theorem gM:TruR X (λx H Q=>∃ k,TruV X.K x H k/\Q k H):=by
  intro pins s σ H x v Q I f h;obtain⟨k,e,q⟩:=h;have z:=uT;have w:sizeLine=16777216:=Js
  cases x with
  | non =>
    cases f;have a:k=false:=e;subst a
    exact truthy_none ⟨H,I,q⟩
  | bl b =>
    cases f;have a:k=b:=e;subst a
    exact Yi ⟨H,I,q⟩
  | int i =>
    obtain⟨t,rfl⟩:=f;have a:k=(i != 0):=e;subst a
    exact PySem.P.truthy_int ⟨H,I,q⟩
  | str y =>
    obtain⟨t,rfl⟩:=f;obtain⟨o,a⟩:y.length<=sizeLine/\k=((y.length:Int) != 0):=e;subst a
    exact PySem.P.truthy_str (by omega) ⟨H,I.tok _,q⟩
  | byt y =>
    obtain⟨t,rfl⟩:=f;obtain⟨o,a⟩:y.size<=sizeLine/\k=((y.size:Int) != 0):=e;subst a
    exact PySem.W.truthy_bytes (by omega) ⟨H,I.tok _,q⟩
  | ref p =>
    cases f;have a:(∃ d,SqL X.K H p d/\k = !d.isEmpty)\/(∃ d,SqT X.K H p d/\k = !d.isEmpty)\/∃ c,H p=some (.dK c)/\k = !c.isEmpty:=e;rcases a with ⟨d,g,a⟩|⟨d,g,a⟩|⟨c,g,a⟩
    · subst a
      obtain⟨l,r,pl,n⟩:=I.list g;have hlen:=r.length;exact wpAny_truthy_list pl.isList (by simp only[Je];omega) ⟨H,I.tok _,by rw[uX r];exact q⟩
    · subst a
      obtain⟨l,r,pl,n⟩:=I.tuple g;have hlen:=r.length;exact truthy_tuple pl (by simp only[Je];omega) ⟨H,I.tok _,by rw[uX r];exact q⟩
    · subst a
      obtain⟨n,u,j,r,m⟩:c.length<=sizeLine/\(p == sysModules)=false/\∃ j,KV c j/\s.heap.DictOf (yW X.prog X.w) p j:=I.hok p _ g;have hlen:c.length=j.length:=Yt r
      exact wpAny_truthy_dict u m (by omega) ⟨H,I.tok _,by rw[oK r];exact q⟩
  | _=>exact(show False from e).elim
theorem kZ (ha:PE X a ta)(e:∀ whole,isTrue a X.env whole=(do let v <- whole;standAt a.pos;holding [v] (truthy v))) :
    PT X a (λσ H Q=>ta σ H λx H'=>∃ k,TruV X.K x H' k/\Q k H'):=by
  intro pins s σ H Q I h;exact isTrue_plain (thn (ha pins s σ H _ I h) λv b ⟨x,g,f,c,d⟩=>gM pins b σ g x v Q f c d) (e _)
theorem wp {x:V}{us:List Value}(r:Vals [x] us):∃ u,us=[u]/\RelV x u:=by
  cases r with
  | cons b a=>cases a;exact⟨_,rfl,b⟩
theorem gC {x y:V}{us:List Value}(r:Vals [x,y] us):∃ u a,us=[u,a]/\RelV x u/\RelV y a:=by
  cases r with
  | cons e d =>
    cases d with
    | cons c b=>cases b;exact⟨_,_,rfl,e,c⟩
theorem qi:CallR X (.builtin "abs") (λxs H Q=>∃ i,xs=[.int i]/\Q (.int (if i<0 then -i else i)) H):=by
  intro pins s σ H xs a Q I r h;obtain⟨i,rfl,q⟩:=h;obtain⟨u,rfl,t,rfl⟩:=wp r;exact call_abs_int λu b=>⟨.int (if i<0 then -i else i),H,I.tok _,⟨_,rfl⟩,q⟩
theorem lP (b:X.calm=true):CallR X (.builtin "max") (λxs H Q=>∃ i j,xs=[.int i,.int j]/\Q (.int (if j > i then j else i)) H):=by
  intro pins s σ H xs d Q I r h;obtain⟨i,j,rfl,q⟩:=h;obtain⟨u,c,rfl,⟨t,rfl⟩,⟨f,rfl⟩⟩:=gC r;refine max_two_ints (I.ok.hd b) λg e k=>⟨_,H,I.kept k,?_,q⟩;by_cases a:j > i
  · rw[JE a,JE a];exact⟨_,rfl⟩
  · rw[Jv a,Jv a];exact⟨_,rfl⟩
theorem lN (b:X.calm=true):CallR X (.builtin "min") (λxs H Q=>∃ i j,xs=[.int i,.int j]/\Q (.int (if j<i then j else i)) H):=by
  intro pins s σ H xs d Q I r h;obtain⟨i,j,rfl,q⟩:=h;obtain⟨u,c,rfl,⟨t,rfl⟩,⟨f,rfl⟩⟩:=gC r;refine min_two_ints (I.ok.hd b) λg e k=>⟨_,H,I.kept k,?_,q⟩;by_cases a:j<i
  · rw[JE a,JE a];exact⟨_,rfl⟩
  · rw[Jv a,Jv a];exact⟨_,rfl⟩
theorem wV:CallR X (.type "int") (λxs H Q=>(∃ i,xs=[.int i]/\Q (.int i) H)\/∃ k,xs=[.bl k]/\Q (.int (if k then 1 else 0)) H):=by
  intro pins s σ H xs b Q I r h;rcases h with ⟨i,rfl,q⟩|⟨k,rfl,q⟩
  · obtain⟨u,rfl,t,rfl⟩:=wp r
    exact call_int_int ⟨.int i,H,I,⟨_,rfl⟩,q⟩
  · obtain⟨u,rfl,a⟩:=wp r
    cases a;exact call_int_bool ⟨.int (if k then 1 else 0),H,I.tok _,⟨_,rfl⟩,q⟩
theorem uf:CallR X (.type "bool") (λxs H Q=>(∃ i,xs=[.int i]/\Q (.bl (i != 0)) H)\/∃ k,xs=[.bl k]/\Q (.bl k) H):=by
  intro pins s σ H xs b Q I r h;rcases h with ⟨i,rfl,q⟩|⟨k,rfl,q⟩
  · obtain⟨u,rfl,t,rfl⟩:=wp r
    exact call_bool_int ⟨.bl (i != 0),H,I,rfl,q⟩
  · obtain⟨u,rfl,a⟩:=wp r
    cases a;exact call_bool_bool ⟨.bl k,H,I,rfl,q⟩
end
structure ObjM (h:Heap) (x dx C:Addr) (mA:Str->Option Value):Prop where
  obj:h.get? x=some (PySem.W.instObj C dx)
  ns:h.Ns1 dx mA
  ne:dx≠x
theorem mW {h:Heap}{dx:Addr}{mA:Str->Option Value}(n:h.Ns1 dx mA):∃ od,h.get? dx=some od/\∀ name,PySem.W.lookIn name od=some (mA name):=by
  obtain⟨o,c,l,f,j,i,_,g⟩:=n;refine⟨o,f,λname=>?_⟩;have e:=g name;unfold nsFind findBy at e;rw[<- Array.find?_toList]at e;unfold PySem.W.lookIn;rw[j];dsimp only;split
  · rename_i y q
    rw[q]at e;exact JH some e
  · rename_i q
    rw[q]at e
    have a:c.toList.any (·.refKey)=false:=by
      rw[List.any_eq_false];intro y d;obtain⟨z,t,b⟩:=i y (Array.mem_toList_iff.mp d);simp[DictEntry.refKey,b]
    have k:¬ c.toList.any (·.refKey)=true:=by rw[a];exact Jf
    rw[Jv k];exact JH some e
theorem ObjM.look {h:Heap}{x dx C:Addr}{mA:Str->Option Value}(I:ObjM h x dx C mA):∃ od,PySem.W.InstAt h x (PySem.W.instObj C dx) C (some od)/\∀ name,PySem.W.lookIn name od=some (mA name) :=
  let ⟨od,a,b⟩:=mW I.ns
  ⟨od,⟨I.obj,rfl,rfl,a⟩,b⟩
section
variable {P:Program}{w:World}{H:Hp}{h:Heap}{a C dx:Addr}{fs:List (Str × V)}
theorem iu (hok:HOk P w H h)(e:H a=some (.ins C dx fs)):∃ mA,ObjM h a dx C mA/\(∀ f,RelO (fs.lookup f) (mA f))/\PySem.Within mA (fs.map (·.1))/\fs.length<=1000/\H dx=some (.own a):=by
  obtain⟨d,z,ne,ob,mA,n,r,q⟩:=(show ObjOk P w H h a (.ins C dx fs) from hok a _ e);exact⟨mA,⟨ob,n,ne⟩,r,q,z,d⟩
end
structure Cls (K:PySem.W.Frag) (C:Addr):Prop where
  pg:PySem.W.plainGet K C Str.empty=true
  hd:PySem.W.hasDictIn K C=true
  po:PySem.W.plainOver K C=true
  sa:PySem.W.findIn K (.ref C) "__setattr__" = some (some (.builtin "object.__setattr__"))
theorem Cls.get {K:PySem.W.Frag}{C:Addr}(c:Cls K C)(f:Str):PySem.W.plainGet K C f=true:=c.pg
section
variable {X:Cx}{pins:List (Addr × Obj)}{σ:St}{H:Hp}{s:Shared}{A:Around}{E:Value->Shared->Prop}{Q:Value->Shared->Prop}{c:Value}{b:Bool}
inductive TyOf (K:PySem.W.Frag) (H:Hp):V->Value->Prop where
  | non:TyOf K H .non (.type "NoneType")
  | bl (x:Bool):TyOf K H (.bl x) (.type "bool")
  | int (i:Int):TyOf K H (.int i) (.type "int")
  | str (x:Str):TyOf K H (.str x) (.type "str")
  | flt (x:UInt64):TyOf K H (.flt x) (.type "float")
  | lst {a:Addr}{xs:List V}(e:H a=some (.lst xs)):TyOf K H (.ref a) (.type "list")
  | frz {a:Addr}{o:Obj}{xs:List V}(e:H a=some (.frz o (.lst xs))):TyOf K H (.ref a) (.type "list")
  | tup {a:Addr}{xs:List V}(e:H a=some (.tup xs)):TyOf K H (.ref a) (.type "tuple")
  | dK {a:Addr}{kvs:List (Key × V)}(e:H a=some (.dK kvs)):TyOf K H (.ref a) (.type "dict")
  | dT {a:Addr}{kvs:List (List Key × V)}(e:H a=some (.dT kvs)):TyOf K H (.ref a) (.type "dict")
  | ins {a C dx:Addr}{fs:List (Str × V)}(e:H a=some (.ins C dx fs)) (cl:Cls K C) (ha:PySem.W.findIn K (.ref C) "__class__" = some (some (.builtin "object.__class__")))
      (hn:PySem.W.specialIn K (.builtin "object.__class__") "__get__" = some (some (.builtin "getset_descriptor.__get__"))) (htk:PySem.W.takesIn K (.builtin "object.__class__")=some true)
      (hm:PySem.W.mroIn K C (.type "object")=some true):TyOf K H (.ref a) (.ref C)
theorem mn {x:V}{u t:Value}(I:Inv X pins σ H s)(d:RelV x u)(ty:TyOf X.K H x t)(e:PySem.W.kitOne X.K t c=some b)(h:∀ tk,Q (.bool b) { s with toks:=tk }) :
    wpAny (model X.prog X.w) A (call (.builtin "isinstance") [u,c]) Q E s:=by
  cases ty with
  | non=>cases (show u=Value.none from d);exact Ya PySem.W.kitx_none I.kIn True.intro e (λz=>nomatch z) h
  | bl y=>cases (show u=Value.bool y from d);exact Ya PySem.W.kitx_bool I.kIn True.intro e (λz=>nomatch z) h
  | int i=>obtain⟨t,q⟩:=(show ∃ t,u=Value.int i t from d);cases q;exact Ya PySem.W.kitx_int I.kIn True.intro e (λz=>nomatch z) h
  | str y=>obtain⟨t,q⟩:=(show ∃ t,u=Value.str y t from d);cases q;exact Ya PySem.W.kitx_str I.kIn True.intro e (λz=>nomatch z) h
  | flt y=>obtain⟨t,q⟩:=(show ∃ t,u=Value.float y t from d);cases q;exact Ya PySem.W.kitx_float I.kIn True.intro e (λz=>nomatch z) h
  | @lst a k f =>
    cases (show u=Value.ref a from d);obtain⟨_,_,n,_,g⟩:=(show ObjOk X.prog X.w H s.heap a (.lst k) from I.hok a _ f)
    exact Ya PySem.W.kitx_list I.kIn ⟨_,g,rfl⟩ e (λz=>nomatch z) h
  | @frz a ob k f =>
    cases (show u=Value.ref a from d);obtain⟨_,_,_,n,_,g⟩:=(show ObjOk X.prog X.w H s.heap a (.frz ob (.lst k)) from I.hok a _ f)
    exact Ya PySem.W.kitx_list I.kIn ⟨_,g,rfl⟩ e (λz=>nomatch z) h
  | @tup a k f =>
    cases (show u=Value.ref a from d);obtain⟨_,_,_,r⟩:=(show ObjOk X.prog X.w H s.heap a (.tup k) from I.hok a _ f);have p:=r.tup;obtain⟨o,g,l,_⟩:=p
    exact Ya PySem.W.kitx_tuple I.kIn ⟨o,g,l⟩ e (λz=>nomatch z) h
  | @dK a j f =>
    cases (show u=Value.ref a from d);obtain⟨_,_,G,_,p⟩:=(show ObjOk X.prog X.w H s.heap a (.dK j) from I.hok a _ f);obtain⟨o,D,F,g,l,_⟩:=p
    exact Ya PySem.W.kitx_dict I.kIn ⟨o,g,l.1⟩ e (λz=>nomatch z) h
  | @dT a j f =>
    cases (show u=Value.ref a from d);obtain⟨_,_,k,_,o,D,F,g,l,_⟩:=(show ObjOk X.prog X.w H s.heap a (.dT j) from I.hok a _ f)
    exact Ya PySem.W.kitx_dict I.kIn ⟨o,g,l.1⟩ e (λz=>nomatch z) h
  | @ins a C M fs f cl B v m w =>
    cases (show u=Value.ref a from d);obtain⟨L,O,_⟩:=iu I.hok f;obtain⟨K,J,_⟩:=O.look;exact Ya (PySem.W.kitx_own (cl.get _) cl.hd B v m w) I.kIn J e (λz=>nomatch z) h
end
structure Room (k:Nat) (A:Around):Prop where
  hd:A.handled=none
  dp:A.depth+3*k+5<recursionLimit
  un:A.units+16*k+200<cLine
  gd:A.guards=some []
theorem Room.mono {j k:Nat}{A:Around}(r:Room k A)(h:j<=k):Room j A:=⟨r.hd,by have:=r.dp;omega,by have:=r.un;omega,r.gd⟩
theorem Room.deeper {k:Nat}{A:Around}(r:Room (k+1) A)(env:Env):Room k (A.deeper env) :=
  ⟨r.hd,by have:=r.dp;show A.depth+1+3*k+5<_;omega,by have:=r.un;show A.units+3+16*k+200<_;omega,r.gd⟩
theorem Room.depth {k:Nat}{A:Around}(r:Room k A):A.depth<recursionLimit:=by have:=r.dp;omega
theorem Room.units {k:Nat}{A:Around}(r:Room k A):A.units+64<cLine:=by have:=r.un;omega
theorem Room.units0 {k:Nat}{A:Around}(r:Room k A):A.units<cLine:=by have:=r.un;omega
def eZ:TA:=λ_ H Q=>Q [] H
def gD (c:TE)(b:TA):TA:=λσ H Q=>c σ H λx e=>b σ e λa d=>Q (x::a) d
section
variable {X:Cx}{e:Expr}{es:List Expr}{te:TE}{t:TA}{pos:Pos}
theorem zB:PA X [] eZ:=λ_ _ _ _ H Q I h=>Calls.spliced_nil ⟨[],H,I,.nil,h⟩
theorem zA (ha:PE X e te)(j:PA X es t)(i:starEach (e::es) X.env=(false,eval e X.env)::starEach es X.env:=by rfl):PA X (e::es) (gD te t):=by
  intro pos pins s σ H Q I h;rw[i];show wpAny _ _ (spliced ((false,eval e X.env)::backTo pos (starEach es X.env))) _ _ s;refine Calls.spliced_cons (thn (ha pins s σ H _ I h) λu b ⟨x,n,l,d,g⟩=>?_);exact thn (j pos pins b σ n _ l g) λo p ⟨a,m,k,c,f⟩=>⟨x::a,m,k,.cons d c,f⟩
def cW (t:TA):TE:=λσ H Q=>t σ H λa b=>a.length<=sizeLine/\∀ p,b p=none->Q (.ref p) (upd b p (.tup a))
def cg (t:TA):TE:=λσ H Q=>t σ H λa b=>a.length<=sizeLine/\∀ p,b p=none->Q (.ref p) (upd b p (.lst a))
theorem zV {x1}(h:PA X es t):PE X (.Tuple es x1 pos) (cW t):=by
  intro pins s σ H Q I i;refine wpAny_Tuple_spliced (thn (h pos pins s σ H _ I i) λg a ⟨f,d,c,r,z,q⟩=>⟨by rw[<- r.length];exact z,?_⟩);have j:d a.heap.objs.size=none:=c.hok.fresh (Jb _);refine⟨.ref a.heap.objs.size,upd d a.heap.objs.size (.tup f),c.laid (t':=a.toks) (λb u e=>J2 _ e) (Jb _) ?_,rfl,q _ j⟩;exact⟨z,g,r,TupX.new _ _⟩
theorem zo (h:PA X es t):PE X (.List es pos) (cg t):=by
  intro pins s σ H Q I i;refine wpAny_List_spliced (thn (h pos pins s σ H _ I i) λg a ⟨f,d,c,r,z,q⟩=>⟨by rw[<- r.length];exact z,?_⟩);have j:d a.heap.objs.size=none:=c.hok.fresh (Jb _);refine⟨.ref a.heap.objs.size,upd d a.heap.objs.size (.lst f),c.laid (t':=a.toks) (λb u e=>J2 _ e) (Jb _) ?_,rfl,q _ j⟩;exact⟨z,g,0,r,Jk _ rfl⟩
end
abbrev Sp:=List V->Hp->VK->XK->Prop
abbrev CXT:=List Env->Hp->Shared->XK->Value->Shared->Prop
structure Env0 (P:Program) (w:World) (K:PySem.W.Frag) (mg:Str->Option Value) (base:Heap) (A:Around) (outer:List Env) (s:Shared) (H:Hp):Prop where
  frames:A.frames=some outer
  mod:Mod K mg base
  bs:∀ b o,base.get? b=some o->s.heap.get? b=some o/\H b=none
  bsz:base.objs.size<=s.heap.objs.size
  funs:s.heap.FunFrames base outer
  frf:∀ b∈frs outer,H b=none
  hok:HOk P w H s.heap
  bare:AllBare s.gens
def CE (outer:List Env)(P:Program)(w:World)(H:Hp)(s:Shared)(Q:VK)(u:Value)(a:Shared):Prop :=
  ∃ v b,a.os=s.os/\AllBare a.gens/\Un (frs outer) [] H b s.heap a.heap/\HOk P w b a.heap/\RelV v u/\Q v b
def CR (CX:CXT)(outer:List Env)(P:Program)(w:World)(H:Hp)(s:Shared)(Q:VK)(E:XK)(r:Result)(a:Shared):Prop :=
  match r with
  | .ok (.ret u)=>CE outer P w H s Q u a
  | .ok _=>False
  | .error e=>CX outer H s E e a
structure FnOk (P:Program) (w:World) (K:PySem.W.Frag) (mg:Str->Option Value) (base:Heap) (CX:CXT) (k:Nat) (f:Addr) (fd:FuncData) (ps:List Str) (sp:Sp):Prop where
  len:∀ vs H Q E,sp vs H Q E->vs.length=ps.length
  run:∀ (A:Around) (outer:List Env) (s:Shared) (H:Hp) (args:Args) (us:List Value) (vs:List V) (Q:VK) (E:XK),Room k A->Env0 P w K mg base A outer s H->BindsTo s fd args (ps.zip us)->Vals vs us->sp vs H Q E ->
    codeAny (model P w) A (.call (.ref f) args) (CR CX outer P w H s Q E) s
theorem FnOk.mono {P:Program}{w:World}{K:PySem.W.Frag}{mg:Str->Option Value}{base:Heap}{CX:CXT}{j k:Nat}{f:Addr}{fd:FuncData}{ps:List Str}{sp:Sp}(F:FnOk P w K mg base CX j f fd ps sp)(h:j<=k) :
    FnOk P w K mg base CX k f fd ps sp:=⟨F.len,λA outer s H args b a Q E c=>F.run A outer s H args b a Q E (c.mono h)⟩
theorem FnOk.imp {P:Program}{w:World}{K:PySem.W.Frag}{mg:Str->Option Value}{base:Heap}{CX:CXT}{k:Nat}{f:Addr}{fd:FuncData}{ps:List Str}{sp a:Sp}(F:FnOk P w K mg base CX k f fd ps sp)(h:∀ vs H Q E,a vs H Q E->sp vs H Q E):FnOk P w K mg base CX k f fd ps a :=
  ⟨λvs H Q E q=>F.len vs H Q E (h _ _ _ _ q),λA outer s H args b vs Q E e g i c d=>F.run A outer s H args b vs Q E e g i c (h _ _ _ _ d)⟩
section
variable {X:Cx}{pins:List (Addr × Obj)}{σ:St}{H:Hp}{s s':Shared}
theorem Inv.env0 (I:Inv X pins σ H s):Env0 X.prog X.w X.K X.mg X.base X.A X.stack s H :=
  ⟨I.ok.frames,I.ok.mod,I.bs,Jz I.ok.bsz I.sz,I.stack,I.stkFree,I.hok,I.bare⟩
theorem Inv.after {Q:VK}{u:Value}(I:Inv X pins σ H s)(h:CE X.stack X.prog X.w H s Q u s'):EP X pins σ Q u s':=by
  obtain⟨v,f,os,bare,un,c,r,q⟩:=h;obtain⟨e,g,d,t,a⟩:=s';obtain rfl:a=s.os:=os;exact⟨v,f,I.call (h':=e) (g':=g) (d':=d) (t':=t) (ch:=[]) un c bare (λb z=>absurd z (by simp)),r,q⟩
end
def dU (sp:Sp)(a:List V)(E:XK)(t:TA):TE:=λσ H Q=>t σ H λb c=>sp (b++a) c Q E
def Binds (K:PySem.W.Frag)(fd:FuncData)(ps:List Str)(ds:List Value):Prop :=
  ∀ (s:Shared) (a:List Value),K.In s.heap->(a++ds).length=ps.length->BindsTo s fd ⟨a,[]⟩ (ps.zip (a++ds))
theorem Binds.all {K:PySem.W.Frag}{fd:FuncData}{ps:List Str}(h:∀ us:List Value,us.length=ps.length->bindArgs fd ⟨us,[]⟩=pure (ps.zip us)):Binds K fd ps []:=λs us _ a=>by
  rw[Yn]at a ⊢;exact .of_eq (h us a)
def Passes (CX:CXT)(X:Cx)(E:XK):Prop:=∀ (pins:List (Addr × Obj)) (σ:St) (H:Hp) (s:Shared) (e:Value) (a:Shared),Inv X pins σ H s->CX X.stack H s E e a->X.xe e a
section
variable {X:Cx}{CX:CXT}{k:Nat}{f:Addr}{fd:FuncData}{ps:List Str}{sp:Sp}{dvs:List V}{ds:List Value}{E:XK}{x:Str}{p pos:Pos}{e:Expr}{es:List Expr}{t:TA}
theorem gr {pins:List (Addr × Obj)}{σ:St}{H:Hp}{s:Shared}{Q:VK}{us:List Value}{vs:List V}(F:FnOk X.prog X.w X.K X.mg X.base CX k f fd ps sp)(g:Room k X.A)(j:Binds X.K fd ps ds)(hd:Vals dvs ds)(d:Passes CX X E)(I:Inv X pins σ H s)(r:Vals vs us)(h:sp (vs++dvs) H Q E):wpAny (model X.prog X.w) X.A (call (.ref f) us) (EP X pins σ Q) X.xe s:=by
  have b:Vals (vs++dvs) (us++ds):=r.append hd;have i:(us++ds).length=ps.length:=by rw[<- b.length];exact F.len _ _ _ _ h
  refine wpAny_call (YJ (F.run X.A X.stack s H ⟨us,[]⟩ (us++ds) (vs++dvs) Q E g I.env0 (j s us I.kIn i) b h) λr c a=>?_)
  cases r with
  | error e=>exact d pins σ H s e c I a
  | ok l =>
    cases l with
    | ret u=>exact I.after a
    | next=>exact False.elim a
    | brk=>exact False.elim a
    | cont=>exact False.elim a
theorem zK (F:FnOk X.prog X.w X.K X.mg X.base CX k f fd ps sp) (g:Room k X.A) (j:Gl X x) (hm:X.mg x=some (.ref f)) (i:PySem.W.keepIn X.K (.ref f)=true) (m:Binds X.K fd ps ds) (hd:Vals dvs ds) (d:Passes CX X E)
    (ha:PA X (e::es) t) (b:(x == ("__debug__":Str))=false:=by decide) (l:starEach (e::es) X.env=(false,eval e X.env)::starEach es X.env:=by rfl) (a:(backTo pos (starEach es X.env)).any (·.1)=false:=by rfl) :
    PE X (.Call (.Name x p) (e::es) [] pos) (dU sp dvs E t):=by
  intro pins s σ H Q I h;refine Yy (nA I j hm ?_ b);refine PySem.W.callWith_K (h₀:=X.base) I.ok.mod.kin i (thn (ha pos pins s σ H _ I h) λo u ⟨n,v,c,r,q⟩=>⟨c.kIn,?_⟩) l a;exact gr F g m hd d c r q
end
structure FnScope (N P:List Str) (sc:Scope):Prop where
  kind:sc.kind=.function
  co:sc.isCoroutine=false
  gen:sc.isGenerator=false
  nd:N.Nodup
  pre:N.take P.length=P
  par:∀ x∈P,sc.names.lookup x=some .local \/ sc.names.lookup x=some .cell
  nofree:∀ y∈sc.names,y.2≠.free
theorem tX {kindOf:Str->Option NameKind}{x:Str}:∀ {binds:List (Str × Value)}{m:Str->Option Value},(∀ v,(x,v)∉binds)->bindL kindOf binds m x=m x
  | [],_,_=>rfl
  | (n,v)::r,m,h=>by
    unfold bindL;rw[tX λw a=>h w (JJ _ a)];split
    · have:x≠n:=by rintro rfl;exact h v JK
      simp[this]
    · rfl
theorem tZ {kindOf:Str->Option NameKind}{x:Str}:∀ {binds:List (Str × Value)}{m:Str->Option Value},(∀ v,(x,v)∉binds)->bindC kindOf binds m x=m x
  | [],_,_=>rfl
  | (n,v)::r,m,h=>by
    unfold bindC;rw[tZ λw a=>h w (JJ _ a)];split
    · rfl
    · have:x≠n:=by rintro rfl;exact h v JK
      simp[this]
theorem tY {kindOf:Str->Option NameKind}{x:Str}{v:Value}:∀ {P:List Str}{vs:List Value}{i:Nat}{m:Str->Option Value},P.Nodup->P[i]?=some x->vs[i]?=some v->kindOf x=some .local ->
    bindL kindOf (P.zip vs) m x=some v
  | [],_,_,_,_,h,_,_=>by simp at h
  | _::_,[],_,_,_,_,h,_=>by simp at h
  | p::P,w::vs,0,m,nd,b,a,c=>by
    simp at b a;subst b;subst a;show bindL kindOf ((p,w)::P.zip vs) m p=_;unfold bindL;rw[tX λv d=>(JT.mp nd).1 (List.of_mem_zip d).1,JE c]
    simp
  | p::P,w::vs,i+1,m,nd,b,a,c=>by
    show bindL kindOf ((p,w)::P.zip vs) m x=_;unfold bindL;exact tY (i:=i) (JT.mp nd).2 (by simpa using b) (by simpa using a) c
theorem tf {kindOf:Str->Option NameKind}{x:Str}{v:Value}:∀ {P:List Str}{vs:List Value}{i:Nat}{m:Str->Option Value},P.Nodup->P[i]?=some x->vs[i]?=some v->kindOf x≠some .local ->
    bindC kindOf (P.zip vs) m x=some v
  | [],_,_,_,_,h,_,_=>by simp at h
  | _::_,[],_,_,_,_,h,_=>by simp at h
  | p::P,w::vs,0,m,nd,b,a,c=>by
    simp at b a;subst b;subst a;show bindC kindOf ((p,w)::P.zip vs) m p=_;unfold bindC;rw[tZ λv d=>(JT.mp nd).1 (List.of_mem_zip d).1,Jv c]
    simp
  | p::P,w::vs,i+1,m,nd,b,a,c=>by
    show bindC kindOf ((p,w)::P.zip vs) m x=_;unfold bindC;exact tf (i:=i) (JT.mp nd).2 (by simpa using b) (by simpa using a) c
def wZ (N:List Str)(vs:List V):St:=vs.map some++List.replicate (N.length-vs.length) none
def qc (CX:CXT)(P:Program)(w:World)(K:PySem.W.Frag)(mg:Str->Option Value)(base:Heap)(N:List Str)(qual:Str)(scope:Scope)(f:Addr)(cd:Value)(A:Around)(outer:List Env)(s:Shared)(H:Hp)(E:XK):Cx where
  prog:=P
  w:=w
  K:=K
  mg:=mg
  base:=base
  A:=A.deeper (envOfC qual scope s.heap.objs.size f cd)
  N:=N
  s₀:=s
  H₀:=H
  env:=envOfC qual scope s.heap.objs.size f cd
  outer:=outer
  stack:=envOfC qual scope s.heap.objs.size f cd::outer
  ex:=[]
  calm:=true
  fn:=λ_=>true
  pn:=[]
  xe:=λe b=>wpAny (model P w) (A.deeper (envOfC qual scope s.heap.objs.size f cd)) (leaving (envOfC qual scope s.heap.objs.size f cd) e) (λ_ a=>CX outer H s E e a) (λc a=>CX outer H s E c a) b
theorem qh {sc:Scope}{n:Nat}{x:Str}(h:sc.names.lookup x=some .cell):∃ c,(cellsFrom n sc.names []).lookup x=some c:=by
  have q:=PySem.W.cellsFrom_some sc.names n [] (.inl h);exact Option.isSome_iff_exists.mp q
theorem mo {CX:CXT}{P:Program}{w:World}{K:PySem.W.Frag}{mg:Str->Option Value}{base:Heap}{N ps:List Str}{qual:Str}{scope:Scope}{f:Addr}{cd:Value}{A:Around}{outer:List Env}{s s1:Shared}{H:Hp}{E:XK}{us:List Value}{vs:List V}(S:FnScope N ps scope)(hd:A.handled=none)(g:Env0 P w K mg base A outer s H)(J:vs.length=ps.length)(r:Vals vs us)(x:InCallC s s.heap.objs.size (bindL (envOfC qual scope s.heap.objs.size f cd).kindOf (ps.zip us) λ_=>none) (cellsFrom (s.heap.objs.size+1) scope.names []) (bindC (envOfC qual scope s.heap.objs.size f cd).kindOf (ps.zip us) λ_=>none) s1) :
    Inv (qc CX P w K mg base N qual scope f cd A outer s H E) [] (wZ N vs) H s1:=by
  have G:ps.length<=N.length:=by have:=JH List.length S.pre;rw[Jh]at this;omega
  obtain⟨t,I,rfl,C⟩:=x.done;have l:∀ b:Addr,b∉(qc CX P w K mg base N qual scope f cd A outer s H E).ex:=λb z=>absurd (show b∈([]:List Addr) from z) (by simp)
  refine⟨⟨g.mod,S.kind,rfl,rfl,Jb _,λy z c t d=>?_,λy j=>?_,λy c _ h=>?_,λ_=>hd,Around.frames_deeper g.frames,.inr ⟨rfl,rfl⟩,λb z=>absurd z (l b),g.bs,g.bsz,λb _ _=>l b,λb z=>absurd z (l b),g.funs,g.frf⟩,
    rfl,g.bare,Un.kept C,⟨_,x.toInCall.ns,λi y v t d L=>?_⟩,λy c h=>⟨_,x.cell y c h⟩,g.hok.fresh (Jb _),λy c h=>?_,λp m=>absurd (show p∈([]:List (Addr × Obj)) from m) (by simp),g.hok.kept C,?_⟩
  · exact name_of_addr x.apart (Yx t) (Yx d)
  · have j:scope.names.lookup y=some .cell\/scope.names.lookup y=some .free:=j
    rcases j with j|j
    · exact qh j
    · exact absurd rfl (S.nofree _ (Yx j))
  · exact Nat.le_of_lt (x.above y c (Yx h))
  · have hi:i<vs.length:=by
      unfold wZ at d;by_cases hi:i<vs.length
      · exact hi
      · rw[List.getElem?_append_right (by simpa using hi)]at d
        rw[List.getElem?_replicate]at d;split at d<;>cases d
    have F:vs[i]?=some v:=by
      unfold wZ at d;rw[List.getElem?_append_left (by simpa using hi),JG]at d
      cases e:vs[i]? with
      | none=>rw[e]at d;cases d
      | some a=>rw[e]at d;cases d;rfl
    obtain⟨u,B,D⟩:=r.get F
    have m:ps[i]?=some y:=by
      rw[<- S.pre,List.getElem?_take_of_lt (by omega)];exact t
    have o:ps.Nodup:=by rw[<- S.pre];exact S.nd.sublist (List.take_sublist _ _)
    refine⟨u,D,?_⟩;rcases S.par y (Jq m) with k|k
    · exact .inl ⟨k,tY o m B k⟩
    · obtain⟨c,e⟩:=qh (n:=s.heap.objs.size+1) k
      refine .inr ⟨.inl k,c,e,?_⟩;have q:=x.cell y c e;rw[tf o m B (by show scope.names.lookup y≠_;rw[k];decide)]at q;exact q
  · exact g.hok.fresh (Nat.le_of_lt (x.above y c (Yx h)))
  · unfold wZ
    show _=N.length;rw[J9,Jc,List.length_replicate];omega
theorem gJ {CX:CXT}{P:Program}{w:World}{K:PySem.W.Frag}{mg:Str->Option Value}{base:Heap}{k:Nat}{f:Addr}{name qual:Str}{params:Arguments}{body:List Stmt}{scope:Scope}{C kV doc pm cdv ct oc:Value}{an od:Option Addr}{osl:Array (Option Value)}{N ps:List Str}{sp:Sp}(G:K.lookup f=some ⟨oc,od,.func (PySem.W.fnOf name qual params body scope C kV doc pm an cdv ct),osl⟩)(z:PySem.W.codeIn K cdv qual=true)(S:FnScope N ps scope)(len:∀ vs H Q E,sp vs H Q E->vs.length=ps.length)(g:∀ (A:Around) (outer:List Env) (s:Shared) (H:Hp) (vs:List V) (Q:VK) (E:XK),Room k (A.deeper (envOfC qual scope s.heap.objs.size f cdv))->sp vs H Q E ->
      ∃ t,PSs (qc CX P w K mg base N qual scope f cdv A outer s H E) body t/\t { nx:=λ_ c=>Q .non c,rt:=Q } (wZ N vs) H) :
    FnOk P w K mg base CX (k+1) f (PySem.W.fnOf name qual params body scope C kV doc pm an cdv ct) ps sp:=by
  refine⟨len,λA outer s H args F vs Q E p i U r j=>?_⟩;have R:=len _ _ _ _ j;have D:K.In s.heap:=i.mod.kin.keeps λb o e=>(i.bs b o e).1;have lim:s.heap.NoLimit:=i.mod.nolimit.keeps λb o e=>(i.bs b o e).1
  have d:∀ y∈ps.zip F,scope.names.lookup y.1=some .local \/ (scope.names.lookup y.1=some .cell/\((cellsFrom (s.heap.objs.size+1) scope.names []).lookup y.1).isSome=true):=λ⟨n,v⟩ L=>by
    rcases S.par n (List.of_mem_zip L).1 with q|q
    · exact .inl q
    · exact .inr ⟨q,PySem.W.cellsFrom_some _ _ _ (.inl q)⟩
  refine codeAny_call_function p.depth (D _ _ G) rfl S.co S.gen rfl (PySem.W.codeRec_of D z) (U _ _ _ _ ?_);refine wpAny_newFunctionEnv_cells S.kind d λenv T B x=>?_;subst T;refine⟨lim.keeps x.toInCall.keep,codeAny_func ?_⟩;obtain⟨t,M,O⟩:=g A outer s H vs Q E (p.deeper _) j;have I:Inv (qc CX P w K mg base N qual scope f cdv A outer s H E) [] (wZ N vs) H B:=mo S p.hd i R r x;refine JC (M [] B (wZ N vs) H _ I O) (λW l h=>?_) λe l h=>h
  have fin:∀ {a:St}{c:Hp}{v:V}{u:Value},Inv (qc CX P w K mg base N qual scope f cdv A outer s H E) [] a c l->RelV v u->Q v c->CE outer P w H s Q u l :=
    λ{a c v u} J m q=>⟨v,c,J.os,J.bare,J.base,J.hok,m,q⟩
  cases W with
  | ret u =>
    obtain⟨v,a,c,J,m,q⟩:=h
    exact fin J m q
  | next =>
    obtain⟨a,c,J,q⟩:=h
    exact fin (v:=V.non) (u:=Value.none) J rfl q
  | brk =>
    obtain⟨_,_,_,q⟩:=h
    exact False.elim q
  | cont =>
    obtain⟨_,_,_,q⟩:=h;exact False.elim q
section
variable {X:Cx}{x:Str}{p pos:Pos}{e:Expr}{es:List Expr}{t:TA}{id T:String}{r:List V->Hp->VK->Prop}
def tCB (r:List V->Hp->VK->Prop)(t:TA):TE:=λσ H Q=>t σ H λa b=>r a b Q
theorem zL (m:CallR X (.builtin id) r) (k:Gl X x) (hm:X.mg x=none) (j:bootBuiltins x=some (.builtin id)) (ha:PA X (e::es) t) (hn:x≠"__name__":=by decide) (b:(x == ("__debug__":Str))=false:=by decide)
    (l:starEach (e::es) X.env=(false,eval e X.env)::starEach es X.env:=by rfl) (a:(backTo pos (starEach es X.env)).any (·.1)=false:=by rfl):PE X (.Call (.Name x p) (e::es) [] pos) (tCB r t):=by
  intro pins s σ H Q I h;refine Yy (xc I k hm j ?_ hn b);exact PyProof.Rows.callWith_builtin1 (thn (ha pos pins s σ H _ I h) λd f ⟨c,o,n,g,i⟩=>m pins f σ o c d Q n g i) l a
theorem zY (m:CallR X (.type T) r) (k:Gl X x) (hm:X.mg x=none) (j:bootBuiltins x=some (.type T)) (ha:PA X (e::es) t) (hn:x≠"__name__":=by decide) (b:(x == ("__debug__":Str))=false:=by decide)
    (l:starEach (e::es) X.env=(false,eval e X.env)::starEach es X.env:=by rfl) (a:(backTo pos (starEach es X.env)).any (·.1)=false:=by rfl):PE X (.Call (.Name x p) (e::es) [] pos) (tCB r t):=by
  intro pins s σ H Q I h;refine Yy (xc I k hm j ?_ hn b);exact Y2 (thn (ha pos pins s σ H _ I h) λd f ⟨c,o,n,g,i⟩=>m pins f σ o c d Q n g i) l a
end
end L2
namespace HT
open PySem PyProof.Rows
section
variable {prog:Program}{w:World}{A:Around}{E:Value->Shared->Prop}{s:Shared}
theorem cat_tup {t b:Addr}{vs ws:List Value}{Q:Value->Shared->Prop}(u:IsTup s.heap t vs.toArray) (v:IsTup s.heap b ws.toArray) (m:vs≠[])
    (y:ws=[]->Q (.ref t) s) (x:ws≠[]->Q (.ref s.heap.objs.size) { s with heap:=s.heap.push { cls:=.type "tuple",data:=.seq (vs++ws).toArray } })
    (j:vs.length+ws.length<=sizeLine):wpAny (model prog w) A (binaryOp .Add (.ref t) (.ref b)) Q E s:=by
  obtain⟨⟨cls,q,data,k⟩,i,p,n,o⟩:=id u;obtain⟨⟨r,g,data2,c⟩,a,f,l,d⟩:=id v;simp only at p o f d;subst p o f d;have e:vs.toArray++ws.toArray=(vs++ws).toArray:=by simp
  by_cases h:ws=[]
  · exact concat_meets ⟨_,i,rfl⟩ ⟨_,a,rfl⟩ noFill_tuple_add seq_tuple_add PySem.F.slot_tuple_add PySem.F.entry_tuple_add (PySem.F.args_tuple_add_2 _ _)
      (tuple_addW1 t b vs.toArray ws.toArray n l q g k c (by simpa using m) (by simp[h])) ⟨i,a,y h⟩
  · refine concat_meets ⟨_,i,rfl⟩ ⟨_,a,rfl⟩ noFill_tuple_add seq_tuple_add PySem.F.slot_tuple_add PySem.F.entry_tuple_add (PySem.F.args_tuple_add_2 _ _)
      (tuple_addW2 t b vs.toArray ws.toArray n l q g k c (by simpa using m) (by simpa using h) (by rw[Je,Je];exact j)) ⟨i,a,?_⟩
    rw[e];exact x h
def sIx (n d:Nat):Option Int->Nat
  | none=>d
  | some v=>if v<0 then (v+(n:Int)).toNat else min v.toNat n
theorem sIx_none (n d:Nat):sIx n d none=d:=rfl
theorem sIx_nat (n d k:Nat):sIx n d (some (k:Int))=min k n:=by
  show (if (k:Int)<0 then ((k:Int)+(n:Int)).toNat else min (k:Int).toNat n)=min k n;rw[Jv (by omega),JY]
theorem gm (n d:Nat)(hd:d<=n)(o:Option Int):sIx n d o<=n:=by
  cases o with
  | none=>exact hd
  | some v =>
    show (if v<0 then (v+(n:Int)).toNat else min v.toNat n)<=n;by_cases a:v<0
    · rw[JE a];omega
    · rw[Jv a];exact Nat.min_le_right _ _
theorem nP (v:Int)(n d:Nat):(if v<0 then max (v+(n:Int)) 0 else min v (n:Int))=((sIx n d (some v):Nat):Int):=by
  show (if v<0 then max (v+(n:Int)) 0 else min v (n:Int))=(((if v<0 then (v+(n:Int)).toNat else min v.toNat n):Nat):Int);by_cases a:v<0
  · simp only[JE a];omega
  · simp only[Jv a];omega
theorem oQ (lo hi:Option Int)(n:Nat):Builtin.Slice.sliceAdjust lo hi 1 (n:Int)=(((sIx n 0 lo:Nat):Int),((sIx n n hi:Nat):Int)):=by
  have a:¬((1:Int)<0):=by omega
  unfold Builtin.Slice.sliceAdjust;simp only[a,if_false];refine Prod.ext ?_ ?_
  · cases lo with
    | none=>rfl
    | some v=>exact nP v n 0
  · cases hi with
    | none=>rfl
    | some v=>exact nP v n n
theorem pX (i j:Nat):Builtin.Slice.slicePlaces (i:Int) (j:Int) 1=j-i:=by
  unfold Builtin.Slice.slicePlaces;have a:(1:Int) > 0:=by omega
  simp only[a,if_true,Int.ediv_one];split<;>omega
theorem uL {v:Value}{o:Option Int}{Q:Option Int->Shared->Prop}(p:IsPart v o)(h:Q o s):wpAny (model prog w) A (Builtin.Slice.slicePartIndex v) Q E s:=by
  cases p with
  | none=>exact slicePart_none h
  | int i t=>exact slicePart_int h
theorem sliceApplied_gen {sl:Addr}{d c:Value}{lo hi:Option Int}{n:Nat}{Q:Int × Int × Nat->Shared->Prop}(e:s.heap.IsSliceOf sl d c .none)(pl:IsPart d lo)(pu:IsPart c hi)(h:Q (((sIx n 0 lo:Nat):Int),1,sIx n n hi-sIx n 0 lo) s):wpAny (model prog w) A (Builtin.Slice.sliceApplied (.ref sl) (pure (n:Int))) Q E s:=by
  obtain⟨os,a,f,b⟩:=id e;unfold Builtin.Slice.sliceApplied Builtin.Slice.sliceFields;refine J0 (J0 (Zb a b (x:=d) rfl (J0 (Zb a b (x:=c) rfl (J0 (Zb a b (x:=.none) rfl (J7 ?_)))))));refine J0 (slicePart_none ?_);show wpAny _ _ (if ((1:Int) == 0)=true then _ else _) _ _ s;rw[Jv (by decide)];refine J0 (uL pl (J0 (uL pu (J0 (J7 ?_)))));show wpAny _ _ (match Builtin.Slice.sliceAdjust lo hi 1 (n:Int) with|(lo,hi)=>pure (lo,(1:Int),Builtin.Slice.slicePlaces lo hi 1)) _ _ s;rw[oQ lo hi n];show wpAny _ _ (pure (((sIx n 0 lo:Nat):Int),(1:Int),Builtin.Slice.slicePlaces ((sIx n 0 lo:Nat):Int) ((sIx n n hi:Nat):Int) 1)) _ _ s;rw[pX];exact J7 h
theorem kh (xs:Array Value)(i k:Nat):((List.range k).filterMap λ(m:Nat)=>xs[((i:Int)+(m:Int)*1).toNat]?).toArray=((xs.toList.drop i).take k).toArray:=by
  have e:(λ(m:Nat)=>xs[((i:Int)+(m:Int)*1).toNat]?)=λm=>xs[i+m]?:=by
    funext m
    have:((i:Int)+(m:Int)*1).toNat=i+m:=by omega
    rw[this]
  rw[e];have:=pick_run xs i k;rw[Yz]at this;have e2:((λx=>xs[x]?)∘λx=>i+x)=λm=>xs[i+m]?:=rfl;rw[e2]at this;rw[this]
theorem getItem_tuple_cut {t sl:Addr}{items:Array Value}{i g:Value}{lo hi:Option Int}{Q:Value->Shared->Prop}(b:IsTup s.heap t items) (j:s.heap.IsSliceOf sl i g .none) (pl:IsPart i lo) (pu:IsPart g hi)
    (k:¬(sIx items.size 0 lo=0/\sIx items.size items.size hi=items.size))
    (h:Q (.ref s.heap.objs.size) { s with heap:=s.heap.push { cls:=.type "tuple",data:=.seq ((items.toList.drop (sIx items.size 0 lo)).take (sIx items.size items.size hi-sIx items.size 0 lo)).toArray } })
    (l:items.size<=sizeLine):wpAny (model prog w) A (getItem (.ref t) (.ref sl)) Q E s:=by
  have a:sizeOk (.seq ((items.toList.drop (sIx items.size 0 lo)).take (sIx items.size items.size hi-sIx items.size 0 lo)).toArray):=by
    show ((items.toList.drop (sIx items.size 0 lo)).take (sIx items.size items.size hi-sIx items.size 0 lo)).toArray.size<=sizeLine;rw[Je,Jh,JW,YQ];omega
  have r:sIx items.size items.size hi<=items.size:=gm _ _ (Jb _) hi;obtain⟨os,c,e,n⟩:=id j;have f:s.TypeIs (.ref sl) "slice":=⟨os,c,e⟩;unfold getItem
  try with_reducible refine Y4 ?_
  first|refine J0 (J7 ?_)|skip
  refine J0 (wpAny_sequenceKey b.typeIs (by decide) ?_)
  refine J0 (wpAny_callSpecial?_slot (name:=Str.ofString "__getitem__") b.typeIs Yb
    (Y7 Yb b.typeIs entry_tuple_getitem ?_ (args_tuple_getitem _ _)))
  show wpAny _ _ (Builtin.Tuple.tupleItemsOf (.ref t) >>= _) _ _ s;refine J0 (tupleItemsOf_ b ?_);refine J0 (Yr f ?_);rw[JE (by decide)];refine J0 (sliceApplied_gen j pl pu ?_)
  have d:¬((((sIx items.size 0 lo:Nat):Int) == 0 && (1:Int) == 1 && (sIx items.size items.size hi-sIx items.size 0 lo) == items.size)=true):=by
    intro q;rw[JU,JU]at q;have p:((sIx items.size 0 lo:Nat):Int)=0:=eq_of_beq q.1.1;have o:sIx items.size items.size hi-sIx items.size 0 lo=items.size:=eq_of_beq q.2;exact k ⟨by omega,by omega⟩
  show wpAny _ _ (if (((sIx items.size 0 lo:Nat):Int) == 0 && (1:Int) == 1 && (sIx items.size items.size hi-sIx items.size 0 lo) == items.size)=true then _ else _) _ _ s;rw[Jv d,kh]
  first
    | exact J0 (m:=Builtin.Tuple.tupleExact _) (JF (J7 ⟨_,rfl,J7 h⟩) a)
    | exact J0 (m:=Builtin.Tuple.tupleExact _) (JF (J0 (J7 (J7 ⟨_,rfl,J7 h⟩))) a)
    | exact J0 (J0 (m:=Builtin.Tuple.tupleExact _) (JF (J7 (J7 ⟨_,rfl,J7 h⟩)) a))
    | exact J0 (J0 (m:=Builtin.Tuple.tupleExact _) (JF (J7 ⟨_,rfl,J7 h⟩) a))
end
end HT
namespace L2
open PySem PySem.Spec PyProof.Rows
abbrev TO:=St->Hp->(Option Int->Hp->Prop)->Prop
def PO (X:Cx)(e:Option Expr)(t:TO):Prop :=
  ∀ (pins:List (Addr × Obj)) (s:Shared) (σ:St) (H:Hp) (Q:Option Int->Hp->Prop),Inv X pins σ H s->t σ H Q ->
    wpAny (model X.prog X.w) X.A (evalPart e X.env) (λu b=>∃ o a,Inv X pins σ a b/\IsPart u o/\Q o a) X.xe s
def iD:TO:=λ_ H Q=>Q none H
def eW (t:TE):TO:=λσ H Q=>t σ H λx a=>∃ i,x=.int i/\Q (some i) a
section
variable {X:Cx}{e:Expr}{te:TE}{lo hi:Option Expr}{tl th:TO}{pos p2:Pos}
theorem yB:PO X none iD:=by
  intro pins s σ H Q I h;rw[evalPart_none];exact J7 ⟨none,H,I,.none,h⟩
theorem zk (h:PE X e te):PO X (some e) (eW te):=by
  intro pins s σ H Q I c;rw[evalPart_some];refine thn (h pins s σ H _ I c) λu g ⟨x,f,d,a,b⟩=>?_;obtain⟨i,rfl,q⟩:=b;obtain⟨t,rfl⟩:=a;exact⟨some i,f,d,.int i t,q⟩
def SlR (X:Cx)(r:V->Option Int->Option Int->Hp->VK->Prop):Prop :=
  ∀ (pins:List (Addr × Obj)) (s:Shared) (σ:St) (H:Hp) (x:V) (v b a:Value) (lo hi:Option Int) (c:Addr) (Q:VK),Inv X pins σ H s->RelV x v->s.heap.IsSliceOf c b a .none->IsPart b lo->IsPart a hi->r x lo hi H Q ->
    ∃ T id,typeLookup (.type T) "__getitem__" = pure (some (.builtin id))/\s.TypeIs v T/\wpAny (model X.prog X.w) X.A (getItem v (.ref c)) (EP X pins σ Q) X.xe s
def tSl (r:V->Option Int->Option Int->Hp->VK->Prop)(te:TE)(tl th:TO):TE:=λσ H Q=>te σ H λx c=>tl σ c λl b=>th σ b λu a=>r x l u a Q
theorem zu {r:V->Option Int->Option Int->Hp->VK->Prop}(t:SlR X r)(z:PE X e te)(w:PO X lo tl)(o:PO X hi th):PE X (.Subscript e (.Slice lo hi none p2) pos) (tSl r te tl th):=by
  intro pins s σ H Q I h;refine Subscript_ (thn (z pins s σ H _ I h) λv i ⟨x,G,E,j,n⟩=>?_);refine wpAny_Slice (thn (w pins i σ G _ E n) λd g ⟨l,F,D,pl,m⟩=>thn (o pins g σ F _ D m) λc a ⟨u,f,C,pu,k⟩=>?_);rw[evalPart_none];refine J7 ?_;have B:Inv X pins σ f { a with heap:=a.heap.push { cls:=.type "slice",data:=.fields #[d,c,.none] } }:=C.kept (t':=a.toks) λb ob q=>J2 _ q;obtain⟨T,id,A,p,y⟩:=t pins { a with heap:=a.heap.push { cls:=.type "slice",data:=.fields #[d,c,.none] } } σ f x v d c l u a.heap.objs.size Q B j (Heap.IsSliceOf.new ..) pl pu k;show wpAny (model X.prog X.w) X.A (subscriptTail e (.Slice lo hi none p2) v (.ref a.heap.objs.size)) (EP X pins σ Q) X.xe { a with heap:=a.heap.push { cls:=.type "slice",data:=.fields #[d,c,.none] } };exact tail_any (ops:=[.ref a.heap.objs.size,v]) p A y (by with_unfolding_all rfl)
def yz (xs:List V)(lo hi:Option Int):List V:=(xs.drop (HT.sIx xs.length 0 lo)).take (HT.sIx xs.length xs.length hi-HT.sIx xs.length 0 lo)
theorem vd (xs:List V)(lo hi:Option Int):(yz xs lo hi).length<=xs.length:=by
  unfold yz;rw[Jh,JW];omega
def bM (K:PySem.W.Frag):V->Option Int->Option Int->Hp->VK->Prop:=λx lo hi H Q=>∃ a b,x=.ref a/\SqT K H a b /\
  ¬(HT.sIx b.length 0 lo=0/\HT.sIx b.length b.length hi=b.length)/\∀ p,H p=none->Q (.ref p) (upd H p (.tup (yz b lo hi)))
theorem gW:SlR X (bM X.K):=by
  intro pins s σ H x v m l lo hi n Q I g k pl pu h;obtain⟨a,c,rfl,i,j,q⟩:=h;cases g;obtain⟨d,r,f,e⟩:=I.tuple i;have hlen:d.toArray.size=c.length:=by rw[Je];exact r.length.symm
  refine⟨"tuple",_,PyProof.Rows.slot_tuple_getitem.lookup,f.typeIs,?_⟩;refine HT.getItem_tuple_cut f k pl pu (by rw[hlen];exact j) ?_ (by rw[hlen];exact e);rw[hlen];refine⟨.ref s.heap.objs.size,_,I.laid (t':=s.toks) (o:=.tup (yz c lo hi)) (λb ob q=>J2 _ q) (Jb _) ?_,rfl,q _ (I.hok.fresh (Jb _))⟩;exact⟨Jz (vd c lo hi) e,_,(r.drop (HT.sIx c.length 0 lo)).take (HT.sIx c.length c.length hi-HT.sIx c.length 0 lo),TupX.new _ _⟩
def dv (K:PySem.W.Frag):R2:=λx y H Q=>∃ a b d c,x=.ref a/\y=.ref b/\SqT K H a d/\SqT K H b c/\d≠[]/\d.length+c.length<=sizeLine /\
  (c=[]->Q (.ref a) H)/\(c≠[]->∀ p,H p=none->Q (.ref p) (upd H p (.tup (d++c))))
theorem Vals.nil_iff {xs:List V}{us:List Value}(r:Vals xs us):us=[]↔xs=[]:=by
  cases r with
  | nil=>simp
  | cons _ _=>simp
theorem iN:OpR X (binaryOp .Add) (dv X.K):=by
  intro pins s σ H x y v u Q I k j h;obtain⟨a,b,i,g,rfl,rfl,t,r,p,e,m,l⟩:=h;cases k;cases j;obtain⟨A,d,n,_⟩:=I.tuple t;obtain⟨f,c,p2,_⟩:=I.tuple r;refine HT.cat_tup n p2 (λz=>p (d.nil_iff.mp z)) (λz=>⟨.ref a,H,I,rfl,m (c.nil_iff.mp z)⟩) (λz=>?_) (by rw[<- d.length,<- c.length];exact e);refine⟨.ref s.heap.objs.size,_,I.laid (t':=s.toks) (o:=.tup (i++g)) (λb ob q=>J2 _ q) (Jb _) ?_,rfl,l (λw=>z (c.nil_iff.mpr w)) _ (I.hok.fresh (Jb _))⟩;exact⟨by rw[J9];exact e,_,d.append c,TupX.new _ _⟩
end
def ixN (n:Nat)(i:Int):Option Nat:=if 0<=i then (if i<n then some i.toNat else none) else if -(n:Int)<=i then some (i+n).toNat else none
def atI {α:Type}(xs:List α)(i:Int):Option α:=(ixN xs.length i).bind λj=>xs[j]?
theorem sk {n:Nat}{i:Int}{j:Nat}(h:ixN n i=some j):seqIndex? i n=some j/\j<n/\-(n:Int)<=i/\i<n:=by
  unfold ixN at h;by_cases b:0<=i
  · rw[JE b]at h
    by_cases a:i<n
    · rw[JE a]at h
      have e:i.toNat=j:=Jn h;exact⟨by rw[seqIndex_of b a,e],by omega,by omega,a⟩
    · rw[Jv a]at h;cases h
  · rw[Jv b]at h
    by_cases a:-(n:Int)<=i
    · rw[JE a]at h
      have e:(i+n).toNat=j:=Jn h;exact⟨by rw[seqIndex_neg (by omega) a,e],by omega,a,by omega⟩
    · rw[Jv a]at h;cases h
theorem nQ {α:Type}{xs:List α}{i:Int}{v:α}(h:atI xs i=some v):∃ j,seqIndex? i xs.length=some j/\xs[j]?=some v/\j<xs.length/\-(xs.length:Int)<=i/\i<xs.length:=by
  unfold atI at h
  cases e:ixN xs.length i with
  | none=>rw[e]at h;cases h
  | some j =>
    rw[e]at h;obtain⟨d,c,b,a⟩:=sk e;exact⟨j,d,h,c,b,a⟩
theorem zx {α:Type}{xs:List α}{j:Nat}{v:α}(h:xs[j]?=some v):atI xs (j:Int)=some v:=by
  have a:j<xs.length:=(J8.mp h).1
  have e:ixN xs.length (j:Int)=some j:=by
    unfold ixN;rw[JE (by omega),JE (by omega)];simp
  unfold atI;rw[e];exact h
def PlainIx (b:Expr):Prop:=∀ o i,subscripted b false o i=operate [o,i] (getItem o i)
def IxR (X:Cx)(r:R2):Prop :=
  ∀ (value slice:Expr) (pins:List (Addr × Obj)) (s:Shared) (σ:St) (H:Hp) (x y:V) (v u:Value) (Q:VK),Inv X pins σ H s->RelV x v->RelV y u->r x y H Q ->
    subscripted slice false v u=operate [v,u] (getItem v u)->wpAny (model X.prog X.w) X.A (subscriptTail value slice v u) (EP X pins σ Q) X.xe s
def MtR (X:Cx)(id:String)(r:V->List V->Hp->VK->Prop):Prop :=
  ∀ (pins:List (Addr × Obj)) (s:Shared) (σ:St) (H:Hp) (x:V) (a:List V) (v:Value) (b:List Value) (Q:VK),Inv X pins σ H s->RelV x v->Vals a b->r x a H Q ->
    wpAny (model X.prog X.w) X.A (call (.builtin id) (v::b)) (EP X pins σ Q) X.xe s
section
variable {X:Cx}{a b:Expr}{ta tb:TE}{pos:Pos}
theorem zX {r:R2}(g:IxR X r)(ha:PE X a ta)(i:PE X b tb)(f:PlainIx b):PE X (.Subscript a b pos) (tOp r ta tb):=by
  intro pins s σ H Q I h;exact Subscript_ (eP ha i I h λv u c x y k j e d q=>g a b pins c σ k x y v u Q j e d q (f _ _))
def kX (K:PySem.W.Frag):R2:=λx y H Q=>∃ p a i v,x=.ref p/\y=.int i/\SqL K H p a/\atI a i=some v/\Q v H
def bP (K:PySem.W.Frag):R2:=λx y H Q=>∃ p a i v,x=.ref p/\y=.int i/\SqT K H p a/\atI a i=some v/\Q v H
theorem zd:IxR X (kX X.K):=by
  intro value slice pins s σ H x y v u Q I m l h e;obtain⟨p,E,i,z,rfl,rfl,n,A,q⟩:=h;cases m;obtain⟨t,rfl⟩:=l;obtain⟨d,r,pl,F⟩:=I.list n;obtain⟨j,a,D,J,C,B⟩:=nQ A;obtain⟨w,g,c⟩:=r.get D;have o:=r.length;have G:=uT;have fin:EP X pins σ Q w s:=⟨z,H,I,c,q⟩;by_cases f:0<=i
  · have b:i.toNat=j:=by
      rw[seqIndex_of f B]at a;exact Jn a
    exact item_listR pl.isList f (by omega) (by rw[b];simpa using g) fin e
  · have b:(i+(d.toArray.size:Int)).toNat=j:=by
      rw[seqIndex_neg (by omega) C]at a;rw[Je,<- o];exact Jn a
    exact subscriptTail_builtinR (x:=w) pl.isList.typeIs slot_list_getitem.lookup
      (wpAny_getItem_list_neg (Q:=λr k=>r=w/\EP X pins σ Q r k) pl.isList (by omega) (by rw[Je]<;>omega) (by omega) (by rw[b];simpa using g) ⟨rfl,fin⟩) e
theorem zv:IxR X (bP X.K):=by
  intro value slice pins s σ H x y v u Q I d c h e;obtain⟨p,A,i,z,rfl,rfl,f,k,q⟩:=h;cases d;obtain⟨t,rfl⟩:=c;obtain⟨o,r,pl,B⟩:=I.tuple f;obtain⟨j,m,l,F,E,D⟩:=nQ k;obtain⟨w,n,a⟩:=r.get l;have g:=r.length;have C:=uT;have fin:EP X pins σ Q w s:=⟨z,H,I,a,q⟩
  exact subscriptTail_builtinR (x:=w) pl.typeIs slot_tuple_getitem.lookup
    (getItem_tuple (j:=j) (Q:=λr b=>r=w/\EP X pins σ Q r b) pl (by omega) (by omega) (by rw[Je,<- g];exact m) (by simpa using n) ⟨rfl,fin⟩) e
theorem oC (its:List Value)(n j:Nat)(u:Value):Obj.mapSeq (·.setIfInBounds j u) { cls:=.type "list",data:=.seq its.toArray n }={ cls:=.type "list",data:=.seq (its.set j u).toArray n }:=by
  simp[Obj.mapSeq]
theorem Inv.lst {pins:List (Addr × Obj)}{σ:St}{H:Hp}{s:Shared}{p:Addr}{xs:List V}(I:Inv X pins σ H s)(h:H p=some (.lst xs)) :
    ∃ (its:List Value) (n:Nat),Vals xs its/\s.heap.get? p=some { cls:=.type "list",data:=.seq its.toArray n }/\xs.length<=sizeLine:=by
  obtain⟨z,its,n,r,e⟩:=I.hok p _ h;exact⟨its,n,r,e,z⟩
theorem Inv.lstUpd {pins:List (Addr × Obj)}{σ:St}{H:Hp}{s:Shared}{p:Addr}{xs ys:List V}{its its':List Value}{n a:Nat}{f:Obj->Obj}(I:Inv X pins σ H s) (h:H p=some (.lst xs))
    (g:s.heap.get? p=some { cls:=.type "list",data:=.seq its.toArray n }) (c:f { cls:=.type "list",data:=.seq its.toArray n }={ cls:=.type "list",data:=.seq its'.toArray a }) (r:Vals ys its') (d:ys.length<=sizeLine) (t:Nat) :
    Inv X pins σ (upd H p (.lst ys)) { s with heap:=s.heap.update p f,toks:=t }:=by
  have e:(s.heap.update p f).get? p=some { cls:=.type "list",data:=.seq its'.toArray a }:=by
    rw[Heap.get?_update_self f g (by rw[c]<;>rfl),c]
  refine I.write (x:=p) (e:=p) (by rw[h];trivial) (.inl rfl) (λb u i q=>(Heap.get?_update_other _ _ (Ne.symm i)).trans q) ⟨_,e⟩ ?_;exact⟨d,its',a,r,e⟩
def dj:V->V->V->Hp->(Hp->Prop)->Prop:=λo i v H Q=>∃ p a k j,o=.ref p/\i=.int k/\H p=some (.lst a)/\ixN a.length k=some j/\Q (upd H p (.lst (a.set j v)))
theorem yu:PSet X dj:=by
  intro pins s σ H o i v D E u Q I z A y h;obtain⟨p,x,k,j,rfl,rfl,f,C,q⟩:=h;cases z;obtain⟨t,rfl⟩:=A;obtain⟨a,n,r,c,B⟩:=I.lst f;obtain⟨b,G,l,g⟩:=sk C;have d:=r.length;have F:=uT
  have w:Inv X pins σ (upd H p (.lst (x.set j v))) { s with heap:=s.heap.update p (Obj.mapSeq (·.setIfInBounds j u)) } :=
    I.lstUpd f c (oC a n j u) (r.set y j) (by rw[List.length_set];exact B) s.toks
  by_cases m:0<=k
  · have e:k.toNat=j:=by
      rw[seqIndex_of m g]at b;exact Jn b
    exact PySem.W.ki_setAt c m (by omega) (by rw[Je,<- d];exact g) (by rw[e];exact⟨_,w,q⟩)
  · have e:(k+(a.toArray.size:Int)).toNat=j:=by
      rw[seqIndex_neg (by omega) l]at b;rw[Je,<- d];exact Jn b
    exact PySem.W.ki_setBack c (by omega) (by rw[Je,<- d];exact l) (by omega) (by rw[e];exact⟨_,w,q⟩)
theorem sL (lo hi:Option Int)(n:Nat):(sliceBounds lo hi none n).1=((HT.sIx n 0 lo:Nat):Int)/\(sliceBounds lo hi none n).2.1=((HT.sIx n n hi:Nat):Int)/\(sliceBounds lo hi none n).2.2=1:=by
  refine⟨?_,?_,rfl⟩
  · cases lo with
    | none=>simp[sliceBounds,HT.sIx]
    | some i =>
      simp only[sliceBounds,HT.sIx,Option.getD_none,show (1:Int) > 0 by decide,if_true];by_cases h:i<0
      · simp only[h,if_true]<;>omega
      · simp only[h,if_false]<;>omega
  · cases hi with
    | none=>simp[sliceBounds,HT.sIx]
    | some i =>
      simp only[sliceBounds,HT.sIx,Option.getD_none,show (1:Int) > 0 by decide,if_true];by_cases h:i<0
      · simp only[h,if_true]<;>omega
      · simp only[h,if_false]<;>omega
theorem uh (its:List Value)(lo hi:Option Int):slicePick its.toArray lo hi none=((its.drop (HT.sIx its.length 0 lo)).take (HT.sIx its.length its.length hi-HT.sIx its.length 0 lo)).toArray:=by
  obtain⟨c,b,a⟩:=sL lo hi its.toArray.size;unfold slicePick;rw[c,b,a];simp only[sliceRange_one,pick_run,Je]<;>rfl
def bN (K:PySem.W.Frag):V->Option Int->Option Int->Hp->VK->Prop:=λx lo hi H Q=>∃ a b,x=.ref a/\SqL K H a b/\∀ p,H p=none->Q (.ref p) (upd H p (.lst (yz b lo hi)))
theorem wO:SlR X (bN X.K):=by
  intro pins s σ H x v l k lo hi m Q I e i pl pu h;obtain⟨a,c,rfl,g,q⟩:=h;cases e;obtain⟨j,r,d,f⟩:=I.list g;have hlen:=r.length;refine⟨"list",_,slot_list_getitem.lookup,d.isList.typeIs,?_⟩;refine wpAny_getItem_list_slice d.isList i pl pu .none (by simp) ?_ (by rw[Je]<;>omega);rw[uh,<- hlen];refine⟨.ref s.heap.objs.size,_,I.laid (t':=s.toks) (o:=.lst (yz c lo hi)) (λb ob q=>J2 _ q) (Jb _) ?_,rfl,q _ (I.hok.fresh (Jb _))⟩;exact⟨Jz (vd c lo hi) f,_,0,(r.drop (HT.sIx c.length 0 lo)).take (HT.sIx c.length c.length hi-HT.sIx c.length 0 lo),Jk _ rfl⟩
def vc:V->Bool
  | .non=>true
  | .bl _=>true
  | .int _=>true
  | .str _=>true
  | _=>false
def eqV:V->V->Bool
  | .non,.non=>true
  | .bl a,.bl b=>a == b
  | .bl a,.int b=>(if a then 1 else 0) == b
  | .int a,.bl b=>a == (if b then 1 else 0)
  | .int a,.int b=>a == b
  | .str a,.str b=>a == b
  | _,_=>false
theorem eJ {A:Around}{s:Shared}{y x:V}{u v:Value}(e:RelV y u)(c:RelV x v)(g:vc y=true)(f:vc x=true):SeqAt.EqAt A s u v (eqV y x):=by
  cases y with
  | non =>
    cases e
    cases x with
    | non=>cases c;exact SeqAt.EqAt.same _
    | bl b=>cases c;exact SeqAt.EqAt.none_bool b
    | int b=>obtain⟨t,rfl⟩:=c;exact SeqAt.EqAt.none_int b t
    | str b=>obtain⟨t,rfl⟩:=c;exact SeqAt.EqAt.none_str b t
    | _=>exact absurd (show false=true from f) Jf
  | bl a =>
    cases e
    cases x with
    | non=>cases c;exact SeqAt.EqAt.bool_none a
    | bl b=>cases c;exact SeqAt.EqAt.bool_bool a b
    | int b=>obtain⟨t,rfl⟩:=c;exact SeqAt.EqAt.bool_int a b t
    | str b=>obtain⟨t,rfl⟩:=c;exact SeqAt.EqAt.bool_str a b t
    | _=>exact absurd (show false=true from f) Jf
  | int a =>
    obtain⟨d,rfl⟩:=e
    cases x with
    | non=>cases c;exact SeqAt.EqAt.int_none a d
    | bl b=>cases c;exact SeqAt.EqAt.int_bool a d b
    | int b=>obtain⟨t,rfl⟩:=c;exact SeqAt.EqAt.int_int a d b t
    | str b=>obtain⟨t,rfl⟩:=c;exact SeqAt.EqAt.int_str a d b t
    | _=>exact absurd (show false=true from f) Jf
  | str a =>
    obtain⟨d,rfl⟩:=e
    cases x with
    | non=>cases c;exact SeqAt.EqAt.str_none a d
    | bl b=>cases c;exact SeqAt.EqAt.str_bool a d b
    | int b=>obtain⟨t,rfl⟩:=c;exact SeqAt.EqAt.str_int a d b t
    | str b=>obtain⟨t,rfl⟩:=c;exact SeqAt.EqAt.str_str a d b t
    | _=>exact absurd (show false=true from f) Jf
  | _=>exact absurd (show false=true from g) Jf
def eqU (x:V)(u:Value):Bool:=match u with
  | .none=>eqV .non x
  | .bool b=>eqV (.bl b) x
  | .int i _=>eqV (.int i) x
  | .str z _=>eqV (.str z) x
  | _=>false
theorem jp {x y:V}{u:Value}(r:RelV y u)(f:vc y=true):eqU x u=eqV y x:=by
  cases y with
  | non=>cases r;rfl
  | bl b=>cases r;rfl
  | int i=>obtain⟨t,rfl⟩:=r;rfl
  | str z=>obtain⟨t,rfl⟩:=r;rfl
  | _=>exact absurd (show false=true from f) Jf
theorem rF {x:V}:∀ {xs:List V}{us:List Value},Vals xs us->xs.all vc=true->us.any (eqU x)=xs.any λy=>eqV y x
  | _,_,.nil,_=>rfl
  | y::xs,u::us,.cons r t,f=>by
    rw[List.all_cons,JU]at f;rw[List.any_cons,List.any_cons,jp r f.1,rF t f.2]
theorem uR {A:Around}{s:Shared}{x:V}{v:Value}(b:RelV x v)(c:vc x=true):∀ {xs:List V}{us:List Value},Vals xs us->xs.all vc=true->∀ u∈us,SeqAt.EqAt A s u v (eqU x u)
  | _,_,.nil,_=>λu a=>by cases a
  | y::xs,u::us,.cons r t,f=>λd a=>by
    rw[List.all_cons,JU]at f;rcases Ji.mp a with rfl|a
    · rw[jp r f.1];exact eJ r b f.1 c
    · exact uR b c t f.2 d a
def inV (x:V)(xs:List V):Bool:=xs.any λy=>eqV y x
def rIn (K:PySem.W.Frag)(neg:Bool):R2:=λx y H Q=>∃ p a,y=.ref p/\(SqL K H p a\/SqT K H p a)/\vc x=true/\a.all vc=true/\Q (.bl (if neg then !inV x a else inV x a)) H
theorem tJ:OpR X (compareOp .In) (rIn X.K false):=by
  intro pins s σ H x y v u Q I d f h;obtain⟨p,i,rfl,b,e,fs,q⟩:=h;cases f;rcases b with b|b
  · obtain⟨a,r,pl,g⟩:=I.list b
    refine SeqAt.in_listAt (eqU x) pl.isList (λw c=>uR d e r fs w (by simpa using c)) ⟨.bl _,H,I,rfl,?_⟩;rw[show a.toArray.any (eqU x)=a.any (eqU x) by simp,rF r fs];exact q
  · obtain⟨a,r,pl,g⟩:=I.tuple b
    refine SeqAt.in_tupleAt (eqU x) pl (λw c=>uR d e r fs w (by simpa using c)) ⟨.bl _,H,I,rfl,?_⟩;rw[show a.toArray.any (eqU x)=a.any (eqU x) by simp,rF r fs];exact q
theorem zR:CallR X (.builtin "len") (λxs H Q=>∃ p ys,xs=[.ref p]/\(SqL X.K H p ys\/SqT X.K H p ys)/\Q (.int ys.length) H):=by
  intro pins s σ H xs f Q I r h;obtain⟨p,ys,rfl,a,q⟩:=h;obtain⟨u,rfl,d⟩:=wp r;cases d;have g:=uT;rcases a with a|a
  · obtain⟨c,b,pl,e⟩:=I.list a
    have hlen:=b.length;exact Calls.call_len_list pl.isList (by simp only[Je]<;>omega) ⟨.int ys.length,H,I.tok _,⟨s.toks+1,by rw[Je,hlen]⟩,q⟩
  · obtain⟨c,b,pl,e⟩:=I.tuple a
    have hlen:=b.length;exact len_tuple pl (by simp only[Je]<;>omega) ⟨.int ys.length,H,I.tok _,⟨s.toks+1,by rw[Je,hlen]⟩,q⟩
theorem yP:CallR X (.type "list") (λxs H Q=>∃ p ys,xs=[.ref p]/\(SqL X.K H p ys\/SqT X.K H p ys)/\∀ l,H l=none->Q (.ref l) (upd H l (.lst ys))):=by
  intro pins s σ H xs w Q I r h;obtain⟨p,ys,rfl,i,q⟩:=h;obtain⟨u,rfl,v⟩:=wp r;cases v
  have fin:∀ (a:List Value),Vals ys a->ys.length<=sizeLine->∀ (c:Heap) (f:Nat),(∀ b t,s.heap.get? b=some t->c.get? b=some t) ->
      c.get? s.heap.objs.size=some { cls:=.type "list",dict:=none,data:=.seq a.toArray f,slots:=#[] }->EP X pins σ Q (.ref s.heap.objs.size) { s with heap:=c }:=λa d g c f kp e =>
    ⟨.ref s.heap.objs.size,_,I.laid (t':=s.toks) kp (Jb _) (show ObjOk X.prog X.w _ c _ (.lst ys) from⟨g,a,f,d,e⟩),rfl,q _ (I.hok.fresh (Jb _))⟩
  rcases i with i|i
  · obtain⟨a,d,pl,g⟩:=I.list i
    have hlen:=d.length;obtain⟨o,j,m,n,k⟩:=pl.isList;exact call_list_seq p (.inl rfl) j m k (λc f kp e=>fin a d g c f kp e) (by simp only[Je]<;>omega)
  · obtain⟨a,d,pl,g⟩:=I.tuple i
    have hlen:=d.length;obtain⟨o,j,m,n,k⟩:=pl;exact call_list_seq p (.inr rfl) j m k (λc f kp e=>fin a d g c f kp e) (by simp only[Je]<;>omega)
theorem zi:CallR X (.type "tuple") (λxs H Q=>∃ p ys,xs=[.ref p]/\((SqL X.K H p ys/\∀ l,H l=none->Q (.ref l) (upd H l (.tup ys)))\/(SqT X.K H p ys/\Q (.ref p) H))):=by
  intro pins s σ H xs m Q I r h;obtain⟨p,ys,rfl,h⟩:=h;obtain⟨u,rfl,j⟩:=wp r;cases j;rcases h with ⟨f,q⟩|⟨f,q⟩
  · obtain⟨a,d,pl,g⟩:=I.list f
    have hlen:=d.length;refine call_tuple_list pl.isList (λc kp=>?_) (by simp only[Je]<;>omega);have i:Inv X pins σ H { s with heap:=c }:=I.kept (t':=s.toks) kp
    have k:Inv X pins σ (upd H c.objs.size (.tup ys)) { s with heap:=c.push { cls:=.type "tuple",data:=.seq a.toArray } } :=
      i.laid (t':=s.toks) (λb o e=>J2 _ e) (Jb _) (show ObjOk X.prog X.w _ _ _ (.tup ys) from⟨g,a,d,TupX.new _ _⟩)
    exact⟨.ref c.objs.size,_,k,rfl,q _ (i.hok.fresh (Jb _))⟩
  · obtain⟨a,d,pl,g⟩:=I.tuple f
    exact call_tuple_same pl ⟨.ref p,H,I,rfl,q⟩
def tyV (K:PySem.W.Frag)(T:String)(x:V)(H:Hp):Prop:=match x with
  | .str _=>T = "str"
  | .int _=>T = "int"
  | .ref p=>(T = "list"/\∃ b,SqL K H p b)\/(T = "tuple"/\∃ o,K.lookup p=some o/\o.cls=.type "tuple"/\o.dict=none) \/
      (T = "dict"/\((∃ a,H p=some (.dK a))\/∃ a,H p=some (.dT a)))\/(T = "set"/\∃ S n,H p=some (.set S n))
  | _=>False
theorem lu {pins:List (Addr × Obj)}{σ:St}{H:Hp}{s:Shared}{T:String}{x:V}{v:Value}(I:Inv X pins σ H s)(r:RelV x v)(ty:tyV X.K T x H) :
    s.TypeIs v T/\∀ a,v=.ref a->∃ ob,s.heap.get? a=some ob/\ob.dict=none:=by
  cases x with
  | str z =>
    obtain⟨t,rfl⟩:=r;cases (show T = "str" from ty)
    exact⟨typeIs_str s z t,λ_ e=>nomatch e⟩
  | int i =>
    obtain⟨t,rfl⟩:=r;cases (show T = "int" from ty)
    exact⟨typeIs_int s i t,λ_ e=>nomatch e⟩
  | ref p =>
    cases r;rcases ty with ⟨rfl,k,g⟩|⟨rfl,o,b,h,d⟩|⟨rfl,b⟩|⟨rfl,S,n,b⟩
    · obtain⟨j,_,pl,_⟩:=I.list g
      refine⟨pl.isList.typeIs,λa e=>?_⟩;cases e;obtain⟨o,n,e,c,d,_⟩:=pl;exact⟨o,e,d⟩
    · refine⟨⟨o,I.kIn p o b,h⟩,λa e=>?_⟩
      cases e;exact⟨o,I.kIn _ o b,d⟩
    · have z:∃ o,s.heap.get? p=some o/\o.ExactDict:=by
        rcases b with ⟨f,b⟩|⟨f,b⟩
        · obtain⟨_,_,_,_,o,_,_,e,ex,_⟩:=I.hok p _ b
          exact⟨o,e,ex⟩
        · obtain⟨_,_,_,_,o,_,_,e,ex,_⟩:=I.hok p _ b
          exact⟨o,e,ex⟩
      obtain⟨o,e,ex⟩:=z;refine⟨⟨o,e,ex.1⟩,λa e2=>?_⟩;cases e2;exact⟨o,e,ex.2.1⟩
    · obtain⟨o,_,_,_,e,ex,_⟩:=I.hok p _ b
      refine⟨⟨o,e,ex.1⟩,λa e2=>?_⟩;cases e2
      exact⟨o,e,ex.2.1⟩
  | _=>exact False.elim ty
def cp (K:PySem.W.Frag)(T:String)(r:V->List V->Hp->VK->Prop)(to:TE):TE:=λσ H Q=>to σ H λx a=>tyV K T x a/\r x [] a Q
def tBM (K:PySem.W.Frag)(T:String)(r:V->List V->Hp->VK->Prop)(to:TE)(t:TA):TE:=λσ H Q=>to σ H λx a=>tyV K T x a/\t σ a λb c=>r x b c Q
variable {o e:Expr}{es:List Expr}{to:TE}{t:TA}{name:Str}{apos cpos:Pos}{T id:String}{r:V->List V->Hp->VK->Prop}
theorem gx (i:PlainAttrs T) (slot:Slot T name id) (c:typeOf (.builtin id)=pure (.type "method_descriptor")) (hm:MtR X id r) (j:PE X o to)
    (b:attributeBase o name X.env (eval o X.env)=eval o X.env:=by rfl) (a:(apos.endLine == cpos.line)=true:=by rfl):PE X (.Call (.Attribute o name apos) [] [] cpos) (cp X.K T r to):=by
  intro pins s σ H Q I h;refine wpAny_Call_method0_late b a (thn (j pins s σ H _ I h) λv f ⟨x,m,e,d,ty,g⟩=>?_);obtain⟨l,k⟩:=lu e d ty;exact⟨T,id,i,slot,c,l,k,Calls.callWith_builtin rfl (PySem.evalArgs_none (hm pins f σ m x [] v [] Q e d .nil g))⟩
theorem vC (w:PlainAttrs T) (slot:Slot T name id) (f:typeOf (.builtin id)=pure (.type "method_descriptor")) (hm:MtR X id r) (z:PE X o to) (ha:PA X (e::es) t)
    (c:attributeBase o name X.env (eval o X.env)=eval o X.env:=by rfl)
    (d:((backTo cpos (starEach (e::es) X.env)).all (λx=>!x.1) && (backToKw cpos (keywordEach [] X.env)).all (λx=>x.1.isSome)
      && decide ((e::es).length+([]:List Keyword).length+(if ([]:List Keyword).isEmpty then 0 else 1)<30))=true:=by rfl)
    (b:(apos.endLine == cpos.line)=true:=by rfl) (y:starEach (e::es) X.env=(false,eval e X.env)::starEach es X.env:=by rfl) (a:(backTo cpos (starEach es X.env)).any (·.1)=false:=by rfl) :
    PE X (.Call (.Attribute o name apos) (e::es) [] cpos) (tBM X.K T r to t):=by
  intro pins s σ H Q I h;refine wpAny_Call_method_late c d b rfl (thn (z pins s σ H _ I h) λv n ⟨x,E,j,g,ty,u⟩=>?_);obtain⟨B,A⟩:=lu j g ty;refine⟨T,id,w,slot,f,B,A,?_⟩;have i:=ha cpos pins n σ E _ j u;rw[y]at i ⊢;refine Calls.callWith_builtin (by show (false || (backTo cpos (starEach es X.env)).any (·.1))=false;rw[a]<;>rfl) (Calls.evalArgs_plain ?_);exact thn i λl m ⟨k,D,C,p,q⟩=>hm pins m σ D x k v l Q C g p q
end
def MtM (X:Cx)(id:String)(r:V->List V->Hp->VK->Prop):Prop :=
  ∀ (pins:List (Addr × Obj)) (s:Shared) (σ:St) (H:Hp) (x:V) (a:List V) (v:Value) (b:List Value) (Q:VK),Inv X pins σ H s->RelV x v->Vals a b->r x a H Q ->
    wpAny (model X.prog X.w) X.A (call (.builtin id) (v::b)) (EP X pins σ Q) X.xe s
theorem Vals.one:∀ {x:V}{us:List Value},Vals [x] us->∃ u,us=[u]/\RelV x u
  | _,_,.cons r .nil=>⟨_,rfl,r⟩
theorem Vals.two:∀ {x y:V}{us:List Value},Vals [x,y] us->∃ u v,us=[u,v]/\RelV x u/\RelV y v
  | _,_,_,.cons r (.cons q .nil)=>⟨_,_,rfl,r,q⟩
theorem Vals.zero:∀ {us:List Value},Vals [] us->us=[]
  | _,.nil=>rfl
theorem Vals.dropLast {xs:List V}{us:List Value}(h:Vals xs us):Vals xs.dropLast us.dropLast:=by
  induction h with
  | nil=>exact .nil
  | cons r t ih =>
    cases t with
    | nil=>exact .nil
    | cons q a=>exact .cons r ih
theorem Vals.eraseIdx:∀ {xs:List V}{us:List Value}(i:Nat),Vals xs us->Vals (xs.eraseIdx i) (us.eraseIdx i)
  | _,_,_,.nil=>.nil
  | _,_,0,.cons _ t=>t
  | _,_,i+1,.cons r t=>.cons r (Vals.eraseIdx i t)
theorem Vals.reverse {xs:List V}{us:List Value}(h:Vals xs us):Vals xs.reverse us.reverse:=by
  induction h with
  | nil=>exact .nil
  | cons r t ih=>rw[List.reverse_cons,List.reverse_cons];exact Vals.append ih (.cons r .nil)
theorem Vals.rep {xs:List V}{us:List Value}(h:Vals xs us):∀ k:Nat,Vals (List.replicate k xs).flatten (List.replicate k us).flatten
  | 0=>.nil
  | k+1=>by
    rw[Y1,Y1,YZ,YZ];exact Vals.append h (Vals.rep h k)
theorem oM {α:Type}(l:List α):l.eraseIdx (l.length-1)=l.dropLast:=by
  induction l with
  | nil=>rfl
  | cons a r ih =>
    cases r with
    | nil=>rfl
    | cons b r =>
      have e:(a::b::r).length-1=((b::r).length-1)+1:=by
        have d:(a::b::r).length=r.length+2:=rfl;have c:(b::r).length=r.length+1:=rfl;omega
      rw[e,List.eraseIdx_cons_succ,ih]
      all_goals rfl
theorem tQ {α:Type}:∀ (l:List α) (i:Nat),(l.eraseIdx i).length<=l.length
  | [],_=>Jb _
  | _::_,0=>Nat.le_succ _
  | _::r,i+1=>Nat.succ_le_succ (tQ r i)
theorem tW (its:List Value):∀ (k:Nat) (acc:List Value),
    List.foldl (λx1 a=>x1++a) acc.toArray (List.replicate k its.toArray)=(acc++(List.replicate k its).flatten).toArray
  | 0,acc=>by simp
  | k+1,acc=>by
    have e:acc.toArray++its.toArray=(acc++its).toArray:=by simp
    have e2:(acc++its)++(List.replicate k its).flatten=acc++(List.replicate (k+1) its).flatten:=by
      rw[Y1,YZ,Ys]
    rw[<- e2,<- tW its k (acc++its),<- e,Y1,List.foldl_cons]
section
variable {X:Cx}{pins:List (Addr × Obj)}{σ:St}{H:Hp}{s:Shared}{l:Addr}{xs ys:List V}
theorem Inv.lset {its its':List Value}{n:Nat}{f:Array Value->Array Value}{t':Nat}(I:Inv X pins σ H s) (h:H l=some (.lst xs))
    (e:s.heap.get? l=some { cls:=.type "list",data:=.seq its.toArray n }) (d:f its.toArray=its'.toArray) (b:Vals ys its') (a:ys.length<=sizeLine) :
    Inv X pins σ (upd H l (.lst ys)) { s with heap:=s.heap.update l (Obj.mapSeq f),toks:=t' }:=by
  have q:=PySem.IsL.update e f;rw[d]at q;refine I.write (x:=l) (e:=l) (by rw[h];exact trivial) (.inl rfl) (λi u g c=>(Heap.get?_update_other s.heap (Obj.mapSeq f) (Ne.symm g)).trans c) ⟨_,q⟩ ?_;exact⟨a,its',_,b,q⟩
theorem Inv.lnew {its:List Value}{t':Nat}(I:Inv X pins σ H s)(b:Vals ys its)(a:ys.length<=sizeLine) :
    Inv X pins σ (upd H s.heap.objs.size (.lst ys)) { s with heap:=s.heap.push { cls:=.type "list",data:=.seq its.toArray },toks:=t' } :=
  I.laid (λ_ _ q=>J2 _ q) (Jb _) ⟨a,its,0,b,Jk _ rfl⟩
theorem Inv.fresh (I:Inv X pins σ H s):H s.heap.objs.size=none:=I.hok.fresh (Jb _)
theorem Inv.lstM (I:Inv X pins σ H s)(a:H l=some (.lst xs)):xs.length<=sizeLine/\∃ (its:List Value) (n:Nat),Vals xs its/\xs.length=its.length/\s.heap.get? l=some { cls:=.type "list",data:=.seq its.toArray n }:=by
  obtain⟨z,its,n,r,e⟩:=I.hok l _ a;exact⟨z,its,n,r,r.length,e⟩
theorem qC {n:Nat}(h:n<=sizeLine):Builtin.List.listTooLong n=false:=by
  unfold Builtin.List.listTooLong;exact Jj (by omega)
end
section
variable {X:Cx}
def rAppend:V->List V->Hp->VK->Prop:=λx b H Q=>∃ l a y,x=.ref l/\b=[y]/\H l=some (.lst a)/\a.length<sizeLine/\Q .non (upd H l (.lst (a++[y])))
theorem yq:MtM X "list.append" rAppend:=by
  intro pins s σ H x i v j Q I c d h;obtain⟨l,g,y,rfl,rfl,b,k,q⟩:=h;cases c;obtain⟨u,rfl,f⟩:=d.one;obtain⟨z,a,n,r,m,e⟩:=I.lstM b;refine Z0 F.slot_list_append ⟨_,e,rfl⟩ F.entry_list_append (F.args_list_append_2 _ _) (PySem.list_append l a.toArray n u (by rw[Je];omega)) ⟨e,?_⟩;refine⟨.non,_,I.lset (its':=a++[u]) b e (by simp) (r.append (.cons f .nil)) ?_,rfl,q⟩;rw[J9,List.length_singleton];omega
def rExtend:V->List V->Hp->VK->Prop:=λx d H Q=>∃ l b c a,x=.ref l/\d=[.ref b]/\H l=some (.lst c)/\H b=some (.lst a)/\c.length+a.length<=sizeLine/\Q .non (upd H l (.lst (c++a)))
theorem tM:MtM X "list.extend" rExtend:=by
  intro pins s σ H x B v C Q I i j h;obtain⟨l,b,A,w,rfl,rfl,g,p,D,q⟩:=h;cases i;obtain⟨u,rfl,k⟩:=j.one;cases k;obtain⟨z,c,n,r,E,e⟩:=I.lstM g;obtain⟨y,a,o,m,t,e2⟩:=I.lstM p;have f:c.toArray.size+a.toArray.size<=sizeLine:=by rw[Je,Je];omega
  have d:¬(!c.toArray.isEmpty && Builtin.List.listTooLong (c.toArray.size+a.toArray.size))=true:=by
    rw[qC f,Bool.and_false];exact Jf
  refine Z0 F.slot_list_extend ⟨_,e,rfl⟩ F.entry_list_extend (F.args_list_extend_2 _ _)
    (AutoSeq1.list_extend_list_list_0 l c.toArray n b a.toArray o d (by rw[Je];omega) (by omega)) ⟨e,e2,?_⟩
  refine⟨.non,_,I.lset (its':=c++a) g e (by simp) (r.append m) ?_,rfl,q⟩;rw[J9];omega
def rPop:V->List V->Hp->VK->Prop:=λx b H Q=>∃ l a y,x=.ref l/\b=[]/\H l=some (.lst a)/\a[a.length-1]?=some y/\Q y (upd H l (.lst a.dropLast))
theorem fe:MtM X "list.pop" rPop:=by
  intro pins s σ H x p v t Q I f g h;obtain⟨l,o,y,rfl,rfl,d,j,q⟩:=h;cases f;have c:=g.zero;subst c;obtain⟨z,a,n,r,m,e⟩:=I.lstM d;obtain⟨u,k,i⟩:=r.get j
  have b:a.toArray[a.toArray.size-1]?=some u:=by
    show a.toArray[a.length-1]?=some u;rw[<- Array.getElem?_toList,<- m];exact k
  refine Z0 F.slot_list_pop ⟨_,e,rfl⟩ F.entry_list_pop (F.args_list_pop_1 _) (MeetsSeq.list_pop_last l a.toArray n u b (by rw[Je];omega)) ⟨e,?_⟩;refine⟨y,_,I.lset (its':=a.dropLast) d e ?_ r.dropLast ?_,i,q⟩
  · show a.toArray.eraseIdxIfInBounds (a.toArray.size-1)=a.dropLast.toArray
    rw[Je,List.eraseIdxIfInBounds_toArray,oM]
  · rw[List.length_dropLast]
    omega
def rPopAt:V->List V->Hp->VK->Prop:=λx b H Q=>∃ l a i k y,x=.ref l/\b=[.int i]/\H l=some (.lst a)/\-(2 ^ 63)<=i/\i<2 ^ 63/\seqIndex? i a.length=some k/\a[k]?=some y/\Q y (upd H l (.lst (a.eraseIdx k)))
theorem jY:MtM X "list.pop" rPopAt:=by
  intro pins s σ H x D v E Q I f g h;obtain⟨l,d,i,k,y,rfl,rfl,c,C,B,A,m,q⟩:=h;cases f;obtain⟨u,rfl,j⟩:=g.one;obtain⟨t,rfl⟩:=j;obtain⟨z,a,n,r,p,e⟩:=I.lstM c;obtain⟨w,o,b⟩:=r.get m
  refine Z0 F.slot_list_pop ⟨_,e,rfl⟩ F.entry_list_pop (F.args_list_pop_2 _ _)
    (MeetsSeq.list_pop_at l a.toArray n i t k w (fitsIndex_both C B) (by rw[Je,<- p];exact A) (by rw[<- Array.getElem?_toList];exact o) (by rw[Je];omega)) ⟨e,?_⟩
  refine⟨y,_,I.lset (its':=a.eraseIdx k) c e ?_ (r.eraseIdx k) ?_,b,q⟩
  · show a.toArray.eraseIdxIfInBounds k=(a.eraseIdx k).toArray
    rw[List.eraseIdxIfInBounds_toArray]
  · have:=tQ d k
    omega
def bQ:R2:=λx y H Q=>∃ l b c a,x=.ref l/\y=.ref b/\H l=some (.lst c)/\H b=some (.lst a)/\c.length+a.length<=sizeLine/\∀ p,H p=none->Q (.ref p) (upd H p (.lst (c++a)))
theorem xb:OpR X (binaryOp .Add) bQ:=by
  intro pins s σ H x y v u Q I f d h;obtain⟨l,b,t,o,rfl,rfl,i,j,A,q⟩:=h;cases f;cases d;obtain⟨z,c,n,r,B,e⟩:=I.lstM i;obtain⟨p,a,w,g,m,e2⟩:=I.lstM j;refine PySem.P.add_list e e2 ?_ (by rw[Je,Je];omega);have k:c.toArray++a.toArray=(c++a).toArray:=by simp
  rw[k];exact⟨.ref _,_,I.lnew (t':=s.toks) (r.append g) (by rw[J9];omega),rfl,q _ I.fresh⟩
def bO:R2:=λx y H Q=>∃ l k a,x=.ref l/\y=.int k/\H l=some (.lst a)/\-(2 ^ 63)<=k/\k<2 ^ 63/\a.length*k.toNat<=sizeLine /\
  ∀ p,H p=none->Q (.ref p) (upd H p (.lst (List.replicate k.toNat a).flatten))
theorem ie {α:Type}(xs:List α)(k:Nat):(List.replicate k xs).flatten.length=k*xs.length:=by
  induction k with
  | zero=>simp
  | succ k ih=>rw[Y1,YZ,J9,ih,Nat.succ_mul,Nat.add_comm]
theorem gz:OpR X (binaryOp .Mult) bO:=by
  intro pins s σ H x y v u Q I A w h;obtain⟨l,k,J,rfl,rfl,C,E,D,o,q⟩:=h;cases A;obtain⟨t,rfl⟩:=w;obtain⟨z,b,n,r,B,e⟩:=I.lstM C;have hlen:b.toArray.size*k.toNat<=sizeLine:=by rw[Je,<- B];exact o
  have g:¬ b.toArray.size*k.toNat > (2 ^ 63-1) / 8:=by
    have:(sizeLine:Nat)<=(2 ^ 63-1) / 8:=by decide
    omega
  have f:¬(!Builtin.List.listFitsIndex k)=true:=by
    rw[fitsIndex_both E D];exact Jf
  have c:¬ Builtin.List.listTooLong (b.toArray.size*k.toNat)=true:=by
    rw[qC hlen];exact Jf
  have d:List.foldl (λj i=>j++i) #[] (List.replicate (if b.toArray.isEmpty=true then 0 else k.toNat) b.toArray)=(List.replicate k.toNat b).flatten.toArray:=by
    have G:∀ m:Nat,List.foldl (λj i=>j++i) #[] (List.replicate m b.toArray)=(List.replicate m b).flatten.toArray:=λm=>by
      have:=tW b m [];rw[List.nil_append]at this;exact this
    rw[G]
    cases b with
    | nil=>simp
    | cons a K=>rw[Jv (by simp)]
  refine wpAny_binaryOp_repeat_ref (T:="list") (U:="int") (by decide) ⟨_,e,rfl⟩ (λp=>typeIs_int p k t) noFill_list_mul F.fills_int_mul F.slot_int_rmul repeat_list F.slot_int_index.lookup
    (Z0 F.slot_int_rmul (typeIs_int s k t) F.entry_int_rmul (F.args_int_rmul_2 _ _) (int___rmul___int_list k t l b.toArray n)
      ⟨e,rfl,⟨_,e,rfl⟩,Z0 F.slot_list_mul ⟨_,e,rfl⟩ F.entry_list_mul (F.args_list_mul_2 _ _) (AutoListH.list___mul___list_int_3 l b.toArray n k t f g c) ⟨e,?_⟩⟩)
  rw[d];exact⟨.ref _,_,I.lnew (t':=s.toks) (r.rep k.toNat) (by rw[ie,Nat.mul_comm];exact o),rfl,q _ I.fresh⟩
end
end L2
namespace Att
open PySem PySem.W PySem.Calls PyProof.Rows
theorem vf {P:Params}{h:Heap}:∀ (ns:List Int) (vs:List Value),WellAll P h vs (ns.map WData.int)->IntsAre vs ns:=by
  intro ns
  induction ns with
  | nil =>
    intro vs w;rw[List.map_nil]at w;cases w
    exact .nil
  | cons n ns ih =>
    intro vs w;rw[Y0]at w
    cases w with
    | cons a b =>
      cases a;exact .cons _ _ (ih _ b)
theorem nw {l:OpenLaw}{n:Nat}(hn:l.most=some n){P:Params}{h:Heap}{args:List WData}{vals:List Value}(b:l.row.toRowW.claim.pre args=true)(g:WellAll P h vals args) :
    ∃ a vs ns,vals=[Value.ref a]/\args=[WData.list (ns.map WData.int)]/\h.get? a=some { cls:=.type "list",data:=.seq vs.toArray }/\IntsAre vs ns/\ns.length<=n:=by
  have i:WShape.hasAll [] args [.list .int]=true:=(pre_splitW b).1;have j:l.pre.holds [] { args:=args }=true:=(pre_splitW b).2;obtain⟨d,r,rfl,u,t⟩:=hasAllW_cons i;obtain rfl:=hasAllW_nil t;obtain⟨v,rfl,s⟩:=hasW_list u;obtain⟨ns,rfl⟩:=items_int s
  have hlen:ns.length<=n:=by
    unfold OpenLaw.pre at j
    have f:(WTm.not (.lt (.lit (.int (n:Int))) (.len (.arg 0)))).holds [] { args:=[.list (ns.map .int)] }=true:=by
      have f:=(holds_andW j).1;rw[hn]at f;exact f
    have e:=condW_of f (w_not (w_lt w_lit (w_len_list (w_arg rfl))));rw[Jc]at e;refine Nat.le_of_not_lt λq=>?_;have o:(n:Int)<((ns.length:Nat):Int):=by omega
    first
      | (rw[Jw o]at e;exact absurd e (by decide))
      | (simp at e;omega)
  cases g with
  | cons m k =>
    cases k
    cases m with
    | list p c=>exact⟨_,_,ns,rfl,rfl,p,vf ns _ c,hlen⟩
theorem n9 (l:OpenLaw)(args:List WData):l.row.toRowW.claim.post args (.bool true) args=true :=
  postW_of (r:=l.row.toRowW) (X:=(true == true))
    (show WShape.has [] (.bool true) .bool=true by first|rfl|decide|simp[WShape.has,WShape.arms,WShape.armsAll])
    (show (WTm.eq .res (.lit (.bool true))).value [] { args:=args,res:=some (.bool true),after:=args }=some (.bool (true == true)) from w_eq_bool (w_res rfl) w_lit) rfl
theorem attach_call {l:OpenLaw}{n:Nat}{q:Program}{loose:List Str}{t:(Str->Option Value)->Heap->Prop}{s:World->Heap->Prop}{d:DefRec}
    (hn:l.most=some n) (k:d.params.defaults=[])
    (call:∀ (w:World) (s₀ b:Shared) (mg mb:Str->Option Value) (c:Addr) (o:Obj) (pm cd doc:Value) (a:Addr) (vs:List Value) (ns:List Int),
      Ground q loose [] t w s₀ mg mb b.heap->s w b.heap ->
      b.heap.get? c=some o->o.data=.func (docDef d.name d.params d.body d.scope pm cd doc)->b.heap.CodeRec cd d.name->mg d.name=some (.ref c) ->
      b.heap.get? a=some { cls:=.type "list",data:=.seq vs.toArray }->IntsAre vs ns->ns.length<=n->b.gens = #[] ->
      codeAny (model l.prog w) callerA (.call (.ref c) ⟨[.ref a],[]⟩) (λr h=>r=.ok (.ret (.bool true))/\OldK b.heap h.heap/\h.os=b.os/\AllBare h.gens) b) :
    WalkO q loose t s l.row.toRowW d [] (λf vs=>PySem.call f vs):=by
  intro w s₀ b mg mb G Y c o pm cd doc E kV x A m p j z args vals as e u F i H;obtain rfl:E=.none:=Dflts.none p k;obtain rfl:kV=.none:=Dflts.noKw p;obtain⟨a,vs,ns,rfl,rfl,g,hints,hlen⟩:=nw hn e i;refine enter_call (YJ (call w s₀ b mg mb c o pm cd doc a vs ns G Y x (fd_plain A) m j g hints hlen z) λr h v=>?_);obtain⟨rfl,D,C,B⟩:=v;exact⟨.inl ⟨.bool true,.bool true,[],rfl,λ_=>rfl,.bool true,n9 l _,λ_=>⟨List.Pairwise.nil,λ_ y=>(nomatch y)⟩⟩,D,C,B⟩
section
def bR (h:Heap)(L d:Addr):List (Addr × Obj):=(List.range h.objs.size).filterMap λa=>if a=L\/a=d then none else (h.get? a).map λo=>(a,o)
end
end Att
namespace L2
open PySem PySem.Spec PyProof.Rows
theorem uv:∀ {vs:List Value}{ns:List Int},IntsAre vs ns->Vals (ns.map V.int) vs
  | _,_,.nil=>.nil
  | _,_,.cons n t h=>.cons ⟨t,rfl⟩ (uv h)
abbrev KOf {K:PySem.W.Frag}{h:Heap}(_:K.In h):PySem.W.Frag:=K
def xG (s:Stmt):Arguments:=match s with
  | .FunctionDef _ a _ _ _ _ _ _ _ _=>a
  | _=>{ posonlyargs:=[],args:=[],vararg:=none,kwonlyargs:=[],kw_defaults:=[],kwarg:=none,defaults:=[] }
def yb (s:Stmt):List Stmt:=match s with
  | .FunctionDef _ _ b _ _ _ _ _ _ _=>b
  | _=>[]
def zN (s:Stmt):Scope:=match s with
  | .FunctionDef _ _ _ _ _ _ sc _ _ _=>sc
  | _=>{ kind:=.function,names:=[],isGenerator:=false,isCoroutine:=false }
abbrev CX0:CXT:=λ_ _ _ _ _ _=>False
abbrev E0:XK:=λ_ _ _=>False
theorem zS {X:Cx}:Passes CX0 X E0:=λ_ _ _ _ _ _ _ h=>h.elim
structure Fun (K:PySem.W.Frag) (x qual:Str) (st:Stmt) (f:Addr) (fd:FuncData):Prop where
  ex:∃ (oc:Value) (od:Option Addr) (kV doc pm:Value) (an:Option Addr) (cdv ct:Value) (osl:Array (Option Value)),
    fd=PySem.W.fnOf x qual (xG st) (yb st) (zN st) .none kV doc pm an cdv ct/\K.lookup f=some ⟨oc,od,.func fd,osl⟩/\PySem.W.codeIn K cdv qual=true
  kp:PySem.W.keepIn K (.ref f)=true
section
variable {P:Program}{w:World}{K:PySem.W.Frag}{mg:Str->Option Value}{base:Heap}
theorem Fun.ok {x qual:Str}{st:Stmt}{f:Addr}{fd:FuncData}{N ps:List Str}{k:Nat}{sp:Sp}(F:Fun K x qual st f fd)(S:FnScope N ps (zN st))(len:∀ vs H Q E,sp vs H Q E->vs.length=ps.length)(a:∀ (cdv:Value) (A:Around) (outer:List Env) (s:Shared) (H:Hp) (vs:List V) (Q:VK) (E:XK),Room k (A.deeper (envOfC qual (zN st) s.heap.objs.size f cdv))->sp vs H Q E ->
      ∃ t,PSs (qc CX0 P w K mg base N qual (zN st) f cdv A outer s H E).nox (yb st) t/\t { nx:=λ_ g=>Q .non g,rt:=Q } (wZ N vs) H):FnOk P w K mg base CX0 (k+1) f fd ps sp:=by
  obtain⟨l,j,kV,doc,pm,an,cdv,m,i,rfl,d,c⟩:=F.ex;refine gJ d c S len λA outer s H vs Q E e b=>?_;obtain⟨t,h,q⟩:=a cdv A outer s H vs Q E e b;exact⟨t,h.nox,q⟩
theorem Fun.binds {x qual:Str}{st:Stmt}{f:Addr}{fd:FuncData}{ps:List Str}(F:Fun K x qual st f fd)(h:∀ (kV doc pm:Value) (an:Option Addr) (cdv ct:Value) (us:List Value),us.length=ps.length->bindArgs (PySem.W.fnOf x qual (xG st) (yb st) (zN st) .none kV doc pm an cdv ct) ⟨us,[]⟩=pure (ps.zip us)):Binds K fd ps []:=by
  obtain⟨d,c,kV,doc,pm,an,cdv,ct,a,rfl,e,b⟩:=F.ex;exact .all (h kV doc pm an cdv ct)
theorem eG {x qual:Str}{st:Stmt}{f:Addr}{oc:Value}{od an:Option Addr}{osl:Array (Option Value)}{kV doc pm cdv ct:Value}(l:K.lookup f=some ⟨oc,od,.func (PySem.W.fnOf x qual (xG st) (yb st) (zN st) .none kV doc pm an cdv ct),osl⟩)(c:PySem.W.codeIn K cdv qual=true)(k:PySem.W.keepIn K (.ref f)=true):Fun K x qual st f (PySem.W.fnOf x qual (xG st) (yb st) (zN st) .none kV doc pm an cdv ct):=⟨⟨oc,od,kV,doc,pm,an,cdv,ct,osl,rfl,l,c⟩,k⟩
end
section
variable {X:Cx}
theorem pv (i:Nat) {x:Str}{pos:Pos}(d:X.N[i]?=some x:=by rfl) (b:Vis X.env.scope x:=by first|exact Or.inl rfl|exact Or.inr (.inl rfl)|exact Or.inr (.inr rfl)) (c:(x == ("__debug__":Str))=false:=by decide)
    (a:(x == ("__classdict__":Str))=false:=by decide):PE X (.Name x pos) (iC i):=gv d b c a
theorem qv (i:Nat) {x:Str}{pos:Pos}(h:X.N[i]?=some x/\Vis X.env.scope x/\(x == ("__debug__":Str))=false/\(x == ("__classdict__":Str))=false):PE X (.Name x pos) (iC i):=gv h.1 h.2.1 h.2.2.1 h.2.2.2
end
theorem zr {A B:Prop}(h:B):if false=true then A else B:=by
  rw[Jv Jf];exact h
theorem zz {A B:Prop}(h:A):if true=true then A else B:=by
  rw[JE rfl];exact h
theorem ve {c A B:Prop}[Decidable c](b:c->A)(a:¬ c->B):if c then A else B:=by
  by_cases h:c
  · rw[JE h]
    exact b h
  · rw[Jv h]
    exact a h
def Same (H H':Hp):Prop:=∀ b o,H b=some o->H' b=some o
theorem Same.refl (H:Hp):Same H H:=λ_ _ h=>h
theorem Same.trans {H e d:Hp}(a:Same H e)(b:Same e d):Same H d:=λc o h=>b c o (a c o h)
theorem Same.free {H H':Hp}(e:Same H H'){l:Addr}(h:H' l=Option.none):H l=Option.none:=by
  cases q:H l with
  | none=>rfl
  | some o =>
    rw[e l o q]at h;cases h
end L2
set_option maxHeartbeats 4000001
namespace L2
open PySem PySem.Spec PyProof.Rows
def wX (cells:List (Str × Addr)):List (Str × NameKind)->List (Str × Addr)->List (Str × Addr)
 | [],cs=>cs
 | (n,k)::r,cs=>if k == .free then wX cells r ((n,(cells.lookup n).getD 0)::cs) else wX cells r cs
theorem ue {env:Env}:∀ (names:List (Str × NameKind)) (cs:List (Str × Addr)),(∀ y∈names,y.2=.free->∃ c,env.cells.lookup y.1=some c) ->
  (forIn names cs λx r=>match x with|(name,kind)=>if (kind == NameKind.free)=true then (do let a <- cellOf env name;pure (ForInStep.yield ((name,a)::r))) else pure (ForInStep.yield r):Sem (List (Str × Addr)))=pure (wX env.cells names cs)
 | [],cs,_=>rfl
 | (n,k)::r,cs,h=>by
  rw[YU];by_cases e:(k == NameKind.free)=true
  ·obtain⟨c,g⟩:=h (n,k) JK (by simpa using e)
   have d:cellOf env n=pure c:=by
    have b:env.cells.lookup n=some c:=g;unfold cellOf;rw[b]
   simp only[e,if_true,d,pure_bind];rw[ue r _ λy f=>h y (JJ _ f)];have b:env.cells.lookup n=some c:=g;show _=pure (if (k == NameKind.free)=true then _ else _);rw[JE e,b];rfl
  ·have i:(k == NameKind.free)=false:=by simpa using e
   simp only[i,Bool.false_eq_true,if_false,pure_bind];rw[ue r _ λy f=>h y (JJ _ f)];show _=pure (if (k == NameKind.free)=true then _ else _);rw[Jv e]
theorem wn {scope:Scope}{env:Env}(h:∀ y∈scope.names,y.2=.free->∃ c,env.cells.lookup y.1=some c):closureFor scope env=pure (wX env.cells scope.names []):=by
 unfold closureFor;show (forIn scope.names [] _ >>= λr=>pure r)=_;rw[bind_pure];exact ue _ _ h
theorem wM {cells:List (Str × Addr)}:∀ (names:List (Str × NameKind)) (cs:List (Str × Addr)) (x:Str) (c:Addr),(∀ y∈names,y.2=.free->∃ c,cells.lookup y.1=some c) ->
  (∀ x c,cs.lookup x=some c->cells.lookup x=some c)->(wX cells names cs).lookup x=some c->cells.lookup x=some c
 | [],cs,x,c,_,f,e=>f x c e
 | (n,k)::r,cs,x,c,h,f,e=>by
  unfold wX at e;by_cases q:(k == NameKind.free)=true
  ·rw[JE q]at e
   obtain⟨m,l⟩:=h (n,k) JK (by simpa using q);refine wM r _ x c (λy g=>h y (JJ _ g)) (λd o a=>?_) e;rw[Y5]at a
   cases i:d == n with
   | true =>
    rw[i]at a;have j:d=n:=by simpa using i
    subst j;have b:cells.lookup d=some m:=l;rw[b]at a ⊢
    exact a
   | false =>
    rw[i]at a;exact f d o a
  ·rw[Jv q]at e
   exact wM r _ x c (λy g=>h y (JJ _ g)) f e
theorem vV {cells:List (Str × Addr)}:∀ (names:List (Str × NameKind)) (cs:List (Str × Addr)) (x:Str),(∃ c,cs.lookup x=some c)->∃ c,(wX cells names cs).lookup x=some c
 | [],cs,x,e=>e
 | (n,k)::r,cs,x,e=>by
  unfold wX;by_cases q:(k == NameKind.free)=true
  ·rw[JE q]
   refine vV r _ x ?_;rw[Y5]
   cases a:x == n with
   | true=>exact⟨_,rfl⟩
   | false=>exact e
  ·rw[Jv q]
   exact vV r _ x e
theorem xA {cells:List (Str × Addr)}:∀ (names:List (Str × NameKind)) (cs:List (Str × Addr)) (x:Str),names.lookup x=some .free->∃ c,(wX cells names cs).lookup x=some c
 | [],cs,x,e=>by simp at e
 | (n,k)::r,cs,x,e=>by
  rw[Y5]at e;unfold wX
  cases a:x == n with
  | true =>
   rw[a]at e;have b:k=.free:=Jn e;subst b;rw[JE (by decide)];refine vV r _ x ?_;rw[Y5,a]
   exact⟨_,rfl⟩
  | false =>
   rw[a]at e;by_cases q:(k == NameKind.free)=true
   ·rw[JE q];exact xA r _ x e
   ·rw[Jv q];exact xA r _ x e
def j6 (env:Env)(p:Str × NameKind):Bool:=p.2 == .free && env.scope.kind == .function && env.kindOf p.1 == some .cell
def wT (env:Env)(p:Str × NameKind):Str × NameKind:=if j6 env p=true then (p.1,.cell) else p
theorem va (env:Env)(p:Str × NameKind):(wT env p).1=p.1:=by unfold wT;split<;>rfl
theorem vZ (env:Env)(p:Str × NameKind):(wT env p).2=p.2\/((wT env p).2=.cell/\p.2=.free):=by
 unfold wT;split
 ·rename_i h
  refine .inr ⟨rfl,?_⟩;unfold j6 at h;cases e:p.2<;>simp[e]at h<;>rfl
 ·exact .inl rfl
theorem wb (scope:Scope)(env:Env):(relabel scope env).names=scope.names.map (wT env):=rfl
theorem uS {f:Str × NameKind->Str × NameKind}(a:∀ p,(f p).1=p.1):∀ (l:List (Str × NameKind)) (x:Str),(l.map f).lookup x=none/\l.lookup x=none\/∃ p∈l,(l.map f).lookup x=some (f p).2/\l.lookup x=some p.2
 | [],_=>.inl ⟨rfl,rfl⟩
 | p::r,x=>by
  have c:((p::r).map f).lookup x=if x == p.1 then some (f p).2 else (r.map f).lookup x:=by
   show List.lookup x (((f p).1,(f p).2)::r.map f)=_;rw[Y5,a p];cases x == p.1<;>rfl
  have e2:(p::r).lookup x=if x == p.1 then some p.2 else r.lookup x:=by
   show List.lookup x ((p.1,p.2)::r)=_;rw[Y5];cases x == p.1<;>rfl
  rw[c,e2];cases x == p.1
  ·rcases uS a r x with z|⟨q,b,z⟩
   ·exact .inl z
   ·exact .inr ⟨q,JJ _ b,z⟩
  ·exact .inr ⟨p,JK,rfl,rfl⟩
theorem yi {scope:Scope}{env:Env}{x:Str}{a:NameKind}(h:(relabel scope env).names.lookup x=some a):scope.names.lookup x=some a\/(a=.cell/\scope.names.lookup x=some .free):=by
 rw[wb]at h;rcases uS (va env) scope.names x with ⟨z,_⟩|⟨p,_,z,e⟩
 ·rw[z]at h;cases h
 ·rw[z]at h
  obtain rfl:=Jn h;rcases vZ env p with q|⟨q,b⟩
  ·rw[q];exact .inl e
  ·exact .inr ⟨q,by rw[e,b]⟩
theorem xr {scope:Scope}{env:Env}{x:Str}(h:scope.names.lookup x=some .free):(relabel scope env).names.lookup x=some .cell\/(relabel scope env).names.lookup x=some .free:=by
 rw[wb];rcases uS (va env) scope.names x with ⟨_,z⟩|⟨p,_,z,e⟩
 ·rw[z]at h;cases h
 ·rw[e]at h
  rcases vZ env p with q|⟨q,_⟩
  ·rw[z,q,h];exact .inr rfl
  ·rw[z,q];exact .inl rfl
def yJ (X:Cx)(N':List Str)(scope:Scope)(C:Addr)(s₀:Shared)(H₀:Hp)(fp:List Addr)(pins:List (Addr × Obj)):Cx :=
 { X with N:=N',s₀:=s₀,H₀:=H₀,env:=compEnvC scope (wX X.env.cells scope.names []) C X.env,outer:=X.stack,stack:=X.stack,ex:=fp,fn:=λ_=>false,pn:=X.pn++pins,xe:=λ_ _=>False }
def sv (cap:List (Option Nat))(σ:St):St:=cap.map λo=>match o with|some i=>(match σ[i]? with|some v=>v|none=>none)|none=>none
def tst (M:Model)(A:Around)(env:Env)(E:Value->Shared->Prop)(o:Option Expr)(Q:Bool->Shared->Prop)(s:Shared):Prop:=match o with
 | none=>Q true s
 | some c=>wpAny M A (isTrue c env (eval c env)) Q E s
theorem rL {M:Model}{A:Around}{env:Env}{E:Value->Shared->Prop}{o:Option Expr}{Q a:Bool->Shared->Prop}{s:Shared}(h:tst M A env E o Q s)(k:∀ b z,Q b z->a b z):tst M A env E o a s:=by
 cases o with
 | none=>exact k _ _ h
 | some c=>exact thn h k
def PTo (X:Cx)(o:Option Expr)(t:TT):Prop :=
 ∀ (pins:List (Addr × Obj)) (s:Shared) (σ:St) (H:Hp) (Q:Bool->Hp->Prop),Inv X pins σ H s->t σ H Q->tst (model X.prog X.w) X.A X.env X.xe o (TP X pins σ Q) s
def l0:TT:=λ_ H Q=>Q true H
theorem yj {X:Cx}:PTo X none l0:=λ_ _ _ H _ I h=>⟨H,I,h⟩
theorem iJ {X:Cx}{c:Expr}{t:TT}(h:PT X c t):PTo X (some c) t:=λpins s σ H Q I a=>h pins s σ H Q I a
abbrev NoX:Value->Shared->Prop:=λ_ _=>False
def Go (M:Model)(A:Around)(tg elt:Expr)(o:Option Expr)(it acc:Value)(env:Env)(R:Result->Shared->Prop)(g:Shared->Prop)(s:Shared):Prop :=
 wpAny M A (pyNext it) (λr a=>match r with
  | none=>R (.ok .next) a
  | some v=>wpAny M A (letOwnedTupleGo tg it v) (λ_ b=>wpAny M A (assign tg env v) (λ_ c=>tst M A env NoX o (λyes d =>
    if yes=true then wpAny M A (eval elt env) (λx e=>wpAny M A (call (.builtin "list.append") [acc,x]) (λ_ f=>g f) NoX e) NoX d else g d) c) NoX b) NoX a) NoX s
theorem lI {prog:Program}{w:World}{A:Around}{R:Result->Shared->Prop}{s:Shared}{elt tg iter:Expr}{o:Option Expr}{scope:Scope}{pos:Pos}{it acc:Value}{env:Env}(J:Nat->Shared->Prop)(turn:∀ n s,J n s->Go (model prog w) A tg elt o it acc env R (λz=>∃ m,m<n/\J m z) s)(n:Nat)(h:J n s) :
  codeAny (model prog w) A (.compLoop (.ListComp elt [⟨tg,iter,o.toList,0⟩] scope pos) 0 it acc env) R s:=by
 cases o with
 | none =>
  refine PySem.W.kcp_loop J (λn a l=>JC (turn n a l) (λr b g=>?_) λ_ _ z=>z.elim) n h
  cases r with
  | none=>exact g
  | some v=>exact JC g (λ_ c k=>JC k (λ_ d j=>JC (show wpAny _ _ _ _ _ d from j) (λx e i=>JC i (λ_ _ q=>q) λ_ _ z=>z.elim) λ_ _ z=>z.elim) λ_ _ z=>z.elim) λ_ _ z=>z.elim
 | some t =>
  refine PySem.W.kct_loop J (λn a l=>JC (turn n a l) (λr b g=>?_) λ_ _ z=>z.elim) n h
  cases r with
  | none=>exact g
  | some v =>
   refine JC g (λ_ c k=>JC k (λ_ d j=>JC (show wpAny _ _ _ _ _ d from j) (λyes e i=>?_) λ_ _ z=>z.elim) λ_ _ z=>z.elim) λ_ _ z=>z.elim;cases yes
   ·exact i
   ·exact JC (show wpAny _ _ _ _ _ e from i) (λx f p=>JC p (λ_ _ q=>q) λ_ _ z=>z.elim) λ_ _ z=>z.elim
structure CapOk (N N':List Str) (sc scope:Scope) (cap:List (Option Nat)):Prop where
 kind:scope.kind=.function
 nocell:∀ y∈scope.names,y.2≠.cell
 names:∀ y∈scope.names,y.2=.local -> scope.names.lookup y.1=some .local
 free:∀ y∈scope.names,y.2=.free->sc.names.lookup y.1=some .cell\/sc.names.lookup y.1=some .free
 len:cap.length=N'.length
 cap:∀ p∈N'.zip cap,∀ i,p.2=some i->N[i]?=some p.1/\scope.names.lookup p.1=some .free/\(sc.names.lookup p.1=some .cell\/sc.names.lookup p.1=some .free)
theorem xx {α:Type}:∀ {l:List (Str × α)}{x:Str}{a:α},l.lookup x=some a->(x,a)∈l
 | [],_,_,h=>by simp at h
 | (n,k)::r,x,a,h=>by
  rw[Y5]at h
  cases b:x == n with
  | true =>
   rw[b]at h;have e:k=a:=Jn h;have e2:x=n:=by simpa using b
   subst e e2
   exact JK
  | false=>rw[b]at h;exact JJ _ (xx h)
def LCW (J:It)(g:TG)(tt:TT)(k:TE)(l:Addr)(Q:VK)(W:Nat->Nat->List V->St->Hp->Prop):Prop :=
 ∀ i m acc e c,W i m acc e c->c l=some (.lst acc) /\
  ((J.stop i c/\Q (.ref l) c)\/(J.go i c/\∀ x j,J.yld i c x j->g x e j λa n=>tt a n λb h =>
   if b=true then k a h λy f=>f l=some (.lst acc)/\acc.length<sizeLine/\∃ d,d<m/\W (i+1) d (acc++[y]) a (upd f l (.lst (acc++[y])))
   else ∃ d,d<m/\W (i+1) d acc a h))
def tLC (cap:List (Option Nat))(b:TI)(g:TG)(tt:TT)(c:TE):TE:=λσ H Q=>b σ H λJ a=>∀ l,a l=none ->
 ∃ W:Nat->Nat->List V->St->Hp->Prop,(∃ m,W 0 m [] (sv cap σ) (upd a l (.lst [])))/\LCW J g tt c l Q W
theorem nB {X:Cx}{elt tg iter:Expr}{o:Option Expr}{scope:Scope}{pos af:Pos}{wi:TI}{g:TG}{tt:TT}{te:TE}{N':List Str}{cap:List (Option Nat)}{use:Option (Value->Sem Unit)}{Q0:Value->Shared->Prop}(hc:X.calm=true)(hi:PI X tg iter wi)(P:CapOk X.N N' X.env.scope scope cap)(hg:∀ C s₀ H₀ fp pins,PG (yJ X N' scope C s₀ H₀ fp pins) tg g)(ht:∀ C s₀ H₀ fp pins,PTo (yJ X N' scope C s₀ H₀ fp pins) o tt)(he:∀ C s₀ H₀ fp pins,PE (yJ X N' scope C s₀ H₀ fp pins) elt te)(hs:∀ x,foldedSetIterable iter X.env x=pure x){pins:List (Addr × Obj)}{s:Shared}{σ:St}{H:Hp}{Q:VK}(I:Inv X pins σ H s)(h:tLC cap wi g tt te σ H Q)(fin:∀ (l C:Addr) (O:Hp) (U:Shared) (m:Str->Option Value),Inv X pins σ O U->Q (.ref l) O->U.heap.Ns C m->FpOk X pins O C->compPost (model X.prog X.w) X.A X.xe use Q0 (.ref l) C (.ok .next) U) :
  wpAny (model X.prog X.w) X.A (comprehension (.ListComp elt [⟨tg,iter,o.toList,0⟩] scope pos) scope X.env af (newList []) false (eval iter X.env) use) Q0 X.xe s:=by
 have F:∀ y∈scope.names,y.2=.free->∃ c,X.env.cells.lookup y.1=some c:=λy hy hf=>I.ok.has y.1 (P.free y hy hf);refine wpAny_comprehension_free (use:=use) rfl hs (wn F) P.kind P.names (thn (hi pins s σ H _ I h) λv s1 h1=>thn h1 λaM A h2=>?_);obtain⟨it,fp,tn,J,H2,e,I2,T,aj,N,body⟩:=h2;subst e;have ah:H2 A.heap.objs.size=none:=I2.hok.fresh (Jb _);obtain⟨W,⟨m0,w0⟩,turn⟩:=body A.heap.objs.size ah;have k:Inv X pins σ (upd H2 A.heap.objs.size (.lst [])) { A with heap:=A.heap.push { cls:=.type "list",data:=.seq ([]:List Value).toArray },toks:=A.toks }:=I2.lnew (its:=[]) (t':=A.toks) .nil (JL _);refine JF (wpAny_newFunctionEnv P.nocell (by intro y hy;simp at hy) (λw E D=>?_) P.kind);dsimp only at E D ⊢;generalize hl:A.heap.objs.size=l at *;generalize hP:A.heap.push { cls:=.type "list",dict:=none,data:=.seq ([]:List Value).toArray }=P2 at *;generalize aC:upd H2 l (.lst [])=H3 at *;have old:∀ b o,P2.get? b=some o->w.get? b=some o:=λb o e=>D.extBut b o (Jt (Jg e)) (J2 _ e);have ag:∀ b o,A.heap.get? b=some o->P2.get? b=some o:=λb o e=>hP ▸ J2 _ e
 have ar:∀ b∈fp,b<l:=λb a=>by
  obtain⟨o,e,_⟩:=T.obj _ _ aj b a;rw[<- hl];exact Jg e
 have aE:∀ b∈fp,H3 b=none:=λb a=>by
  rw[<- aC,zJ (Jt (ar b a))];exact(N b a).1
 have aB:P2.objs.size=l+1:=by rw[<- hP,Ym,hl]
 have t:∀ x c,(wX X.env.cells scope.names []).lookup x=some c->X.env.cells.lookup x=some c:=λx c e=>wM _ _ x c F (λ_ _ z=>by simp at z) e;generalize ao:({ A with heap:=P2,toks:=A.toks }:Shared)=s3 at *;have f:s3.heap=P2:=by rw[<- ao]
 let Y:=yJ X N' scope P2.objs.size s3 H3 fp pins
 have B:Y.Ok:=by
  refine⟨k.ok.mod,P.kind,k.ok.glob,k.ok.blt,by show s3.heap.objs.size<=P2.objs.size;rw[f];exact Jb _,λx y c e1 e2=>k.ok.inj x y c (t x c e1) (t y c e2),λx Z=>?_,λx c Z=>absurd (show false=true from Z) Jf,k.ok.hd,k.ok.frames,.inl rfl,λb a=>⟨?_,λx c e=>?_⟩,k.bs,
   Jz k.ok.bsz k.sz,λb o e a=>?_,λb a hz=>?_,k.stack,k.stkFree⟩
  ·have aw:scope.names.lookup x=some .free:=by
    rcases Z with Z|Z
    ·rcases yi Z with z|z
     ·exact absurd rfl (P.nocell _ (xx z))
     ·exact z.2
    ·rcases yi Z with z|z
     ·exact z
     ·exact z.2
   exact xA _ _ x aw
  ·exact Jt (by show b<P2.objs.size;rw[aB];exact YE (ar b a))
  ·exact(N b a).2.2.2.2.1 x c (t x c e)
  ·rcases (N b a).2.2.2.1 with z|z
   ·exact k.ok.noex b o e z
   ·exact absurd (Jx (Jg e) (Jz k.ok.bsz z)) (Yc _)
  ·rcases Ji.mp (k.stkSub b hz) with z|z
   ·exact(N b a).2.1 z
   ·exact(N b a).2.2.1 z
 have aA:Inv Y [] (sv cap σ) H3 { A with heap:=w,toks:=A.toks }:=by
  refine⟨B,by show A.os=s3.os;rw[<- ao],I2.bare,by show Un _ _ _ _ s3.heap w;rw[f];exact Un.kept old,⟨_,E,λj x v e1 e2 e3=>?_⟩,λx c e=>?_,?_,λx c e=>k.freeC x c (t x c e),λp hp=>?_,λb o e=>?_,?_⟩
  ·have aH:N'[j]?=some x:=e1
   unfold sv at e2;rw[JG]at e2
   cases ec:cap[j]? with
   | none=>rw[ec]at e2;cases e2
   | some oc =>
    rw[ec]at e2
    cases oc with
    | none=>cases e2
    | some i =>
     have aF:σ[i]?=some (some v):=by
      cases ei:σ[i]? with
      | none=>simp[ei]at e2
      | some v' =>
       simp[ei]at e2;rw[e2]
     have hz:(x,some i)∈N'.zip cap:=by
      refine Jq (i:=j) ?_;rw[Za];exact⟨aH,ec⟩
     obtain⟨hN,hf,hk⟩:=P.cap _ hz i rfl;obtain⟨m,hn,ax⟩:=k.loc;obtain⟨u,r,lk⟩:=ax i x v hN aF (by rcases hk with z|z;exact .inr (.inl z);exact .inr (.inr z));refine⟨u,r,.inr ⟨?_,?_⟩⟩
     ·exact xr hf
     ·rcases lk with ⟨z,_⟩|⟨_,c,az,aa⟩
      ·have z':X.env.scope.names.lookup x=some .local:=z
       rcases hk with q|q
       ·rw[q]at z';cases z'
       ·rw[q]at z';cases z'
      ·obtain⟨c',ap⟩:=xA (cells:=X.env.cells) scope.names [] x hf
       have:=t x c' ap;rw[az]at this;cases this;obtain⟨ob,e,d⟩:=aa;rw[f]at e;exact⟨c,ap,ob,old c ob e,d⟩
  ·obtain⟨v,ob,e',d⟩:=k.cell x c (t x c e)
   rw[f]at e';exact⟨v,ob,old c ob e',d⟩
  ·refine k.hok.fresh ?_
   rw[f];exact Jb _
  ·have ae:p∈X.pn++pins:=(Jr.mp hp).elim (λz=>z) (λz=>nomatch z)
   obtain⟨e,n,ne,nf,d⟩:=k.pin p ae;rw[f]at e;refine⟨old _ _ e,n,Jt (Jg e),λz=>?_,d⟩;rcases Ji.mp (k.stkSub _ z) with q|q
   ·exact ne q
   ·exact nf q
  ·have:=k.hok.kept (h':=w) (λb u q=>old b u (by rw[<- f];exact q))
   exact this b o e
  ·show (cap.map _).length=N'.length
   rw[Jc,P.len]
 have L:∀ {G:Hp},(∀ b∈fp,G b=none)->∀ b∈fp,FpOk Y [] G b:=λ{G} hn b a=>by
  refine⟨hn b a,(B.exf b a).1,B.exfs b a,.inl a,(B.exf b a).2,λp hp=>?_⟩;have ae:p∈X.pn++pins:=(Jr.mp hp).elim (λz=>z) (λz=>nomatch z);exact(N b a).2.2.2.2.2 p ae
 have ak:tn 0 w:=T.keep 0 _ _ aj λb a o e=>old b o (ag b o e)
 have loop:codeAny (model X.prog X.w) X.A (.compLoop (.ListComp elt [⟨tg,iter,o.toList,0⟩] scope pos) 0 (.ref it) (.ref l) Y.env) (compPost (model X.prog X.w) X.A X.xe use Q0 (.ref l) P2.objs.size) { A with heap:=w,toks:=A.toks }:=by
  refine lI (λn s'=>∃ i acc K G,Inv Y [] K G s'/\tn i s'.heap/\(∀ b∈fp,G b=none)/\W i n acc K G) ?_ m0 ⟨0,[],_,H3,aA,ak,aE,w0⟩;rintro n s4 ⟨i,acc,S,O,I4,ai,aq,w4⟩;obtain⟨aK,q4⟩:=turn i n acc S O w4;rcases q4 with ⟨stop,qn⟩|⟨go,step⟩
  ·refine thn (T.done Y rfl rfl rfl hc i [] s4 S O Y.xe I4 (L aq) ai stop) λr U ⟨hr,I5⟩=>?_
   subst hr;obtain⟨m,hn,_⟩:=id I5.loc;have un:Un (frs X.stack) fp H3 O s3.heap U.heap:=I5.base;have au:s3.heap.objs.size<=P2.objs.size:=by rw[f];exact Jb _
   have IX:Inv X pins σ O U:=k.call' (ch:=fp) I5.os un I5.hok I5.bare λb a=>⟨(N b a).2.2.2.1,(N b a).2.1,(N b a).2.2.2.2.1,(N b a).2.2.2.2.2⟩;exact fin l P2.objs.size O U m IX qn hn (k.fpOk au I5.free)
  ·refine thn (T.item Y rfl rfl rfl hc i [] s4 S O Y.xe I4 (L aq) ai go) λr U ⟨u,hr,h5⟩=>?_
   subst hr;refine thn h5 λ_ s6 ⟨x,H6,I6,r6,y6,ad,aD⟩=>?_;have aI:=I6.pinned (L aD) (T.obj _ _ ad);refine thn (hg _ _ _ _ _ _ s6 S H6 x u _ aI r6 (step x H6 y6)) λ_ s7 ⟨ab,H7,I7,q7⟩=>?_;refine rL (ht _ _ _ _ _ _ s7 ab H7 _ I7 q7) λb s8 ⟨H8,I8,q8⟩=>?_
   have again:∀ {R:St}{H9:Hp}{s9:Shared}{M:List V},Inv Y ([]++xu fp s6.heap) R H9 s9->(∃ m',m'<n/\W (i+1) m' M R H9)->∃ m,m<n/\∃ i acc K G,Inv Y [] K G s9/\tn i s9.heap/\(∀ b∈fp,G b=none)/\W i m acc K G:=λ{R H9 s9 M} I9 ⟨m',hm,w9⟩=>by
    refine⟨m',hm,i+1,M,R,H9,I9.unpinned,T.keep _ _ _ ad λb a o e=>(I9.pin (b,o) (Jp _ (Jp _ (yR a e)))).1,λb a=>?_,w9⟩;obtain⟨o,e,d⟩:=T.obj _ _ ad b a;exact(I9.pin (b,o) (Jp _ (Jp _ (yR a e)))).2.1
   cases b with
   | false =>
    rw[Jv Jf]at q8 ⊢
    exact again I8 q8
   | true =>
    rw[JE rfl]at q8 ⊢;refine thn (he _ _ _ _ _ _ s8 ab H8 _ I8 q8) λyv s9 ⟨y,H9,I9,r9,ay,av,q9⟩=>?_;refine thn (yq (X:=Y) _ s9 ab H9 (.ref l) [y] (.ref l) [yv] (λ_ G=>G=upd H9 l (.lst (acc++[y]))) I9 rfl (.cons r9 .nil) ⟨l,acc,y,rfl,rfl,ay,av,rfl⟩) λ_ aL ⟨_,aN,aJ,_,aG⟩=>?_;subst aG;exact again aJ q9
 exact codeAny_compStart_list loop (T.self X.A 0 _ _ _ ak loop)
theorem Inv.gone {X:Cx}{pins:List (Addr × Obj)}{σ:St}{H:Hp}{s:Shared}{C:Addr}{h':Heap}(I:Inv X pins σ H s)(f:FpOk X pins H C)(a:Heap.SameBut C s.heap h'):Inv X pins σ H { s with heap:=h' } :=
 I.turned (t':=s.toks) (λb o c e=>(a.2 b c).trans e) f.1 f.2.1 f.2.2.2.1 f.2.2.2.2.1 f.2.2.2.2.2
theorem wc {X:Cx}{elt tg iter:Expr}{o:Option Expr}{scope:Scope}{pos:Pos}{a:TI}{g:TG}{tt:TT}{b:TE}{N':List Str}{cap:List (Option Nat)}(n:X.calm=true)(hi:PI X tg iter a)(p:CapOk X.N N' X.env.scope scope cap)(j:∀ C s₀ H₀ fp pins,PG (yJ X N' scope C s₀ H₀ fp pins) tg g)(d:∀ C s₀ H₀ fp pins,PTo (yJ X N' scope C s₀ H₀ fp pins) o tt)(k:∀ C s₀ H₀ fp pins,PE (yJ X N' scope C s₀ H₀ fp pins) elt b)(e:∀ x,foldedSetIterable iter X.env x=pure x:=by intro _;rfl) :
  PE X (.ListComp elt [⟨tg,iter,o.toList,0⟩] scope pos) (tLC cap a g tt b):=by
 intro pins s σ H Q I h;rw[eval_ListComp];exact nB (use:=none) n hi p j d k e I h λl C t u m r q i f=>⟨m,i,λv c=>⟨.ref l,t,r.gone f c,rfl,q⟩⟩
theorem uP {X:Cx}{i:Nat}{y:Str}{elt tg iter:Expr}{o:Option Expr}{scope:Scope}{pos b py:Pos}{k:TI}{g:TG}{tt:TT}{n:TE}{N':List Str}{cap:List (Option Nat)}(M:X.N.Nodup)(j:X.N[i]?=some y)(p:X.env.scope.names.lookup y=some .local)(K:X.calm=true)(hi:PI X tg iter k)(N:CapOk X.N N' X.env.scope scope cap)(G:∀ C s₀ H₀ fp pins,PG (yJ X N' scope C s₀ H₀ fp pins) tg g)(B:∀ C s₀ H₀ fp pins,PTo (yJ X N' scope C s₀ H₀ fp pins) o tt)(J:∀ C s₀ H₀ fp pins,PE (yJ X N' scope C s₀ H₀ fp pins) elt n)(E:∀ x,foldedSetIterable iter X.env x=pure x:=by intro _;rfl)(d:swapsWith (.ListComp elt [⟨tg,iter,o.toList,0⟩] scope pos) (some (.Name y py)) b.line X.env=pure true:=by with_unfolding_all rfl) :
  PS X (.Assign [.Name y py] (.ListComp elt [⟨tg,iter,o.toList,0⟩] scope pos) b) (iF (tLC cap k g tt n) (x6 i)):=by
 intro pins s σ H D I h;rw[exec_Assign_Name_used y py _ b d];refine J0 (Yd (J0 (J0 (thn (nB (use:=some (assign (.Name y py) X.env)) (Q0:=λ_ z=>SP X pins D .next z) K hi N G B J E I h λl C Q R m P q F f=>?_) λ_ z A=>J7 (J7 A)))));refine wpAny_assign_Name (uw (v:=.ref l) P M j (.inl p) rfl (λt O ⟨a,r,L⟩=>?_) (.inr p))
 have u:C≠a:=by
  rcases L with z|z
  ·rw[z];exact f.2.1
  ·exact λw=>f.2.2.2.2.1 y a z w.symm
 have e:t.heap.Ns C m:=F.sameBut r u;exact⟨m,e,λS c=>⟨_,Q,O.gone f c,q⟩⟩
end L2
namespace Own
open PySem PySem.Spec PyProof.Rows
section
variable {M:Model}{prog:Program}{w:World}{A:Around}{E:Value->Shared->Prop}{s:Shared}{α:Type}{Q:α->Shared->Prop}
theorem rf {a:Addr}{o:Obj}{vs:Array Value}{x:Value}{f:Value->Sem α}(k:Nat)(c:s.heap.get? a=some o)(hd:o.data=.fields vs)(b:vs[k]?=some x)(h:wpAny M A (f x) Q E s) :
  wpAny M A (field (.ref a) k >>= f) Q E s:=J0 (Zb c hd b h)
theorem nx {T id:String}{B:Builtin}{it:Addr}{P:Value->Shared->Prop}(slot:Slot T "__next__" id) (ty:s.TypeIs (.ref it) T) (en:entryFor table id=some B) (ok:argsOk id ⟨[.ref it],[]⟩)
  (h:wpAny (model prog w) A.in1 (B ⟨[.ref it],[]⟩) (λr a=>∃ v,r=.done (.ret v)/\P v a) E s):wpAny (model prog w) A (Builtin.SmallTypes.nextOf (.ref it)) P E s:=by
 unfold Builtin.SmallTypes.nextOf;refine J0 (wpAny_callSpecial?_slot (name:="__next__") ty slot (Y7 slot ty en (thn2 h) ok))
where
 thn2 {b:Sem Fin}{P:Value->Shared->Prop}{c:Around}(h:wpAny (model prog w) c b (λr a=>∃ v,r=.done (.ret v)/\P v a) E s) :
   wpAny (model prog w) c b (λr a=>∃ v,r=.done (.ret v)/\wpAny (model prog w) A (pure v) P E a) E s :=
  JC h (λ_ _ ⟨v,e,q⟩=>⟨v,e,J7 q⟩) λ_ _ z=>z
end
theorem ends {A:Around}{E:Value->Shared->Prop}{prog:Program}{w:World}{s:Shared}{α:Type}{Q:α->Shared->Prop}(c:A.handled=none)
  (h:∀ h' x,(∀ b o,s.heap.get? b=some o->h'.get? b=some o)->(∃ o,h'.get? x=some o/\o.cls=.type "StopIteration")->E (.ref x) { s with heap:=h' }) :
  wpAny (model prog w) A (Builtin.SmallTypes.stopIteration:Sem α) Q E s:=by
 unfold Builtin.SmallTypes.stopIteration newExc newTuple;refine J0 (J0 (JF ?_ (by size_fits)));refine J0 (wpAny_of_eq (a:=Value.none) (by rfl) (JF (wpAny_raiseNew_none c (h _ _ (λb o e=>?_) ⟨_,Jk _ rfl,rfl⟩)) (by size_fits)));exact J2 _ (J2 _ e)
def cN:Bool->String
 | true=>"list_iterator"
 | false=>"tuple_iterator"
abbrev RIt (b:Bool)(h:Heap)(it a:Addr)(i:Int):Prop:=h.get? it=some { cls:=.type (cN b),dict:=none,data:=.fields #[.ref a,.int i 0],slots:=#[] }
def SqO:Bool->Heap->Addr->Array Value->Prop
 | true,h,a,xs=>h.IsList a xs
 | false,h,a,xs=>h.IsTuple a xs
theorem SqO.ob {b:Bool}{h:Heap}{a:Addr}{xs:Array Value}(x:SqO b h a xs):∃ o n,h.get? a=some o/\o.data=.seq xs n:=by
 cases b<;>(obtain⟨o,e,_,n,d⟩:=x;exact⟨o,n,e,d⟩)
theorem SqO.mv {b:Bool}{h h':Heap}{a:Addr}{xs:Array Value}(x:SqO b h a xs)(k:∀ o,h.get? a=some o->h'.get? a=some o):SqO b h' a xs:=by
 cases b<;>(obtain⟨o,e,r⟩:=x;exact⟨o,k o e,r⟩)
theorem SqO.ne {b c:Bool}{h:Heap}{a it f:Addr}{i:Int}{xs:Array Value}(x:SqO b h a xs)(y:RIt c h it f i):a≠it:=λz=>by
 obtain⟨o,n,e,d⟩:=x.ob;rw[z,y]at e;cases e;cases d
section
variable {prog:Program}{w:World}{A:Around}{E:Value->Shared->Prop}{s:Shared}
theorem ty {b:Bool}{it a:Addr}{i:Int}(y:RIt b s.heap it a i):s.TypeIs (.ref it) (cN b):=⟨_,y,rfl⟩
theorem sU {b:Bool}{it a:Addr}{i:Nat}{xs:Array Value}{x:Value}{P:Value->Shared->Prop}{B:Builtin}(m:B=match b with|true=>Builtin.«list_iterator.__next__»|false=>Builtin.«tuple_iterator.__next__»)(y:RIt b s.heap it a i)(sq:SqO b s.heap a xs)(g:xs[i]?=some x)(h:∀ h',RIt b h' it a (i+1)->Heap.SameBut it s.heap h'->P x { s with heap:=h' }) :
  wpAny (model prog w) A (B ⟨[.ref it],[]⟩) (λr f=>∃ v,r=.done (.ret v)/\P v f) E s:=by
 obtain⟨o,n,e,d⟩:=sq.ob
 have fin:wpAny (model prog w) A (match xs[(i:Int).toNat]? with
   | some x=>(do setField (.ref it) 1 (rawInt ((i:Int)+1));ret x:Sem Fin)
   | none=>Builtin.SmallTypes.stopIteration) (λr f=>∃ v,r=.done (.ret v)/\P v f) E s:=by
  rw[JY,g];exact J0 (YA y (show 1<2 by decide) λh' j k=>J7 ⟨x,rfl,h h' j k⟩)
 rw[JY,g]at fin;subst m;cases b <;>
 ·refine rf 0 y rfl rfl (PyIte (show ¬((Value.ref a == Value.none)=true) from Jf) (rf 1 y rfl rfl (J0 (Ye e d ?_))))
  simp only[JY,g];exact fin
where
 PyIte {c:Prop} [Decidable c] {α:Type}{a b:Sem α}{M:Model}{A:Around}{Q:α->Shared->Prop}{E:Value->Shared->Prop}{s:Shared}(l:¬ c) (h:wpAny M A b Q E s):wpAny M A (if c then a else b) Q E s:=by
  rw[Jv l];exact h
theorem uy {b:Bool}{it a:Addr}{i:Nat}{xs:Array Value}{Q:Fin->Shared->Prop}{B:Builtin}(m:B=match b with|true=>Builtin.«list_iterator.__next__»|false=>Builtin.«tuple_iterator.__next__»)
  (j:A.handled=none) (y:RIt b s.heap it a i) (sq:SqO b s.heap a xs) (g:xs[i]?=none)
  (h:∀ h' x,(∀ c o,c≠it->s.heap.get? c=some o->h'.get? c=some o)->(∃ o,h'.get? x=some o/\o.cls=.type "StopIteration")->E (.ref x) { s with heap:=h' }) :
  wpAny (model prog w) A (B ⟨[.ref it],[]⟩) Q E s:=by
 obtain⟨o,n,e,d⟩:=sq.ob;subst m;cases b <;>
 ·refine rf 0 y rfl rfl (sU.PyIte (show ¬((Value.ref a == Value.none)=true) from Jf) (rf 1 y rfl rfl (J0 (Ye e d ?_))))
  simp only[JY,g];refine J0 (YY (J0 (YA y (show 0<2 by decide) λr _ f=>?_)));exact ends j λp x k z=>h p x (λc o l q=>k c o ((f.2 c l).trans q)) z
theorem iY {b:Bool}{it a:Addr}{i:Nat}{xs:Array Value}{x:Value}{P:Value->Shared->Prop}(y:RIt b s.heap it a i)(sq:SqO b s.heap a xs)(c:xs[i]?=some x)(h:∀ h',RIt b h' it a (i+1)->Heap.SameBut it s.heap h'->P x { s with heap:=h' }):wpAny (model prog w) A (Builtin.SmallTypes.nextOf (.ref it)) P E s:=by
 cases b
 ·exact nx F.slot_tuple_iterator_next (ty y) F.entry_tuple_iterator_next (F.args_tuple_iterator_next_1 _) (sU (b:=false) rfl y sq c h)
 ·exact nx slot_listiter_next (ty y) entry_listiter_next (args_listiter_next _) (sU (b:=true) rfl y sq c h)
theorem mR {b:Bool}{it a:Addr}{i:Nat}{xs:Array Value}{P:Value->Shared->Prop}(e:A.handled=none) (y:RIt b s.heap it a i) (sq:SqO b s.heap a xs) (d:xs[i]?=none)
  (h:∀ h' x,(∀ c o,c≠it->s.heap.get? c=some o->h'.get? c=some o)->(∃ o,h'.get? x=some o/\o.cls=.type "StopIteration")->E (.ref x) { s with heap:=h' }) :
  wpAny (model prog w) A (Builtin.SmallTypes.nextOf (.ref it)) P E s:=by
 have inner:A.in1.handled=none:=e;cases b
 ·exact nx F.slot_tuple_iterator_next (ty y) F.entry_tuple_iterator_next (F.args_tuple_iterator_next_1 _) (uy (b:=false) rfl inner y sq d h)
 ·exact nx slot_listiter_next (ty y) entry_listiter_next (args_listiter_next _) (uy (b:=true) rfl inner y sq d h)
theorem xW {b:Bool}{a:Addr}{xs:Array Value}{P:Value->Shared->Prop}(sq:SqO b s.heap a xs)(h:P (.ref s.heap.objs.size) { s with heap:=s.heap.push { cls:=.type (cN b),data:=.fields #[.ref a,.int 0 0] } }):wpAny (model prog w) A (pyIter (.ref a)) P E s:=by
 cases b
 ·exact wpAny_pyIter_tuple sq h
 ·exact wpAny_pyIter_list sq h
end
theorem draws {prog:Program}{w:World}{A:Around}(l:A.handled=none)(b:Bool)(it a:Addr)(xs:Array Value)(f:a≠it) :
  Draws prog w A it [it,a] xs.size (λi v=>xs[i]?=some v) (λi h=>RIt b h it a i/\SqO b h a xs) :=
 ⟨λ_ _ st=>⟨_,st.1⟩,λ_ _ _ st k=>⟨k it JK _ st.1,st.2.mv λo e=>k a (JJ _ JK) o e⟩,
  λi s Q E hi st k=>iY st.1 st.2 (YN hi) λd y g=>k _ d s.toks (YN hi) ⟨y,st.2.mv λo e=>(g.2 a f).trans e⟩ g,
  λs Q E st k=>mR l st.1 st.2 (by simp) λd x j z=>k d x (λc o m q=>j c o m q) z⟩
theorem jq (b:Bool)(a:Addr)(o:Obj)(xs:Array Value) :
  Meets (Builtin.«enumerate.__new__» ⟨[.type "enumerate",.ref a],[]⟩) (λ_ R s=>s.heap.get? a=some o/\SqO b s.heap a xs /\
   R (.ok (.ret (.ref (s.heap.push { cls:=.type (cN b),data:=.fields #[.ref a,.int 0 0] }).objs.size)))
    { s with heap:=(s.heap.push { cls:=.type (cN b),data:=.fields #[.ref a,.int 0 0] }).push { cls:=.type "enumerate",data:=.fields #[.none,.bool false,.ref s.heap.objs.size,rawInt 0,.none,.none] } }) :=
 .of_wp λprog w A R s h=>by
  obtain⟨j,g,d,i,os⟩:=s;obtain⟨f,sq,h⟩:=h;have sub:=sub_enumerate;have e:SqO b (Shared.heap ⟨j,g,d,i,os⟩) a xs:=sq
  wp_walk using Zd f;refine wpAny_stack_any λst=>J7 ?_
  split
  case h_1 c _ _ _ _ _ =>
   cases (c == Value.type "enumerate")<;>(wp_walk using Zd f,xW e;exact⟨_,rfl,h⟩)
  all_goals (wp_walk using Zd f,xW e;exact⟨_,rfl,h⟩)
theorem lS {prog:Program}{w:World}{A:Around}{E:Value->Shared->Prop}{s:Shared}{b:Bool}{a:Addr}{xs:Array Value}{P:Value->Shared->Prop}(sq:SqO b s.heap a xs)(h:∀ h' e it,s.heap.objs.size<=e->s.heap.objs.size<=it->e≠it->IsEnum h' e it 0 .none->RIt b h' it a 0->(∀ c o,s.heap.get? c=some o->h'.get? c=some o)->P (.ref e) { s with heap:=h' }) :
  wpAny (model prog w) A (call (.type "enumerate") [.ref a]) P E s:=by
 obtain⟨o,n,d,_⟩:=sq.ob;refine callType_new F.called_enumerate (by decide) (F.typeCall_enumerate_1 _) (F.newCall_enumerate_1 _) (λobj=>F.args_object_init_2 obj _) F.entry_enumerate_new (jq b a o xs) ⟨d,sq,⟨_,Jk _ rfl,rfl⟩,?_⟩;refine h _ _ _ ?_ (Jb _) ?_ (Jk _ rfl) (J2 _ (Jk _ rfl)) λc o e=>J2 _ (J2 _ e)
 ·rw[Ym];exact Nat.le_succ _
 ·rw[Ym];exact Nat.succ_ne_self _
structure Sep (z TI TO i1 i2:Addr) (f1 f2:List Addr):Prop where
 all:[z,TI,TO,i1,i2].Nodup
 z1:z∉f1
 t1:TO∉f1
 o1:i2∉f1
 z2:z∉f2
 t2:TO∉f2
 o2:i1∉f2
section
variable {prog:Program}{w:World}{A:Around}{E:Value->Shared->Prop}{s:Shared}{z TI TO i1 i2:Addr}{f1 f2:List Addr}{n1 n2 k:Nat}{P1 P2:Nat->Value->Prop}{S1 S2:Nat->Heap->Prop}{a b:Value}
theorem lX (S:Sep z TI TO i1 i2 f1 f2)(D:Draws prog w A i1 f1 n1 P1 S1)(C:Draws prog w A i2 f2 n2 P2 S2){Q:Value->Shared->Prop}(n:IsZip s.heap z TI TO .none)(hI:IsPair s.heap TI (.ref i1) (.ref i2))(hO:IsPair s.heap TO a b)(d1:S1 k s.heap)(d2:S2 k s.heap)(l1:k<n1)(l2:k<n2)(h:∀ x y h' tk,P1 k x->P2 k y->IsZip h' z TI TO (rawInt s.heap.objs.size)->IsPair h' TO x y->S1 (k+1) h'->S2 (k+1) h'->IsPair h' s.heap.objs.size x y ->
   (∀ c o,c∉[z,TO,i1,i2]->s.heap.get? c=some o->h'.get? c=some o)->Q (.ref s.heap.objs.size) { s with heap:=h',toks:=tk }) :
  wpAny (model prog w) A (Builtin.«zip.__next__» ⟨[.ref z],[]⟩) (λr Y=>∃ v,r=.done (.ret v)/\Q v Y) E s:=by
 have L:=S.all;simp only[JT,Ji,JA,Yf,not_or]at L;obtain⟨⟨zI,u,W,V⟩,⟨IO,I1,I2⟩,⟨O1,O2⟩,aa,_⟩:=L;refine rf 2 n rfl rfl (rf 3 n rfl rfl (J0 (Ye hI rfl (J0 (rf 0 n rfl rfl (J7 ?_))))));simp only[if_true];refine J0 (YY (rf 4 n rfl rfl (J0 (YA n (show 0<5 by decide) λha U m=>J0 ?_))));have F:IsZip ha z TI TO .ellipsis:=U;simp only[List.zipIdx_cons,List.zipIdx_nil,YU,Z7];refine J0 (J0 (wpAny_onRaise (J0 (D.item k _ _ _ l1 (D.frame _ _ _ d1 λc g o e=>(m.2 c λq=>S.z1 (q ▸ g)).trans e) λx hb tb Z db l=>J7 ?_))));have P:IsPair hb TO a b:=(l.2 TO O1).trans ((m.2 TO (Ne.symm u)).trans hO);refine J0 (Ye P rfl (J0 (wpAny_updateSeq_pair P λg Oc sc=>J0 (wpAny_letGo (J7 ?_)))));have H:IsPair g TO x b:=Oc;have G:S2 k g:=C.frame _ _ _ d2 λc d o e=>(sc.2 c λq=>S.t2 (q ▸ d)).trans ((l.2 c λq=>S.o2 (q ▸ d)).trans ((m.2 c λq=>S.z2 (q ▸ d)).trans e));refine J0 (J0 (wpAny_onRaise (J0 (C.item k _ _ _ l2 G λy hd X py dd j=>J7 ?_))));have O:IsPair hd TO x b:=(j.2 TO O2).trans H;refine J0 (Ye O rfl (J0 (wpAny_updateSeq_pair O λf Oe i=>J0 (wpAny_letGo (J7 (J7 ?_))))));have t:IsPair f TO x y:=Oe;refine J0 (Ye t rfl (J0 (wpAny_newTuple (J0 ?_))));have sz:f.objs.size=s.heap.objs.size:=by rw[i.1,j.1,sc.1,l.1,m.1]
 have I:IsZip f z TI TO .ellipsis:=(i.2 z u).trans ((j.2 z V).trans ((sc.2 z u).trans ((l.2 z W).trans F)));have zn:f.objs.size≠z:=YH (Jg I);unfold Builtin.SmallTypes.ownedTupleHandOut;refine J0 (YA (J2 _ I) (show 0<5 by decide) λhf T K=>YA T (show 1<5 by decide) λB R J=>J7 ⟨_,rfl,?_⟩);have up:∀ c o,c≠z->f.get? c=some o->B.get? c=some o:=λc o q e=>(J.2 c q).trans ((K.2 c q).trans (J2 _ e));have new:IsPair B f.objs.size x y:=(J.2 _ zn).trans ((K.2 _ zn).trans (Jk _ rfl));have p:IsZip B z TI TO (rawInt f.objs.size):=R;rw[sz]at new p;show Q (.ref f.objs.size) _;rw[sz];refine h x y B X Z py p (up _ _ (Ne.symm u) t) ?_ ?_ new λc o g e=>?_
 ·exact D.frame _ _ _ db λc d o e=>up c o (λq=>S.z1 (q ▸ d)) ((i.2 c λq=>S.t1 (q ▸ d)).trans ((j.2 c λq=>S.o1 (q ▸ d)).trans ((sc.2 c λq=>S.t1 (q ▸ d)).trans e)))
 ·exact C.frame _ _ _ dd λc d o e=>up c o (λq=>S.z2 (q ▸ d)) ((i.2 c λq=>S.t2 (q ▸ d)).trans e)
 ·simp only[Ji,JA,Yf,not_or]at g
  obtain⟨N,M,c3,c4⟩:=g;exact up c o N ((i.2 c M).trans ((j.2 c c4).trans ((sc.2 c M).trans ((l.2 c c3).trans ((m.2 c N).trans e)))))
end
section
variable {prog:Program}{w:World}{A:Around}{E:Value->Shared->Prop}{s:Shared}{z TI TO i1 i2:Addr}{f1 f2:List Addr}{n1:Nat}{P1:Nat->Value->Prop}{S1:Nat->Heap->Prop}
theorem lW (S:Sep z TI TO i1 i2 f1 f2) (m:Draws prog w A i1 f1 n1 P1 S1) {Q:Fin->Shared->Prop}(a:IsZip s.heap z TI TO .none) (v:IsPair s.heap TI (.ref i1) (.ref i2)) (y:S1 n1 s.heap)
  (h:∀ h' x,(∀ c o,c∉[z,TO,i1,i2]->s.heap.get? c=some o->h'.get? c=some o)->(∃ o,h'.get? x=some o/\o.cls=.type "StopIteration")->E (.ref x) { s with heap:=h' }):wpAny (model prog w) A (Builtin.«zip.__next__» ⟨[.ref z],[]⟩) Q E s:=by
 have j:=S.all;simp only[JT,Ji,JA,Yf,not_or]at j;obtain⟨⟨D,C,p,F⟩,⟨IO,J,I⟩,⟨H,G⟩,B,_⟩:=j;refine rf 2 a rfl rfl (rf 3 a rfl rfl (J0 (Ye v rfl (J0 (rf 0 a rfl rfl (J7 ?_))))));simp only[if_true];refine J0 (YY (rf 4 a rfl rfl (J0 (YA a (show 0<5 by decide) λu n i=>J0 ?_))));have f:IsZip u z TI TO .ellipsis:=n;simp only[List.zipIdx_cons,List.zipIdx_nil,YU,Z7];refine J0 (J0 (wpAny_onRaise (J0 (m.done _ _ _ (m.frame _ _ _ y λc d o e=>(i.2 c λq=>S.z1 (q ▸ d)).trans e) λt x k ⟨r,ex,l⟩=>?_))));have g:IsZip t z TI TO .ellipsis:=k z _ p f;have xz:x≠z:=λq=>by rw[q,g]at ex;cases ex;exact absurd (show Value.type "zip" = Value.type "StopIteration" from l) (by decide)
 refine YA g (show 0<5 by decide) λd _ sc=>h d x (λc o b e=>?_) ⟨r,(sc.2 x xz).trans ex,l⟩;simp only[Ji,JA,Yf,not_or]at b;exact(sc.2 c b.1).trans (k c o b.2.2.1 ((i.2 c b.1).trans e))
end
theorem j8 (b1 b2:Bool)(a1 a2:Addr)(xs ys:Array Value):Meets (Builtin.«zip.__new__» ⟨[.type "zip",.ref a1,.ref a2],[]⟩) (λ_ R s=>SqO b1 s.heap a1 xs/\SqO b2 s.heap a2 ys /\
  ∀ h' z,(∃ TI TO i1 i2,[z,TI,TO,i1,i2].Nodup/\(∀ c∈[z,TI,TO,i1,i2],s.heap.objs.size<=c)/\IsZip h' z TI TO .none/\IsPair h' TI (.ref i1) (.ref i2)/\IsPair h' TO .none .none/\RIt b1 h' i1 a1 0/\RIt b2 h' i2 a2 0) ->
   (∀ c o,s.heap.get? c=some o->h'.get? c=some o)->R (.ok (.ret (.ref z))) { s with heap:=h' }) :=
 .of_wp λprog w A R s h=>by
  obtain⟨a,g,d,b,os⟩:=s;obtain⟨k,j,h⟩:=h;have sub:=sub_zip;have i:SqO b1 (Shared.heap ⟨a,g,d,b,os⟩) a1 xs:=k;have f:SqO b2 (Shared.heap ⟨a.push { cls:=.type (cN b1),data:=.fields #[.ref a1,.int 0 0] },g,d,b,os⟩) a2 ys:=j.mv λo e=>J2 _ e
  wp_walk using xW i,xW f
  refine⟨_,rfl,h _ _ ⟨_,_,_,_,?_,?_,Jk _ rfl,J2 _ (J2 _ (Jk _ rfl)),J2 _ (Jk _ rfl),
   J2 _ (J2 _ (J2 _ (J2 _ (Jk _ rfl)))),J2 _ (J2 _ (J2 _ (Jk _ rfl)))⟩ λc o e=>?_⟩
  ·simp only[Ym,JT,Ji,JA,Yf,not_or]
   simp<;>lia
  ·simp only[Ym,Ji,JA,Yf]
   intro c l;have:a.objs.size<=c:=by lia
   exact this
  ·exact J2 _ (J2 _ (J2 _ (J2 _ (J2 _ e))))
end Own
namespace L2
open PySem PySem.Spec PyProof.Rows Own
section
variable {X:Cx}{pins:List (Addr × Obj)}{σ:St}{H:Hp}{s:Shared}{h':Heap}
theorem Inv.spunN {fp:List Addr}{T:Addr}{o:HO}{t':Nat}(I:Inv X pins σ H s)(k:∀ b o,b∉fp->s.heap.get? b=some o->h'.get? b=some o)(h:∀ b∈fp,FpOk X pins H b)(i:s.heap.objs.size<=T)(new:ObjOk X.prog X.w (upd H T o) h' T o):Inv X pins σ (upd H T o) { s with heap:=h',toks:=t' }:=by
 have f:H T=none:=I.hok.fresh i;have neT:∀ b u,s.heap.get? b=some u->b≠T:=λb u e=>Jt (Jx (Jg e) i);have g:∀ b u,H b=some u->b∉fp:=λb u e a=>by rw[(h b a).1]at e;cases e
 refine I.step (g':=s.gens) (d':=s.drawn) (ch:=fp) (λb a=>?_) (λb o _ _ d e _=>k b o d e) (λb o _ _ d e _=>⟨o.slots,k b o d e⟩) (λb o _ e n=>by rw[zJ (neT b o e)];exact n)
  (λb o d e=>⟨o,k b o d e⟩) (λb j e=>by rw[zJ (zG e f)];exact e) (λb o u e=>by rw[zJ (zG e f)];exact e) (λb C e=>⟨#[],by rw[zJ (zG e f),e];simp⟩) (λm p=>?_) (λb u e=>?_) I.bare
 ·obtain⟨E,y,D,x,w,t⟩:=h b a
  exact⟨x,y,w,t⟩
 ·obtain⟨o,A,B,l,r⟩:=p
  exact⟨o,A,B,k _ o (λa=>(h _ a).2.1 rfl) l,r⟩
 ·by_cases a:b=T
  ·subst a;rw[zE]at e;cases e;exact new
  ·rw[zJ a]at e
   refine(I.hok b u e).stay (λc v d q=>k c v ?_ q) (λc q=>by rw[zJ (zG q f)];exact q) λc j q=>by rw[zJ (zG q f)];exact q
   rcases d with z|z
   ·rw[z];exact g b u e
   ·exact g c _ z
theorem Inv.spun {fp:List Addr}{t':Nat}(I:Inv X pins σ H s)(k:∀ b o,b∉fp->s.heap.get? b=some o->h'.get? b=some o)(g:∀ b∈fp,FpOk X pins H b):Inv X pins σ H { s with heap:=h',toks:=t' }:=by
 have f:∀ b u,H b=some u->b∉fp:=λb u e d=>by rw[(g b d).1]at e;cases e
 refine I.step (g':=s.gens) (d':=s.drawn) (ch:=fp) (λb d=>?_) (λb o _ _ a e _=>k b o a e) (λb o _ _ a e _=>⟨o.slots,k b o a e⟩) (λb o _ e n=>n)
  (λb o a e=>⟨o,k b o a e⟩) (λb h e=>e) (λb o u e=>e) (λb A e=>⟨#[],by rw[e];simp⟩) (λm j=>?_) (λb u e=>?_) I.bare
 ·obtain⟨C,w,B,t,p,l⟩:=g b d
  exact⟨t,w,p,l⟩
 ·obtain⟨o,x,y,i,r⟩:=j
  exact⟨o,x,y,k _ o (λd=>(g _ d).2.1 rfl) i,r⟩
 ·refine(I.hok b u e).stay (λc v a q=>k c v ?_ q) (λc q=>q) λc h q=>q
  rcases a with z|z
  ·rw[z];exact f b u e
  ·exact f c _ z
end
def SqB:Bool->PySem.W.Frag->Hp->Addr->List V->Prop
 | true,K,H,a,xs=>SqL K H a xs
 | false,K,H,a,xs=>SqT K H a xs
section
variable {X:Cx}{pins:List (Addr × Obj)}{σ:St}{H:Hp}{s:Shared}{a c:Addr}{xs ys:List V}{b:Bool}
theorem Inv.sq (I:Inv X pins σ H s)(h:SqB b X.K H a xs):∃ its:List Value,Vals xs its/\SqO b s.heap a its.toArray:=by
 cases b
 ·obtain⟨its,r,p,z⟩:=I.tuple h
  exact⟨its,r,p⟩
 ·obtain⟨its,r,p,z⟩:=I.list h
  exact⟨its,r,p.isList⟩
theorem Inv.sq_inj (I:Inv X pins σ H s)(h:SqB b X.K H a xs)(h':SqB b X.K H a ys):xs=ys:=by
 cases b
 ·exact I.tuple_inj h h'
 ·exact I.list_inj h h'
theorem Inv.sq_ne (I:Inv X pins σ H s)(h:SqB b X.K H a xs)(f:FpOk X pins H c):c≠a:=by
 rintro rfl
 have d:∀ o,X.K.lookup c=some o->False:=λo e=>by
  have g:=I.ok.mod.kin c o e;rcases f.2.2.2.1 with z|z
  ·exact I.ok.noex c o g z
  ·exact absurd (Jx (Jg g) (Jz I.ok.bsz z)) (Yc _)
 cases b <;>
 ·rcases h with (h|⟨o,h⟩)|⟨o,_,_,e,_⟩
  ·rw[f.1]at h;cases h
  ·rw[f.1]at h;cases h
  ·exact d o e
end
def Pr (v u:V)(H:Hp)(x:V)(H':Hp):Prop:=∃ T,H T=none/\x=.ref T/\H'=upd H T (.tup [v,u])
theorem oo {P:Program}{w:World}{H:Hp}{h:Heap}{T:Addr}{v u:V}{a b:Value}(e:IsPair h T a b)(c:RelV v a)(d:RelV u b):ObjOk P w (upd H T (.tup [v,u])) h T (.tup [v,u]) :=
 ⟨show 2<=sizeLine by decide,[a,b],.cons c (.cons d .nil),⟨_,e,rfl,_,rfl,rfl⟩⟩
def Ite (K:PySem.W.Frag)(b:Bool)(a:Addr):It :=
 ⟨λi H=>∃ c x,SqB b K H a c/\c[i]?=some x,λi H x d=>∃ y,(∀ c,SqB b K H a c->c[i]?=some y)/\Pr (.int i) y H x d,λi H=>∃ c,SqB b K H a c/\c.length=i⟩
theorem ng {P:Program}{w:World}{K:PySem.W.Frag}{es:List Expr}{k1}{R:Pos}(b:Bool)(a e it:Addr)(j:e≠it):Turn P w K (.Tuple es k1 R) (Ite K b a) [e,it] e (λi h=>(∃ old,IsEnum h e it i old)/\RIt b h it a i) where
 mem:=JK
 obj:=λi h ⟨⟨old,f⟩,hi⟩ c m=>by
  rcases Ji.mp m with q|q
  ·rw[q];exact⟨_,f,λv z=>by cases z⟩
  ·rw[Jd.mp q];exact⟨_,hi,λv z=>by cases z⟩
 keep:=λi h h' ⟨⟨old,f⟩,hi⟩ J=>⟨⟨old,J e (by simp) _ f⟩,J it (by simp) _ hi⟩
 item:=by
  intro X B y C m i pins s σ H E I l ⟨⟨old,f⟩,hi⟩ ⟨N,x,k,n⟩;subst B y C;obtain⟨d,t,p⟩:=I.sq k;obtain⟨u,L,Q⟩:=t.get n;have D:i<d.toArray.size:=by simpa using (J8.mp L).1
  refine wpAny_pyNext_enum_itemD (draws (prog:=X.prog) (w:=X.w) (A:=X.A.in1) (I.ok.hd m) b it a d.toArray (p.ne hi)) f ⟨hi,p⟩ D j (by simp[j,I.sq_ne k (l e (by simp))]) λv h1 O V Y W hT _ Z=>?_;obtain rfl:u=v:=Jn (L.symm.trans (by simpa using V));refine⟨_,rfl,wpAny_letOwnedTupleGo_enum Y λh2 F r=>?_⟩;have G:s.heap.objs.size≠e:=YH (Jg f);have S:s.heap.objs.size≠it:=YH (Jg hi);refine⟨.ref s.heap.objs.size,_,I.spunN (fp:=[e,it]) (λc o g q=>?_) l (Jb _) (oo (v:=.int i) (u:=x) ((r.2 _ G).trans hT) ⟨O,rfl⟩ Q),rfl,⟨x,λys U=>by rw[I.sq_inj U k];exact n,_,I.fresh,rfl,rfl⟩,⟨⟨_,F⟩,(r.2 it (Ne.symm j)).trans W.1⟩,λc g=>?_⟩
  ·have M:c≠e:=λz=>g (by simp[z])
   exact(r.2 c M).trans (Z c o M (λz=>g (by simp[z])) q)
  ·rw[zJ,(l c g).1]
   rintro rfl;rcases Ji.mp g with z|z
   ·exact G z
   ·exact S (Jd.mp z)
 done:=by
  intro X B y C m i pins s σ H E I l ⟨⟨old,f⟩,hi⟩ ⟨N,k,n⟩;subst B y C;obtain⟨d,t,p⟩:=I.sq k;have T:i=d.toArray.size:=by rw[Je,<- t.length,n]
  refine wpAny_pyNext_enum_endD (draws (prog:=X.prog) (w:=X.w) (A:=X.A.in1) (I.ok.hd m) b it a d.toArray (p.ne hi)) f ⟨by rw[<- T];exact hi,p⟩ λh' eb=>⟨rfl,I.spun (t':=s.toks) (fp:=[e,it]) (λc o g q=>eb c o (λz=>g (by simp[z])) q) l⟩
 self:=λ_ _ _ _ _ ⟨⟨_,f⟩,_⟩ h=>wpAny_pyIter_enum f h
def cO (K:PySem.W.Frag)(b:Bool)(f:TA):TI:=λσ H R=>f σ H λe c=>∃ a d,e=[.ref a]/\SqB b K c a d/\R (Ite K b a) c
theorem oh {X:Cx}{a:Expr}{g:TA}{p pos n:Pos}{A:List Expr}{k1} (b:Bool) (x:Gl X "enumerate") (hm:X.mg "enumerate" = none) (ha:PA X [a] g) (t:starEach [a] X.env=[(false,eval a X.env)]:=by rfl) :
  PI X (.Tuple A k1 n) (.Call (.Name "enumerate" p) [a] [] pos) (cO X.K b g):=by
 intro pins s σ H R I h;refine Call_ (xc I x hm (u:=.type "enumerate") (by rfl) (Y2 (thn (ha pos pins s σ H _ I h) λG i ⟨F,C,f,l,m⟩=>?_) t rfl));obtain⟨B,E,rfl,v,q⟩:=m;obtain⟨u,rfl,k⟩:=l.one;cases k;obtain⟨D,J,pl⟩:=f.sq v;refine lS pl λK e it r o ne j hi w=>wpAny_pyIter_enum j ⟨_,[e,it],_,_,C,rfl,f.kept (t':=i.toks) w,ng b B e it ne,⟨⟨_,j⟩,hi⟩,λc y=>?_,q⟩
 have d:i.heap.objs.size<=c:=by
  rcases Ji.mp y with z|z
  ·rw[z];exact r
  ·rw[Jd.mp z];exact o
 exact f.fpOk d (f.hok.fresh d)
def Itz (K:PySem.W.Frag)(b1 b2:Bool)(a1 a2:Addr):It :=
 ⟨λi H=>∃ a b x y,SqB b1 K H a1 a/\SqB b2 K H a2 b/\a[i]?=some x/\b[i]?=some y,λi H v c=>∃ x y,(∀ a,SqB b1 K H a1 a->a[i]?=some x)/\(∀ b,SqB b2 K H a2 b->b[i]?=some y)/\Pr x y H v c,
  λi H=>∃ a,SqB b1 K H a1 a/\a.length=i⟩
theorem lv {P:Program}{w:World}{K:PySem.W.Frag}{es:List Expr}{k1}{r:Pos}(b1 b2:Bool)(a1 a2 z TI TO i1 i2:Addr)(nd:[z,TI,TO,i1,i2].Nodup) :
  Turn P w K (.Tuple es k1 r) (Itz K b1 b2 a1 a2) [z,TI,TO,i1,i2] z (λi h=>IsZip h z TI TO .none/\IsPair h TI (.ref i1) (.ref i2)/\(∃ a b,IsPair h TO a b)/\RIt b1 h i1 a1 i/\RIt b2 h i2 a2 i) where
 mem:=JK
 obj:=λi h ⟨f,n,⟨a,b,u⟩,m,p⟩ c G=>by
  simp only[Ji,JA,Yf]at G;rcases G with rfl|rfl|rfl|rfl|rfl
  ·exact⟨_,f,λv q=>by cases q⟩
  ·exact⟨_,n,λv q=>by cases q⟩
  ·exact⟨_,u,λv q=>by cases q⟩
  ·exact⟨_,m,λv q=>by cases q⟩
  ·exact⟨_,p,λv q=>by cases q⟩
 keep:=λi h h' ⟨f,n,⟨a,b,u⟩,m,p⟩ J=>⟨J z (by simp) _ f,J TI (by simp) _ n,⟨a,b,J TO (by simp) _ u⟩,J i1 (by simp) _ m,J i2 (by simp) _ p⟩
 item:=by
  intro X Z W hK G i pins s σ H E I t ⟨f,n,⟨a,b,u⟩,m,p⟩ ⟨xs,ys,x,y,D,V,O,hy⟩;subst Z W hK;obtain⟨N,U,r⟩:=I.sq D;obtain⟨u2,r2,p2⟩:=I.sq V;obtain⟨v1,e1,rx⟩:=U.get O;obtain⟨v2,e2,ry⟩:=r2.get hy;have j:=nd;simp only[JT,Ji,JA,Yf,not_or]at j;obtain⟨⟨R,zO,M,L⟩,⟨IO,I1,I2⟩,⟨O1,O2⟩,k,_⟩:=j;have e:∀ c∈[z,TI,TO,i1,i2],c≠a1:=λc d=>I.sq_ne D (t c d);have B:∀ c∈[z,TI,TO,i1,i2],c≠a2:=λc d=>I.sq_ne V (t c d);have S:Sep z TI TO i1 i2 [i1,a1] [i2,a2]:=⟨nd,by simp[M,e z (by simp)],by simp[O1,e TO (by simp)],by simp[Ne.symm k,e i2 (by simp)],by simp[L,B z (by simp)],by simp[O2,B TO (by simp)],by simp[k,B i1 (by simp)]⟩;have hd:=I.ok.hd G;have D1:=draws (prog:=X.prog) (w:=X.w) (A:=X.A.in1) hd b1 i1 a1 N.toArray (r.ne m);have D2:=draws (prog:=X.prog) (w:=X.w) (A:=X.A.in1) hd b2 i2 a2 u2.toArray (p2.ne p);have g:s.TypeIs (.ref z) "zip":=⟨_,f,rfl⟩;unfold pyNext
  refine J0 (wpAny_attempt (wpAny_callSpecial?_slot (name:="__next__") g F.slot_zip_next (Y7 F.slot_zip_next g F.entry_zip_next (lX S D1 D2 f n u ⟨m,r⟩ ⟨p,p2⟩ (by simpa using (J8.mp e1).1) (by simpa using (J8.mp e2).1)
   λw1 w2 h' tk ab aa zh Oh d1 d2 new Q=>J7 ?_) (F.args_zip_next_1 _))))
  obtain rfl:v1=w1:=Jn (e1.symm.trans (by simpa using ab));obtain rfl:v2=w2:=Jn (e2.symm.trans (by simpa using aa));refine⟨_,rfl,wpAny_letOwnedTupleGo_zip zh λh3 z3 C=>?_⟩;have nz:s.heap.objs.size≠z:=YH (Jg f)
  have ae:∀ c∈[z,TI,TO,i1,i2],c≠s.heap.objs.size:=λc d=>by
   simp only[Ji,Yf,JA]at d;rcases d with rfl|rfl|rfl|rfl|rfl
   ·exact Jt (Jg f)
   ·exact Jt (Jg n)
   ·exact Jt (Jg u)
   ·exact Jt (Jg m)
   ·exact Jt (Jg p)
  refine⟨.ref s.heap.objs.size,_,I.spunN (fp:=[z,TI,TO,i1,i2]) (λc o d q=>?_) t (Jb _) (oo ((C.2 _ nz).trans new) rx ry),rfl,⟨x,y,λl Y=>by rw[I.sq_inj Y D];exact O,λl Y=>by rw[I.sq_inj Y V];exact hy,_,I.fresh,rfl,rfl⟩,
   ⟨z3,(C.2 _ (Ne.symm R)).trans (Q TI _ (by simp[Ne.symm R,IO,I1,I2]) n),⟨_,_,(C.2 _ (Ne.symm zO)).trans Oh⟩,(C.2 _ (Ne.symm M)).trans d1.1,(C.2 _ (Ne.symm L)).trans d2.1⟩,λc d=>by rw[zJ (ae c d),(t c d).1]⟩
  simp only[Ji,JA,Yf,not_or]at d;exact(C.2 c d.1).trans (Q c o (by simp[d]) q)
 done:=by
  intro X Z W hK G i pins s σ H E I t ⟨f,n,⟨a,b,u⟩,m,p⟩ ⟨xs,D,O⟩;subst Z W hK;obtain⟨N,U,r⟩:=I.sq D;have j:=nd;simp only[JT,Ji,JA,Yf,not_or]at j;obtain⟨⟨R,zO,M,L⟩,⟨IO,I1,I2⟩,⟨O1,O2⟩,k,_⟩:=j;have e:∀ c∈[z,TI,TO,i1,i2],c≠a1:=λc d=>I.sq_ne D (t c d);have S:Sep z TI TO i1 i2 [i1,a1] [i2]:=⟨nd,by simp[M,e z (by simp)],by simp[O1,e TO (by simp)],by simp[Ne.symm k,e i2 (by simp)],by simp[L],by simp[O2],by simp[k]⟩;have ad:i=N.toArray.size:=by rw[Je,<- U.length,O]
  have g:s.TypeIs (.ref z) "zip":=⟨_,f,rfl⟩;unfold pyNext
  refine J0 (wpAny_attempt (wpAny_callSpecial?_slot (name:="__next__") g F.slot_zip_next (Y7 F.slot_zip_next g F.entry_zip_next
   (lW S (draws (prog:=X.prog) (w:=X.w) (A:=X.A.in1) (I.ok.hd G) b1 i1 a1 N.toArray (r.ne m)) f n ⟨by rw[<- ad];exact m,r⟩ λh' x Q ⟨o,eo,co⟩=>?_) (F.args_zip_next_1 _))))
  refine J0 (YK (T:="StopIteration") (b:=true) ⟨o,eo,co⟩ isSubtype_stop (J7 ⟨rfl,I.spun (t':=s.toks) (fp:=[z,TI,TO,i1,i2]) (λc o d q=>Q c o ?_ q) t⟩));simp only[Ji,JA,Yf,not_or]at d ⊢;exact⟨d.1,d.2.2.1,d.2.2.2.1,d.2.2.2.2⟩
 self:=λ_ _ _ _ _ st h=>wpAny_pyIter_zip st.1 h
def bW (K:PySem.W.Frag)(b1 b2:Bool)(g:TA):TI:=λσ H R=>g σ H λf c=>∃ b a e d,f=[.ref b,.ref a]/\SqB b1 K c b e/\SqB b2 K c a d/\R (Itz K b1 b2 b a) c
theorem ki {X:Cx}{a b:Expr}{o:TA}{p pos G:Pos}{S:List Expr}{k1} (b1 b2:Bool) (M:Gl X "zip") (hm:X.mg "zip" = none) (ha:PA X [a,b] o) (K:starEach [a,b] X.env=[(false,eval a X.env),(false,eval b X.env)]:=by rfl) (e:starEach [b] X.env=[(false,eval b X.env)]:=by rfl) :
  PI X (.Tuple S k1 G) (.Call (.Name "zip" p) [a,b] [] pos) (bW X.K b1 b2 o):=by
 intro pins s σ H R I h;refine Call_ (xc I M hm (u:=.type "zip") (by rfl) (Y2 (thn (ha pos pins s σ H _ I h) λY A ⟨W,T,d,D,E⟩=>?_) (by rw[K,e]) (by rw[e];rfl)));obtain⟨y,x,V,U,rfl,n,m,q⟩:=E;obtain⟨u,v,rfl,C,B⟩:=D.two;cases C;cases B;obtain⟨l,_,j⟩:=d.sq n;obtain⟨k,_,i⟩:=d.sq m;refine callType_new F.called_zip (by decide) (F.typeCall_zip_2 _ _) (F.newCall_zip_2 _ _) (λobj=>F.args_object_init_3 obj _ _) F.entry_zip_new (j8 b1 b2 y x l.toArray k.toArray) ⟨j,i,λZ z ⟨TI,TO,t,r,J,f,g,O,N,Q,P⟩ L=>⟨⟨_,g,rfl⟩,?_⟩⟩;exact wpAny_pyIter_zip g ⟨_,[z,TI,TO,t,r],_,_,T,rfl,d.kept (t':=A.toks) L,lv b1 b2 y x z TI TO t r J,⟨g,O,⟨_,_,N⟩,Q,P⟩,λc w=>d.fpOk (f c w) (d.hok.fresh (f c w)),q⟩
section
variable {X:Cx}
theorem oR {prog:Program}{w:World}{A:Around}(d:A.handled=none)(b:Bool)(I a:Addr)(c:a≠I)(xs:Array Value) :
  Walks prog w A I [I,a] [I] xs.size (λi v=>xs[i]?=some v) (λi h=>(match b with|true=>h.IsListIter I a i|false=>h.IsTupleIter I a i)/\SqO b h a xs):=by
 cases b
 ·exact Walks.tuple d I a c xs
 ·exact Walks.list d I a c xs
theorem xJ (F:X.calm=true)(b:Bool):CallR X (.builtin "all") (λvs H Q=>∃ a bs,vs=[.ref a]/\SqB b X.K H a (List.map V.bl bs)/\Q (.bl (bs.all id)) H):=by
 intro pins s σ H vs J Q I y h;obtain⟨a,bs,rfl,C,q⟩:=h;obtain⟨u,rfl,l⟩:=y.one;cases l;obtain⟨f,r,p⟩:=I.sq C
 have m:a≠s.heap.objs.size:=by
  obtain⟨o,n,e,_⟩:=p.ob;exact Jt (Jg e)
 have D:f.length=bs.length:=by rw[<- r.length,Jc]
 refine call_all_walk (xW p ⟨s.heap.objs.size,[s.heap.objs.size,a],[s.heap.objs.size],_,_,_,λi=>bs.getD i true,rfl,oR (show X.A.in1.handled=none from I.ok.hd F) b _ a m f.toArray,?_,?_,?_⟩)
 ·refine⟨?_,p.mv λo e=>J2 _ e⟩
  cases b<;>exact⟨_,Jk _ rfl,rfl,rfl⟩
 ·intro i v L N O B G
  have g:f[i]?=some v:=by simpa using B
  have hi:=(J8.mp g).1
  have e:(List.map V.bl bs)[i]?=some (V.bl (bs.getD i true)):=by
   rw[JG,Jm,Ja (by lia)];rfl
  obtain⟨K,t,l⟩:=r.get e;rw[g]at t;obtain rfl:=Jn t;obtain rfl:v=Value.bool (bs.getD i true):=l;exact Yi G
 ·intro M w E
  refine⟨.bl (bs.all id),H,I.kept (t':=w) λc o e=>E c o ?_ (J2 _ e),?_,q⟩
  ·exact λz=>Jt (Jg e) (Jd.mp z)
  ·show Value.bool _=Value.bool _
   congr 1
   rw[Je,D,JZ,JV,JV];constructor
   ·intro h x A
    obtain⟨j,k,e⟩:=List.getElem_of_mem A;have d:=h j (Y8.mpr k);rw[Jm,Ja k]at d;rw[<- e];exact d
   ·intro h j k
    rw[Jm,Ja (Y8.mp k)];exact h _ (Yj _)
theorem yQ:CallR X (.builtin "isinstance") (λvs H Q=>∃ x T t k,vs=[x,.ty T]/\TyOf X.K H x t/\PySem.W.kitOne X.K t (.type T)=some k/\Q (.bl k) H):=by
 intro pins s σ H vs g Q I c h;obtain⟨x,T,t,k,rfl,e,f,q⟩:=h;obtain⟨u,v,rfl,d,a⟩:=c.two;cases (show v=Value.type T from a);exact mn I d e f λb=>⟨.bl k,H,I.tok b,rfl,q⟩
theorem zC {H:Hp}{p:Addr}(h:H p=none)(o:HO):Same H (upd H p o):=λb u q=>by rw[zJ (zG q h)];exact q
def cS (N N':List Str)(sc scope:Scope)(cap:List (Option Nat)):Bool :=
 decide (scope.kind=.function) && (scope.names.all λy=>decide (y.2≠.cell) && (decide (y.2≠.local) || decide (scope.names.lookup y.1=some .local)) &&
  (decide (y.2≠.free) || (decide (sc.names.lookup y.1=some .cell) || decide (sc.names.lookup y.1=some .free)))) && decide (cap.length=N'.length) &&
 ((N'.zip cap).all λp=>match p.2 with
  | none=>true
  | some i=>decide (N[i]?=some p.1) && (decide (scope.names.lookup p.1=some .free) && (decide (sc.names.lookup p.1=some .cell) || decide (sc.names.lookup p.1=some .free))))
theorem CapOk.of {N N':List Str}{sc scope:Scope}{cap:List (Option Nat)}(h:cS N N' sc scope cap=true):CapOk N N' sc scope cap:=by
 unfold cS at h;simp only[JU,JV,Bool.or_eq_true,decide_eq_true_eq]at h;obtain⟨⟨⟨g,b⟩,f⟩,d⟩:=h;refine⟨g,λy a=>(b y a).1.1,λy a e=>?_,λy a e=>?_,f,λp c i e=>?_⟩
 ·rcases (b y a).1.2 with z|z
  ·exact absurd e z
  ·exact z
 ·rcases (b y a).2 with z|z
  ·exact absurd e z
  ·exact z
 ·have q:=d p c
  rw[e]at q;simp only[JU,Bool.or_eq_true,decide_eq_true_eq]at q;exact q
def Nx (n i:Nat)(p:Prop):Prop:=∃ a,a<n-i/\a=n-(i+1)/\i+1<=n/\p
theorem nx {n i:Nat}{p:Prop}(h:i<n)(q:p):Nx n i p:=⟨n-(i+1),by lia,rfl,h,q⟩
theorem qO {lo:Int}{n:Nat}{g:TG}{d:TE}{l:Addr}{σ:St}{H:Hp}{Q:VK}(a:Nat->List V->St->Hp->Prop)(k:a 0 [] σ H)(j:∀ i acc σ H,a i acc σ H->H l=some (.lst acc))(h:∀ i acc σ H,i<n->a i acc σ H->g (.int (lo+i)) σ H λb o=>d b o λy f=>f l=some (.lst acc)/\acc.length<sizeLine/\Nx n i (a (i+1) (acc++[y]) b (upd f l (.lst (acc++[y])))))(hd:∀ acc σ H,a n acc σ H->Q (.ref l) H):∃ W:Nat->Nat->List V->St->Hp->Prop,(∃ m,W 0 m [] σ H)/\LCW (Itr lo n) g l0 d l Q W:=by
 refine⟨λi m acc σ H=>m=n-i/\i<=n/\a i acc σ H,⟨n,by simp,JL _,k⟩,?_⟩;rintro i m acc σ H ⟨rfl,hi,p⟩;refine⟨j i acc σ H p,?_⟩;by_cases c:i<n
 ·refine .inr ⟨c,λx q ⟨e,y⟩=>?_⟩
  subst e y;exact h i acc σ _ c p
 ·have e:i=n:=by lia
  subst e;exact .inl ⟨Jb _,hd acc σ H p⟩
theorem qW {K:PySem.W.Frag}{b:Bool}{a:Addr}{xs:List V}{g:TG}{l:TS}{D:Ends}{σ:St}{H:Hp}(c:Nat->St->Hp->Prop)(v:c 0 σ H)(s:∀ i σ H,i<=xs.length->c i σ H->SqB b K H a xs)(r:∀ i x σ H T,xs[i]?=some x->H T=none->c i σ H->g (.ref T) σ (upd H T (.tup [.int i,x])) λf k=>l { D with nx:=c (i+1),ct:=c (i+1),bk:=D.nx } f k)(t:∀ σ H,c xs.length σ H->D.nx σ H) :
  ∃ W:Nat->Nat->St->Hp->Prop,(∃ m,W 0 m σ H)/\∀ i m σ H,W i m σ H ->
   ((Ite K b a).stop i H/\D.nx σ H)\/((Ite K b a).go i H/\∃ N:St->Hp->Prop,(∀ h d,N h d->∃ n,n<m/\W (i+1) n h d)/\∀ x d,(Ite K b a).yld i H x d->g x σ d λf k=>l { D with nx:=N,ct:=N,bk:=D.nx } f k):=by
 refine⟨λi m σ H=>m=xs.length-i/\i<=xs.length/\c i σ H,⟨xs.length,by simp,JL _,v⟩,?_⟩;rintro i m σ H ⟨rfl,hi,p⟩;have q:=s i σ H hi p;by_cases j:i<xs.length
 ·refine .inr ⟨⟨xs,xs[i],q,Ja j⟩,c (i+1),λh d o=>⟨xs.length-(i+1),by lia,rfl,j,o⟩,λx d ⟨y,w,T,u,z,e2⟩=>?_⟩
  subst z e2;exact r i y σ H T (w xs q) u p
 ·have e:i=xs.length:=by lia
  subst e;exact .inl ⟨⟨xs,q,rfl⟩,t σ H p⟩
theorem num_at {ns:List Int}{its:List Value}(r:Vals (ns.map V.int) its){i:Nat}{v:Value}(h:its[i]?=some v):i<ns.length/\∃ t,v=.int (ns.getD i 0) t:=by
 have c:its.length=ns.length:=by rw[<- r.length,Jc]
 have hi:=(J8.mp h).1
 have e:(List.map V.int ns)[i]?=some (V.int (ns.getD i 0)):=by
  rw[JG,Jm,Ja (by lia)];rfl
 obtain⟨b,a,⟨t,rfl⟩⟩:=r.get e;rw[h]at a;exact⟨by lia,t,Jn a⟩
theorem wJ {ns:List Int}{i:Nat}(h:i<ns.length):ns.getD i 0∈ns:=by
 rw[Jm,Ja h];exact Yj h
theorem qL {ns:List Int}{x:Int}(h:x∈ns):∃ i,i<ns.length/\ns.getD i 0=x:=by
 obtain⟨i,hi,e⟩:=List.getElem_of_mem h;exact⟨i,hi,by rw[Jm,Ja hi];exact e⟩
theorem lO (E:X.calm=true)(b:Bool):CallR X (.builtin "max") (λvs H Q=>∃ a ns,vs=[.ref a]/\SqB b X.K H a (List.map V.int ns)/\0<ns.length/\∀ M,M∈ns->(∀ x∈ns,x<=M)->Q (.int M) H):=by
 intro pins s σ H vs K Q I m h;obtain⟨a,ns,rfl,B,k,q⟩:=h;obtain⟨u,rfl,w⟩:=m.one;cases w;obtain⟨d,r,p⟩:=I.sq B;obtain⟨o,n,g,_⟩:=p.ob;have N:d.length=ns.length:=by rw[<- r.length,Jc]
 refine call_max_walk (xW p ⟨s.heap.objs.size,[s.heap.objs.size,a],[s.heap.objs.size],_,_,_,λi j=>decide (ns.getD i 0 > ns.getD j 0),rfl,oR (show X.A.in1.handled=none from I.ok.hd E) b _ a (Jt (Jg g)) d.toArray,⟨?_,p.mv λo e=>J2 _ e⟩,λc C=>?_,by rw[Je];lia,?_,?_⟩)
 ·cases b<;>exact⟨_,Jk _ rfl,rfl,rfl⟩
 ·show c<(s.heap.push _).objs.size
  rw[Ym];rcases Ji.mp C with z|z
  ·rw[z];exact Nat.lt_succ_self _
  ·rw[Jd.mp z];exact YE (Jg g)
 ·intro i j J G L P R hi f F
  obtain⟨_,t,rfl⟩:=num_at r (i:=i) (by simpa using hi);obtain⟨_,t',rfl⟩:=num_at r (i:=j) (by simpa using f);exact gt_int F
 ·intro v O l A D
  have best:=argBest_gt (λi=>ns.getD i 0) (d.toArray.size-1);obtain⟨li,t,rfl⟩:=num_at r (by simpa using A);refine⟨.int _,H,I.kept (t':=l) λc o e=>D c o (λz=>Jt (Jg e) (Jd.mp z)) (J2 _ e),⟨t,rfl⟩,q _ (wJ li) λx y=>?_⟩;obtain⟨j,f,rfl⟩:=qL y;exact best.2 j (by rw[Je];lia)
theorem wU (E:X.calm=true)(b:Bool):CallR X (.builtin "min") (λvs H Q=>∃ a ns,vs=[.ref a]/\SqB b X.K H a (List.map V.int ns)/\0<ns.length/\∀ M,M∈ns->(∀ x∈ns,M<=x)->Q (.int M) H):=by
 intro pins s σ H vs K Q I m h;obtain⟨a,ns,rfl,B,k,q⟩:=h;obtain⟨u,rfl,w⟩:=m.one;cases w;obtain⟨d,r,p⟩:=I.sq B;obtain⟨o,n,g,_⟩:=p.ob;have N:d.length=ns.length:=by rw[<- r.length,Jc]
 refine call_min_walk (xW p ⟨s.heap.objs.size,[s.heap.objs.size,a],[s.heap.objs.size],_,_,_,λi j=>decide (ns.getD i 0<ns.getD j 0),rfl,oR (show X.A.in1.handled=none from I.ok.hd E) b _ a (Jt (Jg g)) d.toArray,⟨?_,p.mv λo e=>J2 _ e⟩,λc C=>?_,by rw[Je];lia,?_,?_⟩)
 ·cases b<;>exact⟨_,Jk _ rfl,rfl,rfl⟩
 ·show c<(s.heap.push _).objs.size
  rw[Ym];rcases Ji.mp C with z|z
  ·rw[z];exact Nat.lt_succ_self _
  ·rw[Jd.mp z];exact YE (Jg g)
 ·intro i j J G L P R hi f F
  obtain⟨_,t,rfl⟩:=num_at r (i:=i) (by simpa using hi);obtain⟨_,t',rfl⟩:=num_at r (i:=j) (by simpa using f);exact lt_int F
 ·intro v O l A D
  have best:=argBest_lt (λi=>ns.getD i 0) (d.toArray.size-1);obtain⟨li,t,rfl⟩:=num_at r (by simpa using A);refine⟨.int _,H,I.kept (t':=l) λc o e=>D c o (λz=>Jt (Jg e) (Jd.mp z)) (J2 _ e),⟨t,rfl⟩,q _ (wJ li) λx y=>?_⟩;obtain⟨j,f,rfl⟩:=qL y;exact best.2 j (by rw[Je];lia)
end
end L2
namespace L2
open PySem PySem.Spec PyProof.Rows Own
theorem xy {K:PySem.W.Frag}{a:Addr}{xs:List V}{g:TG}{h:TE}{l:Addr}{σ:St}{H:Hp}{Q:VK}(b:Nat->List V->St->Hp->Prop)(q:b 0 [] σ H)(o:∀ i acc σ H,b i acc σ H->H l=some (.lst acc)/\SqT K H a xs)(n:∀ i x acc σ H,xs[i]?=some x->b i acc σ H->g x σ H λc r=>h c r λy j=>j l=some (.lst acc)/\acc.length<sizeLine/\Nx xs.length i (b (i+1) (acc++[y]) c (upd j l (.lst (acc++[y])))))(hd:∀ acc σ H,b xs.length acc σ H->Q (.ref l) H):∃ W:Nat->Nat->List V->St->Hp->Prop,(∃ m,W 0 m [] σ H)/\LCW (Itt K a) g l0 h l Q W:=by
 refine⟨λi m acc σ H=>m=xs.length-i/\i<=xs.length/\b i acc σ H,⟨_,rfl,JL _,q⟩,?_⟩;rintro i m acc σ H ⟨rfl,hi,p⟩;obtain⟨k,d⟩:=o i acc σ H p;refine⟨k,?_⟩;by_cases f:i<xs.length
 ·refine .inr ⟨⟨xs,xs[i],d,Ja f⟩,λx s ⟨e,y⟩=>?_⟩
  subst e;exact n i x acc σ _ (y xs d) p
 ·obtain rfl:i=xs.length:=by lia
  exact .inl ⟨⟨xs,d,Jb _⟩,hd acc σ H p⟩
theorem ig {K:PySem.W.Frag}{a:Addr}{xs:List V}{g:TG}{h:TE}{l:Addr}{σ:St}{H:Hp}{Q:VK}(b:Nat->List V->St->Hp->Prop)(q:b 0 [] σ H)(o:∀ i acc σ H,b i acc σ H->H l=some (.lst acc)/\SqL K H a xs)(n:∀ i x acc σ H,xs[i]?=some x->b i acc σ H->g x σ H λc r=>h c r λy j=>j l=some (.lst acc)/\acc.length<sizeLine/\Nx xs.length i (b (i+1) (acc++[y]) c (upd j l (.lst (acc++[y])))))(hd:∀ acc σ H,b xs.length acc σ H->Q (.ref l) H):∃ W:Nat->Nat->List V->St->Hp->Prop,(∃ m,W 0 m [] σ H)/\LCW (Itl K a) g l0 h l Q W:=by
 refine⟨λi m acc σ H=>m=xs.length-i/\i<=xs.length/\b i acc σ H,⟨_,rfl,JL _,q⟩,?_⟩;rintro i m acc σ H ⟨rfl,hi,p⟩;obtain⟨k,d⟩:=o i acc σ H p;refine⟨k,?_⟩;by_cases f:i<xs.length
 ·refine .inr ⟨⟨xs,xs[i],d,Ja f⟩,λx s ⟨e,y⟩=>?_⟩
  subst e;exact n i x acc σ _ (y xs d) p
 ·obtain rfl:i=xs.length:=by lia
  exact .inl ⟨⟨xs,d,Jb _⟩,hd acc σ H p⟩
theorem mZ {lo:Int}{n:Nat}{g:TG}{tt:TT}{f:TE}{l:Addr}{σ:St}{H:Hp}{Q:VK}(c:Nat->List V->St->Hp->Prop)(q:c 0 [] σ H)(o:∀ i acc σ H,c i acc σ H->H l=some (.lst acc))(k:∀ i acc σ H,i<n->c i acc σ H->g (.int (lo+i)) σ H λa r=>tt a r λb j=>if b=true then f a j λy h=>h l=some (.lst acc)/\acc.length<sizeLine/\Nx n i (c (i+1) (acc++[y]) a (upd h l (.lst (acc++[y])))) else Nx n i (c (i+1) acc a j))(hd:∀ acc σ H,c n acc σ H->Q (.ref l) H):∃ W:Nat->Nat->List V->St->Hp->Prop,(∃ m,W 0 m [] σ H)/\LCW (Itr lo n) g tt f l Q W:=by
 refine⟨λi m acc σ H=>m=n-i/\i<=n/\c i acc σ H,⟨_,rfl,JL _,q⟩,?_⟩;rintro i m acc σ H ⟨rfl,hi,p⟩;refine⟨o i acc σ H p,?_⟩;by_cases d:i<n
 ·refine .inr ⟨d,λx s ⟨e,y⟩=>?_⟩
  subst e y;exact k i acc σ _ d p
 ·obtain rfl:i=n:=by lia
  exact .inl ⟨Jb _,hd acc σ H p⟩
end L2
namespace L2
open PySem PySem.Spec PyProof.Rows Own
section
variable {prog:Program}{w:World}{A:Around}{E:Value->Shared->Prop}{s:Shared}
theorem qf {Q:List Value->Shared->Prop}{r:Addr}{a b c:Int}{t u v:Tok}{n:Nat}(l:A.handled=none)(k:IsRange s.heap r a b c t u v)(sm:Builtin.Range.small a b c=true)(hn:Builtin.Range.rangeSize a b c=n)(hlen:n<=2 ^ 24)(q:∀ (h':Heap) (tk:Nat) (acc:Array Value),(∀ b o,s.heap.get? b=some o->h'.get? b=some o)->ItemsOf (λi v=>∃ t,v=.int (a+i*c) t) acc n->Q acc.toList { s with heap:=h',toks:=tk }):wpAny (model prog w) A (collect (.ref r)) Q E s:=by
 have key:∀ R:Result->Shared->Prop,(∀ (h':Heap) (tk:Nat) (acc:Array Value) (f:Nat),(∀ b o,s.heap.get? b=some o->h'.get? b=some o)->h'.get? s.heap.objs.size=some { cls:=.type "list",data:=.seq acc f }->ItemsOf (λi v=>∃ t,v=.int (a+i*c) t) acc n->R (.ok (.ret (.ref s.heap.objs.size))) { s with heap:=h',toks:=tk }) ->
   codeAny (model prog w) A (.builtin "proto.collect" ⟨[.ref r],[]⟩) R s:=by
  intro R p;have j:=λz=>Around.under_plainId (A:=A) F.plain_proto_collect z;have h:=λz=>Around.under_plainId (A:=A) F.plain_list_iadd z;refine codeAny_builtin F.entry_proto_collect ?_;rw[j];refine J0 (m:=newList []) (JF (J7 ⟨plainId_quiet F.plain_list_iadd _,codeAny_builtin F.entry_list_iadd ?_⟩));rw[h];have x:(s.heap.push { cls:=.type "list",data:=.seq ([]:List Value).toArray }).get? s.heap.objs.size=some { cls:=.type "list",data:=.seq #[] 0 }:=Jk _ rfl;exact wpAny_extend_range (s:={ s with heap:=s.heap.push { cls:=.type "list",data:=.seq ([]:List Value).toArray } }) l (J2 _ k) sm hn hlen s.heap.objs.size (.ref s.heap.objs.size) _ x λh' tk d f g e it=>p h' tk d f (λb o z=>g b o (Jt (Jg z)) (J2 _ z)) e it
 unfold collect;exact J0 (wpAny_runValue (key _ λh' tk acc f g e it=>J0 (m:=load s.heap.objs.size) (wpAny_load e (J7 (q h' tk acc g it)))))
theorem ui (r:Addr)(a b c:Int)(t u v:Tok)(n:Nat)(sm:Builtin.Range.small a b c=true)(hn:Builtin.Range.rangeSize a b c=n)(hlen:n<=2 ^ 24) :
  Meets (Builtin.«tuple.__new__» ⟨[.type "tuple",.ref r],[]⟩) (λA R s=>A.handled=none/\IsRange s.heap r a b c t u v/\∀ (h':Heap) (tk:Nat) (acc:Array Value),(∀ b o,s.heap.get? b=some o->h'.get? b=some o)->ItemsOf (λi v=>∃ t,v=.int (a+i*c) t) acc n ->
   R (.ok (.ret (.ref h'.objs.size))) { s with heap:=h'.push { cls:=.type "tuple",data:=.seq acc },toks:=tk }) :=
 .of_wp λprog w A R s h=>by
  obtain⟨f,d,h⟩:=h;have p:=sub_tuple_self;have l:=init_tuple_lookup;have k:=madeHere_tuple;have j:s.TypeIs (.ref r) "range":=⟨_,d,rfl⟩;have g:A.in1.handled=none:=f
  wp_walk using Yr j,qf g d sm hn hlen
  intro h' tk acc e it;rw[show acc.toList.toArray=acc by simp];exact J0 (m:=Builtin.Tuple.tupleExact acc) (JF (J7 ⟨_,rfl,h h' tk acc e it⟩) (by show acc.size<=sizeLine;rw[it.1,Js];exact hlen))
theorem sw {Q:Value->Shared->Prop}{r:Addr}{a b c:Int}{t u v:Tok}{n:Nat}(f:A.handled=none) (e:IsRange s.heap r a b c t u v) (sm:Builtin.Range.small a b c=true) (hn:Builtin.Range.rangeSize a b c=n) (hlen:n<=2 ^ 24)
  (q:∀ (h':Heap) (tk:Nat) (acc:Array Value),(∀ b o,s.heap.get? b=some o->h'.get? b=some o)->ItemsOf (λi v=>∃ t,v=.int (a+i*c) t) acc n->Q (.ref h'.objs.size) { s with heap:=h'.push { cls:=.type "tuple",data:=.seq acc },toks:=tk }) :
  wpAny (model prog w) A (call (.type "tuple") [.ref r]) Q E s :=
 callType_new F.called_tuple (by decide) (F.typeCall_tuple_1 _) (F.newCall_tuple_1 _) (λobj=>F.args_object_init_2 obj _) F.entry_tuple_new (ui r a b c t u v n sm hn hlen) ⟨f,e,λh' tk acc d it=>⟨⟨_,Jk _ rfl,rfl⟩,q h' tk acc d it⟩⟩
end
def rJ (n:Nat):List V:=(List.range n).map λ(i:Nat)=>V.int i
theorem wY {acc:Array Value}{n:Nat}(h:ItemsOf (λi v=>∃ t,v=Value.int (0+i*1) t) acc n):Vals (rJ n) acc.toList:=by
 obtain⟨d,c⟩:=h
 have go:∀ (l:List Value) (k:Nat),(∀ (j:Nat) (v:Value),l[j]?=some v->∃ t,v=Value.int ((k+j:Nat):Int) t)->Vals ((List.range l.length).map λ(i:Nat)=>V.int ((k+i:Nat):Int)) l:=by
  intro l
  induction l with
  | nil=>intro k _;exact .nil
  | cons x l ih =>
   intro k b;rw[Yk,List.range_succ_eq_map,Y0,Z6];refine .cons (by obtain⟨t,e⟩:=b 0 x rfl;exact⟨t,e⟩) ?_
   have:=ih (k+1) λj v a=>by
    obtain⟨t,e⟩:=b (j+1) v (by simpa using a);exact⟨t,by rw[e];congr 1;lia⟩
   refine cast (JH (λz=>Vals z l) (Z5 λi _=>?_)) this;show V.int ((k+1+i:Nat):Int)=V.int ((k+(i+1):Nat):Int)
   congr 2;lia
 have:=go acc.toList 0 λj v a=>by
  obtain⟨t,e⟩:=c j v (by simpa using a);exact⟨t,by rw[e];congr 1;lia⟩
 rw[YQ,d]at this;unfold rJ;refine cast (JH (λz=>Vals z acc.toList) (Z5 λi _=>?_)) this;show V.int ((0+i:Nat):Int)=V.int (i:Int);rw[Nat.zero_add]
theorem rH (n:Nat):(rJ n).length=n:=by simp[rJ]
section
variable {X:Cx}
def kB (b:Bool)(d:TA):TE:=λσ H Q=>d σ H λc a=>∃ j:Nat,c=[.int j]/\j<=100000/\∀ l,a l=none->Q (.ref l) (upd a l (if b=true then .lst (rJ j) else .tup (rJ j)))
theorem rO {j:Nat}(h:j<=100000):Builtin.Range.small 0 (j:Int) 1=true:=small_one (by lia) (by lia) (by lia) (by lia)
theorem oW {j:Nat}:Builtin.Range.rangeSize 0 (j:Int) 1=((j:Nat):Int):=by rw[rangeSize_one];split<;>lia
theorem wR {a:Expr}{x:TA}{p i pos c:Pos}(F:X.calm=true) (w:Gl X "list") (r:X.mg "list" = none) (v:Gl X "range") (m:X.mg "range" = none) (ha:PA X [a] x) (E:starEach [a] X.env=[(false,eval a X.env)]:=by rfl)
  (d:starEach [.Call (.Name "range" i) [a] [] c] X.env=[(false,eval (.Call (.Name "range" i) [a] [] c) X.env)]:=by rfl):PE X (.Call (.Name "list" p) [.Call (.Name "range" i) [a] [] c] [] pos) (kB true x):=by
 intro pins s σ H Q I h;refine Yy (xc I w r (u:=.type "list") (by rfl) (Y2 ?_ d rfl));rw[d];refine Calls.spliced_cons (Call_ (xc I v m boot_range (Y2 (thn (ha c pins s σ H _ I h) λL g ⟨K,M,l,A,B⟩=>?_) E rfl)));obtain⟨j,rfl,k,q⟩:=B;obtain⟨u,rfl,t,rfl⟩:=A.one;refine call_range_1 (Calls.spliced_nil ?_);refine call_list_range (n:=j) (l.ok.hd F) (IsRange.new ..) (rO k) oW (Jz k (by decide)) λG y f J C e it=>?_;have D:∀ b o,g.heap.get? b=some o->G.get? b=some o:=λb o z=>C b o (J2 _ z);refine⟨.ref _,_,l.laid (t':=y) (o:=.lst (rJ j)) D ?_ ⟨by rw[rH];exact Jz k (by decide),f.toList,J,wY it,by simpa using e⟩,rfl,q _ (l.hok.fresh ?_)⟩
 all_goals (show g.heap.objs.size<=(g.heap.push _).objs.size;rw[Ym];exact Nat.le_succ _)
theorem vQ {a:Expr}{w:TA}{p f pos c:Pos}(G:X.calm=true) (r:Gl X "tuple") (l:X.mg "tuple" = none) (m:Gl X "range") (k:X.mg "range" = none) (ha:PA X [a] w) (F:starEach [a] X.env=[(false,eval a X.env)]:=by rfl)
  (d:starEach [.Call (.Name "range" f) [a] [] c] X.env=[(false,eval (.Call (.Name "range" f) [a] [] c) X.env)]:=by rfl):PE X (.Call (.Name "tuple" p) [.Call (.Name "range" f) [a] [] c] [] pos) (kB false w):=by
 intro pins s σ H Q I h;refine Yy (xc I r l (u:=.type "tuple") (by rfl) (Y2 ?_ d rfl));rw[d];refine Calls.spliced_cons (Call_ (xc I m k boot_range (Y2 (thn (ha c pins s σ H _ I h) λL x ⟨K,J,A,B,C⟩=>?_) F rfl)));obtain⟨j,rfl,g,q⟩:=C;obtain⟨u,rfl,t,rfl⟩:=B.one;refine call_range_1 (Calls.spliced_nil ?_);refine sw (n:=j) (A.ok.hd G) (IsRange.new ..) (rO g) oW (Jz g (by decide)) λi v acc D it=>?_;have E:∀ b o,x.heap.get? b=some o->i.get? b=some o:=λb o z=>D b o (J2 _ z);have y:Inv X pins σ J { x with heap:=i,toks:=v }:=A.kept E;refine⟨.ref i.objs.size,_,y.laid (t':=v) (o:=.tup (rJ j)) (λb o e=>J2 _ e) (Jb _) ⟨by rw[rH];exact Jz g (by decide),acc.toList,wY it,?_⟩,rfl,q _ (y.hok.fresh (Jb _))⟩;exact⟨_,Jk _ rfl,rfl,0,by simp,rfl⟩
theorem pZ (g:X.A.units<cLine):OpR X (compareOp .NotEq) (λx y H Q=>∃ a b xs,x=.ref a/\y=.ref b/\SqL X.K H a xs/\SqL X.K H b []/\Q (.bl (!xs.isEmpty)) H):=by
 intro pins s σ H x y v u Q I k i h;obtain⟨a,b,xs,rfl,rfl,o,n,q⟩:=h;cases k;cases i;obtain⟨r,c,f,_⟩:=I.list o;obtain⟨p,l,d,_⟩:=I.list n;cases l;have m:=c.length
 cases xs with
 | nil =>
  cases c
  exact SeqAt.RcNeAt.lists (e:=λ_=>true) f.isList d.isList rfl g (λj h=>absurd h (Nat.not_lt_zero _)) X.prog X.w _ _ ⟨.bl _,H,I,rfl,q⟩
 | cons z t =>
  exact SeqAt.RcNeAt.lists_lengths f.isList d.isList (by rw[Je,<- m];simp) g X.prog X.w _ _ ⟨.bl _,H,I,rfl,q⟩
theorem oB (l:Addr) (o:Obj) (items:Array Value) (n:Nat) (x:Value) (j:Nat) (E:o.cls=.type "tuple") (hd:o.data=.seq items n) (e:Nat->Bool) (y:∀ i,i<j->e i=false) (v:e j=true) (D:j<items.size) :
  Meets (Builtin.«tuple.index» ⟨[.ref l,x],[]⟩) (λA R s=>s.heap.get? l=some o/\(∀ i (h:i<items.size),SeqAt.EqAt A.in1 s items[i] x (e i))/\R (.ok (.ret (.int j s.toks))) { s with toks:=s.toks+1 }) :=
 .of_wp λprog w A R s h=>by
  cases s with
  | mk m z C g os =>
  obtain⟨p,t,h⟩:=h;unfold Builtin.«tuple.index»;simp only[Std.Legacy.Range.forIn_eq_forIn_range']
  wp_walk using Ye p hd,wpAny_forIn_list _ (λrest b c=>c=⟨m,z,C,g,os⟩/\b.1=none/\∃ i,i<=j/\rest=List.range' i (items.size-i)) _
  case turn =>
   rintro i rest b c ⟨rfl,u,d,hi,a⟩;have k:items.size-d=(items.size-(d+1))+1:=by lia
   rw[k,List.range'_succ]at a;injection a with B e2;subst B;have f:i<items.size:=by lia
   have r:items[i]?=some items[i]:=by simp[f]
   simp only[r];refine J0 (t i f prog w _ _ ?_);by_cases q:i=j
   ·subst q;rw[v];wp_walk;exact⟨_,rfl,h⟩
   ·rw[y i (by lia)];wp_walk;exact⟨rfl,rfl,i+1,by lia,e2⟩
  case fin =>
   rintro b c ⟨rfl,u,d,hi,a⟩;have:=JH List.length a;simp at this;lia
  case h=>exact⟨rfl,rfl,0,JL _,by simp[Std.Legacy.Range.size]⟩
theorem ua:∀ {ns:List Int}{k:Int}{i:Nat},i<ns.idxOf k->(ns.getD i 0 == k)=false
 | [],k,i,h=>by simp at h
 | n::ns,k,i,h=>by
  rw[List.idxOf_cons]at h
  cases e:n == k with
  | true=>rw[e]at h;simp at h
  | false =>
   rw[e]at h;simp only[cond_false]at h
   cases i with
   | zero=>exact e
   | succ i=>exact ua (ns:=ns) (i:=i) (by lia)
def eU (to:TE)(t:TA):TE:=λσ H Q=>to σ H λx c=>∃ a ns,x=.ref a/\c a=some (.tup (List.map V.int ns))/\t σ c λd b=>∃ k:Int,d=[.int k]/\b a=some (.tup (List.map V.int ns))/\k∈ns/\Q (.int (ns.idxOf k:Nat)) b
theorem oi {o e:Expr}{to:TE}{t:TA}{apos cpos:Pos}(hu:X.A.units+64<cLine) (S:PE X o to) (ha:PA X [e] t)
  (d:attributeBase o "index" X.env (eval o X.env)=eval o X.env:=by rfl)
  (j:((backTo cpos (starEach [e] X.env)).all (λx=>!x.1) && (backToKw cpos (keywordEach [] X.env)).all (λx=>x.1.isSome) && decide ([e].length+([]:List Keyword).length+(if ([]:List Keyword).isEmpty then 0 else 1)<30))=true:=by rfl)
  (c:(apos.endLine == cpos.line)=true:=by rfl) (R:starEach [e] X.env=(false,eval e X.env)::starEach [] X.env:=by rfl):PE X (.Call (.Attribute o "index" apos) [e] [] cpos) (eU to t):=by
 intro pins s σ H Q I h;refine wpAny_Call_method_late d j c rfl (thn (S pins s σ H _ I h) λv n ⟨x,D,B,K,a,ns,ex,P,L⟩=>?_);subst ex;cases K;obtain⟨_,ab,_,⟨ob,y,Z,n1,d1,M⟩⟩:=(show ObjOk X.prog X.w D n.heap a (.tup (List.map V.int ns)) from B.hok a _ P);refine⟨"tuple","tuple.index",PySem.F.plainAttrs_tuple,PySem.F.slot_tuple_index,PySem.F.type_tuple_index,⟨ob,y,Z⟩,λa' W=>by cases W;exact⟨ob,y,M⟩,?_⟩;have w:=ha cpos pins n σ D _ B L;rw[R]at w ⊢;refine Calls.callWith_builtin rfl (Calls.evalArgs_plain ?_);refine thn w λus G ⟨vs,C,A,J,k,ev,l,O,q⟩=>?_;subst ev;obtain⟨u,rfl,E,rfl⟩:=J.one;obtain⟨_,b,p,⟨f,g,z,N,Y,aa⟩⟩:=(show ObjOk X.prog X.w C G.heap a (.tup (List.map V.int ns)) from A.hok a _ l);have hlen:b.toArray.size=ns.length:=by rw[Je,<- p.length,Jc]
 have r:=List.idxOf_lt_length_of_mem O
 refine Z0 PySem.F.slot_tuple_index ⟨f,g,z⟩ PySem.F.entry_tuple_index (PySem.F.args_tuple_index_2 _ _)
  (oB a f b.toArray N (.int k E) (ns.idxOf k) z Y (λi=>ns.getD i 0 == k) (λi hi=>?_) ?_ (by rw[hlen];exact r)) ⟨g,λi hi=>?_,?_⟩
 ·exact ua hi
 ·rw[Jm,Ja r]
  simp
 ·have m:i<ns.length:=by rw[<- hlen];exact hi
  obtain⟨w1,U,F,rfl⟩:=p.get (show (List.map V.int ns)[i]?=some (V.int (ns.getD i 0)) by rw[JG,Jm,Ja m];rfl);have T:b.toArray[i]=.int (ns.getD i 0) F:=by simpa using (J8.mp U).2
  rw[T];exact(MeetsSeq.EqGives.int _ _ _ _).at _ _
 ·exact⟨.int _,C,A.tok _,⟨_,rfl⟩,q⟩
theorem qE:fillsNumberSlot (.type "tuple") "mul" = pure false :=
 PySem.fillsNumberSlot_seq (id:="tuple.__mul__") (r:=some (.builtin "tuple.__rmul__")) F.slot_tuple_mul.lookup (by decide +kernel) F.slot_tuple_rmul.lookup (by decide +kernel)
theorem pT:seqRepeat? (.type "tuple")=pure (some (.builtin "tuple.__mul__")):=by
 unfold seqRepeat?;rw[PySem.seqSlot_of (T:="tuple") (name:="__mul__") (id:="tuple.__mul__") F.slot_tuple_mul.lookup (by decide +kernel),PySem.seqSlot_of (T:="tuple") (name:="__rmul__") (id:="tuple.__rmul__") F.slot_tuple_rmul.lookup (by decide +kernel)];rfl
theorem jy (a:Int)(t:Tok)(l:Addr)(c:Option Addr)(sl:Array (Option Value))(items:Array Value)(n:Nat) :
  Meets (Builtin.«int.__rmul__» ⟨[.int a t,.ref l],[]⟩) (λ_ R s=>s.heap.get? l=some { cls:=.type "tuple",dict:=c,data:=.seq items n,slots:=sl }/\R (.ok (.ret Value.notImplemented)) s) :=
 .of_wp λprog w A R s h=>by
  cases s;obtain⟨b,h⟩:=h
  wp_walk using Zd b
  exact⟨_,rfl,h⟩
theorem oA (l:Addr) (o:Obj) (x:Value) (n k:Nat) (t:Tok) (r:o.cls=.type "tuple") (hd:o.data=.seq #[x] n) (E:k<=100000) :
  Meets (Builtin.«tuple.__mul__» ⟨[.ref l,.int k t],[]⟩) (λ_ R s=>s.heap.get? l=some o /\
   (k=1->R (.ok (.ret (.ref l))) s)/\(k≠1->R (.ok (.ret (.ref s.heap.objs.size))) { s with heap:=s.heap.push { cls:=.type "tuple",data:=.seq (List.replicate k x).toArray } })) :=
 .of_wp λprog w A R s h=>by
  cases s with
  | mk q u z j os =>
  obtain⟨b,v,f⟩:=h;have ty:Shared.TypeIs ⟨q,u,z,j,os⟩ (.ref l) "tuple":=⟨o,b,r⟩
  wp_walk using Ye b hd,Yr ty
  have D:¬(decide ((k:Int) < -2 ^ 63) || decide ((k:Int)>=2 ^ 63))=true:=by
   rw[Jj (by lia),Jj (by lia)];exact Jf
  rw[Jv D]
  wp_walk using Ye b hd,Yr ty
  by_cases a:k=1
  ·have d:((#[x]:Array Value).isEmpty || (k:Int) == 1)=true:=by subst a;rfl
   rw[JE d]
   wp_walk using Yr ty
   exact⟨_,rfl,v a⟩
  ·have d:¬((#[x]:Array Value).isEmpty || (k:Int) == 1)=true:=by
    have:((k:Int) == 1)=false:=by rw[Yw];lia
    rw[this];exact Jf
   rw[Jv d]
   have y:∀ (m:Nat) (acc:Array Value),(List.foldl (λi g=>i++g) acc (List.replicate m #[x]))=acc++(List.replicate m x).toArray:=λm=>by
    induction m with
    | zero=>intro acc;simp
    | succ m ih=>intro acc;rw[Y1,List.foldl_cons,ih,Y1];apply Array.ext';simp
   by_cases p:k=0
   ·subst p
    have c:(decide (((0:Nat):Int)<=0) || (#[x]:Array Value).isEmpty)=true:=rfl;rw[JE c]
    wp_walk
    exact⟨_,rfl,f (by decide)⟩
   ·have c:¬(decide ((k:Int)<=0) || (#[x]:Array Value).isEmpty)=true:=by
     rw[Jj (by lia)];exact Jf
    have C:¬(((#[x]:Array Value).size:Int)*(k:Int) > (2 ^ 63-1) / 8):=by
     show ¬((1:Int)*(k:Int) > (2 ^ 63-1) / 8);lia
    have B:¬ Builtin.Tuple.tupleTooMany (((#[x]:Array Value).size:Int)*(k:Int))=true:=by
     unfold Builtin.Tuple.tupleTooMany;show ¬ decide ((1:Int)*(k:Int) > (sizeLine:Int))=true;rw[Jj (by rw[Js];lia)];exact Jf
    rw[Jv c,Jv C,Jv B,JY,y];refine J0 (m:=Builtin.Tuple.tupleExact _) (JF (J7 ⟨_,rfl,?_⟩) ?_)
    ·have e:(#[]++(List.replicate k x).toArray:Array Value)=(List.replicate k x).toArray:=by simp
     rw[e];exact f a
    ·show (#[]++(List.replicate k x).toArray:Array Value).size<=sizeLine
     rw[Js];simp;lia
theorem Vals.same {v:V}{u:Value}(r:RelV v u):∀ k:Nat,Vals (List.replicate k v) (List.replicate k u)
 | 0=>.nil
 | k+1=>by rw[Y1,Y1];exact .cons r (Vals.same r k)
theorem xV:OpR X (binaryOp .Mult) (λx y H Q=>∃ a v,∃ k:Nat,x=.ref a/\y=.int k/\H a=some (.tup [v])/\k<=100000/\∀ r H',Same H H'->H' r=some (.tup (List.replicate k v))->Q (.ref r) H'):=by
 intro pins s σ H x y J G Q I A w h;obtain⟨a,v,k,rfl,rfl,j,D,q⟩:=h;cases A;obtain⟨t,rfl⟩:=w;obtain⟨_,E,r,⟨⟨c,K,d,n⟩,f,m,i,l,g⟩⟩:=(show ObjOk X.prog X.w H s.heap a (.tup [v]) from I.hok a _ j);simp only at m l g;subst m l g;obtain⟨u,rfl,B⟩:=r.one
 refine wpAny_binaryOp_repeat_ref (T:="tuple") (U:="int") (by decide) ⟨_,f,rfl⟩ (λp=>typeIs_int p k t) qE F.fills_int_mul F.slot_int_rmul pT F.slot_int_index.lookup
  (Z0 F.slot_int_rmul (typeIs_int s k t) F.entry_int_rmul (F.args_int_rmul_2 _ _) (jy k t a none n _ i)
   ⟨f,rfl,⟨_,f,rfl⟩,Z0 F.slot_tuple_mul ⟨_,f,rfl⟩ F.entry_tuple_mul (F.args_tuple_mul_2 _ _) (oA a _ u i k t rfl rfl D) ⟨f,λe=>?_,λe=>?_⟩⟩)
 ·subst e
  exact⟨.ref a,H,I,rfl,q a H (Same.refl H) j⟩
 ·have C:(List.replicate k v).length<=sizeLine:=by rw[List.length_replicate,Js];lia
  exact⟨.ref s.heap.objs.size,_,I.laid (t':=s.toks) (o:=.tup (List.replicate k v)) (λb ob z=>J2 _ z) (Jb _) ⟨C,_,Vals.same B k,TupX.new _ _⟩,rfl,q _ _ (zC (I.hok.fresh (Jb _)) _) zE⟩
end
end L2
namespace Bn
open PySem L2 Own
def Tups (H H':Hp):Prop:=∀ a b,H a=some (.tup b)->H' a=some (.tup b)
theorem Tups.trans {H d c:Hp}(x:Tups H d)(y:Tups d c):Tups H c:=λa b e=>y a b (x a b e)
theorem Tups.of {H H':Hp}(s:Same H H'):Tups H H':=λa _ e=>s a _ e
theorem Tups.lst {H:Hp}{l:Addr}{xs ys:List V}(h:H l=some (.lst xs)):Tups H (upd H l (.lst ys)):=λa b e=>by
 rw[zJ (by rintro rfl;rw[h]at e;cases e)];exact e
def But (l:Addr)(H H':Hp):Prop:=∀ b o,H b=some o->b≠l->H' b=some o
theorem But.trans {l:Addr}{H c a:Hp}(x:But l H c)(y:But l c a):But l H a:=λb o e n=>y b o (x b o e n) n
theorem But.of {l:Addr}{H a:Hp}(x:Same H a):But l H a:=λb o e _=>x b o e
def Prs (H:Hp):List V->List (Nat × Nat)->Prop
 | [],[]=>True
 | p::ps,f::fs=>(∃ a,p=.ref a/\H a=some (.tup [.int f.1,.int f.2]))/\Prs H ps fs
 | _,_=>False
theorem Prs.tups {H H':Hp}(t:Tups H H'):∀ {ps:List V}{fs:List (Nat × Nat)},Prs H ps fs->Prs H' ps fs
 | [],[],_=>trivial
 | _::_,_::_,⟨⟨a,e,h⟩,r⟩=>⟨⟨a,e,t _ _ h⟩,r.tups t⟩
theorem Prs.len {H:Hp}:∀ {ps:List V}{fs:List (Nat × Nat)},Prs H ps fs->ps.length=fs.length
 | [],[],_=>rfl
 | _::_,_::_,⟨_,r⟩=>JH (· + 1) r.len
theorem Prs.add {H:Hp}{a:Addr}{f:Nat × Nat}(h:H a=some (.tup [.int f.1,.int f.2])):∀ {ps:List V}{fs:List (Nat × Nat)},Prs H ps fs->Prs H (ps++[.ref a]) (fs++[f])
 | [],[],_=>⟨⟨a,rfl,h⟩,trivial⟩
 | _::_,_::_,⟨x,r⟩=>⟨x,r.add h⟩
theorem Prs.get {H:Hp}:∀ {ps:List V}{fs:List (Nat × Nat)}{i:Nat}{p:V},Prs H ps fs->ps[i]?=some p->∃ a f,p=.ref a/\fs[i]?=some f/\H a=some (.tup [.int f.1,.int f.2])
 | [],[],_,_,_,e=>by simp at e
 | _::_,f::_,0,p,⟨⟨a,b,h⟩,_⟩,e=>by
  have:_=p:=Jn e;subst this
  exact⟨a,f,b,rfl,h⟩
 | _::_,_::_,i+1,p,⟨_,r⟩,e=>r.get (i:=i) (by simpa using e)
structure Nt where
 lanes:Nat
 forks:List (Nat × Nat)
 ends:List Nat
structure Nt.Ok (N:Nt):Prop where
 l1:1<=N.lanes
 l16:N.lanes<=16
 fm:N.forks.length<=128
 fk:∀ f∈N.forks,f.1<N.lanes/\f.2<N.lanes/\f.1≠f.2
 en:N.ends.Perm (List.range N.lanes)
def zW (a:List Nat):List V:=a.map λ(e:Nat)=>V.int e
structure NetAt (H:Hp) (r fr er:Addr) (ps:List V) (N:Nt):Prop where
 net:H r=some (.tup [.int N.lanes,.ref fr,.ref er])
 forks:H fr=some (.tup ps)
 prs:Prs H ps N.forks
 ends:H er=some (.tup (zW N.ends))
theorem NetAt.tups {H H':Hp}{r fr er:Addr}{ps:List V}{N:Nt}(t:Tups H H')(h:NetAt H r fr er ps N):NetAt H' r fr er ps N:=⟨t _ _ h.net,t _ _ h.forks,h.prs.tups t,t _ _ h.ends⟩
def vX (st:List Int × List Int)(f:Nat × Nat):List Int × List Int :=
 ((st.1.set f.1 ((st.1.getD f.1 0+st.1.getD f.2 0+1) / 2)).set f.2 ((st.1.getD f.1 0+st.1.getD f.2 0) / 2),st.2++[(st.1.getD f.1 0+st.1.getD f.2 0)%2])
def vI (st:List Int × List Int)(fs:List (Nat × Nat)):List Int × List Int:=fs.foldl vX st
def vT (fs:List (Nat × Nat))(cs:List Int):List Int × List Int:=vI (cs,[]) fs
def jr (N:Nt)(cs:List Int):List Int:=N.ends.map λe=>(vT N.forks cs).1.getD e 0
theorem lF (fs:List (Nat × Nat))(f:Nat × Nat)(cs:List Int):vT (fs++[f]) cs=vX (vT fs cs) f:=by
 unfold vT vI;rw[List.foldl_append];rfl
theorem nq (st:List Int × List Int)(f:Nat × Nat):(vX st f).1.length=st.1.length:=by simp[vX]
theorem vH:∀ (fs:List (Nat × Nat)) (st:List Int × List Int),(vI st fs).1.length=st.1.length/\(vI st fs).2.length=st.2.length+fs.length
 | [],st=>⟨rfl,rfl⟩
 | f::fs,st=>by
  have h:=vH fs (vX st f);refine⟨h.1.trans (nq st f),h.2.trans ?_⟩;simp[vX];lia
theorem qX (fs:List (Nat × Nat))(cs:List Int):(vT fs cs).1.length=cs.length:=(vH fs (cs,[])).1
theorem lE {fs:List (Nat × Nat)}{i:Nat}{f:Nat × Nat}(h:fs[i]?=some f)(cs:List Int):vT (fs.take (i+1)) cs=vX (vT (fs.take i) cs) f:=by
 have w:=J8.mp h;obtain⟨hi,e⟩:=w;rw[JQ hi,lF,e]
theorem x4 {cs:List Int}{i:Nat}(h:i<cs.length):atI (cs.map V.int) ((i:Nat):Int)=some (.int (cs.getD i 0)):=by
 refine zx ?_;rw[JG,Jm,Ja h];rfl
theorem uW {α:Type}{xs:List α}{i:Nat}(h:i<xs.length):ixN xs.length ((i:Nat):Int)=some i:=by
 unfold ixN;rw[JE (by lia),JE (by lia)];simp
theorem vA (cs:List Int)(i:Nat)(a:Int):(cs.map V.int).set i (.int a)=(cs.set i a).map V.int:=by rw[List.map_set]
structure Mgs (mg:Str->Option Value):Prop where
 len:mg "len" = none
 range:mg "range" = none
 tuple:mg "tuple" = none
 enum:mg "enumerate" = none
 abs:mg "abs" = none
 zip:mg "zip" = none
 isi:mg "isinstance" = none
 all:mg "all" = none
 sum:mg "sum" = none
 bool:mg "bool" = none
 int:mg "int" = none
 str:mg "str" = none
 max:mg "max" = none
 min:mg "min" = none
 sorted:mg "sorted" = none
 list:mg "list" = none
structure Use (P:Program) (w:World) (K:PySem.W.Frag) (mg:Str->Option Value) (base:Heap) (x:Str) (ps:List Str) (k:Nat) (sp:Sp) (f:Addr) (fd:FuncData):Prop where
 ok:FnOk P w K mg base CX0 k f fd ps sp
 b:Binds K fd ps []
 kp:PySem.W.keepIn K (.ref f)=true
 m:mg x=some (.ref f)
def qw:Sp:=λb H Q _=>∃ r fr e d N c cs,b=[.ref r,.ref c]/\Nt.Ok N/\NetAt H r fr e d N/\H c=some (.tup (List.map V.int cs))/\cs.length=N.lanes /\
 ∀ p a,Same H a->a p=some (.tup ((jr N cs).map V.int))->Q (.ref p) a
def Frs (l:Addr)(H:Hp)(x:Addr):Prop:=∀ b o,H b=some o->b≠l->b≠x
theorem But.frs {l x:Addr}{H a:Hp}(B:But l H a)(h:a x=none):Frs l H x:=λb o e n=>zG (B b o e n) h
theorem But.upd {l x:Addr}{H a:Hp}{o:HO}(B:But l H a)(f:Frs l H x):But l H (upd a x o):=λb u e n=>by rw[zJ (f b u e n)];exact B b u e n
theorem wQ {xs:List Nat}{v:Nat}(h:v<xs.length):∃ n,n∈xs/\atI (zW xs) ((v:Nat):Int)=some (.int n):=by
 refine⟨xs[v],Yj h,zx ?_⟩;unfold zW;rw[JG,Ja h];rfl
theorem zj (a:List Nat):(zW a).length=a.length:=by simp[zW]
theorem re {one d lanes:Nat}(b:one<lanes)(a:d+1<lanes):(one+1+d)%lanes<lanes/\one≠(one+1+d)%lanes:=by
 refine⟨Nat.mod_lt _ (by lia),λe=>?_⟩;by_cases z:one+1+d<lanes
 ·rw[Nat.mod_eq_of_lt z]at e;lia
 ·rw[Nat.mod_eq_sub_mod (by lia),Nat.mod_eq_of_lt (by lia)]at e;lia
def nm (ns:List Nat)(i:Nat):Nat:=ns.getD i 0
section
variable {ns:List Nat}{n:Nat}(pm:ns.Perm (List.range n))
include pm
end
def ren (ns:List Nat)(f:Nat × Nat):Nat × Nat:=(nm ns f.1,nm ns f.2)
def Nt.ren (N:Nt)(ns:List Nat):Nt:=⟨N.lanes,N.forks.map (Bn.ren ns),N.ends.map (nm ns)⟩
def Nt.again (N:Nt)(f:Nat × Nat):Nt:=⟨N.lanes,N.forks++[f],N.ends⟩
end Bn
namespace L2
open PySem PySem.Spec PyProof.Rows Own
section
variable {prog:Program}{w:World}{A:Around}{E:Value->Shared->Prop}{s:Shared}
theorem qS {t sl:Addr}{items:Array Value}{f e:Value}{lo hi:Option Int}{Q:Value->Shared->Prop}(a:IsTup s.heap t items)(g:s.heap.IsSliceOf sl f e .none)(pl:IsPart f lo)(pu:IsPart e hi)(j:HT.sIx items.size 0 lo=0)(i:HT.sIx items.size items.size hi=items.size)(h:Q (.ref t) s):wpAny (model prog w) A (getItem (.ref t) (.ref sl)) Q E s:=by
 obtain⟨os,b,c,k⟩:=id g;have d:s.TypeIs (.ref sl) "slice":=⟨os,b,c⟩;unfold getItem
 try with_reducible refine Y4 ?_
 first|refine J0 (J7 ?_)|skip
 refine J0 (wpAny_sequenceKey a.typeIs (by decide) (J0 (wpAny_callSpecial?_slot (name:=Str.ofString "__getitem__") a.typeIs Yb (Y7 Yb a.typeIs PyProof.Rows.entry_tuple_getitem ?_ (PyProof.Rows.args_tuple_getitem _ _)))));show wpAny _ _ (Builtin.Tuple.tupleItemsOf (.ref t) >>= _) _ _ s;refine J0 (tupleItemsOf_ a (J0 (Yr d ?_)));rw[JE (by decide)];refine J0 (HT.sliceApplied_gen g pl pu ?_);rw[j,i];show wpAny _ _ (if (((0:Nat):Int) == 0 && (1:Int) == 1 && (items.size-0) == items.size)=true then _ else _) _ _ s;rw[JE (by simp)];refine J0 ?_;unfold Builtin.Tuple.tupleIsExact;refine J0 (Yr a.typeIs (J7 ?_));rw[JE (by decide)];exact J0 (YY (J7 ⟨_,rfl,J7 h⟩))
end
end L2
namespace K46
open PySem L2 Own Bn
def top (i:Nat):Stmt:=PySem.Challenge.pw_stairlanes_k46_places_spoilt.main.body.getD i (.Pass ⟨0,0,0,0⟩)
end K46
namespace L2
open PySem PySem.Spec PyProof.Rows Own
section
variable {X:Cx}
theorem yO:OpR X (binaryOp .Add) (λx y H Q=>∃ a b xs ys,x=.ref a/\y=.ref b/\H a=some (.tup xs)/\H b=some (.tup ys)/\xs.length+ys.length<=sizeLine/\∀ r H',Same H H'->H' r=some (.tup (xs++ys))->Q (.ref r) H'):=by
 intro pins s σ H x y v u Q I o n h;obtain⟨a,b,xs,ys,rfl,rfl,j,i,F,q⟩:=h;by_cases z:xs=[]
 ·subst z
  cases o;cases n;obtain⟨L,A,C,_⟩:=I.tuple (SqT.of j);obtain⟨m,M,B,_⟩:=I.tuple (SqT.of i);cases A;obtain⟨⟨P,K,N,l⟩,w,g,E,d⟩:=C;obtain⟨⟨O,J,e2,k⟩,t,f,D,c⟩:=B;simp only at g d f c;subst g d f c;refine concat_meets ⟨_,w,rfl⟩ ⟨_,t,rfl⟩ noFill_tuple_add seq_tuple_add PySem.F.slot_tuple_add PySem.F.entry_tuple_add (PySem.F.args_tuple_add_2 _ _) (tuple_addW0 a b #[] m.toArray E D K J l k rfl) ⟨w,t,?_⟩;exact⟨.ref b,H,I,rfl,q b H (Same.refl H) (by rw[List.nil_append];exact i)⟩
 ·exact iN pins s σ H _ _ v u Q I o n ⟨a,b,xs,ys,rfl,rfl,SqT.of j,SqT.of i,z,F,λe=>q a H (Same.refl H) (by rw[e,Yn];exact j),λ_ p G=>q p _ (zC G _) zE⟩
theorem yK:SlR X (λx lo hi H Q=>∃ a xs,x=.ref a/\H a=some (.tup xs)/\∀ p H',Same H H'->H' p=some (.tup (yz xs lo hi))->Q (.ref p) H'):=by
 intro pins s σ H x v j i lo hi k Q I e g pl pu h;obtain⟨a,xs,rfl,c,q⟩:=h;by_cases b:HT.sIx xs.length 0 lo=0/\HT.sIx xs.length xs.length hi=xs.length
 ·cases e
  obtain⟨d,r,f,m⟩:=I.tuple (SqT.of c);have hlen:d.toArray.size=xs.length:=by rw[Je];exact r.length.symm
  refine⟨"tuple",_,PyProof.Rows.slot_tuple_getitem.lookup,f.typeIs,qS f g pl pu (by rw[hlen];exact b.1) (by rw[hlen];exact b.2) ⟨.ref a,H,I,rfl,q a H (Same.refl H) ?_⟩⟩;unfold yz;rw[b.1,b.2,List.drop_zero,Nat.sub_zero,JR];exact c
 ·exact gW pins s σ H _ v j i lo hi k Q I e g pl pu ⟨a,xs,rfl,SqT.of c,b,λp l=>q p _ (zC l _) zE⟩
end
theorem wL (xs:List V)(i:Nat)(h:i<=xs.length):yz xs none (some (i:Int))=xs.take i:=by
 unfold yz;rw[HT.sIx_none,HT.sIx_nat,List.drop_zero,Nat.sub_zero,YV h]
theorem ud (xs:List V)(i:Nat)(h:i<=xs.length):yz xs (some (i:Int)) none=xs.drop i:=by
 unfold yz;rw[HT.sIx_none,HT.sIx_nat,YV h];exact JP (by rw[JW];exact Jb _)
end L2
namespace Bn
open PySem L2 Own
theorem uc {α:Type}:∀ (xs:List α) (k:Nat) (h:k<xs.length),(xs[k]::xs.eraseIdx k).Perm xs
 | x::xs,0,_=>.refl _
 | x::xs,k+1,h=>by
  have a:k<xs.length:=by simpa using h
  have ih:=uc xs k a;exact(List.Perm.swap x xs[k] _).trans (ih.cons x)
end Bn
namespace L2
open PySem
theorem uY {c:TT}{d b u:TS}{D:Ends}{σ:St}{H:Hp}(I:St->Hp->Prop)(key:∀ σ H,I σ H->u D σ H)(h:∀ a:Ends,(∀ σ H,I σ H->a.nx σ H)->a.rt=D.rt->gO c d b a σ H):qr (gO c d b) u D σ H:=h { D with nx:=u D } key rfl
theorem cT {v:V}{i:Nat}{u:TS}{D:Ends}{σ:St}{H:Hp}(h:u D (σ.set i (some v)) H):qr (iF (tC v) (x6 i)) u D σ H:=h
theorem wG {H H':Hp}{x:Addr}(s:Same H H')(h:H' x=none):H x=none:=by
 cases e:H x with
 | none=>rfl
 | some o=>rw[s _ _ e]at h;cases h
def gF (K:PySem.W.Frag):List V->Hp->VK->Prop:=λb H Q=>∃ p a,b=[V.ref p]/\(SqL K H p a\/SqT K H p a)/\Q (V.int a.length) H
theorem lQ {X:Cx}:CallR X (.builtin "len") (gF X.K):=zR
end L2
namespace Bn
open PySem L2 Own
structure Pk3 (H:Hp) (l:Addr):Prop where
 ex:∃ a b c:Int,H l=some (.lst [.int a,.int b,.int c])/\0<=a/\0<=b/\b<2 ^ 31
theorem Pk3.keep {H H':Hp}{l:Addr}(S:Pk3 H l)(s:Same H H'):Pk3 H' l:=by
 obtain⟨a,b,c,h,r⟩:=S.ex;exact⟨a,b,c,s _ _ h,r⟩
theorem Pk3.lst {H:Hp}{l:Addr}(S:Pk3 H l):∃ xs,H l=some (.lst xs):=by
 obtain⟨a,b,c,h,_⟩:=S.ex;exact⟨_,h⟩
theorem Pk3.ne {H:Hp}{l p:Addr}(S:Pk3 H l)(h:H p=none):l≠p:=by
 obtain⟨a,e⟩:=S.lst;exact zG e h
theorem Pk3.upd {H:Hp}{l p:Addr}{o:HO}(S:Pk3 H l)(h:l≠p):Pk3 (upd H p o) l:=by
 obtain⟨a,b,c,e,r⟩:=S.ex;exact⟨a,b,c,by rw[zJ h];exact e,r⟩
theorem But.tups3 {H H':Hp}{l:Addr}(x:But l H H')(S:Pk3 H l):Tups H H':=λa b e=>x a _ e (by
 rintro rfl;obtain⟨_,z⟩:=S.lst
 rw[z]at e;cases e)
def sC (K:PySem.W.Frag):Sp:=λc H Q _=>∃ (a:Addr) (ns:List Int) (k:Int),c=[.ref a,.int k]/\SqL K H a (ns.map V.int)/\ns.length<=63/\0<=k/\k<=1000/\∀ l b,H l=none->Same H b->Pk3 b l->Q (.ref l) b
def yh:Sp:=λa H Q _=>∃ (l:Addr) (m:Int),a=[.ref l,.int m]/\0<m/\m<1073741824/\Pk3 H l/\∀ (v:Nat) H',(v:Int)<m->Pk3 H' l->But l H H'->Q (.int v) H'
def vh:Sp:=λd H Q _=>∃ (l p:Addr) (b:List V),d=[.ref l,.ref p]/\H p=some (.lst b)/\b.length<=100000/\Pk3 H l/\∀ t c a,c.Perm b->a t=some (.tup c)->Pk3 a l->But l H a->Q (.ref t) a
theorem tF {ys:List V}{f:List Nat}(p:ys.Perm (zW f)):∃ ds:List Nat,ys=zW ds/\ds.Perm f:=by
 have key:∀ {ys g:List V},ys.Perm g->∀ {f:List Nat},g=zW f->∃ ds:List Nat,ys=zW ds/\ds.Perm f:=by
  intro ys g p
  induction p with
  | nil=>intro f e;cases f with
   | nil=>exact⟨[],rfl,.refl _⟩
   | cons a b=>cases e
  | cons b _ ih =>
   intro f e
   cases f with
   | nil=>cases e
   | cons a g =>
    injection e with j e2;obtain⟨cs,i,h⟩:=ih e2
    exact⟨a::cs,by rw[i,j];rfl,h.cons _⟩
  | swap b c l =>
   intro f e
   cases f with
   | nil=>cases e
   | cons a g=>cases g with
    | nil=>cases e
    | cons d g =>
     injection e with j e2;injection e2 with e2 q
     exact⟨d::a::g,by rw[j,e2,q];rfl,.swap _ _ _⟩
  | trans _ _ m k =>
   intro f e;obtain⟨cs,i,h⟩:=k e;obtain⟨ds,o,n⟩:=m i;exact⟨ds,o,n.trans h⟩
 exact key p rfl
end Bn
namespace K46
open PySem L2 Own Bn
abbrev kT:Stmt:=top 24
abbrev kO:Stmt:=top 25
abbrev pH:Stmt:=top 26
section
variable {P:Program}{w:World}{K:PySem.W.Frag}{mg:Str->Option Value}{base:Heap}
theorem scK:FnScope ["_law_left_here","_law_many","_law_digit"] ["_law_left_here","_law_many"] (zN kO):=by trivial
theorem iQ {f:Addr}{fd:FuncData}(F:Fun K "_law_pick" "_law_pick" kO f fd):FnOk P w K mg base CX0 1 f fd ["_law_left_here","_law_many"] yh:=by
 refine F.ok scK (λy H Q E h=>?_) (λL A outer s H y Q E M h=>?_)
 ·obtain⟨l,m,rfl,_⟩:=h
  rfl
 obtain⟨l,m,rfl,g,z,S,k⟩:=h;obtain⟨a,b,c,d,r,D,C⟩:=S.ex;refine⟨_,(@zF _ _ _ _ _ (@yH _ _ _ _ _ _ _ _ (@zp _ _ _ _ _ _ _ _ rg (@zX _ _ _ _ _ _ _ zd (@qv _ 0 _ _ (by trivial)) zD (λ_ _=>rfl)) zD (zt _)) (@zF _ _ _ _ _ (@zZ _ _ 2 _ _ _ _ scK.nd rfl (.inl rfl) (@zP _ _ _ _ _ _ _ _ xa (@zX _ _ _ _ _ _ _ zd (@qv _ 0 _ _ (by trivial)) zD (λ_ _=>rfl)) (@qv _ 1 _ _ (by trivial))) (by rfl) (by trivial)) (@zF _ _ _ _ _ (@yN _ _ _ _ _ _ (@zP _ _ _ _ _ _ _ _ xw (@zX _ _ _ _ _ _ _ zd (@qv _ 0 _ _ (by trivial)) zD (λ_ _=>rfl)) (@qv _ 1 _ _ (by trivial))) (@xv _ _ _ _ _ _ _ (@qv _ 0 _ _ (by trivial)) zD yu (by intro _;rfl)) (by rfl) (by rfl) (by rfl)) (@zH _ _ _ (@zU _ _ _ _ (@qv _ 2 _ _ (by trivial)))))) zq) (@zF _ _ _ _ _ (@yN _ _ _ _ _ _ (@zP _ _ _ _ _ _ _ _ yI (@zX _ _ _ _ _ _ _ zd (@qv _ 0 _ _ (by trivial)) zD (λ_ _=>rfl)) zD) (@xv _ _ _ _ _ _ _ (@qv _ 0 _ _ (by trivial)) zD yu (by intro _;rfl)) (by rfl) (by rfl) (by rfl)) (@zF _ _ _ _ _ (@yN _ _ _ _ _ _ (@zP _ _ _ _ _ _ _ _ xa (@zP _ _ _ _ _ _ _ _ yI (@zP _ _ _ _ _ _ _ _ yI (@zP _ _ _ _ _ _ _ _ xZ (@zX _ _ _ _ _ _ _ zd (@qv _ 0 _ _ (by trivial)) zD (λ_ _=>rfl)) zD) zD) (@zX _ _ _ _ _ _ _ zd (@qv _ 0 _ _ (by trivial)) zD (λ_ _=>rfl))) zD) (@xv _ _ _ _ _ _ _ (@qv _ 0 _ _ (by trivial)) zD yu (by intro _;rfl)) (by rfl) (by rfl) (by rfl)) (@zH _ _ _ (@zU _ _ _ _ (@zP _ _ _ _ _ _ _ _ xa (@zP _ _ _ _ _ _ _ _ xw (@zP _ _ _ _ _ _ _ _ xa (@zP _ _ _ _ _ _ _ _ xZ (@zX _ _ _ _ _ _ _ zd (@qv _ 0 _ _ (by trivial)) zD (λ_ _=>rfl)) (@zX _ _ _ _ _ _ _ zd (@qv _ 0 _ _ (by trivial)) zD (λ_ _=>rfl))) zD) zD) (@qv _ 1 _ _ (by trivial)))))))),?_⟩
 have fin:∀ (x:Int) (i:Hp),0<=x->x<m->Pk3 i l->But l H i->Q (.int x) i:=λx i u t G J=>by
  obtain⟨v,rfl⟩:=Int.eq_ofNat_of_zero_le u;exact k v i t G J
 refine⟨_,rfl,l,_,_,_,rfl,rfl,SqL.of d,rfl,_,_,rfl,rfl,_,rfl,ve (λq=>?_) (λq=>?_)⟩
 ·refine⟨_,rfl,l,_,_,_,rfl,rfl,SqL.of d,rfl,_,rfl,_,_,rfl,rfl,g,?_⟩
  refine⟨_,rfl,l,_,_,_,rfl,rfl,SqL.of d,rfl,_,rfl,_,_,rfl,rfl,⟨g,z⟩,_,rfl,l,_,_,0,rfl,rfl,d,rfl,_,rfl,?_⟩;exact fin _ _ (Z2 _ (by lia)) (Z8 _ g) ⟨a / m,b,c,zE,Int.ediv_nonneg r (by lia),D,C⟩ λx o e ne=>by rw[zJ ne];exact e
 ·refine⟨_,rfl,l,_,_,_,rfl,rfl,SqL.of d,rfl,_,_,rfl,rfl,_,rfl,l,_,_,2,rfl,rfl,d,rfl,?_⟩
  have n:L2.upd H l (.lst ([V.int a,V.int b,V.int c].set 2 (V.int (c+1)))) l=some (.lst [.int a,.int b,.int (c+1)]):=zE;have I:But l H (L2.upd H l (.lst ([V.int a,V.int b,V.int c].set 2 (V.int (c+1))))):=λx o e ne=>by rw[zJ ne];exact e
  show qr _ _ _ _ (L2.upd H l (.lst ([V.int a,V.int b,V.int c].set 2 (V.int (c+1)))));generalize L2.upd H l (.lst ([V.int a,V.int b,V.int c].set 2 (V.int (c+1))))=H1 at *;refine⟨_,rfl,l,_,_,_,rfl,rfl,SqL.of n,rfl,_,_,rfl,rfl,.inr ⟨by decide,by decide⟩,_,_,rfl,rfl,_,rfl,l,_,_,_,rfl,rfl,SqL.of n,rfl,_,_,rfl,rfl,_,_,rfl,rfl,(by show (0:Int)<2147483647;decide),_,rfl,l,_,_,1,rfl,rfl,n,rfl,?_⟩;have B:0<=(b*48271+12345+(c+1))%2147483647:=Z2 _ (by decide);have N:(b*48271+12345+(c+1))%2147483647<2147483647:=Z8 _ (by decide);generalize p:L2.upd H1 l (HO.lst ([V.int a,V.int b,V.int (c+1)].set 1 (V.int ((b*48271+12345+(c+1))%2147483647))))=H2;have j:H2 l=some (.lst [.int a,.int ((b*48271+12345+(c+1))%2147483647),.int (c+1)]):=by rw[<- p];exact zE
  refine⟨_,rfl,l,_,_,_,rfl,rfl,SqL.of j,rfl,_,rfl,l,_,_,_,rfl,rfl,SqL.of j,rfl,_,_,rfl,rfl,.inl ⟨by lia,by lia⟩,_,_,rfl,rfl,(by show (0:Int)<1999999973;decide),_,_,rfl,rfl,⟨by decide,by decide⟩,_,rfl,_,_,rfl,rfl,g,?_⟩;exact fin _ _ (Z2 _ (by lia)) (Z8 _ g) ⟨a,_,_,j,r,B,by lia⟩ λx o e ne=>by rw[<- p,zJ ne];exact I x o e ne
theorem scL:FnScope ["_law_script","_law_k","_law_cell","_law_digits"] ["_law_script","_law_k"] (zN kT):=by trivial
theorem iV {f:Addr}{fd:FuncData}(F:Fun K "_law_left" "_law_left" kT f fd) (G:Mgs mg):FnOk P w K mg base CX0 1 f fd ["_law_script","_law_k"] (sC K):=by
 refine F.ok scL (λn H Q E h=>?_) (λy A outer s H n Q E I h=>?_)
 ·obtain⟨a,ns,k,rfl,_⟩:=h
  rfl
 obtain⟨a,ns,k,rfl,e,v,C,B,q⟩:=h;refine⟨_,(@zF _ _ _ _ _ (@zZ _ _ 2 _ _ _ _ scL.nd rfl (.inl rfl) zD (by rfl) (by trivial)) (@zF _ _ _ _ _ (@yH _ _ _ _ _ _ _ _ (@zp _ _ _ _ _ _ _ _ rg (@zL _ _ _ _ _ _ _ _ _ zR (by rfl) G.len Jy (@zA _ _ _ _ _ (@qv _ 0 _ _ (by trivial)) zB (by rfl)) (by decide) (by decide) (by rfl) (by rfl)) zD (zt _)) (@zH _ _ _ (@zZ _ _ 2 _ _ _ _ scL.nd rfl (.inl rfl) (@zX _ _ _ _ _ _ _ zd (@qv _ 0 _ _ (by trivial)) (@zP _ _ _ _ _ _ _ _ xa (@qv _ 1 _ _ (by trivial)) (@zL _ _ _ _ _ _ _ _ _ zR (by rfl) G.len Jy (@zA _ _ _ _ _ (@qv _ 0 _ _ (by trivial)) zB (by rfl)) (by decide) (by decide) (by rfl) (by rfl))) (λ_ _=>rfl)) (by rfl) (by trivial))) zq) (@zF _ _ _ _ _ (@zZ _ _ 3 _ _ _ _ scL.nd rfl (.inl rfl) (@zP _ _ _ _ _ _ _ _ xZ (@zP _ _ _ _ _ _ _ _ xa (@zL _ _ _ _ _ _ _ _ _ qi (by rfl) G.abs (by rfl) (@zA _ _ _ _ _ (@qv _ 2 _ _ (by trivial)) zB (by rfl)) (by decide) (by decide) (by rfl) (by rfl)) (@zP _ _ _ _ _ _ _ _ sj zD zD)) (@zY _ _ _ _ _ _ _ _ _ wV (by rfl) G.int (by rfl) (@zA _ _ _ _ _ (@y8 _ _ _ _ _ _ _ _ gH (@zL _ _ _ _ _ _ _ _ _ qi (by rfl) G.abs (by rfl) (@zA _ _ _ _ _ (@qv _ 2 _ _ (by trivial)) zB (by rfl)) (by decide) (by decide) (by rfl) (by rfl)) (@zP _ _ _ _ _ _ _ _ sj zD zD) (zt _)) zB (by rfl)) (by decide) (by decide) (by rfl) (by rfl))) (by rfl) (by trivial)) (@zH _ _ _ (@zU _ _ _ _ (@zo _ _ _ _ (@zA _ _ _ _ _ (@qv _ 3 _ _ (by trivial)) (@zA _ _ _ _ _ (@zP _ _ _ _ _ _ _ _ xa (@zP _ _ _ _ _ _ _ _ xZ (@zP _ _ _ _ _ _ _ _ yI (@zP _ _ _ _ _ _ _ _ yI (@zP _ _ _ _ _ _ _ _ xa (@qv _ 2 _ _ (by trivial)) zD) (@zP _ _ _ _ _ _ _ _ xZ (@zP _ _ _ _ _ _ _ _ xZ zD (@qv _ 1 _ _ (by trivial))) (@qv _ 1 _ _ (by trivial)))) zD) zD) zD) (@zA _ _ _ _ _ zD zB (by rfl)) (by rfl)) (by rfl)))))))),?_⟩;have d:(ns.map V.int).length=ns.length:=Jc _;refine cT ?_;refine uY (λσ m=>m=H/\∃ x:Int,σ=[some (.ref a),some (.int k),some (.int x),none]) ?_ λD c _=>?_
 ·rintro σ m ⟨rfl,x,rfl⟩
  have o:=Z2 ((x%2305843009213693951+7919*k*k+11)*48271) (show (2147483647:Int)≠0 by decide);have J:=Z8 ((x%2305843009213693951+7919*k*k+11)*48271) (show (0:Int)<2147483647 by decide);have u:∀ b:Bool,(0:Int)<=(if b=true then (1:Int) else 0):=by decide
  have t:∀ b:Bool,-(2 ^ 64)<(if b=true then (1:Int) else 0)/\(if b=true then (1:Int) else 0)<2 ^ 64:=by decide
  refine⟨_,rfl,_,rfl,_,_,rfl,rfl,⟨by decide,by decide,by decide⟩,_,_,rfl,rfl,(by show (0:Int)<10 ^ 60;decide),?_⟩;refine⟨_,rfl,_,rfl,_,_,rfl,rfl,⟨by decide,by decide,by decide⟩,_,_,rfl,rfl,.inr ⟨_,rfl,_,_,rfl,rfl,.inr (t _),?_⟩⟩;refine⟨_,rfl,_,rfl,_,_,rfl,rfl,(by show (0:Int)<2305843009213693951;decide),_,rfl,_,_,rfl,rfl,.inl ⟨by decide,by decide⟩,_,rfl,_,_,rfl,rfl,.inr ⟨by lia,by lia⟩,_,_,rfl,rfl,_,_,rfl,rfl,_,_,rfl,rfl,.inr ⟨by decide,by decide⟩,_,_,rfl,rfl,(by show (0:Int)<2147483647;decide),(by show 3<=sizeLine;decide),λl g=>?_⟩;refine q l _ g (zC g _) ⟨_,_,_,zE,Int.mul_nonneg (Z2 _ (by decide)) (u _),o,by lia⟩
 refine⟨_,rfl,a,_,rfl,.inl e,_,_,rfl,rfl,_,rfl,ve (λz=>?_) (λz=>?_)⟩
 ·have np:0<ns.length:=by
   have:=Y3 z;rw[d]at this;lia
  refine⟨_,rfl,_,rfl,_,rfl,a,_,rfl,.inl e,_,_,rfl,rfl,by rw[d];lia,?_⟩;have r:=Z2 k (show ((ns.length:Nat):Int)≠0 by lia);have p:=Z8 k (show (0:Int)<(ns.length:Nat) by lia);rw[d];obtain⟨j,i⟩:=Int.eq_ofNat_of_zero_le r;rw[i]at p;exact⟨a,_,k%(ns.length:Nat),_,rfl,rfl,e,(by rw[i];exact x4 (by lia)),c _ _ ⟨rfl,_,rfl⟩⟩
 ·exact c _ _ ⟨rfl,0,rfl⟩
theorem de:FnScope ["_law_left_here","_law_row","_law_some_here","_law_found"] ["_law_left_here","_law_row"] (zN pH):=by trivial
theorem jM {f fK:Addr}{fd dK:FuncData}(F:Fun K "_law_mixed" "_law_mixed" pH f fd) (G:Mgs mg) (C:Use P w K mg base "_law_pick" ["_law_left_here","_law_many"] 1 yh fK dK):FnOk P w K mg base CX0 2 f fd ["_law_left_here","_law_row"] vh:=by
 refine F.ok de (λW H Q E h=>?_) (λad A outer s H W Q E T h=>?_)
 ·obtain⟨l,p,xs,rfl,_⟩:=h
  rfl
 obtain⟨l,p,xs,rfl,Y,xl,S,k⟩:=h;refine⟨_,(@zF _ _ _ _ _ (@sW _ _ 2 3 _ _ _ _ _ _ _ _ _ _ _ rfl de.nd rfl rfl (by decide) rfl rfl (@zA _ _ _ _ _ (@zY _ _ _ _ _ _ _ _ _ yP (by rfl) G.list (by rfl) (@zA _ _ _ _ _ (@qv _ 1 _ _ (by trivial)) zB (by rfl)) (by decide) (by decide) (by rfl) (by rfl)) (@zA _ _ _ _ _ (@zo _ _ _ _ zB) zB (by rfl)) (by rfl)) (by rfl) (by rfl)) (@zF _ _ _ _ _ (@rZ _ _ _ _ _ _ JN (@zp _ _ _ _ _ _ _ _ (pZ T.units0) (@qv _ 2 _ _ (by trivial)) (@zo _ _ _ _ zB) (zt _)) (@zH _ _ _ (@xU _ _ _ _ (@vC _ _ _ _ _ _ _ _ _ _ _ _ JX Yu Yv yq (@qv _ 3 _ _ (by trivial)) (@zA _ _ _ _ _ (@vC _ _ _ _ _ _ _ _ _ _ _ _ JX PySem.F.slot_list_pop PySem.F.type_list_pop jY (@qv _ 2 _ _ (by trivial)) (@zA _ _ _ _ _ (@zK _ _ _ _ _ _ _ _ _ _ _ _ _ _ _ _ C.ok T (by rfl) C.m C.kp C.b .nil zS (@zA _ _ _ _ _ (@qv _ 0 _ _ (by trivial)) (@zA _ _ _ _ _ (@zL _ _ _ _ _ _ _ _ _ zR (by rfl) G.len Jy (@zA _ _ _ _ _ (@qv _ 2 _ _ (by trivial)) zB (by rfl)) (by decide) (by decide) (by rfl) (by rfl)) zB (by rfl)) (by rfl)) (by decide) (by rfl) (by rfl)) zB (by rfl)) (by rfl) (by rfl) (by rfl) (by rfl) (by rfl)) zB (by rfl)) (by rfl) (by rfl) (by rfl) (by rfl) (by rfl)) (by rfl)))) (@zH _ _ _ (@zU _ _ _ _ (@zY _ _ _ _ _ _ _ _ _ zi (by rfl) G.tuple (by rfl) (@zA _ _ _ _ _ (@qv _ 3 _ _ (by trivial)) zB (by rfl)) (by decide) (by decide) (by rfl) (by rfl)))))),?_⟩;refine⟨_,rfl,p,_,rfl,.inl (SqL.of Y),λlo u=>?_⟩;have z:=zC u (.lst xs);have y:=S.ne u;refine⟨(by show 0<=sizeLine;decide),λlt d=>?_⟩;have N:=zC d (.lst []);have x:=(S.keep z).ne d;have not:lo≠lt:=zG zE d;have M:Frs l H lo:=λb o e _=>zG e u;have flt:Frs l H lt:=λb o e _=>zG (z _ _ e) d;refine⟨_,_,rfl,?_⟩
 refine⟨λm σ n=>σ=[some (.ref l),some (.ref p),some (.ref lo),some (.ref lt)]/\Pk3 n l/\But l H n/\∃ c g,n lo=some (.lst c)/\c.length=m/\n lt=some (.lst g)/\(g++c).Perm xs,
  ⟨_,rfl,(S.keep z).keep N,(But.of z).trans (But.of N),xs,[],by rw[zJ not];exact zE,rfl,zE,.refl _⟩,?_⟩
 rintro m σ n ⟨rfl,S3,B3,c,g,O,ul,X,pm⟩;refine⟨_,rfl,(by show 0<=sizeLine;decide),λe Z=>?_⟩;have v:=zC Z (.lst []);refine⟨lo,e,c,rfl,rfl,SqL.of (v _ _ O),SqL.of zE,_,rfl,?_⟩;have U:=S3.keep v;have V:But l H (L2.upd n e (.lst [])):=B3.trans (But.of v);have r:=v _ _ O;have q:=v _ _ X;generalize L2.upd n e (.lst [])=H4 at *;have ab:g.length+c.length=xs.length:=by rw[<- J9];exact pm.length_eq
 by_cases un:c=[]
 ·rw[show (!c.isEmpty)=false by rw[un];rfl]
  rw[un,Yn]at pm;refine zr ⟨_,rfl,lt,_,rfl,.inl ⟨SqL.of q,λt R=>k t g _ pm zE (U.keep (zC R _)) (V.trans (But.of (zC R _)))⟩⟩
 have up:0<c.length:=List.length_pos_iff.mpr un
 rw[show (!c.isEmpty)=true by cases c with
  | nil=>exact absurd rfl un
  | cons a b=>rfl]
 refine zz ⟨_,λaa H' hN=>⟨m-1,by lia,hN⟩,?_⟩;refine⟨_,rfl,.inl ⟨rfl,_,SqL.of q⟩,_,rfl,.inl ⟨rfl,_,SqL.of r⟩,_,rfl,_,rfl,lo,_,rfl,.inl (SqL.of r),l,_,rfl,by lia,by lia,U,λj H5 hk S5 D=>?_⟩;have B:j<c.length:=by lia
 have L:=D lo _ r y.symm;have J:=D lt _ q x.symm;refine⟨lo,_,_,j,c[j],rfl,rfl,L,by lia,by lia,(sk (uW (xs:=c) (i:=j) B)).1,Ja B,?_⟩;have I:L2.upd H5 lo (.lst (c.eraseIdx j)) lt=some (.lst g):=by rw[zJ not.symm];exact J
 refine⟨lt,_,_,rfl,rfl,I,by rw[Js];lia,rfl,(S5.upd y).upd x,((V.trans D).upd M).upd flt,c.eraseIdx j,g++[c[j]],by rw[zJ not];exact zE,by rw[List.length_eraseIdx,JE B];lia,zE,?_⟩;refine List.Perm.trans ?_ pm;rw[Ys];refine List.Perm.append_left g ?_;exact uc c j B
end
end K46
namespace L2
open PySem PySem.Spec PyProof.Rows
abbrev e2 (elt tg iter b a:Expr)(ifs:List Expr)(scope:Scope)(pos:Pos):Expr:=.ListComp elt [⟨tg,iter,[],0⟩,⟨b,a,ifs,0⟩] scope pos
theorem nY (elt tg iter b a:Expr)(ifs:List Expr)(scope:Scope)(pos:Pos)(it acc:Value)(env:Env) :
  compTurn (e2 elt tg iter b a ifs scope pos) 0 it acc env=(standAt iter.pos >>= λ_=>pyNext it >>= λr=>match r with
   | none=>pure (.done .next)
   | some v=>letOwnedTupleGo tg it v >>= λ_=>assign tg env v >>= λ_ =>
    (eval a env >>= λx=>standAt a.pos >>= λ_=>foldedSetIterable a env x >>= λx=>holding [x] (pyIter x) >>= λi1=>runOwn (.compStart (e2 elt tg iter b a ifs scope pos) 1 i1 acc env) env >>= λ_ =>
     again (.compLoop (e2 elt tg iter b a ifs scope pos) 0 it acc env))):=by rfl
theorem nX (elt tg iter b a:Expr)(scope:Scope)(pos:Pos)(it acc:Value)(env:Env) :
  compTurn (e2 elt tg iter b a [] scope pos) 1 it acc env=(standAt a.pos >>= λ_=>pyNext it >>= λr=>match r with
   | none=>pure (.done .next)
   | some v=>letOwnedTupleGo b it v >>= λ_=>assign b env v >>= λ_ =>
    ((eval elt env >>= λx=>call (.builtin "list.append") [acc,x] >>= λ_=>pure ()) >>= λ_ =>
     again (.compLoop (e2 elt tg iter b a [] scope pos) 1 it acc env))):=by rfl
theorem qk (elt tg iter b a c:Expr)(scope:Scope)(pos:Pos)(it acc:Value)(env:Env) :
  compTurn (e2 elt tg iter b a [c] scope pos) 1 it acc env=(standAt a.pos >>= λ_=>pyNext it >>= λr=>match r with
   | none=>pure (.done .next)
   | some v=>letOwnedTupleGo b it v >>= λ_=>assign b env v >>= λ_=>(forIn [c] true λc r=>if r=true then (isTrue c env (eval c env) >>= λok=>pure (ForInStep.yield ok)) else pure (ForInStep.yield r)) >>= λok =>
    if ok=true then
    ((eval elt env >>= λx=>call (.builtin "list.append") [acc,x] >>= λ_=>pure ()) >>= λ_ =>
     again (.compLoop (e2 elt tg iter b a [c] scope pos) 1 it acc env)) else again (.compLoop (e2 elt tg iter b a [c] scope pos) 1 it acc env)):=by rfl
section
variable {prog:Program}{w:World}{A:Around}{R:Result->Shared->Prop}{s:Shared}{elt tg iter tg1 iter1:Expr}{scope:Scope}{pos:Pos}{it acc:Value}{env:Env}
theorem qe {ifs:List Expr}(c:codeAny (model prog w) A (.compLoop (e2 elt tg iter tg1 iter1 ifs scope pos) 1 it acc env) R s)(h:wpAny (model prog w) A (pyIter it) (λi2 z=>codeAny (model prog w) A (.compLoop (e2 elt tg iter tg1 iter1 ifs scope pos) 1 i2 acc env) R z) NoX s) :
  codeAny (model prog w) A (.compStart (e2 elt tg iter tg1 iter1 ifs scope pos) 1 it acc env) R s:=by
 refine codeAny_of_tree ?_;show wpAny _ A ((compStart (e2 elt tg iter tg1 iter1 ifs scope pos) 1 it acc env).onRaise (λx=>do noteFrame x env;standAt theWindowsPlace)) _ _ s;refine wpAny_notedAt ?_;unfold compStart;refine(show wpAny _ _ (ask >>= _) _ _ s from J0 (wpAny_askSetting (wpAny_ite ?_)));split
 ·first
   | exact J0 (J7 (J7 ⟨rfl,c⟩))
   | exact J7 ⟨rfl,c⟩
 ·apply J0;refine YY ?_
  first
   | exact J0 (Yd (J0 (JC h (λb d a=>J7 ⟨rfl,a⟩) λ_ _ z=>z.elim)))
   | (show wpAny _ _ (standAt iter1.pos >>= _) _ _ s;exact J0 (Yd (J0 (JC h (λb d a=>J7 ⟨rfl,a⟩) λ_ _ z=>z.elim))))
theorem nV {o:Option Expr}(J:Nat->Shared->Prop)(turn:∀ n s,J n s->Go (model prog w) A tg1 elt o it acc env R (λz=>∃ m,m<n/\J m z) s)(n:Nat)(h:J n s) :
  codeAny (model prog w) A (.compLoop (.ListComp elt [⟨tg,iter,[],0⟩,⟨tg1,iter1,o.toList,0⟩] scope pos) 1 it acc env) R s:=by
 cases o with
 | none =>
  refine codeAny_loop rfl J (λn s k=>?_) n h;show wpAny _ A ((compTurn (e2 elt tg iter tg1 iter1 [] scope pos) 1 it acc env).onRaise (λx=>do noteFrame x env;theTreesLotGoes x)) _ _ s;refine wpAny_noted ?_;rw[nX];refine J0 (Yd (J0 (JC (turn n s k) (λr a i=>?_) λ_ _ z=>z.elim)))
  cases r with
  | none=>exact J7 i
  | some v =>
   refine J0 (JC i (λ_ b q=>?_) λ_ _ z=>z.elim);refine J0 (JC q (λ_ c p=>?_) λ_ _ z=>z.elim);have g:wpAny (model prog w) A (eval elt env) (λx e=>wpAny (model prog w) A (call (.builtin "list.append") [acc,x]) (λ_ f=>∃ m,m<n/\J m f) NoX e) NoX c:=p
   exact J0 (J0 (JC g (λx d j=>J0 (JC j (λ_ e l=>J7 (J7 ⟨rfl,l⟩)) λ_ _ z=>z.elim)) λ_ _ z=>z.elim))
 | some t =>
  refine codeAny_loop rfl J (λn s k=>?_) n h;show wpAny _ A ((compTurn (e2 elt tg iter tg1 iter1 [t] scope pos) 1 it acc env).onRaise (λx=>do noteFrame x env;theTreesLotGoes x)) _ _ s;refine wpAny_noted ?_;rw[qk];refine J0 (Yd (J0 (JC (turn n s k) (λr a i=>?_) λ_ _ z=>z.elim)))
  cases r with
  | none=>exact J7 i
  | some v =>
   refine J0 (JC i (λ_ b q=>?_) λ_ _ z=>z.elim);refine J0 (JC q (λ_ c p=>?_) λ_ _ z=>z.elim);have g:wpAny (model prog w) A (isTrue t env (eval t env)) (λyes d=>if yes=true then wpAny (model prog w) A (eval elt env) (λx e=>wpAny (model prog w) A (call (.builtin "list.append") [acc,x]) (λ_ f=>∃ m,m<n/\J m f) NoX e) NoX d else ∃ m,m<n/\J m d) NoX c:=p;refine J0 (wpAny_tests_one (JC g (λyes d j=>?_) λ_ _ z=>z.elim))
   cases yes with
   | false=>exact J7 ⟨rfl,j⟩
   | true=>exact J0 (J0 (JC j (λx e l=>J0 (JC l (λ_ f u=>J7 (J7 ⟨rfl,u⟩)) λ_ _ z=>z.elim)) λ_ _ z=>z.elim))
theorem nW {ifs:List Expr}(J:Nat->Shared->Prop)(turn:∀ n s,J n s->wpAny (model prog w) A (pyNext it) (λr a=>match r with
   | none=>R (.ok .next) a
   | some v=>wpAny (model prog w) A (letOwnedTupleGo tg it v) (λ_ b=>wpAny (model prog w) A (assign tg env v) (λ_ c=>wpAny (model prog w) A (eval iter1 env) (λx d=>wpAny (model prog w) A (pyIter x) (λi1 e =>
     codeAny (model prog w) A (.compStart (e2 elt tg iter tg1 iter1 ifs scope pos) 1 i1 acc env) (λr f=>match r with|.ok _=>∃ m,m<n/\J m f|.error _=>False) e) NoX d) NoX c) NoX b) NoX a) NoX s)(n:Nat)(h:J n s)(j:∀ x,foldedSetIterable iter1 env x=pure x) :
  codeAny (model prog w) A (.compLoop (e2 elt tg iter tg1 iter1 ifs scope pos) 0 it acc env) R s:=by
 refine codeAny_loop rfl J (λn s k=>?_) n h;show wpAny _ A ((compTurn (e2 elt tg iter tg1 iter1 ifs scope pos) 0 it acc env).onRaise (λx=>do noteFrame x env;theTreesLotGoes x)) _ _ s;refine wpAny_noted ?_;rw[nY];refine J0 (Yd (J0 (JC (turn n s k) (λr a i=>?_) λ_ _ z=>z.elim)))
 cases r with
 | none=>exact J7 i
 | some v =>
  refine J0 (JC i (λ_ b q=>?_) λ_ _ z=>z.elim);refine J0 (JC q (λ_ c p=>?_) λ_ _ z=>z.elim);refine J0 (JC p (λx d o=>?_) λ_ _ z=>z.elim);refine J0 (Yd (J0 (wpAny_of_eq (j x) (J0 (Y4 (JC o (λi1 e l=>?_) λ_ _ z=>z.elim))))));refine J0 (wpAny_runOwn (YJ l (λr f g=>?_)))
  cases r with
  | ok t=>exact J7 ⟨rfl,g⟩
  | error x=>exact g.elim
end
def LCW1 (J:It)(g:TG)(tt:TT)(k:TE)(l:Addr)(Q:List V->St->Hp->Prop)(W:Nat->Nat->List V->St->Hp->Prop):Prop :=
 ∀ i m acc c d,W i m acc c d->d l=some (.lst acc) /\
  ((J.stop i d/\Q acc c d)\/(J.go i d/\∀ x j,J.yld i d x j->g x c j λa n=>tt a n λb h =>
   if b=true then k a h λy f=>f l=some (.lst acc)/\acc.length<sizeLine/\∃ e,e<m/\W (i+1) e (acc++[y]) a (upd f l (.lst (acc++[y])))
   else ∃ e,e<m/\W (i+1) e acc a h))
def dH (cap:List (Option Nat))(n:TI)(g:TG)(d:TI)(q:TG)(tt:TT)(o:TE):TE:=λσ H Q=>n σ H λJ j=>∀ l,j l=none ->
 ∃ W:Nat->Nat->List V->St->Hp->Prop,(∃ m,W 0 m [] (sv cap σ) (upd j l (.lst []))) /\
  ∀ i m acc c a,W i m acc c a->a l=some (.lst acc)/\((J.stop i a/\Q (.ref l) a)\/(J.go i a/\∀ x h,J.yld i a x h->g x c h λb t=>d b t λr s =>
   ∃ f:Nat->Nat->List V->St->Hp->Prop,(∃ p,f 0 p acc b s)/\LCW1 r q tt o l (λac k G=>∃ e,e<m/\W (i+1) e ac k G) f))
theorem jd {X:Cx}{elt tg iter P B:Expr}{o:Option Expr}{scope:Scope}{pos aq:Pos}{wi aw:TI}{g g1:TG}{tt:TT}{te:TE}{N':List Str}{cap:List (Option Nat)}{use:Option (Value->Sem Unit)}{Q0:Value->Shared->Prop}(hc:X.calm=true)(hi:PI X tg iter wi)(ck:CapOk X.N N' X.env.scope scope cap)(hg:∀ C s₀ H₀ fp pins,PG (yJ X N' scope C s₀ H₀ fp pins) tg g)(aN:∀ C s₀ H₀ fp pins,PI (yJ X N' scope C s₀ H₀ fp pins) P B aw)(aO:∀ C s₀ H₀ fp pins,PG (yJ X N' scope C s₀ H₀ fp pins) P g1)(ht:∀ C s₀ H₀ fp pins,PTo (yJ X N' scope C s₀ H₀ fp pins) o tt)(he:∀ C s₀ H₀ fp pins,PE (yJ X N' scope C s₀ H₀ fp pins) elt te)(hs:∀ x,foldedSetIterable iter X.env x=pure x)(aK:∀ C x,foldedSetIterable B (compEnvC scope (wX X.env.cells scope.names []) C X.env) x=pure x){pins:List (Addr × Obj)}{s:Shared}{σ:St}{H:Hp}{Q:VK}(I:Inv X pins σ H s)(h:dH cap wi g aw g1 tt te σ H Q)(fin:∀ (l C:Addr) (H4:Hp) (s5:Shared) (m:Str->Option Value),Inv X pins σ H4 s5->Q (.ref l) H4->s5.heap.Ns C m->FpOk X pins H4 C->compPost (model X.prog X.w) X.A X.xe use Q0 (.ref l) C (.ok .next) s5) :
  wpAny (model X.prog X.w) X.A (comprehension (.ListComp elt [⟨tg,iter,[],0⟩,⟨P,B,o.toList,0⟩] scope pos) scope X.env aq (newList []) false (eval iter X.env) use) Q0 X.xe s:=by
 have N:∀ y∈scope.names,y.2=.free->∃ c,X.env.cells.lookup y.1=some c:=λy hy hf=>I.ok.has y.1 (ck.free y hy hf);refine wpAny_comprehension_free (use:=use) rfl hs (wn N) ck.kind ck.names (thn (hi pins s σ H _ I h) λv s1 h1=>thn h1 λa7 F h2=>?_);obtain⟨it,fp,tn,J,H2,e,I2,T,aA,f2,body⟩:=h2;subst e;have au:H2 F.heap.objs.size=none:=I2.hok.fresh (Jb _);obtain⟨W,⟨m0,w0⟩,turn⟩:=body F.heap.objs.size au;have A:Inv X pins σ (upd H2 F.heap.objs.size (.lst [])) { F with heap:=F.heap.push { cls:=.type "list",data:=.seq ([]:List Value).toArray },toks:=F.toks }:=I2.lnew (its:=[]) (t':=F.toks) .nil (JL _);refine JF (wpAny_newFunctionEnv ck.nocell (by intro y hy;simp at hy) (λE M L=>?_) ck.kind);dsimp only at M L ⊢;generalize hl:F.heap.objs.size=l at *;generalize hP:F.heap.push { cls:=.type "list",dict:=none,data:=.seq ([]:List Value).toArray }=P2 at *;generalize aS:upd H2 l (.lst [])=H3 at *;have old:∀ b o,P2.get? b=some o->E.get? b=some o:=λb o e=>L.extBut b o (Jt (Jg e)) (J2 _ e);have ar:∀ b o,F.heap.get? b=some o->P2.get? b=some o:=λb o e=>hP ▸ J2 _ e
 have aF:∀ b∈fp,b<l:=λb a=>by
  obtain⟨o,e,_⟩:=T.obj _ _ aA b a;rw[<- hl];exact Jg e
 have aU:∀ b∈fp,H3 b=none:=λb a=>by
  rw[<- aS,zJ (Jt (aF b a))];exact(f2 b a).1
 have aR:P2.objs.size=l+1:=by rw[<- hP,Ym,hl]
 have D:∀ x c,(wX X.env.cells scope.names []).lookup x=some c->X.env.cells.lookup x=some c:=λx c e=>wM _ _ x c N (λ_ _ z=>by simp at z) e;generalize aC:({ F with heap:=P2,toks:=F.toks }:Shared)=s3 at *;have w:s3.heap=P2:=by rw[<- aC]
 let Y:=yJ X N' scope P2.objs.size s3 H3 fp pins
 have K:Y.Ok:=by
  refine⟨A.ok.mod,ck.kind,A.ok.glob,A.ok.blt,by show s3.heap.objs.size<=P2.objs.size;rw[w];exact Jb _,λx y c e1 e2=>A.ok.inj x y c (D x c e1) (D y c e2),λx hx=>?_,λx c hx=>absurd (show false=true from hx) Jf,A.ok.hd,A.ok.frames,.inl rfl,λb a=>⟨?_,λx c e=>?_⟩,A.bs,
   Jz A.ok.bsz A.sz,λb o e a=>?_,λb a hz=>?_,A.stack,A.stkFree⟩
  ·have aJ:scope.names.lookup x=some .free:=by
    rcases hx with hx|hx
    ·rcases yi hx with z|z
     ·exact absurd rfl (ck.nocell _ (xx z))
     ·exact z.2
    ·rcases yi hx with z|z
     ·exact z
     ·exact z.2
   exact xA _ _ x aJ
  ·exact Jt (by show b<P2.objs.size;rw[aR];exact YE (aF b a))
  ·exact(f2 b a).2.2.2.2.1 x c (D x c e)
  ·rcases (f2 b a).2.2.2.1 with z|z
   ·exact A.ok.noex b o e z
   ·exact absurd (Jx (Jg e) (Jz A.ok.bsz z)) (Yc _)
  ·rcases Ji.mp (A.stkSub b hz) with z|z
   ·exact(f2 b a).2.1 z
   ·exact(f2 b a).2.2.1 z
 have aQ:Inv Y [] (sv cap σ) H3 { F with heap:=E,toks:=F.toks }:=by
  refine⟨K,by show F.os=s3.os;rw[<- aC],I2.bare,by show Un _ _ _ _ s3.heap E;rw[w];exact Un.kept old,⟨_,M,λj x v e1 e2 e3=>?_⟩,λx c e=>?_,?_,λx c e=>A.freeC x c (D x c e),λp hp=>?_,λb o e=>?_,?_⟩
  ·have aX:N'[j]?=some x:=e1
   unfold sv at e2;rw[JG]at e2
   cases ec:cap[j]? with
   | none=>rw[ec]at e2;cases e2
   | some oc =>
    rw[ec]at e2
    cases oc with
    | none=>cases e2
    | some i =>
     have aV:σ[i]?=some (some v):=by
      cases ei:σ[i]? with
      | none=>simp[ei]at e2
      | some v' =>
       simp[ei]at e2;rw[e2]
     have hz:(x,some i)∈N'.zip cap:=by
      refine Jq (i:=j) ?_;rw[Za];exact⟨aX,ec⟩
     obtain⟨hN,hf,hk⟩:=ck.cap _ hz i rfl;obtain⟨m,hn,aL⟩:=A.loc;obtain⟨u,r,lk⟩:=aL i x v hN aV (by rcases hk with z|z;exact .inr (.inl z);exact .inr (.inr z));refine⟨u,r,.inr ⟨?_,?_⟩⟩
     ·exact xr hf
     ·rcases lk with ⟨z,_⟩|⟨_,c,aP,ae⟩
      ·have z':X.env.scope.names.lookup x=some .local:=z
       rcases hk with q|q
       ·rw[q]at z';cases z'
       ·rw[q]at z';cases z'
      ·obtain⟨c',aD⟩:=xA (cells:=X.env.cells) scope.names [] x hf
       have:=D x c' aD;rw[aP]at this;cases this;obtain⟨ob,e,d⟩:=ae;rw[w]at e;exact⟨c,aD,ob,old c ob e,d⟩
  ·obtain⟨v,ob,e',d⟩:=A.cell x c (D x c e)
   rw[w]at e';exact⟨v,ob,old c ob e',d⟩
  ·refine A.hok.fresh ?_
   rw[w];exact Jb _
  ·have ao:p∈X.pn++pins:=(Jr.mp hp).elim (λz=>z) (λz=>nomatch z)
   obtain⟨e,n,ne,nf,d⟩:=A.pin p ao;rw[w]at e;refine⟨old _ _ e,n,Jt (Jg e),λz=>?_,d⟩;rcases Ji.mp (A.stkSub _ z) with q|q
   ·exact ne q
   ·exact nf q
  ·have:=A.hok.kept (h':=E) (λb u q=>old b u (by rw[<- w];exact q))
   exact this b o e
  ·show (cap.map _).length=N'.length
   rw[Jc,ck.len]
 have S:∀ {t:Hp},(∀ b∈fp,t b=none)->∀ b∈fp,FpOk Y [] t b:=λ{t} hn b a=>by
  refine⟨hn b a,(K.exf b a).1,K.exfs b a,.inl a,(K.exf b a).2,λp hp=>?_⟩;have ao:p∈X.pn++pins:=(Jr.mp hp).elim (λz=>z) (λz=>nomatch z);exact(f2 b a).2.2.2.2.2 p ao
 have aB:tn 0 E:=T.keep 0 _ _ aA λb a o e=>old b o (ar b o e)
 have loop:codeAny (model X.prog X.w) X.A (.compLoop (.ListComp elt [⟨tg,iter,[],0⟩,⟨P,B,o.toList,0⟩] scope pos) 0 (.ref it) (.ref l) Y.env) (compPost (model X.prog X.w) X.A X.xe use Q0 (.ref l) P2.objs.size) { F with heap:=E,toks:=F.toks }:=by
  refine nW (λn s'=>∃ i acc f t,Inv Y [] f t s'/\tn i s'.heap/\(∀ b∈fp,t b=none)/\W i n acc f t) ?_ m0 ⟨0,[],_,H3,aQ,aB,aU,w0⟩ (aK _);rintro n s4 ⟨i,acc,ai,H4,I4,az,aE,w4⟩;obtain⟨a4,q4⟩:=turn i n acc ai H4 w4;rcases q4 with ⟨stop,qn⟩|⟨go,step⟩
  ·refine thn (T.done Y rfl rfl rfl hc i [] s4 ai H4 Y.xe I4 (S aE) az stop) λr s5 ⟨hr,I5⟩=>?_
   subst hr;obtain⟨m,hn,_⟩:=id I5.loc;have un:Un (frs X.stack) fp H3 H4 s3.heap s5.heap:=I5.base;have aG:s3.heap.objs.size<=P2.objs.size:=by rw[w];exact Jb _
   have IX:Inv X pins σ H4 s5:=A.call' (ch:=fp) I5.os un I5.hok I5.bare λb a=>⟨(f2 b a).2.2.2.1,(f2 b a).2.1,(f2 b a).2.2.2.2.1,(f2 b a).2.2.2.2.2⟩;exact fin l P2.objs.size H4 s5 m IX qn hn (A.fpOk aG I5.free)
  ·refine thn (T.item Y rfl rfl rfl hc i [] s4 ai H4 Y.xe I4 (S aE) az go) λr s5 ⟨u,hr,h5⟩=>?_
   subst hr;refine thn h5 λ_ s6 ⟨x,H6,I6,r6,y6,ak,aT⟩=>?_;have a0:=I6.pinned (S aT) (T.obj _ _ ak);refine thn (hg _ _ _ _ _ _ s6 ai H6 x u _ a0 r6 (step x H6 y6)) λ_ s7 ⟨av,H7,I7,q7⟩=>?_
   have again:∀ {ah:St}{H9:Hp}{s9:Shared}{U:List V},Inv Y ([]++xu fp s6.heap) ah H9 s9->(∃ m',m'<n/\W (i+1) m' U ah H9)->∃ m,m<n/\∃ i acc f t,Inv Y [] f t s9/\tn i s9.heap/\(∀ b∈fp,t b=none)/\W i m acc f t:=λ{ah H9 s9 U} I9 ⟨m',hm,w9⟩=>by
    refine⟨m',hm,i+1,U,ah,H9,I9.unpinned,T.keep _ _ _ ak λb a o e=>(I9.pin (b,o) (Jp _ (Jp _ (yR a e)))).1,λb a=>?_,w9⟩;obtain⟨o,e,d⟩:=T.obj _ _ ak b a;exact(I9.pin (b,o) (Jp _ (Jp _ (yR a e)))).2.1
   generalize ([]++xu fp s6.heap:List (Addr × Obj))=pz at again I7;refine thn (aN _ _ _ _ _ _ s7 av H7 _ I7 q7) λv1 s8 h8=>thn h8 λa3 s9 h9=>?_;obtain⟨aH,R,ax,J1,H9,e1,I9,T1,ay,f9,W1,⟨m1,w1⟩,aa⟩:=h9;subst e1;have G:∀ {t:Hp},(∀ b∈R,t b=none)->∀ b∈R,FpOk Y pz t b:=λhn b a=>⟨hn b a,(f9 b a).2⟩
   have Z:codeAny (model X.prog X.w) X.A (.compLoop (.ListComp elt [⟨tg,iter,[],0⟩,⟨P,B,o.toList,0⟩] scope pos) 1 (.ref aH) (.ref l) Y.env) (λr z=>match r with|.ok _=>∃ m,m<n/\∃ i acc f t,Inv Y [] f t z/\tn i z.heap/\(∀ b∈fp,t b=none)/\W i m acc f t|.error _=>False) s9:=by
    refine nV (λn s'=>∃ i acc f t,Inv Y pz f t s'/\ax i s'.heap/\(∀ b∈R,t b=none)/\W1 i n acc f t) ?_ m1 ⟨0,acc,av,H9,I9,ay,λb a=>(f9 b a).1,w1⟩;rintro k t4 ⟨j,ac,ag,G4,K4,u4,v4,z4⟩;obtain⟨a5,p4⟩:=aa j k ac ag G4 z4;rcases p4 with ⟨ab,pn⟩|⟨go1,ad⟩
    ·refine thn (T1.done Y rfl rfl rfl hc j pz t4 ag G4 Y.xe K4 (G v4) u4 ab) λr t5 ⟨hr,K5⟩=>?_
     subst hr;exact again K5 pn
    ·refine thn (T1.item Y rfl rfl rfl hc j pz t4 ag G4 Y.xe K4 (G v4) u4 go1) λr t5 ⟨u,hr,h5⟩=>?_
     subst hr;refine thn h5 λ_ t6 ⟨y,G6,K6,e6,d6,u6,v6⟩=>?_;have aY:=K6.pinned (G v6) (T1.obj _ _ u6);refine thn (aO _ _ _ _ _ _ t6 ag G6 y u _ aY e6 (ad y G6 d6)) λ_ t7 ⟨aj,G7,K7,p7⟩=>?_;refine rL (ht _ _ _ _ _ _ t7 aj G7 _ K7 p7) λb t8 ⟨G8,K8,p8⟩=>?_
     have O:∀ {af:St}{G9:Hp}{t9:Shared}{ap:List V},Inv Y (pz++xu R t6.heap) af G9 t9->(∃ m',m'<k/\W1 (j+1) m' ap af G9)->∃ m,m<k/\∃ i acc f t,Inv Y pz f t t9/\ax i t9.heap/\(∀ b∈R,t b=none)/\W1 i m acc f t:=λ{af G9 t9 ap} K9 ⟨m',hm,z9⟩=>by
      refine⟨m',hm,j+1,ap,af,G9,K9.unpinned,T1.keep _ _ _ u6 λb a o e=>(K9.pin (b,o) (Jp _ (Jp _ (yR a e)))).1,λb a=>?_,z9⟩;obtain⟨o,e,d⟩:=T1.obj _ _ u6 b a;exact(K9.pin (b,o) (Jp _ (Jp _ (yR a e)))).2.1
     cases b with
     | false =>
      rw[Jv Jf]at p8 ⊢
      exact O K8 p8
     | true =>
      rw[JE rfl]at p8 ⊢;refine thn (he _ _ _ _ _ _ t8 aj G8 _ K8 p8) λyv t9 ⟨yy,G9,K9,e9,aM,aI,p9⟩=>?_;refine thn (yq (X:=Y) _ t9 aj G9 (.ref l) [yy] (.ref l) [yv] (λ_ t=>t=upd G9 l (.lst (ac++[yy]))) K9 rfl (.cons e9 .nil) ⟨l,ac,yy,rfl,rfl,aM,aI,rfl⟩) λ_ a6 ⟨_,a8,aZ,_,aW⟩=>?_;subst aW;exact O aZ p9
   exact qe Z (T1.self X.A 0 _ _ _ ay Z)
 exact codeAny_compStart_list loop (T.self X.A 0 _ _ _ aB loop)
theorem gw {X:Cx}{elt tg iter b a:Expr}{o:Option Expr}{scope:Scope}{pos:Pos}{j c:TI}{g n:TG}{tt:TT}{k:TE}{N':List Str}{cap:List (Option Nat)}(y:X.calm=true)(hi:PI X tg iter j)(z:CapOk X.N N' X.env.scope scope cap)(v:∀ C s₀ H₀ fp pins,PG (yJ X N' scope C s₀ H₀ fp pins) tg g)(e:∀ C s₀ H₀ fp pins,PI (yJ X N' scope C s₀ H₀ fp pins) b a c)(i:∀ C s₀ H₀ fp pins,PG (yJ X N' scope C s₀ H₀ fp pins) b n)(r:∀ C s₀ H₀ fp pins,PTo (yJ X N' scope C s₀ H₀ fp pins) o tt)(w:∀ C s₀ H₀ fp pins,PE (yJ X N' scope C s₀ H₀ fp pins) elt k)(t:∀ x,foldedSetIterable iter X.env x=pure x:=by intro _;rfl)(d:∀ C x,foldedSetIterable a (compEnvC scope (wX X.env.cells scope.names []) C X.env) x=pure x:=by intro _ _;rfl) :
  PE X (.ListComp elt [⟨tg,iter,[],0⟩,⟨b,a,o.toList,0⟩] scope pos) (dH cap j g c n tt k):=by
 intro pins s σ H Q I h;rw[eval_ListComp];exact jd (use:=none) y hi z v e i r w t d I h λl C B D m A q u f=>⟨m,u,λE p=>⟨.ref l,B,A.gone f p,rfl,q⟩⟩
end L2
namespace L2
open PySem PySem.Spec PyProof.Rows Own
def AnyT (K:PySem.W.Frag)(H:Hp)(x:V):Prop:=∃ T,TyOf K H x T/\∃ t:String,T=.type t
def tu:V->Bool
 | .int _=>true
 | _=>false
def xT (b:Int):V->Bool
 | .int i=>decide (0<=i) && decide (i<b)
 | _=>false
def yr (b:Int):V->Bool
 | .int i=>decide (b<=i)
 | _=>false
def zc (H:Hp):V->Option (List V)
 | .ref a=>match H a with
  | some (.tup xs)=>some xs
  | _=>none
 | _=>none
def wD (H:Hp)(m:Int)(x:V):Bool:=match zc H x with
 | some a=>decide ((a.length:Int)=m)
 | none=>false
theorem yU {H:Hp}{a:Addr}{xs:List V}(h:H a=some (.tup xs)):zc H (.ref a)=some xs:=by
 show (match H a with
  | some (.tup xs)=>some xs
  | _=>none)=_
 rw[h]
theorem zw {H:Hp}{x:V}{xs:List V}(h:zc H x=some xs):∃ a,x=.ref a/\H a=some (.tup xs):=by
 cases x with
 | ref a =>
  refine⟨a,rfl,?_⟩
  cases z:H a with
  | none=>simp[zc,z]at h
  | some o=>cases o<;>simp[zc,z]at h;rw[h]
 | _=>cases h
theorem vo (i j:Int):decide (V.int i=V.int j)=decide (i=j):=by
 by_cases e:i=j
 ·rw[Jw e,Jw (JH V.int e)]
 ·rw[Jj e,Jj (λz=>e (V.int.inj z))]
theorem AnyT.same {K:PySem.W.Frag}{H H':Hp}{x:V}(s:∀ b o,H b=some o->H' b=some o)(h:AnyT K H x):AnyT K H' x:=by
 obtain⟨T,h,t,a⟩:=h
 cases h with
 | non=>exact⟨_,.non,_,rfl⟩
 | bl b=>exact⟨_,.bl b,_,rfl⟩
 | int i=>exact⟨_,.int i,_,rfl⟩
 | str x=>exact⟨_,.str x,_,rfl⟩
 | flt x=>exact⟨_,.flt x,_,rfl⟩
 | lst e=>exact⟨_,.lst (s _ _ e),_,rfl⟩
 | frz e=>exact⟨_,.frz (s _ _ e),_,rfl⟩
 | tup e=>exact⟨_,.tup (s _ _ e),_,rfl⟩
 | dK e=>exact⟨_,.dK (s _ _ e),_,rfl⟩
 | dT e=>exact⟨_,.dT (s _ _ e),_,rfl⟩
 | ins e _ _ _ _ _=>cases a
structure Isi (K:PySem.W.Frag) (H:Hp) (x:V) (t:Value):Prop where
 ty:TyOf K H x t
 int:PySem.W.kitOne K t (.type "int")=some (match x with|.int _=>true|.bl _=>true|_=>false)
 bool:PySem.W.kitOne K t (.type "bool")=some (match x with|.bl _=>true|_=>false)
 str:PySem.W.kitOne K t (.type "str")=some (match x with|.str _=>true|_=>false)
 tup:PySem.W.kitOne K t (.type "tuple")=some (zc H x).isSome
theorem eB {K:PySem.W.Frag}{H:Hp}{x:V}{T:Value}(h:TyOf K H x T)(a:∃ t,T=.type t):Isi K H x T:=by
 cases h with
 | ins e _ _ _ _ _=>obtain⟨t,a⟩:=a;cases a
 | lst e=>exact⟨.lst e,rfl,rfl,rfl,by simp only[zc,e];rfl⟩
 | frz e=>exact⟨.frz e,rfl,rfl,rfl,by simp only[zc,e];rfl⟩
 | tup e=>exact⟨.tup e,rfl,rfl,rfl,by simp only[zc,e];rfl⟩
 | dK e=>exact⟨.dK e,rfl,rfl,rfl,by simp only[zc,e];rfl⟩
 | dT e=>exact⟨.dT e,rfl,rfl,rfl,by simp only[zc,e];rfl⟩
 | non=>exact⟨.non,rfl,rfl,rfl,rfl⟩
 | bl b=>exact⟨.bl b,rfl,rfl,rfl,rfl⟩
 | int i=>exact⟨.int i,rfl,rfl,rfl,rfl⟩
 | str x=>exact⟨.str x,rfl,rfl,rfl,rfl⟩
 | flt x=>exact⟨.flt x,rfl,rfl,rfl,rfl⟩
theorem AnyT.isi {K:PySem.W.Frag}{H:Hp}{x:V}(h:AnyT K H x):∃ t,Isi K H x t :=
 let ⟨T,h,a⟩:=h
 ⟨T,eB h a⟩
theorem jw {P:Program}{w:World}{H:Hp}(h:Heap)(a:sysModules<h.objs.size):ObjOk P w H (h.push { cls:=.type "dict",data:=.dict #[] }) h.objs.size (.dK []) :=
 ⟨JL _,Yw.mpr (Ne.symm (Jt a)),[],.nil,Heap.DictOf.new h⟩
def gQ:TE:=λ_ H Q=>∀ p,H p=none->Q (.ref p) (upd H p (.dK []))
section
variable {X:Cx}{pos:Pos}
theorem Inv.big {pins:List (Addr × Obj)}{σ:St}{H:Hp}{s:Shared}(I:Inv X pins σ H s):sysModules<s.heap.objs.size:=by
 have h:mainGlobals<s.heap.objs.size:=(I.mod.glob.keeps I.bk).lt;exact Nat.lt_trans (by decide) h
theorem jC:PE X (.Dict [] [] pos) gQ:=λpins s σ H Q I h =>
 wpAny_Dict_empty ⟨.ref s.heap.objs.size,_,I.laid (a:=s.heap.objs.size) (o:=.dK []) (t':=s.toks) (λ_ _ q=>J2 _ q) (Jb _) (jw s.heap I.big),rfl,h _ (I.hok.fresh (Jb _))⟩
end
end L2
namespace Bn
open PySem L2 Own
structure Good (K:PySem.W.Frag) (D:Addr->Prop) (H:Hp) (x:V):Prop where
 any:AnyT K H x
 ne:∀ a,x=.ref a->D a
def Flat:V->Prop
 | .ref _=>False
 | .ty _=>False
 | .byt _=>False
 | _=>True
theorem Good.flat {K:PySem.W.Frag}{D:Addr->Prop}{H:Hp}:∀ {x:V},Flat x->Good K D H x
 | .non,_=>⟨⟨_,.non,_,rfl⟩,λ_ z=>by cases z⟩
 | .bl b,_=>⟨⟨_,.bl b,_,rfl⟩,λ_ z=>by cases z⟩
 | .int i,_=>⟨⟨_,.int i,_,rfl⟩,λ_ z=>by cases z⟩
 | .str s,_=>⟨⟨_,.str s,_,rfl⟩,λ_ z=>by cases z⟩
 | .flt s,_=>⟨⟨_,.flt s,_,rfl⟩,λ_ z=>by cases z⟩
end Bn
namespace Bn
open PySem L2 Own
def yG (back:Bool)(st:List Int × Nat)(k:Nat)(f:Nat × Nat):List Int × Nat :=
 if st.2=f.1\/st.2=f.2 then (st.1.set k (1-st.1.getD k 0),if (if back then 1-st.1.getD k 0 else st.1.getD k 0)=0 then f.1 else f.2) else st
def yS (back:Bool)(fs:List (Nat × Nat))(ts:List Int)(lane:Nat):Nat->List Int × Nat
 | 0=>(ts,lane)
 | i+1=>yG back (yS back fs ts lane i) i (fs.getD i (0,0))
def yZ (xs:List Int)(i:Nat)(d:Int):List Int:=xs.set i (xs.getD i 0+d)
theorem yn (xs:List Int)(i:Nat)(d:Int):(yZ xs i d).length=xs.length:=by simp[yZ]
theorem kK {ts:List Int}{k:Nat}(h:∀ t∈ts,t=0\/t=1):∀ t∈ts.set k (1-ts.getD k 0),t=0\/t=1:=λt a=>by
 rcases List.mem_or_eq_of_mem_set a with z|z
 ·exact h t z
 ·by_cases b:k<ts.length
  ·have:=h _ (L2.wJ b);lia
  ·rw[List.set_eq_of_length_le (by lia)]at a;exact h t a
theorem xp {back:Bool}{fs:List (Nat × Nat)}{ts:List Int}{lane:Nat}(h:∀ t∈ts,t=0\/t=1):∀ i,∀ t∈(yS back fs ts lane i).1,t=0\/t=1
 | 0=>h
 | i+1=>by
  have ih:=xp (back:=back) (fs:=fs) (lane:=lane) h i;show ∀ t∈(yG back (yS back fs ts lane i) i (fs.getD i (0,0))).1,t=0\/t=1;unfold yG;split
  ·exact kK ih
  ·exact ih
theorem wP {back:Bool}{fs:List (Nat × Nat)}{ts:List Int}{lane:Nat}:∀ i,(yS back fs ts lane i).1.length=ts.length
 | 0=>rfl
 | i+1=>by
  have ih:=wP (back:=back) (fs:=fs) (ts:=ts) (lane:=lane) i;show (yG back (yS back fs ts lane i) i (fs.getD i (0,0))).1.length=_;unfold yG;split
  ·simp only;rw[List.length_set];exact ih
  ·exact ih
theorem xN {back:Bool}{fs:List (Nat × Nat)}{ts:List Int}{lane n:Nat}(ok:∀ f∈fs,f.1<n/\f.2<n/\f.1≠f.2)(b:lane<n):∀ i,i<=fs.length->(yS back fs ts lane i).2<n
 | 0,_=>b
 | i+1,hi=>by
  have ih:=xN (back:=back) (ts:=ts) ok b i (by lia);have a:=ok _ (Yj (show i<fs.length by lia));have c:fs.getD i (0,0)=fs[i]:=by rw[Jm,Ja (show i<fs.length by lia)];rfl
  show (yG back (yS back fs ts lane i) i (fs.getD i (0,0))).2<n;rw[c];generalize fs[i]=f at *;unfold yG;split
  ·simp only
   by_cases z:(if back=true then 1-(yS back fs ts lane i).1.getD i 0 else (yS back fs ts lane i).1.getD i 0)=0
   ·rw[JE z];exact a.1
   ·rw[Jv z];exact a.2.1
  ·exact ih
theorem uZ (k:Nat):∀ a:List Nat,(a.map λ(e:Nat)=>(e:Int)).idxOf (k:Int)=a.idxOf k
 | []=>rfl
 | e::a=>by
  rw[Y0,List.idxOf_cons,List.idxOf_cons,uZ k a]
  have:((e:Int) == (k:Int))=(e == k):=by
   rw[JZ,beq_iff_eq];rw[beq_iff_eq];lia
  rw[this]
theorem qB (a:List Nat):zW a=(a.map λ(e:Nat)=>(e:Int)).map V.int:=by unfold zW;rw[Z6];rfl
def kH:Sp:=λb H Q _=>∃ r fr d c N,∃ a:Nat,b=[.ref r,.int a]/\Nt.Ok N/\NetAt H r fr d c N/\a<N.lanes/\Q (.int (N.ends.idxOf a:Nat)) H
def RunQ (back:Bool)(vs:List V)(H:Hp)(Q:VK):Prop:=∃ r fr g f N e b,∃ a:Nat,vs=[.ref r,.ref e,.int a]/\Nt.Ok N/\NetAt H r fr g f N/\H e=some (.tup (List.map V.int b))/\b.length=N.forks.length/\(∀ t∈b,t=0\/t=1)/\a<N.lanes /\
 ∀ p c d,Same H d->d p=some (.tup [.ref c,.int (N.ends.idxOf (yS back N.forks b a N.forks.length).2:Nat)])->d c=some (.tup ((yS back N.forks b a N.forks.length).1.map V.int))->Q (.ref p) d
def wj (back:Bool):Sp:=λa H Q _=>RunQ back a H Q
def kF:Sp:=λb H Q _=>∃ (a:List V) (back:Bool),b=a++[.bl back]/\RunQ back a H Q
def big (x y:Int):Int:=if y > x then y else x
def io (st:List Int × List Int)(f:Nat × Nat):List Int × List Int :=
 ((st.1.set f.1 (1+big (st.1.getD f.1 0) (st.1.getD f.2 0))).set f.2 (1+big (st.1.getD f.1 0) (st.1.getD f.2 0)),st.2++[1+big (st.1.getD f.1 0) (st.1.getD f.2 0)])
def lay (n:Nat)(fs:List (Nat × Nat)):List Int × List Int:=fs.foldl io (List.replicate n 0,[])
def cF (g f:Nat × Nat):Bool:=decide (g.1=f.1\/g.1=f.2) || decide (g.2=f.1\/g.2=f.2)
def bb (fs:List (Nat × Nat))(a:List Int)(f:Nat × Nat)(i:Nat):List Int:=((List.range i).filter λj=>cF (fs.getD j (0,0)) f).map λj=>a.getD j 0
def bT (N:Nt):List Int:=(lay N.lanes N.forks).2
abbrev Fk:=Nat × Nat
def run {σ α:Type}(step:σ->Fk->σ × α):σ->List Fk->σ × List (α × Fk)
 | s,[]=>(s,[])
 | s,f::fs=>((run step (step s f).1 fs).1,((step s f).2,f)::(run step (step s f).1 fs).2)
def rnk (x:Int × Fk):Int:=x.1*1024+x.2.1*32+x.2.2
def ins (x:Int × Fk):List (Int × Fk)->List (Int × Fk)
 | []=>[x]
 | y::l=>if rnk x<=rnk y then x::y::l else y::ins x l
end Bn
namespace Ts
open PySem PyProof.Rows
def R (a:Keyed->Int)(xs:Array Keyed)(i:Nat):Int:=match xs[i]? with
 | some p=>a p
 | none=>0
def bd (left:Bool)(k r:Int):Bool:=if left=true then decide (r<k) else !decide (k<r)
end Ts
namespace Bn
open PySem L2 Own
theorem zT {H:Hp}{a:Addr}(_:H a=none)(o:HO):L2.upd H a o a=some o:=zE
theorem Prs.app {H:Hp}:∀ {ps a:List V}{fs b:List Fk},Prs H ps fs->Prs H a b->Prs H (ps++a) (fs++b)
 | [],_,[],_,_,h=>h
 | _::_,_,_::_,_,⟨x,r⟩,h=>⟨x,Prs.app r h⟩
end Bn
namespace L2
open PySem PySem.Spec PyProof.Rows Own Ts
section
variable {X:Cx}{pins:List (Addr × Obj)}{σ:St}{H:Hp}{s:Shared}
theorem Inv.adopt {T:Addr}{o:HO}(I:Inv X pins σ H s)(d:FpOk X pins H T)(new:ObjOk X.prog X.w (upd H T o) s.heap T o):Inv X pins σ (upd H T o) s:=by
 have a:=d.1
 have J:Inv X pins σ (upd H T o) { s with heap:=s.heap,gens:=s.gens,drawn:=s.drawn,toks:=s.toks }:=by
  refine I.step (ch:=[T]) (λb f=>?_) (λb u _ _ _ e _=>e) (λb u _ _ _ e _=>⟨u.slots,e⟩) (λb u i _ n=>by rw[zJ λq=>i (Jd.mpr q)];exact n)
   (λb u _ e=>⟨u,e⟩) (λb g e=>by rw[zJ (zG e a)];exact e) (λb u x e=>by rw[zJ (zG e a)];exact e) (λb j e=>⟨#[],by rw[zJ (zG e a),e];simp⟩) (λm h=>h) (λb u e=>?_) I.bare
  ·have only:=Jd.mp f
   subst only;exact⟨d.2.2.2.1,d.2.1,d.2.2.2.2.1,d.2.2.2.2.2⟩
  ·by_cases f:b=T
   ·subst f;rw[zE]at e;cases e;exact new
   ·rw[zJ f]at e
    exact(I.hok b u e).stay (λc v _ q=>q) (λc q=>by rw[zJ (zG q a)];exact q) λc g q=>by rw[zJ (zG q a)];exact q
 exact J
end
end L2
namespace L2
open PySem PySem.Spec PyProof.Rows Own
theorem qj (n:Nat):Builtin.Slice.sliceAdjust none none (-1) (n:Int)=((n:Int)-1,-1):=by
 unfold Builtin.Slice.sliceAdjust;rfl
theorem ra (n:Nat):Builtin.Slice.slicePlaces ((n:Int)-1) (-1) (-1)=n:=by
 unfold Builtin.Slice.slicePlaces;by_cases z:n=0
 ·subst z;rfl
 ·simp
  lia
theorem mC (vs:List Value):((List.range vs.length).filterMap λ(k:Nat)=>(vs.toArray)[(((vs.length:Int)-1)+(k:Int)*(-1)).toNat]?).toArray=vs.reverse.toArray:=by
 congr 1
 have e:∀ k,k<vs.length->(vs.toArray)[(((vs.length:Int)-1)+(k:Int)*(-1)).toNat]?=vs.reverse[k]?:=λk b=>by
  rw[List.getElem?_reverse b,List.getElem?_toArray]
  congr 1
  lia
 have all:∀ (ws:List Value) (f:Nat->Option Value),(∀ k,k<ws.length->f k=ws[k]?)->(List.range ws.length).filterMap f=ws:=by
  intro ws
  induction ws with
  | nil=>intro f _;rfl
  | cons a ws ih =>
   intro f c;rw[Yk,List.range_succ_eq_map,Z4,c 0 (by simp),Yz];show a::_=_
   congr 1
   exact ih (f∘Nat.succ) λk b=>by show f (k+1)=_;rw[c (k+1) (by simpa using b)];rfl
 have:=all vs.reverse (λk=>(vs.toArray)[(((vs.length:Int)-1)+(k:Int)*(-1)).toNat]?) (λk b=>e k (by simpa using b))
 rwa [YR]at this
section
variable {prog:Program}{w:World}{A:Around}{E:Value->Shared->Prop}{s:Shared}
theorem ur (n:Nat){sl:Addr}{t:Tok}{Q:Int × Int × Nat->Shared->Prop}(c:s.heap.IsSliceOf sl .none .none (.int (-1) t))(h:Q ((n:Int)-1,-1,n) s):wpAny (model prog w) A (Builtin.Slice.sliceApplied (.ref sl) (pure (n:Int))) Q E s:=by
 obtain⟨os,a,d,b⟩:=id c;unfold Builtin.Slice.sliceApplied Builtin.Slice.sliceFields;refine J0 (J0 (Zb a b (x:=.none) rfl (J0 (Zb a b (x:=.none) rfl (J0 (Zb a b (x:=.int (-1) t) rfl (J7 ?_)))))));refine J0 (slicePart_int ?_);show wpAny _ _ (if ((-1:Int) == 0)=true then _ else _) _ _ s;rw[Jv (by decide)];refine J0 (slicePart_none (J0 (slicePart_none (J0 (J7 ?_)))));show wpAny _ _ (match Builtin.Slice.sliceAdjust none none (-1) (n:Int) with|(lo,hi)=>pure (lo,(-1:Int),Builtin.Slice.slicePlaces lo hi (-1))) _ _ s;rw[qj n];show wpAny _ _ (pure ((n:Int)-1,(-1:Int),Builtin.Slice.slicePlaces ((n:Int)-1) (-1) (-1))) _ _ s;rw[ra n];exact J7 h
theorem um {t sl:Addr}{vs:List Value}{tk:Tok}{Q:Value->Shared->Prop}(b:IsTup s.heap t vs.toArray) (g:vs.length<=sizeLine) (f:s.heap.IsSliceOf sl .none .none (.int (-1) tk)) (h:Q (.ref s.heap.objs.size) { s with heap:=s.heap.push { cls:=.type "tuple",data:=.seq vs.reverse.toArray } }) :
  wpAny (model prog w) A (getItem (.ref t) (.ref sl)) Q E s:=by
 obtain⟨os,c,d,i⟩:=id f;have e:s.TypeIs (.ref sl) "slice":=⟨os,c,d⟩;unfold getItem
 try with_reducible refine Y4 ?_
 first|refine J0 (J7 ?_)|skip
 refine J0 (wpAny_sequenceKey b.typeIs (by decide) (J0 (wpAny_callSpecial?_slot (name:=Str.ofString "__getitem__") b.typeIs Yb (Y7 Yb b.typeIs PyProof.Rows.entry_tuple_getitem ?_ (PyProof.Rows.args_tuple_getitem _ _)))));show wpAny _ _ (Builtin.Tuple.tupleItemsOf (.ref t) >>= _) _ _ s;refine J0 (tupleItemsOf_ b (J0 (Yr e ?_)));rw[JE (by decide)];have sz:vs.toArray.size=vs.length:=Je ..;rw[sz];refine J0 (ur vs.length f ?_);show wpAny _ _ (if (((vs.length:Int)-1) == 0 && (-1:Int) == 1 && vs.length == vs.toArray.size)=true then _ else _) _ _ s;rw[Jv (by rw[show ((-1:Int) == 1)=false from rfl,Bool.and_false,Bool.false_and];exact Jf)];rw[mC];have a:vs.reverse.toArray.size<=sizeLine:=by rw[Je,YR];exact g
 first
  | exact J0 (m:=Builtin.Tuple.tupleExact _) (JF (J7 ⟨_,rfl,J7 h⟩) a)
  | exact J0 (m:=Builtin.Tuple.tupleExact _) (JF (J0 (J7 (J7 ⟨_,rfl,J7 h⟩))) a)
  | exact J0 (J0 (m:=Builtin.Tuple.tupleExact _) (JF (J7 (J7 ⟨_,rfl,J7 h⟩)) a))
  | exact J0 (J0 (m:=Builtin.Tuple.tupleExact _) (JF (J7 ⟨_,rfl,J7 h⟩) a))
end
section
variable {X:Cx}
def gT (K:PySem.W.Frag)(d:TE)(ts:TO):TE:=λσ H Q=>d σ H λx e=>ts σ e λo b=>o=some (-1)/\∃ a c,x=.ref a/\SqT K b a c/\∀ p,b p=none->Q (.ref p) (upd b p (.tup c.reverse))
theorem jF {e st:Expr}{i:TE}{ts:TO}{j pos:Pos}(B:PE X e i)(z:PO X (some st) ts):PE X (.Subscript e (.Slice none none (some st) j) pos) (gT X.K i ts):=by
 intro pins s σ H Q I h;refine Subscript_ (thn (B pins s σ H _ I h) λv n ⟨x,F,D,p,w⟩=>wpAny_Slice ?_);rw[evalPart_none];refine J7 (J7 (thn (z pins n σ F _ D w) λf c ⟨o,E,C,po,u⟩=>?_));obtain⟨rfl,a,m,rfl,A,k⟩:=u;cases p;obtain⟨t,rfl⟩:∃ t,f=.int (-1) t:=by cases po;exact⟨_,rfl⟩
 have d:Inv X pins σ E { c with heap:=c.heap.push { cls:=.type "slice",data:=.fields #[.none,.none,.int (-1) t] } }:=C.kept (t':=c.toks) λb ob q=>J2 _ q;obtain⟨g,r,l,y⟩:=d.tuple A;have G:=r.length;show wpAny (model X.prog X.w) X.A (subscriptTail e (.Slice none none (some st) j) (.ref a) (.ref c.heap.objs.size)) (EP X pins σ Q) X.xe { c with heap:=c.heap.push { cls:=.type "slice",data:=.fields #[.none,.none,.int (-1) t] } };refine tail_any (ops:=[.ref a,.ref c.heap.objs.size]) l.typeIs PyProof.Rows.slot_tuple_getitem.lookup (um l (by lia) (Heap.IsSliceOf.new ..) ?_) (by with_unfolding_all rfl);exact⟨.ref _,_,d.laid (t':=c.toks) (o:=.tup m.reverse) (λb ob q=>J2 _ q) (Jb _) ⟨by rw[YR];exact y,g.reverse,r.reverse,TupX.new _ _⟩,rfl,k _ (d.hok.fresh (Jb _))⟩
end
end L2
namespace Bn
open PySem L2 Own
def pw (e:Nat):Int:=((2 ^ e:Nat):Int)
def eQ (n lane:Nat)(m:Int):List Int:=(List.replicate n (0:Int)).set lane m
def yx:Nat->List Nat->List Fk
 | 0,_=>[]
 | m+1,row=>if row.length<2 then [] else (row.take (row.length / 2)).zip row.reverse++yx m (row.take (row.length / 2))++yx m (row.drop (row.length / 2))
def xF (k:Nat):Nt:=⟨2 ^ k,(List.replicate k (yx k (List.range (2 ^ k)))).flatten,List.range (2 ^ k)⟩
theorem pR:∀ k,k<5->(xF k).forks.length<=128/\∀ f∈(xF k).forks,f.1<2 ^ k/\f.2<2 ^ k/\f.1≠f.2:=by decide +kernel
theorem ny {k:Nat}(h:k<5):(xF k).Ok:=by
 obtain⟨a,b⟩:=pR k h;refine⟨YB,?_,a,b,.refl _⟩;show 2 ^ k<=2 ^ 4;exact Yg (show 0<2 by decide) (show k<=4 by lia)
theorem xk:∀ (m:Nat) (row:List Nat),(yx m row).length<=m*row.length
 | 0,_=>JL _
 | m+1,row=>by
  unfold yx;split
  ·exact JL _
  ·rw[J9,J9,YW,Jh]
   have a:=xk m (row.take (row.length / 2));have b:=xk m (row.drop (row.length / 2));rw[Jh]at a;rw[JW]at b
   have c:m*min (row.length / 2) row.length+m*(row.length-row.length / 2)=m*row.length:=by
    rw[<- Nat.mul_add];congr 1;lia
   rw[Nat.succ_mul];lia
end Bn
namespace L2
open PySem PySem.Spec PyProof.Rows Own
theorem im {K:PySem.W.Frag}{a:Addr}{zs:List V}{g:TG}{h:TE}{l:Addr}{ac:List V}{σ:St}{H:Hp}{Q:List V->St->Hp->Prop}(b:Nat->List V->St->Hp->Prop)(q:b 0 ac σ H)(o:∀ i acc σ H,b i acc σ H->H l=some (.lst acc)/\SqT K H a zs)(n:∀ i x acc σ H,zs[i]?=some x->b i acc σ H->g x σ H λc r=>h c r λy j=>j l=some (.lst acc)/\acc.length<sizeLine/\Nx zs.length i (b (i+1) (acc++[y]) c (upd j l (.lst (acc++[y])))))(hd:∀ acc σ H,b zs.length acc σ H->Q acc σ H):∃ W:Nat->Nat->List V->St->Hp->Prop,(∃ m,W 0 m ac σ H)/\LCW1 (Itt K a) g l0 h l Q W:=by
 refine⟨λi m acc σ H=>m=zs.length-i/\i<=zs.length/\b i acc σ H,⟨_,rfl,JL _,q⟩,?_⟩;rintro i m acc σ H ⟨rfl,hi,p⟩;obtain⟨k,d⟩:=o i acc σ H p;refine⟨k,?_⟩;by_cases f:i<zs.length
 ·refine .inr ⟨⟨zs,zs[i],d,Ja f⟩,λx s ⟨e,y⟩=>?_⟩
  subst e;exact n i x acc σ _ (y zs d) p
 ·obtain rfl:i=zs.length:=by lia
  exact .inl ⟨⟨zs,d,Jb _⟩,hd acc σ H p⟩
def yT {α:Type}(xs ys:List α):List α:=(xs.zip ys).flatMap λp=>[p.1,p.2]
theorem xK {α:Type}:∀ (xs ys:List α),xs.length=ys.length->(yT xs ys).length=2*xs.length
 | [],[],_=>rfl
 | x::xs,y::ys,h=>by
  have h':xs.length=ys.length:=by simpa using h
  have:=xK xs ys h';show (yT xs ys).length+2=2*(xs.length+1);rw[this];lia
theorem wK {α β:Type}{f g:α->Option β}:∀ (l:List α),(∀ x∈l,f x=g x)->l.filterMap f=l.filterMap g
 | [],_=>rfl
 | x::l,h=>by
  have e:=wK l λy a=>h y (JJ _ a);simp only[Z4,h x JK,e]
def by2 {α:Type}(off:Nat)(xs:List α):List α:=(List.range ((xs.length+1-off) / 2)).filterMap λk=>xs[off+2*k]?
theorem sx {α:Type}(off:Nat)(a:off<=1)(xs:List α):(by2 off xs).length=(xs.length+1-off) / 2:=by
 unfold by2
 have e:(List.range ((xs.length+1-off) / 2)).filterMap (λk=>xs[off+2*k]?)=(List.range ((xs.length+1-off) / 2)).pmap (λk (h:k<(xs.length+1-off) / 2)=>xs[off+2*k]'(by lia)) (λk h=>Y8.mp h):=by
  rw[List.pmap_eq_map_attach,<- List.filterMap_eq_map]
  conv=>lhs;rw[<- List.attach_map_subtype_val (List.range ((xs.length+1-off) / 2)),Yz]
  refine wK _ λk b=>?_;have:=Y8.mp k.2;show xs[off+2*k.1]?=some _;rw[Ja (by lia)]
 rw[e,List.length_pmap,JS]
theorem i8 {α β:Type}(f:α->β)(off:Nat)(xs:List α):by2 off (xs.map f)=(by2 off xs).map f:=by
 unfold by2;rw[Jc,List.map_filterMap];refine wK _ λk _=>?_;rw[JG]
theorem nS {xs:List V}{us:List Value}(r:Vals xs us)(a:List Nat):Vals (a.filterMap λk=>xs[k]?) (a.filterMap λk=>us[k]?):=by
 induction a with
 | nil=>exact .nil
 | cons i a ih =>
  cases e:xs[i]? with
  | none =>
   have e2:us[i]?=none:=List.getElem?_eq_none_iff.mpr (by rw[<- r.length];exact List.getElem?_eq_none_iff.mp e)
   rw[List.filterMap_cons_none e,List.filterMap_cons_none e2];exact ih
  | some x =>
   obtain⟨u,e2,b⟩:=r.get e;rw[List.filterMap_cons_some e,List.filterMap_cons_some e2];exact .cons b ih
theorem kg (items:Array Value):slicePick items none none (some 2)=((List.range ((items.size+1) / 2)).filterMap λk=>items.toList[2*k]?).toArray:=by
 have b:sliceBounds none none (some 2) items.size=(0,(items.size:Int),2):=rfl
 have c:sliceRange 0 (items.size:Int) 2=(List.range ((items.size+1) / 2)).map λk=>2*k:=by
  unfold sliceRange;have a:(2:Int) > 0:=by decide
  by_cases h:(0:Int)<items.size
  ·have e:(((items.size:Int)-0+2-1) / 2).toNat=(items.size+1) / 2:=by lia
   simp only[a,if_true,h,e];apply Z5;intro k _;lia
  ·have e:items.size=0:=by lia
   rw[e];rfl
 unfold slicePick;rw[b];show ((sliceRange 0 (items.size:Int) 2).filterMap (items[·]?)).toArray=_;rw[c,Yz];refine JH List.toArray (wK _ λk _=>?_);simp
theorem mB (items:Array Value):slicePick items (some 1) none (some 2)=((List.range (items.size / 2)).filterMap λk=>items.toList[1+2*k]?).toArray:=by
 have b:sliceBounds (some 1) none (some 2) items.size=(max 0 (min 1 (items.size:Int)),(items.size:Int),2):=rfl
 have c:sliceRange (max 0 (min 1 (items.size:Int))) (items.size:Int) 2=(List.range (items.size / 2)).map λk=>1+2*k:=by
  unfold sliceRange;have a:(2:Int) > 0:=by decide
  by_cases h:(1:Int)<items.size
  ·have m:max 0 (min 1 (items.size:Int))=1:=by lia
   rw[m];have e:(((items.size:Int)-1+2-1) / 2).toNat=items.size / 2:=by lia
   simp only[a,if_true,h,e];apply Z5;intro k _;lia
  ·have e:items.size=0\/items.size=1:=by lia
   rcases e with e|e<;>rw[e]<;>rfl
 unfold slicePick;rw[b];show ((sliceRange (max 0 (min 1 (items.size:Int))) (items.size:Int) 2).filterMap (items[·]?)).toArray=_;rw[c,Yz];refine JH List.toArray (wK _ λk _=>?_);simp
def cn (K:PySem.W.Frag)(e:TE)(d ts:TO):TE:=λσ H Q=>e σ H λx g=>d σ g λlo f=>ts σ f λo b=>o=some 2/\∃ off a c,((lo=none/\off=0)\/(lo=some 1/\off=1))/\x=.ref a/\SqL K b a c/\∀ p,b p=none->Q (.ref p) (upd b p (.lst (by2 off c)))
theorem sh {X:Cx}{e st:Expr}{lo:Option Expr}{p:TE}{n ts:TO}{t pos:Pos}(K:PE X e p)(J:PO X lo n)(F:PO X (some st) ts):PE X (.Subscript e (.Slice lo none (some st) t) pos) (cn X.K p n ts):=by
 intro pins s σ H Q I h;refine Subscript_ (thn (K pins s σ H _ I h) λv y ⟨x,P,M,A,C⟩=>wpAny_Slice (thn (J pins y σ P _ M C) λm z ⟨ol,R,N,pl,D⟩=>?_));rw[evalPart_none];refine J7 (thn (F pins z σ R _ N D) λg d ⟨o,O,L,po,B⟩=>?_);obtain⟨rfl,off,a,l,f,rfl,G,k⟩:=B;cases A;have i:Inv X pins σ O { d with heap:=d.heap.push { cls:=.type "slice",data:=.fields #[m,.none,g] } }:=L.kept (t':=d.toks) λb ob q=>J2 _ q;obtain⟨c,r,u,S⟩:=i.list G;have hlen:=r.length;show wpAny (model X.prog X.w) X.A (subscriptTail e (.Slice lo none (some st) t) (.ref a) (.ref d.heap.objs.size)) (EP X pins σ Q) X.xe { d with heap:=d.heap.push { cls:=.type "slice",data:=.fields #[m,.none,g] } };refine tail_any (ops:=[.ref a,.ref d.heap.objs.size]) u.isList.typeIs slot_list_getitem.lookup (wpAny_getItem_list_slice u.isList (Heap.IsSliceOf.new ..) pl .none po (by simp) ?_ (by rw[Je]<;>lia)) (by with_unfolding_all rfl)
 have E:slicePick c.toArray ol none (some 2)=((List.range ((c.length+1-off) / 2)).filterMap λk=>c[off+2*k]?).toArray:=by
  rcases f with ⟨rfl,rfl⟩|⟨rfl,rfl⟩
  ·rw[kg];simp only[Je,Nat.sub_zero,Nat.zero_add]
  ·rw[mB];simp only[Je,Nat.add_sub_cancel]
 rw[E];have j:off<=1:=by rcases f with ⟨_,rfl⟩|⟨_,rfl⟩<;>decide
 have w:Vals (by2 off l) ((List.range ((c.length+1-off) / 2)).filterMap λk=>c[off+2*k]?):=by
  have:=nS r ((List.range ((c.length+1-off) / 2)).map λk=>off+2*k);rw[Yz,Yz]at this;unfold by2;rw[hlen];exact this
 refine⟨.ref _,_,i.laid (t':=d.toks) (o:=.lst (by2 off l)) (λb ob q=>J2 _ q) (Jb _) ⟨by rw[sx off j];lia,_,0,w,?_⟩,rfl,k _ (i.hok.fresh (Jb _))⟩;exact Jk _ rfl
theorem FnOk.any {P:Program}{w:World}{K:PySem.W.Frag}{mg:Str->Option Value}{base:Heap}{CX:CXT}{k:Nat}{f:Addr}{fd:FuncData}{ps:List Str}{sp:Nat->Sp}(M:Nat)(F:∀ m,m<=M->FnOk P w K mg base CX k f fd ps (sp m)) :
  FnOk P w K mg base CX k f fd ps (λvs H Q E=>∃ m,m<=M/\sp m vs H Q E) :=
 ⟨λvs H Q E ⟨m,a,q⟩=>(F m a).len vs H Q E q,λA outer s H args b vs Q E d e g c ⟨m,a,q⟩=>(F m a).run A outer s H args b vs Q E d e g c q⟩
end L2
namespace Bn
open PySem L2 Own
def xL:Nat->List Nat->List Fk × List Nat
 | 0,row=>([],row)
 | m+1,row=>((row.getD 0 0,row.getD (row.length / 2) 0)::((xL m (row.take (row.length / 2))).1++(xL m (row.drop (row.length / 2))).1),yT (xL m (row.take (row.length / 2))).2 (xL m (row.drop (row.length / 2))).2)
def yX:Nat->List Nat->List Nat->List Fk × List Nat
 | 0,a,b=>(a.zip b,a++b)
 | m+1,a,b=>((yX m (by2 0 a) (by2 1 b)).1++(yX m (by2 1 a) (by2 0 b)).1++(yX m (by2 0 a) (by2 1 b)).2.zip (yX m (by2 1 a) (by2 0 b)).2,yT (yX m (by2 0 a) (by2 1 b)).2 (yX m (by2 1 a) (by2 0 b)).2)
def xC:Nat->List Nat->List Fk × List Nat
 | 0,row=>([],row)
 | m+1,row=>((xC m (row.take (row.length / 2))).1++(xC m (row.drop (row.length / 2))).1++(yX m (xC m (row.take (row.length / 2))).2 (xC m (row.drop (row.length / 2))).2).1,(yX m (xC m (row.take (row.length / 2))).2 (xC m (row.drop (row.length / 2))).2).2)
theorem wq {m n:Nat}(h:n=2 ^ (m+1)):n / 2=2 ^ m/\n-n / 2=2 ^ m/\n / 2<=n:=by
 rw[YL]at h;lia
theorem wI {m:Nat}{row:List Nat}(h:row.length=2 ^ (m+1)):(row.take (row.length / 2)).length=2 ^ m/\(row.drop (row.length / 2)).length=2 ^ m:=by
 obtain⟨a,b,c⟩:=wq h;rw[Jh,JW];exact⟨by rw[YV c];exact a,b⟩
theorem vJ {α:Type}{m:Nat}{a:List α}(h:a.length=2 ^ (m+1)):(by2 0 a).length=2 ^ m/\(by2 1 a).length=2 ^ m:=by
 rw[sx 0 (by decide),sx 1 (by decide),h,YL];lia
theorem wt:∀ (m:Nat) (row:List Nat),row.length=2 ^ m->(xL m row).2.length=2 ^ m/\(xL m row).1.length+1=2 ^ m
 | 0,row,h=>⟨h,rfl⟩
 | m+1,row,h=>by
  obtain⟨a,b⟩:=wI h;obtain⟨c,f⟩:=wt m _ a;obtain⟨d,e⟩:=wt m _ b;show (yT _ _).length=_/\(_::(_++_)).length+1=_;rw[xK _ _ (c.trans d.symm),Yk,J9,c,YL];exact⟨by lia,by lia⟩
theorem xH:∀ (m:Nat) (a b:List Nat),a.length=2 ^ m->b.length=2 ^ m->(yX m a b).2.length=2 ^ (m+1)/\(yX m a b).1.length=(m+1)*2 ^ m
 | 0,a,b,ha,c=>by
  show (a++b).length=_/\(a.zip b).length=_
  rw[J9,YW,ha,c];exact⟨rfl,rfl⟩
 | m+1,a,b,ha,c=>by
  obtain⟨k,a1⟩:=vJ ha;obtain⟨j,i⟩:=vJ c;obtain⟨f,h⟩:=xH m _ _ k i;obtain⟨d,g⟩:=xH m _ _ a1 j;show (yT _ _).length=_/\(_++_++List.zip _ _).length=_;rw[xK _ _ (f.trans d.symm),J9,J9,YW,f,d,h,g,Nat.min_self];have e:(m+1)*2 ^ m+(m+1)*2 ^ m=(m+1)*2 ^ (m+1):=by rw[<- Nat.two_mul,YL,Nat.mul_left_comm,Nat.mul_comm 2 (2 ^ m)]
  refine⟨by rw[YL 2 (m+1),Nat.mul_comm],?_⟩;rw[e,<- Nat.succ_mul]
def vK:Nat->Nat
 | 0=>0
 | m+1=>vK m+vK m+(m+1)*2 ^ m
theorem wv:∀ m,m<=10->vK m<=100000/\(m+1)*2 ^ m<=20000:=by decide +kernel
theorem wN:∀ (m:Nat) (row:List Nat),row.length=2 ^ m->(xC m row).2.length=2 ^ m/\(xC m row).1.length=vK m
 | 0,row,h=>⟨h,rfl⟩
 | m+1,row,h=>by
  obtain⟨a,b⟩:=wI h;obtain⟨i,g⟩:=wN m _ a;obtain⟨f,e⟩:=wN m _ b;obtain⟨d,c⟩:=xH m _ _ i f;refine⟨d,?_⟩;show (List.append (List.append _ _) _).length=vK m+vK m+(m+1)*2 ^ m;rw[List.append_eq,List.append_eq,J9,J9,c,g,e]
def wu (k:Nat):Nt:=⟨2 ^ k,(xL k (List.range (2 ^ k))).1,(xL k (List.range (2 ^ k))).2⟩
def xn (k:Nat):Nt:=⟨2 ^ k,(xC k (List.range (2 ^ k))).1,(xC k (List.range (2 ^ k))).2⟩
theorem ly:∀ k,k<5->(wu k).forks.length<=128/\(∀ f∈(wu k).forks,f.1<2 ^ k/\f.2<2 ^ k/\f.1≠f.2)/\(wu k).ends.Perm (List.range (2 ^ k)):=by decide +kernel
theorem nr:∀ k,k<5->(xn k).forks.length<=128/\(∀ f∈(xn k).forks,f.1<2 ^ k/\f.2<2 ^ k/\f.1≠f.2)/\(xn k).ends.Perm (List.range (2 ^ k)):=by decide +kernel
theorem wS {k:Nat}(h:k<5):1<=2 ^ k/\2 ^ k<=16:=⟨YB,Yg (show 0<2 by decide) (show k<=4 by lia)⟩
theorem iB {k:Nat}(h:k<5):(wu k).Ok:=let ⟨a,b,c⟩:=ly k h;⟨(wS h).1,(wS h).2,a,b,c⟩
theorem kC {k:Nat}(h:k<5):(xn k).Ok:=let ⟨a,b,c⟩:=nr k h;⟨(wS h).1,(wS h).2,a,b,c⟩
def Deep (K:PySem.W.Frag)(H:Hp):Nat->V->Prop
 | 0,x=>AnyT K H x
 | n+1,x=>AnyT K H x/\∀ xs,zc H x=some xs->xs.length<=1000/\∀ y∈xs,Deep K H n y
theorem Deep.any {K:PySem.W.Frag}{H:Hp}:∀ {n:Nat}{x:V},Deep K H n x->AnyT K H x
 | 0,_,h=>h
 | _+1,_,h=>h.1
theorem rY {K:PySem.W.Frag}{H H':Hp}{x:V}(s:Same H H')(a:AnyT K H x):zc H' x=zc H x:=by
 cases z:zc H x with
 | some e =>
  obtain⟨b,rfl,c⟩:=zw z
  exact yU (s _ _ c)
 | none =>
  cases y:zc H' x with
  | none=>rfl
  | some d =>
   obtain⟨b,rfl,c⟩:=zw y;obtain⟨T,ty,_⟩:=a
   cases ty with
   | tup h=>rw[yU h]at z;cases z
   | lst h=>rw[s _ _ h]at c;cases c
   | frz h=>rw[s _ _ h]at c;cases c
   | dK h=>rw[s _ _ h]at c;cases c
   | dT h=>rw[s _ _ h]at c;cases c
   | ins h=>rw[s _ _ h]at c;cases c
def yF (H:Hp)(many b:Int)(x:V):Bool:=match zc H x with
 | some a=>decide ((a.length:Int)=many) && a.all (xT b)
 | none=>false
end Bn
namespace L2
open PySem PySem.Spec PyProof.Rows Own
theorem nE {K:PySem.W.Frag}{b1 b2:Bool}{a1 a2:Addr}{xs ys:List V}(w:xs.length=ys.length){g:TG}{h:TS}{D:Ends}{σ:St}{H:Hp}(a:Nat->St->Hp->Prop)(s:a 0 σ H)(o:∀ i σ H,i<=xs.length->a i σ H->SqB b1 K H a1 xs/\SqB b2 K H a2 ys)(n:∀ i x y T σ H,xs[i]?=some x->ys[i]?=some y->H T=none->a i σ H->g (.ref T) σ (upd H T (.tup [x,y])) λc f=>h { D with nx:=a (i+1),ct:=a (i+1),bk:=D.nx } c f)(q:∀ σ H,a xs.length σ H->D.nx σ H) :
  ∃ W:Nat->Nat->St->Hp->Prop,(∃ m,W 0 m σ H)/\∀ i m σ H,W i m σ H ->
   ((Itz K b1 b2 a1 a2).stop i H/\D.nx σ H)\/((Itz K b1 b2 a1 a2).go i H/\∃ N:St->Hp->Prop,(∀ d b,N d b->∃ k,k<m/\W (i+1) k d b)/\∀ x b,(Itz K b1 b2 a1 a2).yld i H x b->g x σ b λc f=>h { D with nx:=N,ct:=N,bk:=D.nx } c f):=by
 refine⟨λi m σ H=>m=xs.length-i/\i<=xs.length/\a i σ H,⟨_,rfl,JL _,s⟩,?_⟩;rintro i m σ H ⟨rfl,hi,p⟩;obtain⟨e,j⟩:=o i σ H hi p;by_cases more:i<xs.length
 ·refine .inr ⟨⟨xs,ys,_,_,e,j,Ja more,Ja (by lia)⟩,a (i+1),λd b l=>⟨xs.length-(i+1),by lia,rfl,more,l⟩,λv b ⟨x,y,ex,t,T,r,u,e2⟩=>?_⟩
  subst u e2;exact n i x y T σ H (ex xs e) (t ys j) r p
 ·obtain rfl:i=xs.length:=by lia
  exact .inl ⟨⟨xs,e,rfl⟩,q σ H p⟩
end L2
namespace K46
open PySem L2 Own Bn
abbrev rW:Stmt:=top 27
def uH (m:Nat):Sp:=λh H Q _=>∃ g f a b,h=[.ref g,.ref f]/\H g=some (.lst (zW a))/\H f=some (.lst (zW b))/\a.length=2 ^ m/\b.length=2 ^ m/\m<=8/\∀ c lf le e d,Same H d->H lf=none->d c=some (.tup [.ref lf,.ref le])->d lf=some (.lst e)->Prs d e (Bn.yX m a b).1->d le=some (.lst (zW (Bn.yX m a b).2))->Q (.ref c) d
theorem oE (row:List Nat)(i:Nat)(h:i<=row.length):yz (zW row) none (some (i:Int))=zW (row.take i):=by
 rw[wL _ _ (by rw[zj];exact h)];unfold zW;rw[List.map_take]
theorem oF (row:List Nat)(i:Nat)(h:i<=row.length):yz (zW row) (some (i:Int)) none=zW (row.drop i):=by
 rw[ud _ _ (by rw[zj];exact h)];unfold zW;rw[List.map_drop]
theorem o5 (off:Nat)(a:List Nat):by2 off (zW a)=zW (by2 off a):=by unfold zW;exact i8 _ off a
theorem jZ (a b:List Nat):zW a++zW b=zW (a++b):=by unfold zW;exact(JB ..).symm
theorem oG (row:List Nat)(i:Nat)(h:i<row.length):(zW row)[i]?=some (.int ((row.getD i 0:Nat):Int)):=by
 unfold zW;rw[JG,Ja h,Jm,Ja h];rfl
theorem we:∀ (a b:List Nat) (j:Nat),j<a.length->j<b.length->yT (a.take (j+1)) (b.take (j+1))=yT (a.take j) (b.take j)++[a.getD j 0,b.getD j 0]
 | x::a,y::b,0,_,_=>by rw[YS,YS,List.take_zero,List.take_zero];rfl
 | x::a,y::b,j+1,ha,c=>by
  rw[YS,YS,YS,YS];show x::y::yT (a.take (j+1)) (b.take (j+1))=x::y::(yT (a.take j) (b.take j)++[a.getD j 0,b.getD j 0]);rw[we a b j (by simpa using ha) (by simpa using c)]
theorem rG {a b:List Nat}{j:Nat}(ha:j<a.length)(c:j<b.length):(a.zip b).take (j+1)=(a.zip b).take j++[(a.getD j 0,b.getD j 0)]:=by
 rw[JQ (by rw[YW];lia),List.getElem_zip,Jm,Ja ha,Jm,Ja c];rfl
theorem num_at {a:List Nat}{j:Nat}{x:V}(h:(zW a)[j]?=some x):j<a.length/\x=.int ((a.getD j 0:Nat):Int):=by
 have b:j<a.length:=by rw[<- zj a];exact(J8.mp h).1
 rw[oG a j b]at h;exact⟨b,(Jn h).symm⟩
section
variable {P:Program}{w:World}{K:PySem.W.Frag}{mg:Str->Option Value}{base:Heap}
theorem rR:FnScope ["_law_one","_law_other","_law_forks","_law_first","_law_more_here","_law_second","_law_ends_here","_law_x","_law_y"] ["_law_one","_law_other"] (zN rW):=by trivial
theorem rq {f:Addr}{fd:FuncData}(F:Fun K "_law_merger" "_law_merger" rW f fd) (G:Mgs mg) (bS:Binds K fd ["_law_one","_law_other"] []) (mS:mg "_law_merger" = some (.ref f)) (n:Nat)
  (GS:FnOk P w K mg base CX0 n f fd ["_law_one","_law_other"] (λvs H Q E=>∃ m,n=m+1/\uH m vs H Q E)):FnOk P w K mg base CX0 (n+1) f fd ["_law_one","_law_other"] (uH n):=by
 have D:Use P w K mg base "_law_merger" ["_law_one","_law_other"] n (λvs H Q E=>∃ m,n=m+1/\uH m vs H Q E) f fd:=⟨GS,bS,F.kp,mS⟩;refine F.ok rR (λvs H Q E h=>?_) (λaL A outer s H vs Q E hr h=>?_)
 ·obtain⟨L,U,a,b,rfl,_⟩:=h
  rfl
 obtain⟨L,U,a,b,rfl,h1,h2,al,bl,av,k⟩:=h;refine⟨_,(@zF _ _ _ _ _ (@yH _ _ _ _ _ _ _ _ (@zp _ _ _ _ _ _ _ _ xD (@zL _ _ _ _ _ _ _ _ _ zR (by rfl) G.len Jy (@zA _ _ _ _ _ (@qv _ 0 _ _ (by trivial)) zB (by rfl)) (by decide) (by decide) (by rfl) (by rfl)) zD (zt _)) (@zH _ _ _ (@zU _ _ _ _ (@zV _ _ _ _ _ (@zA _ _ _ _ _ (@zo _ _ _ _ (@zA _ _ _ _ _ (@zV _ _ _ _ _ (@zA _ _ _ _ _ (@zX _ _ _ _ _ _ _ zd (@qv _ 0 _ _ (by trivial)) zD (λ_ _=>rfl)) (@zA _ _ _ _ _ (@zX _ _ _ _ _ _ _ zd (@qv _ 1 _ _ (by trivial)) zD (λ_ _=>rfl)) zB (by rfl)) (by rfl))) zB (by rfl))) (@zA _ _ _ _ _ (@zo _ _ _ _ (@zA _ _ _ _ _ (@zX _ _ _ _ _ _ _ zd (@qv _ 0 _ _ (by trivial)) zD (λ_ _=>rfl)) (@zA _ _ _ _ _ (@zX _ _ _ _ _ _ _ zd (@qv _ 1 _ _ (by trivial)) zD (λ_ _=>rfl)) zB (by rfl)) (by rfl))) zB (by rfl)) (by rfl))))) zq) (@zF _ _ _ _ _ (@yN _ _ _ _ _ _ (@zK _ _ _ _ _ _ _ _ _ _ _ _ _ _ _ _ D.ok hr (by rfl) D.m D.kp D.b .nil zS (@zA _ _ _ _ _ (@sh _ _ _ _ _ _ _ _ _ (@qv _ 0 _ _ (by trivial)) yB (@zk _ _ _ zD)) (@zA _ _ _ _ _ (@sh _ _ _ _ _ _ _ _ _ (@qv _ 1 _ _ (by trivial)) (@zk _ _ _ zD) (@zk _ _ _ zD)) zB (by rfl)) (by rfl)) (by decide) (by rfl) (by rfl)) (@yL _ _ _ _ _ _ rfl (@zQ _ _ _ _ _ (@zM _ _ 2 _ rR.nd rfl (.inl rfl) (by trivial)) (@zQ _ _ _ _ _ (@zM _ _ 3 _ rR.nd rfl (.inl rfl) (by trivial)) yC (by rfl)) (by rfl)) (by rfl) (by rfl)) (by rfl) (by rfl) (by rfl)) (@zF _ _ _ _ _ (@yN _ _ _ _ _ _ (@zK _ _ _ _ _ _ _ _ _ _ _ _ _ _ _ _ D.ok hr (by rfl) D.m D.kp D.b .nil zS (@zA _ _ _ _ _ (@sh _ _ _ _ _ _ _ _ _ (@qv _ 0 _ _ (by trivial)) (@zk _ _ _ zD) (@zk _ _ _ zD)) (@zA _ _ _ _ _ (@sh _ _ _ _ _ _ _ _ _ (@qv _ 1 _ _ (by trivial)) yB (@zk _ _ _ zD)) zB (by rfl)) (by rfl)) (by decide) (by rfl) (by rfl)) (@yL _ _ _ _ _ _ rfl (@zQ _ _ _ _ _ (@zM _ _ 4 _ rR.nd rfl (.inl rfl) (by trivial)) (@zQ _ _ _ _ _ (@zM _ _ 5 _ rR.nd rfl (.inl rfl) (by trivial)) yC (by rfl)) (by rfl)) (by rfl) (by rfl)) (by rfl) (by rfl) (by rfl)) (@zF _ _ _ _ _ (@sW _ _ 2 6 _ _ _ _ _ _ _ _ _ _ _ rfl rR.nd rfl rfl (by decide) rfl rfl (@zA _ _ _ _ _ (@zP _ _ _ _ _ _ _ _ xb (@qv _ 2 _ _ (by trivial)) (@qv _ 4 _ _ (by trivial))) (@zA _ _ _ _ _ (@zo _ _ _ _ zB) zB (by rfl)) (by rfl)) (by rfl) (by rfl)) (@zF _ _ _ _ _ (@yd _ _ _ _ _ _ _ _ JN rfl (@ki _ _ _ _ _ _ _ _ _ true true rfl G.zip (@zA _ _ _ _ _ (@qv _ 3 _ _ (by trivial)) (@zA _ _ _ _ _ (@qv _ 5 _ _ (by trivial)) zB (by rfl)) (by rfl)) (by rfl) (by rfl)) (@yL _ _ _ _ _ _ rfl (@zQ _ _ _ _ _ (@zM _ _ 7 _ rR.nd rfl (.inl rfl) (by trivial)) (@zQ _ _ _ _ _ (@zM _ _ 8 _ rR.nd rfl (.inl rfl) (by trivial)) yC (by rfl)) (by rfl)) (by rfl) (by rfl)) (@zF _ _ _ _ _ (@xU _ _ _ _ (@vC _ _ _ _ _ _ _ _ _ _ _ _ JX Yu Yv yq (@qv _ 2 _ _ (by trivial)) (@zA _ _ _ _ _ (@zV _ _ _ _ _ (@zA _ _ _ _ _ (@qv _ 7 _ _ (by trivial)) (@zA _ _ _ _ _ (@qv _ 8 _ _ (by trivial)) zB (by rfl)) (by rfl))) zB (by rfl)) (by rfl) (by rfl) (by rfl) (by rfl) (by rfl)) (by rfl)) (@zH _ _ _ (@xU _ _ _ _ (@vC _ _ _ _ _ _ _ _ _ _ _ _ JX PySem.F.slot_list_extend PySem.F.type_list_extend tM (@qv _ 6 _ _ (by trivial)) (@zA _ _ _ _ _ (@zo _ _ _ _ (@zA _ _ _ _ _ (@qv _ 7 _ _ (by trivial)) (@zA _ _ _ _ _ (@qv _ 8 _ _ (by trivial)) zB (by rfl)) (by rfl))) zB (by rfl)) (by rfl) (by rfl) (by rfl) (by rfl) (by rfl)) (by rfl)))) (by intro _;rfl)) (@zH _ _ _ (@zU _ _ _ _ (@zV _ _ _ _ _ (@zA _ _ _ _ _ (@qv _ 2 _ _ (by trivial)) (@zA _ _ _ _ _ (@qv _ 6 _ _ (by trivial)) zB (by rfl)) (by rfl)))))))))),?_⟩;have na:=zj a;have nb:=zj b;have p8:2 ^ n<=2 ^ 8:=Yg (by decide) av;have e8:2 ^ 8=256:=rfl;refine⟨_,rfl,L,_,rfl,.inl (SqL.of h1),rfl,_,rfl,?_⟩
 cases n with
 | zero =>
  have ao:a.length=1:=al;have aI:b.length=1:=bl;rw[Jw (show V.int (((zW a).length:Nat):Int)=V.int 1 by rw[na,ao];rfl)];obtain⟨x,rfl⟩:=List.length_eq_one_iff.mp ao;obtain⟨y,rfl⟩:=List.length_eq_one_iff.mp aI;refine zz ⟨_,rfl,L,_,0,_,rfl,rfl,SqL.of h1,rfl,_,rfl,U,_,0,_,rfl,rfl,SqL.of h2,rfl,(by show 2<=sizeLine;decide),λt ht=>⟨(by show 1<=sizeLine;decide),λlf hf=>?_⟩⟩;have Z:=zC ht (.tup [.int x,.int y]);have Y:=zC hf (.lst [.ref t]);have u2:=Z.trans Y;refine⟨_,rfl,L,_,0,_,rfl,rfl,SqL.of (u2 _ _ h1),rfl,_,rfl,U,_,0,_,rfl,rfl,SqL.of (u2 _ _ h2),rfl,(by show 2<=sizeLine;decide),λle he=>⟨(by show 2<=sizeLine;decide),λc hc=>?_⟩⟩;have X:=zC he (.lst [.int x,.int y]);have J:=zC hc (.tup [.ref lf,.ref le])
  exact k c lf le [.ref t] _ ((u2.trans X).trans J) (wG Z hf) (zT hc _) (J _ _ (X _ _ (zT hf _))) ⟨⟨t,rfl,J _ _ (X _ _ (Y _ _ (zT ht _)))⟩,trivial⟩ (J _ _ (zT he _))
 | succ m =>
  obtain⟨a0,a1⟩:=vJ al;obtain⟨b0,b1⟩:=vJ bl;have pw:2 ^ (m+1)=2 ^ m*2:=YL ..;have p0:=YB (n:=m);rw[Jj (show ¬ V.int (((zW a).length:Nat):Int)=V.int 1 by intro z;injection z with z;lia)];refine zr ⟨_,rfl,2,rfl,rfl,0,L,_,.inl ⟨rfl,rfl⟩,rfl,SqL.of h1,λq1 ai=>?_⟩;rw[o5];have Z:=zC ai (.lst (zW (by2 0 a)));refine⟨_,rfl,1,rfl,2,rfl,rfl,1,U,_,.inr ⟨rfl,rfl⟩,rfl,SqL.of (Z _ _ h2),λq2 ah=>?_⟩;rw[o5];have Y:=zC ah (.lst (zW (by2 1 b)));refine⟨m,rfl,q1,q2,by2 0 a,by2 1 b,rfl,Y _ _ (zT ai _),zT ah _,a0,b1,by lia,λc3 aw i N H3 X _ aD aA ad aB=>?_⟩;have u3:=(Z.trans Y).trans X;refine⟨c3,_,rfl,SqT.of aD,rfl,_,_,rfl,_,_,rfl,rfl,?_⟩;refine⟨_,rfl,1,rfl,2,rfl,rfl,1,L,_,.inr ⟨rfl,rfl⟩,rfl,SqL.of (u3 _ _ h1),λq4 ag=>?_⟩;rw[o5];have J:=zC ag (.lst (zW (by2 1 a)));refine⟨_,rfl,2,rfl,rfl,0,U,_,.inl ⟨rfl,rfl⟩,rfl,SqL.of (J _ _ (u3 _ _ h2)),λq5 af=>?_⟩;rw[o5];have s5:=zC af (.lst (zW (by2 0 b)));refine⟨m,rfl,q4,q5,by2 1 a,by2 0 b,rfl,s5 _ _ (zT ag _),zT af _,a1,b0,by lia,λc6 ae g M H6 s6 _ aC az ab R=>?_⟩;have u6:=(J.trans s5).trans s6;refine⟨c6,_,rfl,SqT.of aC,rfl,_,_,rfl,_,_,rfl,rfl,?_⟩;obtain⟨xl,xf⟩:=xH m _ _ a0 b1;obtain⟨yl,yf⟩:=xH m _ _ a1 b0;have bd:=(wv m (by lia)).2;have aK:=ad.len;have aJ:=ab.len;have O:=u3.trans u6;have B:=u6 _ _ aB;refine⟨_,rfl,_,rfl,aw,ae,_,_,rfl,rfl,u6 _ _ aA,az,by rw[Js];lia,λd p=>⟨(by show 0<=sizeLine;decide),λu l=>⟨_,_,rfl,?_⟩⟩⟩;have I:=zC p (.lst (N++M));have W:=zC l (.lst []);have ak:d≠u:=zG (zT p (.lst (N++M))) l;have aq:=(Prs.app (ad.tups (Tups.of u6)) ab).tups (Tups.of (I.trans W));have aj:H d=none:=wG O p;have ay:H u=none:=wG (O.trans I) l;generalize hF:(Bn.yX m (by2 0 a) (by2 1 b)).2=fst at *;generalize hS:(Bn.yX m (by2 1 a) (by2 0 b)).2=snd at *;have e3:=W _ _ (I _ _ B);have e6:=W _ _ (I _ _ R);have n3:i≠d:=zG B p;have n6:g≠d:=zG R p;have au:i≠u:=zG (I _ _ B) l;have ar:g≠u:=zG (I _ _ R) l;refine⟨_,rfl,_,rfl,i,g,_,_,rfl,SqL.of e3,SqL.of e6,?_⟩;refine nE (K:=K) (b1:=true) (b2:=true) (a1:=i) (a2:=g) (xs:=zW fst) (ys:=zW snd) (by rw[zj,zj,xl,yl]) (λj σ C=>(∃ v7 v8,σ=[some (.ref L),some (.ref U),some (.ref d),some (.ref i),some (.ref ae),some (.ref g),some (.ref u),v7,v8])/\Same H C/\C i=some (.lst (zW fst))/\C g=some (.lst (zW snd))/\(∃ r,C d=some (.lst r)/\Prs C r ((Bn.yX m (by2 0 a) (by2 1 b)).1++(Bn.yX m (by2 1 a) (by2 0 b)).1++(fst.zip snd).take j))/\C u=some (.lst (zW (yT (fst.take j) (snd.take j))))) ?_ (λj σ C _ z=>⟨SqL.of z.2.2.1,SqL.of z.2.2.2.1⟩) ?_ ?_
  ·refine⟨⟨_,_,rfl⟩,(O.trans I).trans W,e3,e6,⟨N++M,W _ _ (zT p _),?_⟩,zT l _⟩
   rw[List.take_zero,Yn];exact aq
  ·rintro j x y T σ C hx hy hT ⟨⟨v7,v8,rfl⟩,s9,e3,e6,⟨r,h7,v⟩,h8⟩
   obtain⟨j1,rfl⟩:=num_at hx;obtain⟨j2,rfl⟩:=num_at hy;have pl:=v.len;rw[J9,J9,Jh,YW]at pl;have sT:=zC hT (.tup [.int ((fst.getD j 0:Nat):Int),.int ((snd.getD j 0:Nat):Int)]);refine⟨T,_,rfl,SqT.of zE,rfl,_,_,rfl,_,_,rfl,rfl,?_⟩;refine⟨_,rfl,.inl ⟨rfl,_,SqL.of (sT _ _ h7)⟩,_,rfl,_,rfl,(by show 2<=sizeLine;decide),λt ht=>?_⟩;have st:=zC ht (.tup [.int ((fst.getD j 0:Nat):Int),.int ((snd.getD j 0:Nat):Int)]);have ut:=sT.trans st;refine⟨d,r,_,rfl,rfl,ut _ _ h7,by rw[Js];lia,?_⟩;have ax:=zT ht (.tup [.int ((fst.getD j 0:Nat):Int),.int ((snd.getD j 0:Nat):Int)]);have aF:=ut _ _ h7;have aE:=ut _ _ h8;have aH:=ut _ _ e3;have aG:=ut _ _ e6;have ap:=s9.trans ut;have aa:=v.tups (Tups.of ut);generalize L2.upd (L2.upd C T (.tup [.int ((fst.getD j 0:Nat):Int),.int ((snd.getD j 0:Nat):Int)])) t (.tup [.int ((fst.getD j 0:Nat):Int),.int ((snd.getD j 0:Nat):Int)])=H9 at *;have tq:=Tups.lst (ys:=r++[.ref t]) aF;have S:L2.upd H9 d (.lst (r++[.ref t])) u=some (.lst (zW (yT (fst.take j) (snd.take j)))):=by rw[zJ ak.symm];exact aE
   refine⟨_,rfl,.inl ⟨rfl,_,SqL.of S⟩,_,rfl,_,rfl,(by show 2<=sizeLine;decide),λq hq=>?_⟩;have sq:=zC hq (.lst [.int ((fst.getD j 0:Nat):Int),.int ((snd.getD j 0:Nat):Int)]);have tl:=xK (fst.take j) (snd.take j) (by rw[Jh,Jh];lia);rw[Jh]at tl;refine⟨u,q,_,_,rfl,rfl,sq _ _ S,zT hq _,by rw[zj,Js,tl];show _+2<=_;lia,?_⟩;have n8:∀ {c:Addr}{o:HO},L2.upd H9 d (.lst (r++[.ref t])) c=some o->c≠u->L2.upd (L2.upd (L2.upd H9 d (.lst (r++[.ref t]))) q (.lst [.int ((fst.getD j 0:Nat):Int),.int ((snd.getD j 0:Nat):Int)])) u (.lst (zW (yT (fst.take j) (snd.take j))++[.int ((fst.getD j 0:Nat):Int),.int ((snd.getD j 0:Nat):Int)])) c=some o:=λe ne=>by rw[zJ ne];exact sq _ _ e
   refine⟨⟨_,_,rfl⟩,λc o e=>n8 (by rw[zJ (zG e aj)];exact ap c o e) (zG e ay),n8 (by rw[zJ n3];exact aH) au,n8 (by rw[zJ n6];exact aG) ar,⟨r++[.ref t],n8 zE ak,?_⟩,?_⟩
   ·rw[rG j1 j2,<- Ys]
    have tz:Tups (L2.upd H9 d (.lst (r++[.ref t]))) _:=λc xs e=>n8 e (xi e S (λz=>by cases z));exact(Prs.add (f:=(fst.getD j 0,snd.getD j 0)) (tq _ _ ax) (aa.tups tq)).tups tz
   ·rw[we fst snd j j1 j2]
    have e:zW (yT (fst.take j) (snd.take j)++[fst.getD j 0,snd.getD j 0])=zW (yT (fst.take j) (snd.take j))++[.int ((fst.getD j 0:Nat):Int),.int ((snd.getD j 0:Nat):Int)]:=by rw[<- jZ];rfl
    rw[e];exact zE
  ·rintro σ C ⟨⟨v7,v8,rfl⟩,s9,e3,e6,⟨r,h7,v⟩,h8⟩
   refine⟨_,rfl,_,rfl,(by show 2<=sizeLine;decide),λc hc=>?_⟩;have sc:=zC hc (.tup [.ref d,.ref u]);have eN:Bn.yX (m+1) a b=((Bn.yX m (by2 0 a) (by2 1 b)).1++(Bn.yX m (by2 1 a) (by2 0 b)).1++fst.zip snd,yT fst snd):=by rw[<- hF,<- hS];rfl
   refine k c d u r _ (s9.trans sc) aj (zT hc _) (sc _ _ h7) ?_ ?_
   ·rw[eN]
    rw[JP (by rw[zj,YW];lia)]at v;exact v.tups (Tups.of sc)
   ·rw[eN]
    rw[JP (by rw[zj];exact Jb _),JP (by rw[zj];lia)]at h8;exact sc _ _ h8
theorem ow {f:Addr}{fd:FuncData}(F:Fun K "_law_merger" "_law_merger" rW f fd) (G:Mgs mg) (b:Binds K fd ["_law_one","_law_other"] []) (a:mg "_law_merger" = some (.ref f)):∀ n:Nat,FnOk P w K mg base CX0 (n+1) f fd ["_law_one","_law_other"] (uH n)
 | 0=>rq F G b a 0 ⟨λvs H Q E ⟨m,h,_⟩=>by lia,λA outer s H args us vs Q E _ _ _ _ ⟨m,h,_⟩=>by lia⟩
 | m+1=>rq F G b a (m+1) ((ow F G b a m).imp λvs H Q E ⟨c,h,q⟩=>by cases h;exact q)
abbrev wA:Sp:=λa H Q E=>∃ m,m<=4/\uH m a H Q E
theorem mL {f:Addr}{fd:FuncData}(F:Fun K "_law_merger" "_law_merger" rW f fd) (G:Mgs mg) (b:Binds K fd ["_law_one","_law_other"] []) (a:mg "_law_merger" = some (.ref f)):FnOk P w K mg base CX0 5 f fd ["_law_one","_law_other"] wA :=
 FnOk.any 4 λm c=>(ow F G b a m).mono (by lia)
abbrev kU:Stmt:=top 32
structure Few (l f:Nat) (N:Nt):Prop where
 ok:N.Ok
 ln:N.lanes<=l
 fk:N.forks.length<=f
def qy:Sp:=λb H Q _=>∃ l:Addr,b=[.ref l]/\Pk3 H l/\∀ r fr d c N a,Few 6 8 N->NetAt a r fr d c N->Pk3 a l->But l H a->Q (.ref r) a
def FkOk (H:Hp)(lanes:Nat)(x:V):Prop:=∃ a g,x=.ref a/\H a=some (.tup [.int ((g:Nat × Nat).1:Nat),.int ((g.2:Nat))])/\g.1<lanes/\g.2<lanes/\g.1≠g.2
theorem FkOk.tups {H H':Hp}(t:Tups H H'){lanes:Nat}{x:V}(h:FkOk H lanes x):FkOk H' lanes x:=by
 obtain⟨a,g,e,c,b⟩:=h;exact⟨a,g,e,t _ _ c,b⟩
theorem pE:FnScope ["_law_left_here","_law_lanes","_law_forks","_law_k","_law_a","_law_b","_law_ends_here"] ["_law_left_here"] (zN kU):=by trivial
theorem iW {f fK fX:Addr}{fd dK dX:FuncData}(F:Fun K "_law_any" "_law_any" kU f fd) (G:Mgs mg) (c:Use P w K mg base "_law_pick" ["_law_left_here","_law_many"] 1 yh fK dK) (UX:Use P w K mg base "_law_mixed" ["_law_left_here","_law_row"] 2 vh fX dX):FnOk P w K mg base CX0 3 f fd ["_law_left_here"] qy:=by
 refine F.ok pE (λvs H Q E h=>?_) (λax A outer s H vs Q E hr h=>?_)
 ·obtain⟨l,rfl,_⟩:=h
  rfl
 obtain⟨l,rfl,S,k⟩:=h;have C:Room 1 _:=hr.mono (by decide);refine⟨_,(@zF _ _ _ _ _ (@zZ _ _ 1 _ _ _ _ pE.nd rfl (.inl rfl) (@zX _ _ _ _ _ _ _ zd (@zo _ _ _ _ (@zA _ _ _ _ _ zD (@zA _ _ _ _ _ zD (@zA _ _ _ _ _ zD (@zA _ _ _ _ _ zD (@zA _ _ _ _ _ zD (@zA _ _ _ _ _ zD (@zA _ _ _ _ _ zD (@zA _ _ _ _ _ zD zB (by rfl)) (by rfl)) (by rfl)) (by rfl)) (by rfl)) (by rfl)) (by rfl)) (by rfl))) (@zK _ _ _ _ _ _ _ _ _ _ _ _ _ _ _ _ c.ok C (by rfl) c.m c.kp c.b .nil zS (@zA _ _ _ _ _ (@qv _ 0 _ _ (by trivial)) (@zA _ _ _ _ _ zD zB (by rfl)) (by rfl)) (by decide) (by rfl) (by rfl)) (λ_ _=>rfl)) (by rfl) (by trivial)) (@zF _ _ _ _ _ (@zZ _ _ 2 _ _ _ _ pE.nd rfl (.inl rfl) (@zo _ _ _ _ zB) (by rfl) (by trivial)) (@zF _ _ _ _ _ (@yd _ _ _ _ _ _ _ _ JN rfl (@yk _ _ _ _ _ _ rfl G.range (@zA _ _ _ _ _ (@zP _ _ _ _ _ _ _ _ xZ (@zX _ _ _ _ _ _ _ zd (@zo _ _ _ _ (@zA _ _ _ _ _ zD (@zA _ _ _ _ _ zD (@zA _ _ _ _ _ zD (@zA _ _ _ _ _ zD (@zA _ _ _ _ _ zD (@zA _ _ _ _ _ zD (@zA _ _ _ _ _ zD (@zA _ _ _ _ _ zD zB (by rfl)) (by rfl)) (by rfl)) (by rfl)) (by rfl)) (by rfl)) (by rfl)) (by rfl))) (@zK _ _ _ _ _ _ _ _ _ _ _ _ _ _ _ _ c.ok C (by rfl) c.m c.kp c.b .nil zS (@zA _ _ _ _ _ (@qv _ 0 _ _ (by trivial)) (@zA _ _ _ _ _ zD zB (by rfl)) (by rfl)) (by decide) (by rfl) (by rfl)) (λ_ _=>rfl)) (@zY _ _ _ _ _ _ _ _ _ wV (by rfl) G.int (by rfl) (@zA _ _ _ _ _ (@y8 _ _ _ _ _ _ _ _ rg (@qv _ 1 _ _ (by trivial)) zD (zt _)) zB (by rfl)) (by decide) (by decide) (by rfl) (by rfl))) zB (by rfl)) (by rfl)) (@zM _ _ 3 _ pE.nd rfl (.inl rfl) (by trivial)) (@zF _ _ _ _ _ (@zZ _ _ 4 _ _ _ _ pE.nd rfl (.inl rfl) (@zK _ _ _ _ _ _ _ _ _ _ _ _ _ _ _ _ c.ok C (by rfl) c.m c.kp c.b .nil zS (@zA _ _ _ _ _ (@qv _ 0 _ _ (by trivial)) (@zA _ _ _ _ _ (@qv _ 1 _ _ (by trivial)) zB (by rfl)) (by rfl)) (by decide) (by rfl) (by rfl)) (by rfl) (by trivial)) (@zF _ _ _ _ _ (@zZ _ _ 5 _ _ _ _ pE.nd rfl (.inl rfl) (@zP _ _ _ _ _ _ _ _ xa (@zP _ _ _ _ _ _ _ _ yI (@zP _ _ _ _ _ _ _ _ yI (@qv _ 4 _ _ (by trivial)) zD) (@zK _ _ _ _ _ _ _ _ _ _ _ _ _ _ _ _ c.ok C (by rfl) c.m c.kp c.b .nil zS (@zA _ _ _ _ _ (@qv _ 0 _ _ (by trivial)) (@zA _ _ _ _ _ (@zP _ _ _ _ _ _ _ _ xY (@qv _ 1 _ _ (by trivial)) zD) zB (by rfl)) (by rfl)) (by decide) (by rfl) (by rfl))) (@qv _ 1 _ _ (by trivial))) (by rfl) (by trivial)) (@zH _ _ _ (@xU _ _ _ _ (@vC _ _ _ _ _ _ _ _ _ _ _ _ JX Yu Yv yq (@qv _ 2 _ _ (by trivial)) (@zA _ _ _ _ _ (@zX _ _ _ _ _ _ _ zd (@zo _ _ _ _ (@zA _ _ _ _ _ (@zV _ _ _ _ _ (@zA _ _ _ _ _ (@qv _ 4 _ _ (by trivial)) (@zA _ _ _ _ _ (@qv _ 5 _ _ (by trivial)) zB (by rfl)) (by rfl))) (@zA _ _ _ _ _ (@zV _ _ _ _ _ (@zA _ _ _ _ _ (@qv _ 4 _ _ (by trivial)) (@zA _ _ _ _ _ (@qv _ 5 _ _ (by trivial)) zB (by rfl)) (by rfl))) (@zA _ _ _ _ _ (@zX _ _ _ _ _ _ _ zd (@zP _ _ _ _ _ _ _ _ xb (@qv _ 2 _ _ (by trivial)) (@zo _ _ _ _ (@zA _ _ _ _ _ (@zV _ _ _ _ _ (@zA _ _ _ _ _ (@qv _ 4 _ _ (by trivial)) (@zA _ _ _ _ _ (@qv _ 5 _ _ (by trivial)) zB (by rfl)) (by rfl))) zB (by rfl)))) zD (λ_ _=>rfl)) zB (by rfl)) (by rfl)) (by rfl))) (@zK _ _ _ _ _ _ _ _ _ _ _ _ _ _ _ _ c.ok C (by rfl) c.m c.kp c.b .nil zS (@zA _ _ _ _ _ (@qv _ 0 _ _ (by trivial)) (@zA _ _ _ _ _ zD zB (by rfl)) (by rfl)) (by decide) (by rfl) (by rfl)) (λ_ _=>rfl)) zB (by rfl)) (by rfl) (by rfl) (by rfl) (by rfl) (by rfl)) (by rfl))))) (by intro _;rfl)) (@zF _ _ _ _ _ (@zZ _ _ 6 _ _ _ _ pE.nd rfl (.inl rfl) (@zX _ _ _ _ _ _ _ zd (@zo _ _ _ _ (@zA _ _ _ _ _ (@vQ _ _ _ _ _ _ _ rfl (by rfl) G.tuple (by rfl) G.range (@zA _ _ _ _ _ (@qv _ 1 _ _ (by trivial)) zB (by rfl)) (by rfl) (by rfl)) (@zA _ _ _ _ _ (@zK _ _ _ _ _ _ _ _ _ _ _ _ _ _ _ _ UX.ok hr (by rfl) UX.m UX.kp UX.b .nil zS (@zA _ _ _ _ _ (@qv _ 0 _ _ (by trivial)) (@zA _ _ _ _ _ (@wR _ _ _ _ _ _ _ rfl (by rfl) G.list (by rfl) G.range (@zA _ _ _ _ _ (@qv _ 1 _ _ (by trivial)) zB (by rfl)) (by rfl) (by rfl)) zB (by rfl)) (by rfl)) (by decide) (by rfl) (by rfl)) zB (by rfl)) (by rfl))) (@zK _ _ _ _ _ _ _ _ _ _ _ _ _ _ _ _ c.ok C (by rfl) c.m c.kp c.b .nil zS (@zA _ _ _ _ _ (@qv _ 0 _ _ (by trivial)) (@zA _ _ _ _ _ zD zB (by rfl)) (by rfl)) (by decide) (by rfl) (by rfl)) (λ_ _=>rfl)) (by rfl) (by trivial)) (@zH _ _ _ (@zU _ _ _ _ (@zV _ _ _ _ _ (@zA _ _ _ _ _ (@qv _ 1 _ _ (by trivial)) (@zA _ _ _ _ _ (@zY _ _ _ _ _ _ _ _ _ zi (by rfl) G.tuple (by rfl) (@zA _ _ _ _ _ (@qv _ 2 _ _ (by trivial)) zB (by rfl)) (by decide) (by decide) (by rfl) (by rfl)) (@zA _ _ _ _ _ (@qv _ 6 _ _ (by trivial)) zB (by rfl)) (by rfl)) (by rfl))))))))),?_⟩;refine⟨(by show 8<=sizeLine;decide),λt D=>⟨_,rfl,l,8,rfl,by decide,by decide,S.keep (zC D _),λv H1 hv S1 B1=>?_⟩⟩;obtain⟨lanes,lm,la⟩:=wQ (xs:=[1,2,2,3,4,3,4,6]) (v:=v) (by show v<8;lia);have lb:1<=lanes/\lanes<=6:=(show ∀ n∈[1,2,2,3,4,3,4,6],1<=n/\n<=6 by decide) lanes lm;obtain⟨l1,l6⟩:=lb;refine⟨t,_,_,_,rfl,rfl,SqL.of (B1 t _ (zT D _) (S.ne D).symm),la,?_⟩;have ai:But l H H1:=(But.of (zC D _)).trans B1;clear D B1 la lm;refine⟨(by show 0<=sizeLine;decide),λlf I=>?_⟩;have q:=S1.ne I;have sf:=zC I (.lst []);have ao:Frs l H lf:=ai.frs I;refine⟨(by show 8<=sizeLine;decide),λt D=>⟨_,rfl,l,8,rfl,by decide,by decide,(S1.keep sf).keep (zC D _),λv2 Y aw X B2=>?_⟩⟩;obtain⟨many,mm,ma⟩:=wQ (xs:=[0,1,2,3,4,5,6,8]) (v:=v2) (by show v2<8;lia);have mb:many<=8:=(show ∀ n∈[0,1,2,3,4,5,6,8],n<=8 by decide) many mm;refine⟨t,_,_,_,rfl,rfl,SqL.of (B2 t _ (zT D _) ((S1.keep sf).ne D).symm),ma,?_⟩;have ak:=B2 lf _ (zC D _ _ _ (zT I (.lst []))) q.symm;have au:But l H Y:=((ai.trans (But.of sf)).trans (But.of (zC D _))).trans B2;clear D B2 ma mm I sf;refine⟨_,rfl,_,_,rfl,rfl,.inr ⟨_,rfl,_,_,rfl,rfl,.inl ⟨by lia,by lia⟩,?_⟩⟩
 have cb:((many:Int)*(if decide ((1:Int)<lanes)=true then 1 else 0))=((if 1<lanes then many else 0:Nat):Int):=by
  by_cases z:1<lanes
  ·rw[JE (Jw (by lia)),JE z];lia
  ·rw[Jv (by rw[Jj (by lia)];exact Jf),Jv z];lia
 have cl:(if 1<lanes then many else 0)<=8:=by split<;>lia
 refine⟨_,rfl,by rw[cb];lia,by rw[cb];lia,?_⟩;rw[cb];generalize ab:(if 1<lanes then many else 0)=cnt at cl
 refine xI (lo:=0) (n:=((cnt:Nat):Int).toNat) (λi σ Y=>(∃ w3 w4 w5 w6,σ=[some (.ref l),some (.int (lanes:Nat)),some (.ref lf),w3,w4,w5,w6])/\Pk3 Y l/\But l H Y/\∃ o fs,Y lf=some (.lst o)/\Prs Y o fs/\fs.length=i/\∀ f∈fs,f.1<lanes/\f.2<lanes/\f.1≠f.2)
  ⟨⟨_,_,_,_,rfl⟩,X,au,[],[],ak,trivial,rfl,λf hf=>by simp at hf⟩ ?_ ?_
 ·rintro i σ Y hi ⟨⟨w3,w4,w5,w6,rfl⟩,X,B2,o,fs,h2,p2,fl,T⟩
  have l2:1<lanes:=by
   by_cases z:1<lanes
   ·exact z
   ·rw[Jv z]at ab;lia
  refine⟨_,rfl,_,rfl,l,lanes,rfl,by lia,by lia,X,λone H3 ho S3 Z=>?_⟩;refine⟨_,rfl,_,_,rfl,rfl,_,rfl,_,rfl,_,_,rfl,rfl,l,_,rfl,by lia,by lia,S3,λd H4 hd S4 B4=>?_⟩;refine⟨_,_,rfl,rfl,_,rfl,_,_,rfl,rfl,by lia,?_⟩;have u:one<lanes:=by lia
  obtain⟨O,N⟩:=re (one:=one) (d:=d) (lanes:=lanes) u (by lia);have ec:((one:Int)+1+d)%lanes=(((one+1+d)%lanes:Nat):Int):=by rw[Int.natCast_emod,Int.natCast_add,Int.natCast_add];rfl
  dsimp only;rw[ec];generalize (one+1+d)%lanes=b at O N;have h4:=B4 lf _ (Z lf _ h2 q.symm) q.symm;have p4:=p2.tups ((Z.tups3 X).trans (B4.tups3 S3));have aq:But l H H4:=(B2.trans Z).trans B4;have pl:=p4.len;refine⟨_,rfl,.inl ⟨rfl,_,SqL.of h4⟩,_,rfl,_,rfl,(by show 2<=sizeLine;decide),λJ B=>⟨_,rfl,_,rfl,(by show 2<=sizeLine;decide),λt2 ad=>?_⟩⟩;have s1:=zC B (.tup [.int (one:Nat),.int (b:Nat)]);have s2:=zC ad (.tup [.int (one:Nat),.int (b:Nat)]);have u2:=s1.trans s2;refine⟨_,rfl,_,rfl,_,rfl,(by show 2<=sizeLine;decide),λy R=>⟨(by show 1<=sizeLine;decide),λl3 ag=>?_⟩⟩;have s3:=zC R (.tup [.int (one:Nat),.int (b:Nat)]);have s4:=zC ag (.lst [.ref y]);have u4:=(u2.trans s3).trans s4;refine⟨lf,l3,_,_,rfl,rfl,u4 _ _ h4,zT ag _,by rw[Js];show o.length+1<=_;lia,λl4 af=>?_⟩;have s5:=zC af (.lst (o++[.ref y]));have u5:=u4.trans s5;have k1:FkOk _ lanes (.ref J):=⟨J,(one,b),rfl,s5 _ _ (s4 _ _ (s3 _ _ (s2 _ _ (zT B _)))),u,O,N⟩;have k2:FkOk _ lanes (.ref t2):=⟨t2,(one,b),rfl,s5 _ _ (s4 _ _ (s3 _ _ (zT ad _))),u,O,N⟩
  obtain⟨x0,e0,k0⟩:∃ x0,(o++[V.ref y])[0]?=some x0/\FkOk (L2.upd (L2.upd (L2.upd (L2.upd (L2.upd H4 J (.tup [.int (one:Nat),.int (b:Nat)])) t2 (.tup [.int (one:Nat),.int (b:Nat)])) y (.tup [.int (one:Nat),.int (b:Nat)])) l3 (.lst [.ref y])) l4 (.lst (o++[.ref y]))) lanes x0:=by
   cases o with
   | nil=>exact⟨_,rfl,y,(one,b),rfl,s5 _ _ (s4 _ _ (zT R _)),u,O,N⟩
   | cons p o =>
    obtain⟨a,g,e,eg,ha⟩:=p4.get (i:=0) (p:=p) rfl;exact⟨p,rfl,a,g,e,u5 _ _ ha,T g (Jq eg)⟩
  have h5:=u5 _ _ h4;have p5:=p4.tups (Tups.of u5);have S5:=S4.keep u5;have B5:=aq.trans (But.of (l:=l) u5);refine⟨l4,_,0,x0,rfl,rfl,SqL.of (zT af _),zx (j:=0) e0,?_⟩;generalize L2.upd (L2.upd (L2.upd (L2.upd (L2.upd H4 J (.tup [.int (one:Nat),.int (b:Nat)])) t2 (.tup [.int (one:Nat),.int (b:Nat)])) y (.tup [.int (one:Nat),.int (b:Nat)])) l3 (.lst [.ref y])) l4 (.lst (o++[.ref y]))=H5 at *;refine⟨(by show 3<=sizeLine;decide),λl5 m=>⟨_,rfl,l,3,rfl,by decide,by decide,S5.keep (zC m _),λU H6 aj S6 M=>?_⟩⟩;have L:=zC m (.lst [.ref J,.ref t2,x0]);have av:U<3:=by lia
  have W:=(Tups.of L).trans (M.tups3 (S5.keep L))
  obtain⟨x,ex,kx⟩:∃ x,[V.ref J,V.ref t2,x0][U]?=some x/\FkOk H6 lanes x:=by
   rcases U with _|_|_|U
   ·exact⟨_,rfl,k1.tups W⟩
   ·exact⟨_,rfl,k2.tups W⟩
   ·exact⟨_,rfl,k0.tups W⟩
   ·lia
  refine⟨l5,_,_,x,rfl,rfl,SqL.of (M l5 _ (zT m _) (S5.ne m).symm),zx ex,?_⟩;have h6:=M lf _ (L _ _ h5) q.symm;have p6:=p5.tups W;obtain⟨a,g,rfl,ha,gk⟩:=kx;refine⟨lf,o,_,rfl,rfl,h6,by rw[Js];lia,⟨_,_,_,_,rfl⟩,S6.upd q,((B5.trans (But.of L)).trans M).upd ao,o++[.ref a],fs++[g],zE,Prs.add (f:=g) (Tups.lst h6 _ _ ha) (p6.tups (Tups.lst h6)),by rw[J9,fl];rfl,λf hf=>?_⟩;rcases Jr.mp hf with z|z
  ·exact T f z
  ·rw[Jd.mp z];exact gk
 ·rintro σ Y ⟨⟨w3,w4,w5,w6,rfl⟩,X,B2,o,fs,h2,p2,fl,T⟩
  have ap:fs.length<=8:=by rw[fl];lia
  refine⟨_,rfl,lanes,rfl,by lia,λJ B=>?_⟩;have s1:=zC B (.tup (zW (List.range lanes)));refine⟨_,rfl,_,rfl,lanes,rfl,by lia,λl2 ah=>?_⟩;have s2:=zC ah (.lst (zW (List.range lanes)));have u2:=s1.trans s2;refine⟨l,l2,zW (List.range lanes),rfl,zT ah _,by rw[zj,JS];lia,X.keep u2,λy ys H3 py R S3 Z=>?_⟩;have aa:=Z J _ (s2 _ _ (zT B _)) (X.ne B).symm;have h3:=Z lf _ (u2 _ _ h2) q.symm;have p3:=p2.tups ((Tups.of u2).trans (Z.tups3 (X.keep u2)));have ar:=(B2.trans (But.of u2)).trans Z;refine⟨(by show 2<=sizeLine;decide),λl5 m=>⟨_,rfl,l,2,rfl,by decide,by decide,S3.keep (zC m _),λU H6 aj S6 M=>?_⟩⟩;have L:=zC m (.lst [.ref J,.ref y]);have W:=(Tups.of L).trans (M.tups3 (S3.keep L))
  obtain⟨x,ex,e,kx,pe⟩:∃ x,[V.ref J,V.ref y][U]?=some (.ref x)/\∃ es:List Nat,H6 x=some (.tup (zW es))/\es.Perm (List.range lanes):=by
   rcases U with _|_|U
   ·exact⟨_,rfl,_,W _ _ aa,.refl _⟩
   ·obtain⟨es,rfl,pe⟩:=tF py
    exact⟨_,rfl,es,W _ _ R,pe⟩
   ·lia
  refine⟨l5,_,_,.ref x,rfl,rfl,SqL.of (M l5 _ (zT m _) (S3.ne m).symm),zx ex,?_⟩;have h6:=M lf _ (L _ _ h3) q.symm;have p6:=p3.tups W;refine⟨_,rfl,_,rfl,lf,_,rfl,.inl ⟨SqL.of h6,λa ha=>?_⟩⟩;have s7:=zC ha (.tup o);refine⟨_,rfl,(by show 3<=sizeLine;decide),λr ae=>?_⟩;have s8:=zC ae (.tup [.int (lanes:Nat),.ref a,.ref x]);refine k r a x o ⟨lanes,fs,e⟩ _ ⟨⟨l1,by show lanes<=16;lia,by show fs.length<=128;lia,T,pe⟩,l6,ap⟩ ⟨zT ae _,s8 _ _ (zT ha _),p6.tups (Tups.of (s7.trans s8)),s8 _ _ (s7 _ _ kx)⟩ ((S6.keep s7).keep s8) ((ar.trans (But.of L)).trans (M.trans (But.of (s7.trans s8))))
end
end K46
namespace L2
open PySem PySem.Spec PyProof.Rows
section
variable [DecidableEq κ]
theorem RelO.isSome_eq {o:Option V}{u:Option Value}(r:RelO o u):o.isSome=u.isSome:=by
 cases o with
 | none=>cases u with
  | none=>rfl
  | some _=>exact(show False from r).elim
 | some _=>cases u with
  | none=>exact(show False from r).elim
  | some _=>rfl
end
theorem cJ {P:Program}{w:World}{k:Key}{u:Value}(r:RelV (kV k) u):(yW P w).is k u=true:=by
 cases k with
 | inl i=>obtain⟨t,e⟩:=(show ∃ t,u=Value.int i t from r);subst e;exact qK P w i t
 | inr x=>obtain⟨t,e⟩:=(show ∃ t,u=Value.str x t from r);subst e;exact qJ P w x t
theorem tU {P:Program}{w:World}:∀ {ks:List Key}{us:List Value},Vals (ks.map kV) us->ItemsAre (yW P w) ks us
 | [],_,r=>by rw[List.map_nil]at r;cases r;exact .nil
 | k::ks,_,r=>by
  rw[Y0]at r
  cases r with
  | cons h t=>exact .cons (cJ h) (tU t)
section
variable {P:Program}{w:World}{H:Hp}{h:Heap}{a:Addr}
theorem gE {u:HO}(ok:HOk P w H h)(e:Rd H a u):ObjOk P w H h a u:=e.ok ok
theorem fu {ks:List Key}(ok:HOk P w H h)(e:H a=some (.tup (ks.map kV))):(tupleKind (yW P w)).is h ks a:=by
 obtain⟨_,b,r,o,f,d,n,c⟩:=(show ObjOk P w H h a (.tup (ks.map kV)) from ok a _ e);exact⟨o,b.toArray,n,f,d,c.1,by simpa using tU r⟩
end
section
variable {X:Cx}{pins:List (Addr × Obj)}{σ:St}{H:Hp}{s:Shared}{a:Addr}
theorem nL {h':Heap}{t':Nat}{ob:HO}(I:Inv X pins σ H s)(c:Mut (H a))(d:Heap.SameBut a s.heap h')(f:∃ q,h'.get? a=some q)(new:ObjOk X.prog X.w (upd H a ob) h' a ob) :
  Inv X pins σ (upd H a ob) { s with heap:=h',toks:=t' } :=
 I.write (x:=a) (e:=a) c (.inl rfl) (λb q g z=>(d.2 b g).trans z) f new
end
structure M2 (X:Cx) (o:Expr) (m:Str) (apos:Pos) (e f:Expr) (cpos:Pos):Prop where
 base:attributeBase o m X.env (eval o X.env)=eval o X.env
 few:((backTo cpos (starEach [e,f] X.env)).all (λx=>!x.1) && (backToKw cpos (keywordEach [] X.env)).all (λx=>x.1.isSome)
  && decide (([e,f]:List Expr).length+([]:List Keyword).length+(if ([]:List Keyword).isEmpty then 0 else 1)<30))=true
 line:(apos.endLine == cpos.line)=true
 trees:backTo cpos (starEach [e,f] X.env)=[(false,eval e X.env),(false,eval f X.env)]
end L2
namespace Bn
open PySem L2 Own
structure Grp where
 many:Int
 lane:Nat
 fork:Nat
theorem oX (xs:List Int)(i:Nat)(v:Int)(h:i<xs.length):(xs.map V.int).take i++[V.int v]++(xs.map V.int).drop (i+1)=(xs.set i v).map V.int:=by
 rw[List.set_eq_take_append_cons_drop,JE h,JB,Y0,List.map_take,List.map_drop,Ys];rfl
def part (m:Int)(lane k:Nat):List Grp:=if m=0 then [] else [⟨m,lane,k⟩]
end Bn
namespace L2
open PySem Own
section
variable {X:Cx}
theorem iM (i:X.A.units<cLine):OpR X (compareOp .Eq) (λx y H Q=>∃ a b xs,x=.ref a/\y=.ref b/\SqL X.K H a xs/\SqL X.K H b []/\Q (.bl xs.isEmpty) H):=by
 rintro pins s σ H x y v u Q I l k ⟨a,b,xs,rfl,rfl,o,n,q⟩;cases l;cases k;obtain⟨r,c,g,_⟩:=I.list o;obtain⟨p,m,f,_⟩:=I.list n;cases m;have d:=c.length
 match xs,c,d,q with
 | [],.nil,_,q=>exact SeqAt.RcAt.lists (e:=λ_=>true) g.isList f.isList rfl i (λj h=>absurd h (Nat.not_lt_zero _)) X.prog X.w _ _ ⟨.bl _,H,I,rfl,q⟩
 | z::t,c,d,q=>exact SeqAt.RcAt.lists_lengths g.isList f.isList (by rw[Je,<- d];rfl) i X.prog X.w _ _ ⟨.bl _,H,I,rfl,q⟩
end
end L2
namespace L2
open PySem Own PyProof.Rows PySem.Spec
section
variable {X:Cx}
def eX (i j k:Nat)(b:TA):TS:=λD σ H=>b σ H λa c=>∃ u v w,a=[u,v,w]/\D.nx (((σ.set i (some u)).set j (some v)).set k (some w)) c
theorem qp {u v w:V}{us:List Value}(r:Vals [u,v,w] us):∃ a b c,us=[a,b,c]/\RelV u a/\RelV v b/\RelV w c:=by
 cases r with
 | cons p r =>
  obtain⟨b,c,rfl,q,t⟩:=Vals.two r;exact⟨_,b,c,rfl,p,q,t⟩
theorem iK {i j k:Nat}{x y z:Str}{a b c:Expr}{r:TA}{pos m py l pt:Pos}{kt k2 pt2}(W:X.calm=true)(n:X.N.Nodup)(hi:X.N[i]?=some x)(V:X.N[j]?=some y)(U:X.N[k]?=some z)(P:i≠j)(O:i≠k)(N:j≠k)(B:X.env.scope.names.lookup x=some .local)(A:X.env.scope.names.lookup y=some .local)(t:X.env.scope.names.lookup z=some .local)(ha:PA X [a,b,c] r)(Q:swappedStores [.Tuple [.Name x m,.Name y py,.Name z l] kt pt] (.Tuple [a,b,c] k2 pt2) X.env=pure (some [x,y,z]))(R:swapsWithSole [.Tuple [.Name x m,.Name y py,.Name z l] kt pt] (.Tuple [a,b,c] k2 pt2) pos.line X.env=pure false:=by rfl) :
  PS X (.Assign [.Tuple [.Name x m,.Name y py,.Name z l] kt pt] (.Tuple [a,b,c] k2 pt2) pos) (eX i j k r):=λpins s σ H D I h=>by
 rw[exec_Assign_arm];refine J0 (Yd ?_);rw[R];refine J0 (J7 ?_);rw[Jv Jf];refine J0 (PyProof.Rows.Tuple_ (thn (ha _ pins s σ H _ I h) λus d q=>?_));obtain⟨vs,E,I1,L,u,v,w,rfl,M⟩:=q;obtain⟨f,e,u3,rfl,K,G,F⟩:=qp L;refine JF ?_ (by show 3<=sizeLine;decide);have J:Inv X pins σ E { d with heap:=d.heap.push { cls:=.type "tuple",data:=.seq [f,e,u3].toArray } }:=I1.kept (t':=d.toks) λ_ _ g=>J2 _ g;rw[Q];refine J0 (J7 ?_);show wpAny (model X.prog X.w) X.A (do rule "assign.swapped-stores";let items <- unpackItems (.ref d.heap.objs.size) 3 none;assignInOrder [λv=>bindName X.env z v,λv=>bindName X.env y v,λv=>bindName X.env x v] items.reverse;pure Flow.next) _ _ _;refine J0 (YY (J0 (PyProof.Rows.unpackItems_tuple (items:=#[f,e,u3]) (I.ok.hd W) (IsTup.new d.heap _) λT S=>?_)));have J3:=J.kept (h':=T) (t':=d.toks) λb o g=>S b o (Jt (Jg g)) g;show wpAny _ _ (assignInOrder [λv=>bindName X.env z v,λv=>bindName X.env y v,λv=>bindName X.env x v] [u3,e,f] >>= λ_=>pure Flow.next) _ _ _;refine J0 (YX (wpAny_bindName (xM J3 n U (.inl t) F (λs2 Z=>?_) (.inr t))));refine YX (wpAny_bindName (xM Z n V (.inl A) G (λs3 Y=>?_) (.inr A)));refine YX (wpAny_bindName (xM Y n hi (.inl B) K (λs4 C=>assignInOrder_nil (J7 ?_)) (.inr B)))
 have p:((σ.set k (some w)).set j (some v)).set i (some u)=((σ.set i (some u)).set j (some v)).set k (some w):=by
  rw[List.set_comm _ _ (Ne.symm P),List.set_comm _ _ (Ne.symm O),List.set_comm _ _ (Ne.symm N)]
 rw[p]at C;exact⟨_,E,C,M⟩
end
end L2
namespace Bn
open PySem L2 Own
abbrev Sn:=List Int × List Grp × List Int
abbrev Sn.none (N:Nt):Sn:=(List.replicate N.forks.length 0,[],List.replicate N.lanes 0)
end Bn
namespace K46
open PySem L2 Own Bn
abbrev gq:Stmt:=top 33
def kI:Sp:=λi H Q _=>∃ l r fr k j N h b,i=[.ref l,.ref r]/\Pk3 H l/\Few h b N/\b<=100/\NetAt H r fr k j N/\∀ g e f d c a,Few h (b+1) c->c.lanes=N.lanes->NetAt a g e f d c->Pk3 a l->But l H a->Q (.ref g) a
theorem gK (xs:List V)(i j:Nat):yz xs (some (i:Int)) (some (j:Int))=(xs.drop i).take (j-i):=by
 unfold yz;rw[HT.sIx_nat,HT.sIx_nat];by_cases c:i<=xs.length
 ·rw[YV c]
  by_cases d:j<=xs.length
  ·rw[YV d]
  ·rw[Nat.min_eq_right (by lia),JP (by rw[JW];lia),JP (by rw[JW];lia)]
 ·rw[List.drop_of_length_le (show xs.length<=i by lia),List.drop_of_length_le (by lia),List.take_nil,List.take_nil]
theorem nO (xs:List V)(i:Nat):yz xs (some (i:Int)) none=xs.drop i:=by
 unfold yz;rw[HT.sIx_none,HT.sIx_nat];by_cases c:i<=xs.length
 ·rw[YV c]
  exact JP (by rw[JW];exact Jb _)
 ·rw[List.drop_of_length_le (show xs.length<=i by lia),List.drop_of_length_le (by lia),List.take_nil]
theorem nM (xs:List V)(i:Nat):yz xs none (some (i:Int))=xs.take i:=by
 unfold yz;rw[HT.sIx_none,HT.sIx_nat,List.drop_zero,Nat.sub_zero];by_cases c:i<=xs.length
 ·rw[YV c]
 ·rw[JP (by lia),JP (by lia)]
theorem vB {H:Hp}:∀ {ps:List V}{fs:List (Nat × Nat)}(n:Nat),Prs H ps fs->Prs H (ps.take n) (fs.take n)
 | [],[],n,_=>by rw[List.take_nil,List.take_nil];trivial
 | _::_,_::_,0,_=>trivial
 | _::_,_::_,n+1,⟨x,r⟩=>⟨x,vB n r⟩
theorem xP {H:Hp}:∀ {ps:List V}{fs:List (Nat × Nat)}(n:Nat),Prs H ps fs->Prs H (ps.drop n) (fs.drop n)
 | [],[],n,_=>by rw[List.drop_nil,List.drop_nil];trivial
 | _::_,_::_,0,h=>h
 | _::_,_::_,n+1,⟨_,r⟩=>xP n r
def FksOk (lanes:Nat)(a:List (Nat × Nat)):Prop:=∀ f∈a,f.1<lanes/\f.2<lanes/\f.1≠f.2
theorem FksOk.app {lanes:Nat}{a b:List (Nat × Nat)}(x:FksOk lanes a)(y:FksOk lanes b):FksOk lanes (a++b):=λf c=>(Jr.mp c).elim (x f) (y f)
theorem FksOk.take {lanes:Nat}{a:List (Nat × Nat)}(x:FksOk lanes a)(n:Nat):FksOk lanes (a.take n):=λf b=>x f (List.mem_of_mem_take b)
theorem FksOk.drop {lanes:Nat}{a:List (Nat × Nat)}(x:FksOk lanes a)(n:Nat):FksOk lanes (a.drop n):=λf b=>x f (List.mem_of_mem_drop b)
section
variable {P:Program}{w:World}{K:PySem.W.Frag}{mg:Str->Option Value}{base:Heap}
theorem pD:FnScope ["_law_left_here","_law_net_here","_law_lanes","_law_forks","_law_ends_here","_law_way","_law_at","_law_k","_law_here","_law_row"] ["_law_left_here","_law_net_here"] (zN gq):=by trivial
theorem fZ {f fK:Addr}{fd dK:FuncData}(F:Fun K "_law_changed" "_law_changed" gq f fd) (G:Mgs mg) (W:Use P w K mg base "_law_pick" ["_law_left_here","_law_many"] 1 yh fK dK):FnOk P w K mg base CX0 2 f fd ["_law_left_here","_law_net_here"] kI:=by
 refine F.ok pD (λvs H Q E h=>?_) (λaE A outer s H vs Q E hr h=>?_)
 ·obtain⟨l,r,fr,er,C,N,lb,fb,rfl,_⟩:=h
  rfl
 obtain⟨l,r,fr,er,C,N,lb,fb,rfl,S,ah,aD,na,k⟩:=h;refine⟨_,(@zF _ _ _ _ _ (@yN _ _ _ _ _ _ (@qv _ 1 _ _ (by trivial)) (@yL _ _ _ _ _ _ rfl (@zQ _ _ _ _ _ (@zM _ _ 2 _ pD.nd rfl (.inl rfl) (by trivial)) (@zQ _ _ _ _ _ (@zM _ _ 3 _ pD.nd rfl (.inl rfl) (by trivial)) (@zQ _ _ _ _ _ (@zM _ _ 4 _ pD.nd rfl (.inl rfl) (by trivial)) yC (by rfl)) (by rfl)) (by rfl)) (by rfl) (by rfl)) (by rfl) (by rfl) (by rfl)) (@zF _ _ _ _ _ (iK (i:=5) (j:=6) (k:=7) rfl pD.nd rfl rfl rfl (by decide) (by decide) (by decide) rfl rfl rfl (@zA _ _ _ _ _ (@zK _ _ _ _ _ _ _ _ _ _ _ _ _ _ _ _ W.ok hr (by rfl) W.m W.kp W.b .nil zS (@zA _ _ _ _ _ (@qv _ 0 _ _ (by trivial)) (@zA _ _ _ _ _ zD zB (by rfl)) (by rfl)) (by decide) (by rfl) (by rfl)) (@zA _ _ _ _ _ (@zK _ _ _ _ _ _ _ _ _ _ _ _ _ _ _ _ W.ok hr (by rfl) W.m W.kp W.b .nil zS (@zA _ _ _ _ _ (@qv _ 0 _ _ (by trivial)) (@zA _ _ _ _ _ (@zP _ _ _ _ _ _ _ _ yI (@zL _ _ _ _ _ _ _ _ _ zR (by rfl) G.len Jy (@zA _ _ _ _ _ (@qv _ 3 _ _ (by trivial)) zB (by rfl)) (by decide) (by decide) (by rfl) (by rfl)) zD) zB (by rfl)) (by rfl)) (by decide) (by rfl) (by rfl)) (@zA _ _ _ _ _ (@zK _ _ _ _ _ _ _ _ _ _ _ _ _ _ _ _ W.ok hr (by rfl) W.m W.kp W.b .nil zS (@zA _ _ _ _ _ (@qv _ 0 _ _ (by trivial)) (@zA _ _ _ _ _ (@qv _ 2 _ _ (by trivial)) zB (by rfl)) (by rfl)) (by decide) (by rfl) (by rfl)) zB (by rfl)) (by rfl)) (by rfl)) (by rfl)) (@zF _ _ _ _ _ (@zZ _ _ 8 _ _ _ _ pD.nd rfl (.inl rfl) (@zu _ _ _ _ _ _ _ _ _ _ yK (@qv _ 3 _ _ (by trivial)) (@zk _ _ _ (@qv _ 6 _ _ (by trivial))) (@zk _ _ _ (@zP _ _ _ _ _ _ _ _ yI (@qv _ 6 _ _ (by trivial)) zD))) (by rfl) (by trivial)) (@zF _ _ _ _ _ (@yH _ _ _ _ _ _ _ _ (@zp _ _ _ _ _ _ _ _ xD (@qv _ 5 _ _ (by trivial)) zD (zt _)) (@zH _ _ _ (@zU _ _ _ _ (@zV _ _ _ _ _ (@zA _ _ _ _ _ (@qv _ 2 _ _ (by trivial)) (@zA _ _ _ _ _ (@zP _ _ _ _ _ _ _ _ yO (@zP _ _ _ _ _ _ _ _ yO (@zu _ _ _ _ _ _ _ _ _ _ yK (@qv _ 3 _ _ (by trivial)) yB (@zk _ _ _ (@qv _ 6 _ _ (by trivial)))) (@zY _ _ _ _ _ _ _ _ _ zi (by rfl) G.tuple (by rfl) (@zA _ _ _ _ _ (@wc _ _ _ _ none _ _ _ (eE K 2 (qT (x6 0) (qT (x6 1) eF))) _ _ ["_law_a","_law_b"] [none,none] rfl (@yg _ _ _ _ (@qv _ 8 _ _ (by trivial))) (CapOk.of (by kernel_rfl)) (λ_ _ _ _ _=>(@yL _ _ _ _ _ _ rfl (@zQ _ _ _ _ _ (@zM _ _ 0 _ (show (["_law_a","_law_b"]:List Str).Nodup from by decide +kernel) rfl (.inl rfl) (.inr rfl)) (@zQ _ _ _ _ _ (@zM _ _ 1 _ (show (["_law_a","_law_b"]:List Str).Nodup from by decide +kernel) rfl (.inl rfl) (.inr rfl)) yC (by rfl)) (by rfl)) (by rfl) (by rfl))) (λ_ _ _ _ _=>yj) (λ_ _ _ _ _=>(@zV _ _ _ _ _ (@zA _ _ _ _ _ (@qv _ 1 _ _ (by trivial)) (@zA _ _ _ _ _ (@qv _ 0 _ _ (by trivial)) zB (by rfl)) (by rfl)))) (by intro _;rfl)) zB (by rfl)) (by decide) (by decide) (by rfl) (by rfl))) (@zu _ _ _ _ _ _ _ _ _ _ yK (@qv _ 3 _ _ (by trivial)) (@zk _ _ _ (@zP _ _ _ _ _ _ _ _ yI (@qv _ 6 _ _ (by trivial)) zD)) yB)) (@zA _ _ _ _ _ (@qv _ 4 _ _ (by trivial)) zB (by rfl)) (by rfl)) (by rfl))))) zq) (@zF _ _ _ _ _ (@yH _ _ _ _ _ _ _ _ (@zp _ _ _ _ _ _ _ _ xD (@qv _ 5 _ _ (by trivial)) zD (zt _)) (@zH _ _ _ (@zU _ _ _ _ (@zV _ _ _ _ _ (@zA _ _ _ _ _ (@qv _ 2 _ _ (by trivial)) (@zA _ _ _ _ _ (@zP _ _ _ _ _ _ _ _ yO (@zu _ _ _ _ _ _ _ _ _ _ yK (@qv _ 3 _ _ (by trivial)) yB (@zk _ _ _ (@qv _ 6 _ _ (by trivial)))) (@zu _ _ _ _ _ _ _ _ _ _ yK (@qv _ 3 _ _ (by trivial)) (@zk _ _ _ (@zP _ _ _ _ _ _ _ _ yI (@qv _ 6 _ _ (by trivial)) zD)) yB)) (@zA _ _ _ _ _ (@qv _ 4 _ _ (by trivial)) zB (by rfl)) (by rfl)) (by rfl))))) zq) (@zF _ _ _ _ _ (@yH _ _ _ _ _ _ _ _ (@zp _ _ _ _ _ _ _ _ xD (@qv _ 5 _ _ (by trivial)) zD (zt _)) (@zH _ _ _ (@zU _ _ _ _ (@zV _ _ _ _ _ (@zA _ _ _ _ _ (@qv _ 2 _ _ (by trivial)) (@zA _ _ _ _ _ (@zP _ _ _ _ _ _ _ _ yO (@zP _ _ _ _ _ _ _ _ yO (@zu _ _ _ _ _ _ _ _ _ _ yK (@qv _ 3 _ _ (by trivial)) yB (@zk _ _ _ (@qv _ 6 _ _ (by trivial)))) (@qv _ 8 _ _ (by trivial))) (@zu _ _ _ _ _ _ _ _ _ _ yK (@qv _ 3 _ _ (by trivial)) (@zk _ _ _ (@qv _ 6 _ _ (by trivial))) yB)) (@zA _ _ _ _ _ (@qv _ 4 _ _ (by trivial)) zB (by rfl)) (by rfl)) (by rfl))))) zq) (@zF _ _ _ _ _ (@yH _ _ _ _ _ _ _ _ (@zp _ _ _ _ _ _ _ _ xD (@qv _ 5 _ _ (by trivial)) zD (zt _)) (@zH _ _ _ (@zU _ _ _ _ (@zV _ _ _ _ _ (@zA _ _ _ _ _ (@qv _ 2 _ _ (by trivial)) (@zA _ _ _ _ _ (@zP _ _ _ _ _ _ _ _ yO (@zP _ _ _ _ _ _ _ _ yO (@zP _ _ _ _ _ _ _ _ yO (@zu _ _ _ _ _ _ _ _ _ _ yK (@qv _ 3 _ _ (by trivial)) yB (@zk _ _ _ (@qv _ 6 _ _ (by trivial)))) (@zu _ _ _ _ _ _ _ _ _ _ yK (@qv _ 3 _ _ (by trivial)) (@zk _ _ _ (@zP _ _ _ _ _ _ _ _ yI (@qv _ 6 _ _ (by trivial)) zD)) (@zk _ _ _ (@zP _ _ _ _ _ _ _ _ yI (@qv _ 6 _ _ (by trivial)) zD)))) (@qv _ 8 _ _ (by trivial))) (@zu _ _ _ _ _ _ _ _ _ _ yK (@qv _ 3 _ _ (by trivial)) (@zk _ _ _ (@zP _ _ _ _ _ _ _ _ yI (@qv _ 6 _ _ (by trivial)) zD)) yB)) (@zA _ _ _ _ _ (@qv _ 4 _ _ (by trivial)) zB (by rfl)) (by rfl)) (by rfl))))) zq) (@zF _ _ _ _ _ (@zZ _ _ 9 _ _ _ _ pD.nd rfl (.inl rfl) (@zY _ _ _ _ _ _ _ _ _ yP (by rfl) G.list (by rfl) (@zA _ _ _ _ _ (@qv _ 4 _ _ (by trivial)) zB (by rfl)) (by decide) (by decide) (by rfl) (by rfl)) (by rfl) (by trivial)) (@zF _ _ _ _ _ (@yN _ _ _ _ _ _ (@zV _ _ _ _ _ (@zA _ _ _ _ _ (@zX _ _ _ _ _ _ _ zv (@qv _ 4 _ _ (by trivial)) (@qv _ 7 _ _ (by trivial)) (λ_ _=>rfl)) (@zA _ _ _ _ _ (@zX _ _ _ _ _ _ _ zv (@qv _ 4 _ _ (by trivial)) zD (λ_ _=>rfl)) zB (by rfl)) (by rfl))) (@yL _ _ _ _ _ _ rfl (@zQ _ _ _ _ _ (@xv _ _ _ _ _ _ _ (@qv _ 9 _ _ (by trivial)) zD yu (by intro _;rfl)) (@zQ _ _ _ _ _ (@xv _ _ _ _ _ _ _ (@qv _ 9 _ _ (by trivial)) (@qv _ 7 _ _ (by trivial)) yu (by intro _;rfl)) yC (by rfl)) (by rfl)) (by rfl) (by rfl)) (by rfl) (by rfl) (by rfl)) (@zH _ _ _ (@zU _ _ _ _ (@zV _ _ _ _ _ (@zA _ _ _ _ _ (@qv _ 2 _ _ (by trivial)) (@zA _ _ _ _ _ (@qv _ 3 _ _ (by trivial)) (@zA _ _ _ _ _ (@zY _ _ _ _ _ _ _ _ _ zi (by rfl) G.tuple (by rfl) (@zA _ _ _ _ _ (@qv _ 9 _ _ (by trivial)) zB (by rfl)) (by decide) (by decide) (by rfl) (by rfl)) zB (by rfl)) (by rfl)) (by rfl)))))))))))))),?_⟩;have ok:=ah.ok;have ao:=ok.l16;have l1:=ok.l1;have fk:=ah.fk;have pl:=na.prs.len;refine⟨_,rfl,r,_,rfl,SqT.of na.net,rfl,_,_,rfl,_,_,rfl,_,_,rfl,rfl,?_⟩;refine⟨_,rfl,l,5,rfl,by decide,by decide,S,λway H1 hw S1 B1=>?_⟩;have ae:=na.tups (B1.tups3 S);refine⟨_,rfl,_,rfl,fr,C,rfl,.inr (SqT.of ae.forks),_,_,rfl,rfl,l,_,rfl,by lia,by lia,S1,λd H2 aA S2 B2=>?_⟩;refine⟨_,rfl,_,rfl,l,_,rfl,by lia,by lia,S2,λL H3 hk S3 B3=>⟨_,_,_,rfl,?_⟩⟩;have y:=(ae.tups (B2.tups3 S1)).tups (B3.tups3 S2);have B':But l H H3:=(B1.trans B2).trans B3;clear ae B1 B2 B3 S1 S2;have p2:d<=C.length:=by lia
 refine⟨_,rfl,_,rfl,_,rfl,_,rfl,_,_,rfl,rfl,_,rfl,fr,C,rfl,y.forks,λhh H4 s4 ad=>?_⟩;have e1:((d:Nat):Int)+1=((d+1:Nat):Int):=rfl;have e2:((d:Nat):Int)+2=((d+2:Nat):Int):=rfl;rw[e1,gK,show d+1-d=1 by lia]at ad;have v:FksOk N.lanes N.forks:=ok.fk;have ak:=ah.ln;have bl:N.forks.length<=100:=by lia
 have fin:∀ (a:Addr) (qs:List V) (gs:List (Nat × Nat)) (Y:Hp),Same H3 Y->Y a=some (.tup qs)->Prs Y qs gs->FksOk N.lanes gs->gs.length<=fb+1->∀ q,Y q=none->Q (.ref q) (L2.upd Y q (.tup [.int (N.lanes:Nat),.ref a,.ref er])):=λa qs gs Y J ha pr go gl q hq=>by
  have U:=zC hq (.tup [.int (N.lanes:Nat),.ref a,.ref er]);have u:=J.trans U;exact k q a er qs ⟨N.lanes,gs,N.ends⟩ _ ⟨⟨l1,ao,by show gs.length<=128;lia,go,ok.en⟩,ak,gl⟩ rfl ⟨zT hq _,U _ _ ha,pr.tups (Tups.of U),u _ _ y.ends⟩ (S3.keep u) (B'.trans (But.of u))
 have I:=y.prs;have f4:=s4 _ _ y.forks;have aB:((C.drop d).take 1).length<=1:=by rw[Jh];lia
 have aa:=vB 1 (xP d I);have aC:((N.forks.drop d).take 1).length<=1:=by rw[Jh];lia
 have pA:=vB d I;have lA:(N.forks.take d).length=d:=by rw[Jh];lia
 have az:(C.take d).length=d:=by rw[Jh];lia
 have lD:∀ n,(N.forks.drop n).length=N.forks.length-n:=λn=>JW;have ab:∀ n,(C.drop n).length=N.forks.length-n:=λn=>by rw[JW,pl]
 dsimp only[x6];refine⟨_,rfl,rfl,_,rfl,ve (λ_=>?_) (λ_=>?_)⟩
 ·refine⟨_,rfl,_,rfl,_,rfl,_,rfl,fr,C,rfl,f4,λp1 Y J X=>?_⟩
  rw[nM]at X;have Z:=s4.trans J;have aq:=J _ _ ad;have av:=aa.tups (Tups.of Z);refine⟨_,rfl,hh,rfl,⟨_,SqT.of aq⟩,λlc ag=>?_⟩;have U:=zC ag (.lst []);refine xy (K:=K) (a:=hh) (xs:=(C.drop d).take 1) (λi acc σ H6=>(∃ v0 v1,σ=[v0,v1])/\Same Y H6/\H6 lc=some (.lst acc)/\acc.length=i/\Prs H6 acc ((((N.forks.drop d).take 1).take i).map λg=>(g.2,g.1))) ⟨⟨_,_,rfl⟩,U,zT ag _,rfl,trivial⟩ (λi acc σ H6 z=>⟨z.2.2.1,SqT.of (z.2.1 _ _ aq)⟩) ?_ ?_
  ·rintro i x acc σ H6 hx ⟨⟨v0,v1,rfl⟩,s7,h7,al,p7⟩
   obtain⟨a,g,rfl,eg,ha⟩:=(av.tups (Tups.of s7)).get hx;have gi:=(J8.mp eg).1;refine⟨a,_,rfl,SqT.of ha,rfl,_,_,rfl,_,_,rfl,rfl,?_⟩;refine⟨_,rfl,_,rfl,(by show 2<=sizeLine;decide),λt ht=>?_⟩;have s8:=zC ht (.tup [.int (g.2:Nat),.int (g.1:Nat)]);have h8:=s8 _ _ h7;refine⟨h8,by rw[Js];lia,nx (J8.mp hx).1 ⟨⟨_,_,rfl⟩,λb o e=>?_,zE,by rw[J9,al];rfl,?_⟩⟩
   ·rw[zJ (zG e ag)];exact s8 _ _ (s7 b o e)
   ·rw[<- Y6 gi,JB,(J8.mp eg).2]
    exact Prs.add (f:=(g.2,g.1)) (Tups.lst h8 _ _ (zT ht _)) ((p7.tups (Tups.of s8)).tups (Tups.lst h8))
  rintro acc σ H6 ⟨⟨v0,v1,rfl⟩,s7,h7,al,p7⟩;rw[JP (by rw[aa.len];exact Jb _)]at p7;refine⟨lc,_,rfl,.inl ⟨SqL.of h7,λt8 ap=>?_⟩⟩;have s8:=zC ap (.tup acc);refine⟨p1,t8,_,_,rfl,rfl,s8 _ _ (s7 _ _ X),zT ap _,by rw[Js];lia,λp9 H9 s9 h9=>?_⟩;have u9:=((Z.trans s7).trans s8).trans s9;refine⟨_,rfl,_,rfl,_,_,rfl,rfl,_,rfl,fr,C,rfl,u9 _ _ y.forks,λO aj p B=>?_⟩;rw[e1,nO]at B;refine⟨p9,O,_,_,rfl,rfl,p _ _ h9,B,by rw[Js,J9,ab (d+1)];lia,λM ai D R=>?_⟩;have m:=(u9.trans p).trans D;refine⟨_,rfl,(by show 3<=sizeLine;decide),fin M _ _ _ m R (Prs.app (Prs.app (pA.tups (Tups.of m)) (p7.tups (Tups.of (((s8.trans s9).trans p).trans D)))) ((xP (d+1) I).tups (Tups.of m))) ?_ ?_⟩
  ·refine((v.take _).app λf hf=>?_).app (v.drop _)
   obtain⟨g,hg,rfl⟩:=JD.mp hf;obtain⟨a,b,c⟩:=v g (List.mem_of_mem_drop (List.mem_of_mem_take hg));exact⟨b,a,c.symm⟩
  ·rw[J9,J9,Jc,lA,lD];lia
 refine⟨_,rfl,rfl,_,rfl,ve (λ_=>?_) (λ_=>?_)⟩
 ·refine⟨_,rfl,_,rfl,_,rfl,_,rfl,fr,C,rfl,f4,λp1 Y J X=>?_⟩
  rw[nM]at X;have Z:=s4.trans J;refine⟨_,rfl,_,rfl,_,_,rfl,rfl,_,rfl,fr,C,rfl,Z _ _ y.forks,λO aj p B=>?_⟩;rw[e1,nO]at B;refine⟨p1,O,_,_,rfl,rfl,p _ _ X,B,by rw[Js,ab (d+1)];lia,λM ai D R=>?_⟩;have m:=(Z.trans p).trans D;refine⟨_,rfl,(by show 3<=sizeLine;decide),fin M _ _ _ m R (Prs.app (pA.tups (Tups.of m)) ((xP (d+1) I).tups (Tups.of m))) ((v.take _).app (v.drop _)) ?_⟩;rw[J9,lA,lD];lia
 refine⟨_,rfl,rfl,_,rfl,ve (λ_=>?_) (λ_=>?_)⟩
 ·refine⟨_,rfl,_,rfl,_,rfl,_,rfl,fr,C,rfl,f4,λp1 Y J X=>?_⟩
  rw[nM]at X;have Z:=s4.trans J;refine⟨_,rfl,p1,hh,_,_,rfl,rfl,X,J _ _ ad,by rw[Js];lia,λp9 H9 s9 h9=>?_⟩;have u9:=Z.trans s9;refine⟨_,rfl,_,rfl,_,rfl,fr,C,rfl,u9 _ _ y.forks,λO aj p B=>?_⟩;rw[nO]at B;refine⟨p9,O,_,_,rfl,rfl,p _ _ h9,B,by rw[Js,J9,ab d];lia,λM ai D R=>?_⟩;have m:=(u9.trans p).trans D;refine⟨_,rfl,(by show 3<=sizeLine;decide),fin M _ _ _ m R (Prs.app (Prs.app (pA.tups (Tups.of m)) (aa.tups (Tups.of m))) ((xP d I).tups (Tups.of m))) (((v.take _).app ((v.drop _).take _)).app (v.drop _)) ?_⟩;rw[J9,J9,lA,lD];lia
 refine⟨_,rfl,rfl,_,rfl,ve (λ_=>?_) (λ_=>?_)⟩
 ·refine⟨_,rfl,_,rfl,_,rfl,_,rfl,fr,C,rfl,f4,λp1 Y J X=>?_⟩
  rw[nM]at X;have Z:=s4.trans J;refine⟨_,rfl,_,rfl,_,_,rfl,rfl,_,rfl,_,rfl,_,_,rfl,rfl,_,rfl,fr,C,rfl,Z _ _ y.forks,λp6 H6 U h6=>?_⟩;rw[e1,e2,gK,show d+2-(d+1)=1 by lia]at h6;have l6:((C.drop (d+1)).take 1).length<=1:=by rw[Jh];lia
  have g6:((N.forks.drop (d+1)).take 1).length<=1:=by rw[Jh];lia
  refine⟨p1,p6,_,_,rfl,rfl,U _ _ X,h6,by rw[Js];lia,λp7 H7 s7 h7=>?_⟩;have u7:=(Z.trans U).trans s7;refine⟨_,rfl,p7,hh,_,_,rfl,rfl,h7,s7 _ _ (U _ _ (J _ _ ad)),by rw[Js,J9];lia,λp9 H9 s9 h9=>?_⟩;have u9:=u7.trans s9;refine⟨_,rfl,_,rfl,_,_,rfl,rfl,_,rfl,fr,C,rfl,u9 _ _ y.forks,λO aj p B=>?_⟩;rw[e2,nO]at B;refine⟨p9,O,_,_,rfl,rfl,p _ _ h9,B,by rw[Js,J9,J9,ab (d+2)];lia,λM ai D R=>?_⟩;have m:=(u9.trans p).trans D;refine⟨_,rfl,(by show 3<=sizeLine;decide),fin M _ _ _ m R (Prs.app (Prs.app (Prs.app (pA.tups (Tups.of m)) ((vB 1 (xP (d+1) I)).tups (Tups.of m))) (aa.tups (Tups.of m))) ((xP (d+2) I).tups (Tups.of m))) ((((v.take _).app ((v.drop _).take _)).app ((v.drop _).take _)).app (v.drop _)) ?_⟩;have c6:((N.forks.drop (d+1)).take 1).length=min 1 (N.forks.length-(d+1)):=by rw[Jh,lD]
  have c7:((N.forks.drop d).take 1).length=min 1 (N.forks.length-d):=by rw[Jh,lD]
  rw[J9,J9,J9,lA,lD,c6,c7];lia
 have au:=s4 _ _ y.ends;have el:N.ends.length=N.lanes:=by rw[ok.en.length_eq,JS]
 have ay:=zj N.ends;have k1:L<N.ends.length:=by lia
 refine⟨_,rfl,er,_,rfl,.inr (SqT.of au),λlr af=>?_⟩;have J:=zC af (.lst (zW N.ends));have ar:=J _ _ au;have a1:=zx (oG N.ends L k1);have a0:=zx (j:=0) (oG N.ends 0 (by lia));refine⟨_,rfl,_,rfl,er,_,_,_,rfl,rfl,SqT.of ar,a1,_,rfl,er,_,0,_,rfl,rfl,SqT.of ar,a0,(by show 2<=sizeLine;decide),λT hT=>?_⟩;have U:=zC hT (.tup [.int ((N.ends.getD L 0:Nat):Int),.int ((N.ends.getD 0 0:Nat):Int)]);have h6:=U _ _ (zT af (.lst (zW N.ends)));refine⟨T,_,rfl,SqT.of zE,rfl,_,_,rfl,?_⟩;have u6:=(s4.trans J).trans U
 let d1:List Nat:=N.ends.set 0 (N.ends.getD L 0)
 let d2:List Nat:=d1.set L (N.ends.getD 0 0)
 have z1:(zW N.ends).set 0 (.int ((N.ends.getD L 0:Nat):Int))=zW d1:=List.map_set.symm;have z2:(zW d1).set L (.int ((N.ends.getD 0 0:Nat):Int))=zW d2:=List.map_set.symm;have ax:(zW d1).length=N.ends.length:=by rw[zj];exact List.length_set
 have pd:d2.Perm N.ends:=by
  have:=List.set_set_perm (as:=N.ends) (i:=0) (j:=L) (by lia) k1;have g1:N.ends.getD L 0=N.ends[L]:=by rw[Jm,Ja k1];rfl
  have g0:N.ends.getD 0 0=N.ends[0]:=by rw[Jm,Ja (by lia)];rfl
  show ((N.ends.set 0 (N.ends.getD L 0)).set L (N.ends.getD 0 0)).Perm N.ends;rw[g1,g0];exact this
 refine⟨_,rfl,lr,_,0,0,rfl,rfl,h6,uW (i:=0) (by lia),?_⟩;rw[z1];have aw:L2.upd (L2.upd (L2.upd H4 lr (.lst (zW N.ends))) T (.tup [.int ((N.ends.getD L 0:Nat):Int),.int ((N.ends.getD 0 0:Nat):Int)])) lr (.lst (zW d1)) lr=some (.lst (zW d1)):=zE;have n3:H3 lr=none:=wG s4 af
 have sm:∀ (xs ys:List V),Same H3 (L2.upd (L2.upd (L2.upd (L2.upd H4 lr (.lst (zW N.ends))) T (.tup [.int ((N.ends.getD L 0:Nat):Int),.int ((N.ends.getD 0 0:Nat):Int)])) lr (.lst xs)) lr (.lst ys)):=λxs ys b o e=>by
  rw[zJ (zG e n3),zJ (zG e n3)];exact u6 b o e
 refine⟨_,_,rfl,_,rfl,_,rfl,lr,_,_,L,rfl,rfl,aw,by rw[ax];exact uW k1,?_⟩;rw[z2];refine⟨rfl,_,rfl,_,rfl,_,rfl,lr,_,rfl,.inl ⟨SqL.of zE,λt ht=>⟨(by show 3<=sizeLine;decide),λq hq=>?_⟩⟩⟩;have s7:=zC ht (.tup (zW d2));have s8:=zC hq (.tup [.int (N.lanes:Nat),.ref fr,.ref t]);have u:=((sm (zW d1) (zW d2)).trans s7).trans s8;exact k q fr t C ⟨N.lanes,N.forks,d2⟩ _ ⟨⟨l1,ao,ok.fm,ok.fk,pd.trans ok.en⟩,ak,by show N.forks.length<=fb+1;lia⟩ rfl ⟨zT hq _,u _ _ y.forks,I.tups (Tups.of u),s8 _ _ (zT ht _)⟩ (S3.keep u) (B'.trans (But.of u))
abbrev rV:Stmt:=top 28
def uC (m:Nat):Sp:=λd H Q _=>∃ p row,d=[.ref p]/\H p=some (.lst (zW row))/\row.length=2 ^ m/\m<=4/\∀ c lf le b a,Same H a->a c=some (.tup [.ref lf,.ref le])->a lf=some (.lst b)->Prs a b (xC m row).1->a le=some (.lst (zW (xC m row).2))->Q (.ref c) a
theorem rP:FnScope ["_law_row","_law_half","_law_forks","_law_one","_law_more_here","_law_other","_law_last","_law_ends_here"] ["_law_row"] (zN rV):=by trivial
theorem rp {f fB:Addr}{fd dB:FuncData}(F:Fun K "_law_stairway" "_law_stairway" rV f fd) (G:Mgs mg) (D:Use P w K mg base "_law_merger" ["_law_one","_law_other"] 5 wA fB dB) (bS:Binds K fd ["_law_row"] []) (mS:mg "_law_stairway" = some (.ref f)) (n:Nat)
  (GS:FnOk P w K mg base CX0 (n+5) f fd ["_law_row"] (λvs H Q E=>∃ m,n=m+1/\uC m vs H Q E)):FnOk P w K mg base CX0 (n+6) f fd ["_law_row"] (uC n):=by
 have a:Use P w K mg base "_law_stairway" ["_law_row"] (n+5) (λvs H Q E=>∃ m,n=m+1/\uC m vs H Q E) f fd:=⟨GS,bS,F.kp,mS⟩;refine F.ok rP (λvs H Q E h=>?_) (λap A outer s H vs Q E M h=>?_)
 ·obtain⟨p,row,rfl,_⟩:=h
  rfl
 obtain⟨p,row,rfl,e,L,S,k⟩:=h;have Y:Room 5 _:=M.mono (by lia);refine⟨_,(@zF _ _ _ _ _ (@yH _ _ _ _ _ _ _ _ (@zp _ _ _ _ _ _ _ _ xD (@zL _ _ _ _ _ _ _ _ _ zR (by rfl) G.len Jy (@zA _ _ _ _ _ (@qv _ 0 _ _ (by trivial)) zB (by rfl)) (by decide) (by decide) (by rfl) (by rfl)) zD (zt _)) (@zH _ _ _ (@zU _ _ _ _ (@zV _ _ _ _ _ (@zA _ _ _ _ _ (@zo _ _ _ _ zB) (@zA _ _ _ _ _ (@zY _ _ _ _ _ _ _ _ _ yP (by rfl) G.list (by rfl) (@zA _ _ _ _ _ (@qv _ 0 _ _ (by trivial)) zB (by rfl)) (by decide) (by decide) (by rfl) (by rfl)) zB (by rfl)) (by rfl))))) zq) (@zF _ _ _ _ _ (@zZ _ _ 1 _ _ _ _ rP.nd rfl (.inl rfl) (@zP _ _ _ _ _ _ _ _ xw (@zL _ _ _ _ _ _ _ _ _ zR (by rfl) G.len Jy (@zA _ _ _ _ _ (@qv _ 0 _ _ (by trivial)) zB (by rfl)) (by decide) (by decide) (by rfl) (by rfl)) zD) (by rfl) (by trivial)) (@zF _ _ _ _ _ (@yN _ _ _ _ _ _ (@zK _ _ _ _ _ _ _ _ _ _ _ _ _ _ _ _ a.ok M (by rfl) a.m a.kp a.b .nil zS (@zA _ _ _ _ _ (@zu _ _ _ _ _ _ _ _ _ _ wO (@qv _ 0 _ _ (by trivial)) yB (@zk _ _ _ (@qv _ 1 _ _ (by trivial)))) zB (by rfl)) (by decide) (by rfl) (by rfl)) (@yL _ _ _ _ _ _ rfl (@zQ _ _ _ _ _ (@zM _ _ 2 _ rP.nd rfl (.inl rfl) (by trivial)) (@zQ _ _ _ _ _ (@zM _ _ 3 _ rP.nd rfl (.inl rfl) (by trivial)) yC (by rfl)) (by rfl)) (by rfl) (by rfl)) (by rfl) (by rfl) (by rfl)) (@zF _ _ _ _ _ (@yN _ _ _ _ _ _ (@zK _ _ _ _ _ _ _ _ _ _ _ _ _ _ _ _ a.ok M (by rfl) a.m a.kp a.b .nil zS (@zA _ _ _ _ _ (@zu _ _ _ _ _ _ _ _ _ _ wO (@qv _ 0 _ _ (by trivial)) (@zk _ _ _ (@qv _ 1 _ _ (by trivial))) yB) zB (by rfl)) (by decide) (by rfl) (by rfl)) (@yL _ _ _ _ _ _ rfl (@zQ _ _ _ _ _ (@zM _ _ 4 _ rP.nd rfl (.inl rfl) (by trivial)) (@zQ _ _ _ _ _ (@zM _ _ 5 _ rP.nd rfl (.inl rfl) (by trivial)) yC (by rfl)) (by rfl)) (by rfl) (by rfl)) (by rfl) (by rfl) (by rfl)) (@zF _ _ _ _ _ (@yN _ _ _ _ _ _ (@zK _ _ _ _ _ _ _ _ _ _ _ _ _ _ _ _ D.ok Y (by rfl) D.m D.kp D.b .nil zS (@zA _ _ _ _ _ (@qv _ 3 _ _ (by trivial)) (@zA _ _ _ _ _ (@qv _ 5 _ _ (by trivial)) zB (by rfl)) (by rfl)) (by decide) (by rfl) (by rfl)) (@yL _ _ _ _ _ _ rfl (@zQ _ _ _ _ _ (@zM _ _ 6 _ rP.nd rfl (.inl rfl) (by trivial)) (@zQ _ _ _ _ _ (@zM _ _ 7 _ rP.nd rfl (.inl rfl) (by trivial)) yC (by rfl)) (by rfl)) (by rfl) (by rfl)) (by rfl) (by rfl) (by rfl)) (@zH _ _ _ (@zU _ _ _ _ (@zV _ _ _ _ _ (@zA _ _ _ _ _ (@zP _ _ _ _ _ _ _ _ xb (@zP _ _ _ _ _ _ _ _ xb (@qv _ 2 _ _ (by trivial)) (@qv _ 4 _ _ (by trivial))) (@qv _ 6 _ _ (by trivial))) (@zA _ _ _ _ _ (@qv _ 7 _ _ (by trivial)) zB (by rfl)) (by rfl)))))))))),?_⟩;have nl:=zj row;have p8:2 ^ n<=2 ^ 4:=Yg (by decide) S;have e8:2 ^ 4=16:=rfl;refine⟨_,rfl,p,_,rfl,.inl (SqL.of e),rfl,_,rfl,?_⟩
 cases n with
 | zero =>
  have O:row.length=1:=L;rw[Jw (show V.int (((zW row).length:Nat):Int)=V.int 1 by rw[nl,O];rfl)];refine zz ⟨(by show 0<=sizeLine;decide),λl N=>⟨_,rfl,p,_,rfl,.inl (SqL.of (zC N _ _ _ e)),λle hle=>⟨(by show 2<=sizeLine;decide),λc g=>?_⟩⟩⟩;have J:=zC N (.lst []);have C:=zC hle (.lst (zW row));have d:=zC g (.tup [.ref l,.ref le])
  exact k c l le [] _ ((J.trans C).trans d) (zT g _) (d _ _ (C _ _ (zT N _))) trivial (d _ _ (zT hle _))
 | succ m =>
  obtain⟨t1,t2,t3⟩:=wq L;obtain⟨la,lb⟩:=wI L;have pw:2 ^ (m+1)=2 ^ m*2:=YL ..;have p0:=YB (n:=m);rw[Jj (show ¬ V.int (((zW row).length:Nat):Int)=V.int 1 by intro z;injection z with z;lia)];refine zr ⟨_,rfl,p,_,rfl,.inl (SqL.of e),_,_,rfl,rfl,⟨by decide,by decide⟩,?_⟩;have eh:(((zW row).length:Nat):Int) / 2=((row.length / 2:Nat):Int):=by rw[nl];lia
  simp only[eh];refine⟨_,rfl,_,rfl,_,rfl,p,_,rfl,SqL.of e,λp1 v=>?_⟩;rw[oE row _ t3];have J:=zC v (.lst (zW (row.take (row.length / 2))));refine⟨m,rfl,p1,row.take (row.length / 2),rfl,zT v _,la,by lia,λc2 W le2 j H2 C ai ab r af=>?_⟩;have u2:=J.trans C;refine⟨c2,_,rfl,SqT.of ai,rfl,_,_,rfl,_,_,rfl,rfl,?_⟩;refine⟨_,rfl,_,rfl,_,rfl,p,_,rfl,SqL.of (u2 _ _ e),λp3 u=>?_⟩;rw[oF row _ t3];have d:=zC u (.lst (zW (row.drop (row.length / 2))));refine⟨m,rfl,p3,row.drop (row.length / 2),rfl,zT u _,lb,by lia,λc4 U X i H4 s4 ah aa q ae=>?_⟩;have B:=d.trans s4;refine⟨c4,_,rfl,SqT.of ah,rfl,_,_,rfl,_,_,rfl,rfl,?_⟩;obtain⟨xl,xf⟩:=wN m _ la;obtain⟨yl,yf⟩:=wN m _ lb;obtain⟨zl,zf⟩:=xH m _ _ xl yl;have ao:=r.len;have ak:=q.len;obtain⟨ar,aq⟩:=wv m (by lia);refine⟨_,rfl,_,rfl,m,by lia,le2,X,_,_,rfl,B _ _ af,ae,xl,yl,by lia,λc6 T t R H6 b _ ag Z o ad=>?_⟩;refine⟨c6,_,rfl,SqT.of ag,rfl,_,_,rfl,_,_,rfl,rfl,?_⟩;have aj:=o.len;refine⟨_,rfl,_,rfl,W,U,_,_,rfl,rfl,b _ _ (B _ _ ab),b _ _ aa,by rw[Js];lia,λl7 y=>?_⟩;have s7:=zC y (.lst (j++i));refine⟨_,rfl,l7,T,_,_,rfl,rfl,zT y _,s7 _ _ Z,by rw[Js,J9];lia,λl8 x=>?_⟩;have s8:=zC x (.lst ((j++i)++R));refine⟨_,rfl,(by show 2<=sizeLine;decide),λc g=>?_⟩;have s9:=zC g (.tup [.ref l8,.ref t]);have I:=(s7.trans s8).trans s9;refine k c l8 t _ _ ((u2.trans B).trans (b.trans I)) (zT g _) (s9 _ _ (zT x _)) ?_ (I _ _ ad);refine Prs.tups (Tups.of I) ?_;exact Prs.app (Prs.app ((r.tups (Tups.of B)).tups (Tups.of b)) (q.tups (Tups.of b))) o
theorem ou {f d:Addr}{fd e:FuncData}(F:Fun K "_law_stairway" "_law_stairway" rV f fd) (G:Mgs mg) (c:Use P w K mg base "_law_merger" ["_law_one","_law_other"] 5 wA d e) (b:Binds K fd ["_law_row"] []) (a:mg "_law_stairway" = some (.ref f)):∀ n:Nat,FnOk P w K mg base CX0 (n+6) f fd ["_law_row"] (uC n)
 | 0=>rp F G c b a 0 ⟨λvs H Q E ⟨m,h,_⟩=>by lia,λA outer s H args us vs Q E _ _ _ _ ⟨m,h,_⟩=>by lia⟩
 | m+1=>rp F G c b a (m+1) ((ou F G c b a m).imp λvs H Q E ⟨g,h,q⟩=>by cases h;exact q)
abbrev uD:Sp:=λa H Q E=>∃ m,m<=4/\uC m a H Q E
theorem mG {f b:Addr}{fd c:FuncData}(F:Fun K "_law_stairway" "_law_stairway" rV f fd) (G:Mgs mg) (e:Use P w K mg base "_law_merger" ["_law_one","_law_other"] 5 wA b c) (d:Binds K fd ["_law_row"] []) (a:mg "_law_stairway" = some (.ref f)):FnOk P w K mg base CX0 10 f fd ["_law_row"] uD :=
 FnOk.any 4 λm g=>(ou F G e d a m).mono (by lia)
abbrev rT:Stmt:=top 30
def uA (m:Nat):Sp:=λd H Q _=>∃ p row,d=[.ref p]/\H p=some (.lst (zW row))/\row.length=2 ^ m/\m<=4/\∀ c lf le b a,Same H a->a c=some (.tup [.ref lf,.ref le])->a lf=some (.lst b)->Prs a b (xL m row).1->a le=some (.lst (zW (xL m row).2))->Q (.ref c) a
theorem sM:FnScope ["_law_row","_law_half","_law_forks","_law_one","_law_more_here","_law_other","_law_ends_here","_law_x","_law_y"] ["_law_row"] (zN rT):=by trivial
theorem rm {f:Addr}{fd:FuncData}(F:Fun K "_law_tree" "_law_tree" rT f fd) (G:Mgs mg) (bS:Binds K fd ["_law_row"] []) (mS:mg "_law_tree" = some (.ref f)) (n:Nat)
  (GS:FnOk P w K mg base CX0 n f fd ["_law_row"] (λvs H Q E=>∃ m,n=m+1/\uA m vs H Q E)):FnOk P w K mg base CX0 (n+1) f fd ["_law_row"] (uA n):=by
 have u:Use P w K mg base "_law_tree" ["_law_row"] n (λvs H Q E=>∃ m,n=m+1/\uA m vs H Q E) f fd:=⟨GS,bS,F.kp,mS⟩;refine F.ok sM (λvs H Q E h=>?_) (λaz A outer s H vs Q E hr h=>?_)
 ·obtain⟨p,row,rfl,_⟩:=h
  rfl
 obtain⟨p,row,rfl,D,rl,ai,k⟩:=h;refine⟨_,(@zF _ _ _ _ _ (@yH _ _ _ _ _ _ _ _ (@zp _ _ _ _ _ _ _ _ xD (@zL _ _ _ _ _ _ _ _ _ zR (by rfl) G.len Jy (@zA _ _ _ _ _ (@qv _ 0 _ _ (by trivial)) zB (by rfl)) (by decide) (by decide) (by rfl) (by rfl)) zD (zt _)) (@zH _ _ _ (@zU _ _ _ _ (@zV _ _ _ _ _ (@zA _ _ _ _ _ (@zo _ _ _ _ zB) (@zA _ _ _ _ _ (@zY _ _ _ _ _ _ _ _ _ yP (by rfl) G.list (by rfl) (@zA _ _ _ _ _ (@qv _ 0 _ _ (by trivial)) zB (by rfl)) (by decide) (by decide) (by rfl) (by rfl)) zB (by rfl)) (by rfl))))) zq) (@zF _ _ _ _ _ (@zZ _ _ 1 _ _ _ _ sM.nd rfl (.inl rfl) (@zP _ _ _ _ _ _ _ _ xw (@zL _ _ _ _ _ _ _ _ _ zR (by rfl) G.len Jy (@zA _ _ _ _ _ (@qv _ 0 _ _ (by trivial)) zB (by rfl)) (by decide) (by decide) (by rfl) (by rfl)) zD) (by rfl) (by trivial)) (@zF _ _ _ _ _ (@yN _ _ _ _ _ _ (@zK _ _ _ _ _ _ _ _ _ _ _ _ _ _ _ _ u.ok hr (by rfl) u.m u.kp u.b .nil zS (@zA _ _ _ _ _ (@zu _ _ _ _ _ _ _ _ _ _ wO (@qv _ 0 _ _ (by trivial)) yB (@zk _ _ _ (@qv _ 1 _ _ (by trivial)))) zB (by rfl)) (by decide) (by rfl) (by rfl)) (@yL _ _ _ _ _ _ rfl (@zQ _ _ _ _ _ (@zM _ _ 2 _ sM.nd rfl (.inl rfl) (by trivial)) (@zQ _ _ _ _ _ (@zM _ _ 3 _ sM.nd rfl (.inl rfl) (by trivial)) yC (by rfl)) (by rfl)) (by rfl) (by rfl)) (by rfl) (by rfl) (by rfl)) (@zF _ _ _ _ _ (@yN _ _ _ _ _ _ (@zK _ _ _ _ _ _ _ _ _ _ _ _ _ _ _ _ u.ok hr (by rfl) u.m u.kp u.b .nil zS (@zA _ _ _ _ _ (@zu _ _ _ _ _ _ _ _ _ _ wO (@qv _ 0 _ _ (by trivial)) (@zk _ _ _ (@qv _ 1 _ _ (by trivial))) yB) zB (by rfl)) (by decide) (by rfl) (by rfl)) (@yL _ _ _ _ _ _ rfl (@zQ _ _ _ _ _ (@zM _ _ 4 _ sM.nd rfl (.inl rfl) (by trivial)) (@zQ _ _ _ _ _ (@zM _ _ 5 _ sM.nd rfl (.inl rfl) (by trivial)) yC (by rfl)) (by rfl)) (by rfl) (by rfl)) (by rfl) (by rfl) (by rfl)) (@zF _ _ _ _ _ (@zZ _ _ 6 _ _ _ _ sM.nd rfl (.inl rfl) (@zo _ _ _ _ zB) (by rfl) (by trivial)) (@zF _ _ _ _ _ (@yd _ _ _ _ _ _ _ _ JN rfl (@ki _ _ _ _ _ _ _ _ _ true true rfl G.zip (@zA _ _ _ _ _ (@qv _ 3 _ _ (by trivial)) (@zA _ _ _ _ _ (@qv _ 5 _ _ (by trivial)) zB (by rfl)) (by rfl)) (by rfl) (by rfl)) (@yL _ _ _ _ _ _ rfl (@zQ _ _ _ _ _ (@zM _ _ 7 _ sM.nd rfl (.inl rfl) (by trivial)) (@zQ _ _ _ _ _ (@zM _ _ 8 _ sM.nd rfl (.inl rfl) (by trivial)) yC (by rfl)) (by rfl)) (by rfl) (by rfl)) (@zH _ _ _ (@xU _ _ _ _ (@vC _ _ _ _ _ _ _ _ _ _ _ _ JX PySem.F.slot_list_extend PySem.F.type_list_extend tM (@qv _ 6 _ _ (by trivial)) (@zA _ _ _ _ _ (@zo _ _ _ _ (@zA _ _ _ _ _ (@qv _ 7 _ _ (by trivial)) (@zA _ _ _ _ _ (@qv _ 8 _ _ (by trivial)) zB (by rfl)) (by rfl))) zB (by rfl)) (by rfl) (by rfl) (by rfl) (by rfl) (by rfl)) (by rfl))) (by intro _;rfl)) (@zH _ _ _ (@zU _ _ _ _ (@zV _ _ _ _ _ (@zA _ _ _ _ _ (@zP _ _ _ _ _ _ _ _ xb (@zP _ _ _ _ _ _ _ _ xb (@zo _ _ _ _ (@zA _ _ _ _ _ (@zV _ _ _ _ _ (@zA _ _ _ _ _ (@zX _ _ _ _ _ _ _ zd (@qv _ 0 _ _ (by trivial)) zD (λ_ _=>rfl)) (@zA _ _ _ _ _ (@zX _ _ _ _ _ _ _ zd (@qv _ 0 _ _ (by trivial)) (@qv _ 1 _ _ (by trivial)) (λ_ _=>rfl)) zB (by rfl)) (by rfl))) zB (by rfl))) (@qv _ 2 _ _ (by trivial))) (@qv _ 4 _ _ (by trivial))) (@zA _ _ _ _ _ (@qv _ 6 _ _ (by trivial)) zB (by rfl)) (by rfl))))))))))),?_⟩;have nl:=zj row;have p8:2 ^ n<=2 ^ 4:=Yg (by decide) ai;have e8:2 ^ 4=16:=rfl;refine⟨_,rfl,p,_,rfl,.inl (SqL.of D),rfl,_,rfl,?_⟩
 cases n with
 | zero =>
  have ag:row.length=1:=rl;rw[Jw (show V.int (((zW row).length:Nat):Int)=V.int 1 by rw[nl,ag];rfl)];refine zz ⟨(by show 0<=sizeLine;decide),λl hl=>⟨_,rfl,p,_,rfl,.inl (SqL.of (zC hl _ _ _ D)),λle hle=>⟨(by show 2<=sizeLine;decide),λc J=>?_⟩⟩⟩;have s1:=zC hl (.lst []);have s2:=zC hle (.lst (zW row));have I:=zC J (.tup [.ref l,.ref le])
  exact k c l le [] _ ((s1.trans s2).trans I) (zT J _) (I _ _ (s2 _ _ (zT hl _))) trivial (I _ _ (zT hle _))
 | succ m =>
  obtain⟨t1,t2,t3⟩:=wq rl;obtain⟨la,lb⟩:=wI rl;have pw:2 ^ (m+1)=2 ^ m*2:=YL ..;have p0:=YB (n:=m);rw[Jj (show ¬ V.int (((zW row).length:Nat):Int)=V.int 1 by intro z;injection z with z;lia)];refine zr ⟨_,rfl,p,_,rfl,.inl (SqL.of D),_,_,rfl,rfl,⟨by decide,by decide⟩,?_⟩;have eh:(((zW row).length:Nat):Int) / 2=((row.length / 2:Nat):Int):=by rw[nl];lia
  simp only[eh];refine⟨_,rfl,_,rfl,_,rfl,p,_,rfl,SqL.of D,λp1 ad=>?_⟩;rw[oE row _ t3];have s1:=zC ad (.lst (zW (row.take (row.length / 2))));refine⟨m,rfl,p1,row.take (row.length / 2),rfl,zT ad _,la,by lia,λc2 W le2 O H2 s2 ar ao S ap=>?_⟩;have u2:=s1.trans s2;refine⟨c2,_,rfl,SqT.of ar,rfl,_,_,rfl,_,_,rfl,rfl,?_⟩;refine⟨_,rfl,_,rfl,_,rfl,p,_,rfl,SqL.of (u2 _ _ D),λp3 Z=>?_⟩;rw[oF row _ t3];have I:=zC Z (.lst (zW (row.drop (row.length / 2))));refine⟨m,rfl,p3,row.drop (row.length / 2),rfl,zT Z _,lb,by lia,λc4 U g ah H4 s4 aq ak R C=>?_⟩;have u4:=I.trans s4;refine⟨c4,_,rfl,SqT.of aq,rfl,_,_,rfl,_,_,rfl,rfl,?_⟩;have B:=u2.trans u4;obtain⟨xl,xf⟩:=wt m _ la;obtain⟨yl,yf⟩:=wt m _ lb;have av:=S.len;have au:=R.len;have b:=u4 _ _ ap;have ab:=u4 _ _ ao;have aa:=S.tups (Tups.of u4);have aj:=B _ _ D;generalize hF:(xL m (row.take (row.length / 2))).2=fst at *;generalize hS:(xL m (row.drop (row.length / 2))).2=snd at *;refine⟨(by show 0<=sizeLine;decide),λr a=>?_⟩;have s8:=zC a (.lst []);have ay:H r=none:=wG B a;have ax:le2≠r:=zG b a;have aw:g≠r:=zG C a;refine⟨_,rfl,_,rfl,le2,g,_,_,rfl,SqL.of (s8 _ _ b),SqL.of (s8 _ _ C),?_⟩;refine nE (K:=K) (b1:=true) (b2:=true) (a1:=le2) (a2:=g) (xs:=zW fst) (ys:=zW snd) (by rw[zj,zj,xl,yl]) (λj σ M=>(∃ v7 v8,σ=[some (.ref p),some (.int ((row.length / 2:Nat):Int)),some (.ref W),some (.ref le2),some (.ref U),some (.ref g),some (.ref r),v7,v8])/\Same H4 M/\M r=some (.lst (zW (yT (fst.take j) (snd.take j))))) ⟨⟨_,_,rfl⟩,s8,zT a _⟩ (λj σ M _ z=>⟨SqL.of (z.2.1 _ _ b),SqL.of (z.2.1 _ _ C)⟩) ?_ ?_
  ·rintro j x y T σ M hx hy hT ⟨⟨v7,v8,rfl⟩,i,L⟩
   obtain⟨j1,rfl⟩:=num_at hx;obtain⟨j2,rfl⟩:=num_at hy;have sT:=zC hT (.tup [.int ((fst.getD j 0:Nat):Int),.int ((snd.getD j 0:Nat):Int)]);refine⟨T,_,rfl,SqT.of zE,rfl,_,_,rfl,_,_,rfl,rfl,?_⟩;refine⟨_,rfl,.inl ⟨rfl,_,SqL.of (sT _ _ L)⟩,_,rfl,_,rfl,(by show 2<=sizeLine;decide),λq hq=>?_⟩;have sq:=zC hq (.lst [.int ((fst.getD j 0:Nat):Int),.int ((snd.getD j 0:Nat):Int)]);have tl:=xK (fst.take j) (snd.take j) (by rw[Jh,Jh];lia);rw[Jh]at tl;refine⟨r,q,_,_,rfl,rfl,sq _ _ (sT _ _ L),zT hq _,by rw[zj,Js,tl];show _+2<=_;lia,?_⟩;refine⟨⟨_,_,rfl⟩,λc o e=>?_,?_⟩
   ·rw[zJ (zG e a)];exact sq _ _ (sT _ _ (i c o e))
   ·rw[we fst snd j j1 j2]
    have e:zW (yT (fst.take j) (snd.take j)++[fst.getD j 0,snd.getD j 0])=zW (yT (fst.take j) (snd.take j))++[.int ((fst.getD j 0:Nat):Int),.int ((snd.getD j 0:Nat):Int)]:=by rw[<- jZ];rfl
    rw[e];exact zE
  ·rintro σ M ⟨⟨v7,v8,rfl⟩,i,L⟩
   rw[JP (by rw[zj];exact Jb _),JP (by rw[zj];lia)]at L;have Y:=i _ _ aj;refine⟨_,rfl,p,_,0,_,rfl,rfl,SqL.of Y,zx (j:=0) (oG row 0 (by lia)),?_⟩;refine⟨_,rfl,_,rfl,p,_,_,_,rfl,rfl,SqL.of Y,zx (oG row (row.length / 2) (by lia)),(by show 2<=sizeLine;decide),λt ht=>?_⟩;have s5:=zC ht (.tup [.int ((row.getD 0 0:Nat):Int),.int ((row.getD (row.length / 2) 0:Nat):Int)]);refine⟨(by show 1<=sizeLine;decide),λl6 af=>?_⟩;have s6:=zC af (.lst [.ref t]);refine⟨_,rfl,l6,W,_,_,rfl,rfl,zT af _,s6 _ _ (s5 _ _ (i _ _ ab)),by rw[Js];simp only[Yk,Yp];lia,λl7 ae=>?_⟩;have s7:=zC ae (.lst ([.ref t]++O));refine⟨_,rfl,l7,U,_,_,rfl,rfl,zT ae _,s7 _ _ (s6 _ _ (s5 _ _ (i _ _ ak))),by rw[Js,J9];simp only[Yk,Yp];lia,λX v=>?_⟩;have N:=zC v (.lst (([.ref t]++O)++ah));have u8:=((s5.trans s6).trans s7).trans N;refine⟨_,rfl,(by show 2<=sizeLine;decide),λc J=>?_⟩;have d:=zC J (.tup [.ref X,.ref r]);have t8:=N _ _ (s7 _ _ (s6 _ _ (zT ht (.tup [.int ((row.getD 0 0:Nat):Int),.int ((row.getD (row.length / 2) 0:Nat):Int)]))));have eN:xL (m+1) row=((row.getD 0 0,row.getD (row.length / 2) 0)::((xL m (row.take (row.length / 2))).1++(xL m (row.drop (row.length / 2))).1),yT fst snd):=by rw[<- hF,<- hS];rfl
   refine k c X r _ _ (B.trans (i.trans (u8.trans d))) (zT J _) (d _ _ (zT v _)) ?_ (by rw[eN];exact d _ _ (u8 _ _ L));refine Prs.tups (Tups.of d) ?_;rw[Ys,eN];exact Prs.app (ps:=[.ref t]) (fs:=[(row.getD 0 0,row.getD (row.length / 2) 0)]) (show Prs _ [.ref t] [(row.getD 0 0,row.getD (row.length / 2) 0)] from⟨⟨t,rfl,t8⟩,trivial⟩) (Prs.app ((aa.tups (Tups.of i)).tups (Tups.of u8)) ((R.tups (Tups.of i)).tups (Tups.of u8)))
theorem ot {f:Addr}{fd:FuncData}(F:Fun K "_law_tree" "_law_tree" rT f fd) (G:Mgs mg) (b:Binds K fd ["_law_row"] []) (a:mg "_law_tree" = some (.ref f)):∀ n:Nat,FnOk P w K mg base CX0 (n+1) f fd ["_law_row"] (uA n)
 | 0=>rm F G b a 0 ⟨λvs H Q E ⟨m,h,_⟩=>by lia,λA outer s H args us vs Q E _ _ _ _ ⟨m,h,_⟩=>by lia⟩
 | m+1=>rm F G b a (m+1) ((ot F G b a m).imp λvs H Q E ⟨c,h,q⟩=>by cases h;exact q)
abbrev uB:Sp:=λa H Q E=>∃ m,m<=4/\uA m a H Q E
theorem mF {f:Addr}{fd:FuncData}(F:Fun K "_law_tree" "_law_tree" rT f fd) (G:Mgs mg) (b:Binds K fd ["_law_row"] []) (a:mg "_law_tree" = some (.ref f)):FnOk P w K mg base CX0 5 f fd ["_law_row"] uB :=
 FnOk.any 4 λm c=>(ot F G b a m).mono (by lia)
end
end K46
namespace Bn
open PySem L2 Own
def eO (k:Nat):Nt:=⟨2 ^ k,yx k (List.range (2 ^ k)),List.range (2 ^ k)⟩
theorem i9:∀ k,k<5->(eO k).forks.length<=32/\∀ f∈(eO k).forks,f.1<2 ^ k/\f.2<2 ^ k/\f.1≠f.2:=by decide +kernel
theorem kf {k:Nat}(h:k<5):2 ^ k<=16:=by
 show 2 ^ k<=2 ^ 4;exact Yg (show 0<2 by decide) (show k<=4 by lia)
theorem eL {k:Nat}(h:k<5):(eO k).Ok:=by
 obtain⟨a,b⟩:=i9 k h;exact⟨YB,kf h,Jz a (by decide),b,.refl _⟩
end Bn
namespace K46
open PySem L2 Own Bn
abbrev rX:Stmt:=top 29
def uK (m:Nat):Sp:=λc H Q _=>∃ p row,c=[.ref p]/\H p=some (.lst (zW row))/\row.length=2 ^ m/\m<=4/\∀ l b a,Same H a->a l=some (.lst b)->Prs a b (yx m row)->Q (.ref l) a
theorem gu (row:List Nat)(j:Nat)(h:j<row.length):row.reverse.getD j 0=row.getD (row.length-1-j) 0:=by
 rw[Jm,List.getElem?_reverse h,Jm]
section
variable {P:Program}{w:World}{K:PySem.W.Frag}{mg:Str->Option Value}{base:Heap}
theorem gZ:FnScope ["_law_row","_law_half","_law_forks"] ["_law_row"] (zN rX):=by trivial
theorem rz {f:Addr}{fd:FuncData}(F:Fun K "_law_block" "_law_block" rX f fd) (G:Mgs mg) (bS:Binds K fd ["_law_row"] []) (mS:mg "_law_block" = some (.ref f)) (n:Nat)
  (GS:FnOk P w K mg base CX0 n f fd ["_law_row"] (λvs H Q E=>∃ m,n=m+1/\uK m vs H Q E)):FnOk P w K mg base CX0 (n+1) f fd ["_law_row"] (uK n):=by
 have d:Use P w K mg base "_law_block" ["_law_row"] n (λvs H Q E=>∃ m,n=m+1/\uK m vs H Q E) f fd:=⟨GS,bS,F.kp,mS⟩;refine F.ok gZ (λvs H Q E h=>?_) (λaj A outer s H vs Q E hr h=>?_)
 ·obtain⟨p,row,rfl,_⟩:=h
  rfl
 obtain⟨p,row,rfl,v,W,ae,k⟩:=h;refine⟨_,(@zF _ _ _ _ _ (@yH _ _ _ _ _ _ _ _ (@zp _ _ _ _ _ _ _ _ xD (@zL _ _ _ _ _ _ _ _ _ zR (by rfl) G.len Jy (@zA _ _ _ _ _ (@qv _ 0 _ _ (by trivial)) zB (by rfl)) (by decide) (by decide) (by rfl) (by rfl)) zD (zt _)) (@zH _ _ _ (@zU _ _ _ _ (@zo _ _ _ _ zB))) zq) (@zF _ _ _ _ _ (@zZ _ _ 1 _ _ _ _ gZ.nd rfl (.inl rfl) (@zP _ _ _ _ _ _ _ _ xw (@zL _ _ _ _ _ _ _ _ _ zR (by rfl) G.len Jy (@zA _ _ _ _ _ (@qv _ 0 _ _ (by trivial)) zB (by rfl)) (by decide) (by decide) (by rfl) (by rfl)) zD) (by rfl) (by trivial)) (@zF _ _ _ _ _ (@uP _ 2 _ _ _ _ none _ _ _ _ _ _ _ _ ["_law_i","_law_row"] [none,some 0] gZ.nd rfl rfl rfl (@yk _ _ _ _ _ _ rfl G.range (@zA _ _ _ _ _ (@qv _ 1 _ _ (by trivial)) zB (by rfl)) (by rfl)) (CapOk.of (by kernel_rfl)) (λ_ _ _ _ _=>(@zM _ _ 0 _ (show (["_law_i","_law_row"]:List Str).Nodup from by decide +kernel) rfl (.inl rfl) (.inr rfl))) (λ_ _ _ _ _=>yj) (λ_ _ _ _ _=>(@zV _ _ _ _ _ (@zA _ _ _ _ _ (@zX _ _ _ _ _ _ (kX K) zd (@qv _ 1 _ _ (by trivial)) (@qv _ 0 _ _ (by trivial)) (λ_ _=>rfl)) (@zA _ _ _ _ _ (@zX _ _ _ _ _ _ (kX K) zd (@qv _ 1 _ _ (by trivial)) (@zP _ _ _ _ _ _ _ _ xY (@zP _ _ _ _ _ _ _ _ xY (@zL _ _ _ _ _ _ _ _ (gF K) lQ (by rfl) G.len Jy (@zA _ _ _ _ _ (@qv _ 1 _ _ (by trivial)) zB (by rfl)) (by decide) (by decide) (by rfl) (by rfl)) zD) (@qv _ 0 _ _ (by trivial))) (λ_ _=>rfl)) zB (by rfl)) (by rfl)))) (by intro _;rfl) (by with_unfolding_all rfl)) (@zH _ _ _ (@zU _ _ _ _ (@zP _ _ _ _ _ _ _ _ xb (@zP _ _ _ _ _ _ _ _ xb (@qv _ 2 _ _ (by trivial)) (@zK _ _ _ _ _ _ _ _ _ _ _ _ _ _ _ _ d.ok hr (by rfl) d.m d.kp d.b .nil zS (@zA _ _ _ _ _ (@zu _ _ _ _ _ _ _ _ _ _ wO (@qv _ 0 _ _ (by trivial)) yB (@zk _ _ _ (@qv _ 1 _ _ (by trivial)))) zB (by rfl)) (by decide) (by rfl) (by rfl))) (@zK _ _ _ _ _ _ _ _ _ _ _ _ _ _ _ _ d.ok hr (by rfl) d.m d.kp d.b .nil zS (@zA _ _ _ _ _ (@zu _ _ _ _ _ _ _ _ _ _ wO (@qv _ 0 _ _ (by trivial)) (@zk _ _ _ (@qv _ 1 _ _ (by trivial))) yB) zB (by rfl)) (by decide) (by rfl) (by rfl)))))))),?_⟩;have nl:=zj row;have p8:2 ^ n<=2 ^ 4:=Yg (by decide) ae;have e8:2 ^ 4=16:=rfl;refine⟨_,rfl,p,_,rfl,.inl (SqL.of v),rfl,_,rfl,?_⟩
 cases n with
 | zero =>
  have ab:row.length=1:=W;rw[Jw (show V.int (((zW row).length:Nat):Int)=V.int 1 by rw[nl,ab];rfl)]
  exact zz ⟨(by show 0<=sizeLine;decide),λl hl=>k l [] _ (zC hl _) (zT hl _) trivial⟩
 | succ m =>
  obtain⟨t1,t2,t3⟩:=wq W;obtain⟨la,lb⟩:=wI W;have pw:2 ^ (m+1)=2 ^ m*2:=YL ..;have p0:=YB (n:=m);rw[Jj (show ¬ V.int (((zW row).length:Nat):Int)=V.int 1 by intro z;injection z with z;lia)];refine zr ⟨_,rfl,p,_,rfl,.inl (SqL.of v),_,_,rfl,rfl,⟨by decide,by decide⟩,?_⟩;have eh:(((zW row).length:Nat):Int) / 2=((row.length / 2:Nat):Int):=by rw[nl];lia
  simp only[eh];refine⟨_,rfl,((row.length / 2:Nat):Int),rfl,by lia,by lia,λlc J=>?_⟩;refine qO (lo:=0) (n:=((row.length / 2:Nat):Int).toNat) (λj acc σ r=>(∃ N,σ=[N,some (.ref p)])/\Same H r/\r lc=some (.lst acc)/\acc.length=j/\Prs r acc (((row.take (row.length / 2)).zip row.reverse).take j)) ⟨⟨_,rfl⟩,zC J _,zE,rfl,trivial⟩ (λj acc σ r z=>z.2.2.1) ?_ ?_
  ·rintro j acc σ r hj ⟨⟨N,rfl⟩,u,Y,al,a⟩
   have jl:j<row.length / 2:=by lia
   have b:=u _ _ v;have e0:(0:Int)+((j:Nat):Int)=((j:Nat):Int):=Int.zero_add _;refine⟨_,rfl,_,rfl,p,_,_,_,rfl,rfl,SqL.of b,(by rw[e0];exact zx (oG row j (by lia))),?_⟩;refine⟨_,rfl,_,rfl,p,_,rfl,.inl (SqL.of b),_,_,rfl,rfl,_,rfl,_,_,rfl,rfl,?_⟩;have ei:(((zW row).length:Nat):Int)-1-(0+((j:Nat):Int))=((row.length-1-j:Nat):Int):=by rw[nl];lia
   refine⟨p,_,_,_,rfl,rfl,SqL.of b,(by rw[ei];exact zx (oG row (row.length-1-j) (by lia))),?_⟩;rw[<- gu row j (by lia)];refine⟨(by show 2<=sizeLine;decide),λt ht=>?_⟩;have U:=zC ht (.tup [.int ((row.getD j 0:Nat):Int),.int ((row.reverse.getD j 0:Nat):Int)]);have X:=U _ _ Y;refine⟨X,by rw[Js];lia,nx hj ⟨⟨_,rfl⟩,λc o e=>?_,zE,by rw[J9,al];rfl,?_⟩⟩
   ·rw[zJ (zG e J)];exact U _ _ (u c o e)
   ·rw[rG (by rw[Jh];lia) (by rw[YR];lia)]
    refine Prs.add (f:=((row.take (row.length / 2)).getD j 0,row.reverse.getD j 0)) ?_ ((a.tups (Tups.of U)).tups (Tups.lst X));rw[Tups.lst X _ _ (zT ht _),Jm (l:=row.take _),List.getElem?_take_of_lt jl,<- Jm]
  rintro acc σ r ⟨⟨N,rfl⟩,u,Y,al,a⟩;rw[JY]at al a;rw[JP (by rw[YW,Jh,YR];lia)]at a;have b:=u _ _ v;refine⟨_,rfl,_,rfl,_,rfl,_,rfl,p,_,rfl,SqL.of b,λp5 I=>?_⟩;rw[oE row _ t3];have s5:=zC I (.lst (zW (row.take (row.length / 2))));refine⟨m,rfl,p5,row.take (row.length / 2),rfl,zT I _,la,by lia,λl6 q H7 aa ag g=>?_⟩;have S:=s5.trans aa;have b6:=xk m (row.take (row.length / 2));rw[la]at b6;have ak:m*2 ^ m<=4*16:=Nat.mul_le_mul (by lia) (by lia);have ai:=g.len;refine⟨lc,l6,_,_,rfl,rfl,S _ _ Y,ag,by rw[Js];lia,λl7 L=>?_⟩;have T:=zC L (.lst (acc++q));have B:=(Prs.app (a.tups (Tups.of S)) g).tups (Tups.of T);have R:=u.trans (S.trans T);have D:=R _ _ v;have h8:=zT L (.lst (acc++q));generalize L2.upd H7 l7 _=H8 at T B R D h8 ⊢;refine⟨_,rfl,_,rfl,_,rfl,p,_,rfl,SqL.of D,λp9 C=>?_⟩;rw[oF row _ t3];have s9:=zC C (.lst (zW (row.drop (row.length / 2))));refine⟨m,rfl,p9,row.drop (row.length / 2),rfl,zT C _,lb,by lia,λl9 ad H9 Z h9 y=>?_⟩;have O:=s9.trans Z;have b9:=xk m (row.drop (row.length / 2));rw[lb]at b9;have ah:=y.len;refine⟨l7,l9,_,_,rfl,rfl,O _ _ h8,h9,by rw[J9,Js];lia,λaf i=>?_⟩;have x:=zC i (.lst ((acc++q)++ad));have M:=(Prs.app (B.tups (Tups.of O)) y).tups (Tups.of x);refine k af _ _ (R.trans (O.trans x)) (zT i _) ?_
  have e:yx (m+1) row=(row.take (row.length / 2)).zip row.reverse++yx m (row.take (row.length / 2))++yx m (row.drop (row.length / 2)):=by
   conv=>lhs;unfold yx
   rw[Jv (by lia)]
  rw[e];exact M
theorem oy {f:Addr}{fd:FuncData}(F:Fun K "_law_block" "_law_block" rX f fd) (G:Mgs mg) (b:Binds K fd ["_law_row"] []) (a:mg "_law_block" = some (.ref f)):∀ n:Nat,FnOk P w K mg base CX0 (n+1) f fd ["_law_row"] (uK n)
 | 0=>rz F G b a 0 ⟨λvs H Q E ⟨m,h,_⟩=>by lia,λA outer s H args us vs Q E _ _ _ _ ⟨m,h,_⟩=>by lia⟩
 | m+1=>rz F G b a (m+1) ((oy F G b a m).imp λvs H Q E ⟨c,h,q⟩=>by cases h;exact q)
abbrev wz:Sp:=λa H Q E=>∃ m,m<=4/\uK m a H Q E
theorem mP {f:Addr}{fd:FuncData}(F:Fun K "_law_block" "_law_block" rX f fd) (G:Mgs mg) (b:Binds K fd ["_law_row"] []) (a:mg "_law_block" = some (.ref f)):FnOk P w K mg base CX0 5 f fd ["_law_row"] wz :=
 FnOk.any 4 λm c=>(oy F G b a m).mono (by lia)
abbrev kS:Stmt:=top 31
def xE (way k:Nat):Nt:=if way=0 then xn k else if way=1 then wu k else xF k
theorem o4 {way k:Nat}(h:k<5):(xE way k).Ok:=by
 unfold xE;split
 ·exact kC h
 ·split
  ·exact iB h
  ·exact ny h
theorem oD (way k:Nat):(xE way k).lanes=2 ^ k:=by
 unfold xE;split
 ·rfl
 ·split<;>rfl
def sA:Sp:=λb H Q _=>∃ way k:Nat,b=[.int (way:Nat),.int (k:Nat)]/\k<5/\∀ r fr d c a,Same H a->NetAt a r fr d c (xE way k)->Q (.ref r) a
theorem sY {H:Hp}{ps:List V}{fs:List Fk}(h:Prs H ps fs):∀ n:Nat,Prs H (List.replicate n ps).flatten (List.replicate n fs).flatten
 | 0=>trivial
 | n+1=>by
  rw[Y1,Y1,YZ,YZ];exact Prs.app h (sY h n)
theorem pB:FnScope ["_law_way","_law_k","_law_row","_law_forks","_law_ends_here"] ["_law_way","_law_k"] (zN kS):=by trivial
theorem iT {f fB fS fT:Addr}{fd dB dS dT:FuncData}(F:Fun K "_law_made" "_law_made" kS f fd) (G:Mgs mg) (UB:Use P w K mg base "_law_block" ["_law_row"] 5 wz fB dB) (US:Use P w K mg base "_law_stairway" ["_law_row"] 10 uD fS dS) (Z:Use P w K mg base "_law_tree" ["_law_row"] 5 uB fT dT):FnOk P w K mg base CX0 11 f fd ["_law_way","_law_k"] sA:=by
 refine F.ok pB (λvs H Q E h=>?_) (λad A outer s H vs Q E hr h=>?_)
 ·obtain⟨way,k,rfl,_⟩:=h
  rfl
 obtain⟨way,k,rfl,k5,q⟩:=h;have L:Room 5 _:=hr.mono (by decide);refine⟨_,(@zF _ _ _ _ _ (@zZ _ _ 2 _ _ _ _ pB.nd rfl (.inl rfl) (@wR _ _ _ _ _ _ _ rfl (by rfl) G.list (by rfl) G.range (@zA _ _ _ _ _ (@zX _ _ _ _ _ _ _ zd (@zo _ _ _ _ (@zA _ _ _ _ _ zD (@zA _ _ _ _ _ zD (@zA _ _ _ _ _ zD (@zA _ _ _ _ _ zD (@zA _ _ _ _ _ zD zB (by rfl)) (by rfl)) (by rfl)) (by rfl)) (by rfl))) (@qv _ 1 _ _ (by trivial)) (λ_ _=>rfl)) zB (by rfl)) (by rfl) (by rfl)) (by rfl) (by trivial)) (@zF _ _ _ _ _ (@sW _ _ 3 4 _ _ _ _ _ _ _ _ _ _ _ rfl pB.nd rfl rfl (by decide) rfl rfl (@zA _ _ _ _ _ (@zP _ _ _ _ _ _ _ _ gz (@zK _ _ _ _ _ _ _ _ _ _ _ _ _ _ _ _ UB.ok L (by rfl) UB.m UB.kp UB.b .nil zS (@zA _ _ _ _ _ (@qv _ 2 _ _ (by trivial)) zB (by rfl)) (by decide) (by rfl) (by rfl)) (@qv _ 1 _ _ (by trivial))) (@zA _ _ _ _ _ (@qv _ 2 _ _ (by trivial)) zB (by rfl)) (by rfl)) (by rfl) (by rfl)) (@zF _ _ _ _ _ (@yH _ _ _ _ _ _ _ _ (@zp _ _ _ _ _ _ _ _ xD (@qv _ 0 _ _ (by trivial)) zD (zt _)) (@zH _ _ _ (@yN _ _ _ _ _ _ (@zK _ _ _ _ _ _ _ _ _ _ _ _ _ _ _ _ US.ok hr (by rfl) US.m US.kp US.b .nil zS (@zA _ _ _ _ _ (@qv _ 2 _ _ (by trivial)) zB (by rfl)) (by decide) (by rfl) (by rfl)) (@yL _ _ _ _ _ _ rfl (@zQ _ _ _ _ _ (@zM _ _ 3 _ pB.nd rfl (.inl rfl) (by trivial)) (@zQ _ _ _ _ _ (@zM _ _ 4 _ pB.nd rfl (.inl rfl) (by trivial)) yC (by rfl)) (by rfl)) (by rfl) (by rfl)) (by rfl) (by rfl) (by rfl))) zq) (@zF _ _ _ _ _ (@yH _ _ _ _ _ _ _ _ (@zp _ _ _ _ _ _ _ _ xD (@qv _ 0 _ _ (by trivial)) zD (zt _)) (@zH _ _ _ (@yN _ _ _ _ _ _ (@zK _ _ _ _ _ _ _ _ _ _ _ _ _ _ _ _ Z.ok L (by rfl) Z.m Z.kp Z.b .nil zS (@zA _ _ _ _ _ (@qv _ 2 _ _ (by trivial)) zB (by rfl)) (by decide) (by rfl) (by rfl)) (@yL _ _ _ _ _ _ rfl (@zQ _ _ _ _ _ (@zM _ _ 3 _ pB.nd rfl (.inl rfl) (by trivial)) (@zQ _ _ _ _ _ (@zM _ _ 4 _ pB.nd rfl (.inl rfl) (by trivial)) yC (by rfl)) (by rfl)) (by rfl) (by rfl)) (by rfl) (by rfl) (by rfl))) zq) (@zH _ _ _ (@zU _ _ _ _ (@zV _ _ _ _ _ (@zA _ _ _ _ _ (@zL _ _ _ _ _ _ _ _ _ zR (by rfl) G.len Jy (@zA _ _ _ _ _ (@qv _ 2 _ _ (by trivial)) zB (by rfl)) (by decide) (by decide) (by rfl) (by rfl)) (@zA _ _ _ _ _ (@zY _ _ _ _ _ _ _ _ _ zi (by rfl) G.tuple (by rfl) (@zA _ _ _ _ _ (@qv _ 3 _ _ (by trivial)) zB (by rfl)) (by decide) (by decide) (by rfl) (by rfl)) (@zA _ _ _ _ _ (@zY _ _ _ _ _ _ _ _ _ zi (by rfl) G.tuple (by rfl) (@zA _ _ _ _ _ (@qv _ 4 _ _ (by trivial)) zB (by rfl)) (by decide) (by decide) (by rfl) (by rfl)) zB (by rfl)) (by rfl)) (by rfl))))))))),?_⟩;have aa:2 ^ k<=2 ^ 4:=Yg (by decide) (by lia);have ab:2 ^ 4=16:=rfl
 have O:atI [V.int 1,V.int 2,V.int 4,V.int 8,V.int 16] ((k:Nat):Int)=some (.int ((2 ^ k:Nat):Int)):=by
  have:∀ k,k<5->atI [V.int 1,V.int 2,V.int 4,V.int 8,V.int 16] ((k:Nat):Int)=some (.int ((2 ^ k:Nat):Int)):=by decide
  exact this k k5
 refine⟨(by show 5<=sizeLine;decide),λt ht=>?_⟩;have s0:=zC ht (.lst [.int 1,.int 2,.int 4,.int 8,.int 16]);refine⟨_,rfl,t,_,_,_,rfl,rfl,SqL.of zE,O,?_⟩;refine⟨2 ^ k,rfl,by lia,λp hp=>?_⟩;have s1:=zC hp (.lst (zW (List.range (2 ^ k))));have u1:=s0.trans s1;have g:=zT hp (.lst (zW (List.range (2 ^ k))));show qr _ _ _ _ (L2.upd _ p (.lst (zW (List.range (2 ^ k)))));generalize L2.upd _ p (.lst (zW (List.range (2 ^ k))))=H1 at u1 g ⊢;clear s0 s1 hp;refine⟨_,rfl,k,by lia,p,List.range (2 ^ k),rfl,g,JS,by lia,λl T H2 i hl pr=>?_⟩;have pl:=pr.len;have bl:=xk k (List.range (2 ^ k));rw[JS]at bl;have b2:k*2 ^ k<=4*2 ^ 4:=Nat.mul_le_mul (by lia) aa;have b3:T.length*k<=(4*2 ^ 4)*4:=Nat.mul_le_mul (by lia) (by lia);refine⟨_,rfl,l,k,T,rfl,rfl,hl,by lia,by lia,by rw[JY,Js];lia,λW x=>?_⟩;rw[JY];have m:=zC x (.lst (List.replicate k T).flatten);refine⟨_,rfl,_,_,rfl,?_⟩
 let I:Nt->St->Hp->Prop:=λN σ G=>∃ lf le n,σ=[some (.int (way:Nat)),some (.int (k:Nat)),some (.ref p),some (.ref lf),some (.ref le)]/\Same H G/\G p=some (.lst (zW (List.range (2 ^ k))))/\G lf=some (.lst n)/\Prs G n N.forks/\G le=some (.lst (zW N.ends))
 have i0:I (xF k) [some (.int (way:Nat)),some (.int (k:Nat)),some (.ref p),some (.ref W),some (.ref p)] (L2.upd H2 W (.lst (List.replicate k T).flatten)):=⟨W,p,_,rfl,(u1.trans i).trans m,m _ _ (i _ _ g),zT x _,(sY pr k).tups (Tups.of m),m _ _ (i _ _ g)⟩;dsimp only;refine uY (I (if way=0 then xn k else xF k)) ?_ λD j _=>?_
 ·rintro σ G ⟨lf,le,n,rfl,C,d,X,U,Y⟩
  refine uY (I (xE way k)) ?_ λD j _=>?_
  ·rintro σ G ⟨lf,le,n,rfl,C,d,X,U,Y⟩
   refine⟨_,rfl,p,_,rfl,.inl (SqL.of d),_,rfl,lf,_,rfl,.inl ⟨SqL.of X,λa ha=>?_⟩⟩;have s4:=zC ha (.tup n);refine⟨_,rfl,le,_,rfl,.inl ⟨SqL.of (s4 _ _ Y),λb hb=>?_⟩⟩;have s5:=zC hb (.tup (zW (xE way k).ends));refine⟨(by show 3<=sizeLine;decide),λr M=>?_⟩;rw[zj,JS];have S:=zC M (.tup [.int ((2 ^ k:Nat):Int),.ref a,.ref b]);refine q r a b n _ (((C.trans s4).trans s5).trans S) ⟨?_,S _ _ (s5 _ _ (zT ha _)),U.tups (Tups.of ((s4.trans s5).trans S)),S _ _ (zT hb _)⟩;rw[oD];exact zT M _
  ·refine⟨_,rfl,rfl,_,rfl,?_⟩
   by_cases R:way=1
   ·rw[Jw (show V.int ((way:Nat):Int)=V.int 1 by rw[R];rfl)]
    refine zz ⟨_,rfl,k,by lia,p,List.range (2 ^ k),rfl,d,JS,by lia,λc v le2 o G2 i hc y u B=>?_⟩;refine⟨c,_,rfl,SqT.of hc,rfl,_,_,rfl,_,_,rfl,rfl,?_⟩;refine j _ _ ⟨v,le2,o,rfl,C.trans i,i _ _ d,y,?_,?_⟩
    ·rw[show xE way k=wu k from by unfold xE;rw[Jv (by lia),JE R]];exact u
    ·rw[show xE way k=wu k from by unfold xE;rw[Jv (by lia),JE R]];exact B
   ·rw[Jj (show ¬ V.int ((way:Nat):Int)=V.int 1 by intro z;injection z with z;lia)]
    have e:xE way k=if way=0 then xn k else xF k:=by unfold xE;rw[Jv R]
    refine zr (j _ _ ⟨lf,le,n,rfl,C,d,X,?_,?_⟩)
    ·rw[e];exact U
    ·rw[e];exact Y
 ·obtain⟨lf,le,n,e,C,d,X,U,Y⟩:=i0
  refine⟨_,rfl,rfl,_,rfl,?_⟩;by_cases J:way=0
  ·rw[Jw (show V.int ((way:Nat):Int)=V.int 0 by rw[J];rfl)]
   refine zz ⟨_,rfl,k,by lia,p,List.range (2 ^ k),rfl,d,JS,by lia,λc v le2 o G2 i hc y u B=>?_⟩;refine⟨c,_,rfl,SqT.of hc,rfl,_,_,rfl,_,_,rfl,rfl,?_⟩;refine j _ _ ⟨v,le2,o,rfl,C.trans i,i _ _ d,y,?_,?_⟩
   ·rw[JE J];exact u
   ·rw[JE J];exact B
  ·rw[Jj (show ¬ V.int ((way:Nat):Int)=V.int 0 by intro z;injection z with z;lia)]
   refine zr (j _ _ ⟨W,p,_,rfl,(u1.trans i).trans m,m _ _ (i _ _ g),zT x _,?_,?_⟩)
   ·rw[Jv J];exact(sY pr k).tups (Tups.of m)
   ·rw[Jv J];exact m _ _ (i _ _ g)
abbrev kR:Stmt:=top 34
abbrev pG:Stmt:=top 35
def qu:Sp:=λb H Q _=>∃ l:Addr,b=[.ref l]/\Pk3 H l/\∀ r fr d c N a,Few 6 10 N->NetAt a r fr d c N->Pk3 a l->But l H a->Q (.ref r) a
structure Lns (lanes:Nat) (moves:List Nat):Prop where
 ne:moves≠[]
 lt:∀ m∈moves,m<lanes
 up:moves.Pairwise (· < ·)
def tw:Sp:=λb H Q _=>∃ l r fr d c N,b=[.ref l,.ref r]/\Pk3 H l/\Nt.Ok N/\NetAt H r fr d c N/\∀ p moves a,Lns N.lanes moves->a p=some (.tup (zW moves))->Pk3 a l->But l H a->Q (.ref p) a
theorem qN (way:Nat){k:Nat}(h:k<3):(xE way k).forks.length<=8/\(xE way k).lanes<=4:=by
 have s:∀ k,k<3->(xn k).forks.length<=8/\(xn k).lanes<=4:=by decide
 have t:∀ k,k<3->(wu k).forks.length<=8/\(wu k).lanes<=4:=by decide
 have r:∀ k,k<3->(xF k).forks.length<=8/\(xF k).lanes<=4:=by decide
 unfold xE;split
 ·exact s k h
 ·split
  ·exact t k h
  ·exact r k h
theorem Lns.all {lanes:Nat}(h:1<=lanes):Lns lanes (List.range lanes):=⟨λz=>by have:=JH List.length z;rw[JS,Yp]at this;lia,λm a=>Y8.mp a,List.pairwise_lt_range⟩
theorem kM:FnScope ["_law_left_here","_law_way","_law_net_here","_law_k"] ["_law_left_here"] (zN kR):=by trivial
theorem iS {f fK fA fM fC:Addr}{fd dK dA dM dC:FuncData}(F:Fun K "_law_net" "_law_net" kR f fd) (G:Mgs mg) (b:Use P w K mg base "_law_pick" ["_law_left_here","_law_many"] 1 yh fK dK) (I:Use P w K mg base "_law_any" ["_law_left_here"] 3 qy fA dA) (C:Use P w K mg base "_law_made" ["_law_way","_law_k"] 11 sA fM dM) (D:Use P w K mg base "_law_changed" ["_law_left_here","_law_net_here"] 2 kI fC dC):FnOk P w K mg base CX0 12 f fd ["_law_left_here"] qu:=by
 refine F.ok kM (λvs H Q E h=>?_) (λad A outer s H vs Q E B h=>?_)
 ·obtain⟨l,rfl,_⟩:=h
  rfl
 obtain⟨l,rfl,S,k⟩:=h;have g:Room 1 _:=B.mono (by decide);have W:Room 2 _:=B.mono (by decide);have V:Room 3 _:=B.mono (by decide);refine⟨_,(@zF _ _ _ _ _ (@zZ _ _ 1 _ _ _ _ kM.nd rfl (.inl rfl) (@zK _ _ _ _ _ _ _ _ _ _ _ _ _ _ _ _ b.ok g (by rfl) b.m b.kp b.b .nil zS (@zA _ _ _ _ _ (@qv _ 0 _ _ (by trivial)) (@zA _ _ _ _ _ zD zB (by rfl)) (by rfl)) (by decide) (by rfl) (by rfl)) (by rfl) (by trivial)) (@zF _ _ _ _ _ (@yH _ _ _ _ _ _ _ _ (@zp _ _ _ _ _ _ _ _ xD (@qv _ 1 _ _ (by trivial)) zD (zt _)) (@zH _ _ _ (@zU _ _ _ _ (@zK _ _ _ _ _ _ _ _ _ _ _ _ _ _ _ _ I.ok V (by rfl) I.m I.kp I.b .nil zS (@zA _ _ _ _ _ (@qv _ 0 _ _ (by trivial)) zB (by rfl)) (by decide) (by rfl) (by rfl)))) zq) (@zF _ _ _ _ _ (@zZ _ _ 2 _ _ _ _ kM.nd rfl (.inl rfl) (@zK _ _ _ _ _ _ _ _ _ _ _ _ _ _ _ _ C.ok B (by rfl) C.m C.kp C.b .nil zS (@zA _ _ _ _ _ (@zK _ _ _ _ _ _ _ _ _ _ _ _ _ _ _ _ b.ok g (by rfl) b.m b.kp b.b .nil zS (@zA _ _ _ _ _ (@qv _ 0 _ _ (by trivial)) (@zA _ _ _ _ _ zD zB (by rfl)) (by rfl)) (by decide) (by rfl) (by rfl)) (@zA _ _ _ _ _ (@zX _ _ _ _ _ _ _ zd (@zo _ _ _ _ (@zA _ _ _ _ _ zD (@zA _ _ _ _ _ zD (@zA _ _ _ _ _ zD (@zA _ _ _ _ _ zD zB (by rfl)) (by rfl)) (by rfl)) (by rfl))) (@zK _ _ _ _ _ _ _ _ _ _ _ _ _ _ _ _ b.ok g (by rfl) b.m b.kp b.b .nil zS (@zA _ _ _ _ _ (@qv _ 0 _ _ (by trivial)) (@zA _ _ _ _ _ zD zB (by rfl)) (by rfl)) (by decide) (by rfl) (by rfl)) (λ_ _=>rfl)) zB (by rfl)) (by rfl)) (by decide) (by rfl) (by rfl)) (by rfl) (by trivial)) (@zF _ _ _ _ _ (@yd _ _ _ _ _ _ _ _ JN rfl (@yk _ _ _ _ _ _ rfl G.range (@zA _ _ _ _ _ (@zP _ _ _ _ _ _ _ _ xZ (@zX _ _ _ _ _ _ _ zd (@zo _ _ _ _ (@zA _ _ _ _ _ zD (@zA _ _ _ _ _ zD (@zA _ _ _ _ _ zD (@zA _ _ _ _ _ zD zB (by rfl)) (by rfl)) (by rfl)) (by rfl))) (@qv _ 1 _ _ (by trivial)) (λ_ _=>rfl)) (@zK _ _ _ _ _ _ _ _ _ _ _ _ _ _ _ _ b.ok g (by rfl) b.m b.kp b.b .nil zS (@zA _ _ _ _ _ (@qv _ 0 _ _ (by trivial)) (@zA _ _ _ _ _ zD zB (by rfl)) (by rfl)) (by decide) (by rfl) (by rfl))) zB (by rfl)) (by rfl)) (@zM _ _ 3 _ kM.nd rfl (.inl rfl) (by trivial)) (@zH _ _ _ (@zZ _ _ 2 _ _ _ _ kM.nd rfl (.inl rfl) (@zK _ _ _ _ _ _ _ _ _ _ _ _ _ _ _ _ D.ok W (by rfl) D.m D.kp D.b .nil zS (@zA _ _ _ _ _ (@qv _ 0 _ _ (by trivial)) (@zA _ _ _ _ _ (@qv _ 2 _ _ (by trivial)) zB (by rfl)) (by rfl)) (by decide) (by rfl) (by rfl)) (by rfl) (by trivial))) (by intro _;rfl)) (@zH _ _ _ (@zU _ _ _ _ (@qv _ 2 _ _ (by trivial)))))))),?_⟩;refine⟨_,rfl,l,4,rfl,by decide,by decide,S,λway H1 hw S1 B1=>?_⟩;refine⟨_,rfl,rfl,_,rfl,ve (λ_=>?_) (λz=>?_)⟩
 ·exact⟨_,rfl,l,rfl,S1,λr fr d c N e a na m p=>k r fr d c N e ⟨a.ok,a.ln,by have:=a.fk;lia⟩ na m (B1.trans p)⟩
 refine⟨_,rfl,l,3,rfl,by decide,by decide,S1,λkd e hk m p=>?_⟩;refine⟨(by show 4<=sizeLine;decide),λt j=>⟨_,rfl,l,4,rfl,by decide,by decide,m.keep (zC j _),λv H3 hv M u=>?_⟩⟩;obtain⟨sz,zm,za⟩:=wQ (xs:=[1,2,2,0]) (v:=v) (by show v<4;lia);have zb:sz<3:=(show ∀ n∈[1,2,2,0],n<3 by decide) sz zm;refine⟨t,_,_,_,rfl,rfl,SqL.of (u t _ (zT j _) (m.ne j).symm),za,?_⟩;have aa:But l H H3:=((B1.trans p).trans (But.of (zC j _))).trans u;clear j u za zm;refine⟨kd,sz,rfl,by lia,λr fr d c H4 s4 T=>?_⟩;obtain⟨m1,m2⟩:=qN kd zb;have S4:=M.keep s4;have B4:=aa.trans (But.of (l:=l) s4);refine⟨(by show 4<=sizeLine;decide),λt j=>?_⟩;have y:=zC j (.lst [.int 0,.int 1,.int 1,.int 2]);obtain⟨o,mm,ma⟩:=wQ (xs:=[0,1,1,2]) (v:=way) (by show way<4;lia);have mb:o<=2:=(show ∀ n∈[0,1,1,2],n<=2 by decide) o mm;refine⟨_,rfl,t,_,_,_,rfl,rfl,SqL.of (zT j _),ma,?_⟩;refine⟨_,rfl,l,2,rfl,by decide,by decide,S4.keep y,λq H5 ab S5 B5=>?_⟩;have R:=(T.tups (Tups.of y)).tups (B5.tups3 (S4.keep y));have Z:=(B4.trans (But.of (l:=l) y)).trans B5
 have pb:o*q<=2:=by
  have:o*q<=2*1:=Nat.mul_le_mul mb (by lia);lia
 have L:((o:Nat):Int)*((q:Nat):Int)=((o*q:Nat):Int):=(Int.natCast_mul _ _).symm;refine⟨_,_,rfl,rfl,.inl ⟨by lia,by lia⟩,?_⟩;refine⟨_,rfl,by rw[L];lia,by rw[L];lia,?_⟩;rw[L];generalize o*q=cnt at pb;refine xI (lo:=0) (n:=((cnt:Nat):Int).toNat) (λi σ e=>∃ J r fr d c N,σ=[some (.ref l),some (.int (way:Nat)),some (.ref r),J]/\Pk3 e l/\But l H e/\NetAt e r fr d c N/\Few 6 (8+i) N) ⟨_,r,fr,d,c,_,rfl,S5,Z,R,o4 (by lia),by lia,by lia⟩ ?_ ?_
 ·rintro i σ e hi ⟨J,r,fr,d,c,N,rfl,m,p,na,a⟩
  refine⟨_,rfl,_,rfl,l,r,fr,d,c,N,6,8+i,rfl,m,a,by lia,na,λr' X Y O N' H3 x _ U M u=>?_⟩;exact⟨_,r',X,Y,O,N',rfl,M,p.trans u,U,x⟩
 ·rintro σ e ⟨J,r,fr,d,c,N,rfl,m,p,na,a⟩
  exact⟨_,rfl,k r fr d c N e ⟨a.ok,a.ln,by have:=a.fk;lia⟩ na m p⟩
theorem dc:FnScope ["_law_left_here","_law_net_here","_law_some_here"] ["_law_left_here","_law_net_here"] (zN pG):=by trivial
theorem jL {f fK:Addr}{fd dK:FuncData}(F:Fun K "_law_some" "_law_some" pG f fd) (G:Mgs mg) (d:Use P w K mg base "_law_pick" ["_law_left_here","_law_many"] 1 yh fK dK):FnOk P w K mg base CX0 2 f fd ["_law_left_here","_law_net_here"] tw:=by
 refine F.ok dc (λvs H Q E h=>?_) (λah A outer s H vs Q E hr h=>?_)
 ·obtain⟨l,r,fr,er,ps,N,rfl,_⟩:=h
  rfl
 obtain⟨l,r,fr,er,ps,N,rfl,S,ok,na,k⟩:=h;have ag:=ok.l16;have l1:=ok.l1;refine⟨_,(@zF _ _ _ _ _ (@uP _ 2 _ _ _ _ (some _) _ _ _ _ _ _ _ _ ["_law_lane","_law_left_here"] [none,some 0] dc.nd rfl rfl rfl (@yk _ _ _ _ _ _ rfl G.range (@zA _ _ _ _ _ (@zX _ _ _ _ _ _ _ zv (@qv _ 1 _ _ (by trivial)) zD (λ_ _=>rfl)) zB (by rfl)) (by rfl)) (CapOk.of (by kernel_rfl)) (λ_ _ _ _ _=>(@zM _ _ 0 _ (show (["_law_lane","_law_left_here"]:List Str).Nodup from by decide +kernel) rfl (.inl rfl) (.inr rfl))) (λ_ _ _ _ _=>(@iJ _ _ _ (@zp _ _ _ _ _ _ _ _ xD (@zK _ _ _ _ _ _ _ _ _ _ _ _ _ _ _ _ d.ok hr (by rfl) d.m d.kp d.b .nil zS (@zA _ _ _ _ _ (@qv _ 1 _ _ (by trivial)) (@zA _ _ _ _ _ zD zB (by rfl)) (by rfl)) (by decide) (by rfl) (by rfl)) zD (zt _)))) (λ_ _ _ _ _=>(@qv _ 0 _ _ (by trivial))) (by intro _;rfl) (by with_unfolding_all rfl)) (@zH _ _ _ (@zU _ _ _ _ (@zX _ _ _ _ _ _ _ zd (@zo _ _ _ _ (@zA _ _ _ _ _ (@vQ _ _ _ _ _ _ _ rfl (by rfl) G.tuple (by rfl) G.range (@zA _ _ _ _ _ (@zX _ _ _ _ _ _ _ zv (@qv _ 1 _ _ (by trivial)) zD (λ_ _=>rfl)) zB (by rfl)) (by rfl) (by rfl)) (@zA _ _ _ _ _ (@uQ _ _ _ _ _ _ _ _ (@zp _ _ _ _ _ _ _ _ (pZ hr.units0) (@qv _ 2 _ _ (by trivial)) (@zo _ _ _ _ zB) (zt _)) (@zY _ _ _ _ _ _ _ _ _ zi (by rfl) G.tuple (by rfl) (@zA _ _ _ _ _ (@qv _ 2 _ _ (by trivial)) zB (by rfl)) (by decide) (by decide) (by rfl) (by rfl)) (@zV _ _ _ _ _ (@zA _ _ _ _ _ (@zK _ _ _ _ _ _ _ _ _ _ _ _ _ _ _ _ d.ok hr (by rfl) d.m d.kp d.b .nil zS (@zA _ _ _ _ _ (@qv _ 0 _ _ (by trivial)) (@zA _ _ _ _ _ (@zX _ _ _ _ _ _ _ zv (@qv _ 1 _ _ (by trivial)) zD (λ_ _=>rfl)) zB (by rfl)) (by rfl)) (by decide) (by rfl) (by rfl)) zB (by rfl)))) zB (by rfl)) (by rfl))) (@zK _ _ _ _ _ _ _ _ _ _ _ _ _ _ _ _ d.ok hr (by rfl) d.m d.kp d.b .nil zS (@zA _ _ _ _ _ (@qv _ 0 _ _ (by trivial)) (@zA _ _ _ _ _ zD zB (by rfl)) (by rfl)) (by decide) (by rfl) (by rfl)) (λ_ _=>rfl))))),?_⟩;refine⟨_,rfl,r,_,_,_,rfl,rfl,SqT.of na.net,rfl,_,rfl,by lia,by lia,λlc B=>?_⟩;have O:=S.ne B;have af:Frs l H lc:=λb o e _=>zG e B;refine mZ (lo:=0) (n:=((N.lanes:Nat):Int).toNat) (λi acc σ D=>(∃ v0,σ=[v0,some (.ref l)])/\Pk3 D l/\But l H D/\D lc=some (.lst acc)/\∃ ms:List Nat,acc=zW ms/\ms.length<=i/\(∀ m∈ms,m<i)/\ms.Pairwise (· < ·)) ⟨⟨_,rfl⟩,S.upd O,But.of (zC B _),zT B _,[],rfl,Jb _,λm L=>(nomatch L),.nil⟩ (λi acc σ D z=>z.2.2.2.1) ?_ ?_
 ·rintro i acc σ D hi ⟨⟨v0,rfl⟩,S2,Y,W,ms,rfl,ml,mlt,mp⟩
  refine⟨_,rfl,l,2,rfl,by decide,by decide,S2,λv H3 hv S3 B3=>⟨rfl,_,rfl,?_⟩⟩;have h3:=B3 lc _ W O.symm;have e0:(0:Int)+((i:Nat):Int)=((i:Nat):Int):=Int.zero_add _;refine ve (λ_=>?_) (λ_=>?_)
  ·refine⟨_,rfl,h3,by rw[zj,Js];lia,nx (by lia) ⟨⟨_,rfl⟩,S3.upd O,(Y.trans B3).upd af,zE,ms++[i],?_,by rw[J9];show _+1<=_;lia,λm L=>?_,?_⟩⟩
   ·rw[<- jZ,e0];rfl
   ·rcases Jr.mp L with y|y
    ·have:=mlt m y;lia
    ·rw[Jd.mp y];lia
   ·refine List.pairwise_append.mpr ⟨mp,List.pairwise_singleton _ _,λa ha b hb=>?_⟩
    rw[Jd.mp hb];exact mlt a ha
  ·exact nx (by lia) ⟨⟨_,rfl⟩,S3,Y.trans B3,h3,ms,rfl,by lia,λm L=>by have:=mlt m L;lia,mp⟩
 rintro acc σ D ⟨⟨v0,rfl⟩,S2,Y,W,ms,rfl,ml,mlt,mp⟩;rw[JY]at ml mlt;have R:=na.tups (Y.tups3 S);refine⟨_,rfl,r,_,_,_,rfl,rfl,SqT.of R.net,rfl,N.lanes,rfl,by lia,λI T=>?_⟩;have Z:=zC T (.tup (zW (List.range N.lanes)));have h1:=zT T (.tup (zW (List.range N.lanes)));have U:=Z _ _ W;have S1:=S2.keep Z;have B1:=Y.trans (But.of (l:=l) Z);have aa:=R.tups (Tups.of Z);show gD _ _ _ (L2.upd D I (.tup (zW (List.range N.lanes)))) _;generalize L2.upd D I (.tup (zW (List.range N.lanes)))=H3 at *;clear W Z S2 Y R T;refine⟨_,rfl,(by show 0<=sizeLine;decide),λe he=>?_⟩;have J:=zC he (.lst []);refine⟨lc,e,_,rfl,rfl,SqL.of (J _ _ U),SqL.of (zT he _),_,rfl,?_⟩;have ae:=J _ _ U;have ab:=J _ _ h1;have S4:=S1.keep J;have B4:=B1.trans (But.of (l:=l) J);have ad:=aa.tups (Tups.of J);generalize L2.upd H3 e (.lst [])=H4 at *;clear U h1 S1 B1 aa J he
 have fin:∀ (q:Addr) (moves:List Nat) (C:Hp),Lns N.lanes moves->C q=some (.tup (zW moves))->C I=some (.tup (zW (List.range N.lanes)))->Pk3 C l->But l H C->∀ t,C t=none->∀ (v:Nat) (g:Hp),(v:Int)<2->Pk3 g l->But l (L2.upd C t (.lst [.ref I,.ref q])) g->∃ a xs j x,V.ref t=.ref a/\V.int (v:Nat)=.int j/\SqL K g a xs/\atI xs j=some x/\Q x g:=λq moves C ln W h1 S5 B5 t c v g hv X M=>by
  have s5:=zC c (.lst [.ref I,.ref q]);have t6:=(Tups.of s5).trans (M.tups3 (S5.keep s5));have B':=(B5.trans (But.of (l:=l) s5)).trans M
  have hx:∃ x,[V.ref I,V.ref q][v]?=some x/\Q x g:=by
   rcases v with _|_|v
   ·exact⟨_,rfl,k I _ g (Lns.all l1) (t6 _ _ h1) X B'⟩
   ·exact⟨_,rfl,k q moves g ln (t6 _ _ W) X B'⟩
   ·lia
  obtain⟨x,ex,qx⟩:=hx;exact⟨t,_,_,x,rfl,rfl,SqL.of (M t _ (zT c _) (S5.ne c).symm),zx ex,qx⟩
 by_cases un:ms=[]
 ·rw[show (!(zW ms).isEmpty)=false by rw[un];rfl]
  refine zr ⟨_,rfl,_,rfl,r,_,_,_,rfl,rfl,SqT.of ad.net,rfl,l,_,rfl,by lia,by lia,S4,λone C ho S5 B5=>⟨(by show 1<=sizeLine;decide),λq p=>?_⟩⟩;have u:=zC p (.tup [.int (one:Nat)]);have t5:=B5.tups3 S4;refine⟨(by show 2<=sizeLine;decide),λt c=>⟨_,rfl,l,2,rfl,by decide,by decide,(S5.keep u).keep (zC c _),λv g hv X M=>?_⟩⟩;exact fin q [one] _ ⟨by simp,λm L=>by rw[Jd.mp L];lia,List.pairwise_singleton _ _⟩ (zT p _) (u _ _ (t5 _ _ ab)) (S5.keep u) ((B4.trans B5).trans (But.of u)) t c v g hv X M
 ·rw[show (!(zW ms).isEmpty)=true by cases ms with
   | nil=>exact absurd rfl un
   | cons a b=>rfl]
  refine zz ⟨_,rfl,lc,_,rfl,.inl ⟨SqL.of ae,λq p=>?_⟩⟩;have u:=zC p (.tup (zW ms));refine⟨(by show 2<=sizeLine;decide),λt c=>⟨_,rfl,l,2,rfl,by decide,by decide,(S4.keep u).keep (zC c _),λv g hv X M=>?_⟩⟩;exact fin q ms _ ⟨un,mlt,mp⟩ (zT p _) (u _ _ ab) (S4.keep u) (B4.trans (But.of u)) t c v g hv X M
abbrev gn:Stmt:=top 44
def kG:Sp:=λb H Q _=>∃ l:Addr,b=[.ref l]/\Pk3 H l/\∀ r fr d c N a,Few 8 20 N->NetAt a r fr d c N->Pk3 a l->But l H a->Q (.ref r) a
theorem pC:FnScope ["_law_left_here","_law_way","_law_size","_law_forks","_law_k","_law_a","_law_ends_here"] ["_law_left_here"] (zN gn):=by trivial
theorem fU {f fK fN fM fB fX:Addr}{fd dK dN dM dB dX:FuncData}(F:Fun K "_law_evened" "_law_evened" gn f fd) (G:Mgs mg) (j:Use P w K mg base "_law_pick" ["_law_left_here","_law_many"] 1 yh fK dK) (UN:Use P w K mg base "_law_net" ["_law_left_here"] 12 qu fN dN) (UM:Use P w K mg base "_law_made" ["_law_way","_law_k"] 11 sA fM dM) (UB:Use P w K mg base "_law_block" ["_law_row"] 5 wz fB dB) (UX:Use P w K mg base "_law_mixed" ["_law_left_here","_law_row"] 2 vh fX dX):FnOk P w K mg base CX0 13 f fd ["_law_left_here"] kG:=by
 refine F.ok pC (λvs H Q E h=>?_) (λaQ A outer s H vs Q E hr h=>?_)
 ·obtain⟨l,rfl,_⟩:=h
  rfl
 obtain⟨l,rfl,S,k⟩:=h;have B:Room 1 _:=hr.mono (by decide);have aB:Room 2 _:=hr.mono (by decide);have aA:Room 5 _:=hr.mono (by decide);have ah:Room 11 _:=hr.mono (by decide);refine⟨_,(@zF _ _ _ _ _ (@zZ _ _ 1 _ _ _ _ pC.nd rfl (.inl rfl) (@zK _ _ _ _ _ _ _ _ _ _ _ _ _ _ _ _ j.ok B (by rfl) j.m j.kp j.b .nil zS (@zA _ _ _ _ _ (@qv _ 0 _ _ (by trivial)) (@zA _ _ _ _ _ zD zB (by rfl)) (by rfl)) (by decide) (by rfl) (by rfl)) (by rfl) (by trivial)) (@zF _ _ _ _ _ (@yH _ _ _ _ _ _ _ _ (@zp _ _ _ _ _ _ _ _ xD (@qv _ 1 _ _ (by trivial)) zD (zt _)) (@zH _ _ _ (@zU _ _ _ _ (@zK _ _ _ _ _ _ _ _ _ _ _ _ _ _ _ _ UN.ok hr (by rfl) UN.m UN.kp UN.b .nil zS (@zA _ _ _ _ _ (@qv _ 0 _ _ (by trivial)) zB (by rfl)) (by decide) (by rfl) (by rfl)))) zq) (@zF _ _ _ _ _ (@yH _ _ _ _ _ _ _ _ (@zp _ _ _ _ _ _ _ _ jH (@qv _ 1 _ _ (by trivial)) zD (zt _)) (@zH _ _ _ (@zU _ _ _ _ (@zK _ _ _ _ _ _ _ _ _ _ _ _ _ _ _ _ UM.ok ah (by rfl) UM.m UM.kp UM.b .nil zS (@zA _ _ _ _ _ (@zX _ _ _ _ _ _ _ zd (@zo _ _ _ _ (@zA _ _ _ _ _ zD (@zA _ _ _ _ _ zD zB (by rfl)) (by rfl))) (@zK _ _ _ _ _ _ _ _ _ _ _ _ _ _ _ _ j.ok B (by rfl) j.m j.kp j.b .nil zS (@zA _ _ _ _ _ (@qv _ 0 _ _ (by trivial)) (@zA _ _ _ _ _ zD zB (by rfl)) (by rfl)) (by decide) (by rfl) (by rfl)) (λ_ _=>rfl)) (@zA _ _ _ _ _ (@zK _ _ _ _ _ _ _ _ _ _ _ _ _ _ _ _ j.ok B (by rfl) j.m j.kp j.b .nil zS (@zA _ _ _ _ _ (@qv _ 0 _ _ (by trivial)) (@zA _ _ _ _ _ zD zB (by rfl)) (by rfl)) (by decide) (by rfl) (by rfl)) zB (by rfl)) (by rfl)) (by decide) (by rfl) (by rfl)))) zq) (@zF _ _ _ _ _ (@zZ _ _ 2 _ _ _ _ pC.nd rfl (.inl rfl) (@zX _ _ _ _ _ _ _ zd (@zo _ _ _ _ (@zA _ _ _ _ _ zD (@zA _ _ _ _ _ zD (@zA _ _ _ _ _ zD (@zA _ _ _ _ _ zD (@zA _ _ _ _ _ zD zB (by rfl)) (by rfl)) (by rfl)) (by rfl)) (by rfl))) (@zK _ _ _ _ _ _ _ _ _ _ _ _ _ _ _ _ j.ok B (by rfl) j.m j.kp j.b .nil zS (@zA _ _ _ _ _ (@qv _ 0 _ _ (by trivial)) (@zA _ _ _ _ _ zD zB (by rfl)) (by rfl)) (by decide) (by rfl) (by rfl)) (λ_ _=>rfl)) (by rfl) (by trivial)) (@zF _ _ _ _ _ (@uP _ 3 _ _ _ _ none _ _ _ _ _ (eE K 2 (qT (x6 0) (qT (x6 1) eF))) _ _ ["_law_a","_law_b","_law_left_here"] [none,none,some 0] pC.nd rfl rfl rfl (@oe _ _ _ _ (@zK _ _ _ _ _ _ _ _ _ _ _ _ _ _ _ _ UB.ok aA (by rfl) UB.m UB.kp UB.b .nil zS (@zA _ _ _ _ _ (@wR _ _ _ _ _ _ _ rfl (by rfl) G.list (by rfl) G.range (@zA _ _ _ _ _ (@qv _ 2 _ _ (by trivial)) zB (by rfl)) (by rfl) (by rfl)) zB (by rfl)) (by decide) (by rfl) (by rfl))) (CapOk.of (by kernel_rfl)) (λ_ _ _ _ _=>(@yL _ _ _ _ _ _ rfl (@zQ _ _ _ _ _ (@zM _ _ 0 _ (show (["_law_a","_law_b","_law_left_here"]:List Str).Nodup from by decide +kernel) rfl (.inl rfl) (.inr rfl)) (@zQ _ _ _ _ _ (@zM _ _ 1 _ (show (["_law_a","_law_b","_law_left_here"]:List Str).Nodup from by decide +kernel) rfl (.inl rfl) (.inr rfl)) yC (by rfl)) (by rfl)) (by rfl) (by rfl))) (λ_ _ _ _ _=>yj) (λ_ _ _ _ _=>(@zX _ _ _ _ _ _ (kX K) zd (@zo _ _ _ _ (@zA _ _ _ _ _ (@zV _ _ _ _ _ (@zA _ _ _ _ _ (@qv _ 0 _ _ (by trivial)) (@zA _ _ _ _ _ (@qv _ 1 _ _ (by trivial)) zB (by rfl)) (by rfl))) (@zA _ _ _ _ _ (@zV _ _ _ _ _ (@zA _ _ _ _ _ (@qv _ 1 _ _ (by trivial)) (@zA _ _ _ _ _ (@qv _ 0 _ _ (by trivial)) zB (by rfl)) (by rfl))) zB (by rfl)) (by rfl))) (@zK _ _ _ _ _ _ _ _ _ _ _ _ _ _ _ _ j.ok B (by rfl) j.m j.kp j.b .nil zS (@zA _ _ _ _ _ (@qv _ 2 _ _ (by trivial)) (@zA _ _ _ _ _ zD zB (by rfl)) (by rfl)) (by decide) (by rfl) (by rfl)) (λ_ _=>rfl))) (by intro _;rfl) (by with_unfolding_all rfl)) (@zF _ _ _ _ _ (@yd _ _ _ _ _ _ _ _ JN rfl (@yk _ _ _ _ _ _ rfl G.range (@zA _ _ _ _ _ (@zP _ _ _ _ _ _ _ _ xZ (@zK _ _ _ _ _ _ _ _ _ _ _ _ _ _ _ _ j.ok B (by rfl) j.m j.kp j.b .nil zS (@zA _ _ _ _ _ (@qv _ 0 _ _ (by trivial)) (@zA _ _ _ _ _ zD zB (by rfl)) (by rfl)) (by decide) (by rfl) (by rfl)) (@zY _ _ _ _ _ _ _ _ _ wV (by rfl) G.int (by rfl) (@zA _ _ _ _ _ (@y8 _ _ _ _ _ _ _ _ jH (@qv _ 2 _ _ (by trivial)) zD (zt _)) zB (by rfl)) (by decide) (by decide) (by rfl) (by rfl))) zB (by rfl)) (by rfl)) (@zM _ _ 4 _ pC.nd rfl (.inl rfl) (by trivial)) (@zF _ _ _ _ _ (@zZ _ _ 5 _ _ _ _ pC.nd rfl (.inl rfl) (@zK _ _ _ _ _ _ _ _ _ _ _ _ _ _ _ _ j.ok B (by rfl) j.m j.kp j.b .nil zS (@zA _ _ _ _ _ (@qv _ 0 _ _ (by trivial)) (@zA _ _ _ _ _ (@qv _ 2 _ _ (by trivial)) zB (by rfl)) (by rfl)) (by decide) (by rfl) (by rfl)) (by rfl) (by trivial)) (@zH _ _ _ (@xU _ _ _ _ (@vC _ _ _ _ _ _ _ _ _ _ _ _ JX Yu Yv yq (@qv _ 3 _ _ (by trivial)) (@zA _ _ _ _ _ (@zV _ _ _ _ _ (@zA _ _ _ _ _ (@qv _ 5 _ _ (by trivial)) (@zA _ _ _ _ _ (@zP _ _ _ _ _ _ _ _ xa (@zP _ _ _ _ _ _ _ _ yI (@zP _ _ _ _ _ _ _ _ yI (@qv _ 5 _ _ (by trivial)) zD) (@zK _ _ _ _ _ _ _ _ _ _ _ _ _ _ _ _ j.ok B (by rfl) j.m j.kp j.b .nil zS (@zA _ _ _ _ _ (@qv _ 0 _ _ (by trivial)) (@zA _ _ _ _ _ (@zP _ _ _ _ _ _ _ _ xY (@qv _ 2 _ _ (by trivial)) zD) zB (by rfl)) (by rfl)) (by decide) (by rfl) (by rfl))) (@qv _ 2 _ _ (by trivial))) zB (by rfl)) (by rfl))) zB (by rfl)) (by rfl) (by rfl) (by rfl) (by rfl) (by rfl)) (by rfl)))) (by intro _;rfl)) (@zF _ _ _ _ _ (@zZ _ _ 6 _ _ _ _ pC.nd rfl (.inl rfl) (@zX _ _ _ _ _ _ _ zd (@zo _ _ _ _ (@zA _ _ _ _ _ (@vQ _ _ _ _ _ _ _ rfl (by rfl) G.tuple (by rfl) G.range (@zA _ _ _ _ _ (@qv _ 2 _ _ (by trivial)) zB (by rfl)) (by rfl) (by rfl)) (@zA _ _ _ _ _ (@zK _ _ _ _ _ _ _ _ _ _ _ _ _ _ _ _ UX.ok aB (by rfl) UX.m UX.kp UX.b .nil zS (@zA _ _ _ _ _ (@qv _ 0 _ _ (by trivial)) (@zA _ _ _ _ _ (@wR _ _ _ _ _ _ _ rfl (by rfl) G.list (by rfl) G.range (@zA _ _ _ _ _ (@qv _ 2 _ _ (by trivial)) zB (by rfl)) (by rfl) (by rfl)) zB (by rfl)) (by rfl)) (by decide) (by rfl) (by rfl)) zB (by rfl)) (by rfl))) (@zK _ _ _ _ _ _ _ _ _ _ _ _ _ _ _ _ j.ok B (by rfl) j.m j.kp j.b .nil zS (@zA _ _ _ _ _ (@qv _ 0 _ _ (by trivial)) (@zA _ _ _ _ _ zD zB (by rfl)) (by rfl)) (by decide) (by rfl) (by rfl)) (λ_ _=>rfl)) (by rfl) (by trivial)) (@zH _ _ _ (@zU _ _ _ _ (@zV _ _ _ _ _ (@zA _ _ _ _ _ (@qv _ 2 _ _ (by trivial)) (@zA _ _ _ _ _ (@zY _ _ _ _ _ _ _ _ _ zi (by rfl) G.tuple (by rfl) (@zA _ _ _ _ _ (@qv _ 3 _ _ (by trivial)) zB (by rfl)) (by decide) (by decide) (by rfl) (by rfl)) (@zA _ _ _ _ _ (@qv _ 6 _ _ (by trivial)) zB (by rfl)) (by rfl)) (by rfl)))))))))))),?_⟩;refine⟨_,rfl,l,8,rfl,by decide,by decide,S,λway H1 hw S1 B1=>?_⟩;refine⟨_,rfl,rfl,_,rfl,ve (λ_=>?_) (λz0=>?_)⟩
 ·exact⟨_,rfl,l,rfl,S1,λr fr er D N H2 af na U O=>k r fr er D N H2 ⟨af.ok,by have:=af.ln;lia,by have:=af.fk;lia⟩ na U (B1.trans O)⟩
 refine⟨_,rfl,_,_,rfl,rfl,_,rfl,ve (λ_=>?_) (λz1=>?_)⟩
 ·refine⟨by show 2<=sizeLine;decide,λt J=>⟨_,rfl,l,2,rfl,by decide,by decide,S1.keep (zC J _),λv H2 hv U O=>?_⟩⟩
  obtain⟨wy,wm,wa⟩:=wQ (xs:=[0,2]) (v:=v) (by show v<2;lia);refine⟨t,_,_,_,rfl,rfl,SqL.of (O t _ (zT J _) (S1.ne J).symm),wa,?_⟩;have Z:But l H H2:=(B1.trans (But.of (zC J _))).trans O;clear J O wa;refine⟨_,rfl,l,3,rfl,by decide,by decide,U,λsz H3 hz L X=>?_⟩;refine⟨wy,sz,rfl,by lia,λr fr er D W s4 ay=>?_⟩;obtain⟨m1,m2⟩:=qN wy (k:=sz) (by lia);exact k r fr er D _ W ⟨o4 (by lia),by lia,by lia⟩ ay (L.keep s4) ((Z.trans X).trans (But.of s4))
 refine⟨by show 5<=sizeLine;decide,λt J=>⟨_,rfl,l,5,rfl,by decide,by decide,S1.keep (zC J _),λv H2 hv U O=>?_⟩⟩;obtain⟨size,wm,wa⟩:=wQ (xs:=[2,4,4,4,8]) (v:=v) (by show v<5;lia);refine⟨t,_,_,_,rfl,rfl,SqL.of (O t _ (zT J _) (S1.ne J).symm),wa,?_⟩;have Z:But l H H2:=(B1.trans (But.of (zC J _))).trans O;clear J O wa B1 S1 S
 obtain⟨m,em,m3⟩:∃ m,size=2 ^ m/\1<=m/\m<=3:=by
  have z:∀ n∈[2,4,4,4,8],n=2 ^ 1\/n=2 ^ 2\/n=2 ^ 3:=by decide
  rcases z size wm with e|e|e
  ·exact⟨1,e,by decide,by decide⟩
  ·exact⟨2,e,by decide,by decide⟩
  ·exact⟨3,e,by decide,by decide⟩
 have sz:2<=size/\size<=8:=(show ∀ n∈[2,4,4,4,8],2<=n/\n<=8 by decide) size wm;refine⟨_,rfl,size,rfl,by lia,λp hp=>?_⟩;have s3:=zC hp (.lst (zW (List.range size)));refine⟨m,by lia,p,List.range size,rfl,zE,by rw[JS];exact em,by lia,λlb D H3 s4 T pr=>?_⟩;have L:=U.keep (s3.trans s4);have X:But l H H3:=Z.trans (But.of (s3.trans s4));have ao:=eL (k:=m) (by lia)
 have fb:∀ g∈yx m (List.range size),g.1<size/\g.2<size/\g.1≠g.2:=by
  have:=ao.fk;rw[em];exact this
 have aN:(yx m (List.range size)).length<=12:=by
  rw[em];have z:∀ m,m<4->(yx m (List.range (2 ^ m))).length<=12:=by decide
  exact z m (by lia)
 clear s3 s4 hp U Z ao wm;have pl:=pr.len;refine⟨lb,rfl,⟨_,SqL.of T⟩,λlc R=>?_⟩;have u:=L.ne R
 have ar:lb≠l:=λe=>by
  subst e;obtain⟨a,b,c,q,_⟩:=L.ex;rw[q]at T;cases T;obtain⟨a,g,e,_⟩:=pr.get (i:=0) rfl;cases e
 have aF:Frs l H lc:=X.frs R;have ab:Frs l H3 lc:=λb o e _=>zG e R;refine ig (K:=K) (a:=lb) (xs:=D) (λi acc σ W=>(∃ v0 v1,σ=[v0,v1,some (.ref l)])/\Pk3 W l/\But l H3 W/\W lc=some (.lst acc)/\∃ fs,Prs W acc fs/\fs.length=i/\∀ g∈fs,g.1<size/\g.2<size/\g.1≠g.2) ⟨⟨_,_,rfl⟩,L.upd u,But.of (zC R _),zT R _,[],trivial,rfl,λg hg=>(nomatch hg)⟩ (λi acc σ W z=>⟨z.2.2.2.1,SqL.of (z.2.2.1 _ _ T ar)⟩) ?_ ?_
 ·rintro i x acc σ W hx ⟨⟨v0,v1,rfl⟩,S4,B4,h4,fs,p4,fl,ae⟩
  obtain⟨a,g,rfl,eg,ha⟩:=(pr.tups (B4.tups3 L)).get hx;have il:=(J8.mp hx).1;have gk:=fb g (Jq eg);refine⟨a,_,rfl,SqT.of ha,rfl,_,_,rfl,_,_,rfl,rfl,?_⟩;refine⟨_,rfl,_,rfl,(by show 2<=sizeLine;decide),λI y=>⟨_,rfl,_,rfl,(by show 2<=sizeLine;decide),λt2 av=>⟨(by show 2<=sizeLine;decide),λl5 C=>?_⟩⟩⟩;have s5:=zC y (.tup [.int (g.1:Nat),.int (g.2:Nat)]);have s6:=zC av (.tup [.int (g.2:Nat),.int (g.1:Nat)]);have s7:=zC C (.lst [.ref I,.ref t2]);have u7:=(s5.trans s6).trans s7;have k1:FkOk _ size (.ref I):=⟨I,g,rfl,s7 _ _ (s6 _ _ (zT y _)),gk⟩;have k2:FkOk _ size (.ref t2):=⟨t2,(g.2,g.1),rfl,s7 _ _ (zT av _),gk.2.1,gk.1,gk.2.2.symm⟩;have h5:=zT C (.lst [.ref I,.ref t2]);have S5:=S4.keep u7;have aD:=u7 _ _ h4;have p5:=p4.tups (Tups.of u7);have B5:=B4.trans (But.of (l:=l) u7);have n5:=(S4.keep (s5.trans s6)).ne C;generalize L2.upd (L2.upd (L2.upd W I (.tup [.int (g.1:Nat),.int (g.2:Nat)])) t2 (.tup [.int (g.2:Nat),.int (g.1:Nat)])) l5 (.lst [.ref I,.ref t2])=H5 at *;refine⟨_,rfl,l,2,rfl,by decide,by decide,S5,λv Y hv S6 M=>?_⟩;have t6:=M.tups3 S5
  obtain⟨x,ex,kx⟩:∃ x,[V.ref I,V.ref t2][v]?=some x/\FkOk Y size x:=by
   rcases v with _|_|v
   ·exact⟨_,rfl,k1.tups t6⟩
   ·exact⟨_,rfl,k2.tups t6⟩
   ·lia
  refine⟨l5,_,_,x,rfl,rfl,SqL.of (M l5 _ h5 n5.symm),zx ex,?_⟩;have h6:=M lc _ aD u.symm;have p6:=p5.tups t6;obtain⟨a2,g2,rfl,aC,aE⟩:=kx;have al:=p6.len;refine⟨h6,by rw[Js];lia,nx il ⟨⟨_,_,rfl⟩,S6.upd u,(B5.trans M).upd ab,zE,fs++[g2],Prs.add (f:=g2) (Tups.lst h6 _ _ aC) (p6.tups (Tups.lst h6)),by rw[J9,fl];rfl,λf hf=>?_⟩⟩;rcases Jr.mp hf with z|z
  ·exact ae f z
  ·rw[Jd.mp z];exact aE
 rintro acc σ W ⟨⟨v0,v1,rfl⟩,S4,B4,h4,fs,p4,fl,ae⟩;have aJ:=X.trans B4;have ak:fs.length<=12:=by lia
 clear B4 ar L T pr X ab;refine⟨_,rfl,l,4,rfl,by decide,by decide,S4,λv H5 hv S5 B5=>?_⟩;have h5:=B5 lc _ h4 u.symm;have p5:=p4.tups (B5.tups3 S4);have aI:=aJ.trans B5;refine⟨_,rfl,_,_,rfl,rfl,.inr ⟨_,rfl,_,_,rfl,rfl,.inl ⟨by lia,by lia⟩,?_⟩⟩
 have cb:((v:Int)*(if decide ((size:Int)<8)=true then 1 else 0))=((if size<8 then v else 0:Nat):Int):=by
  by_cases z:size<8
  ·rw[JE (Jw (by lia)),JE z];lia
  ·rw[Jv (by rw[Jj (by lia)];exact Jf),Jv z];lia
 have cl:(if size<8 then v else 0)<=4:=by split<;>lia
 refine⟨_,rfl,by rw[cb];lia,by rw[cb];lia,?_⟩;rw[cb];generalize aL:(if size<8 then v else 0)=cnt at cl
 refine xI (lo:=0) (n:=((cnt:Nat):Int).toNat) (λi σ Y=>(∃ w4 w5 w6,σ=[some (.ref l),some (.int (way:Nat)),some (.int (size:Nat)),some (.ref lc),w4,w5,w6])/\Pk3 Y l/\But l H Y/\∃ D fs,Y lc=some (.lst D)/\Prs Y D fs/\fs.length<=12+i/\∀ f∈fs,f.1<size/\f.2<size/\f.1≠f.2)
  ⟨⟨_,_,_,rfl⟩,S5,aI,acc,fs,h5,p5,ak,ae⟩ ?_ ?_
 ·rintro i σ Y hi ⟨⟨w4,w5,w6,rfl⟩,S6,M,D,fs,h6,p6,aP,ai⟩
  refine⟨_,rfl,_,rfl,l,size,rfl,by lia,by lia,S6,λone H7 ho S7 B7=>?_⟩;refine⟨_,rfl,.inl ⟨rfl,_,SqL.of (B7 lc _ h6 u.symm)⟩,_,rfl,_,rfl,_,_,rfl,rfl,_,rfl,_,rfl,_,_,rfl,rfl,l,_,rfl,by lia,by lia,S7,λd H8 hd S8 B8=>?_⟩;refine⟨_,_,rfl,rfl,_,rfl,_,_,rfl,rfl,by lia,?_⟩;have aa:one<size:=by lia
  obtain⟨aq,ap⟩:=re (one:=one) (d:=d) (lanes:=size) aa (by lia);have ec:((one:Int)+1+d)%size=(((one+1+d)%size:Nat):Int):=by rw[Int.natCast_emod,Int.natCast_add,Int.natCast_add];rfl
  dsimp only;rw[ec];generalize (one+1+d)%size=ad at aq ap;refine⟨by show 2<=sizeLine;decide,λI y=>?_⟩;have s9:=zC y (.tup [.int (one:Nat),.int (ad:Nat)]);have h8:=B8 lc _ (B7 lc _ h6 u.symm) u.symm;have h9:=s9 _ _ h8;have p8:=(p6.tups ((B7.tups3 S6).trans (B8.tups3 S7))).tups (Tups.of s9);have aM:=p8.len;refine⟨lc,D,_,rfl,rfl,h9,by rw[Js];lia,⟨_,_,_,rfl⟩,(S8.keep s9).upd u,(((M.trans B7).trans B8).trans (But.of s9)).upd aF,D++[.ref I],fs++[(one,ad)],zE,Prs.add (f:=(one,ad)) (Tups.lst h9 _ _ (zT y _)) (p8.tups (Tups.lst h9)),by rw[J9];show _+1<=_;lia,λf hf=>?_⟩;rcases Jr.mp hf with z|z
  ·exact ai f z
  ·rw[Jd.mp z];exact⟨aa,aq,ap⟩
 ·rintro σ H2 ⟨⟨w4,w5,w6,rfl⟩,U,O,D,fs,h2,p2,aG,aj⟩
  have c4:((cnt:Nat):Int).toNat=cnt:=JY _;rw[c4]at aG;refine⟨_,rfl,size,rfl,by lia,λI y=>?_⟩;have s1:=zC y (.tup (zW (List.range size)));refine⟨_,rfl,_,rfl,size,rfl,by lia,λl2 ax=>?_⟩;have s2:=zC ax (.lst (zW (List.range size)));have u2:=s1.trans s2;refine⟨l,l2,zW (List.range size),rfl,zT ax _,by rw[zj,JS];lia,U.keep u2,λt3 ys H3 py az L X=>?_⟩;have ag:=X I _ (s2 _ _ (zT y _)) (U.ne y).symm;have h3:=X lc _ (u2 _ _ h2) u.symm;have p3:=p2.tups ((Tups.of u2).trans (X.tups3 (U.keep u2)));have aK:=(O.trans (But.of u2)).trans X;refine⟨(by show 2<=sizeLine;decide),λl5 C=>⟨_,rfl,l,2,rfl,by decide,by decide,L.keep (zC C _),λv3 Y aO S6 M=>?_⟩⟩;have s6:=zC C (.lst [.ref I,.ref t3]);have t6:=(Tups.of s6).trans (M.tups3 (L.keep s6))
  obtain⟨x,ex,e,kx,pe⟩:∃ x,[V.ref I,V.ref t3][v3]?=some (.ref x)/\∃ es:List Nat,Y x=some (.tup (zW es))/\es.Perm (List.range size):=by
   rcases v3 with _|_|v3
   ·exact⟨_,rfl,_,t6 _ _ ag,.refl _⟩
   ·obtain⟨es,rfl,pe⟩:=tF py
    exact⟨_,rfl,es,t6 _ _ az,pe⟩
   ·lia
  refine⟨l5,_,_,_,rfl,rfl,SqL.of (M l5 _ (zT C _) (L.ne C).symm),zx ex,?_⟩;have h6:=M lc _ (s6 _ _ h3) u.symm;have p6:=p3.tups t6;have aH:=(aK.trans (But.of s6)).trans M;refine⟨_,rfl,_,rfl,lc,_,rfl,.inl ⟨SqL.of h6,λt7 au=>?_⟩⟩;have s7:=zC au (.tup D);refine⟨_,rfl,(by show 3<=sizeLine;decide),λr aw=>?_⟩;have s8:=zC aw (.tup [.int (size:Nat),.ref t7,.ref x]);have u8:=s7.trans s8;exact k r t7 x D ⟨size,fs,e⟩ _ ⟨⟨by show 1<=size;lia,by show size<=16;lia,by show fs.length<=128;lia,aj,pe⟩,by show size<=8;lia,by show fs.length<=20;lia⟩ ⟨zT aw _,s8 _ _ (zT au _),p6.tups (Tups.of u8),u8 _ _ kx⟩ (S6.keep u8) (aH.trans (But.of u8))
abbrev pF:Stmt:=top 1
abbrev pO:Stmt:=top 2
abbrev pJ:Stmt:=top 3
def vg (K:PySem.W.Frag):Sp:=λa H Q _=>∃ x,a=[x]/\AnyT K H x/\Q (.bl (tu x)) H
def sH (K:PySem.W.Frag):Sp:=λa H Q _=>∃ x b,a=[x,.int b]/\AnyT K H x/\Q (.bl (xT b x)) H
def wx (K:PySem.W.Frag):Sp:=λa H Q _=>∃ x m,a=[x,.int m]/\AnyT K H x/\Q (.bl (wD H m x)) H
theorem bD:FnScope ["thing"] ["thing"] (zN pF):=by trivial
theorem jK {f:Addr}{fd:FuncData}(F:Fun K "is_whole" "is_whole" pF f fd) (G:Mgs mg):FnOk P w K mg base CX0 1 f fd ["thing"] (vg K):=by
 refine F.ok bD (λa H Q E h=>?_) (λd A outer s H a Q E e h=>?_)
 ·obtain⟨x,rfl,_⟩:=h
  rfl
 obtain⟨x,rfl,c,k⟩:=h;refine⟨_,(@zH _ _ _ (@zU _ _ _ _ (@xX _ _ _ _ _ _ _ (@zL _ _ _ _ _ _ _ _ _ yQ (by rfl) G.isi (by rfl) (@zA _ _ _ _ _ (@qv _ 0 _ _ (by trivial)) (@zA _ _ _ _ _ (@ya _ _ (.ty "int") (.type "int") _ (by rfl) G.int (by rfl) rfl (by decide) (by decide)) zB (by rfl)) (by rfl)) (by decide) (by decide) (by rfl) (by rfl)) (@wF _ _ _ _ _ (@jA _ _ _ _ (@zL _ _ _ _ _ _ _ _ _ yQ (by rfl) G.isi (by rfl) (@zA _ _ _ _ _ (@qv _ 0 _ _ (by trivial)) (@zA _ _ _ _ _ (@ya _ _ (.ty "bool") (.type "bool") _ (by rfl) G.bool (by rfl) rfl (by decide) (by decide)) zB (by rfl)) (by rfl)) (by decide) (by decide) (by rfl) (by rfl))))))),?_⟩;obtain⟨t,I⟩:=c.isi;refine⟨_,rfl,_,"int",_,_,rfl,I.ty,I.int,_,rfl,?_⟩
 cases x with
 | int i=>exact zz ⟨_,rfl,_,"bool",_,_,rfl,I.ty,I.bool,_,rfl,k⟩
 | bl b=>exact zz ⟨_,rfl,_,"bool",_,_,rfl,I.ty,I.bool,_,rfl,k⟩
 | non=>exact zr k
 | str z=>exact zr k
 | flt z=>exact zr k
 | byt z=>exact zr k
 | ref z=>exact zr k
 | ty z=>exact zr k
theorem bF:FnScope ["thing","bound"] ["thing","bound"] (zN pO):=by trivial
theorem jT {f g:Addr}{fd j:FuncData}(F:Fun K "is_below" "is_below" pO f fd) (G:Mgs mg) (a:Use P w K mg base "is_whole" ["thing"] 1 (vg K) g j):FnOk P w K mg base CX0 2 f fd ["thing","bound"] (sH K):=by
 refine F.ok bF (λc H Q E h=>?_) (λm A outer s H c Q E d h=>?_)
 ·obtain⟨x,b,rfl,_⟩:=h
  rfl
 obtain⟨x,b,rfl,l,k⟩:=h;refine⟨_,(@zH _ _ _ (@zU _ _ _ _ (@xX _ _ _ _ _ _ _ (@zK _ _ _ _ _ _ _ _ _ _ _ _ _ _ _ _ a.ok d (by rfl) a.m a.kp a.b .nil zS (@zA _ _ _ _ _ (@qv _ 0 _ _ (by trivial)) zB (by rfl)) (by decide) (by rfl) (by rfl)) (@wF _ _ _ _ _ (@rc _ _ _ _ _ _ _ _ _ _ _ _ tI jH zD (@qv _ 0 _ _ (by trivial)) (@qv _ 1 _ _ (by trivial)) (by with_unfolding_all rfl)))))),?_⟩;refine⟨_,rfl,_,rfl,l,_,rfl,?_⟩
 cases x with
 | int i =>
  refine zz ⟨_,rfl,_,_,rfl,rfl,_,rfl,?_⟩;have e:xT b (.int i)=(decide (0<=i) && decide (i<b)):=rfl;rw[e]at k;by_cases z:(0:Int)<=i
  ·rw[Jw z]at k ⊢
   exact zz ⟨_,rfl,_,_,rfl,rfl,k⟩
  ·rw[Jj z]at k ⊢
   exact zr k
 | bl z=>exact zr k
 | non=>exact zr k
 | str z=>exact zr k
 | flt z=>exact zr k
 | byt z=>exact zr k
 | ref z=>exact zr k
 | ty z=>exact zr k
theorem bE:FnScope ["thing","many"] ["thing","many"] (zN pJ):=by trivial
theorem jO {f:Addr}{fd:FuncData}(F:Fun K "is_row" "is_row" pJ f fd) (G:Mgs mg):FnOk P w K mg base CX0 1 f fd ["thing","many"] (wx K):=by
 refine F.ok bE (λc H Q E h=>?_) (λi A outer s H c Q E j h=>?_)
 ·obtain⟨x,m,rfl,_⟩:=h
  rfl
 obtain⟨x,m,rfl,g,k⟩:=h;refine⟨_,(@zH _ _ _ (@zU _ _ _ _ (@xX _ _ _ _ _ _ _ (@zL _ _ _ _ _ _ _ _ _ yQ (by rfl) G.isi (by rfl) (@zA _ _ _ _ _ (@qv _ 0 _ _ (by trivial)) (@zA _ _ _ _ _ (@ya _ _ (.ty "tuple") (.type "tuple") _ (by rfl) G.tuple (by rfl) rfl (by decide) (by decide)) zB (by rfl)) (by rfl)) (by decide) (by decide) (by rfl) (by rfl)) (@wF _ _ _ _ _ (@y8 _ _ _ _ _ _ _ _ xD (@zL _ _ _ _ _ _ _ _ _ zR (by rfl) G.len Jy (@zA _ _ _ _ _ (@qv _ 0 _ _ (by trivial)) zB (by rfl)) (by decide) (by decide) (by rfl) (by rfl)) (@qv _ 1 _ _ (by trivial)) (zt _)))))),?_⟩;obtain⟨t,I⟩:=g.isi;refine⟨_,rfl,_,"tuple",_,_,rfl,I.ty,I.tup,_,rfl,?_⟩
 cases z:zc H x with
 | none =>
  have e:wD H m x=false:=by unfold wD;rw[z]
  rw[e]at k
  exact zr k
 | some b =>
  have e:wD H m x=decide ((b.length:Int)=m):=by unfold wD;rw[z]
  rw[e]at k;obtain⟨a,rfl,d⟩:=zw z;exact zz ⟨_,rfl,a,_,rfl,.inr (SqT.of d),_,rfl,rfl,by rw[vo];exact k⟩
end
end K46
namespace L2
open PySem PySem.Spec PyProof.Rows Own
theorem nR:∀ {ds:List PyData}{n:Nat},(∀ e∈ds,e.canLay0=true/\e.depth<=n)->PyData.canLayAll0 ds=true/\PyData.depthAll ds<=n
 | [],_,_=>⟨rfl,JL _⟩
 | d::ds,n,h=>by
  obtain⟨a1,a2⟩:=h d JK;obtain⟨b,c⟩:=nR (ds:=ds) λe a=>h e (JJ _ a);refine⟨?_,?_⟩
  ·show (d.canLay0 && PyData.canLayAll0 ds)=true
   rw[a1,b];rfl
  ·show max d.depth (PyData.depthAll ds)<=n
   lia
abbrev KI:=Int ⊕ List Int
abbrev KN:=List KI
section
variable (prog:Program)(w:World)
def NIt (h:Heap):KI->Value->Prop
 | .inl i,v=>∃ t,v=.int i t
 | .inr xs,v=>∃ b,v=.ref b/\IsTupleKey (yW prog w) h (xs.map Sum.inl) b
def NIts (h:Heap):KN->List Value->Prop
 | [],vs=>vs=[]
 | k::ks,vs=>∃ v r,vs=v::r/\NIt prog w h k v/\NIts h ks r
def NIs (h:Heap)(ks:KN)(a:Addr):Prop:=∃ o items n,h.get? a=some o/\o.cls=.type "tuple"/\o.data=.seq items n/\NIts prog w h ks items.toList
def nh1:KI->Int
 | .inl i=>hashInt i
 | .inr xs=>tupleKeyHash (yW prog w) (xs.map Sum.inl)
def nd1:KI->Nat
 | .inl _=>1
 | .inr xs=>xs.length+1
def nds (ks:KN):Nat:=(ks.map nd1).sum
end
variable {prog:Program}{w:World}{A:Around}{E:Value->Shared->Prop}
theorem iw {a b:List Int}(h:a.map (Sum.inl:Int->Key)=b.map Sum.inl):a=b :=
 List.map_inj_right (λx y e=>Sum.inl.inj e) |>.mp h
theorem NIt.inj {h:Heap}{x y:KI}{v:Value}(a:NIt prog w h x v)(b:NIt prog w h y v):x=y:=by
 cases x with
 | inl i =>
  obtain⟨t,rfl⟩:=a
  cases y with
  | inl j=>obtain⟨u,e⟩:=b;cases e;rfl
  | inr f=>obtain⟨b,e,_⟩:=b;cases e
 | inr l =>
  obtain⟨c,rfl,k⟩:=a
  cases y with
  | inl j=>obtain⟨u,e⟩:=b;cases e
  | inr f =>
   obtain⟨d,e,g⟩:=b;cases e;rw[iw (k.inj g)]
theorem NIts.inj {h:Heap}:∀ {x y:KN}{vs:List Value},NIts prog w h x vs->NIts prog w h y vs->x=y
 | [],[],_,_,_=>rfl
 | [],_::_,_,a,b=>by obtain⟨v,r,e,_⟩:=b;rw[show _=[] from a]at e;cases e
 | _::_,[],_,a,b=>by obtain⟨v,r,e,_⟩:=a;rw[show _=[] from b]at e;cases e
 | x::j,y::i,_,a,b=>by
  obtain⟨v,r,rfl,g,f⟩:=a;obtain⟨k,l,e,d,c⟩:=b;cases e;rw[g.inj d,NIts.inj f c]
theorem NIs.inj {h:Heap}{x y:KN}{a:Addr}(p:NIs prog w h x a)(q:NIs prog w h y a):x=y:=by
 obtain⟨o,j,n,g,_,f,e⟩:=p;obtain⟨k,d,l,c,_,b,i⟩:=q;rw[g]at c;cases c;rw[f]at b;cases b;exact e.inj i
theorem NIt.keeps {h h':Heap}{d:Addr}{o:Obj}{es ep}(hd:h.get? d=some o)(c:o.data=.dict es ep)(s:Heap.SameBut d h h'){k:KI}{v:Value}(a:NIt prog w h k v):NIt prog w h' k v:=by
 cases k with
 | inl i=>exact a
 | inr g =>
  obtain⟨b,e,f⟩:=a;exact⟨b,e,f.keeps hd c s⟩
theorem NIts.keeps {h h':Heap}{d:Addr}{o:Obj}{es ep}(hd:h.get? d=some o)(b:o.data=.dict es ep)(s:Heap.SameBut d h h'):∀ {ks:KN}{vs:List Value},NIts prog w h ks vs->NIts prog w h' ks vs
 | [],_,a=>a
 | k::ks,_,a=>by
  obtain⟨v,r,e,a1,a2⟩:=a;exact⟨v,r,e,a1.keeps hd b s,NIts.keeps hd b s a2⟩
theorem NIs.keeps {h h':Heap}{ks:KN}{a d:Addr}{o:Obj}{es ep}(p:NIs prog w h ks a)(hd:h.get? d=some o)(f:o.data=.dict es ep)(s:Heap.SameBut d h h'):NIs prog w h' ks a:=by
 obtain⟨g,e,n,c,j,b,i⟩:=p;refine⟨g,e,n,?_,j,b,i.keeps hd f s⟩;rw[s.2 a (by rintro rfl;rw[hd]at c;cases c;rw[f]at b;cases b)];exact c
theorem ub:∀ (ks:KN) (vs:List Value) (c:Array Int) (s:Shared) (Q:Array Int->Shared->Prop),A.units<cLine->NIts prog w s.heap ks vs->Q (c++(ks.map (nh1 prog w)).toArray) { s with toks:=s.toks+nds ks } ->
  wpAny (model prog w) A (forIn vs c λx c=>(do let r <- pyHash x;pure (ForInStep.yield (c.push r)))) Q E s
 | [],vs,c,s,Q,d,a,q=>by
  rw[show vs=[] from a,Z7];refine J7 ?_
  simpa [nds] using q
 | k::ks,vs,c,s,Q,d,a,q=>by
  obtain⟨v,r,rfl,f,j⟩:=a;rw[YU]
  have h:∀ (m:Nat),m=nd1 k->({ s with toks:=s.toks+m+nds ks }:Shared)={ s with toks:=s.toks+nds (k::ks) }:=λm e=>by
   subst e;unfold nds;rw[Y0,List.sum_cons,Nat.add_assoc]
  have e2:c.push (nh1 prog w k)++(ks.map (nh1 prog w)).toArray=c++((k::ks).map (nh1 prog w)).toArray:=by simp
  have go:∀ (m:Nat),m=nd1 k->wpAny (model prog w) A (forIn r (c.push (nh1 prog w k)) λx c=>(do let r <- pyHash x;pure (ForInStep.yield (c.push r)))) Q E { s with toks:=s.toks+m }:=λm e =>
   ub ks r (c.push (nh1 prog w k)) { s with toks:=s.toks+m } Q d j (by rw[e2];have:=h m e;simp only at this ⊢;rw[this];exact q)
  cases k with
  | inl i =>
   obtain⟨t,rfl⟩:=f
   exact J0 (J0 (wpAny_pyHash_int (J7 (go 1 rfl))))
  | inr l =>
   obtain⟨b,rfl,g⟩:=f;exact J0 (J0 (wpAny_pyHash_tuple d g (J7 (go _ (by rw[Jc];rfl)))))
theorem mz {s:Shared}{a:Addr}{ks:KN}{Q:Int->Shared->Prop}(c:A.units+1<cLine)(d:NIs prog w s.heap ks a)(q:Q (reduceHash (Builtin.Tuple.tupleHashOf (ks.map (nh1 prog w)))) { s with toks:=s.toks+(nds ks+1) }):wpAny (model prog w) A (pyHash (.ref a)) Q E s:=by
 obtain⟨o,g,n,b,f,e,hi⟩:=d;show wpAny (model prog w) A (pyHashByItsType (.ref a)) Q E s;refine W.pyHash_slot (T:="tuple") (id:="tuple.__hash__") (B:=Builtin.«tuple.__hash__») ⟨o,b,f⟩ F.slot_tuple_hash F.entry_tuple_hash (F.args_tuple_hash_1 _) (by decide) (.inr (by lia)) ?_;unfold Builtin.«tuple.__hash__»;refine J0 ?_;show wpAny _ _ (pure _) _ _ _;refine J7 (J0 (wpAny_tupleItemsOf b e ?_));rw[<- Array.forIn_toList];refine J0 (ub ks _ _ s _ c hi ?_);simp only[Array.empty_append];unfold retInt;exact J0 (wpAny_mkInt (J7 ⟨_,_,rfl,q⟩))
theorem tD {i:Int}{t:Tok}{n:Nat}{s:Shared}{Q:Bool->Shared->Prop}(q:Q true s):wpAny (model prog w) A (eqIsQuiet n (.int i t)) Q E s:=by
 cases n<;>exact J7 q
theorem vY {n:Nat}{s:Shared}:∀ (vs:List Value) (Q:Option Bool × Unit->Shared->Prop),(∀ v∈vs,∀ R:Bool->Shared->Prop,R true s->wpAny (model prog w) A (eqIsQuiet n v) R E s)->Q (none,()) s ->
  wpAny (model prog w) A (forIn vs ((none,()):Option Bool × Unit) λy _=>(do
   let b <- eqIsQuiet n y
   if (!b)=true then pure (ForInStep.done (some false,())) else pure (ForInStep.yield (none,())))) Q E s
 | [],Q,_,q=>by rw[Z7];exact J7 q
 | v::vs,Q,h,q=>by
  rw[YU];exact J0 (J0 (h v JK _ (J7 (vY vs Q (λu a=>h u (JJ _ a)) q))))
theorem uz {s:Shared}{a:Addr}{o:Obj}{its:Array Value}{m n:Nat}{Q:Bool->Shared->Prop}(c:s.heap.get? a=some o) (d:o.cls=.type "tuple") (hd:o.data=.seq its m)
  (h:∀ v∈its.toList,∀ R:Bool->Shared->Prop,R true s->wpAny (model prog w) A (eqIsQuiet n v) R E s) (q:Q true s):wpAny (model prog w) A (eqIsQuiet (n+1) (.ref a)) Q E s:=by
 have ty:s.TypeIs (.ref a) "tuple":=⟨o,c,d⟩;unfold eqIsQuiet;refine J0 (wpAny_specialOf (T:="tuple") ty F.slot_tuple_eq.lookup (J0 (YK (T:="tuple") (b:=true) ty rfl ?_)));show wpAny _ _ (do let _ <- seqItems? _;_) _ _ _;refine J0 (Ye c hd (J0 ?_));rw[Option.getD_some,<- Array.forIn_toList];exact vY _ _ h (J7 q)
theorem NIts.mem {h:Heap}:∀ {ks:KN}{vs:List Value},NIts prog w h ks vs->∀ v∈vs,∃ k,NIt prog w h k v
 | [],_,a,v,b=>by rw[show _=[] from a]at b;cases b
 | k::ks,_,a,v,b=>by
  obtain⟨x,r,rfl,a1,a2⟩:=a;rcases Ji.mp b with rfl|z
  ·exact⟨k,a1⟩
  ·exact NIts.mem a2 v z
theorem qG {i:Int}{v:Value}(h:(yW prog w).is (.inl i) v=true):∃ t,v=.int i t:=by
 rw[pj]at h;rcases yM h with ⟨j,t,e,rfl⟩|⟨x,t,e,_⟩
 ·cases e;exact⟨t,rfl⟩
 ·cases e
theorem oJ {ks:List Key}{vs:List Value}(h:ItemsAre (yW prog w) ks vs):∀ xs:List Int,ks=xs.map Sum.inl->∀ v∈vs,∃ i t,v=.int i t:=by
 induction h with
 | nil=>intro xs _ v a;cases a
 | cons b _ ih =>
  intro xs e v a
  cases xs with
  | nil=>cases e
  | cons x xs =>
   rw[Y0]at e;injection e with c e2;subst c;rcases Ji.mp a with rfl|z
   ·obtain⟨t,e⟩:=qG b
    exact⟨x,t,e⟩
   ·exact ih xs e2 v z
theorem items_int {ks:List Int}{vs:List Value}(h:ItemsAre (yW prog w) (ks.map Sum.inl) vs):∀ v∈vs,∃ i t,v=.int i t:=oJ h ks rfl
theorem uN {s:Shared}{a:Addr}{ks:KN}{Q:Bool->Shared->Prop}(c:NIs prog w s.heap ks a)(q:Q true s):wpAny (model prog w) A (eqIsQuiet 8 (.ref a)) Q E s:=by
 obtain⟨o,x,n,l,p,m,hi⟩:=c;refine uz l p m (λv h R r=>?_) q;obtain⟨k,c⟩:=hi.mem v h
 cases k with
 | inl i=>obtain⟨t,rfl⟩:=c;exact tD r
 | inr z =>
  obtain⟨b,rfl,B,y,C,d,g,f,e⟩:=c;refine uz d g f (λu j R r=>?_) r;obtain⟨i,t,rfl⟩:=items_int e u j;exact tD r
def dI:KI->PyData
 | .inl i=>.int i
 | .inr xs=>.tuple (xs.map PyData.int)
def dN (ks:KN):PyData:=.tuple (ks.map dI)
theorem pU {h:Heap}{ks:List Key}{vs:List Value}(a:ItemsAre (yW prog w) ks vs):∀ xs:List Int,ks=xs.map Sum.inl->∃ as,ReadsAll h vs (xs.map PyData.int) as:=by
 induction a with
 | nil =>
  intro xs e
  cases xs with
  | nil=>exact⟨_,.nil⟩
  | cons x xs=>cases e
 | cons b _ ih =>
  intro xs e
  cases xs with
  | nil=>cases e
  | cons x xs =>
   rw[Y0]at e;injection e with c e2;subst c;obtain⟨t,rfl⟩:=qG b;obtain⟨as,r⟩:=ih xs e2;exact⟨_,.cons (.int x t) r⟩
theorem NIt.reads {h:Heap}{k:KI}{v:Value}(a:NIt prog w h k v):∃ as,Reads h v (dI k) as:=by
 cases k with
 | inl i=>obtain⟨t,rfl⟩:=a;exact⟨_,.int i t⟩
 | inr c =>
  obtain⟨b,rfl,o,j,n,g,f,e,d⟩:=a;obtain⟨as,r⟩:=pU (h:=h) d c rfl;exact⟨_,.tuple g f e r⟩
theorem NIts.reads {h:Heap}:∀ {ks:KN}{vs:List Value},NIts prog w h ks vs->∃ as,ReadsAll h vs (ks.map dI) as
 | [],_,a=>by rw[show _=[] from a];exact⟨_,.nil⟩
 | k::ks,_,a=>by
  obtain⟨v,r,rfl,a1,a2⟩:=a;obtain⟨as,p⟩:=a1.reads;obtain⟨bs,q⟩:=NIts.reads a2;exact⟨_,.cons p q⟩
theorem NIs.reads {h:Heap}{ks:KN}{a:Addr}(p:NIs prog w h ks a):∃ as,Reads h (.ref a) (dN ks) as:=by
 obtain⟨o,f,n,e,d,c,b⟩:=p;obtain⟨as,r⟩:=b.reads;exact⟨_,.tuple e d c r⟩
theorem qY:∀ (x y:List Int),PyData.eqvAll (x.map PyData.int) (y.map PyData.int)=decide (x=y)
 | [],[]=>rfl
 | [],_::_=>rfl
 | _::_,[]=>rfl
 | a::x,b::y=>by
  show (PyData.eqv (.int a) (.int b) && PyData.eqvAll (x.map PyData.int) (y.map PyData.int))=_;rw[qY x y,show PyData.eqv (.int a) (.int b)=(a == b) from rfl,JZ];simp
theorem eI (x y:KI):PyData.eqv (dI x) (dI y)=decide (x=y):=by
 cases x<;>cases y
 ·rw[show PyData.eqv (dI (.inl _)) (dI (.inl _))=(_ == _) from rfl,JZ];simp
 ·rfl
 ·rfl
 ·show PyData.eqvAll _ _=_
  rw[qY,JZ];simp
theorem nF:∀ (x y:KN),PyData.eqvAll (x.map dI) (y.map dI)=decide (x=y)
 | [],[]=>rfl
 | [],_::_=>rfl
 | _::_,[]=>rfl
 | a::x,b::y=>by
  show (PyData.eqv (dI a) (dI b) && PyData.eqvAll (x.map dI) (y.map dI))=_;rw[nF x y,eI,JZ];simp
theorem qP:∀ x:List Int,PyData.canLayAll0 (x.map PyData.int)=true/\PyData.depthAll (x.map PyData.int)<=0
 | []=>⟨rfl,Jb _⟩
 | a::x=>by
  obtain⟨p,q⟩:=qP x;refine⟨?_,?_⟩
  ·show (PyData.canLay0 (.int a) && PyData.canLayAll0 (x.map PyData.int))=true
   rw[p];rfl
  ·show max 0 (PyData.depthAll (x.map PyData.int))<=0
   lia
theorem oI (ks:KN):(dN ks).canLay0=true/\(dN ks).depth<=2:=by
 have key:∀ e∈ks.map dI,e.canLay0=true/\e.depth<=1:=λe b=>by
  obtain⟨k,_,rfl⟩:=JD.mp b
  cases k with
  | inl i=>exact⟨rfl,by show 0<=1;lia⟩
  | inr a =>
   obtain⟨p,q⟩:=qP a;refine⟨p,?_⟩;show PyData.depthAll (a.map PyData.int)+1<=1;lia
 obtain⟨p,q⟩:=nR key;refine⟨p,?_⟩;show PyData.depthAll (ks.map dI)+1<=2;lia
theorem i4 {s:Shared}{x y:KN}{a b:Addr}{Q:Bool->Shared->Prop}(k:A.units+2<cLine)(h:NIs prog w s.heap x a)(g:NIs prog w s.heap y b)(q:Q (decide (x=y)) s):wpAny (model prog w) A (eqBool (.ref a) (.ref b)) Q E s:=by
 obtain⟨as,d⟩:=h.reads;obtain⟨bs,c⟩:=g.reads;obtain⟨f,j⟩:=oI x;obtain⟨e,i⟩:=oI y;refine PySem.SeqAt.eqBoolOverData prog w A E s _ _ _ _ as bs Q d c f e (by lia) ?_;rw[show PyData.eqv (dN x) (dN y)=PyData.eqvAll (x.map dI) (y.map dI) from rfl,nF];exact q
variable (prog w)
def xQ:HeapKind prog w KN where
 is:=NIs prog w
 hash:=λa=>reduceHash (Builtin.Tuple.tupleHashOf (a.map (nh1 prog w)))
 draws:=λa=>nds a+1
 room:=λA=>A.units+2<cLine
 inj:=λc b=>NIs.inj c b
 keeps:=λx g i f=>NIs.keeps x g i f
 pyHash:=λe d h=>mz (by lia) d h
 eqBool:=λe c b h=>i4 e c b h
 quiet:=λd h=>uN d h
end L2
namespace L2
open PySem PySem.Spec PyProof.Rows Own
section
variable {X:Cx}{pins:List (Addr × Obj)}{σ:St}{H:Hp}{s:Shared}{d:Addr}
theorem Inv.reword {u v:HO}(I:Inv X pins σ H s)(hd:H d=some u)(h:∀ xs,u≠.tup xs)(nb:∀ ps,u≠.tbl ps)(no:∀ a,u≠.own a)(l:∀ o' i,X.H₀ d≠some (.frz o' i))(new:ObjOk X.prog X.w (upd H d v) s.heap d v):Inv X pins σ (upd H d v) s:=by
 have ne:∀ {b},H b=none->b≠d:=λe z=>by rw[z,hd]at e;cases e
 have f:∀ {b} {q:HO},H b=some q->q≠u->upd H d v b=some q:=λ{b q} e n=>by
  rw[zJ];· exact e
  ·intro z
   rw[z,hd]at e;exact n (Jn e).symm
 refine⟨I.ok,I.os,I.bare,⟨I.base.keep,I.base.slot,λb q e n m=>?_,I.base.there,λb xs e=>f (I.base.tups b xs e) λz=>h xs z.symm,λb q w e=>?_,λb ps e=>?_⟩,I.loc,I.cell,?_,λx c e=>?_,λp o=>?_,λb q e=>?_,I.len⟩
 ·have z:=I.base.free b q e n m
  rw[zJ (ne z)];exact z
 ·rw[zJ]
  ·exact I.base.frzs b q w e
  ·rintro rfl;exact l q w e
 ·obtain⟨more,z⟩:=I.base.tbls b ps e
  exact⟨more,f z λq=>nb _ q.symm⟩
 ·rw[zJ (ne I.free)];exact I.free
 ·have z:=I.freeC x c e
  rw[zJ (ne z)];exact z
 ·obtain⟨k,g,j⟩:=I.pin p o
  exact⟨k,by rw[zJ (ne g)];exact g,j⟩
 ·by_cases z:b=d
  ·subst z
   rw[zE]at e;cases e;exact new
  ·rw[zJ z]at e
   exact(I.hok b q e).stay (λc w _ r=>r) (λc r=>f r λz=>no _ z.symm) λc xs r=>f r λz=>h _ z.symm
end
def NIv (H:Hp):KI->V->Prop
 | .inl i,v=>v=.int i
 | .inr xs,v=>∃ b,v=.ref b/\H b=some (.tup (xs.map V.int))
def NIvs (H:Hp):KN->List V->Prop
 | [],vs=>vs=[]
 | k::ks,vs=>∃ v r,vs=v::r/\NIv H k v/\NIvs H ks r
def NKey (H:Hp)(k:KN)(b:Addr):Prop:=∃ a,H b=some (.tup a)/\NIvs H k a
theorem NIvs.tups {H H':Hp}(t:∀ b ys,H b=some (.tup ys)->H' b=some (.tup ys)):∀ {k:KN}{ys:List V},NIvs H k ys->NIvs H' k ys
 | [],_,h=>h
 | .inl i::k,_,h=>by
  obtain⟨v,r,e,c,a⟩:=h
  exact⟨v,r,e,c,NIvs.tups t a⟩
 | .inr f::k,_,h=>by
  obtain⟨v,r,e,⟨b,c,d⟩,a⟩:=h;exact⟨v,r,e,⟨b,c,t _ _ d⟩,NIvs.tups t a⟩
theorem NKey.tups {H H':Hp}(t:∀ b ys,H b=some (.tup ys)->H' b=some (.tup ys)){k:KN}{b:Addr}(h:NKey H k b):NKey H' k b:=by
 obtain⟨ys,c,a⟩:=h;exact⟨ys,t _ _ c,a.tups t⟩
section
variable {P:Program}{w:World}{H:Hp}{h:Heap}
theorem qF (ok:HOk P w H h):∀ {k:KN}{ys:List V}{its:List Value},NIvs H k ys->Vals ys its->NIts P w h k its
 | [],_,its,a,r=>by
  rw[show _=[] from a]at r
  cases r;rfl
 | k::ks,_,its,a,r=>by
  obtain⟨v,q,rfl,a1,a2⟩:=a
  cases r with
  | @cons _ u _ g c r =>
   refine⟨u,g,rfl,?_,qF ok a2 r⟩
   cases k with
   | inl i=>rw[show v=.int i from a1]at c;exact c
   | inr d =>
    obtain⟨b,rfl,f⟩:=a1;refine⟨b,c,?_⟩;have e:d.map V.int=(d.map (Sum.inl:Int->Key)).map kV:=by rw[Z6];rfl
    rw[e]at f;exact fu ok f
theorem vD (ok:HOk P w H h){k:KN}{b:Addr}(a:NKey H k b):NIs P w h k b:=by
 obtain⟨d,e,a⟩:=a;obtain⟨_,c,r,o,i,g,n,f⟩:=(show ObjOk P w H h b (.tup d) from ok b _ e);exact⟨o,c.toArray,n,i,g,f.1,by simpa using qF ok a r⟩
end
abbrev KVN:=List (KN × Addr × V)
def PrN:KN × Addr × V->KN × Addr × Value->Prop:=λp q=>p.1=q.1/\p.2.1=q.2.1/\RelV p.2.2 q.2.2
def yt (xs:KVN)(k:KN):Option V:=(xs.find? λx=>decide (x.1=k)).map (·.2.2)
def xh (xs:KVN)(k:KN)(b:Addr)(v:V):KVN:=if (yt xs k).isSome then xs.map λx=>if x.1=k then (x.1,x.2.1,v) else x else xs++[(k,b,v)]
theorem vq {xs:KVN}{vs:List (KN × Addr × Value)}(r:Paired PrN xs vs)(k:KN):RelO (yt xs k) ((atKey vs k).map (·.2)):=by
 induction r with
 | nil=>exact True.intro
 | @cons p q b a h t ih =>
  unfold yt atKey at ih ⊢;rw[List.find?_cons,List.find?_cons,h.1];by_cases c:q.1=k
  ·rw[Jw c];exact h.2.2
  ·rw[Jj c];exact ih
theorem kY {xs:KVN}{vs:List (KN × Addr × Value)}(r:Paired PrN xs vs)(k:KN){v:V}{u:Value}(a:RelV v u):Paired PrN (xs.map λx=>if x.1=k then (x.1,x.2.1,v) else x) (vs.map (putAt k u)):=by
 induction r with
 | nil=>exact .nil
 | @cons p q d b h t ih =>
  refine .cons ?_ ih;unfold putAt;dsimp only;by_cases c:q.1=k
  ·rw[JE (h.1.trans c),JE c];exact⟨h.1,h.2.1,a⟩
  ·rw[Jv (λz=>c (h.1.symm.trans z)),Jv c];exact h
theorem putN_rel {xs:KVN}{vs:List (KN × Addr × Value)}(r:Paired PrN xs vs)(k:KN)(b:Addr){v:V}{u:Value}(a:RelV v u):Paired PrN (xh xs k b v) (storedH vs k b u):=by
 have e:=(vq r k).isSome_eq;rw[Option.isSome_map]at e;unfold xh storedH;rw[<- e];by_cases c:(yt xs k).isSome=true
 ·rw[JE c,JE c];exact kY r k a
 ·rw[Jv c,Jv c];exact Paired.snoc r ⟨rfl,rfl,a⟩
theorem uO (xs:KVN)(k:KN)(b:Addr)(v:V):(xh xs k b v).length<=xs.length+1:=by
 unfold xh;split
 ·rw[Jc];lia
 ·rw[J9];exact Jb _
def PhN (P:Program)(w:World)(a:Addr)(xs:KVN):Heap->Prop:=λh=>xs.length<=sizeLine/\(a == sysModules)=false/\∃ b,Paired PrN xs b /\
 ∃ o c d,h.get? a=some o/\o.ExactDict/\o.data=.dict c d/\c.toList=b.map (entryOfKey (xQ P w))/\(b.map (·.1)).Nodup
def DN (P:Program)(w:World)(a:Addr)(xs:KVN):HO:=.ext (PhN P w a xs)
def KsIn (H:Hp)(xs:KVN):Prop:=∀ x∈xs,NKey H x.1 x.2.1
theorem KsIn.tups {H H':Hp}{xs:KVN}(t:∀ b ys,H b=some (.tup ys)->H' b=some (.tup ys))(h:KsIn H xs):KsIn H' xs:=λx a=>(h x a).tups t
section
variable {P:Program}{w:World}{H H':Hp}{h h':Heap}{a:Addr}{xs:KVN}
theorem dn_new (z:xs.length<=sizeLine)(hd:(a == sysModules)=false){vs:List (KN × Addr × Value)}(r:Paired PrN xs vs)(d:h'.DictOfH (xQ P w) a vs):ObjOk P w H' h' a (DN P w a xs):=by
 obtain⟨o,h,i,b,g,f,e,_,c⟩:=d;refine⟨⟨z,hd,vs,r,o,h,i,b,g,f,e,c⟩,⟨o,b⟩,λk j ⟨z,hd,vs,r,o,h,i,b,g,f,e,c⟩ s=>⟨z,hd,vs,r,o,h,i,s o b,g,f,e,c⟩⟩
theorem qZ (ok:HOk P w H h)(e:Rd H a (DN P w a xs))(ks:KsIn H xs):xs.length<=sizeLine/\(a == sysModules)=false/\∃ vs,Paired PrN xs vs/\h.DictOfH (xQ P w) a vs:=by
 obtain⟨⟨z,i,vs,r,o,m,n,l,k,j,f,d⟩,u,s⟩:=(show ObjOk P w H h a (DN P w a xs) from gE ok e);refine⟨z,i,vs,r,o,m,n,l,k,j,f,?_,d⟩;clear f d e z u s
 induction r with
 | nil=>intro x b;exact nomatch b
 | @cons p q A v c t ih =>
  intro x b;rcases Ji.mp b with here|there
  ·have:=vD ok (ks p JK)
   rw[c.1,c.2.1,<- here]at this;exact this
  ·exact ih (λy g=>ks y (JJ _ g)) x there
end
section
variable {X:Cx}{pins:List (Addr × Obj)}{σ:St}{H:Hp}{s:Shared}{a b:Addr}{xs:KVN}{k:KN}{v:V}{r:Value}{A:Around}{E:Value->Shared->Prop}
theorem jW (a:A.units+3<cLine):(xQ X.prog X.w).room A.in1:=by show A.in1.units+2<cLine;rw[Around.in1_units];lia
theorem cD {Q:Value->Shared->Prop}(f:A.units+3<cLine)(I:Inv X pins σ H s)(e:Rd H a (DN X.prog X.w a xs))(ks:KsIn H xs)(d:NKey H k b)(h:∀ c,Inv X pins σ H c->Q (.bool (yt xs k).isSome) c) :
  wpAny (model X.prog X.w) A (compareOp .In (.ref b) (.ref a)) Q E s:=by
 obtain⟨z,g,j,rel,i⟩:=qZ I.hok e ks;refine wpAny_in_heap (jW f) (vD I.hok d) g i ?_;have q:=(vq rel k).isSome_eq;rw[Option.isSome_map]at q;rw[<- q];exact h _ (I.tok _)
theorem iZ {Q:Value->Shared->Prop}(f:A.units+3<cLine)(I:Inv X pins σ H s)(e:Rd H a (DN X.prog X.w a xs))(ks:KsIn H xs)(d:NKey H k b)(h:∀ c,Inv X pins σ H c->Q (.bool (!(yt xs k).isSome)) c) :
  wpAny (model X.prog X.w) A (compareOp .NotIn (.ref b) (.ref a)) Q E s:=by
 obtain⟨z,g,j,rel,i⟩:=qZ I.hok e ks;refine wpAny_notIn_heap (jW f) (vD I.hok d) g i ?_;have q:=(vq rel k).isSome_eq;rw[Option.isSome_map]at q;rw[<- q];exact h _ (I.tok _)
theorem mU {Q:Unit->Shared->Prop}(m:A.units+3<cLine)(I:Inv X pins σ H s)(e:H a=some (DN X.prog X.w a xs))(ks:KsIn H xs)(i:NKey H k b)(g:RelV v r)(l:xs.length<sizeLine)(h:∀ d,Inv X pins σ (upd H a (DN X.prog X.w a (xh xs k b v))) d->Q () d) :
  wpAny (model X.prog X.w) A (setItem (.ref a) (.ref b) r) Q E s:=by
 obtain⟨z,u,f,rel,x⟩:=qZ I.hok (.inl e) ks;have j:f.length<=sizeLine:=by rw[<- Yt rel];exact z
 have p:(xh xs k b v).length<=sizeLine:=by have:=uO xs k b v;lia
 refine wpAny_setItem_heap (hsz:=j) (jW m) (vD I.hok i) x λw c n=>h _ ?_;have t:∃ q,w.get? a=some q:=let ⟨q,_,_,o,_⟩:=c;⟨q,o⟩;exact nL I (by rw[e];exact True.intro) n t (dn_new p u (putN_rel rel k b g) c)
end
section
variable {prog:Program}{w:World}{A:Around}{E:Value->Shared->Prop}{s:Shared}{d:Addr}
theorem lH {o:Obj}{a:Array DictEntry}{i:Nat}{Q:Value->Shared->Prop}(b:s.heap.get? d=some o)(e:o.ExactDict)(hd:o.data=.dict a i)(f:(d == sysModules)=false)(h:Q (.int a.size s.toks) { s with toks:=s.toks+1 }) :
  wpAny (model prog w) A (Builtin.«dict.__len__» ⟨[.ref d],[]⟩) (λfin c=>∃ r,fin=.done (.ret r)/\Q r c) E s:=by
 have ty:s.TypeIs (.ref d) "dict":=⟨o,b,e.1⟩;unfold Builtin.«dict.__len__» Builtin.Dict.dictSlotNone;refine J0 (J0 (wpAny_notOrdered_dict ty ?_));refine J0 ?_;show wpAny _ _ (pure ((.ref d,[]):Value × List Value)) _ _ _;refine J7 (J7 (J0 ?_));show wpAny _ _ (pure d) _ _ _;unfold dictSize;refine J7 (J0 (J0 (Zc b hd (J7 (J0 (wpAny_pendingCount_other f ?_))))));unfold retInt
 have g:Q (.int ((a.size:Int)+((0:Nat):Int)) s.toks) { s with toks:=s.toks+1 }:=by
  rw[show ((a.size:Int)+((0:Nat):Int))=a.size from Int.add_zero _];exact h
 exact J0 (wpAny_mkInt (J7 ⟨_,rfl,g⟩))
theorem jc {o:Obj}{a:Array DictEntry}{g:Nat}{Q:Value->Shared->Prop}(c:s.heap.get? d=some o)(b:o.ExactDict)(hd:o.data=.dict a g)(f:(d == sysModules)=false)(i:(a.size:Int)<2 ^ 63)(h:∀ t,Q (.int a.size t) { s with toks:=s.toks+1+1 }) :
  wpAny (model prog w) A (Builtin.«len» ⟨[.ref d],[]⟩) (λfin e=>∃ r,fin=.done (.ret r)/\Q r e) E s:=by
 have ty:s.TypeIs (.ref d) "dict":=⟨o,c,b.1⟩;unfold Builtin.«len»;refine J0 ?_;show wpAny _ _ (pure (Value.ref d)) _ _ _;refine J7 (J0 (wpAny_callSpecial?_slot ty PySem.F.slot_dict_len (Y7 PySem.F.slot_dict_len ty PySem.F.entry_dict_len (lH c b hd f ?_) (PySem.F.args_dict_len_1 _))));show wpAny _ _ (holding [Value.int (a.size:Int) s.toks] (asIndex (.int (a.size:Int) s.toks)) >>= _) _ _ _;refine J0 (Y4 (show wpAny _ _ (pure (a.size:Int)) _ _ _ from J7 (J0 (wpAny_letGo ?_))));dsimp only;rw[Jv (by lia),Jv (by lia)];unfold retInt;exact J0 (wpAny_mkInt (J7 ⟨_,rfl,h _⟩))
end
section
variable {X:Cx}{pins:List (Addr × Obj)}{σ:St}{H:Hp}{s:Shared}{a:Addr}{xs:KVN}{A:Around}{E:Value->Shared->Prop}
theorem gI {P:Program}{w:World}{h:Heap}(ok:HOk P w H h)(e:Rd H a (DN P w a xs)):(a == sysModules)=false/\∃ o b c,h.get? a=some o/\o.ExactDict/\o.data=.dict b c/\b.size=xs.length/\(b.size:Int)<2 ^ 63:=by
 obtain⟨⟨z,d,k,r,o,b,c,j,i,g,f,m⟩,_,_⟩:=(show ObjOk P w H h a (DN P w a xs) from gE ok e);have l:b.size=xs.length:=by rw[size_of_entries f,<- Yt r]
 refine⟨d,o,b,c,j,i,g,l,?_⟩;rw[Js]at z;lia
theorem cC {Q:Value->Shared->Prop}(I:Inv X pins σ H s)(e:Rd H a (DN X.prog X.w a xs))(h:∀ t b,Inv X pins σ H b->Q (.int xs.length t) b):wpAny (model X.prog X.w) A (call (.builtin "len") [.ref a]) Q E s:=by
 obtain⟨c,o,j,k,i,g,d,l,f⟩:=gI I.hok e;refine Calls.call_function_entry kind_len plain_len entry_len (args_len1 _) (jc i g d c f λt=>?_);rw[l];exact h _ _ (I.tok _)
end
def NAt (P:Program)(w:World)(H:Hp)(a:Addr)(xs:KVN):Prop:=Rd H a (DN P w a xs)/\KsIn H xs
def ce (P:Program)(w:World)(ty e:TE):TE:=λσ H Q=>ty σ H λy f=>e σ f λx c=>∃ a b d k,x=.ref a/\y=.ref b/\NAt P w c a d/\NKey c k b/\Q (.bl (yt d k).isSome) c
def iE (P:Program)(w:World)(ty e:TE):TE:=λσ H Q=>ty σ H λy f=>e σ f λx c=>∃ a b d k,x=.ref a/\y=.ref b/\NAt P w c a d/\NKey c k b/\Q (.bl (!(yt d k).isSome)) c
def di (P:Program)(w:World)(f ty e:TE):TS:=λD σ H=>e σ H λv h=>f σ h λx g=>ty σ g λy d=>∃ a b c k,x=.ref a/\y=.ref b/\d a=some (DN P w a c)/\KsIn d c/\NKey d k b/\c.length<sizeLine/\D.nx σ (upd d a (DN P w a (xh c k b v)))
section
variable {X:Cx}{o i e value:Expr}{pos pos':Pos}{td ty tv:TE}
theorem gy (p:X.A.units+3<cLine)(hi:PE X i ty)(q:PE X o td):PC X .In i o (ce X.prog X.w ty td):=by
 intro pins s σ H Q I h;refine thn (hi pins s σ H _ I h) λm d ⟨y,A,w,e,j⟩=>thn (q pins d σ A _ w j) λu C ⟨x,z,v,f,a,b,c,k,ex,r,n,l,g⟩=>?_;subst ex r;cases (show u=Value.ref a from f);cases (show m=Value.ref b from e);exact cD p v n.1 n.2 l λB t=>⟨.bl (yt c k).isSome,z,t,rfl,g⟩
theorem vR (p:X.A.units+3<cLine)(hi:PE X i ty)(q:PE X o td):PC X .NotIn i o (iE X.prog X.w ty td):=by
 intro pins s σ H Q I h;refine thn (hi pins s σ H _ I h) λm d ⟨y,A,w,e,j⟩=>thn (q pins d σ A _ w j) λu C ⟨x,z,v,f,a,b,c,k,ex,r,n,l,g⟩=>?_;subst ex r;cases (show u=Value.ref a from f);cases (show m=Value.ref b from e);exact iZ p v n.1 n.2 l λB t=>⟨.bl (!(yt c k).isSome),z,t,rfl,g⟩
theorem oZ (z:X.A.units+3<cLine)(B:PE X o td)(hi:PE X i ty)(w:PE X value tv)(A:swapsWith value (some (.Subscript o i pos')) pos.line X.env=pure false) :
  PS X (.Assign [.Subscript o i pos'] value pos) (di X.prog X.w td ty tv):=by
 intro pins s σ H D I h;refine wpAny_Assign_Subscript (thn (w pins s σ H _ I h) λr d ⟨v,M,K,g,n⟩=>thn (B pins d σ M _ K n) λu c ⟨x,L,J,f,m⟩=>thn (hi pins c σ L _ J m) λt P ⟨y,Q,G,e,a,b,N,k,ex,E,C,p,q,l,j⟩=>?_) A;subst ex E;cases (show u=Value.ref a from f);cases (show t=Value.ref b from e);exact mU z G C p q g l λO F=>⟨σ,_,F,j⟩
theorem vW:CallR X (.builtin "len") (λvs H Q=>∃ a xs,vs=[.ref a]/\Rd H a (DN X.prog X.w a xs)/\Q (.int xs.length) H):=by
 intro pins s σ H vs g Q I b ⟨a,xs,e,d,q⟩;subst e;obtain⟨u,rfl,c⟩:=b.one;cases (show u=Value.ref a from c);exact cC I d λt h f=>⟨.int xs.length,H,f,⟨t,rfl⟩,q⟩
def ez (P:Program)(w:World):TE:=λ_ H Q=>∀ p,H p=none->Q (.ref p) (upd H p (DN P w p []))
theorem oj:PE X (.Dict [] [] pos) (ez X.prog X.w):=λpins s σ H Q I h =>
 wpAny_Dict_empty ⟨.ref s.heap.objs.size,_,I.laid (a:=s.heap.objs.size) (o:=DN X.prog X.w s.heap.objs.size []) (t':=s.toks) (λ_ _ q=>J2 _ q) (Jb _)
  (dn_new (vs:=[]) (JL _) (Yw.mpr (YH I.big)) .nil (Heap.DictOfH.new _)),rfl,h _ (I.hok.fresh (Jb _))⟩
end
def DCW (P:Program)(w:World)(J:It)(g:TG)(tk n:TE)(d:Addr)(Q:VK)(W:Nat->Nat->KVN->St->Hp->Prop):Prop :=
 ∀ i m c f e,W i m c f e->(J.stop i e/\Q (.ref d) e)\/(J.go i e/\∀ x l,J.yld i e x l->g x f l λa p=>tk a p λy o=>n a o λv h=>∃ b k,y=.ref b/\h d=some (DN P w d c)/\KsIn h c/\NKey h k b/\c.length<sizeLine /\
  ∃ j,j<m/\W (i+1) j (xh c k b v) a (upd h d (DN P w d (xh c k b v))))
def tDC (P:Program)(w:World)(cap:List (Option Nat))(b:TI)(g:TG)(tk c:TE):TE:=λσ H Q=>b σ H λJ a=>∀ d,a d=none ->
 ∃ W:Nat->Nat->KVN->St->Hp->Prop,(∃ m,W 0 m [] (sv cap σ) (upd a d (DN P w d [])))/\DCW P w J g tk c d Q W
theorem mV {X:Cx}{pins:List (Addr × Obj)}{σ:St}{H:Hp}{s:Shared}{a b:Addr}{xs:KVN}{k:KN}{v:V}{r:Value}{E:Value->Shared->Prop}{Q:Unit->Shared->Prop}(u:X.A.units+3<cLine)(I:Inv X pins σ H s)(e:H a=some (DN X.prog X.w a xs))(ks:KsIn H xs)(i:NKey H k b)(g:RelV v r)(l:xs.length<sizeLine)(h:∀ d,Inv X pins σ (upd H a (DN X.prog X.w a (xh xs k b v))) d->Q () d) :
  wpAny (model X.prog X.w) X.A (dictSet a (.ref b) r) Q E s:=by
 obtain⟨z,p,f,rel,t⟩:=qZ I.hok (.inl e) ks;have j:f.length<=sizeLine:=by rw[<- Yt rel];exact z
 have o:(xh xs k b v).length<=sizeLine:=by have:=uO xs k b v;lia
 refine wpAny_dictSet_heap (knd:=xQ X.prog X.w) (k:=k) (hsz:=j) (show X.A.units+2<cLine by lia) (vD I.hok i) t λw c m=>h _ ?_;exact nL I (by rw[e];exact True.intro) m (let ⟨q,_,_,n,_⟩:=c;⟨q,n⟩) (dn_new o p (putN_rel rel k b g) c)
theorem i5 {prog:Program}{w:World}{A:Around}{R:Result->Shared->Prop}{s:Shared}{i g tg iter:Expr}{scope:Scope}{pos:Pos}{it:Value}{D:Addr}{env:Env}(J:Nat->Shared->Prop)(turn:∀ n s,J n s->wpAny (model prog w) A (pyNext it) (λr a=>match r with
   | none=>R (.ok .next) a
   | some v=>wpAny (model prog w) A (letOwnedTupleGo tg it v) (λ_ b=>wpAny (model prog w) A (assign tg env v) (λ_ c=>wpAny (model prog w) A (eval i env) (λx d=>wpAny (model prog w) A (eval g env) (λy e=>wpAny (model prog w) A (dictSet D x y) (λ_ z=>∃ m,m<n/\J m z) NoX e) NoX d) NoX c) NoX b) NoX a) NoX s)(n:Nat)(h:J n s) :
  codeAny (model prog w) A (.compLoop (.DictComp i g [⟨tg,iter,[],0⟩] scope pos) 0 it (.ref D) env) R s:=by
 refine codeAny_loop rfl J (λn s k=>?_) n h;show wpAny _ A ((compTurn (.DictComp i g [⟨tg,iter,[],0⟩] scope pos) 0 it (.ref D) env).onRaise (λx=>do noteFrame x env;theTreesLotGoes x)) _ _ s;refine wpAny_noted ?_;rw[compTurn_dict];refine J0 (Yd (J0 (JC (turn n s k) (λr a j=>?_) λ_ _ z=>z.elim)))
 cases r with
 | none=>exact J7 j
 | some v =>
  refine J0 (JC j (λ_ b t=>?_) λ_ _ z=>z.elim);refine J0 (JC t (λ_ c q=>?_) λ_ _ z=>z.elim);dsimp only;rw[Z7];refine J0 (J7 ?_);rw[JE rfl];refine J0 (J0 (JC q (λx d p=>J0 (Y4 (JC p (λy e o=>J0 (Yd (Y4 (JC o (λ_ f l=>?_) λ_ _ z=>z.elim)))) λ_ _ z=>z.elim))) λ_ _ z=>z.elim));exact J7 ⟨rfl,l⟩
theorem jD {X:Cx}{kx vx tg iter:Expr}{scope:Scope}{pos:Pos}{wi:TI}{g:TG}{tk tv:TE}{N':List Str}{cap:List (Option Nat)}(hu:X.A.units+3<cLine)(hc:X.calm=true)(hi:PI X tg iter wi)(R:CapOk X.N N' X.env.scope scope cap)(hg:∀ C s₀ H₀ fp pins,PG (yJ X N' scope C s₀ H₀ fp pins) tg g)(hk:∀ C s₀ H₀ fp pins,PE (yJ X N' scope C s₀ H₀ fp pins) kx tk)(hv:∀ C s₀ H₀ fp pins,PE (yJ X N' scope C s₀ H₀ fp pins) vx tv)(hs:∀ x,foldedSetIterable iter X.env x=pure x:=by intro _;rfl):PE X (.DictComp kx vx [⟨tg,iter,[],0⟩] scope pos) (tDC X.prog X.w cap wi g tk tv):=by
 intro pins s σ H Q I h;rw[arm_eval_DictComp];have K:∀ y∈scope.names,y.2=.free->∃ c,X.env.cells.lookup y.1=some c:=λy hy hf=>I.ok.has y.1 (R.free y hy hf);refine wpAny_comprehension_free (use:=none) rfl hs (wn K) R.kind R.names (thn (hi pins s σ H _ I h) λv s1 h1=>thn h1 λaJ D h2=>?_);obtain⟨it,fp,tn,J,H2,e,I2,T,ah,P,body⟩:=h2;subst e;have ae:H2 D.heap.objs.size=none:=I2.hok.fresh (Jb _);obtain⟨W,⟨m0,w0⟩,turn⟩:=body D.heap.objs.size ae
 have w:=I2.laid (a:=D.heap.objs.size) (o:=DN X.prog X.w D.heap.objs.size []) (h':=D.heap.push { cls:=.type "dict",data:=.dict #[] }) (t':=D.toks) (λ_ _ q=>J2 _ q) (Jb _)
  (dn_new (vs:=[]) (JL _) (Yw.mpr (YH I2.big)) .nil (Heap.DictOfH.new _))
 refine JF (wpAny_newFunctionEnv R.nocell (by intro y hy;simp at hy) (λB G F=>?_) R.kind);dsimp only at G F ⊢;generalize hl:D.heap.objs.size=l at *;generalize hP:D.heap.push { cls:=.type "dict",dict:=none,data:=.dict #[] }=P2 at *;generalize aB:upd H2 l (DN X.prog X.w l [])=H3 at *;have old:∀ b o,P2.get? b=some o->B.get? b=some o:=λb o e=>F.extBut b o (Jt (Jg e)) (J2 _ e);have ad:∀ b o,D.heap.get? b=some o->P2.get? b=some o:=λb o e=>hP ▸ J2 _ e
 have ap:∀ b∈fp,b<l:=λb f=>by
  obtain⟨o,e,_⟩:=T.obj _ _ ah b f;rw[<- hl];exact Jg e
 have aD:∀ b∈fp,H3 b=none:=λb f=>by
  rw[<- aB,zJ (Jt (ap b f))];exact(P b f).1
 have aA:P2.objs.size=l+1:=by rw[<- hP,Ym,hl]
 have A:∀ x c,(wX X.env.cells scope.names []).lookup x=some c->X.env.cells.lookup x=some c:=λx c e=>wM _ _ x c K (λ_ _ z=>by simp at z) e;generalize aj:({ D with heap:=P2,toks:=D.toks }:Shared)=s3 at *;have t:s3.heap=P2:=by rw[<- aj]
 let Y:=yJ X N' scope P2.objs.size s3 H3 fp pins
 have E:Y.Ok:=by
  refine⟨w.ok.mod,R.kind,w.ok.glob,w.ok.blt,by show s3.heap.objs.size<=P2.objs.size;rw[t];exact Jb _,λx y c e1 e2=>w.ok.inj x y c (A x c e1) (A y c e2),λx V=>?_,λx c V=>absurd (show false=true from V) Jf,w.ok.hd,w.ok.frames,.inl rfl,λb f=>⟨?_,λx c e=>?_⟩,w.bs,
   Jz w.ok.bsz w.sz,λb o e f=>?_,λb f hz=>?_,w.stack,w.stkFree⟩
  ·have av:scope.names.lookup x=some .free:=by
    rcases V with V|V
    ·rcases yi V with z|z
     ·exact absurd rfl (R.nocell _ (xx z))
     ·exact z.2
    ·rcases yi V with z|z
     ·exact z
     ·exact z.2
   exact xA _ _ x av
  ·exact Jt (by show b<P2.objs.size;rw[aA];exact YE (ap b f))
  ·exact(P b f).2.2.2.2.1 x c (A x c e)
  ·rcases (P b f).2.2.2.1 with z|z
   ·exact w.ok.noex b o e z
   ·exact absurd (Jx (Jg e) (Jz w.ok.bsz z)) (Yc _)
  ·rcases Ji.mp (w.stkSub b hz) with z|z
   ·exact(P b f).2.1 z
   ·exact(P b f).2.2.1 z
 have az:Inv Y [] (sv cap σ) H3 { D with heap:=B,toks:=D.toks }:=by
  refine⟨E,by show D.os=s3.os;rw[<- aj],I2.bare,by show Un _ _ _ _ s3.heap B;rw[t];exact Un.kept old,⟨_,G,λj x v e1 e2 e3=>?_⟩,λx c e=>?_,?_,λx c e=>w.freeC x c (A x c e),λp hp=>?_,λb o e=>?_,?_⟩
  ·have aF:N'[j]?=some x:=e1
   unfold sv at e2;rw[JG]at e2
   cases ec:cap[j]? with
   | none=>rw[ec]at e2;cases e2
   | some oc =>
    rw[ec]at e2
    cases oc with
    | none=>cases e2
    | some i =>
     have aE:σ[i]?=some (some v):=by
      cases ei:σ[i]? with
      | none=>simp[ei]at e2
      | some v' =>
       simp[ei]at e2;rw[e2]
     have hz:(x,some i)∈N'.zip cap:=by
      refine Jq (i:=j) ?_;rw[Za];exact⟨aF,ec⟩
     obtain⟨hN,hf,hk⟩:=R.cap _ hz i rfl;obtain⟨m,hn,aw⟩:=w.loc;obtain⟨u,r,lk⟩:=aw i x v hN aE (by rcases hk with z|z;exact .inr (.inl z);exact .inr (.inr z));refine⟨u,r,.inr ⟨?_,?_⟩⟩
     ·exact xr hf
     ·rcases lk with ⟨z,_⟩|⟨_,c,ay,aa⟩
      ·have z':X.env.scope.names.lookup x=some .local:=z
       rcases hk with q|q
       ·rw[q]at z';cases z'
       ·rw[q]at z';cases z'
      ·obtain⟨c',ak⟩:=xA (cells:=X.env.cells) scope.names [] x hf
       have:=A x c' ak;rw[ay]at this;cases this;obtain⟨ob,e,d⟩:=aa;rw[t]at e;exact⟨c,ak,ob,old c ob e,d⟩
  ·obtain⟨v,ob,e',d⟩:=w.cell x c (A x c e)
   rw[t]at e';exact⟨v,ob,old c ob e',d⟩
  ·refine w.hok.fresh ?_
   rw[t];exact Jb _
  ·have ab:p∈X.pn++pins:=(Jr.mp hp).elim (λz=>z) (λz=>nomatch z)
   obtain⟨e,n,ne,nf,d⟩:=w.pin p ab;rw[t]at e;refine⟨old _ _ e,n,Jt (Jg e),λz=>?_,d⟩;rcases Ji.mp (w.stkSub _ z) with q|q
   ·exact ne q
   ·exact nf q
  ·have:=w.hok.kept (h':=B) (λb u q=>old b u (by rw[<- t];exact q))
   exact this b o e
  ·show (cap.map _).length=N'.length
   rw[Jc,R.len]
 have N:∀ {L:Hp},(∀ b∈fp,L b=none)->∀ b∈fp,FpOk Y [] L b:=λ{L} hn b f=>by
  refine⟨hn b f,(E.exf b f).1,E.exfs b f,.inl f,(E.exf b f).2,λp hp=>?_⟩;have ab:p∈X.pn++pins:=(Jr.mp hp).elim (λz=>z) (λz=>nomatch z);exact(P b f).2.2.2.2.2 p ab
 have ai:tn 0 B:=T.keep 0 _ _ ah λb f o e=>old b o (ad b o e)
 have loop:codeAny (model X.prog X.w) X.A (.compLoop (.DictComp kx vx [⟨tg,iter,[],0⟩] scope pos) 0 (.ref it) (.ref l) Y.env) (compPost (model X.prog X.w) X.A X.xe none (EP X pins σ Q) (.ref l) P2.objs.size) { D with heap:=B,toks:=D.toks }:=by
  refine i5 (λn s'=>∃ i acc M L,Inv Y [] M L s'/\tn i s'.heap/\(∀ b∈fp,L b=none)/\W i n acc M L) ?_ m0 ⟨0,[],_,H3,az,ai,aD,w0⟩;rintro n s4 ⟨i,acc,U,H4,I4,ag,ao,w4⟩;have q4:=turn i n acc U H4 w4;rcases q4 with ⟨stop,qn⟩|⟨go,step⟩
  ·refine thn (T.done Y rfl rfl rfl hc i [] s4 U H4 Y.xe I4 (N ao) ag stop) λr s5 ⟨hr,I5⟩=>?_
   subst hr;obtain⟨m,hn,_⟩:=id I5.loc;have un:Un (frs X.stack) fp H3 H4 s3.heap s5.heap:=I5.base;have aq:s3.heap.objs.size<=P2.objs.size:=by rw[t];exact Jb _
   have IX:Inv X pins σ H4 s5:=w.call' (ch:=fp) I5.os un I5.hok I5.bare λb f=>⟨(P b f).2.2.2.1,(P b f).2.1,(P b f).2.2.2.2.1,(P b f).2.2.2.2.2⟩;exact⟨m,hn,λh' sb=>⟨.ref l,H4,IX.gone (w.fpOk aq I5.free) sb,rfl,qn⟩⟩
  ·refine thn (T.item Y rfl rfl rfl hc i [] s4 U H4 Y.xe I4 (N ao) ag go) λr s5 ⟨u,hr,h5⟩=>?_
   subst hr;refine thn h5 λ_ s6 ⟨x,H6,I6,r6,y6,Z,aC⟩=>?_;have aG:=I6.pinned (N aC) (T.obj _ _ Z);refine thn (hg _ _ _ _ _ _ s6 U H6 x u _ aG r6 (step x H6 y6)) λ_ s7 ⟨af,H7,I7,q7⟩=>?_
   have again:∀ {S:St}{H9:Hp}{s9:Shared}{O:KVN},Inv Y ([]++xu fp s6.heap) S H9 s9->(∃ m',m'<n/\W (i+1) m' O S H9)->∃ m,m<n/\∃ i acc M L,Inv Y [] M L s9/\tn i s9.heap/\(∀ b∈fp,L b=none)/\W i m acc M L:=λ{S H9 s9 O} I9 ⟨m',hm,w9⟩=>by
    refine⟨m',hm,i+1,O,S,H9,I9.unpinned,T.keep _ _ _ Z λb f o e=>(I9.pin (b,o) (Jp _ (Jp _ (yR f e)))).1,λb f=>?_,w9⟩;obtain⟨o,e,d⟩:=T.obj _ _ Z b f;exact(I9.pin (b,o) (Jp _ (Jp _ (yR f e)))).2.1
   refine thn (hk _ _ _ _ _ _ s7 af H7 _ I7 q7) λu1 s8 ⟨y,H8,I8,r8,q8⟩=>thn (hv _ _ _ _ _ _ s8 af H8 _ I8 q8) λu2 s9 ⟨v,H9,I9,r9,b,k,ey,ax,ar,au,l9,q9⟩=>?_;subst ey;cases (show u1=Value.ref b from r8);exact mV (X:=Y) hu I9 ax ar au r9 l9 λaI aH=>again aH q9
 exact codeAny_compStart_dict loop (T.self X.A 0 _ _ _ ai loop)
end L2
namespace L2
open PySem PySem.Spec PyProof.Rows Own
section
variable {prog:Program}{w:World}{A:Around}{E:Value->Shared->Prop}{s:Shared}{d:Addr}
theorem mw {Q:Int->Shared->Prop}(q:Q (reduceHash 0xFCA86420) { s with toks:=s.toks+1 }):wpAny (model prog w) A (pyHash .none) Q E s:=by
 show wpAny (model prog w) A (pyHashByItsType .none) Q E s;refine W.pyHash_slot (T:="NoneType") (id:="NoneType.__hash__") (B:=Builtin.«NoneType.__hash__») rfl F.slot_NoneType_hash F.entry_NoneType_hash (F.args_NoneType_hash_1 _) (by decide) (.inl rfl) ?_;unfold Builtin.«NoneType.__hash__»;refine J0 ?_;show wpAny _ _ (pure _) _ _ _;unfold retInt;exact J7 (J0 (wpAny_mkInt (J7 ⟨_,_,rfl,q⟩)))
theorem vU {a:Addr}{k:KN}{Q:Bool->Shared->Prop}(d:A.units<cLine)(c:NIs prog w s.heap k a)(q:Q false s):wpAny (model prog w) A (eqBool (.ref a) .none) Q E s:=by
 obtain⟨as,b⟩:=c.reads;exact PySem.SeqAt.eqBoolOverData prog w A E s _ _ _ .none as [] Q b .none (oI k).1 rfl (by show A.units+min _ 0<cLine;lia) q
theorem pV {n:Nat}{Q:Bool->Shared->Prop}(q:Q true s):wpAny (model prog w) A (eqIsQuiet n .none) Q E s:=by
 cases n<;>exact J7 q
theorem rM {α β:Type}{f:α->β->Sem (ForInStep β)}{b:β}:∀ (l:List α) {Q:β->Shared->Prop},(∀ i∈l,∀ R:ForInStep β->Shared->Prop,R (.yield b) s->wpAny (model prog w) A (f i b) R E s)->Q b s->wpAny (model prog w) A (forIn l b f) Q E s
 | [],Q,_,q=>by rw[Z7];exact J7 q
 | i::l,Q,h,q=>by
  rw[YU];exact J0 (h i JK _ (rM l (λj a=>h j (JJ _ a)) q))
theorem nj {stored:List Value}{Q:Bool->Shared->Prop}(h:∀ v∈stored,∃ a k,v=.ref a/\NIs prog w s.heap k a)(q:Q false s):wpAny (model prog w) A (tableMayTell .none stored) Q E s:=by
 unfold tableMayTell;by_cases c:stored.isEmpty=true
 ·rw[JE c];exact J7 q
 rw[Jv c];refine J0 (pV (J0 (rM stored (λv b R r=>?_) (J7 q))));obtain⟨a,k,rfl,d⟩:=h v b;exact J0 (uN d (J7 r))
theorem lG {o:Obj}{b:Array DictEntry}{j:Nat}{h:Int}{Q:Option Nat->Shared->Prop}(u:A.units<cLine)(g:s.heap.get? d=some o)(hd:o.data=.dict b j)(D:∀ e∈b.toList,∃ a k,e.key=.ref a/\NIs prog w s.heap k a)(q:Q none s) :
  wpAny (model prog w) A (dictFind d .none h) Q E s:=by
 have key:∀ (i:Nat) (e:DictEntry),b[i]?=some e->∃ a k,e.key=.ref a/\NIs prog w s.heap k a:=λi e f=>D e (by
  obtain⟨l,z⟩:=Array.getElem?_eq_some_iff.mp f
  rw[<- z];exact Array.getElem_mem_toList l)
 unfold dictFind;refine Y4 (J0 (Zc g hd ?_));by_cases c:(Value.none::List.filterMap (λi=>Option.map (λx=>x.key) b[i]?) (placesWithHash b.size (λi=>Option.map (λx=>x.hash) b[i]?) h)).all carriedByValue=true
 ·refine(JH (λm=>wpAny (model prog w) A m Q E s) (JE c)).mpr ?_
  unfold dictWalkPlain;refine J0 (rM _ (λi hi R r=>?_) (J7 q))
  cases f:b[i]? with
  | none=>exact J7 r
  | some e =>
   obtain⟨a,k,t,n⟩:=key i e f;by_cases ch:(e.hash == h)=true
   ·refine(JH (λm=>wpAny (model prog w) A m R E s) (JE ch)).mpr (J0 (Yq g hd (J0 ?_)))
    rw[t];refine vU u n (J0 (Yq g hd ?_));dsimp only;rw[Jv (c:=(j != j)=true) (by simp),Jv Jf];exact J0 (YY (J7 r))
   ·exact(JH (λm=>wpAny (model prog w) A m R E s) (Jv ch)).mpr (J7 r)
 ·refine(JH (λm=>wpAny (model prog w) A m Q E s) (Jv c)).mpr ?_
  have y:∀ v∈List.filterMap (λi=>Option.map (λx=>x.key) b[i]?) (placesWithHash b.size (λi=>Option.map (λx=>x.hash) b[i]?) h),∃ a k,v=.ref a/\NIs prog w s.heap k a:=λv C=>by
   obtain⟨i,-,e,f,rfl⟩:∃ i:Nat,True/\∃ e:DictEntry,b[i]?=some e/\e.key=v:=by
    obtain⟨i,p⟩:=List.mem_filterMap.mp C;exact⟨i,True.intro,Y9.mp p.2⟩
   exact key i e f
  by_cases B:(List.filterMap (λi=>Option.map (λx=>x.key) b[i]?) (placesWithHash b.size (λi=>Option.map (λx=>x.hash) b[i]?) h) == [Value.none])=true
  ·refine(JH (λm=>wpAny (model prog w) A m Q E s) (JE B)).mpr (J0 (J7 ?_))
   dsimp only;rw[Jv (by simp)];refine J0 (rM _ (λi hi R r=>?_) (J7 q))
   cases f:b[i]? with
   | none=>exact J7 r
   | some e =>
    obtain⟨a,k,t,n⟩:=key i e f;by_cases ch:(e.hash == h)=true
    ·refine(JH (λm=>wpAny (model prog w) A m R E s) (JE ch)).mpr (J0 (Yq g hd (J0 ?_)))
     rw[t];refine vU u n (J0 (Yq g hd ?_));rw[Jv (c:=(j != j)=true) (by simp),Jv Jf];refine J0 (YY ?_);rw[Jv (by simp)];exact J7 r
    ·exact(JH (λm=>wpAny (model prog w) A m R E s) (Jv ch)).mpr (J7 r)
  ·refine(JH (λm=>wpAny (model prog w) A m Q E s) (Jv B)).mpr (J0 (nj y ?_))
   dsimp only;rw[Jv (by simp)];refine J0 (rM _ (λi hi R r=>?_) (J7 q))
   cases f:b[i]? with
   | none=>exact J7 r
   | some e =>
    obtain⟨a,k,t,n⟩:=key i e f;by_cases ch:(e.hash == h)=true
    ·refine(JH (λm=>wpAny (model prog w) A m R E s) (JE ch)).mpr (J0 (Yq g hd (J0 ?_)))
     rw[t];refine vU u n (J0 (Yq g hd ?_));rw[Jv (c:=(j != j)=true) (by simp),Jv Jf];refine J0 (YY ?_);rw[Jv (by simp)];exact J7 r
    ·exact(JH (λm=>wpAny (model prog w) A m R E s) (Jv ch)).mpr (J7 r)
theorem jj {o:Obj}{b:Array DictEntry}{h:Nat}{Q:Option Value->Shared->Prop}(c:A.units<cLine)(f:s.heap.get? d=some o)(hd:o.data=.dict b h)(g:∀ e∈b.toList,∃ a k,e.key=.ref a/\NIs prog w s.heap k a)(q:Q none { s with toks:=s.toks+1 }) :
  wpAny (model prog w) A (dictGet d .none) Q E s:=by
 unfold dictGet;exact Y4 (J0 (mw (J0 (lG (s:={ s with toks:=s.toks+1 }) c f hd g (J7 q)))))
theorem uo {o:Obj}{b:Array DictEntry}{j:Nat}{Q:Value->Shared->Prop}(f:A.units<cLine)(h:s.heap.get? d=some o)(l:o.ExactDict)(hd:o.data=.dict b j)(g:(d == sysModules)=false)(i:∀ e∈b.toList,∃ a k,e.key=.ref a/\NIs prog w s.heap k a)(q:Q (.bool false) { s with toks:=s.toks+1 }) :
  wpAny (model prog w) A (Builtin.«dict.__contains__» ⟨[.ref d,.none],[]⟩) (λfin c=>∃ r,fin=.done (.ret r)/\Q r c) E s:=by
 unfold Builtin.«dict.__contains__»;refine J0 ?_;show wpAny _ _ (pure (d,Value.none)) _ _ _;refine J7 (J0 (jj f h hd i ?_));show wpAny _ _ (Builtin.Dict.pendingKey? d .none >>= _) _ _ _;exact J0 (wpAny_pendingKey_other g (J7 ⟨_,rfl,q⟩))
section
variable {X:Cx}{pins:List (Addr × Obj)}{σ:St}{H:Hp}{a:Addr}{xs:KVN}
theorem jX {Q:Value->Shared->Prop}(r:A.units+3<cLine)(I:Inv X pins σ H s)(e:Rd H a (DN X.prog X.w a xs))(ks:KsIn H xs)(h:∀ b,Inv X pins σ H b->Q (.bool false) b) :
  wpAny (model X.prog X.w) A (compareOp .In .none (.ref a)) Q E s:=by
 obtain⟨z,j,q,rel,o,p,u,f,d,n,m,l,t⟩:=qZ I.hok e ks
 have i:∀ e∈p.toList,∃ a k,e.key=.ref a/\NIs X.prog X.w s.heap k a:=λe c=>by
  rw[m]at c;obtain⟨x,g,rfl⟩:=JD.mp c;exact⟨x.2.1,x.1,rfl,l x g⟩
 have ty:s.TypeIs (.ref a) "dict":=⟨o,f,d.1⟩;show wpAny _ _ (contains (.ref a) .none >>= _) _ _ _
 exact J0 (wpAny_contains_slot ty slot_dict_contains (Y7 slot_dict_contains ty entry_dict_contains
  (uo (by rw[Around.in1_units];lia) f d n j i (Yi (J7 (h _ (I.tok _))))) (args_dict_contains _ _)))
end
def du (P:Program)(w:World):V->V->Hp->VK->Prop:=λx y H Q=>∃ a c,y=.ref a/\NAt P w H a c/\((∃ b k,x=.ref b/\NKey H k b/\Q (.bl (yt c k).isSome) H)\/(x=.non/\Q (.bl false) H))
theorem jI {X:Cx}(e:X.A.units+3<cLine):OpR X (compareOp .In) (du X.prog X.w):=by
 intro pins s σ H x y v u Q I d h ⟨a,f,j,n,q⟩;subst j;cases (show u=Value.ref a from h);rcases q with ⟨b,k,ex,i,q⟩|⟨ex,q⟩
 ·subst ex
  cases (show v=Value.ref b from d);exact cD e I n.1 n.2 i λg c=>⟨.bl (yt f k).isSome,H,c,rfl,q⟩
 ·subst ex
  cases (show v=Value.none from d);exact jX e I n.1 n.2 λg c=>⟨.bl false,H,c,rfl,q⟩
end
section
variable {prog:Program}{w:World}{A:Around}{E:Value->Shared->Prop}{s:Shared}{d:Addr}{o:Obj}{es:Array DictEntry}{ep:Nat}
theorem tT {Q:Value->Shared->Prop}(a:s.heap.get? d=some o) (e:o.ExactDict) (hd:o.data=.dict es ep) (f:(d == sysModules)=false)
  (q:Q (.ref s.heap.objs.size) { s with heap:=s.heap.push { cls:=.type "dict_keyiterator",data:=.fields #[.ref d,.int 0 0,.int es.size 0,.int ep 0] } }):wpAny (model prog w) A (pyIter (.ref d)) Q E s:=by
 have ty:s.TypeIs (.ref d) "dict":=⟨o,a,e.1⟩;have nx:=F.slot_dict_keyiterator_next.lookup
 have body:wpAny (model prog w) A.in1 (Builtin.«dict.__iter__» ⟨[.ref d],[]⟩) (λfin b=>∃ v,fin=.done (.ret v)/\∃ c r,b.TypeIs v c/\typeLookup (Value.type c) (Str.ofString "__next__")=pure (some r)/\Q v b) E s:=by
  unfold Builtin.«dict.__iter__» Builtin.Dict.dictSlotNone;refine J0 (J0 (wpAny_notOrdered_dict ty (J0 ?_)));show wpAny _ _ (pure ((.ref d,[]):Value × List Value)) _ _ _;refine J7 (J7 (J0 ?_));refine(show wpAny _ _ (pure d) _ _ _ from J7 (J0 ?_));unfold Builtin.Dict.showsAll;rw[Jv (by rw[f];simp)];refine J7 (J0 (Zc a hd (J0 (Yq a hd (J0 ?_)))));exact JF (J7 ⟨_,rfl,_,_,⟨_,Jk _ rfl,rfl⟩,nx,q⟩)
 exact wpAny_pyIter_slot ty F.slot_dict_iter (Y7 F.slot_dict_iter ty F.entry_dict_iter body (F.args_dict_iter_1 _))
end
section
variable {prog:Program}{w:World}{A:Around}{E:Value->Shared->Prop}{s:Shared}{d it:Addr}{o:Obj}{es:Array DictEntry}{ep i:Nat}{e:DictEntry}
theorem mT {Q:Value->Shared->Prop}(m:s.heap.get? d=some o)(hd:o.data=.dict es ep)(hi:s.heap.IsKeyIter it d i es.size ep)(p:es[i]?=some e)(q:∀ h',h'.IsKeyIter it d (i+1) es.size ep->(∀ b u,b≠it->s.heap.get? b=some u->h'.get? b=some u)->Q e.key { s with heap:=h' }) :
  wpAny (model prog w) A (Builtin.«dict_keyiterator.__next__» ⟨[.ref it],[]⟩) (λfin n=>∃ v,fin=.done (.ret v)/\Q v n) E s:=by
 obtain⟨k,f,h,g⟩:=id hi;have ty:s.TypeIs (.ref it) "dict_keyiterator":=⟨k,f,h⟩;unfold Builtin.«dict_keyiterator.__next__»;refine J0 ?_;show wpAny _ _ (pure (Value.ref it)) _ _ _;refine J7 (J0 (J0 (J0 (Z1 ty (J7 (J0 (wpAny_fieldsOf f g ?_)))))));show wpAny _ _ (Builtin.Dict_items.addrOf (Value.ref d) >>= _) _ _ _;refine J0 (show wpAny _ _ (pure d) _ _ _ from J7 (J0 (Zc m hd ?_)));dsimp only;rw[Jv (c:=((es.size:Int) != (es.size:Int))=true) (by simp)];refine J0 (show wpAny _ _ (pure d) _ _ _ from J7 (J0 (Yq m hd ?_)));rw[Jv (c:=((ep:Int) != (ep:Int))=true) (by simp)];refine J7 ?_;dsimp only;rw[Jv (c:=(i:Int)<0) (by lia),JY,p];refine J0 (J0 (Z1 ty (J7 (J0 (wpAny_isOneOf_keyiter ty ?_)))));show wpAny _ _ (setField (.ref it) 1 (rawInt ((i:Int)+1)) >>= _) _ _ _;refine J0 (wpAny_setField f g (by show 1<4;lia) ?_);have l:(k.mapFields (·.setIfInBounds 1 (rawInt ((i:Int)+1)))).data=.fields #[.ref d,.int ((i+1:Nat):Int) 0,.int es.size 0,.int ep 0]:=Obj.data_mapFields g _;have sm:=Heap.SameBut.update s.heap it (Obj.mapFields (·.setIfInBounds 1 (rawInt ((i:Int)+1))));have a:=Heap.get?_update_self (Obj.mapFields (·.setIfInBounds 1 (rawInt ((i:Int)+1)))) f (Obj.isFreed_of_fields l);have j:(s.heap.update it (Obj.mapFields (·.setIfInBounds 1 (rawInt ((i:Int)+1))))).IsKeyIter it d (i+1) es.size ep:=⟨_,a,(Obj.cls_mapFields ..).trans h,l⟩;refine J0 (Y4 (J0 (wpAny_isOneOf_keyiter ⟨_,a,(Obj.cls_mapFields ..).trans h⟩ ?_)));exact J7 (J7 ⟨_,rfl,q _ j λb u nb r=>(sm.2 b nb).trans r⟩)
theorem qH {Q:Option Value->Shared->Prop}(f:s.heap.get? d=some o)(hd:o.data=.dict es ep)(hi:s.heap.IsKeyIter it d i es.size ep)(g:es[i]?=some e)(q:∀ h',h'.IsKeyIter it d (i+1) es.size ep->(∀ b u,b≠it->s.heap.get? b=some u->h'.get? b=some u)->Q (some e.key) { s with heap:=h' }):wpAny (model prog w) A (pyNext (.ref it)) Q E s:=by
 obtain⟨c,j,h,l⟩:=id hi;have ty:s.TypeIs (.ref it) "dict_keyiterator":=⟨c,j,h⟩;unfold pyNext;exact J0 (wpAny_attempt (wpAny_callSpecial?_slot ty Z3 (Y7 Z3 ty F.entry_dict_keyiterator_next (mT f hd hi g λh' a k=>J7 (q h' a k)) (F.args_dict_keyiterator_next_1 _))))
theorem mf {Q:Fin->Shared->Prop}(h:A.handled=none) (e:s.heap.get? d=some o) (hd:o.data=.dict es ep) (hi:s.heap.IsKeyIter it d i es.size ep) (j:es[i]?=none)
  (q:∀ h' ev,Heap.ExtBut it s.heap h'->({ s with heap:=h' }:Shared).TypeIs ev "StopIteration"->E ev { s with heap:=h' }) :
  wpAny (model prog w) A (Builtin.«dict_keyiterator.__next__» ⟨[.ref it],[]⟩) Q E s:=by
 obtain⟨g,a,l,f⟩:=id hi;have ty:s.TypeIs (.ref it) "dict_keyiterator":=⟨g,a,l⟩;unfold Builtin.«dict_keyiterator.__next__»;refine J0 ?_;show wpAny _ _ (pure (Value.ref it)) _ _ _;refine J7 (J0 (J0 (J0 (Z1 ty (J7 (J0 (wpAny_fieldsOf a f ?_)))))));show wpAny _ _ (Builtin.Dict_items.addrOf (Value.ref d) >>= _) _ _ _;refine J0 (show wpAny _ _ (pure d) _ _ _ from J7 (J0 (Zc e hd ?_)));dsimp only;rw[Jv (c:=((es.size:Int) != (es.size:Int))=true) (by simp)];refine J0 (show wpAny _ _ (pure d) _ _ _ from J7 (J0 (Yq e hd ?_)));rw[Jv (c:=((ep:Int) != (ep:Int))=true) (by simp)];refine J7 ?_;dsimp only;rw[Jv (c:=(i:Int)<0) (by lia),JY,j];refine J0 (J0 (Z1 ty (J7 (J0 ?_))));show wpAny _ _ (setField (.ref it) 0 .none) _ _ _;refine wpAny_setField a f (by show 0<4;lia) (J0 ?_);unfold newExc newTuple;refine J0 (JF ?_ (by show 0<=sizeLine;exact JL _));unfold firstArgMember;refine J0 (J0 (J7 (J7 (JF (wpAny_raiseNew_none h ?_) ?_))))
 rotate_left
 ·show (_++_:Array Value).size<=sizeLine+2
  rw[Array.size_append];show 6+0<=sizeLine+2;rw[Js];lia
 refine q _ _ (λb u nb k=>?_) ⟨_,Jk _ rfl,rfl⟩;exact J2 _ (J2 _ (((Heap.SameBut.update s.heap it _).2 b nb).trans k))
theorem qI {Q:Option Value->Shared->Prop}(e:A.handled=none)(c:s.heap.get? d=some o)(hd:o.data=.dict es ep)(hi:s.heap.IsKeyIter it d i es.size ep)(f:es[i]?=none)(q:∀ h',Heap.ExtBut it s.heap h'->Q none { s with heap:=h' }):wpAny (model prog w) A (pyNext (.ref it)) Q E s:=by
 obtain⟨b,h,g,j⟩:=id hi;have ty:s.TypeIs (.ref it) "dict_keyiterator":=⟨b,h,g⟩;unfold pyNext;refine J0 (wpAny_attempt (wpAny_callSpecial?_slot ty Z3 (Y7 Z3 ty F.entry_dict_keyiterator_next (mf e c hd hi f λh' ev k a=>?_) (F.args_dict_keyiterator_next_1 _))));exact J0 (YK a isSubtype_stop (J7 (q h' k)))
end
section
variable {X:Cx}{pins:List (Addr × Obj)}{σ:St}{H:Hp}{s:Shared}{d:Addr}{o:Obj}{xs:KVN}
theorem Inv.freezeN (I:Inv X pins σ H s)(hd:H d=some (DN X.prog X.w d xs)):∃ o a b,s.heap.get? d=some o/\o.ExactDict/\o.data=.dict a b/\a.size=xs.length/\(d == sysModules)=false/\Inv X pins σ (upd H d (.frz o (DN X.prog X.w d xs))) s:=by
 obtain⟨g,o,a,b,c,i,h,l,_⟩:=gI I.hok (.inl hd);refine⟨o,a,b,c,i,h,l,g,I.reword hd (λxs q=>by cases q) (λxs q=>by cases q) (λxs q=>by cases q) (λf e q=>?_) ⟨c,(show ObjOk X.prog X.w H s.heap d (DN X.prog X.w d xs) from I.hok d _ hd)⟩⟩;have:=I.base.frzs d f e q;rw[hd]at this;cases this
theorem Inv.thawN (I:Inv X pins σ H s)(hd:H d=some (.frz o (DN X.prog X.w d xs)))(b:∀ o' a,X.H₀ d≠some (.frz o' a)):Inv X pins σ (upd H d (DN X.prog X.w d xs)) s:=by
 obtain⟨_,r⟩:=(show ObjOk X.prog X.w H s.heap d (.frz o (DN X.prog X.w d xs)) from I.hok d _ hd);exact I.reword hd (λxs q=>by cases q) (λxs q=>by cases q) (λxs q=>by cases q) b r
theorem Inv.meltedN (I:Inv X pins σ H s){ys:KVN}(hd:H d=some (DN X.prog X.w d ys)):∀ o' a,X.H₀ d≠some (.frz o' a):=λo' a q=>by
 have:=I.base.frzs d o' a q;rw[hd]at this;cases this
theorem Inv.walkedN {c:Array DictEntry}{h:Nat}(I:Inv X pins σ H s)(hd:H d=some (.frz o (DN X.prog X.w d xs)))(e:o.data=.dict c h):s.heap.get? d=some o/\∃ vs,Paired PrN xs vs/\c.toList=vs.map (entryOfKey (xQ X.prog X.w)):=by
 obtain⟨g,⟨z,l,vs,r,k,i,j,b,n,a,f,m⟩,_,_⟩:=(show ObjOk X.prog X.w H s.heap d (.frz o (DN X.prog X.w d xs)) from I.hok d _ hd);rw[g]at b;obtain rfl:=Jn b;rw[e]at a;cases a;exact⟨g,vs,r,f⟩
end
theorem dz {xs:KVN}{vs:List (KN × Addr × Value)}(r:Paired PrN xs vs):∀ {i:Nat}{p:KN × Addr × V},xs[i]?=some p->∃ q,vs[i]?=some q/\PrN p q:=by
 induction r with
 | nil=>intro i p h;cases h
 | cons q t ih =>
  intro i p h
  cases i with
  | zero=>cases Jn h;exact⟨_,rfl,q⟩
  | succ i=>exact ih h
def Itn (P:Program)(w:World)(d:Addr)(o:Obj)(xs:KVN):It:=⟨λi H=>H d=some (.frz o (DN P w d xs))/\i<xs.length,λi H x a=>a=H/\∃ p,xs[i]?=some p/\x=.ref p.2.1,λi H=>H d=some (.frz o (DN P w d xs))/\i=xs.length⟩
theorem qo {P:Program}{w:World}{K:PySem.W.Frag}{tg:Expr}(d it:Addr)(o:Obj)(xs:KVN){t:Array DictEntry}{S:Nat}(l:o.data=.dict t S)(hl:t.size=xs.length):Turn P w K tg (Itn P w d o xs) [it] it (λi h=>h.IsKeyIter it d i t.size S) where
 mem:=Jd.mpr rfl
 obj:=λi h st b a=>by
  cases Jd.mp a;obtain⟨q,e,c,N⟩:=st;exact⟨q,e,λv z=>by rw[N]at z;cases z⟩
 keep:=λi h n st k=>st.at (k it (Jd.mpr rfl))
 item:=by
  intro X C y D R i pins s σ H E I m st A;subst C y D;obtain⟨B,O⟩:=A;obtain⟨g,U,r,T⟩:=I.walkedN B l;have f:=m it (Jd.mpr rfl);obtain⟨M,L,Y,J,G,F⟩:=id f;obtain⟨p,Q⟩:∃ p,xs[i]?=some p:=⟨_,Ja O⟩;obtain⟨q,W,V⟩:=dz r Q;have Z:t[i]?=some (entryOfKey (xQ X.prog X.w) q):=by rw[entry_at T,W];rfl
  refine qH g l st Z λn j x=>?_;have I1:Inv X pins σ H { s with heap:=n,toks:=s.toks }:=I.turned (λb u a e=>x b u a e) M L J G F;obtain⟨q',e,c,N⟩:=id j;refine⟨_,rfl,nD (s:={ s with heap:=n,toks:=s.toks }) e c N (by decide) ⟨.ref p.2.1,H,I1,?_,⟨rfl,p,Q,rfl⟩,j,λb a=>(m b a).1⟩⟩;show Value.ref q.2.1=Value.ref p.2.1;rw[V.2.1]
 done:=by
  intro X C y D R i pins s σ H E I m st A;subst C y D;obtain⟨B,O⟩:=A;obtain⟨g,U,r,T⟩:=I.walkedN B l;have f:=m it (Jd.mpr rfl);obtain⟨M,L,Y,J,G,F⟩:=id f;exact qI (I.ok.hd R) g l st (Array.getElem?_eq_none (by lia)) λn x=>⟨rfl,I.turned (t':=s.toks) (λb u a e=>x b u a e) M L J G F⟩
 self:=λ_ _ _ _ _ st h=>wpAny_pyIter_keyiter st h
section
variable {X:Cx}{tg:Expr}
def eC (P:Program)(w:World)(c:TE):TI:=λσ H R=>c σ H λx b=>∃ d a,x=.ref d/\b d=some (DN P w d a)/\∀ o,R (Itn P w d o a) (upd b d (.frz o (DN P w d a)))
theorem kj {l:Expr}{f:TE}(p:PE X l f):PI X tg l (eC X.prog X.w f):=by
 intro pins s σ H R I h;refine thn (p pins s σ H _ I h) λv a ⟨x,A,w,k,d,j,ex,r,q⟩=>?_;subst ex;cases k;obtain⟨o,y,z,g,m,i,le,n,c⟩:=w.freezeN r;refine tT g m i n ?_;refine⟨a.heap.objs.size,[a.heap.objs.size],_,_,_,rfl,c.kept (t':=a.toks) λb u e=>J2 _ e,qo d _ o j i le,⟨_,Jk _ rfl,rfl,rfl⟩,λb t=>?_,q o⟩;cases Jd.mp t;exact c.fpOk (Jb _) (c.hok.fresh (Jb _))
end
end L2
namespace L2
open PySem PySem.Spec PyProof.Rows Own PySem.W
section
variable {prog:Program}{w:World}{d:Addr}{o:Obj}{es:Array DictEntry}{ep:Nat}
theorem kE (j:o.ExactDict)(hd:o.data=.dict es ep)(r:(d == sysModules)=false):KdlSrc prog w "dict" d d es.size (λi v=>∃ e,es[i]?=some e/\v=e.key) (λh=>h.get? d=some o) where
 type:=λs a=>⟨o,a,j.1⟩
 there:=λh a=>⟨Jg a,Jg a⟩
 keep:=λh f a k=>k d (.inl rfl) _ a
 notList:=by decide
 notTuple:=by decide
 hint:=λA E s Q a q=>by
  have ty:s.TypeIs (.ref d) "dict":=⟨o,a,j.1⟩;show wpAny _ _ (specialOf (.ref d) _ >>= _) _ _ _;refine J0 (wpAny_specialOf (T:="dict") ty F.slot_dict_len.lookup ?_);show wpAny _ _ (isInstance (.ref d) (.type "dict") >>= _) _ _ _;refine J0 (YK (T:="dict") (b:=true) ty rfl ?_);show wpAny _ _ (typeOf (.ref d) >>= _) _ _ _;exact J0 (Yr ty (J7 q))
 iter:=λA s t a=>by
  refine⟨{ cls:=.type "dict_keyiterator",data:=.fields #[.ref d,.int 0 0,.int es.size 0,.int ep 0] },λi h=>h.IsKeyIter s.heap.objs.size d i es.size ep/\h.get? d=some o,λE Q q=>tT a j hd r q,?_,⟨_,Jk _ rfl,rfl,rfl⟩,J2 _ a⟩;have n:d≠s.heap.objs.size:=Jt (Jg a);refine⟨λb c=>Ji.mpr (.inl (Jd.mp c)),λi h f st k=>⟨st.1.at (k _ JK),k d (JJ _ JK) _ st.2⟩,λi g Q E p st q=>?_,λg Q E st q=>?_,λi g Q E st q=>wpAny_pyIter_keyiter st.1 q⟩
  ·have m:es[i]?=some es[i]:=YN p
   exact qH st.2 hd st.1 m λf l k=>q _ f g.toks ⟨_,m,rfl⟩ ⟨l,k d o n st.2⟩ λb u nb c=>k b u (λz=>nb (Jd.mpr z)) c
  ·exact qI t st.2 hd st.1 (Array.getElem?_eq_none (Jb _)) λf k=>q f g.toks λb u nb c=>k b u (λz=>nb (Jd.mpr z)) c
end
end L2
namespace L2
open PySem PySem.Spec PyProof.Rows Own Ts PySem.W
section
theorem j9 {xs:KVN}{ws:List (KN × Addr × Value)}(r:Paired PrN xs ws):Vals (xs.map λp=>V.ref p.2.1) (ws.map λq=>Value.ref q.2.1):=by
 induction r with
 | nil=>exact .nil
 | @cons p q b a h t ih=>exact .cons (by show Value.ref q.2.1=Value.ref p.2.1;rw[h.2.1]) ih
theorem j7 {a:Array DictEntry}{acc:Array Value}(a1:acc.size=a.size)(a2:∀ (j:Nat) (v:Value),acc[j]?=some v->∃ e,a[j]?=some e/\v=e.key):acc.toList=a.toList.map (·.key):=by
 refine List.ext_getElem (by rw[Jc,YQ,YQ,a1]) λj c f=>?_;obtain⟨e,b,d⟩:=a2 j acc[j] (YN _);rw[List.getElem_map,Array.getElem_toList,Array.getElem_toList,d];rw[YN (by rw[<- a1];exact c)]at b;rw[Jn b]
end
end L2
namespace L2
open PySem PySem.Spec PyProof.Rows Own
section
def le2 (p q a b:Int):Prop:=p<a\/p=a/\q<=b
end
def cR:List Int->List Int->Ordering
 | [],[]=>.eq
 | [],_::_=>.lt
 | _::_,[]=>.gt
 | a::x,b::y=>(compare a b).then (cR x y)
def cE (x y:List Int):List Int:=if cR y x=.lt then y else x
def gb (P:Program)(w:World)(t:TS):TS:=λD σ H=>t { D with nx:=λa e=>∃ d o c b,H d=some (DN P w d b)/\e d=some (.frz o (DN P w d c))/\D.nx a (upd e d (DN P w d c)) } σ H
section
variable {X:Cx}
theorem ke {st:Stmt}{t:TS}(h:PS X st t):PS X st (gb X.prog X.w t):=by
 intro pins s σ H D I c;refine thn (h pins s σ H _ I c) λf k q=>?_
 cases f with
 | next =>
  obtain⟨a,l,g,d,o,j,i,e,b,q⟩:=q
  exact⟨a,_,g.thawN b (I.meltedN e),q⟩
 | brk=>exact q
 | cont=>exact q
 | ret u=>exact q
end
end L2
namespace L2
open PySem PySem.Spec PyProof.Rows Own
abbrev FZ (o:Obj):HO:=.frz o (.ext λ_=>True)
theorem qU {P:Program}{w:World}{H:Hp}{h:Heap}{a:Addr}{o:Obj}(e:h.get? a=some o):ObjOk P w H h a (FZ o):=⟨e,trivial,⟨o,e⟩,λ_ _ _ _=>trivial⟩
structure Lam where
 params:Arguments
 body:Expr
 scope:Scope
 qual:Str
def qQ (L:Lam)(cl:List (Str × Addr))(pm:Value)(c:Addr)(ct:Value):Obj:=PySem.W.kla_obj "<lambda>" L.qual L.params L.body L.scope cl pm c ct
structure LamAt (H:Hp) (f:Addr) (L:Lam) (cl:List (Str × Addr)) (vs:List V):Prop where
 ex:∃ (pm:Value) (c:Addr) (ct:Value) (oc:Obj) (fs:Array Value) (t:Tok),H f=some (FZ (qQ L cl pm c ct))/\H c=some (FZ oc)/\oc.data=.fields fs/\fs[1]?=some (.str L.qual t)
 len:cl.length=vs.length
 cell:∀ (i:Nat) x c v,cl[i]?=some (x,c)->vs[i]?=some v->∃ o u,H c=some (FZ o)/\o.data=.cell (some u)/\RelV v u
 nd1:(cl.map (·.1)).Nodup
 nd2:(cl.map (·.2)).Nodup
theorem LamAt.frz {H H':Hp}{f:Addr}{L:Lam}{cl:List (Str × Addr)}{vs:List V}(h:LamAt H f L cl vs)(z:∀ b o u,H b=some (.frz o u)->H' b=some (.frz o u)):LamAt H' f L cl vs:=by
 obtain⟨pm,c,p,j,fs,t,n,m,l,k⟩:=h.ex;refine⟨⟨pm,c,p,j,fs,t,z _ _ _ n,z _ _ _ m,l,k⟩,h.len,λi x c v a b=>?_,h.nd1,h.nd2⟩;obtain⟨o,u,g,e,d⟩:=h.cell i x c v a b;exact⟨o,u,z _ _ _ g,e,d⟩
def strip (cl:List (Str × Addr))(H:Hp):Hp:=λb=>if b∈cl.map (·.2) then none else H b
def back (cl:List (Str × Addr))(H H':Hp):Hp:=λb=>if b∈cl.map (·.2) then H b else H' b
theorem x8 {cl:List (Str × Addr)}{H:Hp}{b:Addr}(h:b∈cl.map (·.2)):strip cl H b=none:=JE h
theorem yE {cl:List (Str × Addr)}{H:Hp}{b:Addr}(h:b∉cl.map (·.2)):strip cl H b=H b:=Jv h
theorem rE {cl:List (Str × Addr)}{H H':Hp}{b:Addr}(h:b∈cl.map (·.2)):back cl H H' b=H b:=JE h
theorem xB {cl:List (Str × Addr)}{H H':Hp}{b:Addr}(h:b∉cl.map (·.2)):back cl H H' b=H' b:=Jv h
theorem qt {cl:List (Str × Addr)}{H:Hp}{b:Addr}{o:HO}(h:strip cl H b=some o):b∉cl.map (·.2)/\H b=some o:=by
 by_cases c:b∈cl.map (·.2)
 ·rw[x8 c]at h;cases h
 ·rw[yE c]at h;exact⟨c,h⟩
def CellsFz (cl:List (Str × Addr))(H:Hp):Prop:=∀ b∈cl.map (·.2),∃ o,H b=some (FZ o)
theorem LamAt.fz {H:Hp}{f:Addr}{L:Lam}{cl:List (Str × Addr)}{vs:List V}(h:LamAt H f L cl vs):CellsFz cl H:=λb k=>by
 obtain⟨⟨x,c⟩,j,rfl⟩:=JD.mp k;obtain⟨i,a,e⟩:=Yh.mp j;have g:i<vs.length:=by rw[<- h.len];exact a
 obtain⟨o,u,d,_⟩:=h.cell i x c vs[i] (by rw[Ja a,e]) (Ja g);exact⟨o,d⟩
section
variable {P:Program}{w:World}{H H':Hp}{h h':Heap}{cl:List (Str × Addr)}
theorem tV (x:HOk P w H h)(fz:CellsFz cl H):HOk P w (strip cl H) h:=λb u e=>by
 obtain⟨nb,f⟩:=qt e
 have keep:∀ {c:Addr}{o:HO},H c=some o->(∀ q,o≠FZ q)->strip cl H c=some o:=λ{c o} z n=>by
  rw[yE];· exact z
  ·intro d
   obtain⟨q,a⟩:=fz c d;rw[z]at a;exact n q (Jn a)
 exact(x b u f).stay (λc v _ q=>q) (λc q=>keep q λz y=>by cases y) λc g q=>keep q λz y=>by cases y
theorem iA {fs:List Addr}(un:Un fs [] (strip cl H) H' h h')(fz:CellsFz cl H)(nf:∀ b∈fs,H b=none)(there:∀ b o,H b=some (FZ o)->h.get? b=some o)(low:∀ b∈cl.map (·.2),H' b=none)(ok:HOk P w H' h'):Un fs [] H (back cl H H') h h'/\HOk P w (back cl H H') h':=by
 have d:∀ {b:Addr},H b=none->b∉cl.map (·.2):=λe a=>by
  obtain⟨o,q⟩:=fz _ a;rw[e]at q;cases q
 have kept:∀ b∈cl.map (·.2),∀ o,h.get? b=some o->h'.get? b=some o:=λb a o e=>un.keep b o e (x8 a) (λz=>d (nf b z) a) (by simp)
 have f:∀ {b:Addr}{o:HO},H b=some o->(∀ q,o≠FZ q)->b∉cl.map (·.2):=λz n a=>by
  obtain⟨q,i⟩:=fz _ a;rw[z]at i;exact n q (Jn i)
 refine⟨⟨λb o e n x y=>un.keep b o e (by rw[yE (d n)];exact n) x y,λb o e n x y=>un.slot b o e (by rw[yE (d n)];exact n) x y,λb o e n y=>?_,un.there,λb g e=>?_,λb o u e=>?_,λb j e=>?_⟩,λb u e=>?_⟩
 ·rw[xB (d n)]
  exact un.free b o e (by rw[yE (d n)];exact n) y
 ·have nb:=f e λq z=>by cases z
  rw[xB nb];exact un.tups b g (by rw[yE nb];exact e)
 ·by_cases c:b∈cl.map (·.2)
  ·rw[rE c];exact e
  ·rw[xB c];exact un.frzs b o u (by rw[yE c];exact e)
 ·have nb:=f e λq z=>by cases z
  rw[xB nb];exact un.tbls b j (by rw[yE nb];exact e)
 ·by_cases c:b∈cl.map (·.2)
  ·rw[rE c]at e
   obtain⟨o,q⟩:=fz b c;rw[q]at e;cases e;exact qU (kept b c o (there b o q))
  ·rw[xB c]at e
   have old:∀ {x:Addr}{o:HO},H' x=some o->back cl H H' x=some o:=λ{x o} z=>by
    rw[xB];· exact z
    ·intro k
     rw[low x k]at z;cases z
   exact(ok b u e).stay (λx v _ q=>q) (λx q=>old q) λx g q=>old q
end
def oN (L:Lam)(cl:List (Str × Addr))(a f c:Addr):Env:={ scope:=L.scope,locals:=a,globals:=mainGlobals,cells:=cl,qual:=L.qual++".<locals>.",func:=some f,code:=.ref c,frame:=some a,builtins:=builtinsNs }
def j0 (CX:CXT)(P:Program)(w:World)(K:PySem.W.Frag)(mg:Str->Option Value)(base:Heap)(N:List Str)(L:Lam)(cl:List (Str × Addr))(f c:Addr)(A:Around)(outer:List Env)(s:Shared)(H:Hp)(E:XK):Cx where
 prog:=P
 w:=w
 K:=K
 mg:=mg
 base:=base
 A:=A.deeper (oN L cl s.heap.objs.size f c)
 N:=N
 s₀:=s
 H₀:=strip cl H
 env:=oN L cl s.heap.objs.size f c
 outer:=outer
 stack:=oN L cl s.heap.objs.size f c::outer
 ex:=[]
 calm:=true
 fn:=λ_=>false
 pn:=[]
 xe:=λe b=>wpAny (model P w) (A.deeper (oN L cl s.heap.objs.size f c)) (leaving (oN L cl s.heap.objs.size f c) e) (λ_ a=>CX outer H s E e a) (λd a=>CX outer H s E d a) b
structure LamScope (ps fr:List Str) (sc:Scope):Prop where
 kind:sc.kind=.function
 co:sc.isCoroutine=false
 gen:sc.isGenerator=false
 nd:(ps++fr).Nodup
 par:∀ x∈ps,sc.names.lookup x=some .local
 fre:∀ x∈fr,sc.names.lookup x=some .free
 noc:∀ y∈sc.names,y.2≠.cell
 all:∀ x,sc.names.lookup x=some .free->x∈fr
section
variable {CX:CXT}{P:Program}{w:World}{K:PySem.W.Frag}{mg:Str->Option Value}{base:Heap}{L:Lam}{cl:List (Str × Addr)}{vals vs:List V}{ps:List Str}{f c:Addr}{A:Around}{outer:List Env}{s:Shared}{H:Hp}{us:List Value}{E:XK}
theorem o8 {cl:List (Str × Addr)}(nd:(cl.map (·.1)).Nodup):∀ {i:Nat}{x:Str}{c:Addr},cl[i]?=some (x,c)->cl.lookup x=some c:=by
 induction cl with
 | nil=>intro i x c h;cases h
 | cons p r ih =>
  intro i x c h;rw[Y0,JT]at nd
  cases i with
  | zero =>
   cases Jn h
   rw[Y5,beq_self_eq_true]
  | succ i =>
   have m:=Jq (show r[i]?=some (x,c) from h);rw[Y5,show (x == p.1)=false from Yw.mpr λz=>nd.1 (JD.mpr ⟨_,m,z⟩)];exact ih nd.2 (show r[i]?=some (x,c) from h)
theorem pS {ps:List Str}{us:List Value}(nd:ps.Nodup)(d:us.length=ps.length){i:Nat}{x:Str}{u:Value}(b:ps[i]?=some x)(c:us[i]?=some u):(ps.zip us).reverse.lookup x=some u:=by
 have a:((ps.zip us).reverse.map (·.1)).Nodup:=by
  rw[List.map_reverse,List.map_fst_zip (by lia)];exact List.pairwise_reverse.mpr (nd.imp λh=>h.symm)
 have m:(x,u)∈(ps.zip us).reverse:=List.mem_reverse.mpr (Jq (i:=i) (by rw[Za];exact⟨b,c⟩));generalize (ps.zip us).reverse=l at a m
 induction l with
 | nil=>cases m
 | cons p r ih =>
  rw[Y0,JT]at a;rcases Ji.mp m with e|z
  ·rw[<- e,Y5,beq_self_eq_true]
  ·rw[Y5,show (x == p.1)=false from Yw.mpr λy=>a.1 (JD.mpr ⟨_,z,y⟩)]
   exact ih a.2 z
theorem ir {h':Heap}{tk:Nat}(S:LamScope ps (cl.map (·.1)) L.scope)(hd:A.handled=none)(g:Env0 P w K mg base A outer s H)(la:LamAt H f L cl vals)(r:Vals vs us)(J:vs.length=ps.length)(ns:h'.Ns s.heap.objs.size (λx=>(ps.zip us).reverse.lookup x))(kp:∀ b o,s.heap.get? b=some o->h'.get? b=some o) :
  Inv (j0 CX P w K mg base (ps++cl.map (·.1)) L cl f c A outer s H E) [] ((vs++vals).map some) (strip cl H) { s with heap:=h',toks:=tk }:=by
 have fz:=la.fz;have O:=List.nodup_append.mp S.nd;have ul:us.length=ps.length:=by rw[<- r.length];exact J
 have d:∀ {x:Str}{a:Addr},cl.lookup x=some a->(x,a)∈cl:=λh=>Yx h
 have cellOf:∀ {x:Str}{a:Addr},(x,a)∈cl->∃ (i:Nat) (v:V) (o:Obj) (u:Value),cl[i]?=some (x,a)/\vals[i]?=some v/\H a=some (FZ o)/\o.data=.cell (some u)/\RelV v u/\s.heap.get? a=some o:=λ{x a} m=>by
  obtain⟨i,t,e⟩:=Yh.mp m;have R:cl[i]?=some (x,a):=by rw[Ja t,e]
  have Q:i<vals.length:=by rw[<- la.len];exact t
  obtain⟨o,u,C,B,F⟩:=la.cell i x a vals[i] R (Ja Q);exact⟨i,_,o,u,R,Ja Q,C,B,F,(g.hok a _ C).1⟩
 refine⟨⟨g.mod,S.kind,rfl,rfl,Jb _,λy z a k n=>?_,λy G=>?_,λy a q=>(by cases q),λ_=>hd,Around.frames_deeper g.frames,.inr ⟨rfl,rfl⟩,λb z=>(JA z).elim,λb o e=>⟨(g.bs b o e).1,?_⟩,g.bsz,λb _ _=>JA,λb z=>(JA z).elim,g.funs,λb hb=>?_⟩,
  rfl,g.bare,Un.kept kp,⟨_,ns,λi y v k n h3=>?_⟩,λy a h=>?_,?_,λy a h=>x8 (JD.mpr ⟨_,d h,rfl⟩),λp I=>(JA I).elim,(tV g.hok fz).kept kp,?_⟩
 ·-- one cell,one name
  have X:=d k;have W:=d n;obtain⟨i,t,D⟩:=Yh.mp X;obtain⟨j,Y,M⟩:=Yh.mp W;have:i=j:=(List.getElem_inj (h₀:=by rw[Jc];exact t) (h₁:=by rw[Jc];exact Y) la.nd2).mp (by rw[List.getElem_map,List.getElem_map,D,M]);subst this;rw[D]at M;exact JH Prod.fst M
 ·have G:L.scope.names.lookup y=some .cell\/L.scope.names.lookup y=some .free:=G
  rcases G with q|q
  ·exact absurd rfl (S.noc _ (Yx q))
  ·obtain⟨p,I,e⟩:=JD.mp (S.all y q)
   obtain⟨i,t,D⟩:=Yh.mp I;exact⟨p.2,o8 la.nd1 (i:=i) (by rw[Ja t,D,<- e])⟩
 ·show strip cl H b=none
  unfold strip;split
  ·rfl
  ·exact(g.bs b o e).2
 ·show strip cl H b=none
  unfold strip;split
  ·rfl
  ·exact g.frf b hb
 ·have l:(vs++vals)[i]?=some v:=by
   rw[JG]at n
   cases e:(vs++vals)[i]? with
   | none=>rw[e]at n;cases n
   | some z=>rw[e]at n;cases n;rfl
  replace k:(ps++cl.map (·.1))[i]?=some y:=k;by_cases ci:i<vs.length
  ·rw[List.getElem?_append_left ci]at l
   rw[List.getElem?_append_left (by lia)]at k;obtain⟨u,Z,T⟩:=r.get l;exact⟨u,T,.inl ⟨S.par y (Jq k),pS O.1 ul k Z⟩⟩
  ·rw[List.getElem?_append_right (by lia)]at l
   rw[List.getElem?_append_right (by lia),JG,<- J]at k;obtain⟨⟨x,a⟩,N,rfl⟩:=Y9.mp k;obtain⟨o,u,C,B,F⟩:=la.cell _ x a v N l;exact⟨u,F,.inr ⟨.inr (S.fre x (JD.mpr ⟨_,Jq N,rfl⟩)),a,o8 la.nd1 N,o,kp _ _ (g.hok a _ C).1,B⟩⟩
 ·obtain⟨i,v,o,u,_,_,_,B,_,U⟩:=cellOf (d h)
  exact⟨some u,o,kp _ _ U,B⟩
 ·show strip cl H s.heap.objs.size=none
  unfold strip;split
  ·rfl
  ·exact g.hok.fresh (Jb _)
 ·show ((vs++vals).map some).length=(ps++cl.map (·.1)).length
  rw[Jc,J9,J9,Jc,J,la.len]
end
theorem qg {sc:Scope}{env:Env}(h:∀ x,(x,NameKind.free)∈sc.names->∃ c,env.cells.lookup x=some c) :
  ∃ cl,closureFor sc env=pure cl/\cl.map (·.1)=((sc.names.filter λy=>y.2 == .free).map (·.1)).reverse/\∀ p∈cl,env.cells.lookup p.1=some p.2:=by
 unfold closureFor
 have key:∀ (l:List (Str × NameKind)) (acc:List (Str × Addr)),(∀ x,(x,NameKind.free)∈l->∃ c,env.cells.lookup x=some c)->(∀ p∈acc,env.cells.lookup p.1=some p.2) ->
   ∃ cl,(forIn l acc λ(y:Str × NameKind) (r:List (Str × Addr))=>(match y with|(name,kind)=>if (kind == NameKind.free)=true then do let a <- cellOf env name;pure (ForInStep.yield ((name,a)::r)) else pure (ForInStep.yield r):Sem (ForInStep (List (Str × Addr)))))=pure cl/\cl.map (·.1)=((l.filter λy=>y.2 == .free).map (·.1)).reverse++acc.map (·.1)/\∀ p∈cl,env.cells.lookup p.1=some p.2:=by
  intro l
  induction l with
  | nil=>intro acc _ e;exact⟨acc,rfl,rfl,e⟩
  | cons y l ih =>
   intro acc j e;obtain⟨x,f⟩:=y;rw[YU];by_cases c:(f == NameKind.free)=true
   ·have n:f=.free:=by
     cases f<;>first|rfl|cases c
    subst n;obtain⟨a,k⟩:=j x (.head _)
    obtain⟨cl,d,e2,b⟩:=ih ((x,a)::acc) (λz g=>j z (.tail _ g)) (λp i=>by
     rcases Ji.mp i with rfl|q
     ·exact k
     ·exact e p q)
    refine⟨cl,?_,?_,b⟩
    ·have o:cellOf env x=pure a:=by unfold cellOf;rw[k]
     simp only[o,pure_bind];exact d
    ·rw[e2,List.filter_cons,JE (show ((x,NameKind.free).2 == NameKind.free)=true from rfl),Y0 (l:=List.filter _ l),List.reverse_cons,Ys];rfl
   ·obtain⟨cl,d,e2,b⟩:=ih acc (λz g=>j z (.tail _ g)) e
    refine⟨cl,?_,?_,b⟩
    ·simp only[c,pure_bind]
     exact d
    ·rw[e2,List.filter_cons,Jv c]
 obtain⟨cl,d,e2,b⟩:=key sc.names [] h (λp i=>(JA i).elim);refine⟨cl,?_,by rw[e2,List.map_nil,Yn],b⟩;have s:=JH (λ(m:Sem (List (Str × Addr)))=>m >>= λr=>pure r) d;exact s.trans (pure_bind _ _)
def TabOk (H:Hp)(qual:Str)(l:List (Pos × Addr)):Prop:=∀ p∈l,∃ (a:Obj) (fs:Array Value) (t:Tok),H p.2=some (FZ a)/\a.data=.fields fs/\fs[1]?=some (.str qual t)
theorem TabOk.frz {H H':Hp}{qual:Str}{l:List (Pos × Addr)}(h:TabOk H qual l)(z:∀ b o u,H b=some (.frz o u)->H' b=some (.frz o u)):TabOk H' qual l:=λp c=>by
 obtain⟨a,fs,t,e,d⟩:=h p c;exact⟨a,fs,t,z _ _ _ e,d⟩
theorem ug (pos:Pos):∀ l:List (Pos × Addr),codeAmong pos (triples l)=none\/∃ p∈l,codeAmong pos (triples l)=some (.ref p.2)
 | []=>.inl rfl
 | (q,a)::l=>by
  show (if (((q.line:Int) == pos.line && (q.col:Int) == pos.col)=true) then some (Value.ref a) else codeAmong pos (triples l))=none\/∃ p∈(q,a)::l,(if (((q.line:Int) == pos.line && (q.col:Int) == pos.col)=true) then some (Value.ref a) else codeAmong pos (triples l))=some (.ref p.2);split
  ·exact .inr ⟨_,.head _,rfl⟩
  ·rcases ug pos l with h|⟨p,b,h⟩
   ·exact .inl h
   ·exact .inr ⟨p,.tail _ b,h⟩
theorem wf:∀ l:List (Pos × Addr),TriplesOk (triples l)
 | []=>trivial
 | (q,a)::l=>wf l
structure CodeK (K:PySem.W.Frag) (mg:Str->Option Value) (base:Heap) (c P:Addr):Prop where
 hd:PySem.W.codeHdIn K c P=true
 blt:base.BuiltinsAt mg P
 gP:mainGlobals≠P
structure LamRaw (H:Hp) (f:Addr) (L:Lam) (cl:List (Str × Addr)):Prop where
 ex:∃ (pm:Value) (c:Addr) (ct:Value) (oc:Obj) (fs:Array Value) (t:Tok),H f=some (FZ (qQ L cl pm c ct))/\H c=some (FZ oc)/\oc.data=.fields fs/\fs[1]?=some (.str L.qual t)
def CellsOf (env:Env)(cl:List (Str × Addr)):Prop:=∀ p∈cl,env.cells.lookup p.1=some p.2
def cj (env:Env)(P:Addr)(L:Lam)(fr:List Str):TE:=λ_ H Q=>∃ l,H P=some (.tbl (triples l).toArray)/\TabOk H L.qual l /\
 ∀ f cl c a,cl.map (·.1)=fr->CellsOf env cl->H f=none->LamRaw a f L cl->a P=some (.tbl (triples c).toArray)->TabOk a L.qual c->(∀ b o,H b=some o->b≠P->a b=some o)->Q (.ref f) a
section
variable {X:Cx}{pins:List (Addr × Obj)}{σ:St}{H:Hp}{s:Shared}{h':Heap}
theorem Inv.tab {P:Addr}{ps more:Array Value}{tk:Nat}(I:Inv X pins σ H s)(d:H P=some (.tbl ps))(k:Heap.ExtBut P s.heap h')(new:h'.get? P=some (PySem.W.tabObj (ps++more))):Inv X pins σ (upd H P (.tbl (ps++more))) { s with heap:=h',toks:=tk }:=by
 have ne:∀ {b:Addr},H b=none->b≠P:=λe z=>by rw[z,d]at e;cases e
 have a:∀ {b:Addr}{o:HO},H b=some o->(∀ q,o≠.tbl q)->upd H P (.tbl (ps++more)) b=some o:=λ{b o} e n=>by
  rw[zJ];· exact e
  ·intro z
   rw[z,d]at e;exact n ps (Jn e).symm
 refine I.step (g':=s.gens) (d':=s.drawn) (ch:=[]) (λb j=>(JA j).elim) (λb o _ _ _ e n=>k b o (ne n) e) (λb o _ _ _ e n=>⟨o.slots,k b o (ne n) e⟩) (λb o _ e n=>by rw[zJ (ne n)];exact n) (λb o _ e=>?_) (λb f e=>a e λq z=>by cases z) (λb o u e=>a e λq z=>by cases z) (λb t e=>?_) (λm i=>?_) (λb u e=>?_) I.bare
 ·by_cases c:b=P
  ·subst c;exact⟨_,new⟩
  ·exact⟨o,k b o c e⟩
 ·by_cases c:b=P
  ·subst c
   rw[d]at e;cases e;exact⟨more,zE⟩
  ·exact⟨#[],by rw[zJ c,e];simp⟩
 ·obtain⟨o,l,p,h,r⟩:=i
  exact⟨o,l,p,k _ o (ne I.free) h,r⟩
 ·by_cases c:b=P
  ·subst c
   rw[zE]at e;cases e;exact new
  ·rw[zJ c]at e
   refine(I.hok b u e).stay (λx v g q=>k x v ?_ q) (λx q=>a q λz y=>by cases y) λx f q=>a q λz y=>by cases y
   rcases g with z|z
   ·rw[z];exact c
   ·rintro rfl
    rw[d]at z;cases z
theorem jB {params:Arguments}{body:Expr}{scope:Scope}{pos:Pos}{c P:Addr}{fr:List Str}(N:CodeK X.K X.mg X.base c P)(i:X.env.code=.ref c)(B:defaultsOf params X.env=([],[]))(r:∀ x,(x,NameKind.free)∈scope.names->X.env.kindOf x=some .cell\/X.env.kindOf x=some .free)(S:((scope.names.filter λy=>y.2 == .free).map (·.1)).reverse=fr) :
  PE X (.Lambda params body scope pos) (cj X.env P ⟨params,body,scope,X.env.qual++"<lambda>"⟩ fr):=by
 intro pins s σ H Q I h;obtain⟨l,w,tok,q⟩:=h;obtain⟨cl,A,m,z⟩:=qg (sc:=scope) (env:=X.env) λx hx=>I.ok.has x (r x hx);rw[S]at m;have W:s.heap.Ns mainGlobals X.mg:=I.mod.glob.keeps I.bk;have Y:s.heap.BuiltinsAt X.mg P:=N.blt.keeps I.bk;have C:=PySem.W.codeHd_of_K I.kIn N.hd;have E:s.heap.get? P=some (PySem.W.tabObj (triples l).toArray):=I.hok P _ w;refine PySem.W.kla_eval B ?_;rcases ug pos l with hn|⟨p,K,hy⟩
 ·refine PySem.W.kla_makeFunction A I.ok.glob W i C E (by rw[List.toList_toArray];exact wf l) (by rw[List.toList_toArray];exact hn) N.gP Y λd f h' tk ex lo hi cr U=>?_
  obtain⟨c2,j,fs,t,ec,g1,g2,Z⟩:=cr;cases ec;have pl:P<s.heap.objs.size:=Jg E;have sz:s.heap.objs.size<=h'.objs.size:=Jz lo (Nat.le_of_lt hi);have cP:d≠P:=YH (Jx pl lo);have fP:h'.objs.size≠P:=YH (Jx pl sz);have M:d≠h'.objs.size:=Jt hi
  have L:(triples l).toArray++#[rawInt pos.line,rawInt pos.col,.ref d]=(triples (l++[(pos,d)])).toArray:=by
   rw[triples_append];simp
  rw[L]at U;have D:=I.tab (tk:=tk) (h':=h'.push (qQ ⟨params,body,scope,X.env.qual++"<lambda>"⟩ cl ((X.mg "__name__").getD .none) d f)) (more:=#[rawInt pos.line,rawInt pos.col,.ref d]) w (λb o n e=>J2 _ (ex b o n e)) (by rw[L];exact J2 _ U);rw[L]at D;have V:H d=none:=I.hok.fresh lo;have J:H h'.objs.size=none:=I.hok.fresh sz;have m1:upd H P (.tbl (triples (l++[(pos,d)])).toArray) d=none:=by rw[zJ cP];exact V
  have I2:=D.adopt (o:=FZ j) (I.fpOk lo m1) (qU (J2 _ g1));have m2:upd (upd H P (.tbl (triples (l++[(pos,d)])).toArray)) d (FZ j) h'.objs.size=none:=by rw[zJ M.symm,zJ fP];exact J
  have I3:=I2.adopt (o:=FZ (qQ ⟨params,body,scope,X.env.qual++"<lambda>"⟩ cl ((X.mg "__name__").getD .none) d f)) (I.fpOk sz m2) (qU (Jk _ rfl))
  have keep:∀ b o,H b=some o->b≠P->upd (upd (upd H P (.tbl (triples (l++[(pos,d)])).toArray)) d (FZ j)) h'.objs.size (FZ (qQ ⟨params,body,scope,X.env.qual++"<lambda>"⟩ cl ((X.mg "__name__").getD .none) d f)) b=some o:=λb o e n=>by
   rw[zJ (zG e J),zJ (zG e V),zJ n];exact e
  refine⟨.ref h'.objs.size,_,I3,rfl,q _ cl (l++[(pos,d)]) _ m z J ⟨_,d,f,j,fs,t,zE,by rw[zJ M];exact zE,g2,Z⟩ (by rw[zJ fP.symm,zJ cP.symm];exact zE) (λp K=>?_) keep⟩;rcases Jr.mp K with O|is
  ·obtain⟨R,T,t',v,G,F⟩:=tok p O
   exact⟨R,T,t',keep _ _ v (xi v w (λy=>by cases y)),G,F⟩
  ·rw[Jd.mp is]
   exact⟨j,fs,t,by rw[zJ M];exact zE,g2,Z⟩
 ·obtain⟨j,fs,t,v,G,F⟩:=tok p K
  refine PySem.W.kla_makeFunctionHit A I.ok.glob W i C E (by rw[List.toList_toArray];exact wf l) (by rw[List.toList_toArray];exact hy) Y λf h' tk k sz=>?_;have kk:∀ b o,s.heap.get? b=some o->(h'.push (qQ ⟨params,body,scope,X.env.qual++"<lambda>"⟩ cl ((X.mg "__name__").getD .none) p.2 f)).get? b=some o:=λb o e=>J2 _ (k b o e);have g:=I.hok.fresh (a:=h'.objs.size) sz;have D:=I.laid (a:=h'.objs.size) (o:=FZ (qQ ⟨params,body,scope,X.env.qual++"<lambda>"⟩ cl ((X.mg "__name__").getD .none) p.2 f)) (t':=tk) kk sz (qU (Jk _ rfl));refine⟨.ref h'.objs.size,_,D,rfl,q _ cl l _ m z g ⟨_,p.2,f,j,fs,t,zE,by rw[zJ (zG v g)];exact v,G,F⟩ (by rw[zJ (zG w g)];exact w) (tok.frz λb o u e=>by rw[zJ (zG e g)];exact e) λb o e _=>by rw[zJ (zG e g)];exact e⟩
end
def CellsAt (H:Hp)(cs:List (Str × Addr))(vals:List V):Prop:=cs.length=vals.length/\∀ (i:Nat) x c v,cs[i]?=some (x,c)->vals[i]?=some v->∃ o u,H c=some (FZ o)/\o.data=.cell (some u)/\RelV v u
theorem CellsAt.fz {H:Hp}{cs:List (Str × Addr)}{vals:List V}(h:CellsAt H cs vals):CellsFz cs H:=λb j=>by
 obtain⟨⟨x,c⟩,g,rfl⟩:=JD.mp j;obtain⟨i,a,e⟩:=Yh.mp g;have f:i<vals.length:=by rw[<- h.1];exact a
 obtain⟨o,u,d,_⟩:=h.2 i x c vals[i] (by rw[Ja a,e]) (Ja f);exact⟨o,d⟩
theorem LamRaw.at_ {H:Hp}{f:Addr}{L:Lam}{cl cs:List (Str × Addr)}{vals ws:List V}(r:LamRaw H f L cl)(h:CellsAt H cs vals)(n1:(cl.map (·.1)).Nodup)(d:(cl.map (·.2)).Nodup)(len:cl.length=ws.length)(sub:∀ (i:Nat) x c v,cl[i]?=some (x,c)->ws[i]?=some v->∃ j:Nat,cs[j]?=some (x,c)/\vals[j]?=some v):LamAt H f L cl ws:=by
 refine⟨r.ex,len,λi x c v a b=>?_,n1,d⟩;obtain⟨j,e,e2⟩:=sub i x c v a b;exact h.2 j x c v e e2
def gS (env:Env)(xs:List (Str × Nat))(sp:Sp)(E:XK)(t:TA):TE:=λσ H Q=>t σ H λd c=>∃ vals:List V,vals.length=xs.length/\(∀ (j:Nat) x i v,xs[j]?=some (x,i)->vals[j]?=some v->σ[i]?=some (some v)) /\
 ∀ cs a,cs.map (·.1)=xs.map (·.1)->CellsOf env cs->(cs.map (·.2)).Nodup->CellsAt a cs vals->(∀ b,b∉cs.map (·.2)->a b=c b)->(∀ b∈cs.map (·.2),c b=none)->sp d a (λv e=>Q v (strip cs e)) E
section
variable {X:Cx}{pins:List (Addr × Obj)}{σ:St}{H:Hp}{s:Shared}
theorem Inv.cells {xs:List (Str × Nat)}{vals:List V}(I:Inv X pins σ H s)(nd:(xs.map (·.1)).Nodup)(y:∀ p∈xs,X.N[p.2]?=some p.1/\X.env.scope.names.lookup p.1=some .cell/\X.fn p.1=true)(n:vals.length=xs.length)(k:∀ (j:Nat) x i v,xs[j]?=some (x,i)->vals[j]?=some v->σ[i]?=some (some v)):∃ cs:List (Str × Addr),cs.map (·.1)=xs.map (·.1)/\CellsOf X.env cs/\(cs.map (·.2)).Nodup/\cs.length=vals.length /\
   ∀ (j:Nat) x c v,cs[j]?=some (x,c)->vals[j]?=some v->∃ o u,s.heap.get? c=some o/\o.data=.cell (some u)/\RelV v u/\X.s₀.heap.objs.size<=c:=by
 induction xs generalizing vals with
 | nil =>
  cases vals with
  | nil=>exact⟨[],rfl,λp K=>(JA K).elim,YG,rfl,λj x c v h=>by cases h⟩
  | cons a b=>cases n
 | cons p xs ih =>
  cases vals with
  | nil=>cases n
  | cons t vals =>
   rw[Y0,JT]at nd;obtain⟨cs,B,A,Q,P,O⟩:=ih (vals:=vals) nd.2 (λq f=>y q (.tail _ f)) (by simpa using n) (λj x i v a b=>k (j+1) x i v a b);obtain⟨d,l⟩:=p;obtain⟨G,w,F⟩:=y (d,l) (.head _);have J:=k 0 d l t rfl rfl;obtain⟨m,S,lo⟩:=I.loc;obtain⟨u,C,D⟩:=lo l d t G J (.inr (.inl w));rcases D with ⟨E,_⟩|⟨_,c,r,o,L,N⟩
   ·have g:X.env.scope.names.lookup d=some .local:=E
    rw[w]at g;cases g
   refine⟨(d,c)::cs,by rw[Y0,Y0,B],λq f=>?_,?_,by rw[Yk,Yk,P],λj x R v a b=>?_⟩
   ·rcases Ji.mp f with rfl|z
    ·exact r
    ·exact A q z
   ·rw[Y0,JT]
    refine⟨λM=>?_,Q⟩;obtain⟨q,f,e⟩:=JD.mp M;have:=I.ok.inj q.1 d c (by rw[A q f];exact JH some e) r;exact nd.1 (by rw[<- B,<- this];exact JD.mpr ⟨q,f,rfl⟩)
   ·cases j with
    | zero =>
     cases Jn a;cases Jn b
     exact⟨o,u,L,N,C,I.ok.cab d c F r⟩
    | succ j=>exact O j x R v a b
variable {k:Nat}{f:Addr}{fd:FuncData}{ps:List Str}{sp:Sp}{x:Str}{p pos:Pos}{e:Expr}{es:List Expr}{t:TA}{E:XK}
theorem jE (F:FnOk X.prog X.w X.K X.mg X.base CX0 k f fd ps sp) (hr:Room k X.A) (hg:Gl X x) (hm:X.mg x=some (.ref f)) (U:PySem.W.keepIn X.K (.ref f)=true) (d:Binds X.K fd ps []) (xs:List (Str × Nat)) (nd:(xs.map (·.1)).Nodup)
  (hk:∀ p∈xs,X.N[p.2]?=some p.1/\X.env.scope.names.lookup p.1=some .cell/\X.fn p.1=true) (ha:PA X (e::es) t) (V:(x == ("__debug__":Str))=false:=by decide) (he:starEach (e::es) X.env=(false,eval e X.env)::starEach es X.env:=by rfl) (T:(backTo pos (starEach es X.env)).any (·.1)=false:=by rfl) :
  PE X (.Call (.Name x p) (e::es) [] pos) (gS X.env xs sp E t):=by
 intro pins s σ H Q I h;refine Yy (nA I hg hm ?_ V);refine PySem.W.callWith_K (h₀:=X.base) I.ok.mod.kin U (thn (ha pos pins s σ H _ I h) λN A ⟨vs,L,m,r,vals,vl,S,q⟩=>⟨m.kIn,?_⟩) he T;obtain⟨cs,c1,c2,c3,c4,Z⟩:=m.cells nd hk vl S
 have cell:∀ b∈cs.map (·.2),∃ y o u,X.env.cells.lookup y=some b/\A.heap.get? b=some o/\o.data=.cell (some u)/\X.s₀.heap.objs.size<=b:=λb d=>by
  obtain⟨⟨y,c⟩,G,rfl⟩:=JD.mp d;obtain⟨j,Y,ej⟩:=Yh.mp G;have jv:j<vals.length:=by rw[<- c4];exact Y
  obtain⟨o,u,J,O,_,g4⟩:=Z j y c vals[j] (by rw[Ja Y,ej]) (Ja jv);exact⟨y,o,u,c2 (y,c) G,J,O,g4⟩
 have free:∀ b∈cs.map (·.2),L b=none:=λb d=>by
  obtain⟨y,o,u,P,_⟩:=cell b d;exact m.freeC y b P
 have nofr:∀ b∈cs.map (·.2),b∉frs X.stack:=λb d hf=>by
  obtain⟨y,o,u,P,_,_,lo⟩:=cell b d;rcases Ji.mp (m.stkSub b hf) with z|z
  ·exact m.cne y b P z
  ·obtain⟨_,o',ho,_⟩:=m.ok.funs.mem z
   exact absurd (Jx (Jg ho) lo) (Yc _)
 let C:Hp:=λb=>if b∈cs.map (·.2) then (A.heap.get? b).map FZ else L b
 have D:∀ {b:Addr}{o:Obj},b∈cs.map (·.2)->A.heap.get? b=some o->C b=some (FZ o):=λ{b o} d e=>by
  show (if b∈cs.map (·.2) then (A.heap.get? b).map FZ else L b)=_;rw[JE d,e];rfl
 have g:∀ b,b∉cs.map (·.2)->C b=L b:=λb d=>Jv d
 have l:∀ {b:Addr}{o:HO},L b=some o->C b=some o:=λ{b o} e=>by
  rw[g b λd=>by rw[free b d]at e;cases e];exact e
 have ca:CellsAt C cs vals:=⟨c4,λi y c v a b=>by
  obtain⟨o,u,J,O,g3,_⟩:=Z i y c v a b
  exact⟨o,u,D (JD.mpr ⟨_,Jq a,rfl⟩) J,O,g3⟩⟩
 have R:HOk X.prog X.w C A.heap:=λb u e2=>by
  by_cases d:b∈cs.map (·.2)
  ·obtain⟨y,o,u',_,J,_⟩:=cell b d
   rw[D d J]at e2;cases e2;exact qU J
  ·rw[g b d]at e2
   exact(m.hok b u e2).stay (λ_ _ _ z=>z) (λ_ z=>l z) λ_ _ z=>l z
 have B:=m.env0;have e2:Env0 X.prog X.w X.K X.mg X.base X.A X.stack A C:=⟨B.frames,B.mod,λb o z=>⟨(B.bs b o z).1,?_⟩,B.bsz,B.funs,λb d=>?_,R,B.bare⟩
 rotate_left
 ·rw[g b λG=>?_];· exact(B.bs b o z).2
  ·obtain⟨y,o',u,_,_,_,lo⟩:=cell b G
   exact absurd (Jx (Jg z) (Jz m.ok.bsz lo)) (Yc _)
 ·rw[g b λG=>nofr b G d];exact B.frf b d
 have z:=q cs C c1 c2 c3 ca g free;have ul:N.length=ps.length:=by rw[<- r.length];exact F.len _ _ _ _ z
 refine wpAny_call (YJ (F.run X.A X.stack A C ⟨N,[]⟩ N vs _ E hr e2 (by have:=d A N m.kIn (by rw[Yn];exact ul);rwa [Yn]at this) r z) λrs s' K=>?_)
 cases rs with
 | error e=>exact K.elim
 | ok fl =>
  cases fl with
  | next=>exact False.elim K
  | brk=>exact False.elim K
  | cont=>exact False.elim K
  | ret u =>
   obtain⟨v,H3,os,bare,un,M,rv,qq⟩:=K
   have W:CellsFz cs H3:=λb d=>by
    obtain⟨o,w⟩:=ca.fz b d;exact⟨o,un.frzs b o _ w⟩
   have same:∀ b∈cs.map (·.2),∀ o,A.heap.get? b=some o->s'.heap.get? b=some o:=λb d o e=>by
    have:=un.frzs b o _ (D d e);exact(M b _ this).1
   refine m.after ⟨v,strip cs H3,os,bare,⟨λb o e n x y=>?_,λb o e n x y=>?_,λb o e n y=>?_,un.there,λb ys e=>?_,λb o w e=>?_,λb qs e=>?_⟩,tV M W,rv,qq⟩
   ·by_cases d:b∈cs.map (·.2)
    ·exact same b d o e
    ·exact un.keep b o e (by rw[g b d];exact n) x y
   ·by_cases d:b∈cs.map (·.2)
    ·exact⟨o.slots,same b d o e⟩
    ·exact un.slot b o e (by rw[g b d];exact n) x y
   ·by_cases d:b∈cs.map (·.2)
    ·exact x8 d
    ·rw[yE d];exact un.free b o e (by rw[g b d];exact n) y
   ·have d:b∉cs.map (·.2):=λd=>by rw[free b d]at e;cases e
    rw[yE d];exact un.tups b ys (l e)
   ·have d:b∉cs.map (·.2):=λd=>by rw[free b d]at e;cases e
    rw[yE d];exact un.frzs b o w (l e)
   ·have d:b∉cs.map (·.2):=λd=>by rw[free b d]at e;cases e
    rw[yE d];exact un.tbls b qs (l e)
end
def cG (cl:List (Str × Addr))(H:Hp)(Q:VK):VK:=λv a=>(∀ b∈cl.map (·.2),a b=none)->Q v (back cl H a)
section
variable {CX:CXT}{P:Program}{w:World}{K:PySem.W.Frag}{mg:Str->Option Value}{base:Heap}{L:Lam}{cl:List (Str × Addr)}{vals vs:List V}{ps:List Str}{f c:Addr}{A:Around}{outer:List Env}{s:Shared}{H:Hp}{us:List Value}{Q:VK}{E:XK}
theorem je {k:Nat}(S:LamScope ps (cl.map (·.1)) L.scope) (j:Room (k+1) A) (a:Env0 P w K mg base A outer s H) (la:LamAt H f L cl vals) (r:Vals vs us) (l:vs.length=ps.length)
  (h:∀ pm cdv ct,bindArgs (PySem.W.kla_fn "<lambda>" L.qual L.params L.body L.scope cl pm cdv ct) ⟨us,[]⟩=pure (ps.zip us))
  (d:∀ c,Room k (A.deeper (oN L cl s.heap.objs.size f c))->∃ t,PE (j0 CX P w K mg base (ps++cl.map (·.1)) L cl f c A outer s H E) L.body t/\t ((vs++vals).map some) (strip cl H) (cG cl H Q)) :
  codeAny (model P w) A (.call (.ref f) ⟨us,[]⟩) (CR CX outer P w H s Q E) s:=by
 obtain⟨pm,c,ct,C,fs,n,R,O,N,M⟩:=la.ex;have lim:s.heap.NoLimit:=a.mod.nolimit.keeps λb o e=>(a.bs b o e).1;have ul:us.length=ps.length:=by rw[<- r.length];exact l
 refine PySem.W.kla_callFunE j.depth (a.hok f _ R).1 rfl S.co S.gen rfl ⟨c,C,fs,n,rfl,(a.hok c _ O).1,N,M⟩ ?_;rw[show bindArgs _ _=_ from h pm (.ref c) ct];refine J7 (wpAny_newFunctionEnv S.noc (λy D=>S.par y.1 (List.of_mem_zip D).1) (λT ns p=>?_) S.kind);have kp:∀ b o,s.heap.get? b=some o->T.get? b=some o:=λb o e=>(p.2 b (Jt (Jg e))).trans (J2 _ e);refine⟨lim.keeps kp,PySem.W.kla_codeExpr ?_⟩;obtain⟨t,F,G⟩:=d c (j.deeper _);have I:=ir (CX:=CX) (E:=E) (c:=c) (tk:=s.toks+(ps.zip us).length) S j.hd a la r l ns kp;refine JC (F [] _ _ _ _ I G) (λu x i=>?_) λe x i=>i;obtain⟨v,m,J,B,q⟩:=i;have g:=la.fz
 have low:∀ b∈cl.map (·.2),m b=none:=λb h=>by
  obtain⟨o,z⟩:=g b h;exact J.base.free b o (a.hok b _ z).1 (x8 h) JA
 obtain⟨un,ok⟩:=iA (H':=m) J.base g a.frf (λb o z=>(a.hok b _ z).1) low J.hok;exact⟨v,_,J.os,J.bare,un,ok,B,q low⟩
end
abbrev LSpc:=List V->List V->Hp->VK->XK->Prop
structure LamQ (CX:CXT) (P:Program) (w:World) (K:PySem.W.Frag) (mg:Str->Option Value) (base:Heap) (k:Nat) (L:Lam) (fr ps:List Str) (sp:LSpc):Prop where
 S:LamScope ps fr L.scope
 len:∀ vals vs H Q E,sp vals vs H Q E->vs.length=ps.length
 bind:∀ (cl:List (Str × Addr)) (us:List Value),us.length=ps.length->∀ pm cdv ct,bindArgs (PySem.W.kla_fn "<lambda>" L.qual L.params L.body L.scope cl pm cdv ct) ⟨us,[]⟩=pure (ps.zip us)
 body:∀ (cl:List (Str × Addr)) (f c:Addr) (A:Around) (outer:List Env) (s:Shared) (H:Hp) (vals vs:List V) (Q:VK) (E:XK),cl.map (·.1)=fr->Room k (A.deeper (oN L cl s.heap.objs.size f c))->CellsFz cl H->sp vals vs (strip cl H) Q E ->
  ∃ t,PE (j0 CX P w K mg base (ps++fr) L cl f c A outer s H E) L.body t/\t ((vs++vals).map some) (strip cl H) Q
def e7 (L:Lam)(fr:List Str)(sp:LSpc)(E:XK)(i:Nat)(t:TA):TE:=λσ H Q=>∃ f,σ[i]?=some (some (.ref f))/\(∃ cl pm c d,H f=some (FZ (qQ L cl pm c d)))/\t σ H λb a=>∃ cl vals,cl.map (·.1)=fr/\LamAt a f L cl vals/\sp vals b (strip cl a) (cG cl a Q) E
section
variable {X:Cx}{CX:CXT}{k:Nat}{L:Lam}{fr ps:List Str}{sp:LSpc}{E:XK}{x:Str}{i:Nat}{p pos:Pos}{e:Expr}{es:List Expr}{t:TA}
theorem om (F:LamQ CX X.prog X.w X.K X.mg X.base k L fr ps sp)(O:Room (k+1) X.A)(S:PE X (.Name x p) (iC i))(M:Passes CX X E)(ha:PA X (e::es) t)(R:starEach (e::es) X.env=(false,eval e X.env)::starEach es X.env:=by rfl)(m:(backTo pos (starEach es X.env)).any (·.1)=false:=by rfl) :
  PE X (.Call (.Name x p) (e::es) [] pos) (e7 L fr sp E i t):=by
 intro pins s σ H Q I h;obtain⟨f,P,⟨ad,aa,c0,ab,n⟩,q⟩:=h;refine Yy (thn (S pins s σ H (λv H'=>v=.ref f/\H'=H) I ⟨_,P,rfl,rfl⟩) λg G ⟨v,Z,A,K,ev,V⟩=>?_);subst ev V;obtain rfl:g=.ref f:=K;refine PySem.W.callWith_F ⟨_,_,_,_,(A.hok f _ n).1⟩ ?_ R m;refine thn (ha pos pins G σ Z _ A q) λo w ⟨C,B,b,r,cl,vals,j,d,z⟩=>?_;obtain⟨pm,c,ct,oc,fs,tc,T,h2,h3,h4⟩:=d.ex;have y:=F.len _ _ _ _ _ z;have ul:o.length=ps.length:=by rw[<- r.length];exact y
 have Y:LamScope ps (cl.map (·.1)) L.scope:=by rw[j];exact F.S
 refine⟨⟨_,_,_,_,(b.hok f _ T).1⟩,?_⟩;refine wpAny_call (YJ (je (CX:=CX) (E:=E) (Q:=Q) Y O b.env0 d r y (F.bind cl o ul) λW l=>?_) λrs J a=>?_)
 ·obtain⟨D,N,a⟩:=F.body cl f W X.A X.stack w B vals C _ E j l d.fz z
  exact⟨D,by rw[j];exact N,a⟩
 ·cases rs with
  | error e=>exact M pins σ B w e J b a
  | ok U =>
   cases U with
   | ret u=>exact b.after a
   | next=>exact False.elim a
   | brk=>exact False.elim a
   | cont=>exact False.elim a
end
abbrev LvL:=List (KN × List Int)
def i3 (ps:LvL)(k:KN):Option (List Int):=(ps.find? λx=>decide (x.1=k)).map (·.2)
def dw (ps:LvL)(k:KN)(c:List Int):LvL:=if (i3 ps k).isSome then ps.map λx=>if x.1=k then (x.1,c) else x else ps++[(k,c)]
def pc (c:List Int)(m:Nat):List Int:=Bn.yZ c m 1
structure LAcc where
 on:LvL
 fl:List (List Int)
section
variable (step:KN->Nat->Option KN)(seen:LvL)
def go1 (s:KN)(c:List Int)(a:LAcc)(m:Nat):LAcc :=
 match step s m with
 | none=>⟨a.on,a.fl++[pc c m]⟩
 | some t=>if (i3 seen t).isSome then a else ⟨dw a.on t (cE (pc c m) ((i3 a.on t).getD (pc c m))),a.fl⟩
end
theorem rd {α β:Type}{F G:α->β->Prop}(h:∀ a b,F a b->G a b){l1:List α}{c:List β}(p:Paired F l1 c):Paired G l1 c:=by
 induction p with
 | nil=>exact .nil
 | cons a _ ih=>exact .cons (h _ _ a) ih
end L2
namespace L2
open PySem PySem.Spec PyProof.Rows Own Bn
theorem Room.u3 {k:Nat}{A:Around}(r:Room k A):A.units+3<cLine:=by have:=r.un;lia
def Led (lsp:LSpc)(vals:List V)(step:KN->Nat->Option KN)(Ok:KN->Prop)(moves:List Nat)(H:Hp):Prop :=
 ∀ (c:Hp) (s:KN) (b:Addr) (m:Nat) (Q:VK),Tups H c->Ok s->m∈moves->NKey c s b->(∀ a,Same c a->step s m=none->Q .non a)->(∀ a d t,Same c a->step s m=some t->NKey a t d->Q (.ref d) a)->lsp vals [.ref b,.int (m:Nat)] c Q E0
theorem vt {H:Hp}{cl:List (Str × Addr)}(fz:CellsFz cl H):Tups H (strip cl H):=λa c e=>by
 rw[yE]
 ·exact e
 ·intro b
  obtain⟨o,q⟩:=fz a b;rw[e]at q;cases q
theorem vN {H a:Hp}{cl:List (Str × Addr)}(s:Same (strip cl H) a):Same H (back cl H a):=λb o e=>by
 by_cases c:b∈cl.map (·.2)
 ·rw[rE c];exact e
 ·rw[xB c];exact s b o (by rw[yE c];exact e)
theorem nh {H a:Hp}{cl:List (Str × Addr)}(low:∀ b∈cl.map (·.2),a b=none):Tups a (back cl H a):=λb d e=>by
 rw[xB]
 ·exact e
 ·intro c
  rw[low b c]at e;cases e
def MvAt (K:PySem.W.Frag)(H:Hp)(a:Addr)(xs:List V):Prop:=H a=some (.tup xs)\/∀ b,SqT K b a xs
theorem MvAt.tups {K:PySem.W.Frag}{H H':Hp}(t:Tups H H'){a:Addr}{xs:List V}(h:MvAt K H a xs):MvAt K H' a xs:=h.imp (t _ _) id
theorem MvAt.sq {K:PySem.W.Frag}{H:Hp}{a:Addr}{xs:List V}(h:MvAt K H a xs):SqT K H a xs:=h.elim SqT.of λz=>z H
structure Way (K:PySem.W.Frag) (H:Hp) (mv f:Addr) (L:Lam) (fr:List Str) (lsp:LSpc) (cl:List (Str × Addr)) (vals:List V) (step:KN->Nat->Option KN) (Ok:KN->Prop) (moves:List Nat) (n:Nat):Prop where
 mv:MvAt K H mv (moves.map λm=>V.int (m:Nat))
 fr:cl.map (·.1)=fr
 la:LamAt H f L cl vals
 ld:Led lsp vals step Ok moves H
 lt:∀ m∈moves,m<n
 ok:∀ s m t,Ok s->m∈moves->step s m=some t->Ok t
 n1:n<=1000
end L2
namespace L2
open PySem PySem.Spec PyProof.Rows Own Bn
def Bits (ts:List Int):Prop:=∀ t∈ts,t=0\/t=1
def stK (ts is:List Int):KN:=.inr ts::is.map Sum.inl
def KeysAt (H:Hp)(bs:List Addr)(ks:List KN):Prop:=Paired (λb k=>NKey H k b) bs ks
theorem KeysAt.tups {H H':Hp}(t:Tups H H'){bs:List Addr}{ks:List KN}(h:KeysAt H bs ks):KeysAt H' bs ks:=rd (λ_ _ z=>z.tups t) h
theorem KeysAt.mem {H:Hp}{bs:List Addr}{ks:List KN}(h:KeysAt H bs ks):∀ b∈bs,∃ k∈ks,NKey H k b:=by
 induction h with
 | nil=>intro b a;cases a
 | cons q _ ih =>
  intro b a;rcases Ji.mp a with rfl|z
  ·exact⟨_,.head _,q⟩
  ·obtain⟨k,c,e⟩:=ih b z
   exact⟨k,.tail _ c,e⟩
end L2
namespace L2
open PySem PySem.Spec PyProof.Rows Own
theorem nU (p:KN × Addr × V)(xs:KVN)(k:KN):yt (p::xs) k=if p.1=k then some p.2.2 else yt xs k:=by
 unfold yt;rw[List.find?_cons];by_cases z:p.1=k
 ·rw[Jw z,JE z];rfl
 ·rw[Jj z,Jv z]
theorem n4 (xs:KVN)(k:KN)(b:Addr)(v:V):(xh xs k b v).map (·.1)=if (yt xs k).isSome then xs.map (·.1) else xs.map (·.1)++[k]:=by
 unfold xh;by_cases z:(yt xs k).isSome=true
 ·rw[JE z,JE z,Z6]
  refine Z5 λy _=>?_;show (if y.1=k then (y.1,y.2.1,v) else y).1=y.1;split<;>rfl
 ·rw[Jv z,Jv z,JB];rfl
theorem yc {xs:KVN}{k:KN}:(yt xs k).isSome=true↔k∈xs.map (·.1):=by
 induction xs with
 | nil=>exact⟨λh=>(nomatch h),λh=>(nomatch h)⟩
 | cons p xs ih =>
  rw[nU,Y0,Ji];by_cases z:p.1=k
  ·rw[JE z];exact⟨λ_=>.inl z.symm,λ_=>rfl⟩
  ·rw[Jv z,ih]
   exact⟨.inr,λh=>h.elim (λq=>absurd q.symm z) id⟩
theorem KsIn.put {H:Hp}{xs:KVN}{k:KN}{b:Addr}{v:V}(h:KsIn H xs)(d:NKey H k b):KsIn H (xh xs k b v):=by
 intro x a;unfold xh at a;split at a
 ·obtain⟨y,c,rfl⟩:=JD.mp a
  split
  ·exact h y c
  ·exact h y c
 ·rcases Jr.mp a with z|z
  ·exact h x z
  ·rw[Jd.mp z];exact d
end L2
namespace L2
open PySem PySem.Spec PyProof.Rows Own Bn
inductive PlO:HO->Prop
 | tup (xs:List V):PlO (.tup xs)
 | lst (xs:List V):PlO (.lst xs)
 | dK:PlO (.dK [])
def KpN (H H':Hp):Prop:=∀ b o,H b=some o->PlO o->H' b=some o
theorem KpN.same {H H':Hp}(s:Same H H'):KpN H H':=λb o e _=>s b o e
theorem KpN.trans {H c a:Hp}(x:KpN H c)(y:KpN c a):KpN H a:=λb o e n=>y b o (x b o e n) n
theorem KpN.but {P:Addr}{q:Array Value}{H H':Hp}(b:But P H H')(a:H P=some (.tbl q)):KpN H H':=λc o e n=>b c o e (xi e a λz=>by subst z;cases n)
theorem KpN.strip {H:Hp}{cl:List (Str × Addr)}(fz:CellsFz cl H):KpN H (strip cl H):=λb o e n=>by
 rw[yE]
 ·exact e
 ·intro a
  obtain⟨u,q⟩:=fz b a;rw[e]at q;cases q;cases n
theorem KpN.tups {H H':Hp}(k:KpN H H'):Tups H H':=λb a e=>k b _ e (.tup a)
instance memN (k:KN) (ks:List KN):Decidable (k∈ks):=decidable_of_iff (ks.any (λx=>decide (x=k))=true) (by simp)
def ddN (ks:List KN)(k:KN):List KN:=if k∈ks then ks else ks++[k]
def ddL (ss:List KN):List KN:=ss.foldl ddN []
theorem qb (ss:List KN)(s:KN):ddL (ss++[s])=ddN (ddL ss) s:=by unfold ddL;rw[List.foldl_append];rfl
theorem nK (ss:List KN):(∀ x,x∈ddL ss↔x∈ss)/\(ddL ss).length<=ss.length/\((ddL ss).length=ss.length↔ss.Nodup):=by
 rcases List.eq_nil_or_concat ss with rfl|⟨ss,s,rfl⟩
 ·exact⟨λx=>Iff.rfl,Jb _,⟨λ_=>YG,λ_=>rfl⟩⟩
 ·rw[List.concat_eq_append]
  obtain⟨b,k,j⟩:=nK ss;rw[qb]
  have f:(ss++[s]).Nodup↔ss.Nodup/\s∉ss:=by
   rw[List.nodup_append];constructor
   ·rintro⟨a,_,c⟩
    exact⟨a,λz=>c s z s (.head _) rfl⟩
   ·rintro⟨a,c⟩
    exact⟨a,JT.mpr ⟨JA,YG⟩,λx i y g e=>c (by rw[<- Jd.mp g,<- e];exact i)⟩
  unfold ddN;by_cases c:s∈ddL ss
  ·rw[JE c]
   have d:=(b s).mp c;refine⟨λx=>?_,by rw[J9];show _<=_+1;lia,?_⟩
   ·rw[b,Jr,Jd]
    exact⟨.inl,λz=>z.elim id λy=>y ▸ d⟩
   ·rw[f,J9]
    exact⟨λz=>by have:(ddL ss).length=ss.length+1:=z;lia,λz=>absurd d z.2⟩
  ·rw[Jv c]
   have d:s∉ss:=λz=>c ((b s).mpr z);refine⟨λx=>?_,by rw[J9,J9];show _+1<=_+1;lia,?_⟩
   ·rw[Jr,Jr,b]
   ·rw[f,J9,J9,<- j]
    exact⟨λz=>⟨by have:(ddL ss).length+1=ss.length+1:=z;lia,d⟩,λz=>by rw[z.1]⟩
termination_by ss.length
decreasing_by rename_i h;rw[h,List.length_concat];exact Nat.lt_succ_self _
def xS (a:V->Option KN)(xs:List V)(k0:KN)(moves:List Nat)(step:KN->Nat->Option KN):Bool:=match xs.mapM a with
 | none=>false
 | some ss=>(decide ss.Nodup && decide (k0∈ss)) && ss.all λs=>moves.all λm=>match step s m with|none=>false|some t=>decide (t∈ss)
theorem xR {a:V->Option KN}{xs:List V}{k0:KN}{moves:List Nat}{step:KN->Nat->Option KN}(h:xs.mapM a=none):xS a xs k0 moves step=false:=by
 unfold xS;rw[h]
theorem y7 {a:V->Option KN}{xs:List V}{ss:List KN}{k0:KN}{moves:List Nat}{step:KN->Nat->Option KN}(h:xs.mapM a=some ss):xS a xs k0 moves step=((decide ss.Nodup && decide (k0∈ss)) && ss.all λs=>moves.all λm=>match step s m with|none=>false|some t=>decide (t∈ss)):=by
 unfold xS;rw[h]
theorem tO {α β:Type}{f:α->Option β}{xs:List α}:xs.mapM f=none↔∃ x∈xs,f x=none:=by
 induction xs with
 | nil=>simp
 | cons x xs ih =>
  rw[List.mapM_cons]
  cases e:f x with
  | none=>exact⟨λ_=>⟨x,.head _,e⟩,λ_=>rfl⟩
  | some y =>
   cases g:xs.mapM f with
   | none =>
    obtain⟨z,a,q⟩:=ih.mp g
    exact⟨λ_=>⟨z,.tail _ a,q⟩,λ_=>rfl⟩
   | some b =>
    refine⟨λz=>(by cases z),λ⟨z,a,q⟩=>?_⟩;rcases Ji.mp a with rfl|w
    ·rw[e]at q;cases q
    ·rw[ih.mpr ⟨z,w,q⟩]at g;cases g
theorem y3 {α β:Type}{f:α->Option β}:∀ {xs:List α}{ys:List β},xs.mapM f=some ys->xs.length=ys.length/\∀ (i:Nat) x,xs[i]?=some x->∃ y,ys[i]?=some y/\f x=some y
 | [],ys,h=>by
  rw[List.mapM_nil]at h;cases h
  exact⟨rfl,λi x e=>by cases e⟩
 | x::xs,ys,h=>by
  rw[List.mapM_cons]at h
  cases e:f x with
  | none=>rw[e]at h;cases h
  | some y =>
   rw[e]at h
   cases g:xs.mapM f with
   | none=>rw[g]at h;cases h
   | some zs =>
    rw[g]at h;cases h;obtain⟨c,b⟩:=y3 g;refine⟨JH (· + 1) c,λi u a=>?_⟩
    cases i with
    | zero=>cases a;exact⟨y,rfl,e⟩
    | succ i=>exact b i u a
section
variable {K:PySem.W.Frag}{a:Addr}{xs:List V}{g g1:TG}{wi1:TI}{tt:TT}{te tk tv:TE}{l:Addr}{σ:St}{H:Hp}{Q:VK}
theorem ii (c:Nat->List V->St->Hp->Prop)(z:c 0 [] σ H)(w:∀ i acc σ H,c i acc σ H->H l=some (.lst acc)/\SqT K H a xs)(v:∀ i acc σ H x,xs[i]?=some x->c i acc σ H->g x σ H λb q=>wi1 b q λn o =>
   ∃ d:Nat->Nat->List V->St->Hp->Prop,(∃ k,d 0 k acc b o)/\LCW1 n g1 tt te l (λac h G=>Nx xs.length i (c (i+1) ac h G)) d)(hd:∀ acc σ H,c xs.length acc σ H->Q (.ref l) H):∃ W:Nat->Nat->List V->St->Hp->Prop,(∃ m,W 0 m [] σ H) /\
   ∀ i m acc f H',W i m acc f H'->H' l=some (.lst acc)/\(((Itt K a).stop i H'/\Q (.ref l) H')\/((Itt K a).go i H'/\∀ x r,(Itt K a).yld i H' x r->g x f r λb q=>wi1 b q λn o =>
    ∃ d:Nat->Nat->List V->St->Hp->Prop,(∃ k,d 0 k acc b o)/\LCW1 n g1 tt te l (λac h G=>∃ t,t<m/\W (i+1) t ac h G) d)):=by
 refine⟨λi m acc σ H=>m=xs.length-i/\i<=xs.length/\c i acc σ H,⟨xs.length,by simp,JL _,z⟩,?_⟩;rintro i m acc σ H ⟨rfl,hi,p⟩;obtain⟨u,j⟩:=w i acc σ H p;refine⟨u,?_⟩;by_cases s:i<xs.length
 ·refine .inr ⟨⟨xs,xs[i],j,Ja s⟩,λx r ⟨e,y⟩=>?_⟩
  subst e;exact v i acc σ _ x (y xs j) p
 ·obtain rfl:i=xs.length:=by lia
  exact .inl ⟨⟨xs,j,Jb _⟩,hd acc σ H p⟩
theorem eK {P:Program}{w:World}(d:Nat->KVN->St->Hp->Prop)(q:d 0 [] σ H)(o:∀ i acc σ H,d i acc σ H->SqT K H a xs)(n:∀ i x acc σ H,xs[i]?=some x->d i acc σ H->g x σ H λc s=>tk c s λy r=>tv c r λv f=>∃ b k,y=.ref b/\f l=some (DN P w l acc)/\KsIn f acc/\NKey f k b/\acc.length<sizeLine/\Nx xs.length i (d (i+1) (xh acc k b v) c (upd f l (DN P w l (xh acc k b v)))))(hd:∀ acc σ H,d xs.length acc σ H->Q (.ref l) H):∃ W:Nat->Nat->KVN->St->Hp->Prop,(∃ m,W 0 m [] σ H)/\DCW P w (Itt K a) g tk tv l Q W:=by
 refine⟨λi m acc σ H=>m=xs.length-i/\i<=xs.length/\d i acc σ H,⟨_,rfl,JL _,q⟩,?_⟩;rintro i m acc σ H ⟨rfl,hi,p⟩;have h:=o i acc σ H p;by_cases j:i<xs.length
 ·refine .inr ⟨⟨xs,xs[i],h,Ja j⟩,λx t ⟨e,y⟩=>?_⟩
  subst e;exact n i x acc σ _ (y xs h) p
 ·obtain rfl:i=xs.length:=by lia
  exact .inl ⟨⟨xs,h,Jb _⟩,hd acc σ H p⟩
end
def uI (P:Program)(w:World)(K:PySem.W.Frag)(q:Lam)(i:List Str)(g:LSpc)(L:Lam)(fr:List Str)(lsp:LSpc):Sp:=λp H Q _=>∃ x fs k mv f e a j moves cl vals step Ok n c,
 p=[x,.ref fs,.ref k,.ref mv,.ref f]/\e.map (·.1)=i/\LamAt H fs q e a/\NKey H j k/\Way K H mv f L fr lsp cl vals step Ok moves n/\moves.length<=16/\AnyT K H x /\
 (∀ d,zc H x=some d->d.length<=500000/\∀ y∈d,(∀ h (l:VK),KpN H h->(∀ m,Same h m->l (.bl (c y).isSome) m)->g a [y] h l E0)/\∀ s,c y=some s->Ok s/\∃ b,y=.ref b/\NKey H s b) /\
 ∀ o,Same H o->Q (.bl (match zc H x with|none=>false|some d=>xS c d j moves step)) o
end L2
namespace L2
open PySem PySem.Spec PyProof.Rows Own
theorem md {P:Program}{w:World}{K:PySem.W.Frag}{mg mb:Str->Option Value}{CX:CXT}{k:Nat}{W a:Addr}{fd:FuncData}{x:Str}{sp:Sp}{f:Shared}{vs:List Value}{ns:List Int}(ts:List Addr)
  (X:K.In f.heap) (L:f.heap.Ns mainGlobals mg) (g:f.heap.Ns builtinsNs mb) (ab:∀ x:Str,x≠"__name__"->mb x=bootBuiltins x) (R:f.heap.NoLimit) (hg:f.gens = #[])
  (ha:f.heap.get? a=some { cls:=.type "list",data:=.seq vs.toArray }) (hi:IntsAre vs ns) (hl:ns.length<=sizeLine) (hr:Room k callerA)
  (C:∀ p∈ts,f.heap.get? p=some (PySem.W.tabObj #[])/\K.lookup p=none/\∃ c,PySem.W.codeHdIn K c p=true)
  (aa:∃ bm ob,mg "__builtins__" = some (.ref bm)/\bm≠builtinsNs/\f.heap.get? bm=some ob/\ob.cls=.type "module"/\ob.dict=some builtinsNs/\ob.data=.plain)
  (F:∀ base:Heap,K.In base->base.Ns mainGlobals mg->(∀ p∈ts,base.BuiltinsAt mg p)->FnOk P w K mg base CX k W fd [x] sp) (M:∀ (s:Shared) (u:Value),BindsTo s fd ⟨[u],[]⟩ [(x,u)])
  (Z:∀ H:Hp,SqL K H a (ns.map V.int)->(∀ p∈ts,H p=some (.tbl #[]))->sp [.ref a] H (λv _=>v=.bl true) λ_ _ _=>False)
  (ad:∀ H e j,CX [] H f (λ_ _ _=>False) e j->False) :
  codeAny (model P w) callerA (.call (.ref W) ⟨[.ref a],[]⟩) (λr j=>r=.ok (.ret (.bool true))/\OldK f.heap j.heap/\j.os=f.os/\AllBare j.gens) f:=by
 have rv:=uv hi;have Q:=hi.length
 have aT:a∉ts:=λh=>by
  have:=(C a h).1;rw[ha]at this;cases this
 have core:∀ H:Hp,(∀ b,H b=none\/(b=a/\∃ o T,H b=some (.frz o (.lst T)))\/(b∈ts/\H b=some (.tbl #[])))->(∀ p∈ts,H p=some (.tbl #[]))->SqL K H a (ns.map V.int)->HOk P w H f.heap->(H a≠none->K.lookup a=none) ->
   codeAny (model P w) callerA (.call (.ref W) ⟨[.ref a],[]⟩) (λr j=>r=.ok (.ret (.bool true))/\OldK f.heap j.heap/\j.os=f.os/\AllBare j.gens) f:=by
  intro H S hT hS N hK;have i:∀ {b:Addr}{o:Obj},f.heap.get? b=some o->H b=none->(uk f.heap H).get? b=some o:=λe n=>jh e n
  have Y:∀ {b:Addr}{o:Obj}{E:Array DictEntry}{G:Nat},f.heap.get? b=some o->o.data=.dict E G->H b=none:=λ{b o E G} e d=>by
   rcases S b with z|⟨z,_⟩|⟨z,_⟩
   ·exact z
   ·rw[z,ha]at e
    cases e;cases (show Data.seq vs.toArray _=Data.dict E G from d)
   ·rw[(C b z).1]at e
    cases e;cases (show Data.fields #[]=Data.dict E G from d)
  have t:∀ {b:Addr}{m:Str->Option Value},f.heap.Ns b m->(uk f.heap H).Ns b m:=λ{b m} ⟨o,E,G,e,d,r⟩=>⟨o,E,G,i e (Y e d),d,r⟩
  have O:K.In (uk f.heap H):=λb o e=>i (X b o e) (by
   rcases S b with z|⟨z,y⟩|⟨z,_⟩
   ·exact z
   ·obtain⟨o',T,q⟩:=y
    rw[z]at e q;rw[hK (by rw[q];simp)]at e;cases e
   ·rw[(C b z).2.1]at e;cases e)
  have hM:Mod K mg (uk f.heap H):=⟨O,t L,⟨mb,t g,ab⟩,let ⟨mc,h1,h2⟩:=R;⟨mc,t h1,h2⟩⟩;have e0:Env0 P w K mg (uk f.heap H) callerA [] f H:=⟨rfl,hM,λb o e=>iX e,Nat.le_of_eq (mr _ _),trivial,λb g=>absurd (show b∈([]:List Addr) from g) (by simp),N,.of_eq hg⟩
  have hB:∀ p∈ts,(uk f.heap H).BuiltinsAt mg p:=λp D=>by
   obtain⟨bm,ob,b1,b2,J,b4,b5,A⟩:=aa;refine⟨bm,ob,b1,b2,λz=>?_,λz=>?_,i J ?_,b4,b5,A⟩
   ·obtain⟨og,E,G,e,d,_⟩:=L
    rw[<- z,J]at e;rw[<- Jn e,A]at d;cases d
   ·have e:=(C p D).1
    rw[<- z,J]at e;rw[Jn e]at A;cases A
   ·rcases S bm with z|⟨z,_⟩|⟨z,_⟩
    ·exact z
    ·rw[z,ha]at J
     rw[<- Jn J]at A;cases A
    ·rw[(C bm z).1]at J
     rw[<- Jn J]at A;cases A
  refine YJ ((F _ O (t L) hB).run callerA [] f H ⟨[.ref a],[]⟩ [.ref a] [.ref a] _ _ hr e0 (M f (.ref a)) (.cons rfl .nil) (Z H hS hT)) λr j h=>?_
  cases r with
  | error e=>exact(ad H e j h).elim
  | ok fl =>
   cases fl with
   | next=>exact False.elim h
   | brk=>exact False.elim h
   | cont=>exact False.elim h
   | ret u =>
    obtain⟨v,H',os,bare,un,B,r',q⟩:=h;have q':v=.bl true:=q;subst q';obtain rfl:u=Value.bool true:=r'
    have kept:∀ b o,f.heap.get? b=some o->b∉ts->j.heap.get? b=some o:=λb o e nb=>by
     rcases S b with z|⟨_,ob,T,z⟩|⟨z,_⟩
     ·exact un.keep b o e z (λy=>absurd (show b∈([]:List Addr) from y) (by simp)) (by simp)
     ·have z2:=un.frzs b ob _ z
      obtain⟨e1,_⟩:=N b _ z;obtain⟨e2,_⟩:=B b _ z2;rw[e]at e1;cases e1;exact e2
     ·exact absurd z nb
    have tabs:∀ b∈ts,∃ more,j.heap.get? b=some (PySem.W.tabObj (#[]++more)):=λb g=>by
     obtain⟨more,z⟩:=un.tbls b _ (hT b g);exact⟨more,B b _ z⟩
    refine⟨rfl,⟨λb o e=>?_,λb o e=>un.there b o e (by simp)⟩,os,bare⟩;by_cases g:b∈ts
    ·obtain⟨t1,_,c,t3⟩:=C b g
     rw[t1]at e;cases e;obtain⟨o2,ws,_,_,_,_,_,_,_,g1,g2,g3,g4,_⟩:=PySem.W.codeHd_of_K X t3;obtain⟨more,z⟩:=tabs b g;exact .inr (.inl ⟨⟨c,o2,ws,g1,g2,g3,g4⟩,rfl,#[],more,rfl,z⟩)
    ·exact .inl (kept b o e g)
 have tab:∀ {H:Hp}{p:Addr},p∈ts->ObjOk P w H f.heap p (.tbl #[]):=λD=>(C _ D).1
 cases U:K.lookup a with
 | some o =>
  have e:=X a o U;rw[ha]at e;cases e;refine core (λb=>if b∈ts then some (.tbl #[]) else none) (λb=>?_) (λp D=>JE D) (.inr ⟨_,vs.toArray,_,U,rfl,rfl,rfl,by rw[Je,Q];exact hl,by simpa using rv⟩) (λb u z=>?_) λz=>absurd (Jv aT) z
  ·by_cases g:b∈ts
   ·exact .inr (.inr ⟨g,JE g⟩)
   ·exact .inl (Jv g)
  ·by_cases g:b∈ts
   ·have l:=(JE g).symm.trans z
    cases l;exact tab g
   ·have l:=(Jv g).symm.trans z
    cases l
 | none =>
  refine core (λb=>if b∈ts then some (.tbl #[]) else if b=a then some (.frz { cls:=.type "list",data:=.seq vs.toArray } (.lst (ns.map V.int))) else none) (λb=>?_) (λp D=>JE D) (.inl (.inr ⟨{ cls:=.type "list",data:=.seq vs.toArray },(Jv aT).trans (JE rfl)⟩)) (λb u z=>?_) λ_=>U
  ·by_cases g:b∈ts
   ·exact .inr (.inr ⟨g,JE g⟩)
   ·by_cases I:b=a
    ·exact .inr (.inl ⟨I,_,_,(Jv g).trans (JE I)⟩)
    ·exact .inl ((Jv g).trans (Jv I))
  ·by_cases g:b∈ts
   ·have l:=(JE g).symm.trans z
    cases l;exact tab g
   ·by_cases I:b=a
    ·have l:=((Jv g).trans (JE I)).symm.trans z
     cases l;subst I;exact⟨ha,by rw[Jc];exact hl,vs,_,rv,ha⟩
    ·have l:=((Jv g).trans (Jv I)).symm.trans z
     cases l
theorem lZ {l:PySem.W.OpenLaw}{n k:Nat}{q:Program}{loose:List Str}{R:(Str->Option Value)->Heap->Prop}{C:World->Heap->Prop}{d:DefRec}{K:Params->PySem.W.Frag}{CX:CXT}{sp:PySem.W.Frag->Sp}{x:Str}(ts:List Addr)(hn:l.most=some n)(t:n<=sizeLine)(z:d.params.defaults=[])(J:Room k callerA)(N:∀ (w:World) (h:Heap),C w h->(K w.params).In h/\∀ p∈ts,h.get? p=some (PySem.W.tabObj #[]))(F:∀ (w:World) (mg:Str->Option Value) (i:Addr) (h:Heap),(K w.params).In h->h.Ns mainGlobals mg->mg d.name=some (.ref i)->(∀ p∈ts,(K w.params).lookup p=none/\∃ c,PySem.W.codeHdIn (K w.params) c p=true) /\
   ∃ fd:FuncData,(∀ (s:Shared) (u:Value),BindsTo s fd ⟨[u],[]⟩ [(x,u)]) /\
    ∀ base:Heap,(K w.params).In base->base.Ns mainGlobals mg->(∀ p∈ts,base.BuiltinsAt mg p)->FnOk l.prog w (K w.params) mg base CX k i fd [x] (sp (K w.params)))(r:∀ (K:PySem.W.Frag) (H:Hp) (a:Addr) (ns:List Int),ns.length<=n->SqL K H a (ns.map V.int)->(∀ p∈ts,H p=some (.tbl #[]))->sp K [.ref a] H (λv _=>v=.bl true) λ_ _ _=>False)(A:∀ (H:Hp) (s:Shared) (e:Value) (j:Shared),CX [] H s (λ_ _ _=>False) e j->False) :
  PySem.W.WalkO q loose R C l.row.toRowW d [] (λf vs=>PySem.call f vs):=by
 refine Att.attach_call hn z λw E b mg T i o pm cd doc a vs ns G Y U W S y g hints hlen L=>?_;obtain⟨D,I⟩:=N w _ Y;obtain⟨B,fd,M,Q⟩:=F w mg i _ D G.T.g y;exact md ts D G.T.g G.T.b G.T.builtins G.T.nolimit L g hints (Jz hlen t) J (λp m=>⟨I p m,(B p m).1,(B p m).2⟩) G.T.bmain Q M (λH P O=>r (K w.params) H a ns hlen P O) λH e j=>A H b e j
structure FunC (K:PySem.W.Frag) (x qual:Str) (st:Stmt) (f:Addr) (fd:FuncData) (c:Addr):Prop where
 ex:∃ (oc:Value) (od:Option Addr) (kV doc pm:Value) (an:Option Addr) (ct:Value) (osl:Array (Option Value)),
  fd=PySem.W.fnOf x qual (xG st) (yb st) (zN st) .none kV doc pm an (.ref c) ct/\K.lookup f=some ⟨oc,od,.func fd,osl⟩/\PySem.W.codeIn K (.ref c) qual=true
 kp:PySem.W.keepIn K (.ref f)=true
theorem FunC.ok {P:Program}{w:World}{K:PySem.W.Frag}{mg:Str->Option Value}{base:Heap}{x qual:Str}{st:Stmt}{f c:Addr}{fd:FuncData}{N ps:List Str}{k:Nat}{sp:Sp}(F:FunC K x qual st f fd c)(S:FnScope N ps (zN st))(len:∀ vs H Q E,sp vs H Q E->vs.length=ps.length)(a:∀ (A:Around) (outer:List Env) (s:Shared) (H:Hp) (vs:List V) (Q:VK) (E:XK),Room k (A.deeper (envOfC qual (zN st) s.heap.objs.size f (.ref c)))->sp vs H Q E ->
   ∃ t,PSs (qc CX0 P w K mg base N qual (zN st) f (.ref c) A outer s H E).nox (yb st) t/\t { nx:=λ_ i=>Q .non i,rt:=Q } (wZ N vs) H):FnOk P w K mg base CX0 (k+1) f fd ps sp:=by
 obtain⟨m,l,kV,doc,pm,an,n,j,rfl,e,d⟩:=F.ex;refine gJ e d S len λA outer s H vs Q E g b=>?_;obtain⟨t,h,q⟩:=a A outer s H vs Q E g b;exact⟨t,h.nox,q⟩
end L2
namespace L2
open PySem PySem.Spec PyProof.Rows Own Bn
def x5 (N:Nt)(ts:List Int)(lane:Nat):List Int:=(yS false N.forks ts lane N.forks.length).1
def passE (N:Nt)(ts:List Int)(lane:Nat):Nat:=N.ends.idxOf (yS false N.forks ts lane N.forks.length).2
def dZ (N:Nt):KN->Nat->Option KN
 | [.inr ts,.inl r],m=>if ((passE N ts m:Nat):Int)=r then some (stK (x5 N ts m) [(r+1)%(N.lanes:Nat)]) else none
 | _,_=>none
theorem mD (N:Nt)(ts:List Int)(lane:Nat):(x5 N ts lane).length=ts.length:=wP _
theorem pY {N:Nt}{ts:List Int}{lane:Nat}(h:Bits ts):Bits (x5 N ts lane):=xp h _
def TabQ (q:Str)(Pt:Addr)(H:Hp):Prop:=∃ l,H Pt=some (.tbl (triples l).toArray)/\TabOk H q l
theorem TabQ.keep {q:Str}{Pt:Addr}{H H':Hp}(t:TabQ q Pt H)(k:∀ b o,H b=some o->(∃ ps,o=.tbl ps)\/(∃ u v,o=.frz u v)->H' b=some o):TabQ q Pt H':=by
 obtain⟨l,c,a⟩:=t;exact⟨l,k _ _ c (.inl ⟨_,rfl⟩),a.frz λb o u e=>k _ _ e (.inr ⟨_,_,rfl⟩)⟩
theorem TabQ.same {q:Str}{Pt:Addr}{H H':Hp}(t:TabQ q Pt H)(s:Same H H'):TabQ q Pt H':=t.keep λb o e _=>s b o e
theorem TabQ.but {q:Str}{Pt l:Addr}{H H':Hp}{xs:List V}(t:TabQ q Pt H)(b:But l H H')(h:H l=some (.lst xs)):TabQ q Pt H':=t.keep λc o e z=>b c o e λy=>by
 rw[y,h]at e;cases e;rcases z with ⟨_,z⟩|⟨_,_,z⟩<;>cases z
def uJ:Sp:=λb H Q _=>∃ r fr d c N,b=[.ref r]/\Nt.Ok N/\NetAt H r fr d c N/\∀ p a,Same H a->a p=some (.tup ((List.replicate N.forks.length (0:Int)).map V.int))->Q (.ref p) a
def An (H:Hp)(x:V):Prop:=Flat x\/∃ a,x=.ref a/\((∃ b,H a=some (.tup b))\/(∃ b,H a=some (.lst b))\/H a=some (.dK []))
theorem An.any {K:PySem.W.Frag}{H:Hp}{x:V}(h:An H x):AnyT K H x:=by
 rcases h with h|⟨a,rfl,⟨b,h⟩|⟨b,h⟩|h⟩
 ·exact(Good.flat (D:=λ_=>True) h).any
 ·exact⟨_,.tup h,_,rfl⟩
 ·exact⟨_,.lst h,_,rfl⟩
 ·exact⟨_,.dK h,_,rfl⟩
theorem An.kp {H H':Hp}{x:V}(k:KpN H H')(h:An H x):An H' x:=by
 rcases h with h|⟨a,e,⟨b,h⟩|⟨b,h⟩|h⟩
 ·exact .inl h
 ·exact .inr ⟨a,e,.inl ⟨b,k _ _ h (.tup _)⟩⟩
 ·exact .inr ⟨a,e,.inr (.inl ⟨b,k _ _ h (.lst _)⟩)⟩
 ·exact .inr ⟨a,e,.inr (.inr (k _ _ h .dK))⟩
theorem An.row {H H':Hp}{x:V}(k:KpN H H')(h:An H x):zc H' x=zc H x:=by
 rcases h with h|⟨a,e,⟨c,h⟩|⟨c,h⟩|h⟩
 ·cases x<;>first|rfl|exact h.elim
 ·subst e;rw[yU h,yU (k _ _ h (.tup _))]
 ·subst e
  have b:=k _ _ h (.lst _);simp only[zc,h,b]
 ·subst e
  have b:=k _ _ h .dK;simp only[zc,h,b]
def Dp (H:Hp):Nat->V->Prop
 | 0,x=>An H x
 | n+1,x=>An H x/\∀ xs,zc H x=some xs->xs.length<=1000/\∀ y∈xs,Dp H n y
theorem Dp.an {H:Hp}:∀ {n:Nat}{x:V},Dp H n x->An H x
 | 0,_,h=>h
 | _+1,_,h=>h.1
theorem Dp.deep {K:PySem.W.Frag}{H:Hp}:∀ {n:Nat}{x:V},Dp H n x->Deep K H n x
 | 0,_,h=>h.any
 | _+1,_,h=>⟨h.1.any,λxs e=>⟨(h.2 xs e).1,λy a=>((h.2 xs e).2 y a).deep⟩⟩
theorem Dp.kp {H H':Hp}(k:KpN H H'):∀ {n:Nat}{x:V},Dp H n x->Dp H' n x
 | 0,_,h=>An.kp k h
 | _+1,_,h=>⟨h.1.kp k,λxs e=>by
  rw[h.1.row k]at e
  exact⟨(h.2 xs e).1,λy a=>((h.2 xs e).2 y a).kp k⟩⟩
def vF (xs:List Int):Int:=(xs.min?).getD 0
def uj (xs:List Int):Int:=(xs.max?).getD 0
theorem vE {xs:List Int}{m:Int}(h:m∈xs)(l:∀ x∈xs,m<=x):vF xs=m:=by
 unfold vF;rw[List.min?_eq_some_iff.mpr ⟨h,l⟩];rfl
theorem o0 {xs:List Int}{m:Int}(h:m∈xs)(l:∀ x∈xs,x<=m):uj xs=m:=by
 unfold uj;rw[List.max?_eq_some_iff.mpr ⟨h,l⟩];rfl
theorem vn {xs:List Int}(h:xs≠[]):vF xs∈xs/\∀ x∈xs,vF xs<=x:=by
 cases e:xs.min? with
 | none=>rw[List.min?_eq_none_iff]at e;exact absurd e h
 | some m =>
  obtain⟨a,b⟩:=List.min?_eq_some_iff.mp e;rw[vE a b];exact⟨a,b⟩
theorem oz {xs:List Int}(h:xs≠[]):uj xs∈xs/\∀ x∈xs,x<=uj xs:=by
 cases e:xs.max? with
 | none=>rw[List.max?_eq_none_iff]at e;exact absurd e h
 | some m =>
  obtain⟨a,b⟩:=List.max?_eq_some_iff.mp e;rw[o0 a b];exact⟨a,b⟩
def vS (a:List Int):List Int:=a.map λh=>h-vF a
theorem jb (a:List Int):(vS a).length=a.length:=Jc _
theorem o6 {c:List Int}(h:c≠[]):(∀ x∈vS c,0<=x)/\0∈vS c:=by
 obtain⟨a,b⟩:=vn h;refine⟨λx d=>?_,JD.mpr ⟨_,a,by lia⟩⟩;obtain⟨u,e,rfl⟩:=JD.mp d;have:=b u e;lia
def plK (ts a:List Int):KN:=[.inr ts,.inr a]
theorem oa {H:Hp}{ts a:List Int}{b:Addr}(h:NKey H (plK ts a) b):∃ t u,H b=some (.tup [.ref t,.ref u])/\H t=some (.tup (ts.map V.int))/\H u=some (.tup (a.map V.int)):=by
 obtain⟨k,f,v,r,e,⟨t,j,d⟩,l,m,e2,⟨u,i,c⟩,g⟩:=h;subst j i g e2 e;exact⟨t,u,f,d,c⟩
theorem wd {H:Hp}{ts a:List Int}{b t u:Addr}(e:H b=some (.tup [.ref t,.ref u]))(d:H t=some (.tup (ts.map V.int)))(c:H u=some (.tup (a.map V.int))):NKey H (plK ts a) b :=
 ⟨_,e,_,_,rfl,⟨t,rfl,d⟩,_,_,rfl,⟨u,rfl,c⟩,rfl⟩
def xg (N:Nt):KN->Nat->Option KN
 | [.inr ts,.inr a],m=>some (plK (x5 N ts m) (vS (yZ a (passE N ts m) 1)))
 | _,_=>none
theorem x9 (N:Nt)(ts a:List Int)(m:Nat):xg N (plK ts a) m=some (plK (x5 N ts m) (vS (yZ a (passE N ts m) 1))):=rfl
def OkR (N:Nt)(k:KN):Prop:=∃ b a,k=plK b a/\b.length=N.forks.length/\Bits b/\a.length=N.lanes/\(∀ h∈a,0<=h)/\0∈a
theorem tL {N:Nt}(ok:Nt.Ok N):OkR N (plK (List.replicate N.forks.length 0) (List.replicate N.lanes 0)) :=
 ⟨_,_,rfl,List.length_replicate,λt a=>.inl (Ze a),List.length_replicate,λh b=>by rw[Ze b];exact Int.le_refl _,List.mem_replicate.mpr ⟨by have:=ok.l1;lia,rfl⟩⟩
theorem rN {N:Nt}(ok:Nt.Ok N){s t:KN}{m:Nat}(h:OkR N s)(e:xg N s m=some t):OkR N t:=by
 obtain⟨a,b,rfl,f,d,c,j,i⟩:=h;rw[x9]at e;cases e;have g:=ok.l1
 have ne:yZ b (passE N a m) 1≠[]:=λz=>by
  have:=JH List.length z;rw[yn,Yp]at this;lia
 exact⟨_,_,rfl,(mD _ _ _).trans f,pY d,by rw[jb,yn];exact c,(o6 ne).1,(o6 ne).2⟩
def vL:Sp:=λb H Q _=>∃ r fr d c N,b=[.ref r]/\Nt.Ok N/\NetAt H r fr d c N/\∀ p a,Same H a->NKey a (plK (List.replicate N.forks.length 0) (List.replicate N.lanes 0)) p->Q (.ref p) a
def ww:Sp:=λe H Q _=>∃ r fr g f N b k,∃ a:Nat,e=[.ref r,.ref b,.int (a:Nat)]/\Nt.Ok N/\NetAt H r fr g f N/\NKey H k b/\OkR N k/\a<N.lanes /\
 ∀ c d t,Same H c->xg N k a=some t->NKey c t d->Q (.ref d) c
def wH:LSpc:=λvals c H Q E=>∃ r b,∃ a:Nat,vals=[.ref r]/\c=[.ref b,.int (a:Nat)]/\ww [.ref r,.ref b,.int (a:Nat)] H Q E
theorem mY {H:Hp}{r fr er:Addr}{ps:List V}{N:Nt}{moves:List Nat}(ok:Nt.Ok N)(na:NetAt H r fr er ps N)(lt:∀ m∈moves,m<N.lanes):Led wH [.ref r] (xg N) (OkR N) moves H:=λe s b m Q t os c d _ a =>
 ⟨r,b,m,rfl,rfl,r,fr,er,ps,N,b,s,m,rfl,ok,na.tups t,d,os,lt m c,a⟩
def yY (xs:List V):List Int:=xs.filterMap λx=>match x with|.int i=>some i|_=>none
theorem xj {xs:List V}(h:∀ x∈xs,tu x=true):xs=(yY xs).map V.int:=by
 induction xs with
 | nil=>rfl
 | cons x xs ih =>
  have e:=h x (.head _)
  cases x with
  | int i=>show V.int i::xs=V.int i::(yY xs).map V.int;rw[<- ih λy a=>h y (.tail _ a)]
  | _=>cases e
def wW (H:Hp)(x:V):List Int:=yY ((zc H x).getD [])
def yV (H:Hp)(many:Int)(x:V):Bool:=match zc H x with
 | some a=>decide ((a.length:Int)=many) && a.all (yr 0)
 | none=>false
def y4 (H:Hp)(nf lanes far:Int)(x:V):Bool:=match zc H x with
 | some [t,h]=>yF H nf 2 t && (yV H lanes h && (decide (vF (wW H h)=0) && decide (uj (wW H h)<=far)))
 | _=>false
theorem y9 {x:V}{b:Int}(h:yr b x=true):tu x=true:=by
 cases x with
 | int i=>rfl
 | _=>cases h
theorem rD {x:V}{b:Int}(h:xT b x=true):tu x=true:=by
 cases x with
 | int i=>rfl
 | _=>cases h
def stR (H:Hp)(nf lanes far:Int)(x:V):Option KN:=if y4 H nf lanes far x=true then match zc H x with
 | some [t,h]=>some (plK (wW H t) (wW H h))
 | _=>none else none
theorem kD (H:Hp)(nf lanes far:Int)(x:V):(stR H nf lanes far x).isSome=y4 H nf lanes far x:=by
 unfold stR;by_cases c:y4 H nf lanes far x=true
 ·rw[JE c,c]
  unfold y4 at c;split at c
  ·rfl
  ·cases c
 ·rw[Jv c,show y4 H nf lanes far x=false by simpa using c];rfl
theorem vw {H:Hp}{N:Nt}{far:Int}{x:V}{s:KN}(l1:1<=N.lanes)(h:stR H (N.forks.length:Nat) (N.lanes:Nat) far x=some s):OkR N s/\∃ b,x=.ref b/\NKey H s b:=by
 unfold stR at h;split at h
 ·rename_i c
  unfold y4 at c;split at c
  ·rename_i t u e
   rw[e]at h;cases h;obtain⟨b,rfl,D⟩:=zw e;obtain⟨f,a⟩:=(JU _ _).mp c;obtain⟨a,d⟩:=(JU _ _).mp a;obtain⟨d,K⟩:=(JU _ _).mp d;unfold yF at f;unfold yV at a;split at f
   ·rename_i g o
    split at a
    ·rename_i k e2
     obtain⟨F,v⟩:=(JU _ _).mp f;obtain⟨E,r⟩:=(JU _ _).mp a;have m:=xj λy j=>rD (JV.mp v y j);have l:=xj λy j=>y9 (JV.mp r y j);obtain⟨t,rfl,C⟩:=zw o;obtain⟨u,rfl,B⟩:=zw e2;have w:wW H (.ref t)=yY g:=by unfold wW;rw[o];rfl
     have n:wW H (.ref u)=yY k:=by unfold wW;rw[e2];rfl
     rw[w,n];rw[n]at d;have J:(yY g).length=g.length:=by have:=JH List.length m;rw[Jc]at this;exact this.symm
     have A:(yY k).length=k.length:=by have:=JH List.length l;rw[Jc]at this;exact this.symm
     have I:=Y3 F;have G:=Y3 E;refine⟨⟨_,_,rfl,by lia,λi hi=>?_,by lia,λi hi=>?_,?_⟩,b,rfl,wd D (by rw[<- m];exact C) (by rw[<- l];exact B)⟩
     ·have:=JV.mp v (.int i) (by rw[m];exact JD.mpr ⟨i,hi,rfl⟩)
      obtain⟨p,q⟩:=(JU _ _).mp (show (decide (0<=i) && decide (i<2))=true from this);have p:=Y3 p;have q:=Y3 q;lia
     ·have:=JV.mp r (.int i) (by rw[l];exact JD.mpr ⟨i,hi,rfl⟩)
      exact Y3 (show decide (0<=i)=true from this)
     ·rw[<- Y3 d]
      exact(vn λz=>by rw[z,Yp]at A;lia).1
    ·cases a
   ·cases f
  ·cases c
 ·cases h
theorem vP {H H':Hp}{x:V}{n:Nat}(k:KpN H H')(d:Dp H n x):zc H' x=zc H x:=d.an.row k
theorem ic {H H':Hp}{nf lanes far:Int}{x:V}(k:KpN H H')(d:Dp H 2 x):y4 H' nf lanes far x=y4 H nf lanes far x:=by
 unfold y4;rw[vP k d];split
 ·rename_i t h e
  have a:=(d.2 _ e).2 t (.head _);have b:=(d.2 _ e).2 h (.tail _ (.head _));unfold yF yV wW;rw[vP k a,vP k b]
 ·rfl
def vk (K:PySem.W.Frag):Sp:=λc H Q _=>∃ r fr e d N,∃ a:Int,∃ x,c=[.ref r,.int a,x]/\Nt.Ok N/\NetAt H r fr e d N/\Deep K H 2 x/\∀ b,Same H b->Q (.bl (y4 H (N.forks.length:Nat) (N.lanes:Nat) a x)) b
def uE (K:PySem.W.Frag)(q:Str)(Pt:Addr):Sp:=λd H Q _=>∃ r fr f e N sm,∃ moves:List Nat,∃ b:Int,∃ x,d=[.ref r,.ref sm,.int b,x]/\Nt.Ok N/\NetAt H r fr f e N/\H sm=some (.tup (zW moves))/\(∀ m∈moves,m<N.lanes)/\moves.length<=16 /\
 An H x/\(∀ a,zc H x=some a->a.length<=500000/\∀ y∈a,Dp H 2 y)/\TabQ q Pt H /\
 ∀ c,But Pt H c->TabQ q Pt c->Q (.bl (match zc H x with|none=>false|some a=>xS (stR H (N.forks.length:Nat) (N.lanes:Nat) b) a (plK (List.replicate N.forks.length 0) (List.replicate N.lanes 0)) moves (xg N))) c
end L2
namespace K46
open PySem L2 Own Bn
abbrev vO:Stmt:=top 4
abbrev pM:Stmt:=top 5
def sI (K:PySem.W.Frag):Sp:=λc H Q _=>∃ x,∃ many b:Int,c=[x,.int many,.int b]/\Deep K H 1 x/\∀ a,Same H a->Q (.bl (yF H many b x)) a
def sE (K:PySem.W.Frag):Sp:=λb H Q _=>∃ x,∃ many:Int,b=[x,.int many]/\Deep K H 1 x/\∀ a,Same H a->Q (.bl (yV H many x)) a
theorem ju {K:PySem.W.Frag}{H H':Hp}(s:Same H H'):∀ {n:Nat}{x:V},Deep K H n x->Deep K H' n x
 | 0,_,h=>AnyT.same s h
 | n+1,x,h=>⟨AnyT.same s h.1,λxs e=>by
  rw[rY s h.1]at e
  exact⟨(h.2 xs e).1,λy a=>ju s ((h.2 xs e).2 y a)⟩⟩
section
variable {P:Program}{w:World}{K:PySem.W.Frag}{mg:Str->Option Value}{base:Heap}
theorem bL:FnScope ["thing","many","bound"] ["thing","many","bound"] (zN vO):=by trivial
theorem qA {f L M:Addr}{fd N O:FuncData}(F:Fun K "are_below" "are_below" vO f fd) (G:Mgs mg) (m:Use P w K mg base "is_row" ["thing","many"] 1 (wx K) L N) (n:Use P w K mg base "is_below" ["thing","bound"] 2 (sH K) M O):FnOk P w K mg base CX0 3 f fd ["thing","many","bound"] (sI K):=by
 refine F.ok bL (λJ H Q E h=>?_) (λR A outer s H J Q E B h=>?_)
 ·obtain⟨x,many,b,rfl,_⟩:=h
  rfl
 obtain⟨x,many,b,rfl,r,k⟩:=h;have t:Room 1 _:=B.mono (by decide);refine⟨_,(@zH _ _ _ (@zU _ _ _ _ (@xX _ _ _ _ _ _ _ (@zK _ _ _ _ _ _ _ _ _ _ _ _ _ _ _ _ m.ok t (by rfl) m.m m.kp m.b .nil zS (@zA _ _ _ _ _ (@qv _ 0 _ _ (by trivial)) (@zA _ _ _ _ _ (@qv _ 1 _ _ (by trivial)) zB (by rfl)) (by rfl)) (by decide) (by rfl) (by rfl)) (@wF _ _ _ _ _ (@zL _ _ _ _ _ _ _ _ _ (xJ rfl true) (by rfl) G.all (by rfl) (@zA _ _ _ _ _ (@wc _ _ _ _ none _ _ _ _ _ _ ["number","bound"] [none,some 2] rfl (@yg _ _ _ _ (@qv _ 0 _ _ (by trivial))) (CapOk.of (by kernel_rfl)) (λ_ _ _ _ _=>(@zM _ _ 0 _ (show (["number","bound"]:List Str).Nodup from by decide +kernel) rfl (.inl rfl) (.inr rfl))) (λ_ _ _ _ _=>yj) (λ_ _ _ _ _=>(@zK _ _ _ _ _ _ _ _ _ _ _ _ _ _ _ _ n.ok B (by rfl) n.m n.kp n.b .nil zS (@zA _ _ _ _ _ (@qv _ 0 _ _ (by trivial)) (@zA _ _ _ _ _ (@qv _ 1 _ _ (by trivial)) zB (by rfl)) (by rfl)) (by decide) (by rfl) (by rfl))) (by intro _;rfl)) zB (by rfl)) (by decide) (by decide) (by rfl) (by rfl)))))),?_⟩;refine⟨_,rfl,_,rfl,x,many,rfl,r.any,_,rfl,?_⟩
 cases z:zc H x with
 | none =>
  have e:wD H many x=false:=by unfold wD;rw[z]
  have e2:yF H many b x=false:=by unfold yF;rw[z]
  rw[e];rw[e2]at k
  exact zr (k H (Same.refl H))
 | some xs =>
  have e:wD H many x=decide ((xs.length:Int)=many):=by unfold wD;rw[z]
  have e2:yF H many b x=(decide ((xs.length:Int)=many) && xs.all (xT b)):=by unfold yF;rw[z]
  rw[e];rw[e2]at k;obtain⟨a,rfl,D⟩:=zw z;by_cases lm:(xs.length:Int)=many
  ·rw[Jw lm]at k ⊢
   refine zz ⟨_,rfl,a,rfl,⟨_,SqT.of D⟩,λl C=>?_⟩;refine xy (K:=K) (a:=a) (xs:=xs) (λi acc σ d=>(∃ v,σ=[v,some (.int b)])/\Same H d/\d l=some (.lst acc)/\acc=((xs.take i).map (xT b)).map V.bl) ⟨⟨_,rfl⟩,zC C _,zE,rfl⟩ (λi acc σ d q=>⟨q.2.2.1,SqT.of (q.2.1 _ _ D)⟩) ?_ ?_
   ·rintro i y acc σ d p ⟨⟨v,rfl⟩,g,j,rfl⟩
    have u:=(J8.mp p).1;refine⟨_,rfl,_,rfl,y,b,rfl,AnyT.same g (((r.2 xs z).2 y (Jq p))),?_⟩;refine⟨j,?_,nx u ⟨⟨_,rfl⟩,λc o e=>?_,zE,?_⟩⟩
    ·rw[Jc,Jc,Jh];exact Z9 (Nat.min_le_left _ _) (Jx (show i<1000 by have:=(r.2 xs z).1;lia) (by decide))
    ·rw[zJ (zG e C)];exact g c o e
    ·have I:xs[i]=y:=(J8.mp p).2
     rw[JQ u,JB,JB,I];rfl
   ·rintro acc σ d ⟨⟨v,rfl⟩,g,j,rfl⟩
    rw[JR]at j;refine⟨l,xs.map (xT b),rfl,SqL.of j,?_⟩;rw[List.all_map];exact k d g
  ·rw[Jj lm]at k ⊢
   exact zr (k H (Same.refl H))
theorem bJ:FnScope ["thing","many"] ["thing","many"] (zN pM):=by trivial
theorem jR {f J I:Addr}{fd M L:FuncData}(F:Fun K "are_from_nought" "are_from_nought" pM f fd) (G:Mgs mg) (n:Use P w K mg base "is_row" ["thing","many"] 1 (wx K) J M) (m:Use P w K mg base "is_whole" ["thing"] 1 (vg K) I L):FnOk P w K mg base CX0 2 f fd ["thing","many"] (sE K):=by
 refine F.ok bJ (λD H Q E h=>?_) (λN A outer s H D Q E u h=>?_)
 ·obtain⟨x,many,rfl,_⟩:=h
  rfl
 obtain⟨x,many,rfl,r,k⟩:=h;refine⟨_,(@zH _ _ _ (@zU _ _ _ _ (@xX _ _ _ _ _ _ _ (@zK _ _ _ _ _ _ _ _ _ _ _ _ _ _ _ _ n.ok u (by rfl) n.m n.kp n.b .nil zS (@zA _ _ _ _ _ (@qv _ 0 _ _ (by trivial)) (@zA _ _ _ _ _ (@qv _ 1 _ _ (by trivial)) zB (by rfl)) (by rfl)) (by decide) (by rfl) (by rfl)) (@wF _ _ _ _ _ (@zL _ _ _ _ _ _ _ _ _ (xJ rfl true) (by rfl) G.all (by rfl) (@zA _ _ _ _ _ (@wc _ _ _ _ none _ _ _ _ _ _ ["number"] [none] rfl (@yg _ _ _ _ (@qv _ 0 _ _ (by trivial))) (CapOk.of (by kernel_rfl)) (λ_ _ _ _ _=>(@zM _ _ 0 _ (show (["number"]:List Str).Nodup from by decide +kernel) rfl (.inl rfl) (.inr rfl))) (λ_ _ _ _ _=>yj) (λ_ _ _ _ _=>(@xX _ _ _ _ _ _ _ (@zK _ _ _ _ _ _ _ _ _ _ _ _ _ _ _ _ m.ok u (by rfl) m.m m.kp m.b .nil zS (@zA _ _ _ _ _ (@qv _ 0 _ _ (by trivial)) zB (by rfl)) (by decide) (by rfl) (by rfl)) (@wF _ _ _ _ _ (@y8 _ _ _ _ _ _ _ _ gH (@qv _ 0 _ _ (by trivial)) zD (zt _))))) (by intro _;rfl)) zB (by rfl)) (by decide) (by decide) (by rfl) (by rfl)))))),?_⟩;refine⟨_,rfl,_,rfl,x,many,rfl,r.any,_,rfl,?_⟩
 cases z:zc H x with
 | none =>
  have e:wD H many x=false:=by unfold wD;rw[z]
  have e2:yV H many x=false:=by unfold yV;rw[z]
  rw[e];rw[e2]at k
  exact zr (k H (Same.refl H))
 | some xs =>
  have e:wD H many x=decide ((xs.length:Int)=many):=by unfold wD;rw[z]
  have e2:yV H many x=(decide ((xs.length:Int)=many) && xs.all (yr 0)):=by unfold yV;rw[z]
  rw[e];rw[e2]at k;obtain⟨a,rfl,C⟩:=zw z;by_cases lm:(xs.length:Int)=many
  ·rw[Jw lm]at k ⊢
   refine zz ⟨_,rfl,a,rfl,⟨_,SqT.of C⟩,λl B=>?_⟩;refine xy (K:=K) (a:=a) (xs:=xs) (λi acc σ d=>(∃ v,σ=[v])/\Same H d/\d l=some (.lst acc)/\acc=((xs.take i).map (yr 0)).map V.bl) ⟨⟨_,rfl⟩,zC B _,zE,rfl⟩ (λi acc σ d q=>⟨q.2.2.1,SqT.of (q.2.1 _ _ C)⟩) ?_ ?_
   ·rintro i y acc σ d p ⟨⟨v,rfl⟩,g,j,rfl⟩
    have t:=(J8.mp p).1
    have fin:d l=some (.lst (((xs.take i).map (yr 0)).map V.bl))/\(((xs.take i).map (yr 0)).map V.bl).length<sizeLine/\Nx xs.length i ((∃ v,[some y]=[v])/\Same H (L2.upd d l (.lst (((xs.take i).map (yr 0)).map V.bl++[V.bl (yr 0 y)])))/\L2.upd d l (.lst (((xs.take i).map (yr 0)).map V.bl++[V.bl (yr 0 y)])) l=some (.lst (((xs.take i).map (yr 0)).map V.bl++[V.bl (yr 0 y)]))/\((xs.take i).map (yr 0)).map V.bl++[V.bl (yr 0 y)]=((xs.take (i+1)).map (yr 0)).map V.bl):=by
     refine⟨j,?_,nx t ⟨⟨_,rfl⟩,λc o e=>?_,zE,?_⟩⟩
     ·rw[Jc,Jc,Jh];exact Z9 (Nat.min_le_left _ _) (Jx (show i<1000 by have:=(r.2 xs z).1;lia) (by decide))
     ·rw[zJ (zG e B)];exact g c o e
     ·rw[JQ t,JB,JB,(J8.mp p).2];rfl
    refine⟨_,rfl,_,rfl,AnyT.same g ((r.2 xs z).2 y (Jq p)),_,rfl,?_⟩
    cases y with
    | int O=>exact zz ⟨_,rfl,_,_,rfl,rfl,fin⟩
    | bl b=>exact zr fin
    | non=>exact zr fin
    | str b=>exact zr fin
    | flt b=>exact zr fin
    | byt b=>exact zr fin
    | ref b=>exact zr fin
    | ty b=>exact zr fin
   ·rintro acc σ d ⟨⟨v,rfl⟩,g,j,rfl⟩
    rw[JR]at j;refine⟨l,xs.map (yr 0),rfl,SqL.of j,?_⟩;rw[List.all_map];exact k d g
  ·rw[Jj lm]at k ⊢
   exact zr (k H (Same.refl H))
abbrev pL:Stmt:=top 9
abbrev pQ:Stmt:=top 10
def sD:Sp:=λd H Q _=>∃ a b,∃ (place:Nat) (v:Int),d=[.ref a,.int place,.int v]/\H a=some (.tup (List.map V.int b))/\place<b.length/\b.length<=1000/\∀ p c,Same H c->c p=some (.tup ((b.set place v).map V.int))->Q (.ref p) c
def sK:Sp:=λd H Q _=>∃ a b,∃ (place:Nat) (v:Int),d=[.ref a,.int place,.int v]/\H a=some (.tup (List.map V.int b))/\place<b.length/\b.length<=1000/\∀ p c,Same H c->c p=some (.tup ((b.set place (b.getD place 0+v)).map V.int))->Q (.ref p) c
theorem bG:FnScope ["row","place","value"] ["row","place","value"] (zN pL):=by trivial
theorem jQ {f:Addr}{fd:FuncData}(F:Fun K "given_at" "given_at" pL f fd) (G:Mgs mg):FnOk P w K mg base CX0 1 f fd ["row","place","value"] sD:=by
 refine F.ok bG (λl H Q E h=>?_) (λB A outer s H l Q E I h=>?_)
 ·obtain⟨a,b,place,v,rfl,_⟩:=h
  rfl
 obtain⟨a,b,place,v,rfl,g,pl,C,k⟩:=h;refine⟨_,(@zH _ _ _ (@zU _ _ _ _ (@zP _ _ _ _ _ _ _ _ yO (@zP _ _ _ _ _ _ _ _ yO (@zu _ _ _ _ _ _ _ _ _ _ yK (@qv _ 0 _ _ (by trivial)) yB (@zk _ _ _ (@qv _ 1 _ _ (by trivial)))) (@zV _ _ _ _ _ (@zA _ _ _ _ _ (@qv _ 2 _ _ (by trivial)) zB (by rfl)))) (@zu _ _ _ _ _ _ _ _ _ _ yK (@qv _ 0 _ _ (by trivial)) (@zk _ _ _ (@zP _ _ _ _ _ _ _ _ yI (@qv _ 1 _ _ (by trivial)) zD)) yB)))),?_⟩;have D:(b.map V.int).length=b.length:=Jc _;refine⟨_,rfl,_,rfl,_,rfl,a,_,rfl,g,λu M o j=>?_⟩;rw[wL _ place (by lia)]at j;refine⟨_,rfl,(by show 1<=sizeLine;decide),λt c=>?_⟩;have e:=zC c (.tup [.int v]);refine⟨u,t,_,_,rfl,rfl,e _ _ j,zE,?_,λr L n y=>?_⟩
 ·rw[Jh,Js];show _+1<=_;lia
 have u3:=(o.trans e).trans n;refine⟨_,rfl,_,rfl,_,_,rfl,rfl,_,rfl,a,_,rfl,u3 _ _ g,λq J d i=>?_⟩;rw[show ((place:Int)+1)=((place+1:Nat):Int) from rfl,ud _ (place+1) (by lia)]at i;refine⟨r,q,_,_,rfl,rfl,d _ _ y,i,?_,λp z m x=>?_⟩
 ·rw[J9,Jh,JW,Js];show _+1+_<=_;lia
 exact k p z ((u3.trans d).trans m) (by rw[x,oX b place v pl])
theorem bK:FnScope ["counts","place","many"] ["counts","place","many"] (zN pQ):=by trivial
theorem jV {f j:Addr}{fd l:FuncData}(F:Fun K "added" "added" pQ f fd) (G:Mgs mg) (b:Use P w K mg base "given_at" ["row","place","value"] 1 sD j l):FnOk P w K mg base CX0 2 f fd ["counts","place","many"] sK:=by
 refine F.ok bK (λg H Q E h=>?_) (λm A outer s H g Q E i h=>?_)
 ·obtain⟨a,c,place,v,rfl,_⟩:=h
  rfl
 obtain⟨a,c,place,v,rfl,d,pl,e,k⟩:=h;refine⟨_,(@zH _ _ _ (@zU _ _ _ _ (@zK _ _ _ _ _ _ _ _ _ _ _ _ _ _ _ _ b.ok i (by rfl) b.m b.kp b.b .nil zS (@zA _ _ _ _ _ (@qv _ 0 _ _ (by trivial)) (@zA _ _ _ _ _ (@qv _ 1 _ _ (by trivial)) (@zA _ _ _ _ _ (@zP _ _ _ _ _ _ _ _ yI (@zX _ _ _ _ _ _ _ zv (@qv _ 0 _ _ (by trivial)) (@qv _ 1 _ _ (by trivial)) (λ_ _=>rfl)) (@qv _ 2 _ _ (by trivial))) zB (by rfl)) (by rfl)) (by rfl)) (by decide) (by rfl) (by rfl)))),?_⟩;exact⟨_,rfl,_,rfl,_,rfl,_,rfl,a,_,_,_,rfl,rfl,SqT.of d,x4 pl,_,rfl,_,_,rfl,rfl,a,c,place,_,rfl,d,pl,e,k⟩
abbrev gp:Stmt:=top 7
abbrev sQ:Stmt:=top 15
abbrev gc:Stmt:=top 16
theorem jg (h a b:Nat):inV (V.int h) [V.int a,V.int b]=decide (h=a\/h=b):=by
 rw[JZ,decide_eq_true_iff];simp[inV,eqV];lia
theorem scD:FnScope ["net","lane"] ["net","lane"] (zN gp):=by trivial
theorem fY {f:Addr}{fd:FuncData}(F:Fun K "end_of" "end_of" gp f fd):FnOk P w K mg base CX0 1 f fd ["net","lane"] kH:=by
 refine F.ok scD (λd H Q E h=>?_) (λj A outer s H d Q E g h=>?_)
 ·obtain⟨r,fr,c,e,N,a,rfl,_⟩:=h
  rfl
 obtain⟨r,fr,c,e,N,a,rfl,ok,na,i,k⟩:=h;refine⟨_,(@zH _ _ _ (@zU _ _ _ _ (@oi _ _ _ _ _ _ _ g.units (@zX _ _ _ _ _ _ _ zv (@qv _ 0 _ _ (by trivial)) zD (λ_ _=>rfl)) (@zA _ _ _ _ _ (@qv _ 1 _ _ (by trivial)) zB (by rfl)) (by rfl) (by rfl) (by rfl) (by rfl)))),?_⟩;have b:=na.ends;rw[qB]at b;refine⟨_,rfl,r,_,_,_,rfl,rfl,SqT.of na.net,rfl,c,_,rfl,b,_,rfl,(a:Int),rfl,b,?_,?_⟩
 ·exact JD.mpr ⟨a,ok.en.mem_iff.mpr (Y8.mpr i),rfl⟩
 ·rw[uZ];exact k
theorem scR:FnScope ["net","turns","lane","back","behind","here","number","fork","turn"] ["net","turns","lane","back"] (zN gc):=by trivial
theorem fH {f fD:Addr}{fd dD:FuncData}(F:Fun K "run_through" "run_through" gc f fd) (G:Mgs mg) (M:Use P w K mg base "end_of" ["net","lane"] 1 kH fD dD):FnOk P w K mg base CX0 2 f fd ["net","turns","lane","back"] kF:=by
 refine F.ok scR (λvs H Q E h=>?_) (λaa A outer s H vs Q E hr h=>?_)
 ·obtain⟨us,back,rfl,r,fr,er,J,N,D,ts,lane,rfl,_⟩:=h
  rfl
 obtain⟨us,back,rfl,r,fr,er,J,N,D,ts,lane,rfl,ok,na,S,tl,bits,hl,k⟩:=h;refine⟨_,(@zF _ _ _ _ _ (@zZ _ _ 4 _ _ _ _ scR.nd rfl (.inl rfl) (@zY _ _ _ _ _ _ _ _ _ yP (by rfl) G.list (by rfl) (@zA _ _ _ _ _ (@qv _ 1 _ _ (by trivial)) zB (by rfl)) (by decide) (by decide) (by rfl) (by rfl)) (by rfl) (by trivial)) (@zF _ _ _ _ _ (@zZ _ _ 5 _ _ _ _ scR.nd rfl (.inl rfl) (@qv _ 2 _ _ (by trivial)) (by rfl) (by trivial)) (@zF _ _ _ _ _ (@yd _ _ _ _ _ _ _ _ JN rfl (@oh _ _ _ _ _ _ _ _ false rfl G.enum (@zA _ _ _ _ _ (@zX _ _ _ _ _ _ _ zv (@qv _ 0 _ _ (by trivial)) zD (λ_ _=>rfl)) zB (by rfl)) (by rfl)) (@yL _ _ _ _ _ _ rfl (@zQ _ _ _ _ _ (@zM _ _ 6 _ scR.nd rfl (.inl rfl) (by trivial)) (@zQ _ _ _ _ _ (@zM _ _ 7 _ scR.nd rfl (.inl rfl) (by trivial)) yC (by rfl)) (by rfl)) (by rfl) (by rfl)) (@zH _ _ _ (@yH _ _ _ _ _ _ _ _ (@zp _ _ _ _ _ _ _ _ tJ (@qv _ 5 _ _ (by trivial)) (@qv _ 7 _ _ (by trivial)) (by rfl)) (@zF _ _ _ _ _ (@zZ _ _ 8 _ _ _ _ scR.nd rfl (.inl rfl) (@zX _ _ _ _ _ _ _ zd (@qv _ 4 _ _ (by trivial)) (@qv _ 6 _ _ (by trivial)) (λ_ _=>rfl)) (by rfl) (by trivial)) (@zF _ _ _ _ _ (@yN _ _ _ _ _ _ (@zP _ _ _ _ _ _ _ _ xY zD (@qv _ 8 _ _ (by trivial))) (@xv _ _ _ _ _ _ _ (@qv _ 4 _ _ (by trivial)) (@qv _ 6 _ _ (by trivial)) yu (by intro _;rfl)) (by rfl) (by rfl) (by rfl)) (@zH _ _ _ (@zZ _ _ 5 _ _ _ _ scR.nd rfl (.inl rfl) (@zX _ _ _ _ _ _ _ zv (@qv _ 7 _ _ (by trivial)) (@uQ _ _ _ _ _ _ _ _ (@yp _ _ _ (@qv _ 3 _ _ (by trivial)) (by intro _;rfl)) (@zP _ _ _ _ _ _ _ _ xY zD (@qv _ 8 _ _ (by trivial))) (@qv _ 8 _ _ (by trivial))) (λ_ _=>rfl)) (by rfl) (by trivial))))) zq)) (by intro _;rfl)) (@zH _ _ _ (@zU _ _ _ _ (@zV _ _ _ _ _ (@zA _ _ _ _ _ (@zY _ _ _ _ _ _ _ _ _ zi (by rfl) G.tuple (by rfl) (@zA _ _ _ _ _ (@qv _ 4 _ _ (by trivial)) zB (by rfl)) (by decide) (by decide) (by rfl) (by rfl)) (@zA _ _ _ _ _ (@zK _ _ _ _ _ _ _ _ _ _ _ _ _ _ _ _ M.ok hr (by rfl) M.m M.kp M.b .nil zS (@zA _ _ _ _ _ (@qv _ 0 _ _ (by trivial)) (@zA _ _ _ _ _ (@qv _ 5 _ _ (by trivial)) zB (by rfl)) (by rfl)) (by decide) (by rfl) (by rfl)) zB (by rfl)) (by rfl)))))))),?_⟩;refine⟨_,rfl,D,_,rfl,.inr (SqT.of S),λd I=>⟨_,rfl,?_⟩⟩;have O:=zC I (.lst (ts.map V.int));refine⟨_,rfl,r,_,_,_,rfl,rfl,SqT.of (O _ _ na.net),rfl,fr,J,rfl,SqT.of (O _ _ na.forks),?_⟩
 refine qW (K:=K) (b:=false) (a:=fr) (xs:=J) (λi σ m=>(∃ C B y,σ=[some (.ref r),some (.ref D),some (.int lane),some (.bl back),some (.ref d),some (.int (yS back N.forks ts lane i).2),C,B,y])/\Same H m/\m d=some (.lst ((yS back N.forks ts lane i).1.map V.int)))
  ⟨⟨_,_,_,rfl⟩,O,zE⟩ (λi σ m _ q=>SqT.of (q.2.1 _ _ na.forks)) ?_ ?_
 ·rintro i x σ m T hx Z ⟨⟨C,B,y,rfl⟩,v,n⟩
  obtain⟨a,g,rfl,eg,L⟩:=(na.prs.tups (Tups.of v)).get hx;have gi:i<N.forks.length:=(J8.mp eg).1;have gd:N.forks.getD i (0,0)=g:=by rw[Jm,eg];rfl
  have rs:yS back N.forks ts lane (i+1)=yG back (yS back N.forks ts lane i) i g:=by show yG _ _ _ _=_;rw[gd]
  have rl:=wP (back:=back) (fs:=N.forks) (ts:=ts) (lane:=lane) i;have rb:=xp (back:=back) (fs:=N.forks) (lane:=lane) bits i;generalize yS back N.forks ts lane i=st at *;have u:=zC Z (.tup [.int i,.ref a]);have lT:d≠T:=zG n Z;refine⟨T,_,rfl,SqT.of zE,rfl,_,_,rfl,_,_,rfl,rfl,?_⟩;refine⟨_,rfl,_,rfl,a,_,rfl,.inr (SqT.of (u _ _ L)),rfl,rfl,_,rfl,?_⟩;show if (if false=true then !inV (V.int (st.2:Nat)) [V.int (g.1:Nat),V.int (g.2:Nat)] else inV (V.int (st.2:Nat)) [V.int (g.1:Nat),V.int (g.2:Nat)])=true then _ else _;rw[Jv Jf,jg];by_cases on:st.2=g.1\/st.2=g.2
  ·rw[Jw on]
   refine zz ?_;have c:yG back st i g=(st.1.set i (1-st.1.getD i 0),if (if back then 1-st.1.getD i 0 else st.1.getD i 0)=0 then g.1 else g.2):=by unfold yG;rw[JE on]
   have R:i<st.1.length:=by lia
   have U:=rb _ (L2.wJ R);have Y:=u _ _ n;refine⟨_,rfl,_,rfl,d,_,_,_,rfl,rfl,SqL.of Y,x4 R,?_⟩;refine⟨_,rfl,_,_,rfl,rfl,_,rfl,_,rfl,d,_,_,i,rfl,rfl,Y,uW (by rw[Jc];exact R),?_⟩
   have l:upd (upd m T (.tup [.int i,.ref a])) d (.lst ((st.1.map V.int).set i (.int (1-st.1.getD i 0)))) a=some (.tup [.int g.1,.int g.2]):=by
    rw[zJ (by rintro rfl;rw[n]at L;cases L)];exact u _ _ L
   have fin:∀ nx:Nat,nx=(yG back st i g).2->(∃ C B y,([some (.ref r),some (.ref D),some (.int lane),some (.bl back),some (.ref d),some (.int nx),some (.int i),some (.ref a),some (.int (st.1.getD i 0))]:List (Option V))=[some (.ref r),some (.ref D),some (.int lane),some (.bl back),some (.ref d),some (.int (yS back N.forks ts lane (i+1)).2),C,B,y]) /\
     Same H (upd (upd m T (.tup [.int i,.ref a])) d (.lst ((st.1.map V.int).set i (.int (1-st.1.getD i 0)))))/\upd (upd m T (.tup [.int i,.ref a])) d (.lst ((st.1.map V.int).set i (.int (1-st.1.getD i 0)))) d=some (.lst ((yS back N.forks ts lane (i+1)).1.map V.int)):=λnx en=>by
    refine⟨⟨_,_,_,by rw[rs,en]⟩,λb o e=>?_,?_⟩
    ·rw[zJ (zG e I)];exact u _ _ (v b o e)
    ·rw[zE,rs,c,vA]
   cases back with
   | false =>
    rcases U with z|z
    ·exact⟨_,rfl,_,rfl,_,rfl,zr ⟨_,rfl,a,_,_,_,rfl,rfl,SqT.of l,by rw[z];exact zx (j:=0) rfl,fin g.1 (by rw[c,z];rfl)⟩⟩
    ·exact⟨_,rfl,_,rfl,_,rfl,zr ⟨_,rfl,a,_,_,_,rfl,rfl,SqT.of l,by rw[z];exact zx (j:=1) rfl,fin g.2 (by rw[c,z];rfl)⟩⟩
   | true =>
    rcases U with z|z
    ·exact⟨_,rfl,_,rfl,_,rfl,zz ⟨_,rfl,_,_,rfl,rfl,a,_,_,_,rfl,rfl,SqT.of l,by rw[z];exact zx (j:=1) rfl,fin g.2 (by rw[c,z];rfl)⟩⟩
    ·exact⟨_,rfl,_,rfl,_,rfl,zz ⟨_,rfl,_,_,rfl,rfl,a,_,_,_,rfl,rfl,SqT.of l,by rw[z];exact zx (j:=0) rfl,fin g.1 (by rw[c,z];rfl)⟩⟩
  ·rw[Jj on]
   have c:yG back st i g=st:=by unfold yG;rw[Jv on]
   exact zr ⟨⟨_,_,_,by rw[rs,c];rfl⟩,v.trans u,by rw[rs,c];exact u _ _ n⟩
 ·rintro σ m ⟨⟨C,B,y,rfl⟩,v,n⟩
  have pl:=na.prs.len;rw[pl]at n;have hh:=xN (back:=back) (ts:=ts) ok.fk hl N.forks.length (Jb _);refine⟨_,rfl,d,_,rfl,.inl ⟨SqL.of n,λt ht=>?_⟩⟩;have W:=zC ht (.tup ((yS back N.forks ts lane N.forks.length).1.map V.int));refine⟨_,rfl,_,rfl,r,fr,er,J,N,_,by rw[pl];rfl,ok,na.tups (Tups.of (v.trans W)),hh,(by show 2<=sizeLine;decide),λp X=>?_⟩;exact k p t _ ((v.trans W).trans (zC X _)) zE (zC X _ _ _ zE)
theorem scP:FnScope ["net","turns","lane"] ["net","turns","lane"] (zN sQ):=by trivial
theorem mK {f k:Addr}{fd l:FuncData}(F:Fun K "passed" "passed" sQ f fd) (b:Use P w K mg base "run_through" ["net","turns","lane","back"] 2 kF k l):FnOk P w K mg base CX0 3 f fd ["net","turns","lane"] (wj false):=by
 refine F.ok scP (λi H Q E h=>?_) (λm A outer s H i Q E j h=>?_)
 ·obtain⟨r,fr,g,e,N,c,d,a,rfl,_⟩:=h
  rfl
 obtain⟨r,fr,g,e,N,c,d,a,rfl,q⟩:=h;refine⟨_,(@zH _ _ _ (@zU _ _ _ _ (@zK _ _ _ _ _ _ _ _ _ _ _ _ _ _ _ _ b.ok j (by rfl) b.m b.kp b.b .nil zS (@zA _ _ _ _ _ (@qv _ 0 _ _ (by trivial)) (@zA _ _ _ _ _ (@qv _ 1 _ _ (by trivial)) (@zA _ _ _ _ _ (@qv _ 2 _ _ (by trivial)) (@zA _ _ _ _ _ yo zB (by rfl)) (by rfl)) (by rfl)) (by rfl)) (by decide) (by rfl) (by rfl)))),?_⟩;exact⟨_,rfl,_,rfl,_,rfl,[.ref r,.ref c,.int a],false,rfl,r,fr,g,e,N,c,d,a,rfl,q⟩
abbrev sS:Stmt:=top 12
abbrev uM:Stmt:=top 18
abbrev sP:Stmt:=top 19
abbrev pK:Stmt:=top 22
theorem qM (n:Nat):List.replicate n (V.int 0)=(List.replicate n (0:Int)).map V.int:=(YC).symm
theorem bH:FnScope ["net"] ["net"] (zN sS):=by trivial
theorem mO {f:Addr}{fd:FuncData}(F:Fun K "first_turns" "first_turns" sS f fd) (G:Mgs mg):FnOk P w K mg base CX0 1 f fd ["net"] uJ:=by
 refine F.ok bH (λc H Q E h=>?_) (λl A outer s H c Q E m h=>?_)
 ·obtain⟨r,fr,i,b,N,rfl,_⟩:=h
  rfl
 obtain⟨r,fr,i,b,N,rfl,ok,na,k⟩:=h;refine⟨_,(@zH _ _ _ (@zU _ _ _ _ (@zP _ _ _ _ _ _ _ _ xV (@zV _ _ _ _ _ (@zA _ _ _ _ _ zD zB (by rfl))) (@zL _ _ _ _ _ _ _ _ _ zR (by rfl) G.len Jy (@zA _ _ _ _ _ (@zX _ _ _ _ _ _ _ zv (@qv _ 0 _ _ (by trivial)) zD (λ_ _=>rfl)) zB (by rfl)) (by decide) (by decide) (by rfl) (by rfl))))),?_⟩;refine⟨by show 1<=sizeLine;decide,λt e=>?_⟩;have a:=zC e (.tup [.int 0]);have pl:=na.prs.len;have n:=ok.fm;refine⟨_,rfl,r,_,_,_,rfl,rfl,SqT.of (a _ _ na.net),rfl,fr,b,rfl,.inr (SqT.of (a _ _ na.forks)),t,_,b.length,rfl,rfl,zE,by lia,λp j d g=>k p j (a.trans d) ?_⟩;rw[g,qM,pl]
theorem bI:FnScope ["net"] ["net"] (zN uM):=by trivial
theorem pf {f y:Addr}{fd dT:FuncData}(F:Fun K "first_place" "first_place" uM f fd) (a:Use P w K mg base "first_turns" ["net"] 1 uJ y dT):FnOk P w K mg base CX0 2 f fd ["net"] vL:=by
 refine F.ok bI (λm H Q E h=>?_) (λB A outer s H m Q E o h=>?_)
 ·obtain⟨r,fr,l,i,N,rfl,_⟩:=h
  rfl
 obtain⟨r,fr,l,i,N,rfl,ok,na,k⟩:=h;refine⟨_,(@zH _ _ _ (@zU _ _ _ _ (@zV _ _ _ _ _ (@zA _ _ _ _ _ (@zK _ _ _ _ _ _ _ _ _ _ _ _ _ _ _ _ a.ok o (by rfl) a.m a.kp a.b .nil zS (@zA _ _ _ _ _ (@qv _ 0 _ _ (by trivial)) zB (by rfl)) (by decide) (by rfl) (by rfl)) (@zA _ _ _ _ _ (@zP _ _ _ _ _ _ _ _ xV (@zV _ _ _ _ _ (@zA _ _ _ _ _ zD zB (by rfl))) (@zX _ _ _ _ _ _ _ zv (@qv _ 0 _ _ (by trivial)) zD (λ_ _=>rfl))) zB (by rfl)) (by rfl))))),?_⟩;have z:=ok.l16;refine⟨_,rfl,r,fr,l,i,N,rfl,ok,na,λt D g x=>⟨by show 1<=sizeLine;decide,λu n=>?_⟩⟩;have c:=zC n (.tup [.int 0]);have d:=(na.tups (Tups.of g)).tups (Tups.of c);refine⟨_,rfl,r,_,_,_,rfl,rfl,SqT.of d.net,rfl,u,_,N.lanes,rfl,rfl,zE,by lia,λp C e j=>?_⟩;refine⟨by show 2<=sizeLine;decide,λq v=>?_⟩;have b:=zC v (.tup [.ref t,.ref p]);rw[qM]at j;exact k q _ (((g.trans c).trans e).trans b) (wd zE (b _ _ (e _ _ (c _ _ x))) (b _ _ j))
theorem qz:FnScope ["net","place","lane","turns","heights","onward","end","more","least"] ["net","place","lane"] (zN sP):=by trivial
theorem jG {N:Nt}(ok:Nt.Ok N){ts:List Int}{lane:Nat}(h:lane<N.lanes):passE N ts lane<N.lanes:=by
 have b:=(xN (back:=false) (ts:=ts) ok.fk h N.forks.length (Jb _));have:=List.idxOf_lt_length_of_mem (ok.en.mem_iff.mpr (Y8.mpr b));rw[ok.en.length_eq,JS]at this;exact this
theorem mJ {f fP fA:Addr}{fd dP dA:FuncData}(F:Fun K "place_behind" "place_behind" sP f fd) (G:Mgs mg) (C:Use P w K mg base "passed" ["net","turns","lane"] 3 (wj false) fP dP) (D:Use P w K mg base "added" ["counts","place","many"] 2 sK fA dA):FnOk P w K mg base CX0 4 f fd ["net","place","lane"] ww:=by
 refine F.ok qz (λvs H Q E h=>?_) (λab A outer s H vs Q E hr h=>?_)
 ·obtain⟨r,fr,er,U,N,b,k,d,rfl,_⟩:=h
  rfl
 obtain⟨r,fr,er,U,N,b,k,d,rfl,ok,na,kb,⟨ts,g,rfl,tl,bits,hl,h0,Y⟩,W,q2⟩:=h;have O:Room 2 _:=hr.mono (by decide);refine⟨_,(@zF _ _ _ _ _ (@yN _ _ _ _ _ _ (@qv _ 1 _ _ (by trivial)) (@yL _ _ _ _ _ _ rfl (@zQ _ _ _ _ _ (@zM _ _ 3 _ qz.nd rfl (.inl rfl) (by trivial)) (@zQ _ _ _ _ _ (@zM _ _ 4 _ qz.nd rfl (.inl rfl) (by trivial)) yC (by rfl)) (by rfl)) (by rfl) (by rfl)) (by rfl) (by rfl) (by rfl)) (@zF _ _ _ _ _ (@yN _ _ _ _ _ _ (@zK _ _ _ _ _ _ _ _ _ _ _ _ _ _ _ _ C.ok hr (by rfl) C.m C.kp C.b .nil zS (@zA _ _ _ _ _ (@qv _ 0 _ _ (by trivial)) (@zA _ _ _ _ _ (@qv _ 3 _ _ (by trivial)) (@zA _ _ _ _ _ (@qv _ 2 _ _ (by trivial)) zB (by rfl)) (by rfl)) (by rfl)) (by decide) (by rfl) (by rfl)) (@yL _ _ _ _ _ _ rfl (@zQ _ _ _ _ _ (@zM _ _ 5 _ qz.nd rfl (.inl rfl) (by trivial)) (@zQ _ _ _ _ _ (@zM _ _ 6 _ qz.nd rfl (.inl rfl) (by trivial)) yC (by rfl)) (by rfl)) (by rfl) (by rfl)) (by rfl) (by rfl) (by rfl)) (@zF _ _ _ _ _ (@zZ _ _ 7 _ _ _ _ qz.nd rfl (.inl rfl) (@zK _ _ _ _ _ _ _ _ _ _ _ _ _ _ _ _ D.ok O (by rfl) D.m D.kp D.b .nil zS (@zA _ _ _ _ _ (@qv _ 4 _ _ (by trivial)) (@zA _ _ _ _ _ (@qv _ 6 _ _ (by trivial)) (@zA _ _ _ _ _ zD zB (by rfl)) (by rfl)) (by rfl)) (by decide) (by rfl) (by rfl)) (by rfl) (by trivial)) (@zF _ _ _ _ _ (@zZ _ _ 8 _ _ _ _ qz.nd rfl (.inr rfl) (@zL _ _ _ _ _ _ _ _ _ (wU rfl false) (by rfl) G.min (by rfl) (@zA _ _ _ _ _ (@qv _ 7 _ _ (by trivial)) zB (by rfl)) (by decide) (by decide) (by rfl) (by rfl)) (by rfl) (by trivial)) (@zH _ _ _ (@zU _ _ _ _ (@zV _ _ _ _ _ (@zA _ _ _ _ _ (@qv _ 5 _ _ (by trivial)) (@zA _ _ _ _ _ (@zY _ _ _ _ _ _ _ _ _ zi (by rfl) G.tuple (by rfl) (@zA _ _ _ _ _ (@wc _ _ _ _ none _ _ _ _ _ _ ["height","least"] [none,some 8] rfl (@yg _ _ _ _ (@qv _ 7 _ _ (by trivial))) (CapOk.of (by kernel_rfl)) (λ_ _ _ _ _=>(@zM _ _ 0 _ (show (["height","least"]:List Str).Nodup from by decide +kernel) rfl (.inl rfl) (.inr rfl))) (λ_ _ _ _ _=>yj) (λ_ _ _ _ _=>(@zP _ _ _ _ _ _ _ _ xY (@qv _ 0 _ _ (by trivial)) (@qv _ 1 _ _ (by trivial)))) (by intro _;rfl)) zB (by rfl)) (by decide) (by decide) (by rfl) (by rfl)) zB (by rfl)) (by rfl))))))))),?_⟩;obtain⟨t,u,hb,ht,hu⟩:=oa kb;have aa:=ok.l16;refine⟨_,rfl,b,_,rfl,SqT.of hb,rfl,_,_,rfl,_,_,rfl,rfl,?_⟩;refine⟨_,rfl,_,rfl,_,rfl,r,fr,er,U,N,t,ts,d,rfl,ok,na,ht,tl,bits,W,λp J H1 T hp L=>?_⟩;refine⟨p,_,rfl,SqT.of hp,rfl,_,_,rfl,_,_,rfl,rfl,?_⟩;have pl:=jG (ts:=ts) ok W;refine⟨_,rfl,_,rfl,u,g,passE N ts d,1,rfl,T _ _ hu,by lia,by lia,λm H2 s2 x=>?_⟩
 have ne:yZ g (passE N ts d) 1≠[]:=λz=>by
  have:=JH List.length z;rw[yn,Yp]at this;lia
 change H2 m=some (.tup ((yZ g (passE N ts d) 1).map V.int)) at x;refine⟨_,rfl,m,_,rfl,SqT.of x,List.length_pos_iff.mpr ne,λM mM lM=>?_⟩;have eM:=vE mM lM;refine⟨_,rfl,_,rfl,m,rfl,⟨_,SqT.of x⟩,λl n=>?_⟩;have al:(yZ g (passE N ts d) 1).length=N.lanes:=by rw[yn];exact hl
 refine xy (K:=K) (a:=m) (xs:=(yZ g (passE N ts d) 1).map V.int) (λi acc σ j=>(∃ v,σ=[v,some (.int M)])/\Same H2 j/\j l=some (.lst acc)/\acc=(((yZ g (passE N ts d) 1).take i).map λh=>h-M).map V.int) ⟨⟨_,rfl⟩,zC n _,zE,rfl⟩ (λi acc σ j q=>⟨q.2.2.1,SqT.of (q.2.1 _ _ x)⟩) ?_ ?_
 ·rintro i y acc σ j Z ⟨⟨v,rfl⟩,I,B,rfl⟩
  rw[JG]at Z;obtain⟨h,eh,rfl⟩:=Y9.mp Z;have X:=(J8.mp eh).1;refine⟨_,rfl,_,rfl,_,_,rfl,rfl,B,?_,nx (by rw[Jc];exact X) ⟨⟨_,rfl⟩,λc o e=>?_,zE,?_⟩⟩
  ·rw[Jc,Jc,Jh,Js];lia
  ·rw[zJ (zG e n)];exact I c o e
  ·rw[JQ X,JB,JB,(J8.mp eh).2];rfl
 ·rintro acc σ j ⟨⟨v,rfl⟩,I,B,rfl⟩
  rw[Jc,JR,<- eM]at B;refine⟨l,_,rfl,.inl ⟨SqL.of B,λq hq=>⟨by show 2<=sizeLine;decide,λz Y=>?_⟩⟩⟩;have s4:=zC hq (.tup ((vS (yZ g (passE N ts d) 1)).map V.int));have S:=zC Y (.tup [.ref J,.ref q]);have R:=((s2.trans I).trans s4).trans S;exact q2 _ z _ (T.trans R) (x9 N ts g d) (wd zE (R _ _ L) (S _ _ zE))
theorem df:FnScope ["net","far","thing","heights"] ["net","far","thing"] (zN pK):=by trivial
theorem jP {f fR fB fN:Addr}{fd dR dB dN:FuncData}(F:Fun K "is_low_place" "is_low_place" pK f fd) (G:Mgs mg) (n:Use P w K mg base "is_row" ["thing","many"] 1 (wx K) fR dR) (p:Use P w K mg base "are_below" ["thing","many","bound"] 3 (sI K) fB dB) (o:Use P w K mg base "are_from_nought" ["thing","many"] 2 (sE K) fN dN):FnOk P w K mg base CX0 4 f fd ["net","far","thing"] (vk K):=by
 refine F.ok df (λZ H Q E h=>?_) (λaa A outer s H Z Q E B h=>?_)
 ·obtain⟨r,fr,er,R,N,g,x,rfl,_⟩:=h
  rfl
 obtain⟨r,fr,er,R,N,g,x,rfl,ok,na,C,k⟩:=h;have O:Room 1 _:=B.mono (by decide);have L:Room 2 _:=B.mono (by decide);refine⟨_,(@zF _ _ _ _ _ (@yH _ _ _ _ _ _ _ _ (@wE _ _ _ _ _ _ _ (@xO _ _ _ _ (@yp _ _ _ (@zK _ _ _ _ _ _ _ _ _ _ _ _ _ _ _ _ n.ok O (by rfl) n.m n.kp n.b .nil zS (@zA _ _ _ _ _ (@qv _ 2 _ _ (by trivial)) (@zA _ _ _ _ _ zD zB (by rfl)) (by rfl)) (by decide) (by rfl) (by rfl)) (by intro _;rfl))) (@xt _ _ _ _ (@xO _ _ _ _ (@yp _ _ _ (@zK _ _ _ _ _ _ _ _ _ _ _ _ _ _ _ _ p.ok B (by rfl) p.m p.kp p.b .nil zS (@zA _ _ _ _ _ (@zX _ _ _ _ _ _ _ zv (@qv _ 2 _ _ (by trivial)) zD (λ_ _=>rfl)) (@zA _ _ _ _ _ (@zL _ _ _ _ _ _ _ _ _ zR (by rfl) G.len Jy (@zA _ _ _ _ _ (@zX _ _ _ _ _ _ _ zv (@qv _ 0 _ _ (by trivial)) zD (λ_ _=>rfl)) zB (by rfl)) (by decide) (by decide) (by rfl) (by rfl)) (@zA _ _ _ _ _ zD zB (by rfl)) (by rfl)) (by rfl)) (by decide) (by rfl) (by rfl)) (by intro _;rfl))))).pt (@zH _ _ _ (@zU _ _ _ _ yo)) zq) (@zF _ _ _ _ _ (@zZ _ _ 3 _ _ _ _ df.nd rfl (.inl rfl) (@zX _ _ _ _ _ _ _ zv (@qv _ 2 _ _ (by trivial)) zD (λ_ _=>rfl)) (by rfl) (by trivial)) (@zH _ _ _ (@zU _ _ _ _ (@xX _ _ _ _ _ _ _ (@zK _ _ _ _ _ _ _ _ _ _ _ _ _ _ _ _ o.ok L (by rfl) o.m o.kp o.b .nil zS (@zA _ _ _ _ _ (@qv _ 3 _ _ (by trivial)) (@zA _ _ _ _ _ (@zX _ _ _ _ _ _ _ zv (@qv _ 0 _ _ (by trivial)) zD (λ_ _=>rfl)) zB (by rfl)) (by rfl)) (by decide) (by rfl) (by rfl)) (@xX _ _ _ _ _ _ _ (@y8 _ _ _ _ _ _ _ _ xD (@zL _ _ _ _ _ _ _ _ _ (wU rfl false) (by rfl) G.min (by rfl) (@zA _ _ _ _ _ (@qv _ 3 _ _ (by trivial)) zB (by rfl)) (by decide) (by decide) (by rfl) (by rfl)) zD (zt _)) (@wF _ _ _ _ _ (@y8 _ _ _ _ _ _ _ _ tI (@zL _ _ _ _ _ _ _ _ _ (lO rfl false) (by rfl) G.max (by rfl) (@zA _ _ _ _ _ (@qv _ 3 _ _ (by trivial)) zB (by rfl)) (by decide) (by decide) (by rfl) (by rfl)) (@qv _ 1 _ _ (by trivial)) (zt _))))))))),?_⟩;refine⟨_,rfl,x,2,rfl,C.any,_,rfl,?_⟩
 have no:wD H 2 x=false->y4 H (N.forks.length:Nat) (N.lanes:Nat) g x=false:=λe=>by
  unfold y4;split
  ·rename_i t h z
   unfold wD at e;rw[z]at e;cases e
  ·rfl
 cases c:wD H 2 x with
 | false =>
  rw[no c]at k
  exact zz (zz (k H (Same.refl H)))
 | true =>
 refine zr ?_
 obtain⟨t,h,d⟩:∃ t h,zc H x=some [t,h]:=by
  unfold wD at c;split at c
  ·rename_i Y z
   have l:=Y3 c
   match Y,l,z with
   | [t,h],_,z=>exact⟨t,h,z⟩
   | [],l,_=>cases l
   | [_],l,_=>cases l
   | _::_::_::_,l,_=>simp at l;lia
  ·cases c
 obtain⟨b,rfl,S⟩:=zw d;have dt:=(C.2 _ d).2 t (.head _);have T:=(C.2 _ d).2 h (.tail _ (.head _))
 have ev:∀ q,Same H q->Q (.bl (yF H (N.forks.length:Nat) 2 t && (yV H (N.lanes:Nat) h && (decide (vF (wW H h)=0) && decide (uj (wW H h)<=g))))) q:=λq s=>by
  have:=k q s;unfold y4 at this;rw[d]at this;exact this
 refine⟨_,rfl,b,_,_,_,rfl,rfl,SqT.of S,rfl,?_⟩;refine⟨_,rfl,r,_,_,_,rfl,rfl,SqT.of na.net,rfl,fr,R,rfl,.inr (SqT.of na.forks),t,_,2,rfl,dt,λX i=>⟨_,rfl,?_⟩⟩;rw[na.prs.len]
 cases W:yF H (N.forks.length:Nat) 2 t with
 | false =>
  rw[W]at ev
  exact zz (ev X i)
 | true =>
 rw[W]at ev;refine zr ?_;refine⟨_,rfl,b,_,_,_,rfl,rfl,SqT.of (i _ _ S),rfl,?_⟩;refine⟨_,rfl,_,rfl,r,_,_,_,rfl,rfl,SqT.of (i _ _ na.net),rfl,h,_,rfl,ju i T,λD s2=>?_⟩;have m:=i.trans s2;have e2:yV X (N.lanes:Nat) h=yV H (N.lanes:Nat) h:=by unfold yV;rw[rY i T.any]
 rw[e2];refine⟨_,rfl,?_⟩
 cases j:yV H (N.lanes:Nat) h with
 | false =>
  rw[j]at ev
  exact zr (ev D m)
 | true =>
 rw[j]at ev;refine zz ?_
 obtain⟨a,z,al⟩:∃ a,zc H h=some a/\(a.length:Int)=(N.lanes:Nat)/\a=(yY a).map V.int:=by
  unfold yV at j;split at j
  ·rename_i a z
   obtain⟨a1,a2⟩:=(JU _ _).mp j;exact⟨a,z,Y3 a1,xj λy hy=>y9 (JV.mp a2 y hy)⟩
  ·cases j
 obtain⟨u,rfl,v⟩:=zw z;have ri:wW H (.ref u)=yY a:=by unfold wW;rw[z];rfl
 rw[ri]at ev;obtain⟨al,am⟩:=al;rw[am]at v;have il:(yY a).length=a.length:=by have:=JH List.length am;rw[Jc]at this;exact this.symm
 have pos:0<(yY a).length:=by have:=ok.l1;lia
 refine⟨_,rfl,u,_,rfl,SqT.of (m _ _ v),pos,λM mM lM=>?_⟩;rw[vE mM lM]at ev;refine⟨rfl,_,rfl,?_⟩;rw[vo];by_cases U:M=0
 ·rw[Jw U]at ev ⊢
  refine zz ⟨_,rfl,u,_,rfl,SqT.of (m _ _ v),pos,λM2 I J=>?_⟩;rw[o0 I J]at ev;exact⟨_,rfl,_,_,rfl,rfl,ev D m⟩
 ·rw[Jj U]at ev ⊢
  exact zr (ev D m)
abbrev sR:Stmt:=top 13
theorem dg:FnScope ["thing","is_state","first","moves","led","known"] ["thing","is_state","first","moves","led"] (zN sR):=by trivial
theorem mN {f:Addr}{fd:FuncData}{SL L:Lam}{aj fr ak aq:List Str}{aa lsp:LSpc}(F:Fun K "is_book" "is_book" sR f fd) (G:Mgs mg) (LS:LamQ CX0 P w K mg base 4 SL aj ak aa) (LQ:LamQ CX0 P w K mg base 4 L fr aq lsp):FnOk P w K mg base CX0 6 f fd ["thing","is_state","first","moves","led"] (uI P w K SL aj aa L fr lsp):=by
 refine F.ok dg (λvs H Q E h=>?_) (λaz A outer s H vs Q E hr h=>?_)
 ·obtain⟨x,fs,b0,mv,f,af,M,k0,moves,cl,vals,step,Ok,n,B,rfl,_⟩:=h
  rfl
 obtain⟨x,fs,b0,mv,f,af,M,k0,moves,cl,vals,step,Ok,n,B,rfl,eS,laS,ar,W,ay,ax,v,k⟩:=h;refine⟨_,(@zF _ _ _ _ _ (@yH _ _ _ _ _ _ _ _ (@wE _ _ _ _ _ _ _ (@xO _ _ _ _ (@yp _ _ _ (@zL _ _ _ _ _ _ _ _ _ yQ (by rfl) G.isi (by rfl) (@zA _ _ _ _ _ (@qv _ 0 _ _ (by trivial)) (@zA _ _ _ _ _ (@ya _ _ (.ty "tuple") (.type "tuple") _ (by rfl) G.tuple (by rfl) rfl (by decide) (by decide)) zB (by rfl)) (by rfl)) (by decide) (by decide) (by rfl) (by rfl)) (by intro _;rfl))) (@xt _ _ _ _ (@xO _ _ _ _ (@yp _ _ _ (@zL _ _ _ _ _ _ _ _ _ (xJ rfl true) (by rfl) G.all (by rfl) (@zA _ _ _ _ _ (@wc _ _ _ _ none _ _ _ _ _ _ ["state","is_state"] [none,some 1] rfl (@yg _ _ _ _ (@qv _ 0 _ _ (by trivial))) (CapOk.of (by kernel_rfl)) (λ_ _ _ _ _=>(@zM _ _ 0 _ (show (["state","is_state"]:List Str).Nodup from by decide +kernel) rfl (.inl rfl) (.inr rfl))) (λ_ _ _ _ _=>yj) (λ_ _ _ _ _=>(om LS hr (@qv _ 1 _ _ (by trivial)) zS (@zA _ _ _ _ _ (@qv _ 0 _ _ (by trivial)) zB (by rfl)))) (by intro _;rfl)) zB (by rfl)) (by decide) (by decide) (by rfl) (by rfl)) (by intro _;rfl))))).pt (@zH _ _ _ (@zU _ _ _ _ yo)) zq) (@zF _ _ _ _ _ (@zZ _ _ 5 _ _ _ _ dg.nd rfl (.inr rfl) (jD hr.u3 (N':=["state"]) (cap:=[none]) rfl (@yg _ _ _ _ (@qv _ 0 _ _ (by trivial))) (CapOk.of (by kernel_rfl)) (λ_ _ _ _ _=>(@zM _ _ 0 _ (show (["state"]:List Str).Nodup from by decide +kernel) rfl (.inl rfl) (.inr rfl))) (λ_ _ _ _ _=>(@qv _ 0 _ _ (by trivial))) (λ_ _ _ _ _=>yo)) (by rfl) (by trivial)) (@zF _ _ _ _ _ (@yH _ _ _ _ _ _ _ _ (@wE _ _ _ _ _ _ _ (@zp _ _ _ _ _ _ _ _ tH (@zL _ _ _ _ _ _ _ _ _ vW (by rfl) G.len Jy (@zA _ _ _ _ _ (@qv _ 5 _ _ (by trivial)) zB (by rfl)) (by decide) (by decide) (by rfl) (by rfl)) (@zL _ _ _ _ _ _ _ _ _ zR (by rfl) G.len Jy (@zA _ _ _ _ _ (@qv _ 0 _ _ (by trivial)) zB (by rfl)) (by decide) (by decide) (by rfl) (by rfl)) (zt _)) (@xt _ _ _ _ (@sV _ _ _ _ _ _ (vR hr.u3 (@qv _ 2 _ _ (by trivial)) (@qv _ 5 _ _ (by trivial))) (by rfl)))).pt (@zH _ _ _ (@zU _ _ _ _ yo)) zq) (@zH _ _ _ (@zU _ _ _ _ (@zL _ _ _ _ _ _ _ _ _ (xJ rfl true) (by rfl) G.all (by rfl) (@zA _ _ _ _ _ (@gw _ _ _ _ _ _ none _ _ _ (cK K (iC 4)) _ _ _ _ ["state","move","known","led","moves"] [none,none,some 5,some 4,some 3] rfl (@yg _ _ _ _ (@qv _ 0 _ _ (by trivial))) (CapOk.of (by kernel_rfl)) (λ_ _ _ _ _=>(@zM _ _ 0 _ (show (["state","move","known","led","moves"]:List Str).Nodup from by decide +kernel) rfl (.inl rfl) (.inr rfl))) (λ_ _ _ _ _=>(@yg _ _ _ _ (@qv _ 4 _ _ (by trivial)))) (λ_ _ _ _ _=>(@zM _ _ 1 _ (show (["state","move","known","led","moves"]:List Str).Nodup from by decide +kernel) rfl (.inl rfl) (.inr rfl))) (λ_ _ _ _ _=>yj) (λ_ _ _ _ _=>(@y8 _ _ _ _ _ _ _ (du P w) (jI hr.u3) (om LQ hr (@qv _ 3 _ _ (by trivial)) zS (@zA _ _ _ _ _ (@qv _ 0 _ _ (by trivial)) (@zA _ _ _ _ _ (@qv _ 1 _ _ (by trivial)) zB (by rfl)) (by rfl))) (@qv _ 2 _ _ (by trivial)) (by rfl))) (by intro _;rfl) (by intro _ _;rfl)) zB (by rfl)) (by decide) (by decide) (by rfl) (by rfl))))))),?_⟩;obtain⟨t,I⟩:=ax.isi;refine⟨_,rfl,_,"tuple",_,_,rfl,I.ty,I.tup,_,rfl,?_⟩
 cases Y:zc H x with
 | none =>
  rw[Y]at k
  exact zz (zz (k _ (Same.refl _)))
 | some xs =>
 obtain⟨a,rfl,ha⟩:=zw Y;rw[Y]at k;change ∀ H',Same H H'->Q (.bl (xS B xs k0 moves step)) H' at k;obtain⟨xl,hy⟩:=v xs Y;refine zr ?_;refine⟨_,rfl,a,rfl,⟨_,SqT.of ha⟩,λl hl=>?_⟩;have sl:=zC hl (.lst []);refine xy (K:=K) (a:=a) (xs:=xs) (λj acc σ N=>(∃ J,σ=[J,some (.ref fs)])/\Same H N/\N l=some (.lst acc)/\acc=(xs.take j).map λy=>V.bl (B y).isSome) ⟨⟨_,rfl⟩,sl,zE,rfl⟩ (λj acc σ N z=>⟨z.2.2.1,SqT.of (z.2.1 _ _ ha)⟩) ?_ ?_
 ·rintro j x acc σ N v ⟨⟨J,rfl⟩,s2,h2,rfl⟩
  have jl:j<xs.length:=(J8.mp v).1;have xm:x∈xs:=Jq v;have ab:=laS.frz λb o u e=>s2 _ _ e;obtain⟨pm,cc,ct,oc,fz,tk,ad,_⟩:=ab.ex;refine⟨fs,rfl,⟨_,_,_,_,ad⟩,_,rfl,af,M,eS,ab,(hy x xm).1 _ _ ((KpN.same s2).trans (KpN.strip ab.fz)) λC s3 low=>?_⟩;have s4:=vN s3;generalize back af N C=H4 at s4 ⊢;have u4:=s2.trans s4;refine⟨s4 _ _ h2,by rw[Jc,Jh,Js];lia,nx jl ⟨⟨_,rfl⟩,λb o e=>?_,zE,?_⟩⟩
  ·rw[zJ (zG e hl)];exact u4 b o e
  ·rw[<- Y6 jl,JB,(J8.mp v).2];rfl
 rintro acc σ N ⟨⟨J,rfl⟩,s2,h2,rfl⟩;rw[JR]at h2;refine⟨l,xs.map λy=>(B y).isSome,rfl,.inl (.inl (by rw[Z6];exact h2)),_,rfl,?_⟩
 cases hm:xs.mapM B with
 | none =>
  obtain⟨y,ym,aw⟩:=tO.mp hm;have e:(xs.map λy=>(B y).isSome).all id=false:=List.all_eq_false.mpr ⟨false,JD.mpr ⟨y,ym,by rw[aw];rfl⟩,by simp⟩;have z:=k _ s2;rw[xR hm]at z;rw[e]
  exact zz z
 | some ss =>
 obtain⟨ag,hs⟩:=y3 hm
 have e:(xs.map λy=>(B y).isSome).all id=true:=JV.mpr λb hb=>by
  obtain⟨y,ym,rfl⟩:=JD.mp hb;obtain⟨i,il,ei⟩:=Yh.mp ym;obtain⟨p,_,e0⟩:=hs i y (by rw[Ja il,ei]);rw[e0];rfl
 rw[e];refine zr ?_;have ai:=s2 _ _ ha;refine⟨_,rfl,a,rfl,⟨_,SqT.of ai⟩,λd hd=>?_⟩;refine eK (K:=K) (a:=a) (xs:=xs) (λj acc σ C=>(∃ J,σ=[J])/\Same N C/\C d=some (DN P w d acc)/\acc.map (·.1)=ddL (ss.take j)/\KsIn C acc/\acc.length<=j) ⟨⟨_,rfl⟩,zC hd _,zE,rfl,λx v=>(nomatch v),JL _⟩ (λj acc σ C z=>SqT.of (z.2.1 _ _ ai)) ?_ ?_
 ·rintro j x acc σ C v ⟨⟨J,rfl⟩,s3,h3,ek,ks,al⟩
  have jl:j<xs.length:=(J8.mp v).1;obtain⟨p,es,e0⟩:=hs j x v;obtain⟨_,b,rfl,kb⟩:=(hy x (Jq v)).2 p e0;have X:=(kb.tups (Tups.of s2)).tups (Tups.of s3);have au:j<ss.length:=(J8.mp es).1;have tp:Tups C (L2.upd C d (DN P w d (xh acc p b (.bl true)))):=λc ys e=>by rw[zJ (xi e h3 λz=>by cases z)];exact e
  refine⟨_,rfl,b,p,rfl,h3,ks,X,by rw[Js];lia,nx jl ⟨⟨_,rfl⟩,λc o e=>?_,zE,?_,(ks.put X).tups tp,?_⟩⟩
  ·rw[zJ (zG e hd)];exact s3 c o e
  ·rw[n4,<- Y6 au,qb,(J8.mp es).2,<- ek]
   unfold ddN;by_cases c:p∈acc.map (·.1)
   ·rw[JE c,JE (yc.mpr c)]
   ·rw[Jv c,Jv λz=>c (yc.mp z)]
  ·have:=uO acc p b (.bl true)
   lia
 rintro acc σ C ⟨⟨J,rfl⟩,s3,h3,ek,ks,al⟩;rw[ag,JR]at ek;obtain⟨dm,dl,dn⟩:=nK ss;rw[<- ek]at dm dl dn;rw[Jc]at dl dn;have u3:=s2.trans s3;have ae:=u3 _ _ ha;have X:=ar.tups (Tups.of u3);have z:=k;rw[y7 hm]at z;refine⟨_,rfl,d,acc,rfl,.inl h3,_,rfl,a,xs,rfl,.inr (SqT.of ae),rfl,_,rfl,?_⟩;by_cases nd:ss.Nodup
 rotate_left
 ·rw[show (!decide (V.int (acc.length:Nat)=V.int (xs.length:Nat)))=true from by
   rw[vo,Jj λ(e:((acc.length:Nat):Int)=(xs.length:Nat))=>nd (dn.mp (by lia))];rfl]
  rw[Jj nd]at z;exact zz (zz (z _ u3))
 rw[show (!decide (V.int (acc.length:Nat)=V.int (xs.length:Nat)))=false from by
   rw[vo,Jw (show ((acc.length:Nat):Int)=(xs.length:Nat) by have:=dn.mpr nd;lia)];rfl]
 refine zr ⟨_,rfl,_,rfl,d,b0,acc,k0,rfl,rfl,⟨.inl h3,ks⟩,X,_,rfl,?_⟩
 have vi:∀ t,(yt acc t).isSome=decide (t∈ss):=λt=>by
  rw[JZ,decide_eq_true_iff,yc,dm]
 rw[vi];rw[Jw nd]at z;by_cases c0:k0∈ss
 rotate_left
 ·rw[Jj c0]at z ⊢
  exact zz (z _ u3)
 rw[Jw c0]at z ⊢;refine zr ?_
 let T:KN->Nat->Bool:=λs m=>match step s m with|none=>false|some t=>decide (t∈ss)
 let g:Nat->List Bool:=λi=>(ss.take i).flatMap λs=>moves.map (T s)
 have acl:∀ i,(g i).length<=i*16:=λi=>by
  show ((ss.take i).flatMap λs=>moves.map (T s)).length<=_
  have key:∀ rs:List KN,(rs.flatMap λs=>moves.map (T s)).length<=rs.length*16:=λrs=>by
   induction rs with
   | nil=>exact Jb _
   | cons r rs ih =>
    rw[List.flatMap_cons,J9,Jc,Yk,Nat.add_mul];lia
  have:=key (ss.take i);rw[Jh]at this;lia
 refine⟨_,rfl,a,rfl,⟨_,SqT.of ae⟩,λl2 ah=>?_⟩;refine ii (K:=K) (a:=a) (xs:=xs) (Q:=λx H1=>eZ (List.set (L2.wZ ["thing","is_state","first","moves","led","known"] [V.ref a,V.ref fs,V.ref b0,V.ref mv,V.ref f]) 5 (some (V.ref d))) H1 λvs N=>∃ a bs,x::vs=[V.ref a]/\SqB true K N a (List.map V.bl bs)/\Q (V.bl (bs.all id)) N) (λi ac σ H4=>(∃ J O,σ=[J,O,some (.ref d),some (.ref f),some (.ref mv)])/\Same C H4/\H4 l2=some (.lst ac)/\ac=(g i).map V.bl) ⟨⟨_,_,rfl⟩,zC ah _,zE,rfl⟩ (λi ac σ H4 z=>⟨z.2.2.1,SqT.of (z.2.1 _ _ ae)⟩) ?_ ?_
 ·rintro i ac σ H4 x v ⟨⟨J,O,rfl⟩,s4,h4,rfl⟩
  have il:i<xs.length:=(J8.mp v).1;obtain⟨p,es,e0⟩:=hs i x v;obtain⟨ao,b,rfl,kb⟩:=(hy x (Jq v)).2 p e0;have av:i<ss.length:=(J8.mp es).1
  have ap:g (i+1)=g i++moves.map (T p):=by
   show (ss.take (i+1)).flatMap _=_;rw[<- Y6 av,List.flatMap_append,(J8.mp es).2,List.flatMap_singleton]
  have u4:=u3.trans s4;refine⟨_,rfl,mv,rfl,⟨_,(W.mv.tups (Tups.of u4)).sq⟩,?_⟩;refine im (K:=K) (a:=mv) (zs:=moves.map λm=>V.int (m:Nat)) (λj ac σ S=>(∃ O,σ=[some (.ref b),O,some (.ref d),some (.ref f),some (.ref mv)])/\Same C S/\S l2=some (.lst ac)/\ac=(g i++(moves.take j).map (T p)).map V.bl) ⟨⟨_,rfl⟩,s4,h4,by rw[List.take_zero,List.map_nil,Yn]⟩ (λj ac σ S z=>⟨z.2.2.1,(W.mv.tups (Tups.of (u3.trans z.2.1))).sq⟩) ?_ ?_
  ·rintro j x ac σ S v ⟨⟨O,rfl⟩,Z,h5,rfl⟩
   rw[JG]at v;obtain⟨m,em,rfl⟩:=Y9.mp v;have jl:j<moves.length:=(J8.mp em).1;have u5:=u3.trans Z;have U:=W.la.frz λb o u e=>u5 _ _ e;obtain⟨pm,cc,ct,oc,fz,tk,ad,_⟩:=U.ex
   have tj:(moves.take (j+1)).map (T p)=(moves.take j).map (T p)++[T p m]:=by
    rw[<- Y6 jl,JB,(J8.mp em).2];rfl
   have fin:∀ (R:Hp) (q:Bool),Same S R->q=T p m->R l2=some (.lst ((g i++(moves.take j).map (T p)).map V.bl))/\((g i++(moves.take j).map (T p)).map V.bl).length<sizeLine/\Nx (moves.map λm=>V.int (m:Nat)).length j ((∃ O,[some (V.ref b),some (V.int (m:Nat)),some (.ref d),some (.ref f),some (.ref mv)]=[some (.ref b),O,some (.ref d),some (.ref f),some (.ref mv)])/\Same C (L2.upd R l2 (.lst ((g i++(moves.take j).map (T p)).map V.bl++[V.bl q])))/\L2.upd R l2 (.lst ((g i++(moves.take j).map (T p)).map V.bl++[V.bl q])) l2=some (.lst ((g i++(moves.take j).map (T p)).map V.bl++[V.bl q]))/\(g i++(moves.take j).map (T p)).map V.bl++[V.bl q]=(g i++(moves.take (j+1)).map (T p)).map V.bl):=λR q D eq=>by
    subst eq;refine⟨D _ _ h5,?_,nx (by rw[Jc];exact jl) ⟨⟨_,rfl⟩,λb o e=>?_,zE,?_⟩⟩
    ·have:=acl i
     rw[Jc,J9,Jc,Jh,Js];lia
    ·rw[zJ (zG e ah)];exact D _ _ (Z b o e)
    ·rw[tj,<- Ys,JB (l₂:=[_])];rfl
   refine⟨f,rfl,⟨_,_,_,_,ad⟩,_,rfl,_,rfl,cl,vals,W.fr,U,W.ld _ p b m _ ((Tups.of u5).trans (vt U.fz)) ao (Jq em) ((kb.tups (Tups.of u5)).tups (vt U.fz)) (λH6 s6 e low=>?_) (λH6 b' t s6 e kt low=>?_)⟩
   ·have D:=vN s6
    generalize back cl S H6=R at D ⊢;exact⟨_,rfl,d,acc,rfl,⟨.inl (D _ _ (Z _ _ h3)),ks.tups (Tups.of (Z.trans D))⟩,.inr ⟨rfl,fin R _ D (by show false=match step p m with|none=>false|some t=>decide (t∈ss);rw[e])⟩⟩
   ·have D:=vN s6
    have k7:=kt.tups (nh (H:=S) low);generalize back cl S H6=R at D k7 ⊢;exact⟨_,rfl,d,acc,rfl,⟨.inl (D _ _ (Z _ _ h3)),ks.tups (Tups.of (Z.trans D))⟩,.inl ⟨b',t,rfl,k7,fin R _ D (by rw[vi];show _=match step p m with|none=>false|some t=>decide (t∈ss);rw[e])⟩⟩
  ·rintro ac σ S ⟨⟨O,rfl⟩,Z,h5,rfl⟩
   rw[Jc,JR]at h5 ⊢;rw[<- ap]at h5 ⊢;exact nx il ⟨⟨_,_,rfl⟩,Z,h5,rfl⟩
 ·rintro ac σ H4 ⟨⟨J,O,rfl⟩,s4,h4,rfl⟩
  rw[ag]at h4;refine⟨l2,g ss.length,rfl,.inl (.inl h4),?_⟩
  have e:(g ss.length).all id=ss.all λs=>moves.all λm=>match step s m with|none=>false|some t=>decide (t∈ss):=by
   show ((ss.take ss.length).flatMap λs=>moves.map (T s)).all id=_;rw[JR,List.all_flatMap]
   congr 1
   funext s
   rw[List.all_map];rfl
  rw[e];exact z _ (u3.trans s4)
abbrev xo:Stmt:=top 21
theorem o7 {l:List (Str × NameKind)}{x:Str}{k:NameKind}(h:l.lookup x=some k):(x,k)∈l:=by
 obtain⟨a,c,e,_⟩:=List.lookup_eq_some_iff.mp h;rw[e];exact Jr.mpr (.inr (.head _))
def fi (q:Str):Stmt->Lam
 | .Return (some (.Call _ (_::.Lambda p b s _::_) _ _)) _=>⟨p,b,s,q⟩
 | _=>⟨⟨[],[],none,[],[],none,[]⟩,.Name "" ⟨0,0,0,0⟩,zN xo,q⟩
def fj (q:Str):Stmt->Lam
 | .Return (some (.Call _ (_::_::_::_::.Lambda p b s _::_) _ _)) _=>⟨p,b,s,q⟩
 | _=>⟨⟨[],[],none,[],[],none,[]⟩,.Name "" ⟨0,0,0,0⟩,zN xo,q⟩
def tR (q:Str):Lam:=fi q ((yb xo).getD 0 (.Pass ⟨0,0,0,0⟩))
def uU (q:Str):Lam:=fj q ((yb xo).getD 0 (.Pass ⟨0,0,0,0⟩))
def oH (K:PySem.W.Frag):LSpc:=λvals b H Q E=>∃ r,∃ a:Int,∃ x,vals=[.ref r,.int a]/\b=[x]/\vk K [.ref r,.int a,x] H Q E
theorem cv:LamScope ["place"] ["net","far"] (tR "").scope:=⟨rfl,rfl,rfl,by decide +kernel,by decide +kernel,by decide +kernel,by decide +kernel,λx a=>(show ∀ y∈(tR "").scope.names,y.2=.free->y.1∈[("net":Str),"far"] from by decide +kernel) _ (o7 a) rfl⟩
theorem cw:LamScope ["place","lane"] ["net"] (uU "").scope:=⟨rfl,rfl,rfl,by decide +kernel,by decide +kernel,by decide +kernel,by decide +kernel,λx a=>(show ∀ y∈(uU "").scope.names,y.2=.free->y.1∈[("net":Str)] from by decide +kernel) _ (o7 a) rfl⟩
theorem g8 {us:List Value}(h:us.length=1):∃ u,us=[u]:=by
 match us,h with
 | [u],_=>exact⟨u,rfl⟩
theorem gL {us:List Value}(h:us.length=2):∃ u v,us=[u,v]:=by
 match us,h with
 | [u,v],_=>exact⟨u,v,rfl⟩
theorem iq (q:Str) {f:Addr}{fd:FuncData}(a:Use P w K mg base "is_low_place" ["net","far","thing"] 4 (vk K) f fd):LamQ CX0 P w K mg base 4 (tR q) ["net","far"] ["place"] (oH K):=by
 refine⟨cv,λvals d H Q E h=>?_,λcl j g pm i m=>by obtain⟨u,rfl⟩:=g8 g;rfl,λcl k c A outer s H vals d Q E l e fz h=>?_⟩
 ·obtain⟨r,b,x,_,rfl,_⟩:=h
  rfl
 obtain⟨r,b,x,rfl,rfl,h⟩:=h;refine⟨_,zK a.ok e (by rfl) a.m a.kp a.b .nil zS (zA (pv 1) (zA (pv 2) (zA (pv 0) zB))),?_⟩;exact⟨_,rfl,_,rfl,_,rfl,h⟩
theorem mh (q:Str) {f:Addr}{fd:FuncData}(d:Use P w K mg base "place_behind" ["net","place","lane"] 4 ww f fd):LamQ CX0 P w K mg base 4 (uU q) ["net"] ["place","lane"] wH:=by
 refine⟨cw,λvals e H Q E h=>?_,λcl k i pm j n=>by obtain⟨u,v,rfl⟩:=gL i;rfl,λcl l c A outer s H vals e Q E m g fz h=>?_⟩
 ·obtain⟨r,b,a,_,rfl,_⟩:=h
  rfl
 obtain⟨r,b,a,rfl,rfl,h⟩:=h;refine⟨_,zK d.ok g (by rfl) d.m d.kp d.b .nil zS (zA (pv 2) (zA (pv 0) (zA (pv 1) zB))),?_⟩;exact⟨_,rfl,_,rfl,_,rfl,h⟩
theorem qV {sc:Scope}{l:List Str}{env:Env}(h:(sc.names.filter λy=>y.2 == .free).map (·.1)=l)(k:∀ x∈l,env.kindOf x=some .cell):∀ x,(x,NameKind.free)∈sc.names->env.kindOf x=some .cell\/env.kindOf x=some .free:=λx a =>
 .inl (k x (by rw[<- h];exact JD.mpr ⟨_,List.mem_filter.mpr ⟨a,rfl⟩,rfl⟩))
theorem jm {sc:Scope}{x0 x1:Str}{env:Env}(h:(sc.names.filter λy=>y.2 == .free).map (·.1)=[x0,x1])(k0:env.kindOf x0=some .cell)(a:env.kindOf x1=some .cell):∀ x,(x,NameKind.free)∈sc.names->env.kindOf x=some .cell\/env.kindOf x=some .free:=qV h λx b=>by
 rcases Ji.mp b with rfl|z
 ·exact k0
 ·rw[Jd.mp z];exact a
theorem jn {sc:Scope}{x0:Str}{env:Env}(h:(sc.names.filter λy=>y.2 == .free).map (·.1)=[x0])(k0:env.kindOf x0=some .cell):∀ x,(x,NameKind.free)∈sc.names->env.kindOf x=some .cell\/env.kindOf x=some .free:=qV h λx a=>by
 rw[Jd.mp a];exact k0
theorem eD {X:Cx}{x y:Str}{i j:Nat}(d:X.N[i]?=some x)(c:X.env.scope.names.lookup x=some .cell)(b:X.fn x=true)(g:X.N[j]?=some y)(f:X.env.scope.names.lookup y=some .cell)(e:X.fn y=true):∀ p∈[(x,i),(y,j)],X.N[p.2]?=some p.1/\X.env.scope.names.lookup p.1=some .cell/\X.fn p.1=true:=λp a=>by
 rcases Ji.mp a with rfl|z
 ·exact⟨d,c,b⟩
 ·rw[Jd.mp z];exact⟨g,f,e⟩
theorem jJ {cs:List (Str × Addr)}{x:Str}(h:cs.map (·.1)=[x]):∃ c,cs=[(x,c)]:=by
 match cs,h with
 | [(y,c)],h=>exact⟨c,by rw[show y=x from (List.cons.inj h).1]⟩
theorem rK {cs:List (Str × Addr)}{x y:Str}(h:cs.map (·.1)=[x,y]):∃ c d,cs=[(x,c),(y,d)]:=by
 match cs,h with
 | [(a,c),(b,d)],h =>
  injection h with f e;injection e with e _;exact⟨c,d,by rw[show a=x from f,show b=y from e]⟩
def qR:Str:=("shows_reach":Str)++(".<locals>.":Str)++("<lambda>":Str)
theorem cu:FnScope ["net","some","far","thing"] ["net","some","far","thing"] (zN xo):=by trivial
theorem mH {f fB fF c Pt:Addr}{fd dB dF:FuncData}(F:FunC K "shows_reach" "shows_reach" xo f fd c) (CK:CodeK K mg base c Pt) (UB:Use P w K mg base "is_book" ["thing","is_state","first","moves","led"] 6 (uI P w K (tR qR) ["net","far"] (oH K) (uU qR) ["net"] wH) fB dB) (UF:Use P w K mg base "first_place" ["net"] 2 vL fF dF):FnOk P w K mg base CX0 7 f fd ["net","some","far","thing"] (uE K qR Pt):=by
 refine F.ok cu (λvs H Q E h=>?_) (λA outer s H vs Q E hr h=>?_)
 ·obtain⟨r,fr,er,ps,N,sm,moves,d,x,rfl,_⟩:=h
  rfl
 obtain⟨r,fr,er,ps,N,sm,moves,d,x,rfl,ok,na,au,mlt,ml,ax,g,tab,k⟩:=h;refine⟨_,(@zH _ _ _ (@zU _ _ _ _ (jE (E:=E0) UB.ok hr (by rfl) UB.m UB.kp UB.b [("net",0),("far",2)] (by decide) (eD rfl rfl rfl rfl rfl rfl) (@zA _ _ _ _ _ (@qv _ 3 _ _ (by trivial)) (@zA _ _ _ _ _ (jB (fr:=["net","far"]) CK rfl rfl (jm (x0:="far") (x1:="net") rfl rfl rfl) rfl) (@zA _ _ _ _ _ (@zK _ _ _ _ _ _ _ _ _ _ _ _ _ _ _ _ UF.ok (hr.mono (by decide)) (by rfl) UF.m UF.kp UF.b .nil zS (@zA _ _ _ _ _ (@qv _ 0 _ _ (by trivial)) zB (by rfl)) (by decide) (by rfl) (by rfl)) (@zA _ _ _ _ _ (@qv _ 1 _ _ (by trivial)) (@zA _ _ _ _ _ (jB (fr:=["net"]) CK rfl rfl (jn (x0:="net") rfl rfl) rfl) zB (by rfl)) (by rfl)) (by rfl)) (by rfl)) (by rfl))))),?_⟩;have ay:=ok.l16;obtain⟨l,hP,tok⟩:=id tab;refine⟨_,rfl,l,hP,tok,λf1 aD l1 H1 ag G aA ae L ab Y=>?_⟩;have ap:=na.tups (KpN.tups (KpN.but (λb o e n=>Y b o e n) hP));refine⟨_,rfl,r,fr,er,ps,N,rfl,ok,ap,λb0 H2 I k2=>?_⟩;refine⟨_,rfl,l1,I _ _ L,ab.frz (λb o u e=>I _ _ e),λf2 aC l2 H3 af ah az ad av aa X=>?_⟩;refine⟨[.ref r,.int d],rfl,λj x i v g C=>?_,λcs J aw B nd ca out ai=>?_⟩
 ·match j,g,C with
  | 0,g,C=>cases g;cases C;rfl
  | 1,g,C=>cases g;cases C;rfl
  | j+2,g,C=>cases g
 obtain⟨c1,S,rfl⟩:=rK ag;obtain⟨D,rfl⟩:=jJ af;obtain⟨c3,d3,rfl⟩:=rK aw;have e1:c1=c3:=Jn ((G _ (.head _)).symm.trans (B _ (.head _)));have e2:S=d3:=Jn ((G _ (.tail _ (.head _))).symm.trans (B _ (.tail _ (.head _))));have e3:D=c3:=Jn ((ah _ (.head _)).symm.trans (B _ (.head _)));subst e1 e2 e3;have b1:But Pt H H1:=λb o e n=>Y b o e n;have b3:But Pt H2 H3:=λb o e n=>X b o e n;have ao:But Pt H H3:=(b1.trans (But.of I)).trans b3
 have p:Same H3 J:=λb o e=>by
  rw[out b λR=>by rw[ai b R]at e;cases e];exact e
 have a:KpN H J:=(KpN.but ao hP).trans (KpN.same p);have U:=na.tups a.tups;have ar:KpN H2 J:=(KpN.but b3 (I _ _ L)).trans (KpN.same p);have aj:∀ b o u,H1 b=some (.frz o u)->J b=some (.frz o u):=λb o u e=>p _ _ (X _ _ (I _ _ e) (xi (I _ _ e) (I _ _ L) λz=>by cases z))
 have O:LamRaw J f1 (tR qR) [("net",D),("far",S)]:=by
  obtain⟨pm,cd,ct,oc,fs,tk,O,M,r3,r4⟩:=ae.ex;exact⟨pm,cd,ct,oc,fs,tk,aj _ _ _ O,aj _ _ _ M,r3,r4⟩
 have M:LamRaw J f2 (uU qR) [("net",D)]:=by
  obtain⟨pm,cd,ct,oc,fs,tk,O,M,r3,r4⟩:=ad.ex;exact⟨pm,cd,ct,oc,fs,tk,p _ _ O,p _ _ M,r3,r4⟩
 have la1:=O.at_ (ws:=[.ref r,.int d]) ca (show [("net":Str),"far"].Nodup from by decide) nd rfl λi x c v g C=>⟨i,g,C⟩
 have aq:=M.at_ (ws:=[.ref r]) ca (show [("net":Str)].Nodup from by decide) (JT.mpr ⟨JA,YG⟩) rfl λi x c v g C=>by
  cases i with
  | zero=>cases g;cases C;exact⟨0,rfl,rfl⟩
  | succ i=>cases g
 have W:Way K J sm f2 (uU qR) ["net"] wH [("net",D)] [.ref r] (xg N) (OkR N) moves N.lanes:=⟨.inl (a.tups _ _ au),rfl,aq,mY ok U mlt,mlt,λs m t os _ e=>rN ok os e,by lia⟩;have ak:=ax.row a;refine⟨x,f1,b0,sm,f2,[("net",D),("far",S)],[.ref r,.int d],_,moves,[("net",D)],[.ref r],xg N,OkR N,N.lanes,stR H (N.forks.length:Nat) (N.lanes:Nat) d,rfl,rfl,la1,k2.tups ar.tups,W,ml,(ax.kp a).any,λxs Z=>?_,λH5 s5=>?_⟩
 ·rw[ak]at Z
  obtain⟨x1,x2⟩:=g xs Z;refine⟨x1,λy ym=>⟨λH5 Q1 k5 q=>?_,λs hs=>?_⟩⟩
  ·have V:=a.trans k5
   refine⟨r,d,y,rfl,rfl,r,fr,er,ps,N,d,y,rfl,ok,U.tups k5.tups,((x2 y ym).kp V).deep,λH6 s6=>?_⟩;rw[ic V (x2 y ym),<- kD];exact q H6 s6
  ·obtain⟨o1,b,e,kb⟩:=vw ok.l1 hs
   exact⟨o1,b,e,kb.tups a.tups⟩
 rw[ak]
 have aB:CellsFz [("net",D),("far",S)] H5:=λb R=>by
  obtain⟨o,z⟩:=ca.fz b R;exact⟨o,s5 _ _ z⟩
 have T:Same H3 (strip [("net",D),("far",S)] H5):=λb o e=>by
  rw[yE λR=>by rw[ai b R]at e;cases e];exact s5 _ _ (p _ _ e)
 exact k _ (ao.trans (But.of T)) (TabQ.same ⟨l2,av,aa⟩ T)
end
end K46
namespace L2
open PySem PySem.Spec PyProof.Rows Own Bn
def whB (lo hi:Int):V->Bool
 | .int i=>decide (lo<=i) && decide (i<=hi)
 | _=>false
theorem lY (x:V):whB 0 1 x=xT 2 x:=by
 cases x with
 | int i =>
  show (decide (0<=i) && decide (i<=1))=(decide (0<=i) && decide (i<2))
  congr 1
  exact decide_eq_decide.mpr ⟨λz=>by lia,λz=>by lia⟩
 | _=>rfl
theorem wo (far:Int)(x:V):whB 0 far x=true↔yr 0 x=true/\∃ i,x=.int i/\i<=far:=by
 cases x with
 | int i =>
  show (decide (0<=i) && decide (i<=far))=true↔decide (0<=i)=true/\_;rw[JU]
  exact⟨λz=>⟨z.1,i,rfl,Y3 z.2⟩,λ⟨a,j,e,z⟩=>⟨a,by cases e;exact Jw z⟩⟩
 | _=>exact⟨λz=>(nomatch z),λz=>(nomatch z.1)⟩
def oT (K:PySem.W.Frag):Sp:=λa H Q _=>∃ x,∃ lo hi:Int,a=[x,.int lo,.int hi]/\AnyT K H x/\Q (.bl (whB lo hi x)) H
def vz (K:PySem.W.Frag):Sp:=λb H Q _=>∃ r fr d c N x,b=[.ref r,x]/\Nt.Ok N/\NetAt H r fr d c N/\Deep K H 1 x/\∀ a,Same H a->Q (.bl (yF H (N.forks.length:Nat) 2 x)) a
end L2
namespace K46
open PySem L2 Own Bn
abbrev ga:Stmt:=top 39
abbrev sN:Stmt:=top 40
section
variable {P:Program}{w:World}{K:PySem.W.Frag}{mg:Str->Option Value}{base:Heap}
theorem bC:FnScope ["_law_thing","_law_least","_law_most"] ["_law_thing","_law_least","_law_most"] (zN ga):=by trivial
theorem g9 {f:Addr}{fd:FuncData}(F:Fun K "_law_whole" "_law_whole" ga f fd) (G:Mgs mg):FnOk P w K mg base CX0 1 f fd ["_law_thing","_law_least","_law_most"] (oT K):=by
 refine F.ok bC (λa H Q E h=>?_) (λd A outer s H a Q E g h=>?_)
 ·obtain⟨x,lo,hi,rfl,_⟩:=h
  rfl
 obtain⟨x,lo,hi,rfl,c,k⟩:=h;refine⟨_,(@zH _ _ _ (@zU _ _ _ _ (@xX _ _ _ _ _ _ _ (@zL _ _ _ _ _ _ _ _ _ yQ (by rfl) G.isi (by rfl) (@zA _ _ _ _ _ (@qv _ 0 _ _ (by trivial)) (@zA _ _ _ _ _ (@ya _ _ (.ty "int") (.type "int") _ (by rfl) G.int (by rfl) rfl (by decide) (by decide)) zB (by rfl)) (by rfl)) (by decide) (by decide) (by rfl) (by rfl)) (@xX _ _ _ _ _ _ _ (@jA _ _ _ _ (@zL _ _ _ _ _ _ _ _ _ yQ (by rfl) G.isi (by rfl) (@zA _ _ _ _ _ (@qv _ 0 _ _ (by trivial)) (@zA _ _ _ _ _ (@ya _ _ (.ty "bool") (.type "bool") _ (by rfl) G.bool (by rfl) rfl (by decide) (by decide)) zB (by rfl)) (by rfl)) (by decide) (by decide) (by rfl) (by rfl))) (@wF _ _ _ _ _ (@rc _ _ _ _ _ _ _ _ _ _ _ _ tI tI (@qv _ 1 _ _ (by trivial)) (@qv _ 0 _ _ (by trivial)) (@qv _ 2 _ _ (by trivial)) (by with_unfolding_all rfl))))))),?_⟩;obtain⟨t,I⟩:=c.isi;refine⟨_,rfl,_,"int",_,_,rfl,I.ty,I.int,_,rfl,?_⟩
 cases x with
 | int i =>
  refine zz ⟨_,rfl,_,"bool",_,_,rfl,I.ty,I.bool,_,rfl,_,rfl,zz ⟨_,rfl,_,rfl,_,_,rfl,rfl,_,rfl,?_⟩⟩;have e:whB lo hi (.int i)=(decide (lo<=i) && decide (i<=hi)):=rfl;rw[e]at k;by_cases z:lo<=i
  ·rw[Jw z]at k ⊢
   exact zz ⟨_,rfl,_,_,rfl,rfl,k⟩
  ·rw[Jj z]at k ⊢
   exact zr k
 | bl b =>
  refine zz ⟨_,rfl,_,"bool",_,_,rfl,I.ty,I.bool,_,rfl,_,rfl,?_⟩
  exact zr k
 | non=>exact zr k
 | str z=>exact zr k
 | flt z=>exact zr k
 | byt z=>exact zr k
 | ref z=>exact zr k
 | ty z=>exact zr k
theorem bA:FnScope ["_law_net_here","_law_thing"] ["_law_net_here","_law_thing"] (zN sN):=by trivial
theorem mE {f L:Addr}{fd O:FuncData}(F:Fun K "_law_are_turns" "_law_are_turns" sN f fd) (G:Mgs mg) (j:Use P w K mg base "_law_whole" ["_law_thing","_law_least","_law_most"] 1 (oT K) L O):FnOk P w K mg base CX0 2 f fd ["_law_net_here","_law_thing"] (vz K):=by
 refine F.ok bA (λD H Q E h=>?_) (λR A outer s H D Q E J h=>?_)
 ·obtain⟨r,fr,M,m,N,x,rfl,_⟩:=h
  rfl
 obtain⟨r,fr,M,m,N,x,rfl,ok,na,u,k⟩:=h;refine⟨_,(@zF _ _ _ _ _ (@yH _ _ _ _ _ _ _ _ (@wE _ _ _ _ _ _ _ (@xO _ _ _ _ (@yp _ _ _ (@zL _ _ _ _ _ _ _ _ _ yQ (by rfl) G.isi (by rfl) (@zA _ _ _ _ _ (@qv _ 1 _ _ (by trivial)) (@zA _ _ _ _ _ (@ya _ _ (.ty "tuple") (.type "tuple") _ (by rfl) G.tuple (by rfl) rfl (by decide) (by decide)) zB (by rfl)) (by rfl)) (by decide) (by decide) (by rfl) (by rfl)) (by intro _;rfl))) (@xt _ _ _ _ (@zp _ _ _ _ _ _ _ _ tH (@zL _ _ _ _ _ _ _ _ _ zR (by rfl) G.len Jy (@zA _ _ _ _ _ (@qv _ 1 _ _ (by trivial)) zB (by rfl)) (by decide) (by decide) (by rfl) (by rfl)) (@zL _ _ _ _ _ _ _ _ _ zR (by rfl) G.len Jy (@zA _ _ _ _ _ (@zX _ _ _ _ _ _ _ zv (@qv _ 0 _ _ (by trivial)) zD (λ_ _=>rfl)) zB (by rfl)) (by decide) (by decide) (by rfl) (by rfl)) (zt _)))).pt (@zH _ _ _ (@zU _ _ _ _ yo)) zq) (@zH _ _ _ (@zU _ _ _ _ (@zL _ _ _ _ _ _ _ _ _ (xJ rfl true) (by rfl) G.all (by rfl) (@zA _ _ _ _ _ (@wc _ _ _ _ none _ _ _ _ _ _ ["_law_turn"] [none] rfl (@yg _ _ _ _ (@qv _ 1 _ _ (by trivial))) (CapOk.of (by kernel_rfl)) (λ_ _ _ _ _=>(@zM _ _ 0 _ (show (["_law_turn"]:List Str).Nodup from by decide +kernel) rfl (.inl rfl) (.inr rfl))) (λ_ _ _ _ _=>yj) (λ_ _ _ _ _=>(@zK _ _ _ _ _ _ _ _ _ _ _ _ _ _ _ _ j.ok J (by rfl) j.m j.kp j.b .nil zS (@zA _ _ _ _ _ (@qv _ 0 _ _ (by trivial)) (@zA _ _ _ _ _ zD (@zA _ _ _ _ _ zD zB (by rfl)) (by rfl)) (by rfl)) (by decide) (by rfl) (by rfl))) (by intro _;rfl)) zB (by rfl)) (by decide) (by decide) (by rfl) (by rfl))))),?_⟩;obtain⟨t,I⟩:=u.any.isi;have pl:=na.prs.len;refine⟨_,rfl,_,"tuple",_,_,rfl,I.ty,I.tup,_,rfl,?_⟩
 cases z:zc H x with
 | none =>
  have e2:yF H (N.forks.length:Nat) 2 x=false:=by unfold yF;rw[z]
  rw[e2]at k
  exact zz (zz (k H (Same.refl H)))
 | some xs =>
  have e2:yF H (N.forks.length:Nat) 2 x=(decide ((xs.length:Int)=(N.forks.length:Nat)) && xs.all (xT 2)):=by unfold yF;rw[z]
  rw[e2]at k;obtain⟨a,rfl,p⟩:=zw z;refine zr ⟨_,rfl,_,_,rfl,.inr (SqT.of p),_,rfl,r,_,_,_,rfl,rfl,SqT.of na.net,rfl,fr,m,rfl,.inr (SqT.of na.forks),rfl,_,rfl,?_⟩;show if (!decide (V.int ((xs.length:Nat):Int)=V.int ((m.length:Nat):Int)))=true then _ else _;by_cases lm:(xs.length:Int)=(N.forks.length:Nat)
  ·rw[Jw lm]at k
   rw[Jw (JH V.int (by rw[pl];exact lm))];refine zr ⟨_,rfl,a,rfl,⟨_,SqT.of p⟩,λl C=>?_⟩;refine xy (K:=K) (a:=a) (xs:=xs) (λi acc σ b=>(∃ v,σ=[v])/\Same H b/\b l=some (.lst acc)/\acc=((xs.take i).map (xT 2)).map V.bl) ⟨⟨_,rfl⟩,zC C _,zE,rfl⟩ (λi acc σ b q=>⟨q.2.2.1,SqT.of (q.2.1 _ _ p)⟩) ?_ ?_
   ·rintro i y acc σ b n ⟨⟨v,rfl⟩,d,g,rfl⟩
    have B:=(J8.mp n).1;refine⟨_,rfl,y,0,1,rfl,AnyT.same d (((u.2 xs z).2 y (Jq n))),?_⟩;refine⟨g,?_,nx B ⟨⟨_,rfl⟩,λc o e=>?_,zE,?_⟩⟩
    ·rw[Jc,Jc,Jh];exact Z9 (Nat.min_le_left _ _) (Jx (show i<1000 by have:=(u.2 xs z).1;lia) (by decide))
    ·rw[zJ (zG e C)];exact d c o e
    ·rw[JQ B,JB,JB,(J8.mp n).2,lY];rfl
   ·rintro acc σ b ⟨⟨v,rfl⟩,d,g,rfl⟩
    rw[JR]at g;refine⟨l,xs.map (xT 2),rfl,SqL.of g,?_⟩;rw[List.all_map];exact k b d
  ·rw[Jj lm]at k
   rw[Jj λy=>lm (by injection y with y;rw[pl]at y;exact y)];refine zz ?_;exact k H (Same.refl H)
end
end K46
namespace L2
open PySem PySem.Spec PyProof.Rows Own Bn
section
theorem o9 {α:Type}[DecidableEq α]:∀ {l ks:List α},l.Nodup->(∀ x∈l,x∈ks)->l.length<=ks.length
 | [],_,_,_=>JL _
 | a::l,ks,nd,h=>by
  rw[JT]at nd;have ha:=h a (.head _);have:=o9 (l:=l) (ks:=ks.erase a) nd.2 λx b=>(List.mem_erase_of_ne λ(z:x=a)=>nd.1 (z ▸ b)).mpr (h x (.tail _ b));rw[List.length_erase_of_mem ha]at this;have:0<ks.length:=List.length_pos_of_mem ha;rw[Yk];lia
end
end L2
namespace K46
open PySem L2 Own Bn
abbrev pI:Stmt:=top 37
theorem lB (c:Int):c-c / 2=(c+1) / 2:=by lia
section
variable {P:Program}{w:World}{K:PySem.W.Frag}{mg:Str->Option Value}{base:Heap}
theorem kN:FnScope ["_law_net_here","_law_counts","_law_row","_law_a","_law_b","_law_total"] ["_law_net_here","_law_counts"] (zN pI):=by trivial
theorem jN {f:Addr}{fd:FuncData}(F:Fun K "_law_ends" "_law_ends" pI f fd) (G:Mgs mg):FnOk P w K mg base CX0 1 f fd ["_law_net_here","_law_counts"] qw:=by
 refine F.ok kN (λX H Q E h=>?_) (λad A outer s H X Q E hr h=>?_)
 ·obtain⟨r,fr,S,O,N,c,cs,rfl,_⟩:=h
  rfl
 obtain⟨r,fr,S,O,N,c,cs,rfl,ok,na,Y,cl,k⟩:=h;refine⟨_,(@zF _ _ _ _ _ (@zZ _ _ 2 _ _ _ _ kN.nd rfl (.inr rfl) (@zY _ _ _ _ _ _ _ _ _ yP (by rfl) G.list (by rfl) (@zA _ _ _ _ _ (@qv _ 1 _ _ (by trivial)) zB (by rfl)) (by decide) (by decide) (by rfl) (by rfl)) (by rfl) (by trivial)) (@zF _ _ _ _ _ (@yd _ _ _ _ _ _ _ _ JN rfl (@yg _ _ _ _ (@zX _ _ _ _ _ _ _ zv (@qv _ 0 _ _ (by trivial)) zD (λ_ _=>rfl))) (@yL _ _ _ _ _ _ rfl (@zQ _ _ _ _ _ (@zM _ _ 3 _ kN.nd rfl (.inl rfl) (by trivial)) (@zQ _ _ _ _ _ (@zM _ _ 4 _ kN.nd rfl (.inl rfl) (by trivial)) yC (by rfl)) (by rfl)) (by rfl) (by rfl)) (@zF _ _ _ _ _ (@zZ _ _ 5 _ _ _ _ kN.nd rfl (.inl rfl) (@zP _ _ _ _ _ _ _ _ yI (@zX _ _ _ _ _ _ _ zd (@qv _ 2 _ _ (by trivial)) (@qv _ 3 _ _ (by trivial)) (λ_ _=>rfl)) (@zX _ _ _ _ _ _ _ zd (@qv _ 2 _ _ (by trivial)) (@qv _ 4 _ _ (by trivial)) (λ_ _=>rfl))) (by rfl) (by trivial)) (@zF _ _ _ _ _ (@yN _ _ _ _ _ _ (@zP _ _ _ _ _ _ _ _ xY (@qv _ 5 _ _ (by trivial)) (@zP _ _ _ _ _ _ _ _ xw (@qv _ 5 _ _ (by trivial)) zD)) (@xv _ _ _ _ _ _ _ (@qv _ 2 _ _ (by trivial)) (@qv _ 3 _ _ (by trivial)) yu (by intro _;rfl)) (by rfl) (by rfl) (by rfl)) (@zH _ _ _ (@yN _ _ _ _ _ _ (@zP _ _ _ _ _ _ _ _ xw (@qv _ 5 _ _ (by trivial)) zD) (@xv _ _ _ _ _ _ _ (@qv _ 2 _ _ (by trivial)) (@qv _ 4 _ _ (by trivial)) yu (by intro _;rfl)) (by rfl) (by rfl) (by rfl))))) (by intro _;rfl)) (@zH _ _ _ (@zU _ _ _ _ (@zY _ _ _ _ _ _ _ _ _ zi (by rfl) G.tuple (by rfl) (@zA _ _ _ _ _ (@wc _ _ _ _ none _ _ _ _ _ _ ["_law_lane","_law_row"] [none,some 2] rfl (@yg _ _ _ _ (@zX _ _ _ _ _ _ _ zv (@qv _ 0 _ _ (by trivial)) zD (λ_ _=>rfl))) (CapOk.of (by kernel_rfl)) (λ_ _ _ _ _=>(@zM _ _ 0 _ (show (["_law_lane","_law_row"]:List Str).Nodup from by decide +kernel) rfl (.inl rfl) (.inr rfl))) (λ_ _ _ _ _=>yj) (λ_ _ _ _ _=>(@zX _ _ _ _ _ _ (kX K) zd (@qv _ 1 _ _ (by trivial)) (@qv _ 0 _ _ (by trivial)) (λ_ _=>rfl))) (by intro _;rfl)) zB (by rfl)) (by decide) (by decide) (by rfl) (by rfl)))))),?_⟩;refine⟨_,rfl,c,_,rfl,.inr (SqT.of Y),λlo j=>?_⟩;have M:=zC j (.lst (cs.map V.int));refine⟨_,rfl,r,_,_,_,rfl,rfl,SqT.of (M _ _ na.net),rfl,fr,rfl,⟨_,SqT.of (M _ _ na.forks)⟩,?_⟩;refine vG (K:=K) (a:=fr) (xs:=O) (λi σ n=>(∃ L J I,σ=[some (.ref r),some (.ref c),some (.ref lo),L,J,I])/\Same H n/\n lo=some (.lst ((vT (N.forks.take i) cs).1.map V.int))) ⟨⟨_,_,_,rfl⟩,M,zE⟩ (λi σ n _ q=>SqT.of (q.2.1 _ _ na.forks)) ?_ ?_
 ·rintro i p σ n R ⟨⟨L,J,I,rfl⟩,d,m⟩
  obtain⟨a,g,rfl,U,Z⟩:=(na.prs.tups (Tups.of d)).get R;have aa:=ok.fk g (Jq U);have fl:(vT (N.forks.take i) cs).1.length=N.lanes:=by rw[qX,cl]
  have fx:=lE U cs;generalize vT (N.forks.take i) cs=st at *;refine⟨a,_,rfl,SqT.of Z,rfl,_,_,rfl,_,_,rfl,rfl,?_⟩;refine⟨_,rfl,_,rfl,lo,_,_,_,rfl,rfl,SqL.of m,x4 (by lia),_,rfl,_,rfl,lo,_,_,_,rfl,rfl,SqL.of m,x4 (by lia),_,_,rfl,rfl,?_⟩;refine⟨_,rfl,_,rfl,_,_,rfl,rfl,⟨by decide,by decide⟩,_,_,rfl,rfl,?_⟩;refine⟨_,rfl,_,rfl,lo,_,_,g.1,rfl,rfl,m,uW (by rw[Jc];lia),?_⟩;refine⟨_,rfl,_,_,rfl,rfl,⟨by decide,by decide⟩,_,rfl,_,rfl,lo,_,_,g.2,rfl,rfl,zE,uW (by rw[List.length_set,Jc];lia),⟨_,_,_,rfl⟩,λb o e=>?_,?_⟩
  ·rw[zJ (zG e j),zJ (zG e j)];exact d b o e
  ·rw[zE,fx]
   dsimp only;rw[lB];unfold vX;rw[vA,vA]
 ·rintro σ n ⟨⟨L,J,I,rfl⟩,d,m⟩
  have e:N.forks.take O.length=N.forks:=by rw[na.prs.len];exact JR
  rw[e]at m;have fl:(vT N.forks cs).1.length=N.lanes:=by rw[qX,cl]
  have el:N.ends.length=N.lanes:=by rw[ok.en.length_eq,JS]
  have ab:=ok.l16;refine⟨_,rfl,r,_,_,_,rfl,rfl,SqT.of (d _ _ na.net),rfl,S,rfl,⟨_,SqT.of (d _ _ na.ends)⟩,λl T=>?_⟩;refine xy (K:=K) (a:=S) (xs:=zW N.ends) (λi acc σ u=>(∃ v,σ=[v,some (.ref lo)])/\Same n u/\u l=some (.lst acc)/\acc=((N.ends.take i).map λe=>(vT N.forks cs).1.getD e 0).map V.int) ⟨⟨_,rfl⟩,zC T _,zE,rfl⟩ (λi acc σ u z=>⟨z.2.2.1,SqT.of (z.2.1 _ _ (d _ _ na.ends))⟩) ?_ ?_
  ·rintro i x acc σ u C ⟨⟨v,rfl⟩,y,D,t⟩
   have B:i<N.ends.length:=by have:=(J8.mp C).1;rwa [zj]at this
   have ex:x=.int N.ends[i]:=by
    unfold zW at C;rw[JG,Ja B]at C;exact(Jn C).symm
   subst ex;have W:N.ends[i]<N.lanes:=Y8.mp (ok.en.mem_iff.mp (Yj B));refine⟨_,rfl,_,rfl,lo,_,_,_,rfl,rfl,SqL.of (y _ _ m),x4 (by lia),D,?_,nx (by rw[zj];exact B) ⟨⟨_,rfl⟩,λb o e=>?_,zE,?_⟩⟩
   ·rw[t,Jc,Jc,Jh,Js];lia
   ·rw[zJ (zG e T)];exact y b o e
   ·rw[t,JQ B,JB,JB];rfl
  rintro acc σ u ⟨⟨v,rfl⟩,y,D,t⟩;rw[zj,JR]at t;rw[t]at D;exact⟨l,_,rfl,.inl ⟨SqL.of D,λp R=>k p _ ((d.trans y).trans (zC R _)) zE⟩⟩
end
end K46
namespace L2
open PySem PySem.Spec PyProof.Rows Own Bn
def tab2 (led:Bool)(p q:Nat):SetTable:={ SetTable.fresh 0 0 led with place:=#[p,q] }
end L2
namespace L2
open PySem PySem.Spec PyProof.Rows Own PySem.W
def byT (w:World):Bool:=w.params.followText "set-order"
end L2
namespace L2
open PySem PySem.Spec PyProof.Rows Own Bn
def fc (N:Nt):KN->Nat->KN
 | [.inr ts,.inl r],m=>stK (x5 N ts m) [(r+1)%(N.lanes:Nat)]
 | k,_=>k
def bX (ks:List KN)(k:KN):Bool:=ks.any λx=>decide (x=k)
section
variable (N:Nt)(ks:List KN)
def la1 (s:KN)(c:List Int)(a:LAcc)(m:Nat):LAcc :=
 ⟨if bX ks (fc N s m)=true then a.on else dw a.on (fc N s m) (cE ((i3 a.on (fc N s m)).getD (pc c m)) (pc c m)),if dZ N s m=none then a.fl++[pc c m] else a.fl⟩
def laS (moves:List Nat)(a:LAcc)(p:KN × List Int):LAcc:=moves.foldl (la1 N ks p.1 p.2) a
end
end L2
namespace L2
open PySem PySem.Spec PyProof.Rows Own Bn
theorem lC {P:Program}{w:World}{d:Addr}{o:Obj}{xs:KVN}{g:TG}{h:TS}{D:Ends}{σ:St}{H:Hp}(a:Nat->St->Hp->Prop)(s:a 0 σ H)(n:∀ i σ H,a i σ H->H d=some (.frz o (DN P w d xs)))(l:∀ i p σ H,xs[i]?=some p->a i σ H->g (.ref p.2.1) σ H λc f=>h { D with nx:=a (i+1),ct:=a (i+1),bk:=D.nx } c f)(r:∀ σ H,a xs.length σ H->D.nx σ H) :
  ∃ W:Nat->Nat->St->Hp->Prop,(∃ m,W 0 m σ H)/\∀ i m σ H,W i m σ H ->
   ((Itn P w d o xs).stop i H/\D.nx σ H)\/((Itn P w d o xs).go i H/\∃ N:St->Hp->Prop,(∀ e b,N e b->∃ j,j<m/\W (i+1) j e b)/\∀ x b,(Itn P w d o xs).yld i H x b->g x σ b λc f=>h { D with nx:=N,ct:=N,bk:=D.nx } c f):=by
 refine⟨λi m σ H=>m=xs.length-i/\i<=xs.length/\a i σ H,⟨xs.length,rfl,JL _,s⟩,?_⟩;rintro i m σ H ⟨rfl,hi,pv⟩;have k:=n i σ H pv;rcases Nat.lt_or_ge i xs.length with lt|ge
 ·exact .inr ⟨⟨k,lt⟩,a (i+1),λe b q=>⟨xs.length-(i+1),by lia,rfl,lt,q⟩,λx b ⟨u,p,t,e2⟩=>by rw[u,e2];exact l i p σ H t pv⟩
 ·obtain rfl:i=xs.length:=by lia
  exact .inl ⟨⟨k,rfl⟩,r σ H pv⟩
end L2
namespace Bn
open PySem L2 Own
def bd:Nat->Nat
 | 0=>40
 | n+1=>20*(bd n+2)+3
end Bn
namespace Bn
open PySem L2 Own
inductive Pln where
 | net (N:Nt)|way (w k:Nat)|dbl (p:Pln)|ren (p:Pln) (ns:List Nat)|bes (p q:Pln)|beh (p q:Pln)
def pwr (n:Nat):Nat:=if n=2 then 1 else if n=4 then 2 else if n=8 then 3 else if n=16 then 4 else 0
def cU (w k:Nat):Nat:=if w=0 then 2 ^ k*k*(k+1) / 4 else if w=1 then 2 ^ k*k*k / 2 else 2 ^ k*k / 2
namespace Pln
def lanes:Pln->Nat
 | .net N=>N.lanes
 | .way _ k=>2 ^ k
 | .dbl p=>2*p.lanes
 | .ren p _=>p.lanes
 | .bes p q=>p.lanes+q.lanes
 | .beh p _=>p.lanes
def many:Pln->Nat
 | .net N=>N.forks.length
 | .way w k=>cU w k
 | .dbl p=>2*p.many+p.lanes*pwr (2*p.lanes)
 | .ren p _=>p.many
 | .bes p q=>p.many+q.many
 | .beh p q=>p.many+q.many
def hi:Pln->Nat
 | .net _=>1
 | .way _ _=>1
 | .dbl p=>p.hi+1
 | .ren p _=>p.hi+1
 | .bes p q=>max p.hi q.hi+1
 | .beh p q=>max p.hi q.hi+1
end Pln
inductive Kn where
 | no|stair|merges|halves
 deriving DecidableEq
def Kn.v:Kn->V
 | .no=>.non
 | .stair=>.str "stair"
 | .merges=>.str "merges"
 | .halves=>.str "halves"
def Pln.known:Pln->Kn
 | .net N=>if N.lanes=1 then .stair else .no
 | .way w k=>if w<2 then .stair else if k=1 then .stair else .merges
 | .dbl p=>if p.known=.stair then .stair else .no
 | .ren p _=>if p.known=.merges then .no else p.known
 | .bes p q=>if p.known=.stair/\q.known=.stair/\p.lanes=q.lanes then .halves else .no
 | .beh p q=>if q.known=.stair\/p.known=.halves/\q.known=.merges then .stair else .no
end Bn
namespace L2
open PySem PySem.Spec PyProof.Rows Own Bn
structure MgSet (mg:Str->Option Value):Prop where
 set:mg "set" = none
end L2
namespace L2
open PySem PySem.Spec PyProof.Rows Own PySem.W
section
variable {prog:Program}{w:World}{A:Around}{E:Value->Shared->Prop}{s:Shared}
abbrev eT:Value:=.type "set"
def yw (w:World):Obj:={ cls:=.type "set",dict:=none,data:=.set #[] 0 (.fresh 0 0 (!byT w)) }
theorem kJ (a:Value){Q:Value->Shared->Prop}(q:Q (.ref s.heap.objs.size) { s with heap:=s.heap.push (yw w) }) :
  codeAny (model prog w) A (.call (.builtin "set.__new__") ⟨[.type "set",a],[]⟩) (wants Q E) s:=by
 refine codeAny_call_builtin F.plain_set_new F.entry_set_new ?_;rw[F.newCall_set_1];refine J7 ?_;unfold Builtin.«set.__new__»;unfold Builtin.Frozenset.newClass;refine J0 ?_;show wpAny _ _ (isType (.type "set") >>= _) _ _ _;refine J0 (show wpAny _ _ (pure true) _ _ _ from J7 ?_);show wpAny _ _ (isSubtype (.type "set") (.type "set") >>= _) _ _ _;rw[show isSubtype (.type "set") (.type "set")=pure true from by rw[isSubtype_type];kernel_rfl];refine J0 (J7 (J7 (J0 ?_)));unfold newSet;unfold setsByText;exact J0 (J0 (wpAny_askSetting (J7 (JF (J7 q)))))
theorem i7 {a:Value}{n:Nat}{Q:String->Shared->Prop}(ty:s.TypeIs a "set") (q:∀ x,Q x s):wpAny (model prog w) A (typeNameOfCut n a) Q E s:=by
 unfold typeNameOfCut;unfold shownTypeOf;refine J0 (J0 (Yr ty (YD (λz=>absurd z (by decide)) λ_=>J7 ?_)));exact(show wpAny _ _ (pure _) _ _ _ from J7 (q _))
theorem nu {l d:Addr}{its:Array Value}{R:PySem.Fin->Shared->Prop}(f:s.heap.get? d=some (yw w)) (g:SqO false s.heap l its)
  (q:codeAny (model prog w) A (.builtin "set.update.loop" ⟨[.ref d,.ref s.heap.objs.size],[]⟩) (wants (λ_=>R (.done (.ret .none))) E) { s with heap:=s.heap.push { cls:=.type "tuple_iterator",data:=.fields #[.ref l,.int 0 0] } }) :
  wpAny (model prog w) A (Builtin.«set.__init__» ⟨[.ref d,.ref l],[]⟩) R E s:=by
 obtain⟨ol,i,h,m⟩:=(show IsTup s.heap l its from g);have a:s.TypeIs (.ref l) "tuple":=⟨_,i,h⟩;have ty:s.TypeIs (.ref d) "set":=⟨_,f,rfl⟩;unfold Builtin.«set.__init__»;refine J0 (show wpAny _ _ (pure ()) _ _ _ from J7 ?_);refine J0 (i7 ty λx=>(J0 (show wpAny _ _ (pure ()) _ _ _ from J7 ?_)));refine J0 (show wpAny _ _ (pure d) _ _ _ from J7 ?_);unfold setUsed;refine J0 (J0 (wpAny_setState_of f rfl rfl (J7 ?_)));refine YD (λz=>absurd z (by simp[SetTable.fill,SetTable.fresh])) λ_=>?_;refine J0 ?_;unfold Builtin.Frozenset.updateFrom Builtin.Frozenset.isAnySet;apply J0;show wpAny _ _ (isInstance (.ref l) (.type "set") >>= _) _ _ _;refine J0 (YK (b:=false) a (by rw[isSubtype_type];kernel_rfl) ?_);refine(show wpAny _ _ (isInstance (.ref l) (.type "frozenset")) _ _ _ from YK (b:=false) a (by rw[isSubtype_type];kernel_rfl) ?_);refine YD (λz=>absurd z (by decide)) λ_=>?_;refine J0 (Yr a (YD (λz=>absurd z (by decide)) λ_=>?_));refine J0 (xW (b:=false) g (J0 (wpAny_runValue (YJ q λr k c=>?_))))
 cases r with
 | error e=>exact c
 | ok j =>
  cases j with
  | ret v=>exact J7 (J7 c)
  | _=>exact c
theorem nv {l:Addr}{its:Array Value}{Q:Value->Shared->Prop}(m:A.handled=none) (h:SqO false s.heap l its)
  (q:codeAny (model prog w) A.in1.in1 (.builtin "set.update.loop" ⟨[.ref s.heap.objs.size,.ref (s.heap.push (yw w)).objs.size],[]⟩) (wants (λ_=>Q (.ref s.heap.objs.size)) E) { s with heap:=(s.heap.push (yw w)).push { cls:=.type "tuple_iterator",data:=.fields #[.ref l,.int 0 0] } }) :
  wpAny (model prog w) A (call eT [.ref l]) Q E s:=by
 apply wpAny_call;apply codeAny_of_tree;refine(show wpAny _ _ (callAny (.type "set") _) _ _ _ from J7 ⟨Code.quiet_builtin _ (by decide +kernel),?_⟩);refine codeAny_builtin F.entry_type_call ?_;rw[Around.under_plain rfl rfl]
 delta Builtin.«type.__call__»
 dsimp only;refine YD (λz=>absurd z (by decide)) λ_=>?_;refine YD (λz=>absurd z (by rw[F.called_set.canCreate];decide)) λ_=>?_;rw[F.typeCall_set_1];refine J0 (J7 ?_);obtain⟨k,j,g⟩:=F.called_set.mro;rw[g];refine J0 (J7 (YD (λz=>absurd z (by simp)) λ_=>?_));rw[F.called_set.made];refine J0 (J7 (J0 (J7 (J0 (Y4 ?_)))));refine wpAny_call (YJ (kJ (E:=E) (Q:=λob a=>ob=.ref s.heap.objs.size/\a={ s with heap:=s.heap.push (yw w) }) (.ref l) ⟨rfl,rfl⟩) λr a c=>?_)
 cases r with
 | error e=>exact c
 | ok d =>
  cases d with
  | ret v =>
   obtain⟨rfl,rfl⟩:=c;have f:(s.heap.push (yw w)).get? s.heap.objs.size=some (yw w):=Jk _ rfl;have ty:({ s with heap:=s.heap.push (yw w) }:Shared).TypeIs (.ref s.heap.objs.size) "set":=⟨_,f,rfl⟩;refine J0 (YK (b:=true) ty F.called_set.sub (YD (λz=>absurd z (by decide)) λ_=>J0 (Y4 ?_)));refine wpAny_callSpecial?_slot ty F.called_set.init (wpAny_call (codeAny_call_builtin F.called_set.init.plain F.entry_set_init (check_set_init_1 ty ?_)));refine JC (nu (R:=λfin a=>fin=.done (.ret .none)/\Q (.ref s.heap.objs.size) a) (E:=E) f (h.mv λo e=>J2 _ e) (YJ q λr a c=>?_)) (λfin a c=>?_) λe a c=>c
   ·cases r with
    | error e=>exact c
    | ok d =>
     cases d with
     | ret v=>exact⟨rfl,c⟩
     | _=>exact c
   ·obtain⟨rfl,i⟩:=c
    exact J7 i
  | _=>exact c
end
def PhE (a:Addr)(h:Heap):Prop:=∃ o b c t,h.get? a=some o/\o.ExactSet/\o.data=.set b c t/\t.fits b.size=true/\b.size<scanBound
def tSe (a:Addr):HO:=.ext (PhE a)
theorem PhE.ok {P:Program}{w:World}{H:Hp}{h:Heap}{a:Addr}(p:PhE a h):ObjOk P w H h a (tSe a):=by
 obtain⟨o,d,e,t,b,c⟩:=id p;exact⟨p,⟨o,b⟩,λg f ⟨o,d,e,t,b,c⟩ s=>⟨o,d,e,t,s o b,c⟩⟩
section
variable {X:Cx}
theorem lL (E:X.calm=true):CallR X (.type "set") (λvs H Q=>∃ a ns,vs=[.ref a]/\SqT X.K H a (List.map V.int ns)/\ns.length<=1000/\∀ p,H p=none->Q (.ref p) (upd H p (tSe p))):=by
 intro pins s σ H vs us Q I M h;obtain⟨a,ns,rfl,O,l,q⟩:=h;obtain⟨u,rfl,N⟩:=M.one;cases N;obtain⟨c,r,p,_⟩:=I.tuple O;have hl:c.length=ns.length:=by rw[<- r.length,Jc]
 have x:SqO false s.heap a c.toArray:=p;refine nv (I.ok.hd E) x ?_;generalize j:s.heap.objs.size=d
 have lt:a<d:=by
  obtain⟨o,n,e,_⟩:=x.ob;rw[<- j];exact Jg e
 have D:(s.heap.push (yw X.w)).objs.size=d+1:=by rw[size_push',j]
 rw[D]
 have G:((s.heap.push (yw X.w)).push { cls:=.type "tuple_iterator",data:=.fields #[.ref a,.int 0 0] }).get? (d+1)=some { cls:=.type "tuple_iterator",data:=.fields #[.ref a,.int 0 0] }:=by
  rw[<- D];exact Jk _ rfl
 have F:((s.heap.push (yw X.w)).push { cls:=.type "tuple_iterator",data:=.fields #[.ref a,.int 0 0] }).get? d=some (yw X.w):=J2 _ (by rw[<- j];exact Jk _ rfl);have old:∀ b o,s.heap.get? b=some o->((s.heap.push (yw X.w)).push { cls:=.type "tuple_iterator",data:=.fields #[.ref a,.int 0 0] }).get? b=some o:=λb o e=>J2 _ (J2 _ e);generalize (s.heap.push (yw X.w)).push { cls:=.type "tuple_iterator",data:=.fields #[.ref a,.int 0 0] }=h0 at G F old ⊢;have W:=(oR (prog:=X.prog) (w:=X.w) (A:=X.A.in1.in1.in1) (show X.A.in1.in1.in1.handled=none from I.ok.hd E) false (d+1) a (Jt (YE lt)) c.toArray).toS;refine codeAny_set_update_loopS (A:=X.A.in1.in1) W d ?_ (λi=>ns.getD i 0) (λi v e=>?_) (by rw[show scanBound=4096 from rfl,Je];lia) _ 0 _ rfl (JL _) ⟨⟨_,G,rfl,rfl⟩,x.mv λo e=>old a o e⟩ ?_ λf mv L=>?_
 ·intro z
  rcases Ji.mp z with e|z
  ·exact absurd e (Jt (Nat.lt_succ_self d))
  ·rw[Jd.mp z]at lt
   exact absurd lt (Yc _)
 ·have m:c[i]?=some v:=by simpa using e
  have hi:=(J8.mp m).1
  have e2:(List.map V.int ns)[i]?=some (V.int (ns.getD i 0)):=by
   rw[JG,Jm,Ja (by lia)];rfl
  obtain⟨u',J,⟨t,rfl⟩⟩:=r.get e2;rw[m]at J;exact⟨t,Jn J⟩
 ·exact⟨_,#[],0,_,F,⟨rfl,rfl,rfl⟩,rfl,λe y=>(nomatch y),λk=>⟨λz=>(by cases z),λ⟨e,y,_⟩=>(nomatch y)⟩,by decide,rfl,rfl⟩
 ·obtain⟨o,P,R,t,Y,e2,U,_,_,T,S,_⟩:=L
  have bl:∀ b o,s.heap.get? b=some o->b∉[d,d+1]:=λb o e z=>by
   have C:b<d:=by rw[<- j];exact Jg e
   rcases Ji.mp z with q|q
   ·exact absurd q (Jt C)
   ·exact absurd (Jd.mp q) (Jt (YE C))
  have Z:=I.laid (a:=d) (o:=tSe d) (h':=f.heap) (t':=f.toks) (λb o e=>mv.heap b o (bl b o e) (old b o e)) (by rw[j];exact Jb _) (PhE.ok ⟨o,P,R,t,Y,e2,U,S,T⟩);refine⟨.ref d,_,?_,rfl,q d (I.hok.fresh (by rw[j];exact Jb _))⟩
  have B:f={ s with heap:=f.heap,toks:=f.toks }:=by
   obtain⟨_,g,K,os,_⟩:=mv;cases f;cases s;simp only at g K os ⊢;subst g K os;rfl
  rw[B];exact Z
theorem lR:CallR X (.builtin "len") (λvs H Q=>∃ a,vs=[.ref a]/\H a=some (tSe a)/\∀ n:Nat,Q (.int n) H):=by
 intro pins s σ H vs l Q I b ⟨a,e,d,q⟩;subst e;obtain⟨u,rfl,c⟩:=b.one;cases (show u=Value.ref a from c);obtain⟨⟨o,k,m,t,j,i,h,g,f⟩,_,_⟩:=(show ObjOk X.prog X.w H s.heap a (tSe a) from I.hok a _ d);exact call_len_set j i h g (by rw[show scanBound=4096 from rfl]at f;lia) ⟨.int k.size,H,I.tok _,⟨_,rfl⟩,q _⟩
end
end L2
namespace Bn
open PySem L2 Own
def col (N:Nt)(d i j:Nat):Int:=((List.range N.lanes).map λa=>(vT (N.forks.take i) (eQ N.lanes a (pw d))).1.getD j 0).sum
end Bn
namespace Bn
open PySem L2 Own
structure Tst where
 sets:List Nat
 spots:List (Option (Nat × Nat))
 came:List Nat
 nms:List Nat
def S0 (N:Nt):Tst:=⟨List.replicate N.forks.length 0,[],List.replicate N.lanes 0,[]⟩
end Bn
namespace Bn
open PySem L2 Own
def dl (lane l:Nat):Int:=if l=lane then 1 else 0
def bV (p:Nat × Nat->Bool):Option (Nat × Nat)->Bool
 | some o=>p o
 | none=>false
def cnt (os:List (Option (Nat × Nat)))(p:Nat × Nat->Bool):Int:=(os.countP (bV p):Nat)
def b2i (b:Bool):Int:=if b=true then 1 else 0
end Bn
namespace L2
open PySem
abbrev dq (K:PySem.W.Frag)(b:Bool):List V->Hp->VK->Prop:=λc H Q=>∃ a ns,c=[.ref a]/\SqB b K H a (List.map V.int ns)/\0<ns.length/\∀ M,M∈ns->(∀ x∈ns,M<=x)->Q (.int M) H
end L2
namespace K46
open PySem L2 Own Bn
abbrev pN:Stmt:=top 43
abbrev gh:Stmt:=top 45
def sF:Sp:=λc H Q _=>∃ r fr e d N sm,∃ moves:List Nat,c=[.ref r,.ref sm]/\Nt.Ok N/\NetAt H r fr e d N/\H sm=some (.tup (zW moves))/\∀ a (b:Bool),Same H a->Q (.bl b) a
def sB (b:Bool):Sp:=λe H Q _=>∃ (c:Addr) (a:List Int),e=[.ref c]/\H c=some (match b with|true=>.lst (a.map V.int)|false=>.tup (a.map V.int))/\a≠[]/\a.length<=1000/\∀ p d,Same H d->d p=some (.tup ((vS a).map V.int))->Q (.ref p) d
section
variable {P:Program}{w:World}{K:PySem.W.Frag}{mg:Str->Option Value}{base:Heap}
theorem gY:FnScope ["_law_net_here","_law_some_here","_law_lane","_law_counts"] ["_law_net_here","_law_some_here"] (zN pN):=by trivial
theorem jS {f fE:Addr}{fd dE:FuncData}(F:Fun K "_law_even" "_law_even" pN f fd) (G:Mgs mg) (GS:MgSet mg) (u:Use P w K mg base "_law_ends" ["_law_net_here","_law_counts"] 1 qw fE dE):FnOk P w K mg base CX0 2 f fd ["_law_net_here","_law_some_here"] sF:=by
 refine F.ok gY (λS H Q E h=>?_) (λab A outer s H S Q E X h=>?_)
 ·obtain⟨r,fr,R,M,N,sm,moves,rfl,_⟩:=h
  rfl
 obtain⟨r,fr,R,M,N,sm,moves,rfl,ok,na,g,k⟩:=h;refine⟨_,(@zF _ _ _ _ _ (@yd _ _ _ _ _ _ _ _ JN rfl (@yg _ _ _ _ (@qv _ 1 _ _ (by trivial))) (@zM _ _ 2 _ gY.nd rfl (.inr rfl) (by trivial)) (@zF _ _ _ _ _ (@zZ _ _ 3 _ _ _ _ gY.nd rfl (.inl rfl) (@zY _ _ _ _ _ _ _ _ _ zi (by rfl) G.tuple (by rfl) (@zA _ _ _ _ _ (@wc _ _ _ _ none _ _ _ _ _ _ ["_law_one","_law_lane"] [none,some 2] rfl (@yk _ _ _ _ _ _ rfl G.range (@zA _ _ _ _ _ (@zX _ _ _ _ _ _ _ zv (@qv _ 0 _ _ (by trivial)) zD (λ_ _=>rfl)) zB (by rfl)) (by rfl)) (CapOk.of (by kernel_rfl)) (λ_ _ _ _ _=>(@zM _ _ 0 _ (show (["_law_one","_law_lane"]:List Str).Nodup from by decide +kernel) rfl (.inl rfl) (.inr rfl))) (λ_ _ _ _ _=>yj) (λ_ _ _ _ _=>(@zP _ _ _ _ _ _ _ _ xZ (@zP _ _ _ _ _ _ _ _ sj zD zD) (@zY _ _ _ _ _ _ _ _ _ wV (by rfl) G.int (by rfl) (@zA _ _ _ _ _ (@y8 _ _ _ _ _ _ _ _ xD (@qv _ 0 _ _ (by trivial)) (@qv _ 1 _ _ (by trivial)) (zt _)) zB (by rfl)) (by decide) (by decide) (by rfl) (by rfl)))) (by intro _;rfl)) zB (by rfl)) (by decide) (by decide) (by rfl) (by rfl)) (by rfl) (by trivial)) (@zH _ _ _ (@yH _ _ _ _ _ _ _ _ (@zp _ _ _ _ _ _ _ _ rg (@zL _ _ _ _ _ _ _ _ _ lR (by rfl) G.len Jy (@zA _ _ _ _ _ (@zY _ _ _ _ _ _ _ _ _ (lL rfl) (by rfl) GS.set (by rfl) (@zA _ _ _ _ _ (@zK _ _ _ _ _ _ _ _ _ _ _ _ _ _ _ _ u.ok X (by rfl) u.m u.kp u.b .nil zS (@zA _ _ _ _ _ (@qv _ 0 _ _ (by trivial)) (@zA _ _ _ _ _ (@qv _ 3 _ _ (by trivial)) zB (by rfl)) (by rfl)) (by decide) (by rfl) (by rfl)) zB (by rfl)) (by decide) (by decide) (by rfl) (by rfl)) zB (by rfl)) (by decide) (by decide) (by rfl) (by rfl)) zD (zt _)) (@zH _ _ _ (@zU _ _ _ _ yo)) zq))) (by intro _;rfl)) (@zH _ _ _ (@zU _ _ _ _ yo))),?_⟩;have aa:=ok.l16;refine⟨_,rfl,sm,rfl,⟨_,SqT.of g⟩,?_⟩;refine vG (K:=K) (a:=sm) (xs:=zW moves) (λj σ b=>(∃ B y,σ=[some (.ref r),some (.ref sm),B,y])/\Same H b) ⟨⟨_,_,rfl⟩,Same.refl _⟩ (λj σ b _ z=>SqT.of (z.2 _ _ g)) ?_ ?_
 ·rintro j x σ b D ⟨⟨B,y,rfl⟩,t⟩
  unfold zW at D;rw[JG]at D;obtain⟨m,em,rfl⟩:=Y9.mp D;refine⟨_,rfl,r,_,_,_,rfl,rfl,SqT.of (t _ _ na.net),rfl,_,rfl,by lia,by lia,λl O=>?_⟩;refine qO (lo:=0) (n:=((N.lanes:Nat):Int).toNat) (λi acc σ d=>(∃ v,σ=[v,some (.int (m:Nat))])/\Same b d/\d l=some (.lst acc)/\∃ cs:List Int,acc=cs.map V.int/\cs.length=i) ⟨⟨_,rfl⟩,zC O _,zE,[],rfl,rfl⟩ (λi acc σ d z=>z.2.2.1) ?_ ?_
  ·rintro i acc σ d W ⟨⟨v,rfl⟩,C,I,cs,rfl,cl⟩
   refine⟨_,_,rfl,rfl,⟨by decide,by decide,by decide⟩,_,rfl,_,rfl,rfl,.inr ⟨_,rfl,_,_,rfl,rfl,.inl ⟨by decide,by decide⟩,I,by rw[Jc,Js];lia,nx W ⟨⟨_,rfl⟩,λc o e=>?_,zE,cs++[2 ^ Int.toNat 60*(if decide (V.int (0+(i:Nat))=V.int (m:Nat))=true then 1 else 0)],?_,by rw[J9,cl];rfl⟩⟩⟩
   ·rw[zJ (zG e O)];exact C c o e
   ·rw[JB];rfl
  ·rintro acc σ d ⟨⟨v,rfl⟩,C,I,cs,rfl,cl⟩
   refine⟨l,_,rfl,.inl ⟨SqL.of I,λp Z=>?_⟩⟩;have U:=zC Z (.tup (cs.map V.int));have L:=(t.trans C).trans U;refine⟨_,rfl,_,rfl,r,fr,R,M,N,p,cs,rfl,ok,na.tups (Tups.of L),zE,by rw[cl];lia,λe H4 T h5=>?_⟩
   have el:(jr N cs).length=N.lanes:=by
    unfold jr;rw[Jc,ok.en.length_eq,JS]
   refine⟨e,_,rfl,SqT.of h5,by lia,λq Y=>⟨q,rfl,zE,λn=>⟨_,_,rfl,rfl,_,rfl,?_⟩⟩⟩;have J:=(L.trans T).trans (zC Y (tSe q));exact ve (λ_=>k _ false J) λ_=>⟨⟨_,_,rfl⟩,J⟩
 ·rintro σ b ⟨⟨B,y,rfl⟩,t⟩
  exact k b true t
theorem cz:FnScope ["_law_heights"] ["_law_heights"] (zN gh):=by trivial
theorem iU {f:Addr}{fd:FuncData}(F:Fun K "_law_lowered" "_law_lowered" gh f fd) (G:Mgs mg):FnOk P w K mg base CX0 1 f fd ["_law_heights"] (sB false):=by
 refine F.ok cz (λu H Q E h=>?_) (λC A outer s H u Q E D h=>?_)
 ·obtain⟨c,j,rfl,_⟩:=h
  rfl
 obtain⟨c,j,rfl,n,ne,I,k⟩:=h;refine⟨_,(@zH _ _ _ (@zU _ _ _ _ (@zY _ _ _ _ _ _ _ _ _ zi (by rfl) G.tuple (by rfl) (@zA _ _ _ _ _ (@wc _ _ _ _ none _ _ _ _ _ _ ["_law_height","_law_heights"] [none,some 0] rfl (@yg _ _ _ _ (@qv _ 0 _ _ (by trivial))) (CapOk.of (by kernel_rfl)) (λ_ _ _ _ _=>(@zM _ _ 0 _ (show (["_law_height","_law_heights"]:List Str).Nodup from by decide +kernel) rfl (.inl rfl) (.inr rfl))) (λ_ _ _ _ _=>yj) (λ_ _ _ _ _=>(@zP _ _ _ _ _ _ _ _ xY (@qv _ 0 _ _ (by trivial)) (@zL _ _ _ _ _ _ _ _ (dq K false) (wU rfl false) (by rfl) G.min (by rfl) (@zA _ _ _ _ _ (@qv _ 1 _ _ (by trivial)) zB (by rfl)) (by decide) (by decide) (by rfl) (by rfl)))) (by intro _;rfl)) zB (by rfl)) (by decide) (by decide) (by rfl) (by rfl)))),?_⟩;refine⟨_,rfl,c,rfl,⟨_,SqT.of n⟩,λl d=>?_⟩;refine xy (K:=K) (a:=c) (xs:=j.map V.int) (λi acc σ b=>(∃ v,σ=[v,some (.ref c)])/\Same H b/\b l=some (.lst acc)/\acc=((j.take i).map λh=>h-vF j).map V.int) ⟨⟨_,rfl⟩,zC d _,zE,rfl⟩ (λi acc σ b q=>⟨q.2.2.1,SqT.of (q.2.1 _ _ n)⟩) ?_ ?_
 ·rintro i y acc σ b r ⟨⟨v,rfl⟩,g,m,rfl⟩
  rw[JG]at r;obtain⟨h,t,rfl⟩:=Y9.mp r;have p:=(J8.mp t).1;refine⟨_,rfl,_,rfl,c,_,rfl,SqT.of (g _ _ n),List.length_pos_iff.mpr ne,λM x z=>?_⟩;rw[<- vE x z];refine⟨_,_,rfl,rfl,m,?_,nx (by rw[Jc];exact p) ⟨⟨_,rfl⟩,λc o e=>?_,zE,?_⟩⟩
  ·rw[Jc,Jc,Jh,Js];lia
  ·rw[zJ (zG e d)];exact g c o e
  ·rw[JQ p,JB,JB,(J8.mp t).2];rfl
 ·rintro acc σ b ⟨⟨v,rfl⟩,g,m,rfl⟩
  rw[Jc,JR]at m;refine⟨l,_,rfl,.inl ⟨SqL.of m,λq B=>?_⟩⟩;exact k q _ (g.trans (zC B _)) zE
abbrev gf:Stmt:=top 36
abbrev gg:Stmt:=top 38
def oU:Sp:=λd H Q _=>∃ a b,∃ (place:Nat),d=[.ref a,.int (place:Nat)]/\H a=some (.tup (List.map V.int b))/\place<b.length/\b.length<=1000/\∀ p c,Same H c->c p=some (.tup ((pc b place).map V.int))->Q (.ref p) c
theorem kL:FnScope ["_law_net_here","_law_turns","_law_lane","_law_row","_law_k","_law_fork"] ["_law_net_here","_law_turns","_law_lane"] (zN gf):=by trivial
theorem fI {f:Addr}{fd:FuncData}(F:Fun K "_law_passed" "_law_passed" gf f fd) (G:Mgs mg):FnOk P w K mg base CX0 1 f fd ["_law_net_here","_law_turns","_law_lane"] (wj false):=by
 refine F.ok kL (λY H Q E h=>?_) (λaa A outer s H Y Q E hr h=>?_)
 ·obtain⟨r,fr,W,B,N,J,ts,lane,rfl,_⟩:=h
  rfl
 obtain⟨r,fr,W,B,N,J,ts,lane,rfl,ok,na,R,tl,bits,hl,k⟩:=h;refine⟨_,(@zF _ _ _ _ _ (@zZ _ _ 3 _ _ _ _ kL.nd rfl (.inl rfl) (@zY _ _ _ _ _ _ _ _ _ yP (by rfl) G.list (by rfl) (@zA _ _ _ _ _ (@qv _ 1 _ _ (by trivial)) zB (by rfl)) (by decide) (by decide) (by rfl) (by rfl)) (by rfl) (by trivial)) (@zF _ _ _ _ _ (@yd _ _ _ _ _ _ _ _ JN rfl (@oh _ _ _ _ _ _ _ _ false rfl G.enum (@zA _ _ _ _ _ (@zX _ _ _ _ _ _ _ zv (@qv _ 0 _ _ (by trivial)) zD (λ_ _=>rfl)) zB (by rfl)) (by rfl)) (@yL _ _ _ _ _ _ rfl (@zQ _ _ _ _ _ (@zM _ _ 4 _ kL.nd rfl (.inl rfl) (by trivial)) (@zQ _ _ _ _ _ (@zM _ _ 5 _ kL.nd rfl (.inl rfl) (by trivial)) yC (by rfl)) (by rfl)) (by rfl) (by rfl)) (@zH _ _ _ (@yH _ _ _ _ _ _ _ _ (@zp _ _ _ _ _ _ _ _ tJ (@qv _ 2 _ _ (by trivial)) (@qv _ 5 _ _ (by trivial)) (by rfl)) (@zF _ _ _ _ _ (@zZ _ _ 2 _ _ _ _ kL.nd rfl (.inl rfl) (@zX _ _ _ _ _ _ _ zv (@qv _ 5 _ _ (by trivial)) (@zX _ _ _ _ _ _ _ zd (@qv _ 3 _ _ (by trivial)) (@qv _ 4 _ _ (by trivial)) (λ_ _=>rfl)) (λ_ _=>rfl)) (by rfl) (by trivial)) (@zH _ _ _ (@yN _ _ _ _ _ _ (@zP _ _ _ _ _ _ _ _ xY zD (@zX _ _ _ _ _ _ _ zd (@qv _ 3 _ _ (by trivial)) (@qv _ 4 _ _ (by trivial)) (λ_ _=>rfl))) (@xv _ _ _ _ _ _ _ (@qv _ 3 _ _ (by trivial)) (@qv _ 4 _ _ (by trivial)) yu (by intro _;rfl)) (by rfl) (by rfl) (by rfl)))) zq)) (by intro _;rfl)) (@zH _ _ _ (@zU _ _ _ _ (@zV _ _ _ _ _ (@zA _ _ _ _ _ (@zY _ _ _ _ _ _ _ _ _ zi (by rfl) G.tuple (by rfl) (@zA _ _ _ _ _ (@qv _ 3 _ _ (by trivial)) zB (by rfl)) (by decide) (by decide) (by rfl) (by rfl)) (@zA _ _ _ _ _ (@oi _ _ _ _ _ _ _ hr.units (@zX _ _ _ _ _ _ _ zv (@qv _ 0 _ _ (by trivial)) zD (λ_ _=>rfl)) (@zA _ _ _ _ _ (@qv _ 2 _ _ (by trivial)) zB (by rfl)) (by rfl) (by rfl) (by rfl) (by rfl)) zB (by rfl)) (by rfl))))))),?_⟩;refine⟨_,rfl,J,_,rfl,.inr (SqT.of R),λm y=>?_⟩;have L:=zC y (.lst (ts.map V.int));refine⟨_,rfl,r,_,_,_,rfl,rfl,SqT.of (L _ _ na.net),rfl,fr,B,rfl,SqT.of (L _ _ na.forks),?_⟩
 refine qW (K:=K) (b:=false) (a:=fr) (xs:=B) (λi σ v=>(∃ I D,σ=[some (.ref r),some (.ref J),some (.int (yS false N.forks ts lane i).2),some (.ref m),I,D])/\Same H v/\v m=some (.lst ((yS false N.forks ts lane i).1.map V.int)))
  ⟨⟨_,_,rfl⟩,L,zE⟩ (λi σ v _ q=>SqT.of (q.2.1 _ _ na.forks)) ?_ ?_
 ·rintro i x σ v T hx hT ⟨⟨I,D,rfl⟩,n,u⟩
  obtain⟨a,g,rfl,X,U⟩:=(na.prs.tups (Tups.of n)).get hx;have gi:i<N.forks.length:=(J8.mp X).1;have gd:N.forks.getD i (0,0)=g:=by rw[Jm,X];rfl
  have rs:yS false N.forks ts lane (i+1)=yG false (yS false N.forks ts lane i) i g:=by show yG _ _ _ _=_;rw[gd]
  have rl:=wP (back:=false) (fs:=N.forks) (ts:=ts) (lane:=lane) i;have rb:=xp (back:=false) (fs:=N.forks) (lane:=lane) bits i;generalize yS false N.forks ts lane i=st at *;have l:=zC hT (.tup [.int i,.ref a]);refine⟨T,_,rfl,SqT.of zE,rfl,_,_,rfl,_,_,rfl,rfl,?_⟩;refine⟨_,rfl,_,rfl,a,_,rfl,.inr (SqT.of (l _ _ U)),rfl,rfl,_,rfl,?_⟩;show if (if false=true then !inV (V.int (st.2:Nat)) [V.int (g.1:Nat),V.int (g.2:Nat)] else inV (V.int (st.2:Nat)) [V.int (g.1:Nat),V.int (g.2:Nat)])=true then _ else _;rw[Jv Jf,jg];by_cases on:st.2=g.1\/st.2=g.2
  ·rw[Jw on]
   refine zz ?_;have c:yG false st i g=(st.1.set i (1-st.1.getD i 0),if st.1.getD i 0=0 then g.1 else g.2):=by unfold yG;rw[JE on];rfl
   have C:i<st.1.length:=by lia
   have O:=l _ _ u
   obtain⟨d,en,ex⟩:∃ d:Nat,d=(yG false st i g).2/\atI [V.int (g.1:Nat),V.int (g.2:Nat)] (st.1.getD i 0)=some (.int (d:Nat)):=by
    rcases rb _ (L2.wJ C) with z|z
    ·exact⟨g.1,by rw[c,z];rfl,by rw[z];exact zx (j:=0) rfl⟩
    ·exact⟨g.2,by rw[c,z];rfl,by rw[z];exact zx (j:=1) rfl⟩
   refine⟨_,rfl,_,rfl,_,rfl,m,_,_,_,rfl,rfl,SqL.of O,x4 C,a,_,_,_,rfl,rfl,SqT.of (l _ _ U),ex,?_⟩;refine⟨_,rfl,_,rfl,m,_,_,_,rfl,rfl,SqL.of O,x4 C,_,_,rfl,rfl,_,rfl,_,rfl,m,_,_,i,rfl,rfl,O,uW (by rw[Jc];exact C),⟨_,_,by rw[rs,<- en];rfl⟩,λb o e=>?_,?_⟩
   ·rw[zJ (zG e y)];exact l _ _ (n b o e)
   ·rw[zE,rs,c,vA]
  ·rw[Jj on]
   have c:yG false st i g=st:=by unfold yG;rw[Jv on]
   exact zr ⟨⟨_,_,by rw[rs,c];rfl⟩,n.trans l,by rw[rs,c];exact l _ _ u⟩
 ·rintro σ v ⟨⟨I,D,rfl⟩,n,u⟩
  have pl:=na.prs.len;rw[pl]at u;have hh:=xN (back:=false) (ts:=ts) ok.fk hl N.forks.length (Jb _);refine⟨_,rfl,m,_,rfl,.inl ⟨SqL.of u,λt ht=>?_⟩⟩;have Z:=zC ht (.tup ((yS false N.forks ts lane N.forks.length).1.map V.int));have u3:=n.trans Z;have M:=u3 _ _ na.ends;rw[qB]at M;refine⟨_,rfl,r,_,_,_,rfl,rfl,SqT.of (u3 _ _ na.net),rfl,W,_,rfl,M,_,rfl,(((yS false N.forks ts lane B.length).2:Nat):Int),rfl,M,?_,?_⟩
  ·rw[pl];exact JD.mpr ⟨_,ok.en.mem_iff.mpr (Y8.mpr hh),rfl⟩
  ·rw[uZ,pl]
   exact⟨by show 2<=sizeLine;decide,λp S=>k p t _ (u3.trans (zC S _)) zE (zC S _ _ _ zE)⟩
theorem cy:FnScope ["_law_counts","_law_lane"] ["_law_counts","_law_lane"] (zN gg):=by trivial
theorem fJ {f:Addr}{fd:FuncData}(F:Fun K "_law_more" "_law_more" gg f fd):FnOk P w K mg base CX0 1 f fd ["_law_counts","_law_lane"] oU:=by
 refine F.ok cy (λm H Q E h=>?_) (λB A outer s H m Q E G h=>?_)
 ·obtain⟨a,b,place,rfl,_⟩:=h
  rfl
 obtain⟨a,b,place,rfl,c,pl,C,k⟩:=h;refine⟨_,(@zH _ _ _ (@zU _ _ _ _ (@zP _ _ _ _ _ _ _ _ yO (@zP _ _ _ _ _ _ _ _ yO (@zu _ _ _ _ _ _ _ _ _ _ yK (@qv _ 0 _ _ (by trivial)) yB (@zk _ _ _ (@qv _ 1 _ _ (by trivial)))) (@zV _ _ _ _ _ (@zA _ _ _ _ _ (@zP _ _ _ _ _ _ _ _ yI (@zX _ _ _ _ _ _ _ zv (@qv _ 0 _ _ (by trivial)) (@qv _ 1 _ _ (by trivial)) (λ_ _=>rfl)) zD) zB (by rfl)))) (@zu _ _ _ _ _ _ _ _ _ _ yK (@qv _ 0 _ _ (by trivial)) (@zk _ _ _ (@zP _ _ _ _ _ _ _ _ yI (@qv _ 1 _ _ (by trivial)) zD)) yB)))),?_⟩;have D:(b.map V.int).length=b.length:=Jc _;refine⟨_,rfl,_,rfl,_,rfl,a,_,rfl,c,λu L i l=>?_⟩;rw[wL _ place (by lia)]at l;refine⟨_,rfl,_,rfl,a,_,_,_,rfl,rfl,SqT.of (i _ _ c),x4 pl,_,_,rfl,rfl,(by show 1<=sizeLine;decide),λt d=>?_⟩;have g:=zC d (.tup [.int (b.getD place 0+1)]);refine⟨u,t,_,_,rfl,rfl,g _ _ l,zE,?_,λr J o x=>?_⟩
 ·rw[Jh,Js];show _+1<=_;lia
 have u3:=(i.trans g).trans o;refine⟨_,rfl,_,rfl,_,_,rfl,rfl,_,rfl,a,_,rfl,u3 _ _ c,λq I e j=>?_⟩;rw[show ((place:Int)+1)=((place+1:Nat):Int) from rfl,ud _ (place+1) (by lia)]at j;refine⟨r,q,_,_,rfl,rfl,e _ _ x,j,?_,λp y n v=>?_⟩
 ·rw[J9,Jh,JW,Js];show _+1+_<=_;lia
 refine k p y ((u3.trans e).trans n) ?_;rw[v];exact JH (λz=>some (HO.tup z)) (oX b place _ pl)
end
end K46
namespace L2
open PySem PySem.Spec PyProof.Rows Own PySem.W
theorem oO {X:Cx}(j:X.calm=true):CallR X (.type "list") (λvs H Q=>∃ a xs,vs=[.ref a]/\H a=some (DN X.prog X.w a xs)/\∀ l,H l=none->Q (.ref l) (upd H l (.lst (xs.map λp=>.ref p.2.1)))):=by
 intro pins s σ H vs y Q I e h;obtain⟨a,xs,rfl,i,q⟩:=h;obtain⟨u,rfl,f⟩:=e.one;cases f;obtain⟨⟨z,k,ws,r,o,v,C,t,n,m,b,A⟩,_,_⟩:=(show ObjOk X.prog X.w H s.heap a (DN X.prog X.w a xs) from I.hok a _ i);have wl:v.size=xs.length:=by rw[size_of_entries b,<- Yt r]
 refine kdl_call (kE n m k) (I.ok.hd j) t (by rw[wl];exact z) λB d acc c g new items=>?_;obtain⟨x,w⟩:=items
 have al:acc.toList=ws.map λq=>Value.ref q.2.1:=by
  rw[j7 x w,b,Z6];rfl
 have vs:Vals (xs.map λp=>V.ref p.2.1) acc.toList:=by rw[al];exact j9 r
 exact⟨.ref s.heap.objs.size,_,I.laid (t':=d) (o:=.lst (xs.map λp=>.ref p.2.1)) g (Jb _) ⟨by rw[Jc];exact z,acc.toList,c,vs,new⟩,rfl,q _ (I.hok.fresh (Jb _))⟩
end L2
namespace L2
open PySem PySem.Spec PyProof.Rows Own Bn
def HtB (B:Int)(k:KN):Prop:=∃ b a,k=plK b a/\∀ h∈a,h<=B
theorem HtB.up {B C:Int}{k:KN}(h:HtB B k)(l:B<=C):HtB C k:=by
 obtain⟨b,d,e,a⟩:=h;exact⟨b,d,e,λx c=>Int.le_trans (a x c) l⟩
def stT (N:Nt)(ts a:List Int)(m:Nat):KN:=plK (x5 N ts m) (vS (yZ a (passE N ts m) 1))
structure Bfs (N:Nt) (moves:List Nat) (k0:KN) (c:Int) (M ks:List KN):Prop where
 nd:M.Nodup
 ok:∀ k,k∈M\/k∈ks->OkR N k/\HtB (c+M.length) k
 fst:k0∈M\/k0∈ks
 cls:∀ k∈M,∀ m∈moves,∃ t,xg N k m=some t/\(t∈M\/t∈ks)
section
variable {N:Nt}{moves:List Nat}{k0 k:KN}{c:Int}{M ks:List KN}{ts hs:List Int}
theorem Bfs.old (h:Bfs N moves k0 c M (ks++[k]))(m:k∈M):Bfs N moves k0 c M ks:=by
 have key:∀ t,t∈M\/t∈ks++[k]->t∈M\/t∈ks:=λt z=>by
  rcases z with z|z
  ·exact .inl z
  ·rcases Jr.mp z with y|y
   ·exact .inr y
   ·exact .inl (by rw[Jd.mp y];exact m)
 refine⟨h.nd,λt z=>h.ok t (z.imp id λy=>YF _ y),key _ h.fst,λq a m b=>?_⟩;obtain⟨t,e,z⟩:=h.cls q a m b;exact⟨t,e,key t z⟩
theorem gU {B:Int}(m:Nat)(ne:hs≠[])(c:∀ h∈hs,0<=h)(b:∀ h∈hs,h<=B):HtB (B+1) (stT N ts hs m):=by
 refine⟨_,_,rfl,λx g=>?_⟩;obtain⟨y,f,rfl⟩:=JD.mp (show x∈(yZ hs (passE N ts m) 1).map λh=>h-vF (yZ hs (passE N ts m) 1) from g)
 have ne2:yZ hs (passE N ts m) 1≠[]:=λz=>ne (by
  have:=JH List.length z;rw[yn,Yp]at this
  exact List.length_eq_zero_iff.mp this)
 have all:∀ z∈yZ hs (passE N ts m) 1,0<=z/\z<=B+1:=λz d=>by
  unfold yZ at d;rcases List.mem_or_eq_of_mem_set d with q|q
  ·have:=c z q
   have:=b z q;lia
  ·subst q
   simp only[Jm]
   cases e:hs[passE N ts m]? with
   | none =>
    obtain⟨a,l,_⟩:=List.exists_cons_of_ne_nil ne;have:=c a (by rw[‹hs=a::l›];exact .head _);have:=b a (by rw[‹hs=a::l›];exact .head _);show 0<=(0:Int)+1/\(0:Int)+1<=B+1
    lia
   | some a =>
    have q:=Jq e;have:=c a q;have:=b a q;show 0<=a+1/\a+1<=B+1;lia
 have j:=all y f;have i:=all _ (vn ne2).1;lia
theorem Bfs.new (g:Nt.Ok N)(h:Bfs N moves k0 c M (ks++[plK ts hs]))(m:plK ts hs∉M):Bfs N moves k0 c (M++[plK ts hs]) (ks++moves.map (stT N ts hs)):=by
 have key:∀ t,t∈M\/t∈ks++[plK ts hs]->t∈M++[plK ts hs]\/t∈ks++moves.map (stT N ts hs):=λt z=>by
  rcases z with z|z
  ·exact .inl (YF _ z)
  ·rcases Jr.mp z with y|y
   ·exact .inr (YF _ y)
   ·exact .inl (Jp _ y)
 obtain⟨ok,k⟩:=h.ok (plK ts hs) (.inr (Jp _ (.head _)));have len:(M++[plK ts hs]).length=M.length+1:=J9;refine⟨List.nodup_append.mpr ⟨h.nd,JT.mpr ⟨JA,YG⟩,λx j y i e=>m (by rw[<- Jd.mp i,<- e];exact j)⟩,λt z=>?_,key _ h.fst,λq o n d=>?_⟩
 ·have old:(t∈M\/t∈ks++[plK ts hs])->OkR N t/\HtB (c+(M++[plK ts hs]).length) t:=λz=>by
   obtain⟨a,b⟩:=h.ok t z;exact⟨a,b.up (by rw[len];lia)⟩
  rcases z with z|z
  ·rcases Jr.mp z with y|y
   ·exact old (.inl y)
   ·exact old (.inr (Jp _ y))
  ·rcases Jr.mp z with y|y
   ·exact old (.inr (YF _ y))
   ·obtain⟨n,d,rfl⟩:=JD.mp y
    refine⟨rN g ok (x9 N ts hs n),?_⟩;obtain⟨u,w,e,_,_,l,r,f⟩:=ok;obtain⟨s,v,e2,p⟩:=k;cases e;cases e2;have:=gU (N:=N) (ts:=ts) (B:=c+M.length) n (λz=>by rw[z]at f;cases f) r p;exact this.up (by rw[len];lia)
 ·rcases Jr.mp o with y|y
  ·obtain⟨t,e,z⟩:=h.cls q y n d
   exact⟨t,e,key t z⟩
  ·rw[Jd.mp y]
   exact⟨_,x9 N ts hs n,.inr (Jp _ (JD.mpr ⟨n,d,rfl⟩))⟩
structure ClosedP (N:Nt) (moves:List Nat) (k0:KN) (B:Int) (n:Nat) (ks:List KN):Prop where
 nd:ks.Nodup
 ok:∀ k∈ks,OkR N k/\HtB B k
 fst:k0∈ks
 cls:∀ k∈ks,∀ m∈moves,∃ t,xg N k m=some t/\t∈ks
 few:ks.length<=n
theorem Bfs.done {B:Int}{n:Nat}(h:Bfs N moves k0 c M [])(l:M.length<=n)(b:c+n<=B):ClosedP N moves k0 B n M:=by
 have no:∀ t,t∈M\/t∈([]:List KN)->t∈M:=λt z=>z.elim id λy=>(nomatch y);refine⟨h.nd,λk d=>?_,no _ h.fst,λk d m f=>?_,l⟩
 ·obtain⟨a,e⟩:=h.ok k (.inl d)
  exact⟨a,e.up (by lia)⟩
 ·obtain⟨t,e,z⟩:=h.cls k d m f
  exact⟨t,e,no t z⟩
variable {H:Hp}{b:Addr}
theorem cI {xs:KVN}(h:KsIn H xs):KeysAt H (xs.map λp=>p.2.1) (xs.map (·.1)):=by
 unfold KeysAt
 induction xs with
 | nil=>exact .nil
 | cons x xs ih=>exact .cons (h x (.head _)) (ih λy a=>h y (.tail _ a))
theorem jf {as bs:List Addr}{b ks:List KN}(h:KeysAt H as b)(g:KeysAt H bs ks):KeysAt H (as++bs) (b++ks):=by
 unfold KeysAt at h
 induction h with
 | nil=>exact g
 | cons a _ ih=>exact .cons a ih
theorem tS {u:Addr}:∀ {vs:List Addr}{ks:List KN},KeysAt H (vs++[u]) ks->∃ k f,ks=f++[k]/\KeysAt H vs f/\NKey H k u
 | [],_,.cons a .nil=>⟨_,[],rfl,.nil,a⟩
 | _::_,_,.cons a b=>by
  obtain⟨k,f,e,c,d⟩:=tS b;exact⟨k,_::f,by rw[e];rfl,.cons a c,d⟩
end
end L2
namespace K46
open PySem L2 Own Bn
abbrev pP:Stmt:=top 46
def k00 (N:Nt):KN:=plK (List.replicate N.forks.length 0) (List.replicate N.lanes 0)
def sJ:Sp:=λc H Q _=>∃ r fr e d N sm,∃ (moves:List Nat) (most:Nat),c=[.ref r,.ref sm,.int (most:Nat)]/\Nt.Ok N/\NetAt H r fr e d N/\H sm=some (.tup (zW moves))/\(∀ m∈moves,m<N.lanes)/\moves.length<=16/\most<=1000 /\
 (∀ a,Same H a->Q .non a)/\∀ p bs b a,Same H a->H p=none->a p=some (.lst (bs.map V.ref))->KeysAt a bs b->ClosedP N moves (k00 N) (most:Nat) most b->Q (.ref p) a
theorem ip {α:Type}{l:List α}(h:l≠[]):∃ x,l=l.dropLast++[x]:=⟨l.getLast h,(List.dropLast_concat_getLast h).symm⟩
theorem oS {xs:KVN}{k:KN}{b:Addr}{v:V}(h:k∉xs.map (·.1)):xh xs k b v=xs++[(k,b,v)]:=by
 unfold xh;rw[Jv λz=>h (yc.mp z)]
theorem tG {N:Nt}(ok:Nt.Ok N){ts:List Int}{lane:Nat}(h:lane<N.lanes):passE N ts lane<N.lanes:=by
 have b:=(xN (back:=false) (ts:=ts) ok.fk h N.forks.length (Jb _));have:=List.idxOf_lt_length_of_mem (ok.en.mem_iff.mpr (Y8.mpr b));rw[ok.en.length_eq,JS]at this;exact this
section
variable {P:Program}{w:World}{K:PySem.W.Frag}{mg:Str->Option Value}{base:Heap}
theorem rS:FnScope ["_law_net_here","_law_some_here","_law_most","_law_first","_law_met","_law_waits","_law_turns","_law_heights","_law_lane","_law_later","_law_end"] ["_law_net_here","_law_some_here","_law_most"] (zN pP):=by trivial
theorem jU {f fP fM fL:Addr}{fd dP dM dL:FuncData}(F:Fun K "_law_all_places" "_law_all_places" pP f fd) (G:Mgs mg) (UP:Use P w K mg base "_law_passed" ["_law_net_here","_law_turns","_law_lane"] 1 (wj false) fP dP) (UM:Use P w K mg base "_law_more" ["_law_counts","_law_lane"] 1 oU fM dM) (UL:Use P w K mg base "_law_lowered" ["_law_heights"] 1 (sB false) fL dL):FnOk P w K mg base CX0 2 f fd ["_law_net_here","_law_some_here","_law_most"] sJ:=by
 refine F.ok rS (λg H Q E h=>?_) (λaY A outer s H g Q E hr h=>?_)
 ·obtain⟨r,fr,er,ps,N,sm,moves,most,rfl,_⟩:=h
  rfl
 obtain⟨r,fr,er,ps,N,sm,moves,most,rfl,ok,na,ay,mlt,ml,mb,q1,v⟩:=h;refine⟨_,(@zF _ _ _ _ _ (@zZ _ _ 3 _ _ _ _ rS.nd rfl (.inl rfl) (@zV _ _ _ _ _ (@zA _ _ _ _ _ (@zP _ _ _ _ _ _ _ _ xV (@zV _ _ _ _ _ (@zA _ _ _ _ _ zD zB (by rfl))) (@zL _ _ _ _ _ _ _ _ _ zR (by rfl) G.len Jy (@zA _ _ _ _ _ (@zX _ _ _ _ _ _ _ zv (@qv _ 0 _ _ (by trivial)) zD (λ_ _=>rfl)) zB (by rfl)) (by decide) (by decide) (by rfl) (by rfl))) (@zA _ _ _ _ _ (@zP _ _ _ _ _ _ _ _ xV (@zV _ _ _ _ _ (@zA _ _ _ _ _ zD zB (by rfl))) (@zX _ _ _ _ _ _ _ zv (@qv _ 0 _ _ (by trivial)) zD (λ_ _=>rfl))) zB (by rfl)) (by rfl))) (by rfl) (by trivial)) (@zF _ _ _ _ _ (@sW _ _ 4 5 _ _ _ _ _ _ _ _ _ _ _ rfl rS.nd rfl rfl (by decide) rfl rfl (@zA _ _ _ _ _ oj (@zA _ _ _ _ _ (@zo _ _ _ _ (@zA _ _ _ _ _ (@qv _ 3 _ _ (by trivial)) zB (by rfl))) zB (by rfl)) (by rfl)) (by rfl) (by rfl)) (@zF _ _ _ _ _ (@rZ _ _ _ _ _ _ JN (@pW _ _ _ _ _ _ _ (@zp _ _ _ _ _ _ _ _ (pZ hr.units0) (@qv _ 5 _ _ (by trivial)) (@zo _ _ _ _ zB) (zt _)) (@oY _ _ _ _ (@zp _ _ _ _ _ _ _ _ tI (@zL _ _ _ _ _ _ _ _ _ vW (by rfl) G.len Jy (@zA _ _ _ _ _ (@qv _ 4 _ _ (by trivial)) zB (by rfl)) (by decide) (by decide) (by rfl) (by rfl)) (@qv _ 2 _ _ (by trivial)) (zt _)))).pt (@zF _ _ _ _ _ (@yN _ _ _ _ _ _ (@gx _ _ _ _ _ _ _ _ _ JX PySem.F.slot_list_pop PySem.F.type_list_pop fe (@qv _ 5 _ _ (by trivial)) (by rfl) (by rfl)) (@yL _ _ _ _ _ _ rfl (@zQ _ _ _ _ _ (@zM _ _ 6 _ rS.nd rfl (.inl rfl) (by trivial)) (@zQ _ _ _ _ _ (@zM _ _ 7 _ rS.nd rfl (.inl rfl) (by trivial)) yC (by rfl)) (by rfl)) (by rfl) (by rfl)) (by rfl) (by rfl) (by rfl)) (@zH _ _ _ (@yH _ _ _ _ _ _ _ _ (@sV _ _ _ _ _ _ (vR hr.u3 (@zV _ _ _ _ _ (@zA _ _ _ _ _ (@qv _ 6 _ _ (by trivial)) (@zA _ _ _ _ _ (@qv _ 7 _ _ (by trivial)) zB (by rfl)) (by rfl))) (@qv _ 4 _ _ (by trivial))) (by rfl)) (@zF _ _ _ _ _ (oZ hr.u3 (@qv _ 4 _ _ (by trivial)) (@zV _ _ _ _ _ (@zA _ _ _ _ _ (@qv _ 6 _ _ (by trivial)) (@zA _ _ _ _ _ (@qv _ 7 _ _ (by trivial)) zB (by rfl)) (by rfl))) yo (by rfl)) (@zH _ _ _ (@yd _ _ _ _ _ _ _ _ JN rfl (@yg _ _ _ _ (@qv _ 1 _ _ (by trivial))) (@zM _ _ 8 _ rS.nd rfl (.inl rfl) (by trivial)) (@zF _ _ _ _ _ (@yN _ _ _ _ _ _ (@zK _ _ _ _ _ _ _ _ _ _ _ _ _ _ _ _ UP.ok hr (by rfl) UP.m UP.kp UP.b .nil zS (@zA _ _ _ _ _ (@qv _ 0 _ _ (by trivial)) (@zA _ _ _ _ _ (@qv _ 6 _ _ (by trivial)) (@zA _ _ _ _ _ (@qv _ 8 _ _ (by trivial)) zB (by rfl)) (by rfl)) (by rfl)) (by decide) (by rfl) (by rfl)) (@yL _ _ _ _ _ _ rfl (@zQ _ _ _ _ _ (@zM _ _ 9 _ rS.nd rfl (.inl rfl) (by trivial)) (@zQ _ _ _ _ _ (@zM _ _ 10 _ rS.nd rfl (.inl rfl) (by trivial)) yC (by rfl)) (by rfl)) (by rfl) (by rfl)) (by rfl) (by rfl) (by rfl)) (@zH _ _ _ (@xU _ _ _ _ (@vC _ _ _ _ _ _ _ _ _ _ _ _ JX Yu Yv yq (@qv _ 5 _ _ (by trivial)) (@zA _ _ _ _ _ (@zV _ _ _ _ _ (@zA _ _ _ _ _ (@qv _ 9 _ _ (by trivial)) (@zA _ _ _ _ _ (@zK _ _ _ _ _ _ _ _ _ _ _ _ _ _ _ _ UL.ok hr (by rfl) UL.m UL.kp UL.b .nil zS (@zA _ _ _ _ _ (@zK _ _ _ _ _ _ _ _ _ _ _ _ _ _ _ _ UM.ok hr (by rfl) UM.m UM.kp UM.b .nil zS (@zA _ _ _ _ _ (@qv _ 7 _ _ (by trivial)) (@zA _ _ _ _ _ (@qv _ 10 _ _ (by trivial)) zB (by rfl)) (by rfl)) (by decide) (by rfl) (by rfl)) zB (by rfl)) (by decide) (by rfl) (by rfl)) zB (by rfl)) (by rfl))) zB (by rfl)) (by rfl) (by rfl) (by rfl) (by rfl) (by rfl)) (by rfl)))) (by intro _;rfl)))) zq)))) (@zH _ _ _ (@zU _ _ _ _ (@uQ _ _ _ _ _ _ _ _ (@zp _ _ _ _ _ _ _ _ tI (@zL _ _ _ _ _ _ _ _ _ vW (by rfl) G.len Jy (@zA _ _ _ _ _ (@qv _ 4 _ _ (by trivial)) zB (by rfl)) (by decide) (by decide) (by rfl) (by rfl)) (@qv _ 2 _ _ (by trivial)) (zt _)) (@zY _ _ _ _ _ _ _ _ _ (oO rfl) (by rfl) G.list (by rfl) (@zA _ _ _ _ _ (@qv _ 4 _ _ (by trivial)) zB (by rfl)) (by decide) (by decide) (by rfl) (by rfl)) sZ)))))),?_⟩;have aW:=ok.l16;have fm:=ok.fm;have pl:=na.prs.len;refine⟨by show 1<=sizeLine;decide,λt0 ax=>?_⟩;have s1:=zC ax (.tup [.int 0]);refine⟨_,rfl,r,_,_,_,rfl,rfl,SqT.of (s1 _ _ na.net),rfl,fr,ps,rfl,.inr (SqT.of (s1 _ _ na.forks)),t0,_,ps.length,rfl,rfl,zE,by lia,λt H2 s2 ht=>⟨by show 1<=sizeLine;decide,λu0 aw=>?_⟩⟩;have D:=zC aw (.tup [.int 0]);have u3:=(s1.trans s2).trans D;refine⟨_,rfl,r,_,_,_,rfl,rfl,SqT.of (u3 _ _ na.net),rfl,u0,_,N.lanes,rfl,rfl,zE,by lia,λu H4 s4 hu=>⟨by show 2<=sizeLine;decide,λb0 aE=>?_⟩⟩;have n:=zC aE (.tup [.ref t,.ref u])
 have k5:NKey (L2.upd H4 b0 (.tup [.ref t,.ref u])) (k00 N) b0:=wd zE (by
  rw[<- pl]
  exact n _ _ (s4 _ _ (D _ _ (by rw[ht];exact JH (λz=>some (HO.tup z)) YC.symm)))) (n _ _ (by rw[hu];exact JH (λz=>some (HO.tup z)) YC.symm))
 have U:=(u3.trans s4).trans n;generalize L2.upd H4 b0 (.tup [.ref t,.ref u])=H5 at *;clear n aE s4 hu u3 D aw s2 ht s1 ax;refine λc S=>⟨_,rfl,by show 1<=sizeLine;decide,λlw O=>⟨_,_,rfl,?_⟩⟩;have i:=zC S (DN P w c []);have s7:=zC O (.lst [.ref b0]);have I:c≠lw:=zG (zT S (DN P w c [])) O;have aU:H c=none:=(U:Same H H5).free S;have ap:H lw=none:=(U.trans i).free O
 let Iv:Nat->St->Hp->Prop:=λm σ H2=>∃ xs C ks v6 v7 v8 v9 v10,σ=[some (.ref r),some (.ref sm),some (.int (most:Nat)),some (.ref b0),some (.ref c),some (.ref lw),v6,v7,v8,v9,v10]/\Same H H2/\H2 c=some (DN P w c xs)/\KsIn H2 xs/\H2 lw=some (.lst (C.map V.ref))/\KeysAt H2 C ks/\Bfs N moves (k00 N) 0 (xs.map (·.1)) ks/\xs.length<=most+1/\C.length<=16*xs.length+1/\m=(most+1-xs.length)*17+C.length
 refine⟨Iv,⟨_,[],[b0],[k00 N],none,none,none,none,none,rfl,((U.trans i).trans s7),by rw[zJ I];exact zE,λx hx=>(nomatch hx),zE,.cons (k5.tups (Tups.of (i.trans s7))) .nil,⟨YG,λk z=>?_,.inr (.head _),λk hk=>(nomatch hk)⟩,JL _,Jb _,rfl⟩,?_⟩
 ·rcases z with z|z
  ·cases z
  ·rw[Jd.mp z]
   exact⟨tL ok,_,_,rfl,λh hh=>by rw[Ze hh];exact Int.le_refl _⟩
 clear i s7 k5 U O S;rintro m σ H2 ⟨xs,C,ks,v6,v7,v8,v9,v10,rfl,s2,hd,kx,hl,ku,bf,xm,ul,em⟩;have ao:=Yt ku;refine⟨_,rfl,(by show 0<=sizeLine;decide),λe he=>?_⟩;have D:=zC he (.lst []);refine⟨lw,e,C.map V.ref,rfl,rfl,SqL.of (D _ _ hl),SqL.of zE,_,rfl,?_⟩;have B:=D _ _ hd;have J:=D _ _ hl;have ad:=kx.tups (Tups.of D);have av:=ku.tups (Tups.of D);have u3:=s2.trans D;generalize L2.upd H2 e (.lst [])=H3 at *;clear D he hd hl kx ku s2
 have out:C=[]->xs.length<=most->ClosedP N moves (k00 N) (most:Nat) most (xs.map (·.1)):=λz l=>by
  subst z;have:ks=[]:=List.length_eq_zero_iff.mp ao.symm;subst this;exact bf.done (by rw[Jc];exact l) (by lia)
 have aH:(xs.map λp=>V.ref p.2.1)=(xs.map λp=>p.2.1).map V.ref:=by rw[Z6];rfl
 have ka:=cI ad;by_cases un:C=[]
 ·rw[show (!(C.map V.ref).isEmpty)=false by rw[un];rfl]
  refine zr (zr ⟨_,rfl,c,xs,rfl,.inl B,_,rfl,_,_,rfl,rfl,_,rfl,ve (λz=>⟨_,rfl,c,xs,rfl,B,λp hp=>?_⟩) (λz=>q1 _ u3)⟩);have s8:=zC hp (.lst (xs.map λp=>.ref p.2.1));exact v p _ _ _ (u3.trans s8) (u3.free hp) (by rw[<- aH];exact zE) (ka.tups (Tups.of s8)) (out un (by have:=Y3 z;lia))
 rw[show (!(C.map V.ref).isEmpty)=true by cases C with
  | nil=>exact absurd rfl un
  | cons a b=>rfl]
 refine zz ⟨_,rfl,c,xs,rfl,.inl B,_,rfl,_,_,rfl,rfl,_,rfl,?_⟩;by_cases xl:xs.length<=most
 rotate_left
 ·rw[Jj (λz=>xl (by lia))]
  refine zr ⟨_,rfl,c,xs,rfl,.inl B,_,rfl,_,_,rfl,rfl,_,rfl,?_⟩;rw[Jj (λz=>xl (by lia))];exact zr (q1 _ u3)
 rw[Jw (show ((xs.length:Nat):Int)<=(most:Nat) by lia)];refine zz ⟨λak H'=>∃ L,L<m/\Iv L ak H',λak H' hN=>hN,?_⟩;obtain⟨u0,eu⟩:=ip un;generalize C.dropLast=g at eu;subst eu;rw[J9]at ul em ao;change g.length+1<=_ at ul;change m=_+(g.length+1) at em;obtain⟨k,ks,rfl,kv,aL⟩:=tS av;obtain⟨ko,_⟩:=bf.ok k (.inr (Jp _ (.head _)));obtain⟨ts,d,rfl,tl,bits,aX,h0,hz⟩:=ko;obtain⟨X,W,e1,e2,e3⟩:=oa aL;rw[JB]at J;refine⟨_,rfl,.inl ⟨rfl,_,SqL.of J⟩,lw,_,.ref u0,rfl,rfl,J,?_,?_⟩
 ·rw[J9];exact List.getElem?_concat_length
 rw[show (g.map V.ref++[u0].map V.ref).dropLast=g.map V.ref from List.dropLast_concat];have y:∀ o,Tups H3 (L2.upd H3 lw (.lst o)):=λo b ys e=>by rw[zJ (xi e J λz=>by cases z)];exact e
 have aV:c≠lw:=I;have ai:L2.upd H3 lw (.lst (g.map V.ref)) c=some (DN P w c xs):=by rw[zJ I];exact B
 have aC:L2.upd H3 lw (.lst (g.map V.ref)) lw=some (.lst (g.map V.ref)):=zE;have u4:Same H (L2.upd H3 lw (.lst (g.map V.ref))):=λb o e=>by rw[zJ (zG e ap)];exact u3 b o e
 have ab:=ad.tups (y (g.map V.ref));have au:=kv.tups (y (g.map V.ref));have f1:=y (g.map V.ref) _ _ e1;have f2:=y (g.map V.ref) _ _ e2;have f3:=y (g.map V.ref) _ _ e3;generalize L2.upd H3 lw (.lst (g.map V.ref))=H4 at *;clear y J B ad kv av u3 e1 e2 e3 ka aH out;refine⟨u0,_,rfl,SqT.of f1,rfl,_,_,rfl,_,_,rfl,rfl,?_⟩;refine⟨_,rfl,_,rfl,(by show 2<=sizeLine;decide),λq hq=>?_⟩;have n:=zC hq (.tup [.ref X,.ref W]);have kq:=wd (H:=L2.upd H4 q (.tup [.ref X,.ref W])) zE (n _ _ f2) (n _ _ f3);refine⟨_,rfl,c,q,xs,_,rfl,rfl,⟨.inl (n _ _ ai),ab.tups (Tups.of n)⟩,kq,_,rfl,?_⟩;have T:=n _ _ ai;have ag:=n _ _ aC;have M:=ab.tups (Tups.of n);have ae:=au.tups (Tups.of n);have U:=u4.trans n;have g2:=n _ _ f2;have g3:=n _ _ f3;generalize L2.upd H4 q (.tup [.ref X,.ref W])=H5 at *;clear n hq ai aC ab au u4 f1 f2 f3;by_cases cm:plK ts d∈xs.map (·.1)
 ·rw[show (yt xs (plK ts d)).isSome=true from yc.mpr cm]
  exact zr ⟨_,by rw[em];exact Nat.lt_succ_self _,xs,g,ks,_,_,_,_,_,rfl,U,T,M,ag,ae,bf.old cm,xm,by lia,rfl⟩
 rw[show (yt xs (plK ts d)).isSome=false by
  cases z:(yt xs (plK ts d)).isSome with
  | false=>rfl
  | true=>exact absurd (yc.mp z) cm]
 refine zz ⟨_,rfl,_,rfl,_,rfl,(by show 2<=sizeLine;decide),λv az=>?_⟩;have i:=zC az (.tup [.ref X,.ref W]);have af:=wd (H:=L2.upd H5 v (.tup [.ref X,.ref W])) zE (i _ _ g2) (i _ _ g3);refine⟨c,v,xs,_,rfl,rfl,i _ _ T,M.tups (Tups.of i),af,by rw[Js];lia,?_⟩;rw[oS cm];have aD:=i _ _ T;have aB:=i _ _ ag;have u6:=U.trans i;have aq:=M.tups (Tups.of i);have ar:=ae.tups (Tups.of i);have aG:=i _ _ g2;have aF:=i _ _ g3;generalize L2.upd H5 v (.tup [.ref X,.ref W])=Z at *;clear i az T ag U M ae g2 g3;have y:Tups Z (L2.upd Z c (DN P w c (xs++[(plK ts d,v,.bl true)]))):=λb ys e=>by rw[zJ (xi e aD λz=>by cases z)];exact e
 have aR:L2.upd Z c (DN P w c (xs++[(plK ts d,v,.bl true)])) c=some (DN P w c (xs++[(plK ts d,v,.bl true)])):=zE;have aP:L2.upd Z c (DN P w c (xs++[(plK ts d,v,.bl true)])) lw=some (.lst (g.map V.ref)):=by rw[zJ I.symm];exact aB
 have u7:Same H (L2.upd Z c (DN P w c (xs++[(plK ts d,v,.bl true)]))):=λb o e=>by rw[zJ (zG e aU)];exact u6 b o e
 have aJ:KsIn (L2.upd Z c (DN P w c (xs++[(plK ts d,v,.bl true)]))) (xs++[(plK ts d,v,.bl true)]):=λx hx=>by
  rcases Jr.mp hx with z|z
  ·exact(aq x z).tups y
  ·rw[Jd.mp z];exact af.tups y
 have aK:=ar.tups y;have aT:=y _ _ aG;have aS:=y _ _ aF;dsimp only;show dJ _ _ _ _ _ (L2.upd Z c (DN P w c (xs++[(plK ts d,v,.bl true)])));generalize L2.upd Z c (DN P w c (xs++[(plK ts d,v,.bl true)]))=H7 at *;clear y aD aB u6 aq ar af aG aF;have bn:=bf.new ok cm;have ne:d≠[]:=λz=>by rw[z]at hz;cases hz
 refine⟨_,rfl,sm,rfl,⟨_,SqT.of (u7 _ _ ay)⟩,?_⟩
 refine vG (K:=K) (a:=sm) (xs:=zW moves) (λj σ Y=>∃ v8 v9 v10 nb,σ=[some (.ref r),some (.ref sm),some (.int (most:Nat)),some (.ref b0),some (.ref c),some (.ref lw),some (.ref X),some (.ref W),v8,v9,v10]/\Same H Y/\Tups H7 Y/\Y c=some (DN P w c (xs++[(plK ts d,v,.bl true)]))/\Y lw=some (.lst ((g++nb).map V.ref))/\KeysAt Y nb ((moves.take j).map (stT N ts d))) ⟨_,_,_,[],rfl,u7,Tups.of (Same.refl _),aR,by rw[Yn];exact aP,.nil⟩ (λj σ Y _ z=>by
  obtain⟨_,_,_,_,_,z,_⟩:=z
  exact SqT.of (z _ _ ay)) ?_ ?_
 ·rintro j x σ Y hx ⟨v8,v9,v10,nb,rfl,u8,t8,ah,R,kn⟩
  unfold zW at hx;rw[JG]at hx;obtain⟨L,aj,rfl⟩:=Y9.mp hx;have jl:j<moves.length:=(J8.mp aj).1;have lt':=mlt L (Jq aj);have aI:=na.tups (Tups.of u8);have kl:=Yt kn;rw[Jc,Jh]at kl;refine⟨_,rfl,_,rfl,_,rfl,r,fr,er,ps,N,X,ts,L,rfl,ok,aI,t8 _ _ aT,tl,bits,lt',λp aa H9 s9 hp aN=>?_⟩;refine⟨p,_,rfl,SqT.of hp,rfl,_,_,rfl,_,_,rfl,rfl,?_⟩;have pl:=tG (ts:=ts) ok lt';have aO:=s9 _ _ R;refine⟨_,rfl,.inl ⟨rfl,_,SqL.of aO⟩,_,rfl,_,rfl,_,rfl,W,d,passE N ts L,rfl,s9 _ _ (t8 _ _ aS),by lia,by lia,λa Ha sa ha=>?_⟩
  refine⟨a,yZ d (passE N ts L) 1,rfl,ha,λz=>ne (by
   have:=JH List.length z;rw[yn,Yp]at this
   exact List.length_eq_zero_iff.mp this),by rw[yn];lia,λb Hb sb hb=>⟨(by show 2<=sizeLine;decide),λq hq=>?_⟩⟩
  have sq:=zC hq (.tup [.ref aa,.ref b]);have uq:=((s9.trans sa).trans sb).trans sq;have kk:NKey (L2.upd Hb q (.tup [.ref aa,.ref b])) (stT N ts d L) q:=wd zE (sq _ _ (sb _ _ (sa _ _ aN))) (sq _ _ hb);have aA:=uq _ _ R;have aQ:=uq _ _ ah;have u9:=u8.trans uq;have t9:=t8.trans (Tups.of uq);have aM:=kn.tups (Tups.of uq);generalize L2.upd Hb q (.tup [.ref aa,.ref b])=H10 at *;refine⟨lw,_,_,rfl,rfl,aA,by rw[Jc,J9,Js];lia,?_⟩;have ty:∀ o,Tups H10 (L2.upd H10 lw (.lst o)):=λo b ys e=>by rw[zJ (xi e aA λz=>by cases z)];exact e
  refine⟨_,_,_,nb++[q],rfl,λb o e=>by rw[zJ (zG e ap)];exact u9 b o e,t9.trans (ty _),by rw[zJ I];exact aQ,by rw[<- Ys,JB (l₁:=g++nb)];exact zE,?_⟩;rw[<- Y6 jl,(J8.mp aj).2,show (moves.take j++[L]).map (stT N ts d)=(moves.take j).map (stT N ts d)++[stT N ts d L] from JB];exact Paired.snoc (aM.tups (ty _)) (kk.tups (ty _))
 ·rintro σ Y ⟨v8,v9,v10,nb,rfl,u8,t8,ah,R,kn⟩
  rw[zj,JR]at kn;have kl:=Yt kn;rw[Jc]at kl;have lx:(xs++[(plK ts d,v,V.bl true)]).length=xs.length+1:=J9;refine⟨(most+1-(xs.length+1))*17+(g++nb).length,?_,_,g++nb,_,_,_,_,_,_,rfl,u8,ah,aJ.tups t8,R,jf (aK.tups t8) kn,?_,?_,?_,?_⟩
  ·rw[em,J9];lia
  ·rw[JB];exact bn
  ·rw[lx];lia
  ·rw[lx,J9];lia
  ·rw[lx]
end
end K46
namespace L2
open PySem PySem.Spec PyProof.Rows Own Bn
def Sm (b:Nat):V->Prop
 | .int i=>i.natAbs<=10 ^ 29+b
 | _=>True
theorem Sm.more {b a:Nat}(c:b<=a){x:V}(s:Sm b x):Sm a x:=by
 cases x with
 | int i=>exact Jz s (Nat.add_le_add_left c _)
 | _=>trivial
def Ma (H:Hp)(b:Nat):Nat->V->Prop
 | 0,x=>(An H x/\Sm b x)/\zc H x=none
 | h+1,x=>(An H x/\Sm b x)/\∀ xs,zc H x=some xs->xs.length<=b/\∀ y∈xs,Ma H b h y
theorem Ma.an {H:Hp}{b:Nat}:∀ {h:Nat}{x:V},Ma H b h x->An H x
 | 0,_,m=>m.1.1
 | _+1,_,m=>m.1.1
theorem Ma.sm {H:Hp}{b:Nat}:∀ {h:Nat}{x:V},Ma H b h x->Sm b x
 | 0,_,m=>m.1.2
 | _+1,_,m=>m.1.2
theorem Ma.dp {H:Hp}{b:Nat}(a:b<=1000):∀ {h:Nat}(n:Nat) {x:V},Ma H b h x->Dp H n x
 | 0,0,_,m=>m.1.1
 | _+1,0,_,m=>m.1.1
 | 0,n+1,_,m=>⟨m.1.1,λxs e=>absurd (m.2.symm.trans e) nofun⟩
 | h+1,n+1,_,m=>⟨m.1.1,λxs e=>⟨Jz (m.2 xs e).1 a,λy c=>Ma.dp a n ((m.2 xs e).2 y c)⟩⟩
theorem Ma.via {H H':Hp}{b:Nat}(A:∀ {x:V},An H x->An H' x/\zc H' x=zc H x):∀ {h:Nat}{x:V},Ma H b h x->Ma H' b h x
 | 0,_,m=>⟨⟨(A m.1.1).1,m.1.2⟩,(A m.1.1).2.trans m.2⟩
 | _+1,_,m=>⟨⟨(A m.1.1).1,m.1.2⟩,λxs e=>by
  rw[(A m.1.1).2]at e
  exact⟨(m.2 xs e).1,λy a=>Ma.via A ((m.2 xs e).2 y a)⟩⟩
theorem Ma.same {H H':Hp}{b h:Nat}{x:V}(s:Same H H')(m:Ma H b h x):Ma H' b h x :=
 m.via λa=>⟨a.kp (KpN.same s),a.row (KpN.same s)⟩
theorem xq {H:Hp}{a:Addr}{xs:List V}(e:H a=some (.lst xs)):zc H (.ref a)=none:=by simp only[zc,e]
theorem Ma.but {H H':Hp}{l:Addr}{b h:Nat}{x:V}(B:But l H H')(S:Pk3 H l)(j:Pk3 H' l)(m:Ma H b h x):Ma H' b h x:=by
 obtain⟨n,f⟩:=S.lst;obtain⟨k,g⟩:=j.lst;refine m.via λ{x} a=>?_;rcases a with a|⟨c,rfl,⟨i,e⟩|⟨i,e⟩|e⟩
 ·exact⟨.inl a,by cases x<;>first|rfl|exact a.elim⟩
 ·have d:=B _ _ e (by rintro rfl;rw[f]at e;cases e)
  exact⟨.inr ⟨_,rfl,.inl ⟨_,d⟩⟩,by rw[yU e,yU d]⟩
 ·by_cases z:c=l
  ·rw[z];exact⟨.inr ⟨_,rfl,.inr (.inl ⟨_,g⟩)⟩,by rw[xq f,xq g]⟩
  ·have d:=B _ _ e z
   exact⟨.inr ⟨_,rfl,.inr (.inl ⟨_,d⟩)⟩,by rw[xq e,xq d]⟩
 ·have d:=B _ _ e (by rintro rfl;rw[f]at e;cases e)
  exact⟨.inr ⟨_,rfl,.inr (.inr d)⟩,by simp only[zc,e,d]⟩
theorem Ma.more {H:Hp}{b c:Nat}(a:b<=c):∀ {h h':Nat}{x:V},h<=h'->Ma H b h x->Ma H c h' x
 | 0,0,_,_,m=>⟨⟨m.1.1,m.1.2.more a⟩,m.2⟩
 | 0,_+1,_,_,m=>⟨⟨m.1.1,m.1.2.more a⟩,λxs e=>absurd (m.2.symm.trans e) nofun⟩
 | _+1,0,_,le,_=>absurd le (Nat.not_succ_le_zero _)
 | _+1,_+1,_,le,m=>⟨⟨m.1.1,m.1.2.more a⟩,λxs e=>⟨Jz (m.2 xs e).1 a,λy d=>Ma.more a (Nat.le_of_succ_le_succ le) ((m.2 xs e).2 y d)⟩⟩
theorem Ma.zero {H:Hp}{b h:Nat}{x:V}(a:An H x)(r:zc H x=none)(s:Sm b x:=by trivial):Ma H b h x:=by
 cases h with
 | zero=>exact⟨⟨a,s⟩,r⟩
 | succ h=>exact⟨⟨a,s⟩,λc e=>absurd (r.symm.trans e) nofun⟩
theorem Ma.non {H:Hp}{b h:Nat}:Ma H b h .non:=.zero (.inl trivial) rfl
theorem Ma.bl {H:Hp}{b h:Nat}(x:Bool):Ma H b h (.bl x):=.zero (.inl trivial) rfl
theorem Ma.int {H:Hp}{b h:Nat}(x:Int)(s:x.natAbs<=10 ^ 29+b:=by lia):Ma H b h (.int x):=.zero (.inl trivial) rfl s
theorem Ma.str {H:Hp}{b h:Nat}(x:Str):Ma H b h (.str x):=.zero (.inl trivial) rfl
theorem Ma.lst {H:Hp}{b h:Nat}{a:Addr}{xs:List V}(e:H a=some (.lst xs)):Ma H b h (.ref a):=.zero (.inr ⟨_,rfl,.inr (.inl ⟨_,e⟩)⟩) (xq e)
theorem Ma.dict {H:Hp}{b h:Nat}{a:Addr}(e:H a=some (.dK [])):Ma H b h (.ref a):=.zero (.inr ⟨_,rfl,.inr (.inr e)⟩) (by simp only[zc,e])
theorem Ma.tup {H:Hp}{b h:Nat}{a:Addr}{xs:List V}(e:H a=some (.tup xs))(l:xs.length<=b)(m:∀ y∈xs,Ma H b h y):Ma H b (h+1) (.ref a) :=
 ⟨⟨.inr ⟨_,rfl,.inl ⟨_,e⟩⟩,trivial⟩,λd c=>by
  rw[yU e]at c;obtain rfl:=Jn c
  exact⟨l,m⟩⟩
theorem Ma.new {H:Hp}{b h:Nat}{a:Addr}{xs:List V}(f:H a=none)(l:xs.length<=b)(m:∀ y∈xs,Ma H b h y):Ma (L2.upd H a (.tup xs)) b (h+1) (.ref a) :=
 Ma.tup zE l λy c=>Ma.same (zC f _) (m y c)
theorem Ma.lstN {H:Hp}{a:Addr}(f:H a=none)(xs:List V){b h:Nat}:Ma (L2.upd H a (.lst xs)) b h (.ref a):=Ma.lst zE
theorem Ma.dictN {H:Hp}{a:Addr}(f:H a=none){b h:Nat}:Ma (L2.upd H a (.dK [])) b h (.ref a):=Ma.dict zE
theorem Ma.kids {H:Hp}{b h:Nat}{x:V}{xs:List V}(m:Ma H b h x)(e:zc H x=some xs):xs.length<=b/\∃ h',h=h'+1/\∀ y∈xs,Ma H b h' y:=by
 cases h with
 | zero=>exact absurd (m.2.symm.trans e) nofun
 | succ h'=>exact⟨(m.2 xs e).1,h',rfl,(m.2 xs e).2⟩
def uG:Sp:=λb H Q _=>∃ l,b=[.ref l]/\Pk3 H l/\∀ y a,Ma a 3 2 y->Pk3 a l->But l H a->Q y a
def vm (h:Nat):Sp:=λc H Q _=>∃ l x b,c=[.ref l,x]/\Pk3 H l/\b<=900/\Ma H b h x/\∀ y a,Ma a (b+3) (h+2) y->Pk3 a l->But l H a->Q y a
end L2
namespace L2
open PySem PySem.Spec PyProof PyProof.Rows Own Bn
def pi:V->Option Int
 | .int i=>some i
 | .bl b=>some (PyProof.Rows.b2i b)
 | _=>none
theorem su {xs:List V}{lo hi:Option Int}{y:V}(h:y∈yz xs lo hi):y∈xs:=List.mem_of_mem_drop (List.mem_of_mem_take h)
theorem sn (xs:List V)(lo hi:Option Int):(yz xs lo hi).length<=xs.length:=by
 unfold yz;rw[Jh,JW];lia
theorem qd (xs:List V)(n:Nat):(yz xs (some (n:Int)) none).length<=xs.length-n:=by
 unfold yz;rw[Jh,JW,HT.sIx_nat,HT.sIx_none];lia
theorem nN (xs:List V)(v:Nat):(yz xs (some (v:Int)) (some ((v:Int)+1))).length<=1:=by
 unfold yz;rw[Jh];refine Jz (Nat.min_le_left _ _) ?_;show HT.sIx xs.length xs.length (some ((v+1:Nat):Int))-HT.sIx xs.length 0 (some (v:Int))<=1;rw[HT.sIx_nat,HT.sIx_nat];lia
section
variable {X:Cx}
theorem iO:OpR X (binaryOp .Add) (λx y H Q=>∃ i j,pi x=some i/\y=.int j/\Q (.int (i+j)) H):=by
 intro pins s σ H x y v u Q I a c ⟨i,j,e,e2,q⟩;subst e2;obtain⟨d,rfl⟩:=c
 cases x with
 | int k =>
  cases e;obtain⟨t,rfl⟩:=a
  exact add_int ⟨.int _,H,I.tok _,⟨_,rfl⟩,q⟩
 | bl b =>
  cases e;cases a
  exact PySem.IntBool.add_bool_int ⟨.int _,H,I.tok _,⟨_,rfl⟩,q⟩
 | _=>cases e
theorem oq:OpR X (binaryOp .Sub) (λx y H Q=>∃ i j,pi x=some i/\pi y=some j/\((∃ k,x=.int k)\/∃ k,y=.int k)/\Q (.int (i-j)) H):=by
 intro pins s σ H x y v u Q I c a ⟨i,j,e,e2,w,q⟩
 cases x with
 | int k =>
  cases e;obtain⟨t,rfl⟩:=c
  cases y with
  | int l =>
   cases e2;obtain⟨d,rfl⟩:=a
   exact sub_int ⟨.int _,H,I.tok _,⟨_,rfl⟩,q⟩
  | bl b =>
   cases e2;cases a
   exact PySem.IntBool.sub_int_bool ⟨.int _,H,I.tok _,⟨_,rfl⟩,q⟩
  | _=>cases e2
 | bl b =>
  cases e;cases c
  cases y with
  | int l =>
   cases e2;obtain⟨d,rfl⟩:=a
   exact PySem.IntBool.sub_bool_int ⟨.int _,H,I.tok _,⟨_,rfl⟩,q⟩
  | bl b=>rcases w with ⟨k,w⟩|⟨k,w⟩<;>cases w
  | _=>cases e2
 | _=>cases e
theorem oP:CallR X (.type "bool") (λxs H Q=>∃ x i,xs=[x]/\pi x=some i/\∀ b,Q (.bl b) H):=by
 rintro pins s σ H xs a Q I r ⟨x,i,rfl,e,q⟩
 cases x with
 | int k=>exact uf pins s σ H _ a Q I r (.inl ⟨_,rfl,q _⟩)
 | bl b=>exact uf pins s σ H _ a Q I r (.inr ⟨_,rfl,q _⟩)
 | _=>cases e
theorem iL (n:X.A.units<cLine):OpR X (compareOp .NotEq) (λx y H Q=>∃ a b xs,x=.ref a/\y=.ref b/\H a=some (.tup xs)/\H b=some (.tup [])/\Q (.bl (!xs.isEmpty)) H):=by
 intro pins s σ H x y v u Q I g f ⟨a,b,xs,r,e2,p,o,q⟩;subst r e2;cases g;cases f;obtain⟨c,d,m,_⟩:=I.tuple (SqT.of p);obtain⟨t,i,k,_⟩:=I.tuple (SqT.of o);cases i;refine SeqAt.RcNeAt.tuples (e:=λ_=>true) m k n (λj _ h=>absurd h (Nat.not_lt_zero _)) X.prog X.w _ _ ?_
 have e:(!((List.range (min c.toArray.size ([]:List Value).toArray.size)).all (λ_=>true) && c.toArray.size == ([]:List Value).toArray.size)) = !xs.isEmpty:=by
  have l:=d.length
  cases xs with
  | nil=>cases d;rfl
  | cons z w=>cases d;simp
 exact⟨.bl _,H,I,JH Value.bool e,q⟩
theorem lK:CallR X (.type "str") (λxs H Q=>∃ x i,xs=[x]/\pi x=some i/\i.natAbs<=10 ^ 30/\∀ z,Q (.str z) H):=by
 rintro pins s σ H xs c Q I r ⟨x,i,rfl,e,b,q⟩;obtain⟨u,rfl,a⟩:=wp r
 cases x with
 | int k =>
  cases e;obtain⟨t,rfl⟩:=a;refine PySem.P.str_of_int ?_ ⟨.str _,H,I.tok _,⟨_,rfl⟩,q _⟩;by_cases z:i.natAbs=0
  ·rw[z];decide
  ·rw[Nat.log2_lt z]
   exact Z9 b (by decide)
 | bl b =>
  cases a
  exact PySem.P.str_of_bool ⟨.str _,H,I.tok _,⟨_,rfl⟩,q _⟩
 | _=>cases e
end
end L2
namespace L2
open PySem PySem.Spec PyProof.Rows Own Bn
theorem cQ {far:Int}{xs:List V}(ne:xs≠[]):xs.all (whB 0 far)=(xs.all (yr 0) && decide (uj (yY xs)<=far)):=by
 rw[JZ,JU,JV,JV,decide_eq_true_iff];constructor
 ·intro h
  have w:∀ x∈xs,yr 0 x=true:=λx a=>((wo far x).mp (h x a)).1;refine⟨w,?_⟩;have e:=xj λy c=>y9 (w y c);have b:yY xs≠[]:=λz=>ne (by rw[e,z];rfl);have m:=(oz b).1;have d:V.int (uj (yY xs))∈(yY xs).map V.int:=JD.mpr ⟨_,m,rfl⟩;rw[<- e]at d;obtain⟨_,i,f,l⟩:=(wo far (.int (uj (yY xs)))).mp (h _ d);cases f;exact l
 ·rintro⟨w,l⟩ x a
  have e:=xj λy c=>y9 (w y c);have b:yY xs≠[]:=λz=>ne (by rw[e,z];rfl);refine(wo far x).mpr ⟨w x a,?_⟩;rw[e]at a;obtain⟨i,hi,rfl⟩:=JD.mp a;exact⟨i,rfl,Int.le_trans ((oz b).2 i hi) l⟩
section
variable {stO:V->Option KN}{xs:List V}{k0:KN}{moves:List Nat}{step:KN->Nat->Option KN}{i:Nat}{y:V}{s:KN}{ss:List KN}
theorem j3 (hi:xs[i]?=some y)(e:stO y=none):xS stO xs k0 moves step=false :=
 xR (tO.mpr ⟨y,Jq hi,e⟩)
theorem j5 (hi:xs[i]?=some y)(e:(xs.take i).mapM stO=some ss)(v:stO y=some s)(m:s∈ss):xS stO xs k0 moves step=false:=by
 cases g:xs.mapM stO with
 | none=>exact xR g
 | some a =>
  rw[y7 g]
  have b:¬ a.Nodup:=λb=>by
   obtain⟨B,t⟩:=y3 e;obtain⟨A,f⟩:=y3 g;obtain⟨z,n,e2⟩:=f i y hi;cases v.symm.trans e2;obtain⟨j,p,w⟩:=List.getElem_of_mem m;have d:j<(xs.take i).length:=by lia
   obtain⟨u,l,k⟩:=t j _ (Ja d);rw[Ja p,w]at l;cases l;rw[Jh]at d;have o:j<xs.length:=by lia
   obtain⟨u,h,x⟩:=f j _ (Ja o);rw[List.getElem_take]at k;cases k.symm.trans x;have r:i<a.length:=(J8.mp n).1;have c:j<a.length:=(J8.mp h).1;have q:j<i:=by lia
   exact List.pairwise_iff_getElem.mp (List.nodup_iff_pairwise_ne.mp b) j i c r q (by rw[(J8.mp n).2,(J8.mp h).2])
  rw[Jj b];rfl
theorem lV {m:Nat}(em:xs.mapM stO=some ss)(pm:s∈ss)(b:m∈moves)(e:∀ t,step s m=some t->t∉ss):xS stO xs k0 moves step=false:=by
 rw[y7 em];refine Bool.eq_false_iff.mpr λz=>?_;obtain⟨_,z⟩:=(JU _ _).mp z;have a:=JV.mp (JV.mp z _ pm) m b
 cases g:step s m with
 | none=>rw[g]at a;cases a
 | some t=>rw[g]at a;exact e t g (Y3 a)
theorem lU (em:xs.mapM stO=some ss)(nd:ss.Nodup)(cl:∀ k∈ss,∀ m∈moves,∃ t,step k m=some t/\t∈ss):xS stO xs k0 moves step=decide (k0∈ss):=by
 rw[y7 em,Jw nd,Bool.true_and];have good:∀ F:KN->Bool,(∀ k∈ss,F k=true)->(decide (k0∈ss) && ss.all F)=decide (k0∈ss):=λF h=>by rw[JV.mpr h,Bool.and_true]
 refine good _ λk c=>JV.mpr λm b=>?_;obtain⟨t,g,a⟩:=cl k c m b;rw[g];exact Jw a
theorem nn (hi:xs[i]?=some y)(e:(xs.take i).mapM stO=some ss)(a:stO y=some s):(xs.take (i+1)).mapM stO=some (ss++[s]):=by
 rw[List.take_succ,hi];show ((xs.take i)++[y]).mapM stO=_;rw[List.mapM_append,e,List.mapM_cons,a];rfl
end
theorem ff {H:Hp}{nf lanes far:Int}{x t h:V}{a:List V}(e:zc H x=some [t,h])(b:zc H h=some a)(l:(a.length:Int)=lanes)(ne:a≠[]):y4 H nf lanes far x=(yF H nf 2 t && (a.all (whB 0 far) && decide (vF (yY a)=0))):=by
 unfold y4 yV wW;rw[e];dsimp only;rw[b];dsimp only[Option.getD];rw[cQ ne,Jw l,Bool.true_and];cases yF H nf 2 t<;>cases a.all (yr 0)<;>cases decide (vF (yY a)=0)<;>cases decide (uj (yY a)<=far)<;>rfl
theorem wg {H:Hp}{nf lanes far:Int}{x:V}(e:y4 H nf lanes far x=false):stR H nf lanes far x=none:=by
 unfold stR;rw[e];rfl
theorem iG {H:Hp}{nf lanes far:Int}{x:V}(e:y4 H nf lanes far x=true):∃ s,stR H nf lanes far x=some s:=by
 have:=kD H nf lanes far x;rw[e]at this;exact Option.isSome_iff_exists.mp this
def uF:Sp:=λd H Q _=>∃ r fr f e N sm,∃ moves:List Nat,∃ b:Int,∃ x,d=[.ref r,.ref sm,.int b,x]/\Nt.Ok N/\NetAt H r fr f e N/\H sm=some (.tup (zW moves))/\(∀ m∈moves,m<N.lanes)/\moves.length<=16 /\
 An H x/\(∀ a,zc H x=some a->a.length<=1000/\∀ y∈a,Dp H 2 y) /\
 ∀ c,Same H c->Q (.bl (match zc H x with|none=>false|some a=>xS (stR H (N.forks.length:Nat) (N.lanes:Nat) b) a (plK (List.replicate N.forks.length 0) (List.replicate N.lanes 0)) moves (xg N))) c
end L2
namespace K46
open PySem L2 Own Bn
abbrev sO:Stmt:=top 47
section
variable {P:Program}{w:World}{K:PySem.W.Frag}{mg:Str->Option Value}{base:Heap}
theorem rQ:FnScope ["_law_net_here","_law_some_here","_law_far","_law_thing","_law_known","_law_place","_law_turns","_law_heights","_law_lane","_law_later","_law_end"] ["_law_net_here","_law_some_here","_law_far","_law_thing"] (zN sO):=by trivial
theorem mI {f fP fM fL fW fT:Addr}{fd dP dM dL dW dT:FuncData}(F:Fun K "_law_shows" "_law_shows" sO f fd) (G:Mgs mg) (UP:Use P w K mg base "_law_passed" ["_law_net_here","_law_turns","_law_lane"] 1 (wj false) fP dP) (UM:Use P w K mg base "_law_more" ["_law_counts","_law_lane"] 1 oU fM dM) (UL:Use P w K mg base "_law_lowered" ["_law_heights"] 1 (sB false) fL dL) (UW:Use P w K mg base "_law_whole" ["_law_thing","_law_least","_law_most"] 1 (oT K) fW dW) (UT:Use P w K mg base "_law_are_turns" ["_law_net_here","_law_thing"] 2 (vz K) fT dT):FnOk P w K mg base CX0 3 f fd ["_law_net_here","_law_some_here","_law_far","_law_thing"] uF:=by
 refine F.ok rQ (λvs H Q E h=>?_) (λa6 A outer s H vs Q E hr h=>?_)
 ·obtain⟨r,fr,er,ps,N,sm,moves,far,x,rfl,_⟩:=h
  rfl
 obtain⟨r,fr,er,ps,N,sm,moves,far,x,rfl,ok,na,aB,mlt,ml,ax,dx,q2⟩:=h;have ab:Room 1 _:=hr.mono (by decide);refine⟨_,(@zF _ _ _ _ _ (@yH _ _ _ _ _ _ _ _ (@xO _ _ _ _ (@yp _ _ _ (@zL _ _ _ _ _ _ _ _ _ yQ (by rfl) G.isi (by rfl) (@zA _ _ _ _ _ (@qv _ 3 _ _ (by trivial)) (@zA _ _ _ _ _ (@ya _ _ (.ty "tuple") (.type "tuple") _ (by rfl) G.tuple (by rfl) rfl (by decide) (by decide)) zB (by rfl)) (by rfl)) (by decide) (by decide) (by rfl) (by rfl)) (by intro _;rfl))) (@zH _ _ _ (@zU _ _ _ _ yo)) zq) (@zF _ _ _ _ _ (@zZ _ _ 4 _ _ _ _ rQ.nd rfl (.inl rfl) oj (by rfl) (by trivial)) (@zF _ _ _ _ _ (@yd _ _ _ _ _ _ _ _ JN rfl (@yg _ _ _ _ (@qv _ 3 _ _ (by trivial))) (@zM _ _ 5 _ rQ.nd rfl (.inl rfl) (by trivial)) (@zF _ _ _ _ _ (@yH _ _ _ _ _ _ _ _ (PW.pt (@wE _ _ _ _ _ _ _ (@xO _ _ _ _ (@yp _ _ _ (@zL _ _ _ _ _ _ _ _ _ yQ (by rfl) G.isi (by rfl) (@zA _ _ _ _ _ (@qv _ 5 _ _ (by trivial)) (@zA _ _ _ _ _ (@ya _ _ (.ty "tuple") (.type "tuple") _ (by rfl) G.tuple (by rfl) rfl (by decide) (by decide)) zB (by rfl)) (by rfl)) (by decide) (by decide) (by rfl) (by rfl)) (by intro _;rfl))) (@wE _ _ _ _ _ _ _ (@zp _ _ _ _ _ _ _ _ tH (@zL _ _ _ _ _ _ _ _ _ zR (by rfl) G.len Jy (@zA _ _ _ _ _ (@qv _ 5 _ _ (by trivial)) zB (by rfl)) (by decide) (by decide) (by rfl) (by rfl)) zD (zt _)) (@xt _ _ _ _ (@xO _ _ _ _ (@kZ _ _ _ (@zK _ _ _ _ _ _ _ _ _ _ _ _ _ _ _ _ UT.ok hr (by rfl) UT.m UT.kp UT.b .nil zS (@zA _ _ _ _ _ (@qv _ 0 _ _ (by trivial)) (@zA _ _ _ _ _ (@zX _ _ _ _ _ _ _ zv (@qv _ 5 _ _ (by trivial)) zD (λ_ _=>rfl)) zB (by rfl)) (by rfl)) (by decide) (by rfl) (by rfl)) (λ_=>rfl))))))) (@zH _ _ _ (@zU _ _ _ _ yo)) zq) (@zF _ _ _ _ _ (@yH _ _ _ _ _ _ _ _ (PW.pt (@wE _ _ _ _ _ _ _ (@xO _ _ _ _ (@yp _ _ _ (@zL _ _ _ _ _ _ _ _ _ yQ (by rfl) G.isi (by rfl) (@zA _ _ _ _ _ (@zX _ _ _ _ _ _ _ zv (@qv _ 5 _ _ (by trivial)) zD (λ_ _=>rfl)) (@zA _ _ _ _ _ (@ya _ _ (.ty "tuple") (.type "tuple") _ (by rfl) G.tuple (by rfl) rfl (by decide) (by decide)) zB (by rfl)) (by rfl)) (by decide) (by decide) (by rfl) (by rfl)) (by intro _;rfl))) (@xt _ _ _ _ (@zp _ _ _ _ _ _ _ _ tH (@zL _ _ _ _ _ _ _ _ _ zR (by rfl) G.len Jy (@zA _ _ _ _ _ (@zX _ _ _ _ _ _ _ zv (@qv _ 5 _ _ (by trivial)) zD (λ_ _=>rfl)) zB (by rfl)) (by decide) (by decide) (by rfl) (by rfl)) (@zX _ _ _ _ _ _ _ zv (@qv _ 0 _ _ (by trivial)) zD (λ_ _=>rfl)) (zt _))))) (@zH _ _ _ (@zU _ _ _ _ yo)) zq) (@zF _ _ _ _ _ (@yH _ _ _ _ _ _ _ _ (PW.pt (@wE _ _ _ _ _ _ _ (@xO _ _ _ _ (@yp _ _ _ (@zL _ _ _ _ _ _ _ _ _ (xJ rfl true) (by rfl) G.all (by rfl) (@zA _ _ _ _ _ (@wc _ _ _ _ none _ _ _ _ _ _ ["_law_height","_law_far"] [none,some 2] rfl (@yg _ _ _ _ (@zX _ _ _ _ _ _ _ zv (@qv _ 5 _ _ (by trivial)) zD (λ_ _=>rfl))) (CapOk.of (by kernel_rfl)) (λ_ _ _ _ _=>(@zM _ _ 0 _ (show (["_law_height","_law_far"]:List Str).Nodup from by decide +kernel) rfl (.inl rfl) (.inr rfl))) (λ_ _ _ _ _=>yj) (λ_ _ _ _ _=>(@zK _ _ _ _ _ _ _ _ _ _ _ _ _ _ _ _ UW.ok ab (by rfl) UW.m UW.kp UW.b .nil zS (@zA _ _ _ _ _ (@qv _ 0 _ _ (by trivial)) (@zA _ _ _ _ _ zD (@zA _ _ _ _ _ (@qv _ 1 _ _ (by trivial)) zB (by rfl)) (by rfl)) (by rfl)) (by decide) (by rfl) (by rfl))) (by intro _;rfl)) zB (by rfl)) (by decide) (by decide) (by rfl) (by rfl)) (by intro _;rfl))) (@wE _ _ _ _ _ _ _ (@zp _ _ _ _ _ _ _ _ tH (@zL _ _ _ _ _ _ _ _ _ (wU rfl false) (by rfl) G.min (by rfl) (@zA _ _ _ _ _ (@zX _ _ _ _ _ _ _ zv (@qv _ 5 _ _ (by trivial)) zD (λ_ _=>rfl)) zB (by rfl)) (by decide) (by decide) (by rfl) (by rfl)) zD (zt _)) (@xt _ _ _ _ (@sV _ _ _ _ _ _ (gy hr.u3 (@qv _ 5 _ _ (by trivial)) (@qv _ 4 _ _ (by trivial))) (by rfl)))))) (@zH _ _ _ (@zU _ _ _ _ yo)) zq) (@zH _ _ _ (oZ hr.u3 (@qv _ 4 _ _ (by trivial)) (@qv _ 5 _ _ (by trivial)) yo (by rfl)))))) (by intro _;rfl)) (@zF _ _ _ _ _ (ke (@yd _ _ _ _ _ _ _ _ JN rfl (kj (@qv _ 4 _ _ (by trivial))) (@yL _ _ _ _ _ _ rfl (@zQ _ _ _ _ _ (@zM _ _ 6 _ rQ.nd rfl (.inl rfl) (by trivial)) (@zQ _ _ _ _ _ (@zM _ _ 7 _ rQ.nd rfl (.inl rfl) (by trivial)) yC (by rfl)) (by rfl)) (by rfl) (by rfl)) (@zH _ _ _ (@yd _ _ _ _ _ _ _ _ JN rfl (@yg _ _ _ _ (@qv _ 1 _ _ (by trivial))) (@zM _ _ 8 _ rQ.nd rfl (.inl rfl) (by trivial)) (@zF _ _ _ _ _ (@yN _ _ _ _ _ _ (@zK _ _ _ _ _ _ _ _ _ _ _ _ _ _ _ _ UP.ok ab (by rfl) UP.m UP.kp UP.b .nil zS (@zA _ _ _ _ _ (@qv _ 0 _ _ (by trivial)) (@zA _ _ _ _ _ (@qv _ 6 _ _ (by trivial)) (@zA _ _ _ _ _ (@qv _ 8 _ _ (by trivial)) zB (by rfl)) (by rfl)) (by rfl)) (by decide) (by rfl) (by rfl)) (@yL _ _ _ _ _ _ rfl (@zQ _ _ _ _ _ (@zM _ _ 9 _ rQ.nd rfl (.inl rfl) (by trivial)) (@zQ _ _ _ _ _ (@zM _ _ 10 _ rQ.nd rfl (.inl rfl) (by trivial)) yC (by rfl)) (by rfl)) (by rfl) (by rfl)) (by rfl) (by rfl) (by rfl)) (@zH _ _ _ (@yH _ _ _ _ _ _ _ _ (@sV _ _ _ _ _ _ (vR hr.u3 (@zV _ _ _ _ _ (@zA _ _ _ _ _ (@qv _ 9 _ _ (by trivial)) (@zA _ _ _ _ _ (@zK _ _ _ _ _ _ _ _ _ _ _ _ _ _ _ _ UL.ok ab (by rfl) UL.m UL.kp UL.b .nil zS (@zA _ _ _ _ _ (@zK _ _ _ _ _ _ _ _ _ _ _ _ _ _ _ _ UM.ok ab (by rfl) UM.m UM.kp UM.b .nil zS (@zA _ _ _ _ _ (@qv _ 7 _ _ (by trivial)) (@zA _ _ _ _ _ (@qv _ 10 _ _ (by trivial)) zB (by rfl)) (by rfl)) (by decide) (by rfl) (by rfl)) zB (by rfl)) (by decide) (by rfl) (by rfl)) zB (by rfl)) (by rfl))) (@qv _ 4 _ _ (by trivial))) (by rfl)) (@zH _ _ _ (@zU _ _ _ _ yo)) zq))) (by intro _;rfl))) (by intro _;rfl))) (@zH _ _ _ (@zU _ _ _ _ (@y8 _ _ _ _ _ _ _ _ (jI hr.u3) (@zV _ _ _ _ _ (@zA _ _ _ _ _ (@zP _ _ _ _ _ _ _ _ xV (@zV _ _ _ _ _ (@zA _ _ _ _ _ zD zB (by rfl))) (@zL _ _ _ _ _ _ _ _ _ zR (by rfl) G.len Jy (@zA _ _ _ _ _ (@zX _ _ _ _ _ _ _ zv (@qv _ 0 _ _ (by trivial)) zD (λ_ _=>rfl)) zB (by rfl)) (by decide) (by decide) (by rfl) (by rfl))) (@zA _ _ _ _ _ (@zP _ _ _ _ _ _ _ _ xV (@zV _ _ _ _ _ (@zA _ _ _ _ _ zD zB (by rfl))) (@zX _ _ _ _ _ _ _ zv (@qv _ 0 _ _ (by trivial)) zD (λ_ _=>rfl))) zB (by rfl)) (by rfl))) (@qv _ 4 _ _ (by trivial)) (by rfl)))))))),?_⟩;have a5:=ok.l16;have fm:=ok.fm;have pl:=na.prs.len;obtain⟨ty,Iy⟩:=(ax.any (K:=K)).isi;refine⟨_,rfl,_,"tuple",_,_,rfl,Iy.ty,Iy.tup,_,rfl,?_⟩
 cases z:zc H x with
 | none =>
  refine zz ?_;have:=q2 H (Same.refl H);rw[z]at this
  exact this
 | some xs =>
  obtain⟨a,rfl,ha⟩:=zw z;obtain⟨xl,aW⟩:=dx _ z;rw[z]at q2;dsimp only at q2;refine zr (λn S=>⟨_,rfl,a,rfl,⟨_,SqT.of (zC S (DN P w n []) _ _ ha)⟩,?_⟩);have s1:=zC S (DN P w n [])
  let st:V->Option KN:=stR H (N.forks.length:Nat) (N.lanes:Nat) far
  refine vG (K:=K) (a:=a) (xs:=xs) (λi σ O=>∃ g ss X v6 v7 J I v10,σ=[some (.ref r),some (.ref sm),some (.int far),some (.ref a),some (.ref n),X,v6,v7,J,I,v10]/\Same H O/\O n=some (DN P w n g)/\KsIn O g/\g.map (·.1)=ss/\(xs.take i).mapM st=some ss/\ss.Nodup) ⟨[],[],none,none,none,none,none,none,rfl,s1,zE,λx hx=>(nomatch hx),rfl,rfl,YG⟩ (λi σ O _ q=>by
   obtain⟨g,ss,X,v6,v7,J,I,v10,_,s2,_⟩:=q
   exact SqT.of (s2 _ _ ha)) ?_ ?_
  ·rintro i y σ O hy ⟨g,ss,X,v6,v7,J,I,v10,rfl,s2,hd,kx,U,em,nd⟩
   have dy:=aW y (Jq hy);have il:=(J8.mp hy).1;have kp:=KpN.same s2;have aV:=dy.kp kp;obtain⟨a0,aH⟩:=(aV.an.any (K:=K)).isi;have ry:zc O y=zc H y:=vP kp dy
   have no:st y=none->∀ H3,Same O H3->Q (.bl false) H3:=λe H3 s3=>by
    have:=q2 H3 (s2.trans s3)
    rwa [j3 hy e]at this
   refine⟨_,rfl,_,"tuple",_,_,rfl,aH.ty,aH.tup,_,rfl,?_⟩
   cases zy:zc O y with
   | none =>
    have aI:zc H y=none:=ry ▸ zy
    exact zz (zz (no (wg (by unfold y4;rw[aI])) _ (Same.refl _)))
   | some th =>
    obtain⟨b,rfl,hb⟩:=zw zy;have C:zc H (.ref b)=some th:=ry ▸ zy;refine zr ⟨_,rfl,_,_,rfl,.inr (SqT.of hb),rfl,_,rfl,?_⟩;show if (!decide (V.int ((th.length:Nat):Int)=V.int 2))=true then _ else _;by_cases l2:th.length=2
    rotate_left
    ·rw[Jj λe=>l2 (by injection e with e;lia)]
     have e:y4 H (N.forks.length:Nat) (N.lanes:Nat) far (.ref b)=false:=by
      unfold y4;rw[C]
      match th,l2 with
      | [],_=>rfl
      | [_],_=>rfl
      | [_,_],l=>exact absurd rfl l
      | _::_::_::_,_=>rfl
     exact zz (zz (no (wg e) _ (Same.refl _)))
    rw[Jw (show V.int ((th.length:Nat):Int)=V.int 2 by rw[l2];rfl)]
    obtain⟨t,h,rfl⟩:∃ t h,th=[t,h]:=by
     match th,l2 with
     | [t,h],_=>exact⟨t,h,rfl⟩
    clear l2;have aE:=(dy.2 _ C).2 t (.head _);have aG:=(dy.2 _ C).2 h (.tail _ (.head _));have dt:=aE.kp kp;have et:yF O (N.forks.length:Nat) 2 t=yF H (N.forks.length:Nat) 2 t:=by unfold yF;rw[vP kp aE]
    refine zr ⟨_,rfl,_,rfl,b,_,_,_,rfl,rfl,SqT.of hb,rfl,r,fr,er,ps,N,t,rfl,ok,na.tups kp.tups,dt.deep,λH3 s3=>⟨_,rfl,?_⟩⟩;rw[et]
    cases tb:yF H (N.forks.length:Nat) 2 t with
    | false =>
     refine zz (no (wg ?_) _ s3);unfold y4;rw[C];dsimp only
     rw[tb];rfl
    | true =>
    have u3:=s2.trans s3;have aA:=KpN.same u3;have dh:=aG.kp aA;have rh:zc H3 h=zc H h:=vP aA aG;obtain⟨aZ,Ih⟩:=(dh.an.any (K:=K)).isi;have ae:=s3 _ _ hb;refine zr ⟨_,rfl,b,_,_,_,rfl,rfl,SqT.of ae,rfl,_,"tuple",_,_,rfl,Ih.ty,Ih.tup,_,rfl,?_⟩
    cases zh:zc H3 h with
    | none =>
     refine zz (zz (no (wg ?_) _ s3));have aa:zc H h=none:=rh ▸ zh;have f0:yV H (N.lanes:Nat) h=false:=by unfold yV;rw[aa]
     unfold y4;rw[C];dsimp only
     rw[tb,f0];rfl
    | some B =>
    have aa:zc H h=some B:=rh ▸ zh;obtain⟨c,rfl,hc⟩:=zw zh;refine zr ⟨_,rfl,b,_,_,_,rfl,rfl,SqT.of ae,rfl,c,B,rfl,.inr (SqT.of hc),_,rfl,r,_,_,_,rfl,rfl,SqT.of (u3 _ _ na.net),rfl,rfl,_,rfl,?_⟩;show if (!decide (V.int ((B.length:Nat):Int)=V.int ((N.lanes:Nat):Int)))=true then _ else _;by_cases lh:(B.length:Int)=(N.lanes:Nat)
    rotate_left
    ·rw[Jj λe=>lh (by injection e)]
     refine zz (no (wg ?_) _ s3)
     have f0:yV H (N.lanes:Nat) (.ref c)=false:=by
      unfold yV;rw[aa];dsimp only;rw[Jj lh];rfl
     unfold y4;rw[C];dsimp only;rw[tb,f0];rfl
    rw[Jw (JH V.int lh)];have aC:B≠[]:=λe=>by rw[e]at lh;change (0:Int)=_ at lh;have:=ok.l1;lia
    have lw:=ff (nf:=(N.forks.length:Nat)) (far:=far) C aa lh aC;rw[tb,Bool.true_and]at lw;refine zr ⟨_,rfl,b,_,_,_,rfl,rfl,SqT.of ae,rfl,c,rfl,⟨_,SqT.of hc⟩,λl hl=>?_⟩;have aF:=dh.2 _ zh;refine xy (K:=K) (a:=c) (xs:=B) (λi acc σ H5=>(∃ v,σ=[v,some (.int far)])/\Same H3 H5/\H5 l=some (.lst acc)/\acc=((B.take i).map (whB 0 far)).map V.bl) ⟨⟨_,rfl⟩,zC hl _,zE,rfl⟩ (λi acc σ H5 q=>⟨q.2.2.1,SqT.of (q.2.1 _ _ hc)⟩) ?_ ?_
    ·rintro i u acc σ H5 Z ⟨⟨v,rfl⟩,s5,h5,rfl⟩
     have il:=(J8.mp Z).1;refine⟨_,rfl,_,rfl,u,0,far,rfl,AnyT.same s5 ((aF.2 u (Jq Z)).an.any),?_⟩;refine⟨h5,?_,nx il ⟨⟨_,rfl⟩,λc o e=>?_,zE,?_⟩⟩
     ·rw[Jc,Jc,Jh];exact Z9 (Nat.min_le_left _ _) (Jx (show i<1001 by have:=aF.1;lia) (by decide))
     ·rw[zJ (zG e hl)];exact s5 c o e
     ·rw[JQ il,JB,JB,(J8.mp Z).2];rfl
    rintro acc σ H5 ⟨⟨v,rfl⟩,s5,h5,rfl⟩;rw[JR]at h5;have R:=s3.trans s5;refine⟨l,B.map (whB 0 far),rfl,SqL.of h5,_,rfl,?_⟩;have ea:(B.map (whB 0 far)).all id=B.all (whB 0 far):=by rw[List.all_map];rfl
    rw[ea]
    cases ah:B.all (whB 0 far) with
    | false =>
     rw[ah]at lw
     exact zz (zz (no (wg lw) _ R))
    | true =>
    rw[ah,Bool.true_and]at lw;have ei:=xj λu Z=>y9 ((wo far u).mp (JV.mp ah u Z)).1;have ni:yY B≠[]:=λz=>aC (by rw[ei,z];rfl);obtain⟨mm,a4⟩:=vn ni;have aT:=s5 _ _ ae;have aD:=s5 _ _ hc;rw[ei]at aD;refine zr ⟨_,rfl,b,_,_,_,rfl,rfl,SqT.of aT,rfl,c,yY B,rfl,SqT.of aD,List.length_pos_iff.mpr ni,λM hM lM=>⟨rfl,_,rfl,?_⟩⟩;obtain rfl:M=vF (yY B):=(vE hM lM).symm;show if (!decide (V.int (vF (yY B))=V.int 0))=true then _ else _;by_cases m0:vF (yY B)=0
    rotate_left
    ·rw[Jj λe=>m0 (by injection e)]
     rw[Jj m0]at lw;exact zz (zz (no (wg lw) _ R))
    rw[Jw (JH V.int m0)];rw[Jw m0]at lw;obtain⟨s,es⟩:=iG lw;obtain⟨_,b',eb,nk⟩:=vw ok.l1 es;cases eb;have ak:=s2.trans R;have ao:=nk.tups (Tups.of ak);have ap:=kx.tups (Tups.of R);have aq:=R _ _ hd;refine zr ⟨_,rfl,_,rfl,n,b,g,s,rfl,rfl,⟨.inl aq,ap⟩,ao,_,rfl,?_⟩;by_cases W:s∈g.map (·.1)
    ·rw[show (yt g s).isSome=true from yc.mpr W]
     have:=q2 H5 ak;rw[j5 hy em es (U ▸ W)]at this;exact zz this
    rw[show (yt g s).isSome=false by
     cases z:(yt g s).isSome with
     | false=>rfl
     | true=>exact absurd (yc.mp z) W]
    have el:g.length<=1000:=by
     have h1:=(y3 em).1;have h2:=JH List.length U;rw[Jc]at h2;rw[Jh]at h1;lia
    refine zr ⟨_,rfl,_,rfl,n,b,g,s,rfl,rfl,aq,ap,ao,by rw[Js];lia,?_⟩;rw[oS W];have t6:Tups H5 (L2.upd H5 n (DN P w n (g++[(s,b,.bl true)]))):=λc ws e=>by rw[zJ (xi e aq λz=>by cases z)];exact e
    refine⟨g++[(s,b,.bl true)],ss++[s],_,_,_,_,_,_,rfl,λc o e=>?_,zE,λx hx=>?_,by rw[JB,U];rfl,nn hy em es,?_⟩
    ·rw[zJ (zG e S)];exact ak c o e
    ·rcases Jr.mp hx with q|q
     ·exact(ap x q).tups t6
     ·rw[Jd.mp q];exact ao.tups t6
    ·rw[List.nodup_append]
     exact⟨nd,JT.mpr ⟨JA,YG⟩,λu Z v hv e=>W (by rw[U,<- Jd.mp hv,<- e];exact Z)⟩
  ·rintro σ O ⟨g,ss,X,v6,v7,J,I,v10,rfl,s2,hd,kx,U,em,nd⟩
   rw[JR]at em;have len:=(y3 em).1;refine⟨_,rfl,n,g,rfl,hd,λob=>?_⟩;have au:g.length=ss.length:=by rw[<- U,Jc]
   have el:g.length<=1000:=by lia
   refine lC (P:=P) (w:=w) (d:=n) (o:=ob) (xs:=g) (λi σ L=>∃ X v6 v7 J I v10,σ=[some (.ref r),some (.ref sm),some (.int far),some (.ref a),some (.ref n),X,v6,v7,J,I,v10]/\Same H L/\Tups O L/\L n=some (.frz ob (DN P w n g))/\∀ k∈ss.take i,∀ m∈moves,∃ t,xg N k m=some t/\t∈ss) ⟨_,_,_,_,_,_,rfl,λc o e=>?_,λc ws e=>?_,zE,λk hk=>nomatch hk⟩ (λi σ L q=>by
    obtain⟨_,_,_,_,_,_,_,_,_,q,_⟩:=q
    exact q) ?_ ?_
   ·rw[zJ (zG e S)];exact s2 c o e
   ·rw[zJ (xi e hd λz=>by cases z)];exact e
   ·rintro i p σ L hp ⟨X,v6,v7,J,I,v10,rfl,s6,t6,hf,cl⟩
    have il:i<g.length:=(J8.mp hp).1;have es:ss[i]?=some p.1:=by rw[<- U,JG,hp];rfl
    obtain⟨s',e1,e2⟩:=(y3 em).2 i _ (Ja (show i<xs.length by lia));cases es.symm.trans e1;obtain⟨⟨ts,B,T,tl,bits,hl,h0,hz⟩,_⟩:=vw ok.l1 e2;have nk:=kx p (Jq hp);have pm:plK ts B∈ss:=T ▸ Jq es;have ay:=nk.tups t6;rw[T]at ay;obtain⟨t',u',f1,f2,f3⟩:=oa ay;have ne:B≠[]:=λz=>by rw[z]at hz;cases hz
    have aY:=ok.l16;refine⟨p.2.1,_,rfl,SqT.of f1,rfl,_,_,rfl,_,_,rfl,rfl,?_⟩;refine⟨_,rfl,sm,rfl,⟨_,SqT.of (s6 _ _ aB)⟩,?_⟩
    refine vG (K:=K) (a:=sm) (xs:=zW moves) (λj σ H8=>∃ J I v10,σ=[some (.ref r),some (.ref sm),some (.int far),some (.ref a),some (.ref n),X,some (.ref t'),some (.ref u'),J,I,v10]/\Same H H8/\Tups L H8/\H8 n=some (.frz ob (DN P w n g))/\∀ m∈moves.take j,∃ t,xg N (plK ts B) m=some t/\t∈ss) ⟨_,_,_,rfl,s6,Tups.of (Same.refl _),hf,λm hm=>nomatch hm⟩ (λj σ H8 _ z=>by
     obtain⟨_,_,_,_,z,_⟩:=z
     exact SqT.of (z _ _ aB)) ?_ ?_
    ·rintro j x σ H8 hx ⟨J,I,v10,rfl,Y,t8,ad,af⟩
     unfold zW at hx;rw[JG]at hx;obtain⟨D,ar,rfl⟩:=Y9.mp hx;have jl:j<moves.length:=(J8.mp ar).1;have az:=Jq ar;have lt':=mlt D az;have aK:=na.tups (Tups.of Y);refine⟨_,rfl,_,rfl,_,rfl,r,fr,er,ps,N,t',ts,D,rfl,ok,aK,t8 _ _ f2,tl,bits,lt',λq av H9 s9 aR aP=>?_⟩;refine⟨q,_,rfl,SqT.of aR,rfl,_,_,rfl,_,_,rfl,rfl,?_⟩;have a3:=tG (ts:=ts) ok lt';refine⟨_,rfl,_,rfl,_,rfl,u',B,passE N ts D,rfl,s9 _ _ (t8 _ _ f3),by lia,by lia,λc Ha sa ha=>?_⟩
     refine⟨c,yZ B (passE N ts D) 1,rfl,ha,λz=>ne (by
      have:=JH List.length z;rw[yn,Yp]at this
      exact List.length_eq_zero_iff.mp this),by rw[yn];lia,λb Hb sb hb=>⟨(by show 2<=sizeLine;decide),λq hq=>?_⟩⟩
     have sq:=zC hq (.tup [.ref av,.ref b]);have uq:=((s9.trans sa).trans sb).trans sq;have kk:NKey (L2.upd Hb q (.tup [.ref av,.ref b])) (plK (x5 N ts D) (vS (yZ B (passE N ts D) 1))) q:=wd zE (sq _ _ (sb _ _ (sa _ _ aP))) (sq _ _ hb);have t9:=t8.trans (Tups.of uq);refine⟨_,rfl,n,q,g,_,rfl,rfl,⟨.inr ⟨ob,uq _ _ ad⟩,(kx.tups t6).tups t9⟩,kk,_,rfl,?_⟩;by_cases W:plK (x5 N ts D) (vS (yZ B (passE N ts D) 1))∈g.map (·.1)
     ·rw[show (yt g (plK (x5 N ts D) (vS (yZ B (passE N ts D) 1)))).isSome=true from yc.mpr W]
      refine zr ⟨_,_,_,rfl,Y.trans uq,t9,uq _ _ ad,λm hm=>?_⟩;rw[<- Y6 jl,(J8.mp ar).2]at hm;rcases Jr.mp hm with z|z
      ·exact af m z
      ·rw[Jd.mp z]
       exact⟨_,rfl,U ▸ W⟩
     ·rw[show (yt g (plK (x5 N ts D) (vS (yZ B (passE N ts D) 1)))).isSome=false by
       cases z:(yt g (plK (x5 N ts D) (vS (yZ B (passE N ts D) 1)))).isSome with
       | false=>rfl
       | true=>exact absurd (yc.mp z) W]
      have:=q2 _ (Y.trans uq)
      rw[lV em pm az (λt e z=>W (by
       rw[x9]at e;cases e
       exact U ▸ z))]at this
      exact zz this
    ·rintro σ H8 ⟨J,I,v10,rfl,Y,t8,ad,af⟩
     rw[zj,JR]at af;refine⟨_,_,_,_,_,_,rfl,Y,t6.trans t8,ad,λk hk=>?_⟩;have aN:i<ss.length:=by lia
     rw[<- Y6 aN,(J8.mp es).2]at hk;rcases Jr.mp hk with z|z
     ·exact cl k z
     ·rw[Jd.mp z,T];exact af
   ·rintro σ L ⟨X,v6,v7,J,I,v10,rfl,s6,t6,hf,cl⟩
    rw[au,JR]at cl;refine⟨n,ob,g,g,hd,hf,?_⟩;have s7:Same H (L2.upd L n (DN P w n g)):=λc o e=>by rw[zJ (zG e S)];exact s6 c o e
    have t7:Tups L (L2.upd L n (DN P w n g)):=λc ws e=>by rw[zJ (xi e hf λz=>by cases z)];exact e
    have aS:L2.upd L n (DN P w n g) n=some (DN P w n g):=zE;have aL:=(kx.tups t6).tups t7;refine⟨by show 1<=sizeLine;decide,λt0 aQ=>?_⟩;have s8:=zC aQ (.tup [.int 0]);have Y:=s7.trans s8;refine⟨_,rfl,r,_,_,_,rfl,rfl,SqT.of (Y _ _ na.net),rfl,fr,ps,rfl,.inr (SqT.of (Y _ _ na.forks)),t0,_,ps.length,rfl,rfl,zE,by lia,λt H9 s9 ht=>⟨by show 1<=sizeLine;decide,λu0 aO=>?_⟩⟩;have aj:=zC aO (.tup [.int 0]);have aJ:=(Y.trans s9).trans aj;refine⟨_,rfl,r,_,_,_,rfl,rfl,SqT.of (aJ _ _ na.net),rfl,u0,_,N.lanes,rfl,rfl,zE,by lia,λu aX aw Z=>⟨by show 2<=sizeLine;decide,λb0 aU=>?_⟩⟩;have ai:=zC aU (.tup [.ref t,.ref u])
    have aM:NKey (L2.upd aX b0 (.tup [.ref t,.ref u])) (plK (List.replicate N.forks.length 0) (List.replicate N.lanes 0)) b0:=wd zE (by
     rw[<- pl]
     exact ai _ _ (aw _ _ (aj _ _ (by rw[ht];exact JH (λz=>some (HO.tup z)) YC.symm)))) (ai _ _ (by rw[Z];exact JH (λz=>some (HO.tup z)) YC.symm))
    have ag:=(((s8.trans s9).trans aj).trans aw).trans ai;refine⟨_,rfl,n,g,rfl,⟨.inl (ag _ _ aS),aL.tups (Tups.of ag)⟩,.inl ⟨b0,_,rfl,aM,?_⟩⟩;have fin:=q2 _ (s7.trans ag);rw[lU em nd cl]at fin
    have e:(yt g (plK (List.replicate N.forks.length 0) (List.replicate N.lanes 0))).isSome=decide (plK (List.replicate N.forks.length 0) (List.replicate N.lanes 0)∈ss):=by
     rw[JZ,decide_eq_true_iff,yc,U]
    rw[e];exact fin
abbrev kQ:Stmt:=top 41
theorem gX:FnScope ["_law_left_here","_law_some_here"] ["_law_left_here"] (zN kQ):=by trivial
theorem iR {f fK:Addr}{fd dK:FuncData}(F:Fun K "_law_odd" "_law_odd" kQ f fd) (G:Mgs mg) (L:Use P w K mg base "_law_pick" ["_law_left_here","_law_many"] 1 yh fK dK):FnOk P w K mg base CX0 2 f fd ["_law_left_here"] uG:=by
 refine F.ok gX (λvs H Q E h=>?_) (λae A outer s H vs Q E hr h=>?_)
 ·obtain⟨l,rfl,_⟩:=h
  rfl
 obtain⟨l,rfl,S,k⟩:=h;refine⟨_,(@zF _ _ _ _ _ (@zZ _ _ 1 _ _ _ _ gX.nd rfl (.inl rfl) (@zo _ _ _ _ (@zA _ _ _ _ _ sZ (@zA _ _ _ _ _ yo (@zA _ _ _ _ _ yo (@zA _ _ _ _ _ zD (@zA _ _ _ _ _ zD (@zA _ _ _ _ _ zD (@zA _ _ _ _ _ (@gG _ _ _ _ _ _ lj zD) (@zA _ _ _ _ _ kr (@zA _ _ _ _ _ kr (@zA _ _ _ _ _ (@zV _ _ _ _ _ zB) (@zA _ _ _ _ _ (@zo _ _ _ _ zB) (@zA _ _ _ _ _ jC (@zA _ _ _ _ _ (@zV _ _ _ _ _ (@zA _ _ _ _ _ (@zV _ _ _ _ _ zB) zB (by rfl))) (@zA _ _ _ _ _ (@zV _ _ _ _ _ (@zA _ _ _ _ _ (@zV _ _ _ _ _ zB) (@zA _ _ _ _ _ zD zB (by rfl)) (by rfl))) (@zA _ _ _ _ _ (@zV _ _ _ _ _ (@zA _ _ _ _ _ zD (@zA _ _ _ _ _ zD zB (by rfl)) (by rfl))) zB (by rfl)) (by rfl)) (by rfl)) (by rfl)) (by rfl)) (by rfl)) (by rfl)) (by rfl)) (by rfl)) (by rfl)) (by rfl)) (by rfl)) (by rfl)) (by rfl)) (by rfl))) (by rfl) (by trivial)) (@zF _ _ _ _ _ (@zZ _ _ 1 _ _ _ _ gX.nd rfl (.inl rfl) (@zP _ _ _ _ _ _ _ _ xb (@qv _ 1 _ _ (by trivial)) (@zo _ _ _ _ (@zA _ _ _ _ _ (@zo _ _ _ _ (@zA _ _ _ _ _ zD zB (by rfl))) (@zA _ _ _ _ _ (@zP _ _ _ _ _ _ _ _ sj zD zD) (@zA _ _ _ _ _ (@zV _ _ _ _ _ (@zA _ _ _ _ _ yo (@zA _ _ _ _ _ yo zB (by rfl)) (by rfl))) zB (by rfl)) (by rfl)) (by rfl)))) (by rfl) (by trivial)) (@zH _ _ _ (@zU _ _ _ _ (@zX _ _ _ _ _ _ _ zd (@qv _ 1 _ _ (by trivial)) (@zK _ _ _ _ _ _ _ _ _ _ _ _ _ _ _ _ L.ok hr (by rfl) L.m L.kp L.b .nil zS (@zA _ _ _ _ _ (@qv _ 0 _ _ (by trivial)) (@zA _ _ _ _ _ (@zL _ _ _ _ _ _ _ _ _ zR (by rfl) G.len Jy (@zA _ _ _ _ _ (@qv _ 1 _ _ (by trivial)) zB (by rfl)) (by decide) (by decide) (by rfl) (by rfl)) zB (by rfl)) (by rfl)) (by decide) (by rfl) (by rfl)) (λ_ _=>rfl)))))),?_⟩;refine⟨_,rfl,?_⟩;refine⟨(by show 0<=sizeLine;decide),λD h1=>?_⟩;have s1:=zC h1 (.tup []);have m1:Ma _ 3 1 (.ref D):=Ma.new (xs:=[]) h1 (by show 0<=3;decide) (λy a=>nomatch a);refine⟨(by show 0<=sizeLine;decide),λC h2=>?_⟩;have s2:=zC h2 (.lst []);have m2:Ma _ 3 0 (.ref C):=Ma.lstN h2 [];refine λB h3=>?_;have R:=zC h3 (.dK []);have m3:Ma _ 3 0 (.ref B):=Ma.dictN h3;refine⟨(by show 0<=sizeLine;decide),λO h4=>?_⟩;have J:=zC h4 (.tup []);have m4:Ma _ 3 1 (.ref O):=Ma.new (xs:=[]) h4 (by show 0<=3;decide) (λy a=>nomatch a);refine⟨(by show 1<=sizeLine;decide),λx h5=>?_⟩;have I:=zC h5 (.tup [.ref O])
 have m5:Ma _ 3 2 (.ref x):=Ma.new (xs:=[.ref O]) h5 (by show 1<=3;decide) (λy a=>by
   rw[Jd.mp a]
   exact(Ma.more (Jb _) (by decide) m4))
 refine⟨(by show 0<=sizeLine;decide),λN h6=>?_⟩;have m:=zC h6 (.tup []);have m6:Ma _ 3 1 (.ref N):=Ma.new (xs:=[]) h6 (by show 0<=3;decide) (λy a=>nomatch a);refine⟨(by show 2<=sizeLine;decide),λu h7=>?_⟩;have j:=zC h7 (.tup [.ref N,.int 0])
 have m7:Ma _ 3 2 (.ref u):=Ma.new (xs:=[.ref N,.int 0]) h7 (by show 2<=3;decide) (λy a=>by
   simp only[Ji,YM,Yf]at a;rcases a with rfl|rfl
   ·exact(Ma.more (Jb _) (by decide) m6)
   ·exact Ma.int _)
 refine⟨(by show 2<=sizeLine;decide),λt h8=>?_⟩;have i:=zC h8 (.tup [.int 0,.int 0])
 have m8:Ma _ 3 1 (.ref t):=Ma.new (xs:=[.int 0,.int 0]) h8 (by show 2<=3;decide) (λy a=>by
   simp only[Ji,YM,Yf]at a;rcases a with rfl|rfl
   ·exact Ma.int _
   ·exact Ma.int _)
 refine⟨(by show 15<=sizeLine;decide),λt9 h9=>?_⟩;have b:=zC h9 (.lst [.non,.bl true,.bl false,.int 0,.int 1,.int 2,.int (-1),.str "",.str "stair",.ref D,.ref C,.ref B,.ref x,.ref u,.ref t])
 have g0:∀ y∈([.non,.bl true,.bl false,.int 0,.int 1,.int 2,.int (-1),.str "",.str "stair",.ref D,.ref C,.ref B,.ref x,.ref u,.ref t]:List V),Ma _ 3 2 y:=(λy a=>by
  simp only[Ji,YM,Yf]at a;rcases a with rfl|rfl|rfl|rfl|rfl|rfl|rfl|rfl|rfl|rfl|rfl|rfl|rfl|rfl|rfl
  ·exact(Ma.same b (Ma.non))
  ·exact(Ma.same b (Ma.bl _))
  ·exact(Ma.same b (Ma.bl _))
  ·exact(Ma.same b (Ma.int _))
  ·exact(Ma.same b (Ma.int _))
  ·exact(Ma.same b (Ma.int _))
  ·exact(Ma.same b (Ma.int _))
  ·exact(Ma.same b (Ma.str _))
  ·exact(Ma.same b (Ma.str _))
  ·exact(Ma.more (Jb _) (by decide) (Ma.same (((((((s2.trans R).trans J).trans I).trans m).trans j).trans i).trans b) m1))
  ·exact(Ma.more (Jb _) (by decide) (Ma.same ((((((R.trans J).trans I).trans m).trans j).trans i).trans b) m2))
  ·exact(Ma.more (Jb _) (by decide) (Ma.same (((((J.trans I).trans m).trans j).trans i).trans b) m3))
  ·exact(Ma.more (Jb _) (by decide) (Ma.same (((m.trans j).trans i).trans b) m5))
  ·exact(Ma.more (Jb _) (by decide) (Ma.same (i.trans b) m7))
  ·exact(Ma.more (Jb _) (by decide) (Ma.same b m8)))
 have n0:=zT h9 (.lst [.non,.bl true,.bl false,.int 0,.int 1,.int 2,.int (-1),.str "",.str "stair",.ref D,.ref C,.ref B,.ref x,.ref u,.ref t]);have u0:=((((((((s1.trans s2).trans R).trans J).trans I).trans m).trans j).trans i).trans b);have q0:∃ X:List V,X.length=15/\_=some (HO.lst X)/\∀ y∈X,Ma _ 3 2 y:=⟨_,rfl,n0,g0⟩;obtain⟨U,c0,a0,b0⟩:=q0;refine⟨_,rfl,?_⟩;refine⟨(by show 1<=sizeLine;decide),λd q=>?_⟩;have Z:=zC q (.lst [.int 0]);have ab:Ma _ 3 0 (.ref d):=Ma.lstN q [.int 0];refine⟨_,_,rfl,rfl,⟨by decide,by decide⟩,?_⟩;refine⟨(by show 2<=sizeLine;decide),λc o=>?_⟩;have n:=zC o (.tup [.bl true,.bl false])
 have aa:Ma _ 3 1 (.ref c):=Ma.new (xs:=[.bl true,.bl false]) o (by show 2<=3;decide) (λy a=>by
   simp only[Ji,YM,Yf]at a;rcases a with rfl|rfl
   ·exact Ma.bl _
   ·exact Ma.bl _)
 refine⟨(by show 3<=sizeLine;decide),λY ad=>?_⟩;have g:=zC ad (.lst [.ref d,.int (10 ^ 29),.ref c])
 have g1:∀ y∈([.ref d,.int (10 ^ 29),.ref c]:List V),Ma _ 3 2 y:=(λy a=>by
  simp only[Ji,YM,Yf]at a;rcases a with rfl|rfl|rfl
  ·exact(Ma.more (Jb _) (by decide) (Ma.same (n.trans g) ab))
  ·exact(Ma.same g (Ma.int _ (by decide)))
  ·exact(Ma.more (Jb _) (by decide) (Ma.same g aa)))
 have r:=((Z.trans n).trans g);refine⟨t9,Y,U,_,rfl,rfl,r _ _ a0,zE,Jz (show _+3<=1000 by lia) (by decide),λp T=>?_⟩;have M:=zC T (.lst (U++([.ref d,.int (10 ^ 29),.ref c]:List V)));have uu:=(u0.trans r).trans M;have q1:∃ X:List V,X.length=18/\_=some (HO.lst X)/\∀ y∈X,Ma _ 3 2 y:=⟨U++([.ref d,.int (10 ^ 29),.ref c]:List V),by rw[J9,c0];rfl,zT T _,λy a=>(Jr.mp a).elim (λz=>Ma.same (r.trans M) (b0 y z)) (λz=>Ma.same M (g1 y z))⟩;obtain⟨X,c1,a1,b1⟩:=q1;have nl:=S.keep uu
 have np:p≠l:=by
  rintro rfl;obtain⟨_,e⟩:=S.lst;exact absurd (T.symm.trans ((u0.trans r) _ _ e)) nofun
 refine⟨_,rfl,_,rfl,_,rfl,p,X,rfl,.inl (SqL.of a1),l,_,rfl,by lia,by lia,nl,λv H2 vl S2 W=>?_⟩;have vx:v<X.length:=by lia
 refine⟨p,_,_,_,rfl,rfl,SqL.of (W _ _ a1 np),zx (Ja vx),?_⟩;exact k _ _ (Ma.but W nl S2 (b1 _ (Yj vx))) S2 ((But.of uu).trans W)
abbrev wk:Stmt:=top 42
theorem iI:FnScope ["_law_left_here","_law_thing","_law_at","_law_some_here"] ["_law_left_here","_law_thing"] (zN wk):=by trivial
theorem tK {f fK fO:Addr}{fd dK dO:FuncData}(F:Fun K "_law_bent" "_law_bent" wk f fd) (G:Mgs mg) (d:Use P w K mg base "_law_pick" ["_law_left_here","_law_many"] 1 yh fK dK) (J:Use P w K mg base "_law_odd" ["_law_left_here"] 2 uG fO dO) (h:Nat)
  (UB:Use P w K mg base "_law_bent" ["_law_left_here","_law_thing"] (h+2) (λvs H Q E=>∃ m,h=m+1/\vm m vs H Q E) f fd):FnOk P w K mg base CX0 (h+3) f fd ["_law_left_here","_law_thing"] (vm h):=by
 refine F.ok iI (λvs H Q E h=>?_) (λaI A outer s H vs Q E hr hh=>?_)
 ·obtain⟨l,x,b,rfl,_⟩:=h
  rfl
 obtain⟨l,x,b,rfl,S,hb,mx,k⟩:=hh;have O:Room 1 _:=hr.mono (by lia);have aa:Room 2 _:=hr.mono (by lia);have odd:∀ {H':Hp}{y:V},Ma H' 3 2 y->Ma H' (b+3) (h+2) y:=λm=>Ma.more (by lia) (by lia) m
 obtain⟨tE,hE,ab⟩:∃ t',PSs (qc CX0 P w K mg base ["_law_left_here","_law_thing","_law_at","_law_some_here"] "_law_bent" (zN wk) f aI A outer s H E).nox ((yb wk).drop 1) t' /\
   ∀ (H1:Hp),But l H H1->Pk3 H1 l->t' { nx:=λ_ H'=>Q .non H',rt:=Q } [some (.ref l),some x,none,none] H1:=by
  refine⟨_,(@zF _ _ _ _ _ (@yH _ _ _ _ _ _ _ _ (@yp _ _ _ (@zL _ _ _ _ _ _ _ _ _ yQ (by rfl) G.isi (by rfl) (@zA _ _ _ _ _ (@qv _ 1 _ _ (by trivial)) (@zA _ _ _ _ _ (@ya _ _ (.ty "tuple") (.type "tuple") _ (by rfl) G.tuple (by rfl) rfl (by decide) (by decide)) zB (by rfl)) (by rfl)) (by decide) (by decide) (by rfl) (by rfl)) (by intro _;rfl)) (@zF _ _ _ _ _ (@zZ _ _ 2 _ _ _ _ iI.nd rfl (.inl rfl) (@zK _ _ _ _ _ _ _ _ _ _ _ _ _ _ _ _ d.ok O (by rfl) d.m d.kp d.b .nil zS (@zA _ _ _ _ _ (@qv _ 0 _ _ (by trivial)) (@zA _ _ _ _ _ (@zP _ _ _ _ _ _ _ _ yI (@zL _ _ _ _ _ _ _ _ _ zR (by rfl) G.len Jy (@zA _ _ _ _ _ (@qv _ 1 _ _ (by trivial)) zB (by rfl)) (by decide) (by decide) (by rfl) (by rfl)) zD) zB (by rfl)) (by rfl)) (by decide) (by rfl) (by rfl)) (by rfl) (by trivial)) (@zF _ _ _ _ _ (@zZ _ _ 3 _ _ _ _ iI.nd rfl (.inl rfl) (@zo _ _ _ _ (@zA _ _ _ _ _ (@zP _ _ _ _ _ _ _ _ yO (@zu _ _ _ _ _ _ _ _ _ _ yK (@qv _ 1 _ _ (by trivial)) yB (@zk _ _ _ (@qv _ 2 _ _ (by trivial)))) (@zu _ _ _ _ _ _ _ _ _ _ yK (@qv _ 1 _ _ (by trivial)) (@zk _ _ _ (@zP _ _ _ _ _ _ _ _ yI (@qv _ 2 _ _ (by trivial)) zD)) yB)) (@zA _ _ _ _ _ (@zP _ _ _ _ _ _ _ _ yO (@qv _ 1 _ _ (by trivial)) (@zu _ _ _ _ _ _ _ _ _ _ yK (@qv _ 1 _ _ (by trivial)) (@zk _ _ _ (@qv _ 2 _ _ (by trivial))) (@zk _ _ _ (@zP _ _ _ _ _ _ _ _ yI (@qv _ 2 _ _ (by trivial)) zD)))) (@zA _ _ _ _ _ (@zY _ _ _ _ _ _ _ _ _ yP (by rfl) G.list (by rfl) (@zA _ _ _ _ _ (@qv _ 1 _ _ (by trivial)) zB (by rfl)) (by decide) (by decide) (by rfl) (by rfl)) (@zA _ _ _ _ _ (@jF _ _ _ _ _ _ _ (@qv _ 1 _ _ (by trivial)) (@zk _ _ _ (@gG _ _ _ _ _ _ lj zD))) (@zA _ _ _ _ _ (@zP _ _ _ _ _ _ _ _ yO (@qv _ 1 _ _ (by trivial)) (@zV _ _ _ _ _ (@zA _ _ _ _ _ zD zB (by rfl)))) zB (by rfl)) (by rfl)) (by rfl)) (by rfl)) (by rfl))) (by rfl) (by trivial)) (@zH _ _ _ (@zU _ _ _ _ (@zX _ _ _ _ _ _ _ zd (@zP _ _ _ _ _ _ _ _ xb (@qv _ 3 _ _ (by trivial)) (@zo _ _ _ _ (@zA _ _ _ _ _ (@zK _ _ _ _ _ _ _ _ _ _ _ _ _ _ _ _ J.ok aa (by rfl) J.m J.kp J.b .nil zS (@zA _ _ _ _ _ (@qv _ 0 _ _ (by trivial)) zB (by rfl)) (by decide) (by rfl) (by rfl)) zB (by rfl)))) (@zK _ _ _ _ _ _ _ _ _ _ _ _ _ _ _ _ d.ok O (by rfl) d.m d.kp d.b .nil zS (@zA _ _ _ _ _ (@qv _ 0 _ _ (by trivial)) (@zA _ _ _ _ _ zD zB (by rfl)) (by rfl)) (by decide) (by rfl) (by rfl)) (λ_ _=>rfl)))))) zq) (@zF _ _ _ _ _ (@yH _ _ _ _ _ _ _ _ (@yp _ _ _ (@zL _ _ _ _ _ _ _ _ _ yQ (by rfl) G.isi (by rfl) (@zA _ _ _ _ _ (@qv _ 1 _ _ (by trivial)) (@zA _ _ _ _ _ (@ya _ _ (.ty "int") (.type "int") _ (by rfl) G.int (by rfl) rfl (by decide) (by decide)) zB (by rfl)) (by rfl)) (by decide) (by decide) (by rfl) (by rfl)) (by intro _;rfl)) (@zH _ _ _ (@zU _ _ _ _ (@zX _ _ _ _ _ _ _ zd (@zo _ _ _ _ (@zA _ _ _ _ _ (@zP _ _ _ _ _ _ _ _ iO (@qv _ 1 _ _ (by trivial)) zD) (@zA _ _ _ _ _ (@zP _ _ _ _ _ _ _ _ oq (@qv _ 1 _ _ (by trivial)) zD) (@zA _ _ _ _ _ (@zY _ _ _ _ _ _ _ _ _ oP (by rfl) G.bool (by rfl) (@zA _ _ _ _ _ (@qv _ 1 _ _ (by trivial)) zB (by rfl)) (by decide) (by decide) (by rfl) (by rfl)) (@zA _ _ _ _ _ (@zP _ _ _ _ _ _ _ _ oq zD (@qv _ 1 _ _ (by trivial))) (@zA _ _ _ _ _ (@zY _ _ _ _ _ _ _ _ _ lK (by rfl) G.str (by rfl) (@zA _ _ _ _ _ (@qv _ 1 _ _ (by trivial)) zB (by rfl)) (by decide) (by decide) (by rfl) (by rfl)) (@zA _ _ _ _ _ (@zK _ _ _ _ _ _ _ _ _ _ _ _ _ _ _ _ J.ok aa (by rfl) J.m J.kp J.b .nil zS (@zA _ _ _ _ _ (@qv _ 0 _ _ (by trivial)) zB (by rfl)) (by decide) (by rfl) (by rfl)) zB (by rfl)) (by rfl)) (by rfl)) (by rfl)) (by rfl)) (by rfl))) (@zK _ _ _ _ _ _ _ _ _ _ _ _ _ _ _ _ d.ok O (by rfl) d.m d.kp d.b .nil zS (@zA _ _ _ _ _ (@qv _ 0 _ _ (by trivial)) (@zA _ _ _ _ _ zD zB (by rfl)) (by rfl)) (by decide) (by rfl) (by rfl)) (λ_ _=>rfl)))) zq) (@zH _ _ _ (@zU _ _ _ _ (@zK _ _ _ _ _ _ _ _ _ _ _ _ _ _ _ _ J.ok aa (by rfl) J.m J.kp J.b .nil zS (@zA _ _ _ _ _ (@qv _ 0 _ _ (by trivial)) zB (by rfl)) (by decide) (by rfl) (by rfl)))))),?_⟩;intro H1 B1 T;have aj:=mx.but B1 S T;obtain⟨ty,Iy⟩:=(aj.an.any (K:=K)).isi;refine⟨_,rfl,_,"tuple",_,_,rfl,Iy.ty,Iy.tup,_,rfl,?_⟩
  cases z:zc H1 x with
  | none =>
   obtain⟨c,hc,kc⟩:∃ c,PySem.W.kitOne K ty (.type "int")=some c/\c=(pi x).isSome:=⟨_,Iy.int,by cases x<;>rfl⟩;refine zr ⟨_,rfl,_,"int",_,_,rfl,Iy.ty,hc,_,rfl,?_⟩;rw[kc]
   cases nx:pi x with
   | none =>
    refine zr ⟨_,rfl,l,rfl,T,λy H2 my R U=>?_⟩
    exact k y H2 (odd my) R (B1.trans U)
   | some i =>
    have bi:i.natAbs<=10 ^ 29+b+1:=by
     cases x with
     | int j=>cases nx;exact Nat.le_succ_of_le mx.sm
     | bl c =>
      cases nx;cases c
      ·exact JL _
      ·exact Nat.succ_le_succ (JL _)
     | _=>cases nx
    refine zz ⟨_,rfl,i,1,nx,rfl,_,rfl,i,1,nx,rfl,.inr ⟨_,rfl⟩,_,rfl,x,i,rfl,nx,λc0=>⟨_,rfl,1,i,rfl,nx,.inl ⟨_,rfl⟩,_,rfl,x,i,rfl,nx,by lia,λw0=>⟨_,rfl,l,rfl,T,λy H2 my R U=>⟨by show 6<=sizeLine;decide,λt ht=>?_⟩⟩⟩⟩;have L:=zC ht (.lst [.int (i+1),.int (i-1),.bl c0,.int (1-i),.str w0,y]);have S3:=R.keep L;have nt:=R.ne ht;refine⟨_,rfl,l,6,rfl,by decide,by decide,S3,λv H4 vl S4 B4=>⟨t,_,_,_,rfl,rfl,SqL.of (B4 _ _ zE nt.symm),zx (Ja (show v<6 by lia)),?_⟩⟩;refine k _ _ (Ma.but B4 S3 S4 ?_) S4 (B1.trans (U.trans ((But.of L).trans B4)))
    have m:∀ x'∈([.int (i+1),.int (i-1),.bl c0,.int (1-i),.str w0,y]:List V),Ma (L2.upd H2 t (.lst [.int (i+1),.int (i-1),.bl c0,.int (1-i),.str w0,y])) (b+3) (h+2) x':=λx' hx=>by
     simp only[Ji,YM,Yf]at hx;rcases hx with rfl|rfl|rfl|rfl|rfl|rfl
     ·exact Ma.int _
     ·exact Ma.int _
     ·exact Ma.bl _
     ·exact Ma.int _
     ·exact Ma.str _
     ·exact Ma.same L (odd my)
    exact m _ (Yj _)
  | some a =>
   obtain⟨lx,M,rfl,mk⟩:=Ma.kids aj z;obtain⟨o,rfl,hx⟩:=zw z;refine zz ⟨_,rfl,_,rfl,o,a,rfl,.inr (SqT.of hx),_,_,rfl,rfl,l,_,rfl,by lia,by lia,T,λv H2 vl R U=>?_⟩;have I:=U.tups3 T _ _ hx;refine⟨_,rfl,_,rfl,_,rfl,o,a,rfl,I,λt1 H3 L h3=>?_⟩;have aq:=L _ _ I;refine⟨_,rfl,_,rfl,_,_,rfl,rfl,_,rfl,o,a,rfl,aq,λt2 H4 s4 h4=>?_⟩;refine⟨t1,t2,_,_,rfl,rfl,s4 _ _ h3,h4,?_,λt3 H5 s5 h5=>?_⟩
   ·have a1:=sn a none (some (v:Int))
    have a2:=sn a (some ((v:Int)+1)) none;exact Jz (show _<=10000 by lia) (by decide)
   have Z:=s5 _ _ (s4 _ _ aq);refine⟨_,rfl,_,rfl,_,rfl,_,rfl,_,rfl,_,_,rfl,rfl,_,rfl,o,a,rfl,Z,λt4 H6 s6 h6=>?_⟩;have ap:=s6 _ _ Z;refine⟨o,t4,_,_,rfl,rfl,ap,h6,?_,λt5 H7 s7 h7=>?_⟩
   ·have a1:=nN a v
    exact Jz (show _<=10000 by lia) (by decide)
   have ao:=s7 _ _ ap;refine⟨_,rfl,o,a,rfl,.inr (SqT.of ao),λt6 f6=>?_⟩;have s8:=zC f6 (.lst a);have ak:=s8 _ _ ao;refine⟨_,rfl,_,rfl,_,rfl,rfl,o,a,rfl,SqT.of ak,λt7 f7=>?_⟩;have s9:=zC f7 (.tup a.reverse);have aE:=s9 _ _ ak;refine⟨_,rfl,by show 1<=sizeLine;decide,λt8 f8=>?_⟩;have D:=zC f8 (.tup [.int 0]);refine⟨o,t8,a,_,rfl,rfl,D _ _ aE,zE,Jz (show _+1<=10000 by lia) (by decide),λt9 aQ N aG=>?_⟩;refine⟨by show 5<=sizeLine;decide,λai ad=>?_⟩;have C:=zC ad (.lst [.ref t3,.ref t5,.ref t6,.ref t7,.ref t9]);have ah:=(((((((L.trans s4).trans s5).trans s6).trans s7).trans s8).trans s9).trans D).trans N;have r:=ah.trans C;have ay:=R.keep r;have aK:=B1.trans (U.trans (But.of r));have n:∀ {H':Hp},Same H2 H'->∀ y∈a,Ma H' (b+3) M y:=λs' y g=>Ma.more (by lia) (Jb _) (Ma.same s' ((mk y g).but U T R))
   have aC:∃ X:List V,X.length=5/\_=some (HO.lst X)/\∀ y∈X,Ma _ (b+3) (M+1+2) y:=⟨_,rfl,zT ad (.lst [.ref t3,.ref t5,.ref t6,.ref t7,.ref t9]),λy g=>by
    simp only[Ji,YM,Yf]at g;rcases g with rfl|rfl|rfl|rfl|rfl
    ·have w':=((((((s6.trans s7).trans s8).trans s9).trans D).trans N).trans C)
     refine Ma.more (Jb _) (by lia) (Ma.tup (h:=M) (w' _ _ h5) ?_ λy g=>n r y ?_)
     ·have a2:=qd a (v+1)
      rw[wL a v (by lia),show ((v:Int)+1)=((v+1:Nat):Int) from rfl,J9,Jh];lia
     ·exact(Jr.mp g).elim su su
    ·have w':=(((((s8.trans s9).trans D).trans N).trans C))
     refine Ma.more (Jb _) (by lia) (Ma.tup (h:=M) (w' _ _ h7) ?_ λy g=>n r y ?_)
     ·have a1:=nN a v
      rw[J9];lia
     ·exact(Jr.mp g).elim id su
    ·have w':=((((s9.trans D).trans N).trans C))
     exact Ma.same w' (Ma.lst zE)
    ·have w':=(((D.trans N).trans C))
     exact Ma.more (Jb _) (by lia) (Ma.tup (h:=M) (w' _ _ zE) (by rw[YR];lia) λy g=>n r y (List.mem_reverse.mp g))
    ·refine Ma.more (Jb _) (by lia) (Ma.tup (h:=M) (C _ _ aG) (by rw[J9];show _+1<=_;lia) λy g=>?_)
     rcases Jr.mp g with q|q
     ·exact n r y q
     ·rw[Jd.mp q];exact Ma.int _⟩
   obtain⟨X,c1,a1,b1⟩:=aC
   have np:ai≠l:=by
    rintro rfl;obtain⟨_,e⟩:=R.lst;exact absurd (ad.symm.trans (ah _ _ e)) nofun
   refine⟨_,rfl,_,rfl,l,rfl,ay,λy aP my ae ag=>⟨by show 1<=sizeLine;decide,λaB aH=>?_⟩⟩;have B:=zC aH (.lst [y]);have aJ:=B _ _ (ag _ _ a1 np);refine⟨ai,aB,X,_,rfl,rfl,aJ,zE,Jz (show _+1<=1000 by lia) (by decide),λp fp=>?_⟩;have Y:=zC fp (.lst (X++[y]));have aw:=(ae.keep B).keep Y;have aD:=(ae.keep B).ne fp;refine⟨_,rfl,l,6,rfl,by decide,by decide,aw,λu aO ul av af=>?_⟩;have ux:u<(X++[y]).length:=by rw[J9,c1];show u<6;lia
   refine⟨p,_,_,_,rfl,rfl,SqL.of (af _ _ zE aD.symm),zx (Ja ux),?_⟩
   have mX:∀ y'∈X++[y],Ma _ (b+3) (M+1+2) y':=λy' g=>by
    rcases Jr.mp g with q|q
    ·exact Ma.same Y (Ma.same B ((b1 y' q).but ag ay ae))
    ·rw[Jd.mp q];exact Ma.same Y (Ma.same B (odd my))
   exact k _ _ (Ma.but af aw av (mX _ (Yj ux))) av (aK.trans (ag.trans ((But.of (B.trans Y)).trans af)))
 refine⟨_,(@zF _ _ _ _ _ (@yH _ _ _ _ _ _ _ _ (@pW _ _ _ _ _ _ _ (@yp _ _ _ (@zL _ _ _ _ _ _ _ _ _ yQ (by rfl) G.isi (by rfl) (@zA _ _ _ _ _ (@qv _ 1 _ _ (by trivial)) (@zA _ _ _ _ _ (@ya _ _ (.ty "tuple") (.type "tuple") _ (by rfl) G.tuple (by rfl) rfl (by decide) (by decide)) zB (by rfl)) (by rfl)) (by decide) (by decide) (by rfl) (by rfl)) (by intro _;rfl)) (@pW _ _ _ _ _ _ _ (@zp _ _ _ _ _ _ _ _ (iL hr.units0) (@qv _ 1 _ _ (by trivial)) (@zV _ _ _ _ _ zB) (zt _)) (@oY _ _ _ _ (@zp _ _ _ _ _ _ _ _ rg (@zK _ _ _ _ _ _ _ _ _ _ _ _ _ _ _ _ d.ok O (by rfl) d.m d.kp d.b .nil zS (@zA _ _ _ _ _ (@qv _ 0 _ _ (by trivial)) (@zA _ _ _ _ _ zD zB (by rfl)) (by rfl)) (by decide) (by rfl) (by rfl)) zD (zt _))))).pt (@zF _ _ _ _ _ (@zZ _ _ 2 _ _ _ _ iI.nd rfl (.inl rfl) (@zK _ _ _ _ _ _ _ _ _ _ _ _ _ _ _ _ d.ok O (by rfl) d.m d.kp d.b .nil zS (@zA _ _ _ _ _ (@qv _ 0 _ _ (by trivial)) (@zA _ _ _ _ _ (@zL _ _ _ _ _ _ _ _ _ zR (by rfl) G.len Jy (@zA _ _ _ _ _ (@qv _ 1 _ _ (by trivial)) zB (by rfl)) (by decide) (by decide) (by rfl) (by rfl)) zB (by rfl)) (by rfl)) (by decide) (by rfl) (by rfl)) (by rfl) (by trivial)) (@zH _ _ _ (@zU _ _ _ _ (@zP _ _ _ _ _ _ _ _ yO (@zP _ _ _ _ _ _ _ _ yO (@zu _ _ _ _ _ _ _ _ _ _ yK (@qv _ 1 _ _ (by trivial)) yB (@zk _ _ _ (@qv _ 2 _ _ (by trivial)))) (@zV _ _ _ _ _ (@zA _ _ _ _ _ (@zK _ _ _ _ _ _ _ _ _ _ _ _ _ _ _ _ UB.ok hr (by rfl) UB.m UB.kp UB.b .nil zS (@zA _ _ _ _ _ (@qv _ 0 _ _ (by trivial)) (@zA _ _ _ _ _ (@zX _ _ _ _ _ _ _ zv (@qv _ 1 _ _ (by trivial)) (@qv _ 2 _ _ (by trivial)) (λ_ _=>rfl)) zB (by rfl)) (by rfl)) (by decide) (by rfl) (by rfl)) zB (by rfl)))) (@zu _ _ _ _ _ _ _ _ _ _ yK (@qv _ 1 _ _ (by trivial)) (@zk _ _ _ (@zP _ _ _ _ _ _ _ _ yI (@qv _ 2 _ _ (by trivial)) zD)) yB))))) zq) @hE),?_⟩;obtain⟨ty,Iy⟩:=(mx.an.any (K:=K)).isi;refine⟨_,rfl,_,"tuple",_,_,rfl,Iy.ty,Iy.tup,_,rfl,?_⟩
 cases z:zc H x with
 | none=>exact zr (zr (ab H (But.of (Same.refl H)) S))
 | some a =>
  obtain⟨lx,M,rfl,mk⟩:=Ma.kids mx z;obtain⟨o,rfl,hx⟩:=zw z;refine zz ⟨_,rfl,by show 0<=sizeLine;decide,λt0 f0=>?_⟩;have s0:=zC f0 (.tup []);have S0:=S.keep s0;have au:=s0 _ _ hx;have B0:But l H (L2.upd H t0 (.tup [])):=But.of s0;refine⟨o,t0,a,rfl,rfl,au,zE,_,rfl,?_⟩
  cases a with
  | nil=>exact zr (zr (ab _ B0 S0))
  | cons y0 ys =>
   have p0:0<(y0::ys).length:=Nat.succ_pos _;refine zz ?_;generalize y0::ys=a at *;refine⟨_,rfl,l,4,rfl,by decide,by decide,S0,λv H1 vl T B1=>⟨_,_,rfl,rfl,_,rfl,?_⟩⟩;have aA:=B0.trans B1;have ar:=B1.tups3 S0 _ _ au;show if decide ((0:Int)<((v:Nat):Int))=true then _ else _;by_cases vp:(0:Int)<(v:Int)
   ·rw[Jw vp]
    refine zz ?_;refine⟨_,rfl,_,rfl,o,a,rfl,.inr (SqT.of ar),l,_,rfl,by lia,by lia,T,λW H2 aN R U=>?_⟩;have I:=U.tups3 T _ _ ar;have aM:=aA.trans U;refine⟨_,rfl,_,rfl,_,rfl,o,a,rfl,I,λt1 H3 L h3=>?_⟩;have S3:=R.keep L;have az:=aM.trans (But.of L);have vb:W<a.length:=by lia
    refine⟨_,rfl,_,rfl,_,rfl,o,_,_,_,rfl,rfl,SqT.of (L _ _ I),zx (Ja vb),M,rfl,l,_,b,rfl,S3,hb,(mk _ (Yj vb)).but az S S3,λy H4 my S4 B4=>?_⟩;refine⟨by show 1<=sizeLine;decide,λt2 f2=>?_⟩;have s5:=zC f2 (.tup [y]);have S5:=S4.keep s5;have aL:=az.trans (B4.trans (But.of s5));have aF:=s5 _ _ (B4.tups3 S3 _ _ h3);have Z:=s5 _ _ (B4.tups3 S3 _ _ (L _ _ I));refine⟨t1,t2,_,_,rfl,rfl,aF,zE,?_,λt3 H6 s6 h6=>?_⟩
    ·have:=sn a none (some (W:Int))
     exact Jz (show _+1<=10000 by lia) (by decide)
    refine⟨_,rfl,_,rfl,_,_,rfl,rfl,_,rfl,o,a,rfl,s6 _ _ Z,λt4 H7 s7 h7=>?_⟩;have c2:=qd a (W+1);rw[show ((W:Int)+1)=((W+1:Nat):Int) from rfl]at h7;rw[wL a W (by lia)]at h6
    have l2:(a.take W++[y]).length+(yz a (some ((W+1:Nat):Int)) none).length<=b:=by
     rw[J9,Jh];show min W a.length+1+_<=b;lia
    refine⟨t3,t4,_,_,rfl,rfl,s7 _ _ h6,h7,Jz l2 (Jz hb (by decide)),λt5 H8 s8 h8=>?_⟩;have u8:=(s6.trans s7).trans s8;have S8:=S5.keep u8;have B8:=aL.trans (But.of u8);refine k _ _ (Ma.tup (h:=M+2) h8 (by rw[J9];lia) λz hz=>?_) S8 B8;have n:∀ y'∈a,Ma H8 (b+3) (M+2) y':=λy' g=>Ma.more (by lia) (by lia) ((mk y' g).but B8 S S8);rcases Jr.mp hz with q|q
    ·rcases Jr.mp q with q1|q1
     ·exact n z (List.mem_of_mem_take q1)
     ·rw[Jd.mp q1];exact Ma.same (s5.trans u8) my
    ·exact n z (su q)
   ·rw[Jj vp]
    exact zr (ab _ aA T)
theorem r0 {f g e:Addr}{fd dK i:FuncData}(F:Fun K "_law_bent" "_law_bent" wk f fd) (G:Mgs mg) (d:Use P w K mg base "_law_pick" ["_law_left_here","_law_many"] 1 yh g dK) (c:Use P w K mg base "_law_odd" ["_law_left_here"] 2 uG e i) (b:Binds K fd ["_law_left_here","_law_thing"] []) (a:mg "_law_bent" = some (.ref f)):∀ h:Nat,FnOk P w K mg base CX0 (h+3) f fd ["_law_left_here","_law_thing"] (vm h)
 | 0=>tK F G d c 0 ⟨⟨λvs H Q E ⟨m,h,_⟩=>by lia,λA outer s H args us vs Q E _ _ _ _ ⟨m,h,_⟩=>by lia⟩,b,F.kp,a⟩
 | m+1=>tK F G d c (m+1) ⟨((r0 F G d c b a m).imp λvs H Q E ⟨j,h,q⟩=>by cases h;exact q),b,F.kp,a⟩
def vM:Sp:=λa H Q E=>∃ m,m<=7/\vm m a H Q E
theorem ph {f c b:Addr}{fd dK d:FuncData}(F:Fun K "_law_bent" "_law_bent" wk f fd) (G:Mgs mg) (h:Use P w K mg base "_law_pick" ["_law_left_here","_law_many"] 1 yh c dK) (g:Use P w K mg base "_law_odd" ["_law_left_here"] 2 uG b d) (e:Binds K fd ["_law_left_here","_law_thing"] []) (a:mg "_law_bent" = some (.ref f)):FnOk P w K mg base CX0 10 f fd ["_law_left_here","_law_thing"] vM :=
 FnOk.any 7 λm i=>(r0 F G h g e a m).mono (by lia)
end
end K46
namespace L2
open PySem PySem.Spec PyProof.Rows Own Bn
theorem iz {i:Nat}{v:V}{σ:St}{H:Hp}{a u:TS}{D:Ends}(R:VK)(h:qr a u D (σ.set i (some v)) H):(λx b=>x6 i x σ b ({ nx:=qr a u D,rt:=R }:Ends).nx) v H:=h
structure KpM (H H':Hp):Prop where
 tup:∀ b xs,H b=some (.tup xs)->H' b=some (.tup xs)
 lst:∀ b xs,H b=some (.lst xs)->∃ ys,H' b=some (.lst ys)
 dict:∀ b,H b=some (.dK [])->H' b=some (.dK [])
theorem KpM.same {H H':Hp}(s:Same H H'):KpM H H':=⟨λb a e=>s b _ e,λb a e=>⟨a,s b _ e⟩,λb e=>s b _ e⟩
theorem KpM.refl (H:Hp):KpM H H:=.same (Same.refl H)
theorem KpM.trans {H d c:Hp}(x:KpM H d)(y:KpM d c):KpM H c:=⟨λb a e=>y.tup b a (x.tup b a e),λb a e=>by
 obtain⟨f,g⟩:=x.lst b a e
 exact y.lst b f g,λb e=>y.dict b (x.dict b e)⟩
theorem KpM.kpn {H H':Hp}(k:KpN H H'):KpM H H':=⟨λb a e=>k b _ e (.tup a),λb a e=>⟨a,k b _ e (.lst a)⟩,λb e=>k b _ e .dK⟩
theorem KpM.list {H:Hp}{l:Addr}{ys zs:List V}(e:H l=some (.lst ys)):KpM H (L2.upd H l (.lst zs)):=by
 refine⟨λb a h=>?_,λb a h=>?_,λb h=>?_⟩
 ·rw[zJ];· exact h
  ·rintro rfl;rw[e]at h;cases h
 ·by_cases z:b=l
  ·rw[z];exact⟨zs,zE⟩
  ·rw[zJ z];exact⟨a,h⟩
 ·rw[zJ];· exact h
  ·rintro rfl;rw[e]at h;cases h
theorem KpM.but {H H':Hp}{l:Addr}(B:But l H H')(S:Pk3 H l)(f:Pk3 H' l):KpM H H':=by
 obtain⟨g,c⟩:=S.lst;obtain⟨d,e⟩:=f.lst;refine⟨λb a h=>B _ _ h ?_,λb a h=>?_,λb h=>B _ _ h ?_⟩
 ·rintro rfl;rw[c]at h;cases h
 ·by_cases z:b=l
  ·rw[z];exact⟨d,e⟩
  ·exact⟨a,B _ _ h z⟩
 ·rintro rfl;rw[c]at h;cases h
theorem KpM.tab {H H':Hp}{q:Str}{Pt:Addr}(t:TabQ q Pt H)(B:But Pt H H'):KpM H H':=by
 obtain⟨ls,a,_⟩:=t;exact .kpn (KpN.but B a)
theorem KpM.tups {H H':Hp}(k:KpM H H'):Tups H H':=λb a e=>k.tup b a e
theorem KpM.an {H H':Hp}(k:KpM H H'){x:V}(a:An H x):An H' x/\zc H' x=zc H x:=by
 rcases a with a|⟨c,rfl,⟨d,e⟩|⟨d,e⟩|e⟩
 ·exact⟨.inl a,by cases x<;>first|rfl|exact a.elim⟩
 ·have b:=k.tup _ _ e
  exact⟨.inr ⟨_,rfl,.inl ⟨_,b⟩⟩,by rw[yU e,yU b]⟩
 ·obtain⟨f,b⟩:=k.lst _ _ e
  exact⟨.inr ⟨_,rfl,.inr (.inl ⟨_,b⟩)⟩,by rw[xq e,xq b]⟩
 ·have b:=k.dict _ e
  exact⟨.inr ⟨_,rfl,.inr (.inr b)⟩,by simp only[zc,e,b]⟩
theorem Ma.kpm {H H':Hp}(k:KpM H H'){b h:Nat}{x:V}(m:Ma H b h x):Ma H' b h x:=m.via λa=>k.an a
theorem ja {H H':Hp}{nf lanes far:Int}{x:V}(k:KpM H H')(d:Dp H 2 x):y4 H' nf lanes far x=y4 H nf lanes far x:=by
 unfold y4;rw[(k.an d.an).2];split
 ·rename_i t h e
  have a:=(k.an ((d.2 _ e).2 t (.head _)).an).2;have b:=(k.an ((d.2 _ e).2 h (.tail _ (.head _))).an).2;unfold yF yV wW;rw[a,b]
 ·rfl
theorem iH {H H':Hp}{nf lanes far:Int}{x:V}(k:KpM H H')(d:Dp H 2 x):stR H' nf lanes far x=stR H nf lanes far x:=by
 unfold stR;rw[ja k d,(k.an d.an).2];by_cases c:y4 H nf lanes far x=true
 ·rw[JE c,JE c]
  split
  ·rename_i t h e
   have a:=(k.an ((d.2 _ e).2 t (.head _)).an).2;have b:=(k.an ((d.2 _ e).2 h (.tail _ (.head _))).an).2;unfold wW;rw[a,b]
  ·rfl
 ·rw[Jv c,Jv c]
theorem tN {A B:Type}{f g:A->Option B}:∀ {xs:List A},(∀ x∈xs,f x=g x)->xs.mapM f=xs.mapM g
 | [],_=>rfl
 | x::xs,h=>by
  rw[List.mapM_cons,List.mapM_cons,h x (.head _),tN λy a=>h y (.tail _ a)]
theorem j4 {f g:V->Option KN}{xs:List V}{k0:KN}{moves:List Nat}{step:KN->Nat->Option KN}(h:∀ x∈xs,f x=g x):xS f xs k0 moves step=xS g xs k0 moves step:=by
 have e:=tN h
 cases c:xs.mapM g with
 | none=>rw[xR c,xR (e.trans c)]
 | some ss=>rw[y7 c,y7 (e.trans c)]
def bkV (N:Nt)(moves:List Nat)(far:Int)(H:Hp)(x:V):Bool:=match zc H x with
 | none=>false
 | some a=>xS (stR H (N.forks.length:Nat) (N.lanes:Nat) far) a (plK (List.replicate N.forks.length 0) (List.replicate N.lanes 0)) moves (xg N)
theorem gA {N:Nt}{moves:List Nat}{far:Int}{H H':Hp}{x:V}(k:KpM H H')(a:An H x)(d:∀ xs,zc H x=some xs->∀ y∈xs,Dp H 2 y):bkV N moves far H' x=bkV N moves far H x:=by
 unfold bkV;rw[(k.an a).2]
 cases z:zc H x with
 | none=>rfl
 | some xs=>exact j4 λy b=>iH k (d _ z y b)
theorem iy {i:Nat}{b c:Bool}{σ:St}{H:Hp}{Q:St->Hp->Prop}(e:b=c)(h:x6 i (.bl c) σ H Q):x6 i (.bl b) σ H Q:=e ▸ h
theorem cB {a b c:Bool}{H:Hp}{Q:VK}(e:b=c)(h:rNe (.bl a) (.bl c) H Q):rNe (.bl a) (.bl b) H Q:=e ▸ h
theorem Ma.pl {N:Nt}{H:Hp}{b:Addr}{k:KN}{B:Int}(e:Nt.Ok N)(ok:OkR N k)(f:HtB B k)(l:B<=10000)(h:NKey H k b):Ma H 250 2 (.ref b):=by
 obtain⟨v,w,rfl,C,m,A,j,_⟩:=ok;obtain⟨t,u,o,e2,n⟩:=oa h;have D:=e.fm;have r:=e.l16;obtain⟨p,s,eq,g⟩:=f;cases eq
 have sm:∀ {x:Int},0<=x->x<=10000->x.natAbs<=10 ^ 29+250:=λa c=>by
  have:(10001:Nat)<=10 ^ 29:=by decide
  lia
 refine .tup o (show 2<=250 by decide) λy d=>?_;rcases Ji.mp d with rfl|z
 ·refine .tup e2 (by rw[Jc];lia) λy d=>?_
  obtain⟨i,hi,rfl⟩:=JD.mp d;refine .int _ ?_;rcases m i hi with q|q<;>rw[q]<;>decide
 ·rw[Jd.mp z]
  refine .tup n (by rw[Jc];lia) λy d=>?_;obtain⟨i,hi,rfl⟩:=JD.mp d;exact .int _ (sm (j i hi) (Int.le_trans (g i hi) l))
end L2
namespace K46
open PySem L2 Own Bn
abbrev gj:Stmt:=top 48
def oV (K:PySem.W.Frag)(Pt:Addr):Sp:=λb H Q _=>∃ (a:Addr) (ns:List Int),b=[.ref a]/\SqL K H a (ns.map V.int)/\ns.length<=63/\H Pt=some (.tbl #[])/\∀ c,Q (.bl true) c
def Scr (K:PySem.W.Frag)(a:Addr)(xs:List V)(H:Hp):Prop:=H a=some (.lst xs)\/(∃ o,H a=some (.frz o (.lst xs)))\/∀ b,SqL K b a xs
theorem Scr.of {K:PySem.W.Frag}{a:Addr}{xs:List V}{H:Hp}(h:SqL K H a xs):Scr K a xs H:=by
 rcases h with (h|h)|h
 ·exact .inl h
 ·exact .inr (.inl h)
 ·exact .inr (.inr λb=>.inr h)
theorem Scr.sq {K:PySem.W.Frag}{a:Addr}{xs:List V}{H:Hp}(h:Scr K a xs H):SqL K H a xs:=by
 rcases h with h|h|h
 ·exact .inl (.inl h)
 ·exact .inl (.inr h)
 ·exact h H
theorem Scr.keep {K:PySem.W.Frag}{a:Addr}{xs:List V}{H H':Hp}(h:Scr K a xs H)(k:∀ o,H a=some o->(o=.lst xs\/∃ u,o=.frz u (.lst xs))->(∀ H',SqL K H' a xs)\/H' a=some o):Scr K a xs H':=by
 rcases h with h|⟨o,h⟩|h
 ·rcases k _ h (.inl rfl) with z|z
  ·exact .inr (.inr z)
  ·exact .inl z
 ·rcases k _ h (.inr ⟨o,rfl⟩) with z|z
  ·exact .inr (.inr z)
  ·exact .inr (.inl ⟨o,z⟩)
 ·exact .inr (.inr h)
structure LE (K:PySem.W.Frag) (a l Pt:Addr) (xs:List V) (H:Hp):Prop where
 S:Pk3 H l
 tab:TabQ qR Pt H
 scr:Scr K a xs H
 al:a≠l\/∀ H',SqL K H' a xs
section
variable {K:PySem.W.Frag}{a l Pt:Addr}{xs:List V}{H H':Hp}
theorem LE.same (h:LE K a l Pt xs H)(s:Same H H'):LE K a l Pt xs H':=⟨h.S.keep s,h.tab.same s,h.scr.keep λo e _=>.inr (s _ _ e),h.al⟩
theorem LE.pick (h:LE K a l Pt xs H)(d:Pk3 H' l)(b:But l H H'):LE K a l Pt xs H':=by
 obtain⟨f,c⟩:=h.S.lst;refine⟨d,h.tab.but b c,h.scr.keep λo e _=>?_,h.al⟩;rcases h.al with z|z
 ·exact .inr (b _ _ e z)
 ·exact .inl z
theorem LE.ver (h:LE K a l Pt xs H)(t:TabQ qR Pt H')(b:But Pt H H'):LE K a l Pt xs H':=by
 obtain⟨ls,f,_⟩:=h.tab;obtain⟨x,y,z,d,r⟩:=h.S.ex;refine⟨⟨x,y,z,b _ _ d (xi d f λq=>by cases q),r⟩,t,h.scr.keep λo e c=>.inr (b _ _ e λq=>?_),h.al⟩;rw[q,f]at e;cases e;rcases c with c|⟨u,c⟩<;>cases c
theorem fh {lc:Addr}(h:LE K a l Pt xs H)(n:H lc=none):a≠lc\/∀ H',SqL K H' a xs:=by
 rcases h.scr with z|⟨o,z⟩|z
 ·exact .inl (zG z n)
 ·exact .inl (zG z n)
 ·exact .inr z
theorem LE.list {lc:Addr}{ys zs:List V}(h:LE K a l Pt xs H)(e:H lc=some (.lst ys))(n:lc≠l)(ac:a≠lc\/∀ H',SqL K H' a xs):LE K a l Pt xs (L2.upd H lc (.lst zs)):=by
 refine⟨h.S.upd n.symm,h.tab.keep λb o q z=>?_,h.scr.keep λo q _=>?_,h.al⟩
 ·rw[zJ];· exact q
  ·intro y
   rw[y,e]at q;cases q;rcases z with ⟨_,z⟩|⟨_,_,z⟩<;>cases z
 ·rcases ac with z|z
  ·exact .inr (by rw[zJ z];exact q)
  ·exact .inl z
end
theorem Lns.len {lanes:Nat}{moves:List Nat}(h:Lns lanes moves):moves.length<=lanes:=by
 have:=o9 (l:=moves) (ks:=List.range lanes) (h.up.imp λz=>Jt z) λx a=>Y8.mpr (h.lt x a)
 rwa [JS]at this
theorem fg {H:Hp}{c l:Addr}{bs:List Addr}(S:Pk3 H l)(h:H c=some (.lst (bs.map V.ref))):c≠l:=λe=>by
 subst e;obtain⟨x,y,z,q,_⟩:=S.ex;rw[h]at q
 cases bs with
 | nil=>cases q
 | cons b bs=>cases q
section
variable {P:Program}{w:World}{K:PySem.W.Frag}{mg:Str->Option Value}{base:Heap}
theorem wC:FnScope ["_law_script","_law_k","_law_left_here","_law_net_here","_law_some_here","_law_places","_law_first","_law_things","_law_turn","_law_thing","_law_more_here","_law_far","_law_found"] ["_law_script"] (zN gj):=by trivial
theorem fQ {f fL fK fE fS fV fA fB fR fW Pt:Addr}{fd dL dK dE dS dV dA dB dR dW:FuncData}(F:Fun K "law" "law" gj f fd) (G:Mgs mg) (UL:Use P w K mg base "_law_left" ["_law_script","_law_k"] 1 (sC K) fL dL) (UK:Use P w K mg base "_law_pick" ["_law_left_here","_law_many"] 1 yh fK dK) (UE:Use P w K mg base "_law_evened" ["_law_left_here"] 13 kG fE dE) (US:Use P w K mg base "_law_some" ["_law_left_here","_law_net_here"] 2 tw fS dS)
  (UV:Use P w K mg base "_law_even" ["_law_net_here","_law_some_here"] 2 sF fV dV) (UA:Use P w K mg base "_law_all_places" ["_law_net_here","_law_some_here","_law_most"] 2 sJ fA dA) (UB:Use P w K mg base "_law_bent" ["_law_left_here","_law_thing"] 10 vM fB dB) (UR:Use P w K mg base "shows_reach" ["net","some","far","thing"] 7 (uE K qR Pt) fR dR) (UW:Use P w K mg base "_law_shows" ["_law_net_here","_law_some_here","_law_far","_law_thing"] 3 uF fW dW):FnOk P w K mg base CX0 14 f fd ["_law_script"] (oV K Pt):=by
 refine F.ok wC (λvs H Q E h=>?_) (λcf A outer s H vs Q E hr h=>?_)
 ·obtain⟨a,ns,rfl,_⟩:=h
  rfl
 obtain⟨a,ns,rfl,hS,b7,b6,k⟩:=h;have tab:TabQ qR Pt H:=⟨[],b6,λp hp=>absurd hp JA⟩;have aD:Room 1 _:=hr.mono (by decide);have aC:Room 2 _:=hr.mono (by decide);have b1:Room 3 _:=hr.mono (by decide);have bS:Room 7 _:=hr.mono (by decide);have aK:Room 10 _:=hr.mono (by decide);refine⟨_,(@zF _ _ _ _ _ (@yd _ _ _ _ _ _ _ _ JN rfl (@yk _ _ _ _ _ _ rfl G.range (@zA _ _ _ _ _ (@zL _ _ _ _ _ _ _ _ _ (lP rfl) (by rfl) G.max (by rfl) (@zA _ _ _ _ _ zD (@zA _ _ _ _ _ (@zL _ _ _ _ _ _ _ _ _ (lN rfl) (by rfl) G.min (by rfl) (@zA _ _ _ _ _ (@zL _ _ _ _ _ _ _ _ _ zR (by rfl) G.len Jy (@zA _ _ _ _ _ (@qv _ 0 _ _ (by trivial)) zB (by rfl)) (by decide) (by decide) (by rfl) (by rfl)) (@zA _ _ _ _ _ zD zB (by rfl)) (by rfl)) (by decide) (by decide) (by rfl) (by rfl)) zB (by rfl)) (by rfl)) (by decide) (by decide) (by rfl) (by rfl)) zB (by rfl)) (by rfl)) (@zM _ _ 1 _ wC.nd rfl (.inl rfl) (by trivial)) (@zF _ _ _ _ _ (@zZ _ _ 2 _ _ _ _ wC.nd rfl (.inl rfl) (@zK _ _ _ _ _ _ _ _ _ _ _ _ _ _ _ _ UL.ok aD (by rfl) UL.m UL.kp UL.b .nil zS (@zA _ _ _ _ _ (@qv _ 0 _ _ (by trivial)) (@zA _ _ _ _ _ (@qv _ 1 _ _ (by trivial)) zB (by rfl)) (by rfl)) (by decide) (by rfl) (by rfl)) (by rfl) (by trivial)) (@zF _ _ _ _ _ (@zZ _ _ 3 _ _ _ _ wC.nd rfl (.inl rfl) (@zK _ _ _ _ _ _ _ _ _ _ _ _ _ _ _ _ UE.ok hr (by rfl) UE.m UE.kp UE.b .nil zS (@zA _ _ _ _ _ (@qv _ 2 _ _ (by trivial)) zB (by rfl)) (by decide) (by rfl) (by rfl)) (by rfl) (by trivial)) (@zF _ _ _ _ _ (@zZ _ _ 4 _ _ _ _ wC.nd rfl (.inl rfl) (@zK _ _ _ _ _ _ _ _ _ _ _ _ _ _ _ _ US.ok aC (by rfl) US.m US.kp US.b .nil zS (@zA _ _ _ _ _ (@qv _ 2 _ _ (by trivial)) (@zA _ _ _ _ _ (@qv _ 3 _ _ (by trivial)) zB (by rfl)) (by rfl)) (by decide) (by rfl) (by rfl)) (by rfl) (by trivial)) (@zF _ _ _ _ _ (@zZ _ _ 5 _ _ _ _ wC.nd rfl (.inl rfl) (@zo _ _ _ _ zB) (by rfl) (by trivial)) (@zF _ _ _ _ _ (@yH _ _ _ _ _ _ _ _ (@yp _ _ _ (@zK _ _ _ _ _ _ _ _ _ _ _ _ _ _ _ _ UV.ok aC (by rfl) UV.m UV.kp UV.b .nil zS (@zA _ _ _ _ _ (@qv _ 3 _ _ (by trivial)) (@zA _ _ _ _ _ (@qv _ 4 _ _ (by trivial)) zB (by rfl)) (by rfl)) (by decide) (by rfl) (by rfl)) (by intro _;rfl)) (@zH _ _ _ (@zZ _ _ 5 _ _ _ _ wC.nd rfl (.inl rfl) (@zK _ _ _ _ _ _ _ _ _ _ _ _ _ _ _ _ UA.ok aC (by rfl) UA.m UA.kp UA.b .nil zS (@zA _ _ _ _ _ (@qv _ 3 _ _ (by trivial)) (@zA _ _ _ _ _ (@qv _ 4 _ _ (by trivial)) (@zA _ _ _ _ _ zD zB (by rfl)) (by rfl)) (by rfl)) (by decide) (by rfl) (by rfl)) (by rfl) (by trivial))) zq) (@zF _ _ _ _ _ (@zZ _ _ 6 _ _ _ _ wC.nd rfl (.inl rfl) (@zV _ _ _ _ _ (@zA _ _ _ _ _ (@zP _ _ _ _ _ _ _ _ xV (@zV _ _ _ _ _ (@zA _ _ _ _ _ zD zB (by rfl))) (@zL _ _ _ _ _ _ _ _ _ zR (by rfl) G.len Jy (@zA _ _ _ _ _ (@zX _ _ _ _ _ _ _ zv (@qv _ 3 _ _ (by trivial)) zD (λ_ _=>rfl)) zB (by rfl)) (by decide) (by decide) (by rfl) (by rfl))) (@zA _ _ _ _ _ (@zP _ _ _ _ _ _ _ _ xV (@zV _ _ _ _ _ (@zA _ _ _ _ _ zD zB (by rfl))) (@zX _ _ _ _ _ _ _ zv (@qv _ 3 _ _ (by trivial)) zD (λ_ _=>rfl))) zB (by rfl)) (by rfl))) (by rfl) (by trivial)) (@zF _ _ _ _ _ (@yH _ _ _ _ _ _ _ _ (@wE _ _ _ _ _ _ _ (@zp _ _ _ _ _ _ _ _ g7 (@qv _ 5 _ _ (by trivial)) sZ (by rfl)) (@xt _ _ _ _ (@zp _ _ _ _ _ _ _ _ (iM hr.units0) (@qv _ 5 _ _ (by trivial)) (@zo _ _ _ _ zB) (zt _)))).pt (@zH _ _ _ (@zZ _ _ 5 _ _ _ _ wC.nd rfl (.inl rfl) (@zo _ _ _ _ (@zA _ _ _ _ _ (@qv _ 6 _ _ (by trivial)) zB (by rfl))) (by rfl) (by trivial))) zq) (@zF _ _ _ _ _ (@zZ _ _ 7 _ _ _ _ wC.nd rfl (.inl rfl) (@zo _ _ _ _ (@zA _ _ _ _ _ (@zY _ _ _ _ _ _ _ _ _ zi (by rfl) G.tuple (by rfl) (@zA _ _ _ _ _ (@qv _ 5 _ _ (by trivial)) zB (by rfl)) (by decide) (by decide) (by rfl) (by rfl)) (@zA _ _ _ _ _ (@zV _ _ _ _ _ (@zA _ _ _ _ _ (@qv _ 6 _ _ (by trivial)) zB (by rfl))) (@zA _ _ _ _ _ (@zV _ _ _ _ _ (@zA _ _ _ _ _ (@qv _ 6 _ _ (by trivial)) (@zA _ _ _ _ _ (@qv _ 6 _ _ (by trivial)) zB (by rfl)) (by rfl))) (@zA _ _ _ _ _ (@zV _ _ _ _ _ zB) (@zA _ _ _ _ _ sZ (@zA _ _ _ _ _ (@zo _ _ _ _ (@zA _ _ _ _ _ (@qv _ 6 _ _ (by trivial)) zB (by rfl))) (@zA _ _ _ _ _ zD (@zA _ _ _ _ _ (@zV _ _ _ _ _ (@zA _ _ _ _ _ (@zV _ _ _ _ _ zB) zB (by rfl))) (@zA _ _ _ _ _ (@zV _ _ _ _ _ (@zA _ _ _ _ _ (@zX _ _ _ _ _ _ _ zv (@qv _ 6 _ _ (by trivial)) zD (λ_ _=>rfl)) zB (by rfl))) (@zA _ _ _ _ _ (@zV _ _ _ _ _ (@zA _ _ _ _ _ (@zP _ _ _ _ _ _ _ _ yO (@qv _ 6 _ _ (by trivial)) (@zV _ _ _ _ _ (@zA _ _ _ _ _ zD zB (by rfl)))) zB (by rfl))) zB (by rfl)) (by rfl)) (by rfl)) (by rfl)) (by rfl)) (by rfl)) (by rfl)) (by rfl)) (by rfl)) (by rfl))) (by rfl) (by trivial)) (@zF _ _ _ _ _ (@yd _ _ _ _ _ _ _ _ JN rfl (@yk _ _ _ _ _ _ rfl G.range (@zA _ _ _ _ _ zD zB (by rfl)) (by rfl)) (@zM _ _ 8 _ wC.nd rfl (.inl rfl) (by trivial)) (@zF _ _ _ _ _ (@zZ _ _ 9 _ _ _ _ wC.nd rfl (.inl rfl) (@zY _ _ _ _ _ _ _ _ _ zi (by rfl) G.tuple (by rfl) (@zA _ _ _ _ _ (@qv _ 5 _ _ (by trivial)) zB (by rfl)) (by decide) (by decide) (by rfl) (by rfl)) (by rfl) (by trivial)) (@zF _ _ _ _ _ (@yd _ _ _ _ _ _ _ _ JN rfl (@yk _ _ _ _ _ _ rfl G.range (@zA _ _ _ _ _ (@zX _ _ _ _ _ _ _ zd (@zo _ _ _ _ (@zA _ _ _ _ _ zD (@zA _ _ _ _ _ zD (@zA _ _ _ _ _ zD (@zA _ _ _ _ _ zD zB (by rfl)) (by rfl)) (by rfl)) (by rfl))) (@zK _ _ _ _ _ _ _ _ _ _ _ _ _ _ _ _ UK.ok aD (by rfl) UK.m UK.kp UK.b .nil zS (@zA _ _ _ _ _ (@qv _ 2 _ _ (by trivial)) (@zA _ _ _ _ _ zD zB (by rfl)) (by rfl)) (by decide) (by rfl) (by rfl)) (λ_ _=>rfl)) zB (by rfl)) (by rfl)) (@zM _ _ 10 _ wC.nd rfl (.inl rfl) (by trivial)) (@zH _ _ _ (@zZ _ _ 9 _ _ _ _ wC.nd rfl (.inl rfl) (@zK _ _ _ _ _ _ _ _ _ _ _ _ _ _ _ _ UB.ok aK (by rfl) UB.m UB.kp UB.b .nil zS (@zA _ _ _ _ _ (@qv _ 2 _ _ (by trivial)) (@zA _ _ _ _ _ (@qv _ 9 _ _ (by trivial)) zB (by rfl)) (by rfl)) (by decide) (by rfl) (by rfl)) (by rfl) (by trivial))) (by intro _;rfl)) (@zH _ _ _ (@xU _ _ _ _ (@vC _ _ _ _ _ _ _ _ _ _ _ _ JX Yu Yv yq (@qv _ 7 _ _ (by trivial)) (@zA _ _ _ _ _ (@qv _ 9 _ _ (by trivial)) zB (by rfl)) (by rfl) (by rfl) (by rfl) (by rfl) (by rfl)) (by rfl))))) (by intro _;rfl)) (@zH _ _ _ (@yd _ _ _ _ _ _ _ _ JN rfl (@oe _ _ _ _ (@qv _ 7 _ _ (by trivial))) (@zM _ _ 9 _ wC.nd rfl (.inl rfl) (by trivial)) (@zF _ _ _ _ _ (@zZ _ _ 11 _ _ _ _ wC.nd rfl (.inl rfl) (@zX _ _ _ _ _ _ _ zd (@zo _ _ _ _ (@zA _ _ _ _ _ zD (@zA _ _ _ _ _ zD (@zA _ _ _ _ _ zD (@zA _ _ _ _ _ zD zB (by rfl)) (by rfl)) (by rfl)) (by rfl))) (@zK _ _ _ _ _ _ _ _ _ _ _ _ _ _ _ _ UK.ok aD (by rfl) UK.m UK.kp UK.b .nil zS (@zA _ _ _ _ _ (@qv _ 2 _ _ (by trivial)) (@zA _ _ _ _ _ zD zB (by rfl)) (by rfl)) (by decide) (by rfl) (by rfl)) (λ_ _=>rfl)) (by rfl) (by trivial)) (@zF _ _ _ _ _ (@zZ _ _ 12 _ _ _ _ wC.nd rfl (.inl rfl) (@zK _ _ _ _ _ _ _ _ _ _ _ _ _ _ _ _ UR.ok bS (by rfl) UR.m UR.kp UR.b .nil zS (@zA _ _ _ _ _ (@qv _ 3 _ _ (by trivial)) (@zA _ _ _ _ _ (@qv _ 4 _ _ (by trivial)) (@zA _ _ _ _ _ (@qv _ 11 _ _ (by trivial)) (@zA _ _ _ _ _ (@qv _ 9 _ _ (by trivial)) zB (by rfl)) (by rfl)) (by rfl)) (by rfl)) (by decide) (by rfl) (by rfl)) (by rfl) (by trivial)) (@zH _ _ _ (@yH _ _ _ _ _ _ _ _ (@wE _ _ _ _ _ _ _ (@xO _ _ _ _ (@yp _ _ _ (@zL _ _ _ _ _ _ _ _ _ yQ (by rfl) G.isi (by rfl) (@zA _ _ _ _ _ (@qv _ 12 _ _ (by trivial)) (@zA _ _ _ _ _ (@ya _ _ (.ty "bool") (.type "bool") _ (by rfl) G.bool (by rfl) rfl (by decide) (by decide)) zB (by rfl)) (by rfl)) (by decide) (by decide) (by rfl) (by rfl)) (by intro _;rfl))) (@xt _ _ _ _ (@zp _ _ _ _ _ _ _ _ tH (@qv _ 12 _ _ (by trivial)) (@zK _ _ _ _ _ _ _ _ _ _ _ _ _ _ _ _ UW.ok b1 (by rfl) UW.m UW.kp UW.b .nil zS (@zA _ _ _ _ _ (@qv _ 3 _ _ (by trivial)) (@zA _ _ _ _ _ (@qv _ 4 _ _ (by trivial)) (@zA _ _ _ _ _ (@qv _ 11 _ _ (by trivial)) (@zA _ _ _ _ _ (@qv _ 9 _ _ (by trivial)) zB (by rfl)) (by rfl)) (by rfl)) (by rfl)) (by decide) (by rfl) (by rfl)) (zt _)))).pt (@zH _ _ _ (@zU _ _ _ _ yo)) zq)))) (by intro _;rfl)))))))))))) (by intro _;rfl)) (@zH _ _ _ (@zU _ _ _ _ yo))),?_⟩;have ml:(ns.map V.int).length=ns.length:=Jc _;refine⟨_,rfl,a,_,rfl,.inl hS,_,_,rfl,_,_,rfl,?_⟩;rw[ml]
 have e6:(if (if (4:Int)<(ns.length:Nat) then (4:Int) else (ns.length:Nat)) > 1 then (if (4:Int)<(ns.length:Nat) then (4:Int) else (ns.length:Nat)) else 1)<=4/\(1:Int)<=(if (if (4:Int)<(ns.length:Nat) then (4:Int) else (ns.length:Nat)) > 1 then (if (4:Int)<(ns.length:Nat) then (4:Int) else (ns.length:Nat)) else 1):=by
  split<;>split at *<;>lia
 refine⟨_,rfl,by lia,by lia,?_⟩;generalize (if (if (4:Int)<(ns.length:Nat) then (4:Int) else (ns.length:Nat)) > 1 then (if (4:Int)<(ns.length:Nat) then (4:Int) else (ns.length:Nat)) else 1)=cnt at e6;refine xI (lo:=0) (n:=cnt.toNat) (λi σ H2=>(∃ v1 v2 v3 v4 v5 v6 v7 v8 v9 v10 v11 T,σ=[some (.ref a),v1,v2,v3,v4,v5,v6,v7,v8,v9,v10,v11,T])/\Scr K a (ns.map V.int) H2/\TabQ qR Pt H2) ⟨⟨_,_,_,_,_,_,_,_,_,_,_,_,rfl⟩,Scr.of hS,tab⟩ ?_ ?_
 rotate_left
 ·rintro σ H2 ⟨⟨v1,v2,v3,v4,v5,v6,v7,v8,v9,v10,v11,T,rfl⟩,ah,tab⟩
  exact k _
 rintro i σ H2 hi ⟨⟨v1,v2,v3,v4,v5,v6,v7,v8,v9,v10,v11,T,rfl⟩,ah,tab⟩;have i6:i<4:=by lia
 refine⟨_,rfl,_,rfl,a,ns,_,rfl,ah.sq,b7,by lia,by lia,λl H3 hl O S3=>?_⟩
 have aB:LE K a l Pt (ns.map V.int) H3:=⟨S3,tab.same O,ah.keep λo e _=>.inr (O _ _ e),by
  rcases ah with z|⟨o,z⟩|z
  ·exact .inl (zG z hl)
  ·exact .inl (zG z hl)
  ·exact .inr z⟩
 clear ah tab O hl;refine⟨_,rfl,l,rfl,aB.S,λS ag ap M N H4 bp az S4 B4=>?_⟩;have av:=aB.pick S4 B4;have ok:=bp.ok;refine⟨_,rfl,_,rfl,l,S,ag,ap,M,N,rfl,av.S,ok,az,λp moves H5 ln hp S5 B5=>?_⟩;have a3:=av.pick S5 B5;have aT:=az.tups (B5.tups3 av.S);have b9:=ln.len;have l8:=bp.ln;clear B4 B5 az aB av S4;refine⟨by show 0<=sizeLine;decide,λlp bc=>?_⟩;have s6:=zC bc (.lst []);have a0:=a3.same s6;have ar:=aT.tups (Tups.of s6);have L:=s6 _ _ hp;have bh:L2.upd H5 lp (.lst []) lp=some (.lst []):=zE;refine iz (λ_ _=>True) ?_;generalize L2.upd H5 lp (.lst [])=H6 at *;clear s6 a3 aT hp S5 S3 bc;refine uY (λσ HX=>∃ x,σ=[some (.ref a),some (.int (0+(i:Nat))),some (.ref l),some (.ref S),some (.ref p),some x,v6,v7,v8,v9,v10,v11,T]/\Same H6 HX/\(x=.non\/∃ c bs ks,x=.ref c/\HX c=some (.lst (bs.map V.ref))/\KeysAt HX bs ks/\ks.length<=250/\∀ k∈ks,OkR N k/\HtB 250 k)) ?_ λD U rt=>?_
 rotate_left
 ·refine⟨_,rfl,_,rfl,S,ag,ap,M,N,p,moves,rfl,ok,ar,L,λH7 b s7=>⟨b,rfl,?_⟩⟩
  cases b with
  | false=>exact zr (U _ _ ⟨.ref lp,rfl,s7,.inr ⟨lp,[],[],rfl,s7 _ _ bh,.nil,by decide,λk hk=>(nomatch hk)⟩⟩)
  | true =>
   refine zz ⟨_,rfl,_,rfl,S,ag,ap,M,N,p,moves,250,rfl,ok,ar.tups (Tups.of s7),s7 _ _ L,ln.lt,by lia,by decide,λH8 s8=>?_,λpp bs ks H8 s8 np b2 ka cl=>?_⟩
   ·exact U _ _ ⟨.non,rfl,s7.trans s8,.inl rfl⟩
   ·exact U _ _ ⟨.ref pp,rfl,s7.trans s8,.inr ⟨pp,bs,ks,rfl,b2,ka,cl.few,cl.ok⟩⟩
 rintro σ HX ⟨x,rfl,sX,hx⟩;have aZ:=a0.same sX;have W:=ar.tups (Tups.of sX);have ad:=sX _ _ L;clear sX a0 ar L bh;have cb:=ok.l16;have fm:=ok.fm;have pl:=W.prs.len;refine⟨by show 1<=sizeLine;decide,λt0 a7=>?_⟩;have s1:=zC a7 (.tup [.int 0]);refine⟨_,rfl,S,_,_,_,rfl,rfl,SqT.of (s1 _ _ W.net),rfl,ag,M,rfl,.inr (SqT.of (s1 _ _ W.forks)),t0,_,M.length,rfl,rfl,zE,by lia,λt H2 s2 ht=>⟨by show 1<=sizeLine;decide,λu0 a5=>?_⟩⟩;have O:=zC a5 (.tup [.int 0]);have u3:=(s1.trans s2).trans O;refine⟨_,rfl,S,_,_,_,rfl,rfl,SqT.of (u3 _ _ W.net),rfl,u0,_,N.lanes,rfl,rfl,zE,by lia,λu H4 s4 hu=>⟨by show 2<=sizeLine;decide,λg bo=>?_⟩⟩;have s5:=zC bo (.tup [.ref t,.ref u]);have e8:L2.upd H4 g (.tup [.ref t,.ref u]) g=some (.tup [.ref t,.ref u]):=zE
 have et:L2.upd H4 g (.tup [.ref t,.ref u]) t=some (.tup ((List.replicate N.forks.length (0:Int)).map V.int)):=by
  rw[<- pl];exact s5 _ _ (s4 _ _ (O _ _ (by rw[ht];exact JH (λz=>some (HO.tup z)) YC.symm)))
 have eu:L2.upd H4 g (.tup [.ref t,.ref u]) u=some (.tup ((List.replicate N.lanes (0:Int)).map V.int)):=s5 _ _ (by rw[hu];exact JH (λz=>some (HO.tup z)) YC.symm);have u8:=(u3.trans s4).trans s5;have m8:Ma (L2.upd H4 g (.tup [.ref t,.ref u])) 250 2 (.ref g):=Ma.pl (B:=250) ok (tL ok) ⟨_,_,rfl,λh hh=>by rw[Ze hh];decide⟩ (by decide) (wd e8 et eu);have mt:Ma (L2.upd H4 g (.tup [.ref t,.ref u])) 250 1 (.ref t):=(m8.kids (yU e8)).2.elim λh' z=>by cases z.1;exact z.2 _ (.head _)
 have bB:x=.non\/∃ c,∃ bs:List Addr,x=.ref c/\L2.upd H4 g (.tup [.ref t,.ref u]) c=some (.lst (bs.map V.ref))/\bs.length<=250/\∀ b∈bs,Ma (L2.upd H4 g (.tup [.ref t,.ref u])) 250 2 (.ref b):=hx.imp id λ⟨c,bs,ks,e,hc,ka,kl,a4⟩=>⟨c,bs,e,u8 _ _ hc,by rw[Yt ka];exact kl,λb bm=>by
  obtain⟨k,hk,kb⟩:=ka.mem b bm
  exact Ma.pl ok (a4 k hk).1 (a4 k hk).2 (by decide) (kb.tups (Tups.of u8))⟩
 have aY:=aZ.same u8;have aS:=W.tups (Tups.of u8);have ab:=u8 _ _ ad;refine iz (λ_ _=>True) ?_;generalize L2.upd H4 g (.tup [.ref t,.ref u])=H8 at *;clear s5 bo s4 hu u3 O a5 s2 ht s1 a7 u8 aZ W ad hx et eu pl;refine uY (λσ HX=>∃ c,∃ bs:List Addr,σ=[some (.ref a),some (.int (0+(i:Nat))),some (.ref l),some (.ref S),some (.ref p),some (.ref c),some (.ref g),v7,v8,v9,v10,v11,T]/\Same H8 HX/\HX c=some (.lst (bs.map V.ref))/\bs.length<=250/\∀ b∈bs,Ma HX 250 2 (.ref b)) ?_ λD U rt=>?_
 rotate_left
 ·have one:∀ {HY:Hp}{lq:Addr}{v:V},Same H8 HY->HY lq=none->D.nx [some (.ref a),some (.int (0+(i:Nat))),some (.ref l),some (.ref S),some (.ref p),some (.ref lq),some (.ref g),v7,v8,v9,v10,v11,T] (L2.upd HY lq (.lst [.ref g])):=λ{HY lq v} sy hq=>U _ _ ⟨lq,[g],rfl,sy.trans (zC hq _),zE,show 1<=250 by decide,λb hb=>by
   rw[Jd.mp hb]
   exact Ma.same (sy.trans (zC hq _)) m8⟩
  rcases bB with rfl|⟨c,bs,rfl,hc,xl,xm⟩
  ·exact⟨_,rfl,rfl,_,rfl,zz (zz ⟨_,rfl,by show 1<=sizeLine;decide,λlq hq=>one (v:=.non) (Same.refl _) hq⟩)⟩
  ·refine⟨_,rfl,rfl,_,rfl,zr ⟨_,rfl,by show 0<=sizeLine;decide,λle hle=>?_⟩⟩
   have se:=zC hle (.lst []);refine⟨c,le,bs.map V.ref,rfl,rfl,SqL.of (se _ _ hc),SqL.of zE,_,rfl,?_⟩
   cases bs with
   | nil=>exact zz ⟨_,rfl,by show 1<=sizeLine;decide,λlq hq=>one (v:=.non) se hq⟩
   | cons b bs=>exact zr (U _ _ ⟨c,b::bs,rfl,se,se _ _ hc,xl,λy d=>Ma.same se (xm y d)⟩)
 rintro σ HX ⟨c,bs,rfl,sX,hc,xl,xm⟩;have aX:=aY.same sX;have aR:=aS.tups (Tups.of sX);have aa:=sX _ _ ab;have e9:=sX _ _ e8;have m9:=Ma.same sX m8;have aW:=Ma.same sX mt;clear sX aY aS ab m8 mt e8;refine⟨_,rfl,c,bs.map V.ref,rfl,.inl ⟨SqL.of hc,λp0 aG=>⟨_,rfl,by show 1<=sizeLine;decide,λp1 ae=>⟨_,rfl,_,rfl,by show 2<=sizeLine;decide,λp2 aF=>⟨by show 0<=sizeLine;decide,λp3 aE=>⟨_,rfl,by show 1<=sizeLine;decide,λp5 ba=>⟨by show 0<=sizeLine;decide,λp6 L=>⟨by show 1<=sizeLine;decide,λp7 ad=>?_⟩⟩⟩⟩⟩⟩⟩⟩;have s0:=zC aG (.tup (bs.map V.ref));have s1:=zC ae (.tup [.ref g]);have s2:=zC aF (.tup [.ref g,.ref g]);have O:=zC aE (.tup []);have s5:=zC ba (.lst [.ref g]);have s6:=zC L (.tup []);have s7:=zC ad (.tup [.ref p6]);have q6:=s6.trans s7;have q5:=s5.trans q6;have q3:=O.trans q5;have q2:=s2.trans q3;have q1:=s1.trans q2;have q0:=s0.trans q1
 have f0:Ma _ 300 9 (.ref p0):=Ma.more (b:=250) (h:=3) (by decide) (by decide) (Ma.same q1 (Ma.new aG (by rw[Jc];exact xl) λy d=>by
  obtain⟨bq,aJ,rfl⟩:=JD.mp d
  exact xm bq aJ))
 have f1:Ma _ 300 9 (.ref p1):=Ma.more (b:=250) (h:=3) (by decide) (by decide) (Ma.same q2 (Ma.new ae (show 1<=250 by decide) λy d=>by
  rw[Jd.mp d]
  exact Ma.same s0 m9))
 have f2:Ma _ 300 9 (.ref p2):=Ma.more (b:=250) (h:=3) (by decide) (by decide) (Ma.same q3 (Ma.new aF (show 2<=250 by decide) λy d=>by
  rw[show y=.ref g by
   rcases Ji.mp d with z|z
   ·exact z
   ·exact Jd.mp z]
  exact Ma.same (s0.trans s1) m9))
 have f3:Ma _ 300 9 (.ref p3):=Ma.same q5 (Ma.new (xs:=[]) aE (show 0<=300 by decide) λy d=>(nomatch d));have f5:Ma _ 300 9 (.ref p5):=Ma.same q6 (Ma.lst zE);have f6:Ma _ 300 8 (.ref p6):=Ma.new (xs:=[]) L (show 0<=300 by decide) λy d=>(nomatch d)
 have f7:Ma _ 300 9 (.ref p7):=Ma.new (xs:=[.ref p6]) ad (show 1<=300 by decide) λy d=>by
  rw[Jd.mp d];exact f6
 clear f6 s0 s1 s2 O s5 s6 s7 q1 q2 q3 q5 q6;have C:=aX.same q0;have aq:=aR.tups (Tups.of q0);have aw:=q0 _ _ aa;have eA:=q0 _ _ e9;have mA:=Ma.same q0 m9;have aV:=Ma.same q0 aW;have aI:=q0 _ _ hc;have aM:∀ b∈bs,Ma _ 250 2 (.ref b):=λb hb=>Ma.same q0 (xm b hb);refine⟨_,rfl,g,_,_,_,rfl,rfl,SqT.of eA,rfl,by show 1<=sizeLine;decide,λp8 ab=>⟨_,rfl,by show 1<=sizeLine;decide,λt9 a6=>?_⟩⟩;have s8:=zC ab (.tup [.ref t]);have s9:=zC a6 (.tup [.int 0]);refine⟨g,t9,_,_,rfl,rfl,s9 _ _ (s8 _ _ eA),zE,show 3<=sizeLine by decide,λr9 H9 sr a8=>⟨by show 1<=sizeLine;decide,λp9 aa=>⟨by show 10<=sizeLine;decide,λlt aj=>?_⟩⟩⟩;have sp:=zC aa (.tup [.ref r9])
 have f8:Ma _ 300 9 (.ref p8):=Ma.same ((s9.trans sr).trans sp) (Ma.new ab (show 1<=300 by decide) λy d=>by
  rw[Jd.mp d];exact Ma.more (b:=250) (h:=1) (h':=8) (by decide) (by decide) aV)
 have f9:Ma _ 300 9 (.ref p9):=Ma.new (xs:=[.ref r9]) aa (show 1<=300 by decide) λy d=>by
  rw[Jd.mp d];refine Ma.tup (h:=7) a8 (show 3<=300 by decide) λy d=>?_;obtain⟨_,h',e1,km⟩:=Ma.kids (Ma.same ((s8.trans s9).trans sr) mA) (yU (sr _ _ (s9 _ _ (s8 _ _ eA))));rcases Jr.mp d with z|z
  ·exact Ma.more (by decide) (by lia) (km y z)
  ·rw[Jd.mp z];exact Ma.int 0
 have w8:=((s8.trans s9).trans sr).trans sp;generalize L2.upd H9 p9 (.tup [.ref r9])=HN at *;have wl:=zC aj (.lst [.ref p0,.ref p1,.ref p2,.ref p3,.non,.ref p5,.int 0,.ref p7,.ref p8,.ref p9]);have wB:=w8.trans wl
 have aN:∀ y∈[V.ref p0,.ref p1,.ref p2,.ref p3,.non,.ref p5,.int 0,.ref p7,.ref p8,.ref p9],Ma (L2.upd HN lt (.lst [.ref p0,.ref p1,.ref p2,.ref p3,.non,.ref p5,.int 0,.ref p7,.ref p8,.ref p9])) 300 9 y:=λy d=>by
  simp only[Ji,JA,Yf]at d;rcases d with rfl|rfl|rfl|rfl|rfl|rfl|rfl|rfl|rfl|rfl
  ·exact Ma.same wB f0
  ·exact Ma.same wB f1
  ·exact Ma.same wB f2
  ·exact Ma.same wB f3
  ·exact Ma.non
  ·exact Ma.same wB f5
  ·exact Ma.int 0
  ·exact Ma.same wB f7
  ·exact Ma.same wl f8
  ·exact Ma.same wl f9
 have Y:=C.same w8;have au:lt≠l:=(Y.S.ne aj).symm;have ac:=fh Y aj;have leB:=Y.same wl;have aQ:=aq.tups (Tups.of wB);have a9:=wB _ _ aw;have aH:=wB _ _ aI;have aL:∀ b∈bs,Ma _ 250 2 (.ref b):=λb hb=>Ma.same wB (aM b hb);have br:c≠lt:=zG (w8 _ _ aI) aj;have bf:L2.upd HN lt (.lst [.ref p0,.ref p1,.ref p2,.ref p3,.non,.ref p5,.int 0,.ref p7,.ref p8,.ref p9]) lt=some (.lst [.ref p0,.ref p1,.ref p2,.ref p3,.non,.ref p5,.int 0,.ref p7,.ref p8,.ref p9]):=zE;have aP:[V.ref p0,.ref p1,.ref p2,.ref p3,.non,.ref p5,.int 0,.ref p7,.ref p8,.ref p9].length<=10:=Jb _;have cl:c≠l:=fg leB.S aH;refine iz (λ_ _=>True) ?_;generalize L2.upd HN lt (.lst [.ref p0,.ref p1,.ref p2,.ref p3,.non,.ref p5,.int 0,.ref p7,.ref p8,.ref p9])=HB at *;generalize [V.ref p0,.ref p1,.ref p2,.ref p3,.non,.ref p5,.int 0,.ref p7,.ref p8,.ref p9]=ts0 at *;clear wl wB w8 Y C aq aw aI aM f0 f1 f2 f3 f5 f7 f8 f9 mA aV eA sp aa aj a8 sr s8 s9 a6 ab ad L ba aE aF ae aG q0;refine⟨_,rfl,by decide,by decide,?_⟩;refine xI (lo:=0) (n:=(12:Int).toNat) (λj σ HZ=>∃ ts w8 w9 r J I,σ=[some (.ref a),some (.int (0+(i:Nat))),some (.ref l),some (.ref S),some (.ref p),some (.ref c),some (.ref g),some (.ref lt),w8,w9,r,J,I]/\LE K a l Pt (ns.map V.int) HZ/\KpM HB HZ/\HZ lt=some (.lst ts)/\ts.length<=10+j/\(∀ y∈ts,Ma HZ 300 9 y)/\HZ c=some (.lst (bs.map V.ref))) ⟨_,_,_,_,_,_,rfl,leB,KpM.refl _,bf,aP,aN,aH⟩ ?_ ?_
 ·rintro j σ HZ hj ⟨ts,w8,w9,r,J,I,rfl,leZ,kz,ak,tl,tm,ao⟩
  refine⟨_,rfl,c,bs.map V.ref,rfl,.inl ⟨SqL.of ao,λq hq=>?_⟩⟩;have sq:=zC hq (.tup (bs.map V.ref))
  have mq:Ma (L2.upd HZ q (.tup (bs.map V.ref))) 250 3 (.ref q):=Ma.new hq (by rw[Jc];exact xl) λy d=>by
   obtain⟨bq,aJ,rfl⟩:=JD.mp d;exact Ma.kpm kz (aL bq aJ)
  have ai:=leZ.same sq;have be:=sq _ _ ak;have bj:=sq _ _ ao;have aO:∀ y∈ts,Ma _ 300 9 y:=λy d=>Ma.same sq (tm y d);have ky:=kz.trans (KpM.same sq);refine iz (λ_ _=>True) ?_;generalize L2.upd HZ q (.tup (bs.map V.ref))=HY at *;clear sq hq ak ao leZ tm kz;refine⟨by show 4<=sizeLine;decide,λli af=>?_⟩;have R:=zC af (.lst [.int 1,.int 1,.int 2,.int 3]);refine⟨_,rfl,l,4,rfl,by decide,by decide,ai.S.keep R,λv H1 hv S1 B1=>?_⟩;have n1:li≠l:=(ai.S.ne af).symm
  obtain⟨m,em,m3⟩:∃ m:Nat,([.int 1,.int 1,.int 2,.int 3]:List V)[v]?=some (.int (m:Nat))/\m<=3:=by
   rcases (by lia:v=0\/v=1\/v=2\/v=3) with rfl|rfl|rfl|rfl
   ·exact⟨1,rfl,by decide⟩
   ·exact⟨1,rfl,by decide⟩
   ·exact⟨2,rfl,by decide⟩
   ·exact⟨3,rfl,by decide⟩
  have Z:=(ai.same R).pick S1 B1;have k1:=(KpM.same R).trans (KpM.but B1 (ai.S.keep R) S1);refine⟨li,_,_,_,rfl,rfl,SqL.of (B1 _ _ zE n1),zx em,_,rfl,by lia,by lia,?_⟩;have ay:=B1 _ _ (R _ _ be) au;have b5:=B1 _ _ (R _ _ bj) cl;have bw:=Ma.kpm k1 mq;have bt:∀ y∈ts,Ma _ 300 9 y:=λy d=>Ma.kpm k1 (aO y d);have bx:=ky.trans k1;clear k1 R af B1 be bj mq aO ky ai em n1;refine xI (lo:=0) (n:=((m:Nat):Int).toNat) (λj2 σ HW=>∃ y r,σ=[some (.ref a),some (.int (0+(i:Nat))),some (.ref l),some (.ref S),some (.ref p),some (.ref c),some (.ref g),some (.ref lt),some (.int (0+(j:Nat))),some y,r,J,I]/\Pk3 HW l/\But l H1 HW/\Ma HW (250+3*j2) (3+2*j2) y) ⟨_,_,rfl,S1,But.of (Same.refl _),bw⟩ ?_ ?_
  ·rintro j2 σ HW cc ⟨y,r,rfl,SW,BW,my⟩
   exact⟨_,rfl,_,rfl,3+2*j2,by lia,l,y,250+3*j2,rfl,SW,by lia,my,λy' HV bv SV BV=>⟨y',_,rfl,SV,BW.trans BV,Ma.more (by lia) (by lia) bv⟩⟩
  rintro σ HW ⟨y,r,rfl,SW,BW,my⟩;have Y:=Z.pick SW BW;have kw:=KpM.but BW S1 SW;have ax:=BW _ _ ay au;have b4:=BW _ _ b5 cl;refine⟨_,rfl,.inl ⟨rfl,_,SqL.of ax⟩,_,rfl,lt,ts,y,rfl,rfl,ax,by rw[Js];have:j<12:=hj;lia,?_⟩;have kq:=(KpM.list (zs:=ts++[y]) ax);refine⟨ts++[y],_,_,_,_,_,rfl,Y.list ax au ac,(bx.trans kw).trans kq,zE,by rw[J9];show _+1<=_;lia,λz hz=>?_,by rw[zJ br];exact b4⟩;rcases Jr.mp hz with u|u
  ·exact Ma.kpm (kw.trans kq) (bt z u)
  ·rw[Jd.mp u];exact Ma.more (by lia) (by lia) (Ma.kpm kq my)
 rintro σ HZ ⟨ts,w8,w9,r,J,I,rfl,leZ,kz,ak,tl,tm,ao⟩;have bu:=aQ.tups kz.tups;have b3:=kz.tups _ _ a9;clear ao kz aQ a9 aH aL bf aN aP leB cl br ac xl xm hc m9 aW e9 aR aa aX;refine⟨_,rfl,lt,rfl,⟨_,SqL.of ak⟩,?_⟩
 refine jo (K:=K) (a:=lt) (xs:=ts) (λj σ HA=>∃ w8 w9 r J I,σ=[some (.ref a),some (.int (0+(i:Nat))),some (.ref l),some (.ref S),some (.ref p),some (.ref c),some (.ref g),some (.ref lt),w8,w9,r,J,I]/\LE K a l Pt (ns.map V.int) HA/\KpM HZ HA/\HA lt=some (.lst ts)) ⟨_,_,_,_,_,rfl,leZ,KpM.refl _,ak⟩ (λj σ HA _ z=>by
  obtain⟨_,_,_,_,_,_,_,_,z⟩:=z
  exact SqL.of z) ?_ ?_
 rotate_left
 ·rintro σ HA ⟨w8,w9,r,J,I,rfl,C,kA,bg⟩
  exact⟨⟨_,_,_,_,_,_,_,_,_,_,_,_,rfl⟩,C.scr,C.tab⟩
 rintro j x σ HA hx ⟨w8,w9,r,J,I,rfl,C,kA,bg⟩;have mx:=Ma.kpm kA (tm x (Jq hx));have aq:=bu.tups kA.tups;have aw:=kA.tups _ _ b3;refine⟨by show 4<=sizeLine;decide,λli af=>?_⟩;have R:=zC af (.lst [.int 0,.int 1,.int 2,.int 40]);refine⟨_,rfl,l,4,rfl,by decide,by decide,C.S.keep R,λv H1 hv S1 B1=>?_⟩;have n1:li≠l:=(C.S.ne af).symm
 obtain⟨far,em⟩:∃ m:Int,([.int 0,.int 1,.int 2,.int 40]:List V)[v]?=some (.int m):=by
  rcases (by lia:v=0\/v=1\/v=2\/v=3) with rfl|rfl|rfl|rfl<;>exact⟨_,rfl⟩
 have Z:=(C.same R).pick S1 B1;have k1:=(KpM.same R).trans (KpM.but B1 (C.S.keep R) S1);refine⟨li,_,_,_,rfl,rfl,SqL.of (B1 _ _ zE n1),zx em,?_⟩;have ay:=B1 _ _ (R _ _ bg) au;have X:=Ma.kpm k1 mx;have aU:=aq.tups k1.tups;have ae:=k1.tups _ _ aw;have bz:=kA.trans k1
 have rows:∀ {HQ:Hp},Ma HQ 300 9 x->∀ xs,zc HQ x=some xs->xs.length<=300/\∀ y∈xs,Dp HQ 2 y:=λmm xs e=>by
  obtain⟨c1,h',_,q⟩:=mm.kids e;exact⟨c1,λy d=>Ma.dp (by decide) 2 (q y d)⟩
 refine⟨_,rfl,_,rfl,_,rfl,_,rfl,S,ag,ap,M,N,p,moves,far,x,rfl,ok,aU,ae,ln.lt,by lia,X.an,λxs e=>⟨Jz (rows X xs e).1 (by decide),(rows X xs e).2⟩,Z.tab,λH2 B2 tab2=>?_⟩;have k2:=KpM.tab Z.tab B2;have aA:=Ma.kpm k2 X;have le2:=Z.ver tab2 B2;have b8:=gA (N:=N) (moves:=moves) (far:=far) k2 X.an λxs e=>(rows X xs e).2;refine iy (c:=bkV N moves far H1 x) rfl ?_;generalize bkV N moves far H1 x=found at *;refine⟨_,rfl,_,"bool",_,true,rfl,.bl found,rfl,_,rfl,zr ⟨_,rfl,_,rfl,_,rfl,_,rfl,_,rfl,S,ag,ap,M,N,p,moves,far,x,rfl,ok,aU.tups k2.tups,k2.tups _ _ ae,ln.lt,by lia,aA.an,λxs e=>⟨Jz (rows aA xs e).1 (by decide),(rows aA xs e).2⟩,λH3 O=>?_⟩⟩;refine cB (c:=found) b8 ?_;refine⟨rfl,_,rfl,?_⟩;rw[show (!decide (V.bl found=V.bl found))=false by rw[Jw rfl];rfl];exact zr ⟨_,_,_,_,_,rfl,le2.same O,((bz.trans k2).trans (KpM.same O)),O _ _ (B2 _ _ ay (xi ay Z.tab.choose_spec.1 λz=>by cases z))⟩
end
structure FnAt (K:PySem.W.Frag) (x:Str) (st:Stmt) (f:Addr) (fd:FuncData):Prop where
 ns:PySem.W.nsIn K mainGlobals x=some (some (.ref f))
 fn:Fun K x x st f fd
theorem yD {K:PySem.W.Frag}{x:Str}{st:Stmt}{f:Addr}{oc:Value}{od an:Option Addr}{osl:Array (Option Value)}{kV doc pm cdv ct:Value}(a:PySem.W.nsIn K mainGlobals x=some (some (.ref f)))(l:K.lookup f=some ⟨oc,od,.func (PySem.W.fnOf x x (xG st) (yb st) (zN st) .none kV doc pm an cdv ct),osl⟩)(c:PySem.W.codeIn K cdv x=true)(k:PySem.W.keepIn K (.ref f)=true):FnAt K x st f (PySem.W.fnOf x x (xG st) (yb st) (zN st) .none kV doc pm an cdv ct):=⟨a,eG l c k⟩
structure FnAtC (K:PySem.W.Frag) (x:Str) (st:Stmt) (f:Addr) (fd:FuncData) (c:Addr):Prop where
 ns:PySem.W.nsIn K mainGlobals x=some (some (.ref f))
 fn:FunC K x x st f fd c
theorem eH {K:PySem.W.Frag}{x:Str}{st:Stmt}{f c:Addr}{oc:Value}{od an:Option Addr}{osl:Array (Option Value)}{kV doc pm ct:Value}(a:PySem.W.nsIn K mainGlobals x=some (some (.ref f)))(l:K.lookup f=some ⟨oc,od,.func (PySem.W.fnOf x x (xG st) (yb st) (zN st) .none kV doc pm an (.ref c) ct),osl⟩)(cd:PySem.W.codeIn K (.ref c) x=true)(k:PySem.W.keepIn K (.ref f)=true):FnAtC K x st f (PySem.W.fnOf x x (xG st) (yb st) (zN st) .none kV doc pm an (.ref c) ct) c:=⟨a,⟨⟨_,_,_,_,_,_,_,_,rfl,l,cd⟩,k⟩⟩
theorem _root_.L2.FunC.fun {K:PySem.W.Frag}{x qual:Str}{st:Stmt}{f:Addr}{fd:FuncData}{c:Addr}(F:FunC K x qual st f fd c):Fun K x qual st f fd:=by
 obtain⟨d,b,kV,doc,pm,an,g,a,e,l,q⟩:=F.ex;exact⟨⟨d,b,kV,doc,pm,an,.ref c,g,a,e,l,q⟩,F.kp⟩
theorem lJ {K:PySem.W.Frag}{c P:Addr}{od:Option Addr}{vs:Array Value}{osl:Array (Option Value)}(l:K.lookup c=some ⟨.type "code",od,.fields vs,osl⟩) (e:PySem.W.codeHdIn [(c,⟨.type "code",od,.fields vs,osl⟩)] c P=true):PySem.W.codeHdIn K c P=true:=by
 have q:List.lookup c [(c,(⟨.type "code",od,.fields vs,osl⟩:Obj))]=some ⟨.type "code",od,.fields vs,osl⟩:=by rw[Y5,beq_self_eq_true]
 unfold PySem.W.codeHdIn at e ⊢;rw[q]at e;rw[l];exact e
theorem us1 {us:List Value}(h:us.length=1):∃ a,us=[a]:=by
 match us,h with
 | [a],_=>exact⟨a,rfl⟩
theorem us2 {us:List Value}(h:us.length=2):∃ b a,us=[b,a]:=by
 match us,h with
 | [b,a],_=>exact⟨b,a,rfl⟩
theorem us3 {us:List Value}(h:us.length=3):∃ c b a,us=[c,b,a]:=by
 match us,h with
 | [c,b,a],_=>exact⟨c,b,a,rfl⟩
theorem us4 {us:List Value}(h:us.length=4):∃ c b a u3,us=[c,b,a,u3]:=by
 match us,h with
 | [c,b,a,u3],_=>exact⟨c,b,a,u3,rfl⟩
theorem us5 {us:List Value}(h:us.length=5):∃ d c b u3 a,us=[d,c,b,u3,a]:=by
 match us,h with
 | [d,c,b,u3,a],_=>exact⟨d,c,b,u3,a,rfl⟩
set_option maxHeartbeats 4000001 in
theorem eR {l:PySem.W.OpenLaw}{w:World}{K:PySem.W.Frag}{h:Heap}{mg:Str->Option Value}{fa f1 f2 f3 f4 f5 f6 f7 f8 f9 aO aN aM aL aK aJ aI aH aG aF aE aD aC aB aA az ay ax aw av au ar aq ap ao ak aj ai ah ag af dX:Addr}{d1 d2 d3 d4 d5 d6 d7 d8 d9 bu bt br bq bp bo bj bh bg bf be bc ba a9 a8 a7 a6 a5 a4 a3 a0 aZ aY aX aW aV aU aT aS aR aQ aP:FuncData}(X:K.In h) (G:h.Ns mainGlobals mg) (dW:mg "law" = some (.ref fa))
  {i Pt:Addr}
  (A1:FnAt K "is_whole" pF f1 d1)
  (A2:FnAt K "is_below" pO f2 d2)
  (A3:FnAt K "is_row" pJ f3 d3)
  (A4:FnAt K "are_below" vO f4 d4)
  (A5:FnAt K "are_from_nought" pM f5 d5)
  (A6:FnAt K "end_of" gp f6 d6)
  (A7:FnAt K "run_through" gc f7 d7)
  (A8:FnAt K "passed" sQ f8 d8)
  (A9:FnAt K "given_at" pL f9 d9)
  (W:FnAt K "added" pQ aO bu)
  (V:FnAt K "first_turns" sS aN bt)
  (U:FnAt K "is_book" sR aM br)
  (T:FnAt K "first_place" uM aL bq)
  (S:FnAt K "place_behind" sP aK bp)
  (R:FnAt K "is_low_place" pK aJ bo)
  (Q:FnAtC K "shows_reach" xo aI bj i)
  (P:FnAt K "_law_left" kT aH bh)
  (O:FnAt K "_law_pick" kO aG bg)
  (N:FnAt K "_law_mixed" pH aF bf)
  (L:FnAt K "_law_merger" rW aE be)
  (J:FnAt K "_law_stairway" rV aD bc)
  (I:FnAt K "_law_block" rX aC ba)
  (H:FnAt K "_law_tree" rT aB a9)
  (F:FnAt K "_law_made" kS aA a8)
  (E:FnAt K "_law_any" kU az a7)
  (D:FnAt K "_law_changed" gq ay a6)
  (C:FnAt K "_law_net" kR ax a5)
  (B:FnAt K "_law_some" pG aw a4)
  (A:FnAt K "_law_passed" gf av a3)
  (z:FnAt K "_law_more" gg au a0)
  (y:FnAt K "_law_ends" pI ar aZ)
  (x:FnAt K "_law_even" pN aq aY)
  (u:FnAt K "_law_evened" gn ap aX)
  (t:FnAt K "_law_lowered" gh ao aW)
  (r:FnAt K "_law_all_places" pP ak aV)
  (q:FnAt K "_law_whole" ga aj aU)
  (o:FnAt K "_law_are_turns" sN ai aT)
  (n:FnAt K "_law_odd" kQ ah aS)
  (m:FnAt K "_law_bent" wk ag aR)
  (k:FnAt K "_law_shows" sO af aQ)
  (Y:FnAt K "law" gj dX aP)
  (z1:PySem.W.nsIn K mainGlobals "len" = some none)
  (z2:PySem.W.nsIn K mainGlobals "range" = some none)
  (z3:PySem.W.nsIn K mainGlobals "tuple" = some none)
  (z4:PySem.W.nsIn K mainGlobals "enumerate" = some none)
  (z5:PySem.W.nsIn K mainGlobals "abs" = some none)
  (z6:PySem.W.nsIn K mainGlobals "zip" = some none)
  (z7:PySem.W.nsIn K mainGlobals "isinstance" = some none)
  (z8:PySem.W.nsIn K mainGlobals "all" = some none)
  (z9:PySem.W.nsIn K mainGlobals "sum" = some none)
  (c6:PySem.W.nsIn K mainGlobals "bool" = some none)
  (c5:PySem.W.nsIn K mainGlobals "int" = some none)
  (c4:PySem.W.nsIn K mainGlobals "str" = some none)
  (c3:PySem.W.nsIn K mainGlobals "max" = some none)
  (c2:PySem.W.nsIn K mainGlobals "min" = some none)
  (c1:PySem.W.nsIn K mainGlobals "sorted" = some none)
  (c0:PySem.W.nsIn K mainGlobals "list" = some none)
  (cP:PySem.W.nsIn K mainGlobals "set" = some none)
  (cH:PySem.W.codeHdIn K i Pt=true) (c7:mainGlobals≠Pt) (kP:K.lookup Pt=none)
  : (K.lookup Pt=none/\∃ c,PySem.W.codeHdIn K c Pt=true)/\∃ fd:FuncData,(∀ (s:Shared) (v:Value),BindsTo s fd ⟨[v],[]⟩ [("_law_script",v)])/\∀ base:Heap,K.In base->base.Ns mainGlobals mg->(∀ p∈[Pt],base.BuiltinsAt mg p)->FnOk l.prog w K mg base CX0 14 fa fd ["_law_script"] (oV K Pt):=by
 have e:=dW.symm.trans (Ju X G Y.ns);cases e;have M:Mgs mg:=⟨JM X G z1,JM X G z2,JM X G z3,JM X G z4,JM X G z5,JM X G z6,JM X G z7,JM X G z8,JM X G z9,JM X G c6,JM X G c5,JM X G c4,JM X G c3,JM X G c2,JM X G c1,JM X G c0⟩;have M2:MgSet mg:=⟨JM X G cP⟩;have b1:=A1.fn.binds (ps:=["thing"]) λ_ _ _ _ _ _ b a=>by obtain⟨d,rfl⟩:=us1 a;rfl
 have m1:=Ju X G A1.ns;have b2:=A2.fn.binds (ps:=["thing","bound"]) λ_ _ _ _ _ _ b a=>by obtain⟨d,f,rfl⟩:=us2 a;rfl
 have m2:=Ju X G A2.ns;have b3:=A3.fn.binds (ps:=["thing","many"]) λ_ _ _ _ _ _ b a=>by obtain⟨d,f,rfl⟩:=us2 a;rfl
 have m3:=Ju X G A3.ns;have b4:=A4.fn.binds (ps:=["thing","many","bound"]) λ_ _ _ _ _ _ b a=>by obtain⟨d,f,j,rfl⟩:=us3 a;rfl
 have m4:=Ju X G A4.ns;have b5:=A5.fn.binds (ps:=["thing","many"]) λ_ _ _ _ _ _ b a=>by obtain⟨d,f,rfl⟩:=us2 a;rfl
 have m5:=Ju X G A5.ns;have b6:=A6.fn.binds (ps:=["net","lane"]) λ_ _ _ _ _ _ b a=>by obtain⟨d,f,rfl⟩:=us2 a;rfl
 have m6:=Ju X G A6.ns;have b7:=A7.fn.binds (ps:=["net","turns","lane","back"]) λ_ _ _ _ _ _ b a=>by obtain⟨d,f,j,u3,rfl⟩:=us4 a;rfl
 have m7:=Ju X G A7.ns;have b8:=A8.fn.binds (ps:=["net","turns","lane"]) λ_ _ _ _ _ _ b a=>by obtain⟨d,f,j,rfl⟩:=us3 a;rfl
 have m8:=Ju X G A8.ns;have b9:=A9.fn.binds (ps:=["row","place","value"]) λ_ _ _ _ _ _ b a=>by obtain⟨d,f,j,rfl⟩:=us3 a;rfl
 have m9:=Ju X G A9.ns;have e1:=W.fn.binds (ps:=["counts","place","many"]) λ_ _ _ _ _ _ b a=>by obtain⟨d,f,j,rfl⟩:=us3 a;rfl
 have dV:=Ju X G W.ns;have e0:=V.fn.binds (ps:=["net"]) λ_ _ _ _ _ _ b a=>by obtain⟨d,rfl⟩:=us1 a;rfl
 have dT:=Ju X G V.ns;have eS:=U.fn.binds (ps:=["thing","is_state","first","moves","led"]) λ_ _ _ _ _ _ b a=>by obtain⟨d,f,j,u3,u4,rfl⟩:=us5 a;rfl
 have dS:=Ju X G U.ns;have eN:=T.fn.binds (ps:=["net"]) λ_ _ _ _ _ _ b a=>by obtain⟨d,rfl⟩:=us1 a;rfl
 have dR:=Ju X G T.ns;have eM:=S.fn.binds (ps:=["net","place","lane"]) λ_ _ _ _ _ _ b a=>by obtain⟨d,f,j,rfl⟩:=us3 a;rfl
 have dP:=Ju X G S.ns;have eA:=R.fn.binds (ps:=["net","far","thing"]) λ_ _ _ _ _ _ b a=>by obtain⟨d,f,j,rfl⟩:=us3 a;rfl
 have dO:=Ju X G R.ns;have ey:=Q.fn.fun.binds (ps:=["net","some","far","thing"]) λ_ _ _ _ _ _ b a=>by obtain⟨d,f,j,u3,rfl⟩:=us4 a;rfl
 have dM:=Ju X G Q.ns;have ew:=P.fn.binds (ps:=["_law_script","_law_k"]) λ_ _ _ _ _ _ b a=>by obtain⟨d,f,rfl⟩:=us2 a;rfl
 have dK:=Ju X G P.ns;have eu:=O.fn.binds (ps:=["_law_left_here","_law_many"]) λ_ _ _ _ _ _ b a=>by obtain⟨d,f,rfl⟩:=us2 a;rfl
 have dG:=Ju X G O.ns;have et:=N.fn.binds (ps:=["_law_left_here","_law_row"]) λ_ _ _ _ _ _ b a=>by obtain⟨d,f,rfl⟩:=us2 a;rfl
 have dF:=Ju X G N.ns;have bS:=L.fn.binds (ps:=["_law_one","_law_other"]) λ_ _ _ _ _ _ b a=>by obtain⟨d,f,rfl⟩:=us2 a;rfl
 have ae:=Ju X G L.ns;have bz:=J.fn.binds (ps:=["_law_row"]) λ_ _ _ _ _ _ b a=>by obtain⟨d,rfl⟩:=us1 a;rfl
 have ad:=Ju X G J.ns;have bx:=I.fn.binds (ps:=["_law_row"]) λ_ _ _ _ _ _ b a=>by obtain⟨d,rfl⟩:=us1 a;rfl
 have ab:=Ju X G I.ns;have bw:=H.fn.binds (ps:=["_law_row"]) λ_ _ _ _ _ _ b a=>by obtain⟨d,rfl⟩:=us1 a;rfl
 have aa:=Ju X G H.ns;have es:=F.fn.binds (ps:=["_law_way","_law_k"]) λ_ _ _ _ _ _ b a=>by obtain⟨d,f,rfl⟩:=us2 a;rfl
 have dE:=Ju X G F.ns;have er:=E.fn.binds (ps:=["_law_left_here"]) λ_ _ _ _ _ _ b a=>by obtain⟨d,rfl⟩:=us1 a;rfl
 have dD:=Ju X G E.ns;have ep:=D.fn.binds (ps:=["_law_left_here","_law_net_here"]) λ_ _ _ _ _ _ b a=>by obtain⟨d,f,rfl⟩:=us2 a;rfl
 have dC:=Ju X G D.ns;have eo:=C.fn.binds (ps:=["_law_left_here"]) λ_ _ _ _ _ _ b a=>by obtain⟨d,rfl⟩:=us1 a;rfl
 have dB:=Ju X G C.ns;have en:=B.fn.binds (ps:=["_law_left_here","_law_net_here"]) λ_ _ _ _ _ _ b a=>by obtain⟨d,f,rfl⟩:=us2 a;rfl
 have dA:=Ju X G B.ns;have el:=A.fn.binds (ps:=["_law_net_here","_law_turns","_law_lane"]) λ_ _ _ _ _ _ b a=>by obtain⟨d,f,j,rfl⟩:=us3 a;rfl
 have dy:=Ju X G A.ns;have ek:=z.fn.binds (ps:=["_law_counts","_law_lane"]) λ_ _ _ _ _ _ b a=>by obtain⟨d,f,rfl⟩:=us2 a;rfl
 have dx:=Ju X G z.ns;have ej:=y.fn.binds (ps:=["_law_net_here","_law_counts"]) λ_ _ _ _ _ _ b a=>by obtain⟨d,f,rfl⟩:=us2 a;rfl
 have dt:=Ju X G y.ns;have ei:=x.fn.binds (ps:=["_law_net_here","_law_some_here"]) λ_ _ _ _ _ _ b a=>by obtain⟨d,f,rfl⟩:=us2 a;rfl
 have dr:=Ju X G x.ns;have eh:=u.fn.binds (ps:=["_law_left_here"]) λ_ _ _ _ _ _ b a=>by obtain⟨d,rfl⟩:=us1 a;rfl
 have dn:=Ju X G u.ns;have eg:=t.fn.binds (ps:=["_law_heights"]) λ_ _ _ _ _ _ b a=>by obtain⟨d,rfl⟩:=us1 a;rfl
 have dm:=Ju X G t.ns;have ef:=r.fn.binds (ps:=["_law_net_here","_law_some_here","_law_most"]) λ_ _ _ _ _ _ b a=>by obtain⟨d,f,j,rfl⟩:=us3 a;rfl
 have dk:=Ju X G r.ns;have ec:=q.fn.binds (ps:=["_law_thing","_law_least","_law_most"]) λ_ _ _ _ _ _ b a=>by obtain⟨d,f,j,rfl⟩:=us3 a;rfl
 have dh:=Ju X G q.ns;have eb:=o.fn.binds (ps:=["_law_net_here","_law_thing"]) λ_ _ _ _ _ _ b a=>by obtain⟨d,f,rfl⟩:=us2 a;rfl
 have dd:=Ju X G o.ns;have ea:=n.fn.binds (ps:=["_law_left_here"]) λ_ _ _ _ _ _ b a=>by obtain⟨d,rfl⟩:=us1 a;rfl
 have c9:=Ju X G n.ns;have bv:=m.fn.binds (ps:=["_law_left_here","_law_thing"]) λ_ _ _ _ _ _ b a=>by obtain⟨d,f,rfl⟩:=us2 a;rfl
 have Z:=Ju X G m.ns;have d0:=k.fn.binds (ps:=["_law_net_here","_law_some_here","_law_far","_law_thing"]) λ_ _ _ _ _ _ b a=>by obtain⟨d,f,j,u3,rfl⟩:=us4 a;rfl
 have c8:=Ju X G k.ns;obtain⟨oc,od,kV,doc,pm,an,fN,ct,fM,ed,_,_⟩:=id Y.fn.ex;refine⟨⟨kP,i,cH⟩,aP,λs v=>by rw[ed];exact .of_eq rfl,λbase _ _ bB=>?_⟩;have CK:CodeK K mg base i Pt:=⟨cH,bB Pt (.head _),c7⟩;have U1:Use l.prog w K mg base "is_whole" ["thing"] 1 (vg K) f1 d1:=⟨jK A1.fn M,b1,A1.fn.kp,m1⟩;have U2:Use l.prog w K mg base "is_below" ["thing","bound"] 2 (sH K) f2 d2:=⟨jT A2.fn M U1,b2,A2.fn.kp,m2⟩;have U3:Use l.prog w K mg base "is_row" ["thing","many"] 1 (wx K) f3 d3:=⟨jO A3.fn M,b3,A3.fn.kp,m3⟩;have U4:Use l.prog w K mg base "are_below" ["thing","many","bound"] 3 (sI K) f4 d4:=⟨qA A4.fn M U3 U2,b4,A4.fn.kp,m4⟩;have U5:Use l.prog w K mg base "are_from_nought" ["thing","many"] 2 (sE K) f5 d5:=⟨jR A5.fn M U3 U1,b5,A5.fn.kp,m5⟩;have U6:Use l.prog w K mg base "end_of" ["net","lane"] 1 kH f6 d6:=⟨fY A6.fn,b6,A6.fn.kp,m6⟩;have U7:Use l.prog w K mg base "run_through" ["net","turns","lane","back"] 2 kF f7 d7:=⟨fH A7.fn M U6,b7,A7.fn.kp,m7⟩;have U8:Use l.prog w K mg base "passed" ["net","turns","lane"] 3 (wj false) f8 d8:=⟨mK A8.fn U7,b8,A8.fn.kp,m8⟩;have U9:Use l.prog w K mg base "given_at" ["row","place","value"] 1 sD f9 d9:=⟨jQ A9.fn M,b9,A9.fn.kp,m9⟩;have fL:Use l.prog w K mg base "added" ["counts","place","many"] 2 sK aO bu:=⟨jV W.fn M U9,e1,W.fn.kp,dV⟩;have fK:Use l.prog w K mg base "first_turns" ["net"] 1 uJ aN bt:=⟨mO V.fn M,e0,V.fn.kp,dT⟩;have fF:Use l.prog w K mg base "first_place" ["net"] 2 vL aL bq:=⟨pf T.fn fK,eN,T.fn.kp,dR⟩;have fE:Use l.prog w K mg base "place_behind" ["net","place","lane"] 4 ww aK bp:=⟨mJ S.fn M U8 fL,eM,S.fn.kp,dP⟩;have fD:Use l.prog w K mg base "is_low_place" ["net","far","thing"] 4 (vk K) aJ bo:=⟨jP R.fn M U3 U4 U5,eA,R.fn.kp,dO⟩;have fG:Use l.prog w K mg base "is_book" ["thing","is_state","first","moves","led"] 6 (uI l.prog w K (tR qR) ["net","far"] (oH K) (uU qR) ["net"] wH) aM br:=⟨mN U.fn M (iq qR fD) (mh qR fE),eS,U.fn.kp,dS⟩;have fC:Use l.prog w K mg base "shows_reach" ["net","some","far","thing"] 7 (uE K qR Pt) aI bj:=⟨mH Q.fn CK fG fF,ey,Q.fn.kp,dM⟩;have fB:Use l.prog w K mg base "_law_left" ["_law_script","_law_k"] 1 (sC K) aH bh:=⟨iV P.fn M,ew,P.fn.kp,dK⟩;have g:Use l.prog w K mg base "_law_pick" ["_law_left_here","_law_many"] 1 yh aG bg:=⟨iQ O.fn,eu,O.fn.kp,dG⟩;have cx:Use l.prog w K mg base "_law_mixed" ["_law_left_here","_law_row"] 2 vh aF bf:=⟨jM N.fn M g,et,N.fn.kp,dF⟩;have fA:Use l.prog w K mg base "_law_merger" ["_law_one","_law_other"] 5 wA aE be:=⟨mL L.fn M bS ae,bS,L.fn.kp,ae⟩;have fy:Use l.prog w K mg base "_law_stairway" ["_law_row"] 10 uD aD bc:=⟨mG J.fn M fA bz ad,bz,J.fn.kp,ad⟩;have cm:Use l.prog w K mg base "_law_block" ["_law_row"] 5 wz aC ba:=⟨mP I.fn M bx ab,bx,I.fn.kp,ab⟩;have fx:Use l.prog w K mg base "_law_tree" ["_law_row"] 5 uB aB a9:=⟨mF H.fn M bw aa,bw,H.fn.kp,aa⟩;have ck:Use l.prog w K mg base "_law_made" ["_law_way","_law_k"] 11 sA aA a8:=⟨iT F.fn M cm fy fx,es,F.fn.kp,dE⟩;have fp:Use l.prog w K mg base "_law_any" ["_law_left_here"] 3 qy az a7:=⟨iW E.fn M g cx,er,E.fn.kp,dD⟩;have fo:Use l.prog w K mg base "_law_changed" ["_law_left_here","_law_net_here"] 2 kI ay a6:=⟨fZ D.fn M g,ep,D.fn.kp,dC⟩;have fm:Use l.prog w K mg base "_law_net" ["_law_left_here"] 12 qu ax a5:=⟨iS C.fn M g fp ck fo,eo,C.fn.kp,dB⟩;have fl:Use l.prog w K mg base "_law_some" ["_law_left_here","_law_net_here"] 2 tw aw a4:=⟨jL B.fn M g,en,B.fn.kp,dA⟩;have cf:Use l.prog w K mg base "_law_passed" ["_law_net_here","_law_turns","_law_lane"] 1 (wj false) av a3:=⟨fI A.fn M,el,A.fn.kp,dy⟩;have cc:Use l.prog w K mg base "_law_more" ["_law_counts","_law_lane"] 1 oU au a0:=⟨fJ z.fn,ek,z.fn.kp,dx⟩;have fk:Use l.prog w K mg base "_law_ends" ["_law_net_here","_law_counts"] 1 qw ar aZ:=⟨jN y.fn M,ej,y.fn.kp,dt⟩;have fb:Use l.prog w K mg base "_law_even" ["_law_net_here","_law_some_here"] 2 sF aq aY:=⟨jS x.fn M M2 fk,ei,x.fn.kp,dr⟩;have e9:Use l.prog w K mg base "_law_evened" ["_law_left_here"] 13 kG ap aX:=⟨fU u.fn M g fm ck cm cx,eh,u.fn.kp,dn⟩;have cb:Use l.prog w K mg base "_law_lowered" ["_law_heights"] 1 (sB false) ao aW:=⟨iU t.fn M,eg,t.fn.kp,dm⟩;have e8:Use l.prog w K mg base "_law_all_places" ["_law_net_here","_law_some_here","_law_most"] 2 sJ ak aV:=⟨jU r.fn M cf cc cb,ef,r.fn.kp,dk⟩;have b0:Use l.prog w K mg base "_law_whole" ["_law_thing","_law_least","_law_most"] 1 (oT K) aj aU:=⟨g9 q.fn M,ec,q.fn.kp,dh⟩;have e6:Use l.prog w K mg base "_law_are_turns" ["_law_net_here","_law_thing"] 2 (vz K) ai aT:=⟨mE o.fn M b0,eb,o.fn.kp,dd⟩;have e5:Use l.prog w K mg base "_law_odd" ["_law_left_here"] 2 uG ah aS:=⟨iR n.fn M g,ea,n.fn.kp,c9⟩;have e4:Use l.prog w K mg base "_law_bent" ["_law_left_here","_law_thing"] 10 vM ag aR:=⟨ph m.fn M g e5 bv Z,bv,m.fn.kp,Z⟩;have e3:Use l.prog w K mg base "_law_shows" ["_law_net_here","_law_some_here","_law_far","_law_thing"] 3 uF af aQ:=⟨mI k.fn M cf cc cb b0 e6,d0,k.fn.kp,c8⟩;exact fQ Y.fn M fB g e9 fl fb e8 e4 fC e3
theorem cV {l:PySem.W.OpenLaw}{q:Program}{loose:List Str}{v:(Str->Option Value)->Heap->Prop}{i:World->Heap->Prop}{d:DefRec}{K:Params->PySem.W.Frag}{Pt:Addr}(hn:l.most=some 63) (g:d.params.defaults=[])
  (r:∀ (w:World) (h:Heap),i w h->(K w.params).In h/\∀ p∈[Pt],h.get? p=some (PySem.W.tabObj #[]))
  (F:∀ (w:World) (mg:Str->Option Value) (e:Addr) (h:Heap),(K w.params).In h->h.Ns mainGlobals mg->mg d.name=some (.ref e)->((K w.params).lookup Pt=none/\∃ c,PySem.W.codeHdIn (K w.params) c Pt=true) /\
   ∃ fd:FuncData,(∀ (s:Shared) (u:Value),BindsTo s fd ⟨[u],[]⟩ [("_law_script",u)])/\∀ base:Heap,(K w.params).In base->base.Ns mainGlobals mg->(∀ p∈[Pt],base.BuiltinsAt mg p)->FnOk l.prog w (K w.params) mg base CX0 14 e fd ["_law_script"] (oV (K w.params) Pt)) :
  PySem.W.WalkO q loose v i l.row.toRowW d [] (λf vs=>PySem.call f vs) :=
 L2.lZ (n:=63) (k:=14) (x:="_law_script") (CX:=CX0) (sp:=λK=>oV K Pt) [Pt] hn (by decide) g ⟨rfl,by decide,by decide,rfl⟩ r (λw mg e h a b c=>⟨λp m=>Jd.mp m ▸ (F w mg e h a b c).1,(F w mg e h a b c).2⟩) (λ_ _ a ns o t j=>⟨a,ns,rfl,t,o,j Pt (.head _),λ_=>rfl⟩) λ_ _ _ _ z=>z
end K46
theorem PySem.W.Fast.tw371894761802891962:True:=trivial
theorem PySem.W.Fast.tw16113353034130119178:True:=trivial
theorem PySem.W.Fast.tw9878673751114819231:True:=trivial
theorem PySem.W.Fast.tw3928143337345697648:True:=trivial
theorem PySem.W.Fast.tw13262077854459391674:True:=trivial
theorem PySem.W.Fast.tw6202385481638868296:True:=trivial
theorem PySem.W.Fast.tw17668476390333758909:True:=trivial
theorem PySem.W.Fast.tw3671393515818676202:True:=trivial
theorem PySem.W.Fast.tw3502332521790518517:True:=trivial
theorem PySem.W.Fast.tw290911207810044816:True:=trivial
theorem PySem.W.Fast.tw230076570184663459:True:=trivial
theorem PySem.W.Fast.tw1695851037278163171:True:=trivial
theorem PySem.W.Fast.tw4122822366221297658:True:=trivial
theorem PySem.W.Fast.tw191553868506648123:True:=trivial
theorem PySem.W.Fast.tw13844672365524674007:True:=trivial
theorem PySem.W.Fast.tw3998035642465217019:True:=trivial
theorem PySem.W.Fast.tw18276175185690991506:True:=trivial
theorem PySem.W.Fast.tw17594454275014752847:True:=trivial
theorem PySem.W.Fast.tw13399309082091237559:True:=trivial
theorem PySem.W.Fast.tw16724374256437024391:True:=trivial
theorem PySem.W.Fast.tw10319665823273386934:True:=trivial
theorem PySem.W.Fast.tw1151218017000510190:True:=trivial
theorem PySem.W.Fast.tw7564505000684922683:True:=trivial
theorem PySem.W.Fast.tw11980606494765976931:True:=trivial
theorem PySem.W.Fast.tw4317829889933452500:True:=trivial
theorem PySem.W.Fast.tw5744164620280250346:True:=trivial
theorem PySem.W.Fast.tw12957996812702810264:True:=trivial
theorem PySem.W.Fast.tw14723116384655382265:True:=trivial
theorem PySem.W.Fast.tw16300699715780971657:True:=trivial
theorem PySem.W.Fast.tw3409228191794904609:True:=trivial
theorem PySem.W.Fast.tw4578778398643650654:True:=trivial
theorem PySem.W.Fast.tw6043994331675609671:True:=trivial
theorem PySem.W.Fast.tw17071544628929634:True:=trivial
theorem PySem.W.Fast.tw5182169290338090593:True:=trivial
theorem PySem.W.Fast.tw17192839492097233623:True:=trivial
theorem PySem.W.Fast.tw16622243580098843716:True:=trivial
theorem PySem.W.Fast.tw2964510722097868579:True:=trivial
theorem PySem.W.Fast.tw9258635559241344389:True:=trivial
theorem PySem.W.Fast.tw4952234771422450600:True:=trivial
theorem PySem.W.Fast.tw4355867147419888215:True:=trivial
theorem PySem.W.Fast.tw10299655011658475567:True:=trivial
theorem PySem.W.Fast.tw6332520374201083150:True:=trivial
theorem PySem.W.Fast.tw12084131593813791867:True:=trivial
theorem PySem.W.Fast.tw15854752234239033039:True:=trivial
theorem PySem.W.Fast.tw17993591861397587149:True:=trivial
theorem PySem.W.Fast.tw3858295685473370430:True:=trivial
theorem PySem.W.Fast.tw886743824836939684:True:=trivial
open PySem PySem.W PyProof.Rows
set_option maxRecDepth 100000 in
set_option maxHeartbeats 0 in
theorem PySem.Challenge.cw_stairlanes_k46_places_spoilt_holds : PySem.Challenge.rw_stairlanes_k46_places_spoilt.Holds := by
 w_on;o_law;k_head;(case hw=>w_witness2)
 k_fill
 refine K46.cV (l:=PySem.Challenge.rw_stairlanes_k46_places_spoilt) rfl rfl (fun w h Y=>⟨PySem.W.km_in_of Y,PySem.W.km_tabs_of Y⟩) ?F
 case F =>
  intro w mg fa h KX G hmg
  refine' K46.eR KX G hmg (K46.yD ?a1 ?l1 ?c1 ?k1) (K46.yD ?a2 ?l2 ?c2 ?k2) (K46.yD ?a3 ?l3 ?c3 ?k3) (K46.yD ?a4 ?l4 ?c4 ?k4) (K46.yD ?a5 ?l5 ?c5 ?k5) (K46.yD ?a6 ?l6 ?c6 ?k6) (K46.yD ?a7 ?l7 ?c7 ?k7) (K46.yD ?a8 ?l8 ?c8 ?k8) (K46.yD ?a9 ?l9 ?c9 ?k9) (K46.yD ?a10 ?l10 ?c10 ?k10) (K46.yD ?a11 ?l11 ?c11 ?k11) (K46.yD ?a12 ?l12 ?c12 ?k12) (K46.yD ?a13 ?l13 ?c13 ?k13) (K46.yD ?a14 ?l14 ?c14 ?k14) (K46.yD ?a15 ?l15 ?c15 ?k15) (K46.eH ?a16 ?l16 ?c16 ?k16) (K46.yD ?a17 ?l17 ?c17 ?k17) (K46.yD ?a18 ?l18 ?c18 ?k18) (K46.yD ?a19 ?l19 ?c19 ?k19) (K46.yD ?a20 ?l20 ?c20 ?k20) (K46.yD ?a21 ?l21 ?c21 ?k21) (K46.yD ?a22 ?l22 ?c22 ?k22) (K46.yD ?a23 ?l23 ?c23 ?k23) (K46.yD ?a24 ?l24 ?c24 ?k24) (K46.yD ?a25 ?l25 ?c25 ?k25) (K46.yD ?a26 ?l26 ?c26 ?k26) (K46.yD ?a27 ?l27 ?c27 ?k27) (K46.yD ?a28 ?l28 ?c28 ?k28) (K46.yD ?a29 ?l29 ?c29 ?k29) (K46.yD ?a30 ?l30 ?c30 ?k30) (K46.yD ?a31 ?l31 ?c31 ?k31) (K46.yD ?a32 ?l32 ?c32 ?k32) (K46.yD ?a33 ?l33 ?c33 ?k33) (K46.yD ?a34 ?l34 ?c34 ?k34) (K46.yD ?a35 ?l35 ?c35 ?k35) (K46.yD ?a36 ?l36 ?c36 ?k36) (K46.yD ?a37 ?l37 ?c37 ?k37) (K46.yD ?a38 ?l38 ?c38 ?k38) (K46.yD ?a39 ?l39 ?c39 ?k39) (K46.yD ?a40 ?l40 ?c40 ?k40) (K46.yD ?a41 ?l41 ?c41 ?k41) ?z1 ?z2 ?z3 ?z4 ?z5 ?z6 ?z7 ?z8 ?z9 ?z10 ?z11 ?z12 ?z13 ?z14 ?z15 ?z16 ?z17 (K46.lJ ?lH2 ?eH2) ?nB4 ?kP
  (case a1=>k_is);(case l1=>k_is);(case c1=>k_is);(case k1=>k_is)
  (case a2=>k_is);(case l2=>k_is);(case c2=>k_is);(case k2=>k_is)
  (case a3=>k_is);(case l3=>k_is);(case c3=>k_is);(case k3=>k_is)
  (case a4=>k_is);(case l4=>k_is);(case c4=>k_is);(case k4=>k_is)
  (case a5=>k_is);(case l5=>k_is);(case c5=>k_is);(case k5=>k_is)
  (case a6=>k_is);(case l6=>k_is);(case c6=>k_is);(case k6=>k_is)
  (case a7=>k_is);(case l7=>k_is);(case c7=>k_is);(case k7=>k_is)
  (case a8=>k_is);(case l8=>k_is);(case c8=>k_is);(case k8=>k_is)
  (case a9=>k_is);(case l9=>k_is);(case c9=>k_is);(case k9=>k_is)
  (case a10=>k_is);(case l10=>k_is);(case c10=>k_is);(case k10=>k_is)
  (case a11=>k_is);(case l11=>k_is);(case c11=>k_is);(case k11=>k_is)
  (case a12=>k_is);(case l12=>k_is);(case c12=>k_is);(case k12=>k_is)
  (case a13=>k_is);(case l13=>k_is);(case c13=>k_is);(case k13=>k_is)
  (case a14=>k_is);(case l14=>k_is);(case c14=>k_is);(case k14=>k_is)
  (case a15=>k_is);(case l15=>k_is);(case c15=>k_is);(case k15=>k_is)
  (case a16=>k_is);(case l16=>k_is);(case c16=>k_is);(case k16=>k_is)
  (case a17=>k_is);(case l17=>k_is);(case c17=>k_is);(case k17=>k_is)
  (case a18=>k_is);(case l18=>k_is);(case c18=>k_is);(case k18=>k_is)
  (case a19=>k_is);(case l19=>k_is);(case c19=>k_is);(case k19=>k_is)
  (case a20=>k_is);(case l20=>k_is);(case c20=>k_is);(case k20=>k_is)
  (case a21=>k_is);(case l21=>k_is);(case c21=>k_is);(case k21=>k_is)
  (case a22=>k_is);(case l22=>k_is);(case c22=>k_is);(case k22=>k_is)
  (case a23=>k_is);(case l23=>k_is);(case c23=>k_is);(case k23=>k_is)
  (case a24=>k_is);(case l24=>k_is);(case c24=>k_is);(case k24=>k_is)
  (case a25=>k_is);(case l25=>k_is);(case c25=>k_is);(case k25=>k_is)
  (case a26=>k_is);(case l26=>k_is);(case c26=>k_is);(case k26=>k_is)
  (case a27=>k_is);(case l27=>k_is);(case c27=>k_is);(case k27=>k_is)
  (case a28=>k_is);(case l28=>k_is);(case c28=>k_is);(case k28=>k_is)
  (case a29=>k_is);(case l29=>k_is);(case c29=>k_is);(case k29=>k_is)
  (case a30=>k_is);(case l30=>k_is);(case c30=>k_is);(case k30=>k_is)
  (case a31=>k_is);(case l31=>k_is);(case c31=>k_is);(case k31=>k_is)
  (case a32=>k_is);(case l32=>k_is);(case c32=>k_is);(case k32=>k_is)
  (case a33=>k_is);(case l33=>k_is);(case c33=>k_is);(case k33=>k_is)
  (case a34=>k_is);(case l34=>k_is);(case c34=>k_is);(case k34=>k_is)
  (case a35=>k_is);(case l35=>k_is);(case c35=>k_is);(case k35=>k_is)
  (case a36=>k_is);(case l36=>k_is);(case c36=>k_is);(case k36=>k_is)
  (case a37=>k_is);(case l37=>k_is);(case c37=>k_is);(case k37=>k_is)
  (case a38=>k_is);(case l38=>k_is);(case c38=>k_is);(case k38=>k_is)
  (case a39=>k_is);(case l39=>k_is);(case c39=>k_is);(case k39=>k_is)
  (case a40=>k_is);(case l40=>k_is);(case c40=>k_is);(case k40=>k_is)
  (case a41=>k_is);(case l41=>k_is);(case c41=>k_is);(case k41=>k_is)
  (case z1=>k_is)
  (case z2=>k_is)
  (case z3=>k_is)
  (case z4=>k_is)
  (case z5=>k_is)
  (case z6=>k_is)
  (case z7=>k_is)
  (case z8=>k_is)
  (case z9=>k_is)
  (case z10=>k_is)
  (case z11=>k_is)
  (case z12=>k_is)
  (case z13=>k_is)
  (case z14=>k_is)
  (case z15=>k_is)
  (case z16=>k_is)
  (case z17=>k_is)
  (case lH2=>k_is);(case eH2=>rfl);(case nB4=>decide);(case kP=>rfl)
