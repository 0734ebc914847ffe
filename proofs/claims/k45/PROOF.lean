import PyProof.Rows.All
import Wide.All
import OpenK.AllK
import Wide.FinOn
import Lean
import PyProof.EqAt
import PyProof.EqKinds
import PyProof.TupleCall
import PyProof.NeKinds
import KE.KIntText
import PyProof.TupleOfStr
import PyProof.ReprRoads
import PyProof.NeData
import PyProof.DictKinds
import PyProof.AttrMiss
import PyProof.IsiH_list
import KE.KDictOf
import KE.KSortTup
import KE.KItemsList
import KE.KDictSum
import PyProof.DictWalks
import PyProof.DictItems
import KE.KDictList
import KE.KEqDict
import KE.KPairComp
import PyProof.DictTruth
import PyProof.MeetsDict
import KE.KLam
import KE.KNestM
import PyProof.Defs
import PyProof.P3In
import PyProof.Rows.SortRev
import PyProof.Rows.Range3
import PyProof.AutoIntG2
import PyProof.StrBlockL
import PyProof.StrLawsTight
import PyProof.StrWalks
import PyProof.SliceStr2
import PyProof.StrLawsIdx
import PyProof.Rows.ReprOcc
import PyProof.Rows.StrBin
import PyProof.CollectIter
import PyProof.Rows.FStr
import PyProof.Rows.SetFrom
import PyProof.DictCompW
import PyProof.EvalArms
import PySem.Challenge.RW_stairlanes_k45_places_taken
set_option Elab.async false
set_option linter.all false
set_option maxRecDepth 100000
namespace L2
open PySem PySem.Spec PyProof.Rows
abbrev Key:=Sum Int Str
def uN:Key→Value→Bool
  | .inl k,v=>Value.isInt k v
  | .inr x,v=>Value.isStrOf x v
def cE (w:World):Key→Int
  | .inl k=>hashInt k
  | .inr x=>hashStr w x
theorem yH:∀ {k:Key}{v:Value},uN k v=true→(∃ i t,k=Sum.inl i∧v=Value.int i t)∨(∃ x t,k=Sum.inr x∧v=Value.str x t)
  | .inl i,v,h=>by
    obtain⟨t,e⟩:=Value.isInt_shape (k:=i) (v:=v) h
    exact .inl ⟨i,t,rfl,e⟩
  | .inr x,v,h=>by
    obtain⟨t,e⟩:=Value.isStrOf_shape (x:=x) (v:=v) h
    exact .inr ⟨x,t,rfl,e⟩
theorem mL (i:Int) (t:Tok):uN (.inl i) (.int i t)=true:=by simp[uN,Value.isInt]
theorem mK (x:Str) (t:Tok):uN (.inr x) (.str x t)=true:=by simp[uN,Value.isStrOf]
theorem ge (a b:Int):decide ((Sum.inl a:Key)=Sum.inl b)=(a == b):=by
  by_cases e:a=b
  · subst e;simp
  · have h:¬(Sum.inl a:Key)=Sum.inl b:=fun q=>e (Sum.inl.inj q)
    rw[decide_eq_false h]
    exact(beq_eq_false_iff_ne.mpr e).symm
theorem gZ (a b:Str):decide ((Sum.inr a:Key)=Sum.inr b)=decide (a=b):=by
  by_cases e:a=b
  · subst e;simp
  · have h:¬(Sum.inr a:Key)=Sum.inr b:=fun q=>e (Sum.inr.inj q)
    rw[decide_eq_false h,decide_eq_false e]
theorem gc (a:Int) (b:Str):decide ((Sum.inl a:Key)=Sum.inr b)=false:=decide_eq_false (fun q=>nomatch q)
theorem ga (a:Str) (b:Int):decide ((Sum.inr a:Key)=Sum.inl b)=false:=decide_eq_false (fun q=>nomatch q)
def yS (prog:Program) (w:World):PySem.KeyKind prog w Key where
  is:=uN
  hash:=cE w
  inj:=fun v a b ha hb=>by
    rcases yH ha with ⟨i,t,rfl,rfl⟩|⟨x,t,rfl,rfl⟩
    · rcases yH hb with ⟨j,u,rfl,e⟩|⟨y,u,rfl,e⟩
      · injection e with e1 _;rw[e1]
      · exact nomatch e
    · rcases yH hb with ⟨j,u,rfl,e⟩|⟨y,u,rfl,e⟩
      · exact nomatch e
      · injection e with e1 _;rw[e1]
  byValue:=fun k v h=>by
    rcases yH h with ⟨i,t,rfl,rfl⟩|⟨x,t,rfl,rfl⟩<;>rfl
  pyHash:=fun hv h=>by
    rcases yH hv with ⟨i,t,rfl,rfl⟩|⟨x,t,rfl,rfl⟩
    · exact wpAny_pyHash_int h
    · exact wpAny_pyHash_str h
  eqBool:=fun hu hv h=>by
    rcases yH hu with ⟨i,t,rfl,rfl⟩|⟨x,t,rfl,rfl⟩
    · rcases yH hv with ⟨j,u,rfl,rfl⟩|⟨y,u,rfl,rfl⟩
      · rw[ge]at h;exact wpAny_eqBool_int h
      · rw[gc]at h;exact SeqAt.EqAt.int_str i t y u _ _ _ _ h
    · rcases yH hv with ⟨j,u,rfl,rfl⟩|⟨y,u,rfl,rfl⟩
      · rw[ga]at h;exact SeqAt.EqAt.str_int x t j u _ _ _ _ h
      · rw[gZ]at h;exact wpAny_eqBool_str h
  «strs»:=fun k x t v h=>by
    rcases yH h with ⟨i,u,rfl,e⟩|⟨y,u,rfl,e⟩
    · exact nomatch e
    · injection e with e1 _
      subst e1
      cases v<;>rfl
theorem pJ (prog:Program) (w:World) (k:Key) (v:Value):(yS prog w).is k v=uN k v:=rfl
theorem re (prog:Program) (w:World) (i:Int) (t:Tok):(yS prog w).is (.inl i) (.int i t)=true:=mL i t
theorem rc (prog:Program) (w:World) (x:Str) (t:Tok):(yS prog w).is (.inr x) (.str x t)=true:=mK x t
inductive V where
  | non|bl (b:Bool)|int (i:Int)|str (x:Str)|byt (b:Array UInt8)|flt (b:UInt64)|ref (a:Addr)|ty (n:String)
  deriving DecidableEq
def RelV:V→Value→Prop
  | .non,u=>u=Value.none
  | .bl b,u=>u=Value.bool b
  | .int i,u=>∃ t,u=Value.int i t
  | .str x,u=>∃ t,u=Value.str x t
  | .byt b,u=>∃ t,u=Value.bytes b t
  | .flt b,u=>∃ t,u=Value.float b t
  | .ref a,u=>u=Value.ref a
  | .ty n,u=>u=Value.type n
abbrev Vals:List V→List Value→Prop:=Paired RelV
theorem Vals.length {xs:List V}{us:List Value}(r:Vals xs us):xs.length=us.length:=Paired.length r
theorem Vals.get:∀ {xs:List V}{us:List Value}{i:Nat}{x:V},Vals xs us→xs[i]?=some x→∃ u,us[i]?=some u∧RelV x u
  | _,_,_,_,.nil,e=>by simp at e
  | _,_,0,_,.cons r _,e=>by simp at e;subst e;exact⟨_,rfl,r⟩
  | _,_,i+1,x,.cons _ t,e=>by
    obtain⟨u,h1,h2⟩:=Vals.get (i:=i) (x:=x) t (by simpa using e)
    exact⟨u,by simpa using h1,h2⟩
theorem Vals.set {x:V}{u:Value}(r:RelV x u):∀ {xs:List V}{us:List Value}(i:Nat),Vals xs us→Vals (xs.set i x) (us.set i u)
  | _,_,_,.nil=>.nil
  | _,_,0,.cons _ t=>.cons r t
  | _,_,i+1,.cons q t=>.cons q (Vals.set r i t)
theorem Vals.append:∀ {xs ys:List V}{us ws:List Value},Vals xs us→Vals ys ws→Vals (xs++ys) (us++ws)
  | _,_,_,_,.nil,s=>s
  | _,_,_,_,.cons r t,s=>.cons r (Vals.append t s)
theorem Vals.take:∀ {xs:List V}{us:List Value}(n:Nat),Vals xs us→Vals (xs.take n) (us.take n)
  | _,_,0,_=>.nil
  | _,_,_+1,.nil=>.nil
  | _,_,n+1,.cons r t=>.cons r (Vals.take n t)
theorem Vals.drop:∀ {xs:List V}{us:List Value}(n:Nat),Vals xs us→Vals (xs.drop n) (us.drop n)
  | _,_,0,r=>r
  | _,_,_+1,.nil=>.nil
  | _,_,n+1,.cons _ t=>Vals.drop n t
def RelO:Option V→Option Value→Prop
  | some v,some u=>RelV v u
  | none,none=>True
  | _,_=>False
def KV {κ:Type}:List (κ × V)→List (κ × Value)→Prop:=Paired fun (p:κ × V) (q:κ × Value)=>p.1=q.1∧RelV p.2 q.2
def kV:Key→V
  | .inl i=>.int i
  | .inr x=>.str x
inductive HO where
  | lst (xs:List V)
  | tup (xs:List V)
  | dK (kvs:List (Key × V))|dT (kvs:List (List Key × V))
  | set (S:Int→Bool) (n:Nat)
  | ins (C dx:Addr) (fs:List (Str × V))
  | own (x:Addr)
  | xd (fs:List (Str × V))
  | met (f x:Addr)
  | rng (lo hi:Int)
  | frz (o:Obj) (u:HO)
  | tbl (ps:Array Value)
  | ext (φ:Heap→Prop)
abbrev Hp:=Addr→Option HO
def upd (H:Hp) (a:Addr) (o:HO):Hp:=fun b=>if b=a then some o else H b
theorem zD {H:Hp}{a:Addr}{o:HO}:upd H a o a=some o:=by unfold upd;rw[if_pos rfl]
theorem zH {H:Hp}{a b:Addr}{o:HO}(h:b≠a):upd H a o b=H b:=by unfold upd;rw[if_neg h]
theorem yr {H:Hp}{a b:Addr}{o u:HO}(h:H a=some o) (h':H b=some u) (d:o≠u):a≠b:=by
  intro e;subst e;rw[h]at h';exact d (Option.some.inj h')
theorem zG {H:Hp}{a b:Addr}{o:HO}(h:H a=some o) (h':H b=none):a≠b:=by
  intro e;subst e;rw[h]at h';cases h'
def TupX (h:Heap) (a:Addr) (items:Array Value):Prop:=∃ o,h.get? a=some o∧o.cls=.type "tuple"∧∃ n,o.data=.seq items n∧o.dict=none
theorem TupX.tup {h:Heap}{a:Addr}{items:Array Value}(x:TupX h a items):IsTup h a items:=let ⟨o,e,c,n,d,_⟩:=x;⟨o,e,c,n,d⟩
theorem TupX.new (h:Heap) (items:Array Value):TupX (h.push { cls:=.type "tuple",data:=.seq items }) h.objs.size items:=⟨_,Heap.get?_push_size _ rfl,rfl,0,rfl,rfl⟩
section
variable (P:Program) (w:World)
def ObjOk (H:Hp) (h:Heap) (a:Addr):HO→Prop
  | .lst xs=>xs.length≤sizeLine∧∃ (its:List Value) (n:Nat),Vals xs its∧h.get? a=some { cls:=.type "list",data:=.seq its.toArray n }
  | .tup xs=>xs.length≤sizeLine∧∃ its:List Value,Vals xs its∧TupX h a its.toArray
  | .dK kvs=>kvs.length≤sizeLine∧(a == sysModules)=false∧∃ vs,KV kvs vs∧h.DictOf (yS P w) a vs
  | .dT kvs=>kvs.length≤sizeLine∧(a == sysModules)=false∧∃ xs:List (List Key × Addr × Value),
      Paired (fun (p:List Key × V) (q:List Key × Addr × Value)=>p.1=q.1∧H q.2.1=some (.tup (p.1.map kV))∧RelV p.2 q.2.2) kvs xs ∧
      ∃ o es ep,h.get? a=some o∧o.ExactDict∧o.data=.dict es ep∧es.toList=xs.map (entryOfKey (tupleKind (yS P w)))∧(xs.map (·.1)).Nodup
  | .set S n=>h.SetOf (intKind P w) a S n
  | .ins C dx fs=>H dx=some (.own a)∧fs.length≤1000∧dx≠a∧h.get? a=some (PySem.W.instObj C dx) ∧
      ∃ mA,h.Ns1 dx mA∧(∀ f,RelO (fs.lookup f) (mA f))∧PySem.Within mA (fs.map (·.1))
  | .own _=>∃ o,h.get? a=some o
  | .xd fs=>∃ mA,h.Ns1 a mA∧∀ f,RelO (fs.lookup f) (mA f)
  | .rng lo hi=>∃ t u v,h.get? a=some { cls:=.type "range",data:=.fields #[.int lo t,.int hi u,.int 1 v] }
  | .frz o u=>h.get? a=some o∧ObjOk H h a u
  | .tbl ps=>h.get? a=some { cls:=.none,data:=.fields ps }
  | .met f x=>h.get? a=some (PySem.W.methodObj (.ref f) (.ref x))
  | .ext φ=>φ h∧(∃ o,h.get? a=some o)∧∀ h1 h2:Heap,φ h1→(∀ o,h1.get? a=some o→h2.get? a=some o)→φ h2
def HOk (H:Hp) (h:Heap):Prop:=∀ a o,H a=some o→ObjOk P w H h a o
end
section
variable {P:Program}{w:World}{H H':Hp}{h h':Heap}{a:Addr}{o:HO}
theorem ObjOk.lt (x:ObjOk P w H h a o):a<h.objs.size:=by
  cases o with
  | lst xs=>obtain⟨_,_,_,_,e⟩:=x;exact Heap.lt_size e
  | tup xs=>obtain⟨_,_,_,p⟩:=x;exact p.tup.lt
  | dK kvs=>obtain⟨_,_,_,_,o,_,_,e,_⟩:=x;exact Heap.lt_size e
  | dT kvs=>obtain⟨_,_,_,_,o,_,_,e,_⟩:=x;exact Heap.lt_size e
  | set S n=>obtain⟨o,_,_,_,e,_⟩:=x;exact Heap.lt_size e
  | ins C dx fs=>obtain⟨_,_,_,e,_⟩:=x;exact Heap.lt_size e
  | own y=>obtain⟨_,e⟩:=x;exact Heap.lt_size e
  | xd fs=>obtain⟨_,⟨_,_,_,e,_⟩,_⟩:=x;exact Heap.lt_size e
  | rng lo hi=>obtain⟨_,_,_,e⟩:=x;exact Heap.lt_size e
  | frz ob u=>obtain⟨e,_⟩:=x;exact Heap.lt_size e
  | tbl ps=>exact Heap.lt_size (show h.get? a=some _ from x)
  | met f y=>exact Heap.lt_size (show h.get? a=some _ from x)
  | ext φ=>obtain⟨_,⟨_,e⟩,_⟩:=x;exact Heap.lt_size e
theorem Paired.mapP {α β:Type}{F G:α→β→Prop}:∀ {l₁:List α}{l₂:List β},Paired F l₁ l₂→(∀ a b,F a b→G a b)→Paired G l₁ l₂
  | _,_,.nil,_=>.nil
  | _,_,.cons r t,f=>.cons (f _ _ r) (Paired.mapP t f)
theorem ObjOk.stay (x:ObjOk P w H h a o) (k:∀ b u,(b=a∨H b=some (.own a))→h.get? b=some u→h'.get? b=some u)
    (ho:∀ b,H b=some (.own a)→H' b=some (.own a)) (ht:∀ b xs,H b=some (.tup xs)→H' b=some (.tup xs)):ObjOk P w H' h' a o:=by
  induction o with
  | lst xs=>obtain⟨z,its,n,r,e⟩:=x;exact⟨z,its,n,r,k _ _ (.inl rfl) e⟩
  | tup xs=>obtain⟨z,its,r,ob,e,c⟩:=x;exact⟨z,its,r,ob,k _ _ (.inl rfl) e,c⟩
  | dK kvs=>obtain⟨z,y,vs,r,ob,es,ep,e,c⟩:=x;exact⟨z,y,vs,r,ob,es,ep,k _ _ (.inl rfl) e,c⟩
  | dT kvs =>
    obtain⟨z,y,xs,r,ob,es,ep,e,c⟩:=x
    exact⟨z,y,xs,Paired.mapP r fun p q z=>⟨z.1,ht _ _ z.2.1,z.2.2⟩,ob,es,ep,k _ _ (.inl rfl) e,c⟩
  | set S n=>obtain⟨ob,es,ep,t,e,c⟩:=x;exact⟨ob,es,ep,t,k _ _ (.inl rfl) e,c⟩
  | ins C dx fs =>
    obtain⟨d,z,ne,e,mA,⟨od,es,ep,e2,c⟩,r⟩:=x
    exact⟨ho _ d,z,ne,k _ _ (.inl rfl) e,mA,⟨od,es,ep,k _ _ (.inr d) e2,c⟩,r⟩
  | own y=>obtain⟨ob,e⟩:=x;exact⟨ob,k _ _ (.inl rfl) e⟩
  | xd fs=>obtain⟨mA,⟨od,es,ep,e,c⟩,r⟩:=x;exact⟨mA,⟨od,es,ep,k _ _ (.inl rfl) e,c⟩,r⟩
  | rng lo hi=>obtain⟨t,u,v,e⟩:=x;exact⟨t,u,v,k _ _ (.inl rfl) e⟩
  | frz ob u ih=>obtain⟨e,q⟩:=x;exact⟨k _ _ (.inl rfl) e,ih q⟩
  | tbl ps =>
    have e:h.get? a=some { cls:=.none,data:=.fields ps }:=x
    show h'.get? a=some { cls:=.none,data:=.fields ps }
    exact k a _ (.inl rfl) e
  | met f y =>
    have e:h.get? a=some (PySem.W.methodObj (.ref f) (.ref y)):=x
    show h'.get? a=some (PySem.W.methodObj (.ref f) (.ref y))
    exact k a _ (.inl rfl) e
  | ext φ=>obtain⟨p,⟨o,e⟩,st⟩:=x;exact⟨st _ _ p fun o q=>k _ _ (.inl rfl) q,⟨o,k _ _ (.inl rfl) e⟩,st⟩
theorem HOk.lt (x:HOk P w H h) (e:H a=some o):a<h.objs.size:=(x a o e).lt
theorem HOk.fresh (x:HOk P w H h) (e:h.objs.size≤a):H a=none:=by
  cases q:H a with
  | none=>rfl
  | some u=>exact absurd (Nat.lt_of_lt_of_le (x.lt q) e) (Nat.lt_irrefl _)
theorem HOk.kept (x:HOk P w H h) (k:∀ b u,h.get? b=some u→h'.get? b=some u):HOk P w H h':=fun a o e =>
  (x a o e).stay (fun b u _ q=>k b u q) (fun _ q=>q) fun _ _ q=>q
theorem HOk.laid (x:HOk P w H h) (k:∀ b u,h.get? b=some u→h'.get? b=some u) (hp:h.objs.size≤a) (new:ObjOk P w (upd H a o) h' a o):HOk P w (upd H a o) h':=fun b u e=>by
  have hn:=x.fresh hp
  by_cases hb:b=a
  · subst hb;rw[zD]at e;cases e;exact new
  · rw[zH hb]at e
    exact(x b u e).stay (fun c v _ q=>k c v q) (fun c q=>by rw[zH (zG q hn)];exact q) fun c xs q=>by rw[zH (zG q hn)];exact q
end
def Rd (H:Hp) (a:Addr) (u:HO):Prop:=H a=some u∨∃ o,H a=some (.frz o u)
theorem Rd.ok {P:Program}{w:World}{H:Hp}{h:Heap}{a:Addr}{u:HO}(r:Rd H a u) (x:HOk P w H h):ObjOk P w H h a u:=by
  rcases r with r|⟨o,r⟩
  · exact x a u r
  · obtain⟨_,q⟩:=x a _ r
    exact q
def Mut:Option HO→Prop
  | some (.lst _)=>True
  | some (.dK _)=>True
  | some (.dT _)=>True
  | some (.set _ _)=>True
  | some (.ins _ _ _)=>True
  | some (.ext _)=>True
  | _=>False
section
variable {P:Program}{w:World}{H:Hp}{h h':Heap}{x e:Addr}{o':HO}
theorem HOk.write (ok:HOk P w H h) (mu:Mut (H x)) (he:e=x∨H e=some (.own x)) (k:∀ b u,b≠e→h.get? b=some u→h'.get? b=some u) (heo:∃ u,h'.get? e=some u)
    (new:ObjOk P w (upd H x o') h' x o'):HOk P w (upd H x o') h':=fun b u q=>by
  have nown:∀ c y,H c=some (.own y)→c≠x:=fun c y r z=>by subst z;rw[r]at mu;exact mu
  have ntup:∀ c xs,H c=some (.tup xs)→c≠x:=fun c xs r z=>by subst z;rw[r]at mu;exact mu
  by_cases hb:b=x
  · subst hb;rw[zD]at q;cases q;exact new
  · rw[zH hb]at q
    by_cases hbe:b=e
    · have q':H b=some (.own x):=by
        rcases he with z|z
        · exact absurd (hbe.trans z) hb
        · rw[hbe];exact z
      rw[q]at q';cases q'
      obtain⟨v,hv⟩:=heo
      exact⟨v,by rw[hbe];exact hv⟩
    · refine(ok b u q).stay (fun c v hc r=>k c v ?_ r) (fun c r=>by rw[zH (nown c b r)];exact r) fun c xs r=>by rw[zH (ntup c xs r)];exact r
      rcases hc with rfl|hc
      · exact hbe
      · rintro rfl
        rcases he with z|z
        · exact nown c b hc z
        · rw[hc]at z;cases z;exact hb rfl
end
structure Un (fs ex:List Addr) (H H':Hp) (h h':Heap):Prop where
  keep:∀ b o,h.get? b=some o→H b=none→b∉fs→b∉ex→h'.get? b=some o
  slot:∀ b o,h.get? b=some o→H b=none→b∈fs→b∉ex→∃ sl,h'.get? b=some { o with slots:=sl }
  free:∀ b o,h.get? b=some o→H b=none→b∉ex→H' b=none
  there:∀ b o,h.get? b=some o→b∉ex→∃ o',h'.get? b=some o'
  tups:∀ b xs,H b=some (.tup xs)→H' b=some (.tup xs)
  frzs:∀ b o u,H b=some (.frz o u)→H' b=some (.frz o u)
  tbls:∀ b ps,H b=some (.tbl ps)→∃ more,H' b=some (.tbl (ps++more))
section
variable {fs fs' ex ex':List Addr}{H H1 H2:Hp}{h h1 h2 h':Heap}{a x e:Addr}{o:HO}
theorem Un.any (u:Un fs ex H H1 h h1) {b:Addr}{ob:Obj}(q:h.get? b=some ob) (n:H b=none) (hx:b∉ex):∃ sl,h1.get? b=some { ob with slots:=sl }:=by
  by_cases hb:b∈fs
  · exact u.slot b ob q n hb hx
  · exact⟨ob.slots,u.keep b ob q n hb hx⟩
theorem Un.kept (k:∀ b u,h.get? b=some u→h'.get? b=some u):Un fs ex H H h h' :=
  ⟨fun b ob q _ _ _=>k b ob q,fun b ob q _ _ _=>⟨ob.slots,k b ob q⟩,fun _ _ _ n _=>n,fun b ob q _=>⟨ob,k b ob q⟩,fun _ _ q=>q,fun _ _ _ q=>q,fun _ ps q=>⟨#[],by rw[q];simp⟩⟩
theorem Un.refl:Un fs ex H H h h:=Un.kept fun _ _ q=>q
theorem Un.laid (k:∀ b u,h.get? b=some u→h'.get? b=some u) (hp:h.objs.size≤a) (hn:H a=none):Un fs ex H (upd H a o) h h' where
  keep:=fun b u q _ _ _=>k b u q
  slot:=fun b u q _ _ _=>⟨u.slots,k b u q⟩
  free:=fun b u q n _=>by rw[zH (Nat.ne_of_lt (Nat.lt_of_lt_of_le (Heap.lt_size q) hp))];exact n
  there:=fun b u q _=>⟨u,k b u q⟩
  tups:=fun b xs q=>by rw[zH (zG q hn)];exact q
  frzs:=fun b u xs q=>by rw[zH (zG q hn)];exact q
  tbls:=fun b ps q=>⟨#[],by rw[zH (zG q hn),q];simp⟩
theorem Un.write (mu:Mut (H x)) (he:e=x∨H e=some (.own x)) (k:∀ b u,b≠e→h.get? b=some u→h'.get? b=some u) (heo:∃ u,h'.get? e=some u):Un fs ex H (upd H x o) h h':=by
  have hx:∀ b,H b=none→b≠x:=fun b n z=>by subst z;rw[n]at mu;exact mu
  have hb:∀ b,H b=none→b≠e:=fun b n z=>by
    subst z
    rcases he with r|r
    · exact hx b n r
    · rw[n]at r;cases r
  have hm:∀ b u,H b=some u→¬ Mut (some u)→b≠x:=fun b u q nm z=>by subst z;rw[q]at mu;exact nm mu
  refine⟨fun b u q n _ _=>k b u (hb b n) q,fun b u q n _ _=>⟨u.slots,k b u (hb b n) q⟩,fun b u q n _=>by rw[zH (hx b n)];exact n,fun b u q _=>?_,
    fun b xs q=>by rw[zH (hm b _ q fun z=>z)];exact q,fun b u xs q=>by rw[zH (hm b _ q fun z=>z)];exact q,fun b ps q=>⟨#[],by rw[zH (hm b _ q fun z=>z),q];simp⟩⟩
  by_cases hbe:b=e
  · subst hbe;exact heo
  · exact⟨u,k b u hbe q⟩
end
def trk (h:Heap) (H:Hp):List Addr:=(List.range h.objs.size).filter fun a=>(H a).isSome
def ug (h:Heap) (H:Hp):Heap:=PySem.W.hideAll h (trk h H)
theorem mQ (h:Heap) (H:Hp):(ug h H).objs.size=h.objs.size:=PySem.W.hideAll_size _ _
theorem kz {h:Heap}{H:Hp}{b:Addr}{o:Obj}(e:h.get? b=some o) (n:H b=none):(ug h H).get? b=some o :=
  PySem.W.hideAll_get _ e fun hm=>by
    have q:(H b).isSome=true:=(List.mem_filter.mp hm).2
    rw[n]at q;simp at q
theorem jz {h:Heap}{H:Hp}{b:Addr}{o:Obj}(e:(ug h H).get? b=some o):h.get? b=some o∧H b=none:=by
  have e':h.get? b=some o:=PySem.W.of_hideAll (trk h H) e
  refine⟨e',?_⟩
  cases q:H b with
  | none=>rfl
  | some x =>
    have hm:b∈trk h H:=List.mem_filter.mpr ⟨List.mem_range.mpr (Heap.lt_size e'),by simp[q]⟩
    have z:(ug h H).get? b=none:=PySem.W.hideAll_none (trk h H) hm
    rw[z]at e;cases e
def iS (g h:Heap) (L:Addr):List (Addr × Obj):=(List.range h.objs.size).filterMap fun a=>if a=L∨(g.get? a).isSome=true then none else (h.get? a).map fun o=>(a,o)
def rest (g h:Heap) (L d:Addr):List (Addr × Obj):=(iS g h L).filter fun p=>decide (p.1≠d)
structure Mod (K:PySem.W.Frag) (mg:Str→Option Value) (base:Heap):Prop where
  kin:K.In base
  glob:base.Ns mainGlobals mg
  blt:∃ mb,base.Ns builtinsNs mb∧∀ x:Str,x≠"__name__"→mb x=bootBuiltins x
  nolimit:base.NoLimit
structure Cx where
  prog:Program
  w:World
  K:PySem.W.Frag
  mg:Str→Option Value
  base:Heap
  A:Around
  N:List Str
  s₀:Shared
  H₀:Hp
  env:Env
  outer:List Env
  stack:List Env
  ex:List Addr
  fn:Str→Bool
  calm:Bool
  pn:List (Addr × Obj)
  xe:Value→Shared→Prop
def frs (l:List Env):List Addr:=l.filterMap (·.frame)
abbrev Cx.fs (X:Cx):List Addr:=frs X.outer
def Vis (sc:Scope) (x:Str):Prop:=sc.names.lookup x=some .local ∨ sc.names.lookup x=some .cell∨sc.names.lookup x=some .free
def Loc (sc:Scope) (x:Str):Prop:=sc.names.lookup x=some .local ∨ sc.names.lookup x=some .cell
def Look (env:Env) (h:Heap) (m:Str→Option Value) (x:Str) (u:Value):Prop :=
  (env.kindOf x=some .local ∧ m x=some u)∨((env.kindOf x=some .cell∨env.kindOf x=some .free)∧∃ c,env.cells.lookup x=some c∧h.IsCell c (some u))
structure Cx.Ok (X:Cx):Prop where
  mod:Mod X.K X.mg X.base
  kind:X.env.scope.kind=.function
  glob:X.env.globals=mainGlobals
  blt:X.env.builtins=builtinsNs
  above:X.s₀.heap.objs.size≤X.env.locals
  inj:∀ x y c,X.env.cells.lookup x=some c→X.env.cells.lookup y=some c→x=y
  has:∀ x,(X.env.kindOf x=some .cell∨X.env.kindOf x=some .free)→∃ c,X.env.cells.lookup x=some c
  cab:∀ x c,X.fn x=true→X.env.cells.lookup x=some c→X.s₀.heap.objs.size≤c
  hd:X.calm=true→X.A.handled=none
  frames:X.A.frames=some X.stack
  stk:X.stack=X.outer∨(X.stack=X.env::X.outer∧X.env.frame=some X.env.locals)
  exf:∀ b∈X.ex,b≠X.env.locals∧∀ x c,X.env.cells.lookup x=some c→c≠b
  bs:∀ b o,X.base.get? b=some o→X.s₀.heap.get? b=some o∧X.H₀ b=none
  bsz:X.base.objs.size≤X.s₀.heap.objs.size
  noex:∀ b o,X.base.get? b=some o→b∉X.ex
  exfs:∀ b∈X.ex,b∉X.fs
  funs:X.s₀.heap.FunFrames X.base X.outer
  frf:∀ b∈X.fs,X.H₀ b=none
structure Inv (X:Cx) (pins:List (Addr × Obj)) (σ:List (Option V)) (H:Hp) (s:Shared):Prop where
  ok:X.Ok
  os:s.os=X.s₀.os
  bare:AllBare s.gens
  base:Un X.fs X.ex X.H₀ H X.s₀.heap s.heap
  loc:∃ m,s.heap.Ns X.env.locals m∧∀ (i:Nat) (x:Str) (v:V),X.N[i]?=some x→σ[i]?=some (some v)→Vis X.env.scope x→∃ u,RelV v u∧Look X.env s.heap m x u
  cell:∀ x c,X.env.cells.lookup x=some c→∃ v,s.heap.IsCell c v
  free:H X.env.locals=none
  freeC:∀ x c,X.env.cells.lookup x=some c→H c=none
  pin:∀ p∈X.pn++pins,s.heap.get? p.1=some p.2∧H p.1=none∧p.1≠X.env.locals∧p.1∉X.fs∧∀ v,p.2.data≠.cell v
  hok:HOk X.prog X.w H s.heap
  len:σ.length=X.N.length
section
variable {X:Cx}{pins:List (Addr × Obj)}{σ:List (Option V)}{H H':Hp}{s:Shared}{h':Heap}
theorem Cx.Ok.nofr (ok:X.Ok) {b:Addr}{o:Obj}(e:X.base.get? b=some o):b∉X.fs:=fun hb=>by
  have:=(ok.funs.mem hb).1
  rw[e]at this;cases this
theorem Inv.bs (I:Inv X pins σ H s):∀ b o,X.base.get? b=some o→s.heap.get? b=some o∧H b=none:=fun b o e =>
  ⟨I.base.keep b o (I.ok.bs b o e).1 (I.ok.bs b o e).2 (I.ok.nofr e) (I.ok.noex b o e),I.base.free b o (I.ok.bs b o e).1 (I.ok.bs b o e).2 (I.ok.noex b o e)⟩
theorem Inv.bk (I:Inv X pins σ H s):∀ b o,X.base.get? b=some o→s.heap.get? b=some o:=fun b o e=>(I.bs b o e).1
theorem Inv.mod (I:Inv X pins σ H s):Mod X.K X.mg X.base:=I.ok.mod
theorem Inv.kIn (I:Inv X pins σ H s):X.K.In s.heap:=I.ok.mod.kin.keeps I.bk
theorem Inv.lt (I:Inv X pins σ H s):X.env.locals<s.heap.objs.size:=let ⟨_,hn,_⟩:=I.loc;hn.lt
theorem Inv.sz (I:Inv X pins σ H s):X.s₀.heap.objs.size≤s.heap.objs.size:=Nat.le_trans I.ok.above (Nat.le_of_lt I.lt)
theorem Inv.nofs (I:Inv X pins σ H s) {a:Addr}(h:s.heap.objs.size≤a):a∉X.fs:=fun hb=>by
  obtain⟨_,o,ho,_⟩:=I.ok.funs.mem hb
  exact absurd (Nat.lt_of_lt_of_le (Heap.lt_size ho) (Nat.le_trans I.sz h)) (Nat.lt_irrefl _)
theorem Inv.cne (I:Inv X pins σ H s):∀ x c,X.env.cells.lookup x=some c→c≠X.env.locals:=fun x c e z=>by
  obtain⟨v,o,ho,hd⟩:=I.cell x c e
  obtain⟨m,⟨o',es,ep,ho',hd',_⟩,_⟩:=I.loc
  rw[z,ho']at ho;cases ho;rw[hd']at hd;cases hd
theorem Inv.funs (I:Inv X pins σ H s):s.heap.FunFrames X.base X.outer:=by
  have all:∀ (l:List Env),(∀ b∈frs l,b∈X.fs)→X.s₀.heap.FunFrames X.base l→s.heap.FunFrames X.base l:=by
    intro l
    induction l with
    | nil=>intro _ _;trivial
    | cons env r ih =>
      intro hs hl
      obtain⟨hk,⟨L,o,hf,hn,ho,hd⟩,hr⟩:=hl
      have hL:L∈X.fs:=hs L (by unfold frs;rw[List.filterMap_cons,hf];exact List.mem_cons_self)
      obtain⟨sl,e⟩:=I.base.slot L o ho (I.ok.frf L hL) hL fun z=>I.ok.exfs L z hL
      exact⟨hk,⟨L,_,hf,hn,e,hd⟩,ih (fun b hb=>hs b (by unfold frs;rw[List.filterMap_cons,hf];exact List.mem_cons_of_mem _ hb)) hr⟩
  exact all X.outer (fun _ hb=>hb) I.ok.funs
theorem Inv.stack (I:Inv X pins σ H s):s.heap.FunFrames X.base X.stack:=by
  rcases I.ok.stk with e|⟨e,hf⟩
  · rw[e];exact I.funs
  · rw[e]
    obtain⟨m,hn,_⟩:=I.loc
    refine .cons (by rw[I.ok.kind];decide) hf hn ?_ I.funs
    exact Heap.get?_none_of_le (Nat.le_trans I.ok.bsz I.ok.above)
theorem Inv.stkSub (I:Inv X pins σ H s):∀ b∈frs X.stack,b∈X.env.locals::X.fs:=fun b hb=>by
  rcases I.ok.stk with e|⟨e,hf⟩
  · rw[e]at hb;exact List.mem_cons_of_mem _ hb
  · rw[e]at hb
    unfold frs at hb
    rw[List.filterMap_cons,hf]at hb
    exact hb
theorem Inv.stkFree (I:Inv X pins σ H s):∀ b∈frs X.stack,H b=none:=fun b hb=>by
  rcases List.mem_cons.mp (I.stkSub b hb) with e|hb
  · rw[e];exact I.free
  · obtain⟨_,o,ho,_⟩:=I.ok.funs.mem hb
    exact I.base.free b o ho (I.ok.frf b hb) fun z=>I.ok.exfs b z hb
theorem Inv.step {g':Array GenState}{t':Nat}{d':Drawn}{ch:List Addr}(I:Inv X pins σ H s)
    (hch:∀ b∈ch,(b∈X.ex∨X.s₀.heap.objs.size≤b)∧b≠X.env.locals∧(∀ x c,X.env.cells.lookup x=some c→c≠b)∧∀ p∈X.pn++pins,p.1≠b)
    (keep:∀ b o,b≠X.env.locals→b∉X.fs→b∉ch→s.heap.get? b=some o→H b=none→h'.get? b=some o)
    (slot:∀ b o,b≠X.env.locals→b∈X.fs→b∉ch→s.heap.get? b=some o→H b=none→∃ sl,h'.get? b=some { o with slots:=sl }) (free:∀ b o,b∉ch→s.heap.get? b=some o→H b=none→H' b=none)
    (there:∀ b o,b∉ch→s.heap.get? b=some o→∃ o',h'.get? b=some o')
    (tups:∀ b xs,H b=some (.tup xs)→H' b=some (.tup xs)) (frzs:∀ b o u,H b=some (.frz o u)→H' b=some (.frz o u)) (tbls:∀ b ps,H b=some (.tbl ps)→∃ more,H' b=some (.tbl (ps++more)))
    (ns:∀ m,s.heap.Ns X.env.locals m→h'.Ns X.env.locals m) (hok:HOk X.prog X.w H' h') (hg:AllBare g') :
    Inv X pins σ H' { s with heap:=h',gens:=g',drawn:=d',toks:=t' }:=by
  have neL:∀ b o,X.s₀.heap.get? b=some o→b≠X.env.locals:=fun b o e=>Nat.ne_of_lt (Nat.lt_of_lt_of_le (Heap.lt_size e) I.ok.above)
  have neC:∀ b o,X.s₀.heap.get? b=some o→b∉X.ex→b∉ch:=fun b o e hx hb=>by
    rcases (hch b hb).1 with z|z
    · exact hx z
    · exact absurd (Nat.lt_of_lt_of_le (Heap.lt_size e) z) (Nat.lt_irrefl _)
  have cellK:∀ x c,X.env.cells.lookup x=some c→∀ v,s.heap.IsCell c v→h'.IsCell c v:=fun x c e v ⟨o,ho,hd⟩=>by
    have nch:c∉ch:=fun z=>(hch c z).2.2.1 x c e rfl
    by_cases hc:c∈X.fs
    · obtain⟨sl,q⟩:=slot c o (I.cne x c e) hc nch ho (I.freeC x c e)
      exact⟨_,q,hd⟩
    · exact⟨o,keep c o (I.cne x c e) hc nch ho (I.freeC x c e),hd⟩
  refine⟨I.ok,I.os,hg,⟨fun b o e n hb hx=>?_,fun b o e n hb hx=>?_,fun b o e n hx=>?_,fun b o e hx=>?_,fun b xs e=>tups b xs (I.base.tups b xs e),fun b o xs e=>frzs b o xs (I.base.frzs b o xs e),fun b ps e=>?_⟩,?_,fun x c e=>?_,?_,fun x c e=>?_,fun p hp=>?_,hok,I.len⟩
  · exact keep b o (neL b o e) hb (neC b o e hx) (I.base.keep b o e n hb hx) (I.base.free b o e n hx)
  · obtain⟨sl,e1⟩:=I.base.slot b o e n hb hx
    obtain⟨sl',e2⟩:=slot b _ (neL b o e) hb (neC b o e hx) e1 (I.base.free b o e n hx)
    exact⟨sl',e2⟩
  · obtain⟨o',e1⟩:=I.base.there b o e hx
    exact free b o' (neC b o e hx) e1 (I.base.free b o e n hx)
  · obtain⟨o',e1⟩:=I.base.there b o e hx
    exact there b o' (neC b o e hx) e1
  · obtain⟨m1,e1⟩:=I.base.tbls b ps e
    obtain⟨m2,e2⟩:=tbls b _ e1
    exact⟨m1++m2,by rw[e2,Array.append_assoc]⟩
  · obtain⟨m,hn,hl⟩:=I.loc
    refine⟨m,ns m hn,fun i x v e1 e2 e3=>?_⟩
    obtain⟨u,r,l⟩:=hl i x v e1 e2 e3
    refine⟨u,r,?_⟩
    rcases l with l|⟨k,c,e,z⟩
    · exact .inl l
    · exact .inr ⟨k,c,e,cellK x c e _ z⟩
  · obtain⟨v,z⟩:=I.cell x c e
    exact⟨v,cellK x c e v z⟩
  · obtain⟨m,⟨o,_,_,ho,_⟩,_⟩:=I.loc
    exact free _ o (fun z=>(hch _ z).2.1 rfl) ho I.free
  · obtain⟨v,o,ho,hd⟩:=I.cell x c e
    exact free c o (fun z=>(hch c z).2.2.1 x c e rfl) ho (I.freeC x c e)
  · obtain⟨e,n,ne,nf,d⟩:=I.pin p hp
    have nch:p.1∉ch:=fun z=>(hch p.1 z).2.2.2 p hp rfl
    exact⟨keep p.1 p.2 ne nf nch e n,free p.1 p.2 nch e n,ne,nf,d⟩
theorem Inv.un {t':Nat}(I:Inv X pins σ H s) (u:Un X.fs [] H H' s.heap h') (hok:HOk X.prog X.w H' h'):Inv X pins σ H' { s with heap:=h',toks:=t' }:=by
  obtain⟨m,⟨o,es,ep,ho,r⟩,_⟩:=id I.loc
  obtain⟨sl,hL⟩:=u.any ho I.free (by simp)
  exact I.step (g':=s.gens) (d':=s.drawn) (ch:=[]) (fun _ z=>nomatch z) (fun b o _ hb _ e n=>u.keep b o e n hb (by simp)) (fun b o _ hb _ e n=>u.slot b o e n hb (by simp)) (fun b o _ e n=>u.free b o e n (by simp)) (fun b o _ e=>u.there b o e (by simp)) u.tups u.frzs u.tbls (fun m' hm=>by
    obtain⟨o',es',ep',ho',r'⟩:=hm
    rw[ho]at ho';cases ho'
    exact⟨_,es',ep',hL,r'⟩) hok I.bare
theorem Inv.call {g':Array GenState}{t':Nat}{d':Drawn}{ch:List Addr}(I:Inv X pins σ H s) (u:Un (frs X.stack) ch H H' s.heap h') (hok:HOk X.prog X.w H' h') (hg:AllBare g')
    (hch:∀ b∈ch,(b∈X.ex∨X.s₀.heap.objs.size≤b)∧b≠X.env.locals∧(∀ x c,X.env.cells.lookup x=some c→c≠b)∧∀ p∈X.pn++pins,p.1≠b) :
    Inv X pins σ H' { s with heap:=h',gens:=g',drawn:=d',toks:=t' }:=by
  obtain⟨m,⟨o,es,ep,ho,r⟩,_⟩:=id I.loc
  obtain⟨sl,hL⟩:=u.any ho I.free fun z=>(hch _ z).2.1 rfl
  exact I.step (ch:=ch) hch (fun b o hL hb hc e n=>u.keep b o e n (fun z=>(List.mem_cons.mp (I.stkSub b z)).elim hL hb) hc) (fun b o _ _ hc e n=>u.any e n hc) (fun b o hc e n=>u.free b o e n hc) (fun b o hc e=>u.there b o e hc) u.tups u.frzs u.tbls (fun m' hm=>by
    obtain⟨o',es',ep',ho',r'⟩:=hm
    rw[ho]at ho';cases ho'
    exact⟨_,es',ep',hL,r'⟩) hok hg
theorem Inv.turned {t':Nat}{it:Addr}(I:Inv X pins σ H s) (k:∀ b o,b≠it→s.heap.get? b=some o→h'.get? b=some o) (hn:H it=none) (hL:it≠X.env.locals)
    (h1:it∈X.ex∨X.s₀.heap.objs.size≤it) (h2:∀ x c,X.env.cells.lookup x=some c→c≠it) (h3:∀ p∈X.pn++pins,p.1≠it):Inv X pins σ H { s with heap:=h',toks:=t' }:=by
  have nit:∀ b u,H b=some u→b≠it:=fun b u e z=>by rw[z,hn]at e;cases e
  refine I.step (g':=s.gens) (d':=s.drawn) (ch:=[it]) (fun b hb=>?_) (fun b o _ _ hc e _=>k b o (fun z=>hc (by simp[z])) e) (fun b o _ _ hc e _=>⟨o.slots,k b o (fun z=>hc (by simp[z])) e⟩) (fun _ _ _ _ n=>n)
    (fun b o hc e=>⟨o,k b o (fun z=>hc (by simp[z])) e⟩) (fun _ _ e=>e) (fun _ _ _ e=>e) (fun b ps e=>⟨#[],by rw[e];simp⟩) (fun m hm=>?_) (fun b u e=>?_) I.bare
  · have e:b=it:=by simpa using hb
    subst e
    exact⟨h1,hL,h2,h3⟩
  · obtain⟨o,es,ep,ho,r⟩:=hm
    exact⟨o,es,ep,k _ o (Ne.symm hL) ho,r⟩
  · refine(I.hok b u e).stay (fun c v hc q=>k c v ?_ q) (fun _ q=>q) fun _ _ q=>q
    rcases hc with z|z
    · rw[z];exact nit b u e
    · exact nit c _ z
theorem Inv.tok (I:Inv X pins σ H s) (t:Nat):Inv X pins σ H { s with toks:=t }:=I.un (h':=s.heap) (t':=t) Un.refl I.hok
theorem Inv.kept {t':Nat}(I:Inv X pins σ H s) (k:∀ b u,s.heap.get? b=some u→h'.get? b=some u):Inv X pins σ H { s with heap:=h',toks:=t' }:=I.un (Un.kept k) (I.hok.kept k)
theorem Inv.laid {a:Addr}{o:HO}{t':Nat}(I:Inv X pins σ H s) (k:∀ b u,s.heap.get? b=some u→h'.get? b=some u) (hp:s.heap.objs.size≤a) (new:ObjOk X.prog X.w (upd H a o) h' a o) :
    Inv X pins σ (upd H a o) { s with heap:=h',toks:=t' }:=I.un (Un.laid k hp (I.hok.fresh hp)) (I.hok.laid k hp new)
theorem Inv.write {x e:Addr}{o:HO}{t':Nat}(I:Inv X pins σ H s) (mu:Mut (H x)) (he:e=x∨H e=some (.own x)) (k:∀ b u,b≠e→s.heap.get? b=some u→h'.get? b=some u) (heo:∃ u,h'.get? e=some u)
    (new:ObjOk X.prog X.w (upd H x o) h' x o):Inv X pins σ (upd H x o) { s with heap:=h',toks:=t' }:=I.un (Un.write mu he k heo) (I.hok.write mu he k heo new)
theorem Inv.pins_of {pins':List (Addr × Obj)}(I:Inv X pins σ H s) (h:∀ p∈pins',s.heap.get? p.1=some p.2∧H p.1=none∧p.1≠X.env.locals∧p.1∉X.fs∧∀ v,p.2.data≠.cell v):Inv X pins' σ H s :=
  ⟨I.ok,I.os,I.bare,I.base,I.loc,I.cell,I.free,I.freeC,fun p hp=>(List.mem_append.mp hp).elim (fun z=>I.pin p (List.mem_append_left _ z)) (h p),I.hok,I.len⟩
theorem rW {N:List Str}(hN:N.Nodup) {i j:Nat}{x:Str}(a:N[i]?=some x) (b:N[j]?=some x):i=j:=by
  obtain⟨h1,e1⟩:=List.getElem?_eq_some_iff.mp a
  obtain⟨h2,e2⟩:=List.getElem?_eq_some_iff.mp b
  exact(List.getElem_inj hN).mp (e1.trans e2.symm)
theorem uj {M:Model}{A:Around}{E:Value→Shared→Prop}{i:Nat}{x:Str}{v:V}{u:Value}{Q:Unit→Shared→Prop}(I:Inv X pins σ H s) (hN:X.N.Nodup) (hi:X.N[i]?=some x) (hx:Loc X.env.scope x) (r:RelV v u)
    (h:∀ s',Inv X pins (σ.set i (some v)) H s'→(∃ a,Heap.SameBut a s.heap s'.heap∧(a=X.env.locals∨X.env.cells.lookup x=some a))→Q () s') (hf:X.fn x=true∨X.env.scope.names.lookup x=some .local:=by first|exact .inl rfl|exact .inr rfl|assumption):wpAny M A (storeName X.env x u) Q E s:=by
  obtain⟨m,hn,hl⟩:=id I.loc
  have hcls:(X.env.scope.kind == .class || (X.env.scope.kind == .module && X.env.locals != X.env.globals))=false:=by rw[I.ok.kind];rfl
  have hiσ:i<σ.length:=by rw[I.len];exact(List.getElem?_eq_some_iff.mp hi).1
  have cne:=I.cne
  have tracked:∀ {a:Addr}{h':Heap},(∃ o,s.heap.get? a=some o∧H a=none)→Heap.SameBut a s.heap h'→HOk X.prog X.w H h':=fun {a h'} ha hs b ob e=>by
    obtain⟨_,_,hfree⟩:=ha
    refine(I.hok b ob e).stay (fun c w' hc q=>(hs.2 c ?_).trans q) (fun _ q=>q) fun _ _ q=>q
    rintro rfl
    rcases hc with rfl|hc
    · rw[hfree]at e;cases e
    · rw[hfree]at hc;cases hc
  rcases hx with hk|hk
  · refine wpAny_storeName_local hk hn (fun h' hn' hs=>?_) hcls
    obtain⟨oL,_,_,hoL,_⟩:=id hn
    refine h _ ⟨I.ok,I.os,I.bare,⟨fun b o e n hb hx=>?_,fun b o e n hb hx=>?_,I.base.free,fun b o e hx=>?_,I.base.tups,I.base.frzs,I.base.tbls⟩,⟨_,hn',fun j y v' e1 e2 e3=>?_⟩,fun y c e=>?_,I.free,I.freeC,fun p hp=>?_,tracked ⟨oL,hoL,I.free⟩ hs,by simpa using I.len⟩ ⟨_,hs,.inl rfl⟩
    · exact(hs.2 b (Nat.ne_of_lt (Nat.lt_of_lt_of_le (Heap.lt_size e) I.ok.above))).trans (I.base.keep b o e n hb hx)
    · obtain⟨sl,e1⟩:=I.base.slot b o e n hb hx
      exact⟨sl,(hs.2 b (Nat.ne_of_lt (Nat.lt_of_lt_of_le (Heap.lt_size e) I.ok.above))).trans e1⟩
    · obtain⟨o',e1⟩:=I.base.there b o e hx
      exact⟨o',(hs.2 b (Nat.ne_of_lt (Nat.lt_of_lt_of_le (Heap.lt_size e) I.ok.above))).trans e1⟩
    · by_cases hj:j=i
      · subst hj
        rw[hi]at e1;cases e1
        rw[List.getElem?_set_self hiσ]at e2
        cases e2
        exact⟨u,r,.inl ⟨hk,by simp⟩⟩
      · rw[List.getElem?_set_ne (Ne.symm hj)]at e2
        obtain⟨u',r',q⟩:=hl j y v' e1 e2 e3
        refine⟨u',r',?_⟩
        rcases q with ⟨k,e⟩|⟨k,c,e,z⟩
        · refine .inl ⟨k,?_⟩
          have:y≠x:=fun e=>hj (rW hN e1 (e ▸ hi))
          simp[this,e]
        · exact .inr ⟨k,c,e,z.sameBut hs (cne y c e)⟩
    · obtain⟨w',z⟩:=I.cell y c e
      exact⟨w',z.sameBut hs (cne y c e)⟩
    · obtain⟨e,n,ne,nf,d⟩:=I.pin p hp
      exact⟨(hs.2 p.1 ne).trans e,n,ne,nf,d⟩
  · have hfn:X.fn x=true:=by
      rcases hf with z|z
      · exact z
      · rw[z]at hk;cases hk
    obtain⟨c,hc⟩:=I.ok.has x (.inl hk)
    obtain⟨w',z⟩:=I.cell x c hc
    refine wpAny_storeName_cell I.ok.kind hk hc z (fun h' hc' hs=>?_)
    obtain⟨oc,hoc,hocd⟩:=id z
    refine h { s with heap:=h' } ⟨I.ok,I.os,I.bare,⟨fun b o e n hb hx=>?_,fun b o e n hb hx=>?_,I.base.free,fun b o e hx=>?_,I.base.tups,I.base.frzs,I.base.tbls⟩,⟨m,hn.sameBut hs (Ne.symm (cne x c hc)),fun j y v' e1 e2 e3=>?_⟩,fun y c' e=>?_,I.free,I.freeC,fun p hp=>?_,tracked ⟨oc,hoc,I.freeC x c hc⟩ hs,by simpa using I.len⟩ ⟨c,hs,.inr hc⟩
    · exact(hs.2 b (Nat.ne_of_lt (Nat.lt_of_lt_of_le (Heap.lt_size e) (I.ok.cab x c hfn hc)))).trans (I.base.keep b o e n hb hx)
    · obtain⟨sl,e1⟩:=I.base.slot b o e n hb hx
      exact⟨sl,(hs.2 b (Nat.ne_of_lt (Nat.lt_of_lt_of_le (Heap.lt_size e) (I.ok.cab x c hfn hc)))).trans e1⟩
    · obtain⟨o',e1⟩:=I.base.there b o e hx
      exact⟨o',(hs.2 b (Nat.ne_of_lt (Nat.lt_of_lt_of_le (Heap.lt_size e) (I.ok.cab x c hfn hc)))).trans e1⟩
    · by_cases hj:j=i
      · subst hj
        rw[hi]at e1;cases e1
        rw[List.getElem?_set_self hiσ]at e2
        cases e2
        exact⟨u,r,.inr ⟨.inl hk,c,hc,hc'⟩⟩
      · rw[List.getElem?_set_ne (Ne.symm hj)]at e2
        obtain⟨u',r',q⟩:=hl j y v' e1 e2 e3
        refine⟨u',r',?_⟩
        rcases q with q|⟨k,c',e,z'⟩
        · exact .inl q
        · refine .inr ⟨k,c',e,z'.sameBut hs ?_⟩
          rintro rfl
          exact hj (rW hN e1 (I.ok.inj _ _ _ e hc ▸ hi))
    · by_cases hcc:c'=c
      · subst hcc;exact⟨_,hc'⟩
      · obtain⟨w2,z2⟩:=I.cell y c' e
        exact⟨w2,z2.sameBut hs hcc⟩
    · obtain⟨e,n,ne,nf,d⟩:=I.pin p hp
      refine⟨(hs.2 p.1 ?_).trans e,n,ne,nf,d⟩
      intro q
      rw[q,hoc]at e
      have q':oc=p.2:=Option.some.inj e
      exact d w' (by rw[← q'];exact hocd)
theorem xD {M:Model}{A:Around}{E:Value→Shared→Prop}{i:Nat}{x:Str}{v:V}{u:Value}{Q:Unit→Shared→Prop}(I:Inv X pins σ H s) (hN:X.N.Nodup) (hi:X.N[i]?=some x) (hx:Loc X.env.scope x) (r:RelV v u)
    (h:∀ s',Inv X pins (σ.set i (some v)) H s'→Q () s') (hf:X.fn x=true∨X.env.scope.names.lookup x=some .local:=by first|exact .inl rfl|exact .inr rfl|assumption):wpAny M A (storeName X.env x u) Q E s :=
  uj I hN hi hx r (fun s' I' _=>h s' I') hf
theorem Inv.call' {s':Shared}{ch:List Addr}(I:Inv X pins σ H s) (ho:s'.os=s.os) (u:Un (frs X.stack) ch H H' s.heap s'.heap) (hok:HOk X.prog X.w H' s'.heap) (hg:AllBare s'.gens)
    (hch:∀ b∈ch,(b∈X.ex∨X.s₀.heap.objs.size≤b)∧b≠X.env.locals∧(∀ x c,X.env.cells.lookup x=some c→c≠b)∧∀ p∈X.pn++pins,p.1≠b):Inv X pins σ H' s':=by
  obtain⟨h',g',d',t',o'⟩:=s'
  have e:o'=s.os:=ho
  subst e
  exact I.call (g':=g') (t':=t') (d':=d') u hok hg hch
end
abbrev XK:=Value→Option Addr→Hp→Prop
abbrev St:=List (Option V)
abbrev VK:=V→Hp→Prop
abbrev TE:=St→Hp→VK→Prop
abbrev TT:=St→Hp→(Bool→Hp→Prop)→Prop
abbrev TA:=St→Hp→(List V→Hp→Prop)→Prop
structure Ends where
  nx:St→Hp→Prop
  rt:VK
  bk:St→Hp→Prop:=fun _ _=>False
  ct:St→Hp→Prop:=fun _ _=>False
abbrev TS:=Ends→St→Hp→Prop
def EP (X:Cx) (pins:List (Addr × Obj)) (σ:St) (Q:VK) (u:Value) (s':Shared):Prop:=∃ v H',Inv X pins σ H' s'∧RelV v u∧Q v H'
def TP (X:Cx) (pins:List (Addr × Obj)) (σ:St) (Q:Bool→Hp→Prop) (b:Bool) (s':Shared):Prop:=∃ H',Inv X pins σ H' s'∧Q b H'
def AP (X:Cx) (pins:List (Addr × Obj)) (σ:St) (Q:List V→Hp→Prop) (us:List Value) (s':Shared):Prop:=∃ vs H',Inv X pins σ H' s'∧Vals vs us∧Q vs H'
def SP (X:Cx) (pins:List (Addr × Obj)) (D:Ends) (f:Flow) (s':Shared):Prop :=
  match f with
  | .next=>∃ σ' H',Inv X pins σ' H' s'∧D.nx σ' H'
  | .brk=>∃ σ' H',Inv X pins σ' H' s'∧D.bk σ' H'
  | .cont=>∃ σ' H',Inv X pins σ' H' s'∧D.ct σ' H'
  | .ret u=>∃ v σ' H',Inv X pins σ' H' s'∧RelV v u∧D.rt v H'
def PE (X:Cx) (e:Expr) (t:TE):Prop :=
  ∀ (pins:List (Addr × Obj)) (s:Shared) (σ:St) (H:Hp) (Q:VK),Inv X pins σ H s→t σ H Q→wpAny (model X.prog X.w) X.A (eval e X.env) (EP X pins σ Q) X.xe s
def PT (X:Cx) (e:Expr) (t:TT):Prop :=
  ∀ (pins:List (Addr × Obj)) (s:Shared) (σ:St) (H:Hp) (Q:Bool→Hp→Prop),Inv X pins σ H s→t σ H Q→wpAny (model X.prog X.w) X.A (isTrue e X.env (eval e X.env)) (TP X pins σ Q) X.xe s
def PW (X:Cx) (e:Expr) (t:TT):Prop :=
  ∀ (whole:Sem Value) (pins:List (Addr × Obj)) (s:Shared) (σ:St) (H:Hp) (Q:Bool→Hp→Prop),Inv X pins σ H s→t σ H Q→wpAny (model X.prog X.w) X.A (isTrue e X.env whole) (TP X pins σ Q) X.xe s
theorem PW.pt {X:Cx}{e:Expr}{t:TT}(h:PW X e t):PT X e t:=h _
def PA (X:Cx) (es:List Expr) (t:TA):Prop :=
  ∀ (pos:Pos) (pins:List (Addr × Obj)) (s:Shared) (σ:St) (H:Hp) (Q:List V→Hp→Prop),Inv X pins σ H s→t σ H Q→wpAny (model X.prog X.w) X.A (spliced (backTo pos (starEach es X.env))) (AP X pins σ Q) X.xe s
def PS (X:Cx) (st:Stmt) (t:TS):Prop :=
  ∀ (pins:List (Addr × Obj)) (s:Shared) (σ:St) (H:Hp) (D:Ends),Inv X pins σ H s→t D σ H→wpAny (model X.prog X.w) X.A (exec st X.env) (SP X pins D) X.xe s
def PSs (X:Cx) (st:List Stmt) (t:TS):Prop :=
  ∀ (pins:List (Addr × Obj)) (s:Shared) (σ:St) (H:Hp) (D:Ends),Inv X pins σ H s→t D σ H→wpAny (model X.prog X.w) X.A (execs st X.env) (SP X pins D) X.xe s
theorem thn {α:Type}{t:Sem α}{Q Q':α→Shared→Prop}{M:Model}{A:Around}{E:Value→Shared→Prop}{s:Shared}(h:wpAny M A t Q E s) (hQ:∀ a s,Q a s→Q' a s):wpAny M A t Q' E s:=wpAny_mono h hQ fun _ _ x=>x
section
variable {X:Cx}
def jX (i:Nat):TE:=fun σ H Q=>∃ v,σ[i]?=some (some v)∧Q v H
def tC (v:V):TE:=fun _ H Q=>Q v H
theorem gG {i:Nat}{x:Str}{pos:Pos}(hN:X.N[i]?=some x) (hv:Vis X.env.scope x) (hd:(x == ("__debug__":Str))=false:=by decide) (hcd:(x == ("__classdict__":Str))=false:=by decide):PE X (.Name x pos) (jX i):=by
  intro pins s σ H Q I h
  obtain⟨v,e,h⟩:=h
  obtain⟨m,hn,hl⟩:=I.loc
  obtain⟨u,r,l⟩:=hl i x v hN e hv
  have fin:EP X pins σ Q u s:=⟨v,H,I,r,h⟩
  rcases l with ⟨hk,hm⟩|⟨hk,c,hc,hcell⟩
  · exact wpAny_Name (wpAny_loadName_local I.ok.kind hk hn hm fin) hd
  · rcases hk with hk|hk
    · exact wpAny_Name (wpAny_loadName_cell I.ok.kind hk hc hcell fin) hd
    · exact wpAny_Name (wpAny_loadName_free I.ok.kind hk hc hcell fin hcd) hd
theorem zE {i j pos}:PE X (.Constant (.int i) j pos) (tC (.int i)):=fun _ _ _ H _ I h=>wpAny_Constant_int ⟨.int i,H,I.tok _,⟨_,rfl⟩,h⟩
theorem yq {b j pos}:PE X (.Constant (.bool b) j pos) (tC (.bl b)):=fun _ _ _ H _ I h=>Constant_bool ⟨.bl b,H,I,rfl,h⟩
theorem kB {j pos}:PE X (.Constant .none j pos) (tC .non):=fun _ _ _ H _ I h=>Constant_none ⟨.non,H,I,rfl,h⟩
def Gl (X:Cx) (x:Str):Prop:=X.env.kindOf x=some .globalImplicit
theorem oa {E:Value→Shared→Prop}{pins:List (Addr × Obj)}{s:Shared}{σ:St}{H:Hp}{x:Str}{u:Value}{pos:Pos}{Q:Value→Shared→Prop}(I:Inv X pins σ H s) (hg:Gl X x) (hm:X.mg x=some u) (h:Q u s)
    (hd:(x == ("__debug__":Str))=false:=by decide):wpAny (model X.prog X.w) X.A (eval (.Name x pos) X.env) Q E s :=
  Calls.Name_function_global I.ok.kind hg (Calls.loadGlobal_global (by rw[I.ok.glob];exact I.mod.glob.keeps I.bk) hm h) hd
theorem xL {E:Value→Shared→Prop}{pins:List (Addr × Obj)}{s:Shared}{σ:St}{H:Hp}{x:Str}{u:Value}{pos:Pos}{Q:Value→Shared→Prop}(I:Inv X pins σ H s) (hg:Gl X x) (hm:X.mg x=none) (hv:bootBuiltins x=some u) (h:Q u s)
    (hn:x≠"__name__":=by decide) (hd:(x == ("__debug__":Str))=false:=by decide):wpAny (model X.prog X.w) X.A (eval (.Name x pos) X.env) Q E s:=by
  obtain⟨mb,h1,h2⟩:=I.mod.blt
  exact Calls.Name_function_global I.ok.kind hg (Calls.loadGlobal_builtin (by rw[I.ok.glob];exact I.mod.glob.keeps I.bk) hm (by rw[I.ok.blt];exact h1.keeps I.bk) ((h2 x hn).trans hv) h) hd
theorem vZ {x:Str}{v:V}{u:Value}{pos:Pos}(hg:Gl X x) (hm:X.mg x=none) (hv:bootBuiltins x=some u) (r:RelV v u) (hn:x≠"__name__":=by decide) (hd:(x == ("__debug__":Str))=false:=by decide):PE X (.Name x pos) (tC v) :=
  fun _ _ _ H _ I h=>xL I hg hm hv ⟨v,H,I,r,h⟩ hn hd
variable {a b:Expr}{ta tb:TE}{pos:Pos}
def PC (X:Cx) (op:CmpOp) (a b:Expr) (t:TE):Prop :=
  ∀ (pins:List (Addr × Obj)) (s:Shared) (σ:St) (H:Hp) (Q:VK),Inv X pins σ H s→t σ H Q →
    wpAny (model X.prog X.w) X.A (eval a X.env) (fun v s₁=>wpAny (model X.prog X.w) X.A (eval b X.env) (fun u s₂=>wpAny (model X.prog X.w) X.A (compareOp op v u) (EP X pins σ Q) X.xe s₂) X.xe s₁) X.xe s
def tB (t:TE):TT:=fun σ H Q=>t σ H fun x H1=>∃ c,x=.bl c∧Q c H1
theorem pD {op:CmpOp}{t:TE}(h:PC X op a b t) (h1:behindInMarks op b=false:=by first|exact nobehind _ (by decide) (by decide)|rfl):PT X (.Compare a [op] [b] pos) (tB t):=by
  intro pins s σ H Q I hw
  refine wpAny_isTrue_Compare1 (thn (h pins s σ H _ I hw) fun v s1 h1=>thn h1 fun u s2 h2=>thn h2 fun c s3 ⟨x,H1,I1,r1,q1⟩=>?_) h1
  obtain⟨d,rfl,q⟩:=q1
  cases r1
  exact wpAny_truthy_bool ⟨H1,I1,q⟩
theorem w8 {e:Expr}{t:TE}(h:PE X e t) (he:∀ whole,isTrue e X.env whole=(do let v ← whole;standAt e.pos;holding [v] (truthy v)):=by intro _;rfl):PT X e (tB t):=by
  intro pins s σ H Q I hw
  refine isTrue_plain (thn (h pins s σ H _ I hw) fun v s1 ⟨x,H1,I1,r1,q1⟩=>?_) (he _)
  obtain⟨d,rfl,q⟩:=q1
  cases r1
  exact wpAny_truthy_bool ⟨H1,I1,q⟩
variable {tA tB':TT}{rest:List Expr}
def dQ (t u:TT):TT:=fun σ H Q=>t σ H fun c H1=>if c=true then u σ H1 Q else Q false H1
def tOr (t u:TT):TT:=fun σ H Q=>t σ H fun c H1=>if c=true then Q true H1 else u σ H1 Q
def ez (t:TT):TT:=fun σ H Q=>t σ H fun c H1=>Q (!c) H1
theorem oG (ha:PT X a tA):PW X (.BoolOp .And [a] pos) tA:=by
  intro wh pins s σ H Q I h
  refine isTrue_and (thn (ha pins s σ H Q I h) fun c s1 e=>?_)
  cases c with
  | true=>exact isTrue_and_nil e
  | false=>exact e
theorem sI (ha:PT X a tA):PW X (.BoolOp .Or [a] pos) tA:=by
  intro wh pins s σ H Q I h
  refine isTrue_or (thn (ha pins s σ H Q I h) fun c s1 e=>?_)
  cases c with
  | false=>exact isTrue_or_nil e
  | true=>exact e
theorem lq (ha:PT X a tA) (hb:PW X (.BoolOp .And (b::rest) pos) tB'):PW X (.BoolOp .And (a::b::rest) pos) (dQ tA tB'):=by
  intro wh pins s σ H Q I h
  refine isTrue_and (thn (ha pins s σ H _ I h) fun c s1 ⟨H1,I1,q1⟩=>?_)
  cases c with
  | true=>exact hb wh pins s1 σ H1 Q I1 q1
  | false=>exact⟨H1,I1,q1⟩
theorem oF (ha:PT X a tA) (hb:PW X (.BoolOp .Or (b::rest) pos) tB'):PW X (.BoolOp .Or (a::b::rest) pos) (tOr tA tB'):=by
  intro wh pins s σ H Q I h
  refine isTrue_or (thn (ha pins s σ H _ I h) fun c s1 ⟨H1,I1,q1⟩=>?_)
  cases c with
  | true=>exact⟨H1,I1,q1⟩
  | false=>exact hb wh pins s1 σ H1 Q I1 q1
theorem sJ (ha:PT X a tA):PT X (.UnaryOp .Not a pos) (ez tA):=by
  intro pins s σ H Q I h
  exact isTrue_not (ha pins s σ H (fun c H1=>Q (!c) H1) I h)
def fe (ta tb:TE):TE:=fun σ H Q=>ta σ H fun x H1=>∃ c,x=.bl c∧if c=true then tb σ H1 Q else Q (.bl false) H1
def fI (ta:TE):TE:=fun σ H Q=>ta σ H fun x H1=>∃ c,x=.bl c∧Q (.bl (!c)) H1
theorem wQ {op} {t:TE}(h:PE X a t):PE X (.BoolOp op [a] pos) t:=fun pins s σ H Q I hw=>BoolOp_one (h pins s σ H Q I hw)
theorem xc (ha:PE X a ta) (hb:PE X (.BoolOp .And (b::rest) pos) tb):PE X (.BoolOp .And (a::b::rest) pos) (fe ta tb):=by
  intro pins s σ H Q I h
  refine BoolOp_and (thn (ha pins s σ H _ I h) fun v s1 ⟨x,H1,I1,r1,q1⟩=>?_)
  obtain⟨c,rfl,q1⟩:=q1
  cases r1
  refine wpAny_truthy_bool ?_
  cases c with
  | true=>exact hb pins s1 σ H1 Q I1 q1
  | false=>exact⟨.bl false,H1,I1,rfl,q1⟩
theorem gH (ha:PE X a ta):PE X (.UnaryOp .Not a pos) (fI ta):=by
  intro pins s σ H Q I h
  refine UnaryOp_ (thn (ha pins s σ H _ I h) fun v s1 ⟨x,H1,I1,r1,q1⟩=>?_)
  obtain⟨c,rfl,q1⟩:=q1
  cases r1
  exact not_of (wpAny_truthy_bool ⟨.bl (!c),H1,I1,rfl,q1⟩)
def tIf (t:TT) (ta tb:TE):TE:=fun σ H Q=>t σ H fun c H1=>if c=true then ta σ H1 Q else tb σ H1 Q
theorem wk {c:Expr}(hc:PT X c tA) (ha:PE X a ta) (hb:PE X b tb):PE X (.IfExp c a b pos) (tIf tA ta tb):=by
  intro pins s σ H Q I h
  refine wpAny_IfExp (thn (hc pins s σ H _ I h) fun d s1 ⟨H1,I1,q1⟩=>?_)
  cases d with
  | true=>exact ha pins s1 σ H1 Q I1 q1
  | false=>exact hb pins s1 σ H1 Q I1 q1
end
def SqL (K:PySem.W.Frag) (H:Hp) (a:Addr) (xs:List V):Prop :=
  Rd H a (.lst xs) ∨
    ∃ (o:Obj) (its:Array Value) (n:Nat),K.lookup a=some o∧o.cls=.type "list"∧o.dict=none∧o.data=.seq its n∧its.size≤sizeLine∧Vals xs its.toList
def SqT (K:PySem.W.Frag) (H:Hp) (a:Addr) (xs:List V):Prop :=
  Rd H a (.tup xs) ∨
    ∃ (o:Obj) (its:Array Value) (n:Nat),K.lookup a=some o∧o.cls=.type "tuple"∧o.data=.seq its n∧its.size≤sizeLine∧Vals xs its.toList
def cK:Value→Option V
  | .none=>some .non
  | .bool b=>some (.bl b)
  | .int i _=>some (.int i)
  | .str x _=>some (.str x)
  | .bytes b _=>some (.byt b)
  | .float b _=>some (.flt b)
  | .ref a=>some (.ref a)
  | .type n=>some (.ty n)
  | _=>none
theorem RelV.abs {x:V}{u:Value}(r:RelV x u):cK u=some x:=by
  cases x with
  | non=>cases r;rfl
  | bl _=>cases r;rfl
  | int _=>obtain⟨t,rfl⟩:=r;rfl
  | str _=>obtain⟨t,rfl⟩:=r;rfl
  | byt _=>obtain⟨t,rfl⟩:=r;rfl
  | flt _=>obtain⟨t,rfl⟩:=r;rfl
  | ref _=>cases r;rfl
  | ty _=>cases r;rfl
theorem RelV.inj {x y:V}{u:Value}(r:RelV x u) (q:RelV y u):x=y:=Option.some.inj (r.abs.symm.trans q.abs)
theorem Vals.inj:∀ {xs ys:List V}{us:List Value},Vals xs us→Vals ys us→xs=ys
  | _,_,_,.nil,.nil=>rfl
  | _,_,_,.cons r t,.cons r' t'=>by rw[r.inj r',Vals.inj t t']
section
variable {X:Cx}{pins:List (Addr × Obj)}{σ:St}{H:Hp}{s:Shared}{a:Addr}{xs ys:List V}
theorem SqL.of {K:PySem.W.Frag}(h:H a=some (.lst xs)):SqL K H a xs:=.inl (.inl h)
theorem SqT.of {K:PySem.W.Frag}(h:H a=some (.tup xs)):SqT K H a xs:=.inl (.inl h)
theorem Inv.list (I:Inv X pins σ H s) (h:SqL X.K H a xs):∃ its:List Value,Vals xs its∧PlainL s.heap a its.toArray∧xs.length≤sizeLine:=by
  rcases h with h|⟨o,its,n,hk,hc,hd,hs,hz,r⟩
  · obtain⟨z,its,n,r,e⟩:=h.ok I.hok
    exact⟨its,r,⟨_,n,e,rfl,rfl,rfl⟩,z⟩
  · refine⟨its.toList,r,⟨o,n,I.kIn a o hk,hc,hd,by simpa using hs⟩,?_⟩
    have e:=r.length
    simp only[Array.length_toList]at e
    omega
theorem Inv.tuple (I:Inv X pins σ H s) (h:SqT X.K H a xs):∃ its:List Value,Vals xs its∧IsTup s.heap a its.toArray∧xs.length≤sizeLine:=by
  rcases h with h|⟨o,its,n,hk,hc,hs,hz,r⟩
  · obtain⟨z,its,r,p⟩:=h.ok I.hok
    exact⟨its,r,p.tup,z⟩
  · refine⟨its.toList,r,⟨o,I.kIn a o hk,hc,n,by simpa using hs⟩,?_⟩
    have e:=r.length
    simp only[Array.length_toList]at e
    omega
theorem Inv.list_inj (I:Inv X pins σ H s) (h:SqL X.K H a xs) (h':SqL X.K H a ys):xs=ys:=by
  obtain⟨its,r,⟨o,n,e,_,_,d⟩,_⟩:=I.list h
  obtain⟨its',r',⟨o',n',e',_,_,d'⟩,_⟩:=I.list h'
  rw[e]at e';cases e'
  rw[d]at d'
  injection d' with d1 _
  have:its=its':=by simpa using congrArg Array.toList d1
  subst this
  exact r.inj r'
theorem Inv.tuple_inj (I:Inv X pins σ H s) (h:SqT X.K H a xs) (h':SqT X.K H a ys):xs=ys:=by
  obtain⟨its,r,⟨o,e,_,n,d⟩,_⟩:=I.tuple h
  obtain⟨its',r',⟨o',e',_,n',d'⟩,_⟩:=I.tuple h'
  rw[e]at e';cases e'
  rw[d]at d'
  injection d' with d1 _
  have:its=its':=by simpa using congrArg Array.toList d1
  subst this
  exact r.inj r'
end
abbrev Cx.wish (X:Cx) (E:Value→Shared→Prop):Cx:={ X with xe:=E }
abbrev Cx.nox (X:Cx):Cx:=X.wish fun _ _=>False
theorem Cx.Ok.wish {X:Cx}(ok:X.Ok) (E:Value→Shared→Prop):(X.wish E).Ok :=
  ⟨ok.mod,ok.kind,ok.glob,ok.blt,ok.above,ok.inj,ok.has,ok.cab,ok.hd,ok.frames,ok.stk,ok.exf,ok.bs,ok.bsz,ok.noex,ok.exfs,ok.funs,ok.frf⟩
theorem Cx.Ok.unwish {X:Cx}{E:Value→Shared→Prop}(ok:(X.wish E).Ok):X.Ok :=
  ⟨ok.mod,ok.kind,ok.glob,ok.blt,ok.above,ok.inj,ok.has,ok.cab,ok.hd,ok.frames,ok.stk,ok.exf,ok.bs,ok.bsz,ok.noex,ok.exfs,ok.funs,ok.frf⟩
section
variable {X:Cx}{pins:List (Addr × Obj)}{σ:St}{H:Hp}{s:Shared}{E:Value→Shared→Prop}
theorem Inv.wish (I:Inv X pins σ H s) (E:Value→Shared→Prop):Inv (X.wish E) pins σ H s:=⟨I.ok.wish E,I.os,I.bare,I.base,I.loc,I.cell,I.free,I.freeC,I.pin,I.hok,I.len⟩
theorem Inv.unwish (I:Inv (X.wish E) pins σ H s):Inv X pins σ H s:=⟨I.ok.unwish,I.os,I.bare,I.base,I.loc,I.cell,I.free,I.freeC,I.pin,I.hok,I.len⟩
theorem SP.unwish {D:Ends}{f:Flow}{s':Shared}(h:SP (X.wish E) pins D f s'):SP X pins D f s':=by
  cases f with
  | next=>obtain⟨σ',H',I,q⟩:=h;exact⟨σ',H',I.unwish,q⟩
  | brk=>obtain⟨σ',H',I,q⟩:=h;exact⟨σ',H',I.unwish,q⟩
  | cont=>obtain⟨σ',H',I,q⟩:=h;exact⟨σ',H',I.unwish,q⟩
  | ret u=>obtain⟨v,σ',H',I,r,q⟩:=h;exact⟨v,σ',H',I.unwish,r,q⟩
theorem PSs.nox {st:List Stmt}{t:TS}(h:PSs X.nox st t):PSs X st t:=fun pins s σ H D I hw =>
  wpAny_mono (h pins s σ H D (I.wish _) hw) (fun _ _ q=>q.unwish) fun _ _ z=>False.elim z
end
section
variable {X:Cx}{st:Stmt}{rest:List Stmt}{t u:TS}{e:Expr}{te:TE}{pos:Pos}
def fO:TS:=fun D σ H=>D.nx σ H
def nH (t u:TS):TS:=fun D σ H=>t { D with nx:=u D } σ H
theorem zk:PSs X [] fO:=fun _ _ σ H _ I h=>wpAny_execs_nil ⟨σ,H,I,h⟩
theorem zF (h1:PS X st t) (h2:PSs X rest u):PSs X (st::rest) (nH t u):=by
  intro pins s σ H D I h
  refine wpAny_execs_cons (thn (h1 pins s σ H { D with nx:=u D } I h) fun f s1 q=>?_)
  cases f with
  | next =>
    obtain⟨σ',H',I',q⟩:=q
    exact h2 pins s1 σ' H' D I' q
  | ret v=>exact q
  | brk=>exact q
  | cont=>exact q
theorem zK (h1:PS X st t):PSs X [st] t:=by
  intro pins s σ H D I h
  refine wpAny_execs_cons (thn (h1 pins s σ H D I h) fun f s1 q=>?_)
  cases f with
  | next=>exact wpAny_execs_nil q
  | ret v=>exact q
  | brk=>exact q
  | cont=>exact q
theorem Inv.quiet {pins:List (Addr × Obj)}{σ:St}{H:Hp}{s:Shared}(I:Inv X pins σ H s):interactive X.env=false:=by simp[interactive,I.ok.kind]
def fZ (te:TE):TS:=fun D σ H=>te σ H fun _ H1=>D.nx σ H1
theorem xH (he:PE X e te) (hs:swapsWith e none pos.line X.env=pure false:=by rfl):PS X (.Expr e pos) (fZ te):=by
  intro pins s σ H D I h
  exact wpAny_Expr_any (thn (he pins s σ H _ I h) fun v s1 ⟨x,H1,I1,r1,q1⟩=>⟨σ,H1,I1,q1⟩) I.quiet hs
def eZ (te:TE):TS:=fun D σ H=>te σ H D.rt
theorem zU (he:PE X e te):PS X (.Return (some e) pos) (eZ te):=by
  intro pins s σ H D I h
  exact wpAny_Return_some (thn (he pins s σ H _ I h) fun v s1 ⟨x,H1,I1,r1,q1⟩=>⟨x,σ,H1,I1,r1,q1⟩)
def io (c:TT) (t u:TS):TS:=fun D σ H=>c σ H fun b H1=>if b=true then t D σ H1 else u D σ H1
theorem yM {c:Expr}{a b:List Stmt}{tc:TT}(hc:PT X c tc) (ha:PSs X a t) (hb:PSs X b u):PS X (.If c a b pos) (io tc t u):=by
  intro pins s σ H D I h
  refine wpAny_If (thn (hc pins s σ H _ I h) fun d s1 ⟨H1,I1,q1⟩=>?_)
  cases d with
  | true=>exact ha pins s1 σ H1 D I1 q1
  | false=>exact hb pins s1 σ H1 D I1 q1
end
abbrev TG:=V→St→Hp→(St→Hp→Prop)→Prop
abbrev TGs:=List V→St→Hp→(St→Hp→Prop)→Prop
def PG (X:Cx) (target:Expr) (t:TG):Prop :=
  ∀ (pins:List (Addr × Obj)) (s:Shared) (σ:St) (H:Hp) (v:V) (u:Value) (Q:St→Hp→Prop),Inv X pins σ H s→RelV v u→t v σ H Q →
    wpAny (model X.prog X.w) X.A (assign target X.env u) (fun _ s'=>∃ σ' H',Inv X pins σ' H' s'∧Q σ' H') X.xe s
def PGs (X:Cx) (ts:List Expr) (t:TGs):Prop :=
  ∀ (pins:List (Addr × Obj)) (s:Shared) (σ:St) (H:Hp) (vs:List V) (us:List Value) (Q:St→Hp→Prop),Inv X pins σ H s→Vals vs us→t vs σ H Q →
    wpAny (model X.prog X.w) X.A (assignInOrder ((assignEach ts X.env).map (·.2)) us) (fun _ s'=>∃ σ' H',Inv X pins σ' H' s'∧Q σ' H') X.xe s
abbrev TSet:=V→V→V→Hp→(Hp→Prop)→Prop
def PSet (X:Cx) (t:TSet):Prop :=
  ∀ (pins:List (Addr × Obj)) (s:Shared) (σ:St) (H:Hp) (o i v:V) (ov iv u:Value) (Q:Hp→Prop),Inv X pins σ H s→RelV o ov→RelV i iv→RelV v u→t o i v H Q →
    wpAny (model X.prog X.w) X.A (setItem ov iv u) (fun _ s'=>∃ H',Inv X pins σ H' s'∧Q H') X.xe s
section
variable {X:Cx}{pos:Pos}
def xp (i:Nat):TG:=fun v σ H Q=>Q (σ.set i (some v)) H
theorem zL {i:Nat}{x:Str}(hN:X.N.Nodup) (hi:X.N[i]?=some x) (hx:Loc X.env.scope x) (hf:X.fn x=true∨X.env.scope.names.lookup x=some .local:=by first|exact .inl rfl|exact .inr rfl|assumption):PG X (.Name x pos) (xp i):=by
  intro pins s σ H v u Q I r h
  exact wpAny_assign_Name (xD I hN hi hx r (fun s' I'=>⟨_,H,I',h⟩) hf)
def iI:TGs:=fun vs σ H Q=>vs=[]∧Q σ H
def uT (t:TG) (u:TGs):TGs:=fun vs σ H Q=>∃ v r,vs=v::r∧t v σ H fun σ' H'=>u r σ' H' Q
theorem zt:PGs X [] iI:=by
  intro pins s σ H vs us Q I r h
  obtain⟨e,h⟩:=h
  subst e
  cases r
  exact assignInOrder_nil ⟨σ,H,I,h⟩
theorem zN {e:Expr}{es:List Expr}{t:TG}{u:TGs}(h1:PG X e t) (h2:PGs X es u)
    (hs:(assignEach (e::es) X.env).map (·.2)=assign e X.env::(assignEach es X.env).map (·.2):=by rfl):PGs X (e::es) (uT t u):=by
  intro pins s σ H vs us Q I r h
  obtain⟨v,vr,e1,h⟩:=h
  subst e1
  cases r with
  | cons r rr =>
    rw[hs]
    refine assignInOrder_cons (thn (h1 pins s σ H _ _ _ I r h) fun _ s1 ⟨σ1,H1,I1,q1⟩=>?_)
    exact h2 pins s1 σ1 H1 _ _ Q I1 rr q1
def iH (K:PySem.W.Frag) (n:Nat) (t:TGs):TG:=fun v σ H Q=>∃ a xs,v=.ref a∧SqT K H a xs∧xs.length=n∧t xs σ H Q
theorem yE {es:List Expr}{k:Nat}{t:TGs}{n:Nat}(hc:X.calm=true) (h:PGs X es t)
    (hn:(assignEach es X.env).length=n:=by rfl) (hst:(assignEach es X.env).findIdx? (·.1)=none:=by rfl):PG X (.Tuple es k pos) (iH X.K n t):=by
  intro pins s σ H v u Q I r hw
  obtain⟨a,xs,e1,hq,hl,hw⟩:=hw
  subst e1
  cases r
  obtain⟨its,rv,ht,hz⟩:=I.tuple hq
  refine assign_Tuple_tuple (I.ok.hd hc) ht (by simp[hn,← hl,rv.length]) hst fun h' hx=>?_
  have I1:Inv X pins σ H { s with heap:=h' }:=I.kept (t':=s.toks) fun b o e=>hx b o (Nat.ne_of_lt (Heap.lt_size e)) e
  exact h pins _ σ H xs _ Q I1 (by simpa using rv) hw
def cJ (to ti:TE) (t:TSet):TG:=fun v σ H Q=>to σ H fun o H1=>ti σ H1 fun i H2=>t o i v H2 fun H3=>Q σ H3
theorem xV {o i:Expr}{to ti:TE}{t:TSet}(ho:PE X o to) (hi:PE X i ti) (hs:PSet X t)
    (ha:∀ v,assign (.Subscript o i pos) X.env v=(do
      let ov ← holding [v] (eval o X.env)
      let iv ← holding [v,ov] (eval i X.env)
      standAt pos
      holding [v,ov,iv] (setItem ov iv v)
      release [v,ov,iv] []):=by intro _;rfl):PG X (.Subscript o i pos) (cJ to ti t):=by
  intro pins s σ H v u Q I r h
  rw[ha]
  refine wpAny_bind (wpAny_holding (thn (ho pins s σ H _ I h) fun ov s1 ⟨x,H1,I1,r1,q1⟩=>?_))
  refine wpAny_bind (wpAny_holding (thn (hi pins s1 σ H1 _ I1 q1) fun iv s2 ⟨y,H2,I2,r2,q2⟩=>?_))
  refine wpAny_bind (wpAny_standAt (wpAny_bind (wpAny_holding (thn (hs pins s2 σ H2 x y v ov iv u _ I2 r1 r2 r q2) fun _ s3 ⟨H3,I3,q3⟩=>?_))))
  exact wpAny_release ⟨σ,H3,I3,q3⟩
def ja (te:TE) (g:TG):TS:=fun D σ H=>te σ H fun x H1=>g x σ H1 D.nx
theorem yG {tg e:Expr}{te:TE}{g:TG}(he:PE X e te) (hg:PG X tg g) (hs:swapsWithSole [tg] e pos.line X.env=pure false:=by rfl) (hw:swappedStores [tg] e X.env=pure none:=by rfl)
    (h1:(assignEach [tg] X.env).map (·.2)=[assign tg X.env]:=by rfl):PS X (.Assign [tg] e pos) (ja te g):=by
  intro pins s σ H D I h
  refine wpAny_Assign_stores (thn (he pins s σ H _ I h) fun v s1 ⟨x,H1,I1,r1,q1⟩=>?_) hs hw
  rw[h1]
  exact thn (hg pins s1 σ H1 x v _ I1 r1 q1) fun _ s2 q=>q
theorem zi {i:Nat}{x:Str}{e:Expr}{te:TE}{pos':Pos}(hN:X.N.Nodup) (hi:X.N[i]?=some x) (hx:Loc X.env.scope x) (he:PE X e te) (hs:swapsWith e (some (.Name x pos')) pos.line X.env=pure false:=by rfl) (hf:X.fn x=true∨X.env.scope.names.lookup x=some .local:=by first|exact .inl rfl|exact .inr rfl|assumption) :
    PS X (.Assign [.Name x pos'] e pos) (ja te (xp i)):=by
  intro pins s σ H D I h
  refine wpAny_Assign_Name (thn (he pins s σ H _ I h) fun v s1 ⟨y,H1,I1,r1,q1⟩=>?_) hs
  exact xD I1 hN hi hx r1 (fun s2 I2=>⟨_,H1,I2,q1⟩) hf
def ee (i j:Nat) (ta:TA):TS:=fun D σ H=>ta σ H fun vs H1=>∃ v w,vs=[v,w]∧D.nx ((σ.set i (some v)).set j (some w)) H1
theorem uE {i j:Nat}{x y:Str}{a b:Expr}{ta:TA}{px py pt:Pos}{kt k2 pt2} (hc:X.calm=true) (hN:X.N.Nodup) (hi:X.N[i]?=some x) (hj:X.N[j]?=some y) (hij:i≠j)
    (hx:X.env.scope.names.lookup x=some .local) (hy:X.env.scope.names.lookup y=some .local) (ha:PA X [a,b] ta)
    (hw:swappedStores [.Tuple [.Name x px,.Name y py] kt pt] (.Tuple [a,b] k2 pt2) X.env=pure (some [x,y]))
    (hs:swapsWithSole [.Tuple [.Name x px,.Name y py] kt pt] (.Tuple [a,b] k2 pt2) pos.line X.env=pure false:=by rfl) :
    PS X (.Assign [.Tuple [.Name x px,.Name y py] kt pt] (.Tuple [a,b] k2 pt2) pos) (ee i j ta):=by
  intro pins s σ H D I h
  rw[exec_Assign_arm]
  refine wpAny_bind (wpAny_standAt ?_)
  rw[hs]
  refine wpAny_bind (wpAny_pure ?_)
  rw[if_neg (by decide)]
  refine wpAny_bind (Tuple_ (thn (ha _ pins s σ H _ I h) fun us s1 ⟨vs,H1,I1,r1,q1⟩=>?_))
  obtain⟨v,w,e1,q1⟩:=q1
  subst e1
  obtain⟨u1,u2,rfl,rv,rw'⟩:∃ u1 u2,us=[u1,u2]∧RelV v u1∧RelV w u2:=by
    cases r1 with
    | cons p q =>
      cases q with
      | cons p' q' =>
        cases q'
        exact⟨_,_,rfl,p,p'⟩
  refine wpAny_newObj_type ?_ (by show 2≤sizeLine;decide)
  have I2:Inv X pins σ H1 { s1 with heap:=s1.heap.push { cls:=.type "tuple",data:=.seq [u1,u2].toArray } }:=I1.kept (t':=s1.toks) fun b o e=>Heap.get?_push_of_some _ e
  rw[hw]
  refine wpAny_bind (wpAny_pure ?_)
  show wpAny (model X.prog X.w) X.A (do rule "assign.swapped-stores";let items ← unpackItems (.ref s1.heap.objs.size) 2 none;assignInOrder [fun v=>bindName X.env y v,fun v=>bindName X.env x v] items.reverse;pure Flow.next) _ _ _
  refine wpAny_bind (wpAny_rule (wpAny_bind (unpackItems_tuple (items:=#[u1,u2]) (I.ok.hd hc) (IsTup.new s1.heap _) fun h' hx'=>?_)))
  have I3:=I2.kept (h':=h') (t':=s1.toks) fun b o e=>hx' b o (Nat.ne_of_lt (Heap.lt_size e)) e
  show wpAny _ _ (assignInOrder [fun v=>bindName X.env y v,fun v=>bindName X.env x v] [u2,u1] >>= fun _=>pure Flow.next) _ _ _
  refine wpAny_bind (assignInOrder_cons (wpAny_bindName (xD I3 hN hj (.inl hy) rw' (fun s2 I4=>?_) (.inr hy))))
  refine assignInOrder_cons (wpAny_bindName (xD I4 hN hi (.inl hx) rv (fun s3 I5=>assignInOrder_nil (wpAny_pure ?_)) (.inr hx)))
  rw[List.set_comm _ _ (Ne.symm hij)]at I5
  exact⟨_,H1,I5,q1⟩
end
section
variable {X:Cx}{pos:Pos}
def ii (c:TT) (tb:TS):TS:=fun D σ H=>∃ W:Nat→St→Hp→Prop,(∃ m,W m σ H)∧∀ m σ H,W m σ H →
  c σ H fun b H1=>if b=true then ∃ N:St→Hp→Prop,(∀ σ' H',N σ' H'→∃ m',m'<m∧W m' σ' H')∧tb { D with nx:=N,ct:=N,bk:=D.nx } σ H1 else D.nx σ H1
theorem uC {c:Expr}{body:List Stmt}{tc:TT}{tb:TS}(hp:PassesOwn (model X.prog X.w) X.A X.env X.xe) (hc:PT X c tc) (hb:PSs X body tb):PS X (.While c body [] pos) (ii tc tb):=by
  intro pins s σ H D I h
  obtain⟨W,⟨m0,w0⟩,turn⟩:=h
  refine wpAny_While (codeAny_whileLoop (fun n s'=>∃ σ' H',Inv X pins σ' H' s'∧W n σ' H') ?_ m0 ⟨σ,H,I,w0⟩)
  rintro n s1 ⟨σ1,H1,I1,w1⟩
  refine wpAny_passesOwn hp (thn (hc pins s1 σ1 H1 _ I1 (turn n σ1 H1 w1)) fun b s2 ⟨H2,I2,q2⟩=>?_)
  cases b with
  | true =>
    obtain⟨N,hN,q2⟩:=q2
    rw[if_pos rfl]
    refine wpAny_passesOwn hp (thn (hb pins s2 σ1 H2 _ I2 q2) fun f s3 q3=>?_)
    cases f with
    | next =>
      obtain⟨σ3,H3,I3,n3⟩:=q3
      obtain⟨m',hm,w3⟩:=hN σ3 H3 n3
      exact⟨m',hm,σ3,H3,I3,w3⟩
    | cont =>
      obtain⟨σ3,H3,I3,n3⟩:=q3
      obtain⟨m',hm,w3⟩:=hN σ3 H3 n3
      exact⟨m',hm,σ3,H3,I3,w3⟩
    | brk=>exact q3
    | ret v=>exact q3
  | false =>
    rw[if_neg Bool.false_ne_true]
    exact wpAny_execs_nil ⟨σ1,H2,I2,q2⟩
end
structure It where
  go:Nat→Hp→Prop
  yld:Nat→Hp→V→Hp→Prop
  stop:Nat→Hp→Prop
def FpOk (X:Cx) (pins:List (Addr × Obj)) (H:Hp) (b:Addr):Prop :=
  H b=none∧b≠X.env.locals∧b∉X.fs∧(b∈X.ex∨X.s₀.heap.objs.size≤b)∧(∀ x c,X.env.cells.lookup x=some c→c≠b)∧∀ p∈X.pn++pins,p.1≠b
theorem Inv.fpOk {X:Cx}{pins:List (Addr × Obj)}{σ:St}{H H':Hp}{s:Shared}{b:Addr}(I:Inv X pins σ H s) (hb:s.heap.objs.size≤b) (hn:H' b=none):FpOk X pins H' b:=by
  refine⟨hn,Nat.ne_of_gt (Nat.lt_of_lt_of_le I.lt hb),I.nofs hb,.inr (Nat.le_trans I.sz hb),fun x c e z=>?_,fun p hp z=>?_⟩
  · obtain⟨v,q⟩:=I.cell x c e
    exact absurd (Nat.lt_of_lt_of_le q.lt (by rw[z];exact hb)) (Nat.lt_irrefl _)
  · exact absurd (Nat.lt_of_lt_of_le (Heap.lt_size (I.pin p hp).1) (by rw[z];exact hb)) (Nat.lt_irrefl _)
structure Turn (P:Program) (w:World) (K:PySem.W.Frag) (tg:Expr) (J:It) (fp:List Addr) (it:Addr) (tn:Nat→Heap→Prop):Prop where
  mem:it∈fp
  obj:∀ i h,tn i h→∀ b∈fp,∃ o,h.get? b=some o∧∀ v,o.data≠.cell v
  keep:∀ i h h',tn i h→(∀ b∈fp,∀ o,h.get? b=some o→h'.get? b=some o)→tn i h'
  item:∀ (X:Cx),X.prog=P→X.w=w→X.K=K→X.calm=true→∀ (i:Nat) (pins:List (Addr × Obj)) (s:Shared) (σ:St) (H:Hp) (E:Value→Shared→Prop),Inv X pins σ H s→(∀ b∈fp,FpOk X pins H b)→tn i s.heap→J.go i H →
    wpAny (model P w) X.A (pyNext (.ref it)) (fun r s1=>∃ u,r=some u ∧
      wpAny (model P w) X.A (letOwnedTupleGo tg (.ref it) u) (fun _ s2=>∃ x H',Inv X pins σ H' s2∧RelV x u∧J.yld i H x H'∧tn (i+1) s2.heap∧∀ b∈fp,H' b=none) E s1) E s
  done:∀ (X:Cx),X.prog=P→X.w=w→X.K=K→X.calm=true→∀ (i:Nat) (pins:List (Addr × Obj)) (s:Shared) (σ:St) (H:Hp) (E:Value→Shared→Prop),Inv X pins σ H s→(∀ b∈fp,FpOk X pins H b)→tn i s.heap→J.stop i H →
    wpAny (model P w) X.A (pyNext (.ref it)) (fun r s1=>r=none∧Inv X pins σ H s1) E s
  self:∀ (A:Around) (i:Nat) (s:Shared) (Q:Value→Shared→Prop) (E:Value→Shared→Prop),tn i s.heap→Q (.ref it) s→wpAny (model P w) A (pyIter (.ref it)) Q E s
abbrev TI:=St→Hp→(It→Hp→Prop)→Prop
def PIE (X:Cx) (pins:List (Addr × Obj)) (σ:St) (tg:Expr) (R:It→Hp→Prop) (itv:Value) (s2:Shared):Prop :=
  ∃ (it:Addr) (fp:List Addr) (tn:Nat→Heap→Prop) (J:It) (H':Hp),itv=.ref it∧Inv X pins σ H' s2∧Turn X.prog X.w X.K tg J fp it tn∧tn 0 s2.heap∧(∀ b∈fp,FpOk X pins H' b)∧R J H'
def PI (X:Cx) (tg iter:Expr) (wi:TI):Prop :=
  ∀ (pins:List (Addr × Obj)) (s:Shared) (σ:St) (H:Hp) (R:It→Hp→Prop),Inv X pins σ H s→wi σ H R →
    wpAny (model X.prog X.w) X.A (eval iter X.env) (fun v s1=>wpAny (model X.prog X.w) X.A (pyIter v) (PIE X pins σ tg R) X.xe s1) X.xe s
theorem jA {M:Model}{A:Around}{E:Value→Shared→Prop}{s:Shared}{tg:Expr}{it:Addr}{u:Value}{o:Obj}{n:String}{vs:Array Value}{Q:Unit→Shared→Prop}(ho:s.heap.get? it=some o) (hc:o.cls=.type n) (hd:o.data=.fields vs)
    (hn:["enumerate","zip","dict_itemiterator","dict_reverseitemiterator","odict_iterator","itertools.zip_longest","itertools.pairwise"].contains n=false) (hQ:Q () s):wpAny M A (letOwnedTupleGo tg (.ref it) u) Q E s:=by
  unfold letOwnedTupleGo
  cases tg<;>first
    | exact wpAny_pure hQ
    | (cases u<;>first
        | exact wpAny_pure hQ
        | (refine wpAny_bind (wpAny_load ho ?_)
           rw[hc,hd]
           show wpAny M A (if (["enumerate","zip","dict_itemiterator","dict_reverseitemiterator","odict_iterator","itertools.zip_longest","itertools.pairwise"].contains n && vs[0]? == some (rawInt _))=true then _ else _) Q E s
           rw[if_neg (by intro h;rw[hn,Bool.false_and]at h;cases h)]
           exact wpAny_pure hQ))
def Itl (K:PySem.W.Frag) (a:Addr):It :=
  ⟨fun i H=>∃ xs x,SqL K H a xs∧xs[i]?=some x,fun i H x H'=>H'=H∧∀ xs,SqL K H a xs→xs[i]?=some x,fun i H=>∃ xs,SqL K H a xs∧xs.length≤i⟩
def Itt (K:PySem.W.Frag) (a:Addr):It :=
  ⟨fun i H=>∃ xs x,SqT K H a xs∧xs[i]?=some x,fun i H x H'=>H'=H∧∀ xs,SqT K H a xs→xs[i]?=some x,fun i H=>∃ xs,SqT K H a xs∧xs.length≤i⟩
def Itr (lo:Int) (n:Nat):It:=⟨fun i _=>i<n,fun i H x H'=>H'=H∧x=.int (lo+i),fun i _=>n≤i⟩
theorem nD {P:Program}{w:World}{K:PySem.W.Frag}{tg:Expr}(a it:Addr):Turn P w K tg (Itl K a) [it] it (fun i h=>h.IsListIter it a i) where
  mem:=by simp
  obj:=fun i h st b hb=>by
    have e:b=it:=by simpa using hb
    subst e
    obtain⟨o,e,c,d⟩:=st
    exact⟨o,e,fun v z=>by rw[d]at z;cases z⟩
  keep:=fun i h h' st k=>st.at fun o e=>k it (by simp) o e
  item:=by
    intro X hP hw hK hc i pins s σ H E I hf st hg
    subst hP hw hK
    obtain⟨xs,x,hq,hx⟩:=hg
    obtain⟨its,rv,p,hz⟩:=I.list hq
    obtain⟨u,hu,ru⟩:=rv.get hx
    obtain⟨f0,f1,f2,f3,f4,f5⟩:=hf it (by simp)
    refine wpAny_pyNext_list_item st p.isList (x:=u) (by simpa using hu) fun h' st' sb=>?_
    have I1:Inv X pins σ H { s with heap:=h' }:=I.turned (t':=s.toks) (fun b o hb e=>(sb.2 b hb).trans e) f0 f1 f3 f4 f5
    obtain⟨o,e,c,d⟩:=id st'
    exact⟨u,rfl,jA (s:={ s with heap:=h' }) e c d (by decide) ⟨x,H,I1,ru,⟨rfl,fun ys hy=>by rw[I.list_inj hy hq];exact hx⟩,st',fun b hb=>(hf b hb).1⟩⟩
  done:=by
    intro X hP hw hK hc i pins s σ H E I hf st hg
    subst hP hw hK
    obtain⟨xs,hq,hx⟩:=hg
    obtain⟨its,rv,p,hz⟩:=I.list hq
    obtain⟨f0,f1,f2,f3,f4,f5⟩:=hf it (by simp)
    have hl:=rv.length
    exact wpAny_pyNext_list_end (I.ok.hd hc) st p.isList (by simp;omega) fun h' eb=>⟨rfl,I.turned (t':=s.toks) (fun b o hb e=>eb b o hb e) f0 f1 f3 f4 f5⟩
  self:=fun _ _ _ _ _ st h=>wpAny_pyIter_listiter st h
theorem qQ {P:Program}{w:World}{K:PySem.W.Frag}{tg:Expr}(a it:Addr):Turn P w K tg (Itt K a) [it] it (fun i h=>h.IsTupleIter it a i) where
  mem:=by simp
  obj:=fun i h st b hb=>by
    have e:b=it:=by simpa using hb
    subst e
    obtain⟨o,e,c,d⟩:=st
    exact⟨o,e,fun v z=>by rw[d]at z;cases z⟩
  keep:=fun i h h' st k=>st.at fun o e=>k it (by simp) o e
  item:=by
    intro X hP hw hK hc i pins s σ H E I hf st hg
    subst hP hw hK
    obtain⟨xs,x,hq,hx⟩:=hg
    obtain⟨its,rv,p,hz⟩:=I.tuple hq
    obtain⟨u,hu,ru⟩:=rv.get hx
    obtain⟨f0,f1,f2,f3,f4,f5⟩:=hf it (by simp)
    refine wpAny_pyNext_tuple_item st (show s.heap.IsTuple a its.toArray from p) (x:=u) (by simpa using hu) fun h' st' sb=>?_
    have I1:Inv X pins σ H { s with heap:=h' }:=I.turned (t':=s.toks) (fun b o hb e=>(sb.2 b hb).trans e) f0 f1 f3 f4 f5
    obtain⟨o,e,c,d⟩:=id st'
    exact⟨u,rfl,jA (s:={ s with heap:=h' }) e c d (by decide) ⟨x,H,I1,ru,⟨rfl,fun ys hy=>by rw[I.tuple_inj hy hq];exact hx⟩,st',fun b hb=>(hf b hb).1⟩⟩
  done:=by
    intro X hP hw hK hc i pins s σ H E I hf st hg
    subst hP hw hK
    obtain⟨xs,hq,hx⟩:=hg
    obtain⟨its,rv,p,hz⟩:=I.tuple hq
    obtain⟨f0,f1,f2,f3,f4,f5⟩:=hf it (by simp)
    have hl:=rv.length
    exact wpAny_pyNext_tuple_end (I.ok.hd hc) st (show s.heap.IsTuple a its.toArray from p) (by simp;omega) fun h' eb=>⟨rfl,I.turned (t':=s.toks) (fun b o hb e=>eb b o hb e) f0 f1 f3 f4 f5⟩
  self:=fun _ _ _ _ _ st h=>wpAny_pyIter_tupleiter st h
theorem qS {P:Program}{w:World}{K:PySem.W.Frag}{tg:Expr}(it:Addr) (lo:Int) (n:Nat):Turn P w K tg (Itr lo n) [it] it (fun i h=>IsRangeIter h it (lo+(i:Nat)*1) ((n:Int)-(i:Nat)) 1) where
  mem:=by simp
  obj:=fun i h st b hb=>by
    have e:b=it:=by simpa using hb
    subst e
    exact⟨_,st,fun v z=>by
      have z':Data.fields _=Data.cell v:=z
      cases z'⟩
  keep:=fun i h h' st k=>k it (by simp) _ st
  item:=by
    intro X hP hw hK hc i pins s σ H E I hf st hg
    subst hP hw hK
    obtain⟨f0,f1,f2,f3,f4,f5⟩:=hf it (by simp)
    have W:=Walks.range (prog:=X.prog) (w:=X.w) (I.ok.hd hc) it lo 1 n
    refine W.item i s _ _ hg st fun v h' tk hv st' kk=>?_
    obtain⟨t,rfl⟩:=hv
    have I1:Inv X pins σ H { s with heap:=h',toks:=tk }:=I.turned (fun b o hb e=>kk b o (by simpa using hb) e) f0 f1 f3 f4 f5
    refine⟨_,rfl,jA (s:={ s with heap:=h',toks:=tk }) (n:="range_iterator") st' rfl rfl (by decide) ⟨.int (lo+i),H,I1,⟨t,?_⟩,⟨rfl,rfl⟩,st',fun b hb=>(hf b hb).1⟩⟩
    rw[Int.mul_one]
  done:=by
    intro X hP hw hK hc i pins s σ H E I hf st hg
    subst hP hw hK
    obtain⟨f0,f1,f2,f3,f4,f5⟩:=hf it (by simp)
    exact wpAny_pyNext_range_end (I.ok.hd hc) st (by have:n≤i:=hg;omega) fun h' eb=>⟨rfl,I.turned (t':=s.toks) (fun b o hb e=>eb b o hb e) f0 f1 f3 f4 f5⟩
  self:=fun _ _ _ _ _ st h=>wpAny_pyIter_rangeiter st h
section
variable {X:Cx}{tg:Expr}
def eO (K:PySem.W.Frag) (tl:TE):TI:=fun σ H R=>tl σ H fun x H1=>∃ a,x=.ref a∧(∃ xs,SqL K H1 a xs)∧R (Itl K a) H1
def eK (K:PySem.W.Frag) (tl:TE):TI:=fun σ H R=>tl σ H fun x H1=>∃ a,x=.ref a∧(∃ xs,SqT K H1 a xs)∧R (Itt K a) H1
theorem vY {l:Expr}{tl:TE}(hl:PE X l tl):PI X tg l (eO X.K tl):=by
  intro pins s σ H R I h
  refine thn (hl pins s σ H _ I h) fun v s1 ⟨x,H1,I1,r1,q1⟩=>?_
  obtain⟨a,e,⟨xs,hq⟩,q⟩:=q1
  subst e
  cases r1
  obtain⟨its,rv,p,hz⟩:=I1.list hq
  refine wpAny_pyIter_list p.isList ?_
  refine⟨s1.heap.objs.size,[s1.heap.objs.size],_,_,H1,rfl,I1.kept (t':=s1.toks) fun b o e=>Heap.get?_push_of_some _ e,nD a _,⟨_,Heap.get?_push_size _ rfl,rfl,rfl⟩,fun b hb=>?_,q⟩
  have e:b=s1.heap.objs.size:=by simpa using hb
  subst e
  exact I1.fpOk (Nat.le_refl _) (I1.hok.fresh (Nat.le_refl _))
theorem yX {l:Expr}{tl:TE}(hl:PE X l tl):PI X tg l (eK X.K tl):=by
  intro pins s σ H R I h
  refine thn (hl pins s σ H _ I h) fun v s1 ⟨x,H1,I1,r1,q1⟩=>?_
  obtain⟨a,e,⟨xs,hq⟩,q⟩:=q1
  subst e
  cases r1
  obtain⟨its,rv,p,hz⟩:=I1.tuple hq
  refine wpAny_pyIter_tuple (show s1.heap.IsTuple a its.toArray from p) ?_
  refine⟨s1.heap.objs.size,[s1.heap.objs.size],_,_,H1,rfl,I1.kept (t':=s1.toks) fun b o e=>Heap.get?_push_of_some _ e,qQ a _,⟨_,Heap.get?_push_size _ rfl,rfl,rfl⟩,fun b hb=>?_,q⟩
  have e:b=s1.heap.objs.size:=by simpa using hb
  subst e
  exact I1.fpOk (Nat.le_refl _) (I1.hok.fresh (Nat.le_refl _))
theorem lh {pins:List (Addr × Obj)}{σ:St}{H:Hp}{s:Shared}{R:It→Hp→Prop}{E:Value→Shared→Prop}{lo hi:Int}{t u v:Tok}{tk:Nat}(I:Inv X pins σ H s) (h1:-(2 ^ 62)≤lo) (h2:lo<2 ^ 62) (h3:-(2 ^ 62)≤hi) (h4:hi<2 ^ 62)
    (q:R (Itr lo (hi-lo).toNat) H):wpAny (model X.prog X.w) X.A (pyIter (.ref s.heap.objs.size)) (PIE X pins σ tg R) E { s with heap:=s.heap.push { cls:=.type "range",data:=.fields #[.int lo t,.int hi u,.int 1 v] },toks:=tk }:=by
  refine wpAny_pyIter_range (IsRange.new ..) (small_one h1 h2 h3 h4) ?_
  have I1:Inv X pins σ H { s with heap:=s.heap.push { cls:=.type "range",data:=.fields #[.int lo t,.int hi u,.int 1 v] },toks:=tk }:=I.kept fun b o e=>Heap.get?_push_of_some _ e
  refine⟨(s.heap.push { cls:=.type "range",data:=.fields #[.int lo t,.int hi u,.int 1 v] }).objs.size,[(s.heap.push { cls:=.type "range",data:=.fields #[.int lo t,.int hi u,.int 1 v] }).objs.size],_,_,H,rfl,
    I1.kept (t':=tk) fun b o e=>Heap.get?_push_of_some _ e,qS _ lo (hi-lo).toNat,?_,fun b hb=>?_,q⟩
  · have e1:lo+((0:Nat):Int)*1=lo:=by simp
    have e2:(((hi-lo).toNat:Nat):Int)-((0:Nat):Int)=Builtin.Range.rangeSize lo hi 1:=by rw[rangeSize_one];split<;>omega
    show IsRangeIter _ _ (lo+((0:Nat):Int)*1) ((((hi-lo).toNat:Nat):Int)-((0:Nat):Int)) 1
    rw[e1,e2]
    exact Heap.get?_push_size _ rfl
  · have e:b=(s.heap.push { cls:=.type "range",data:=.fields #[.int lo t,.int hi u,.int 1 v] }).objs.size:=by simpa using hb
    subst e
    exact I1.fpOk (Nat.le_refl _) (I1.hok.fresh (Nat.le_refl _))
def eL (ta:TA):TI:=fun σ H R=>ta σ H fun vs H1=>∃ j:Int,vs=[.int j]∧-(2 ^ 62)≤j∧j<2 ^ 62∧R (Itr 0 j.toNat) H1
theorem yb {a:Expr}{ta:TA}{p pos:Pos}(hg:Gl X "range") (hm:X.mg "range" = none) (ha:PA X [a] ta) (hs:starEach [a] X.env=[(false,eval a X.env)]:=by rfl):PI X tg (.Call (.Name "range" p) [a] [] pos) (eL ta):=by
  intro pins s σ H R I h
  refine Call_ (xL I hg hm boot_range (PyProof.Rows.callWith_type1 (thn (ha pos pins s σ H _ I h) fun us s1 ⟨vs,H1,I1,r1,q1⟩=>?_) hs rfl))
  obtain⟨j,e,q1,q2,q⟩:=q1
  subst e
  cases r1 with
  | cons r rr =>
    cases rr
    obtain⟨t,rfl⟩:=r
    exact call_range_1 (lh I1 (by omega) (by omega) q1 q2 (by simpa using q))
def ip (wi:TI) (g:TG) (tb:TS):TS:=fun D σ H=>wi σ H fun J H1=>∃ W:Nat→Nat→St→Hp→Prop,(∃ m,W 0 m σ H1)∧∀ i m σ H,W i m σ H →
  (J.stop i H∧D.nx σ H)∨(J.go i H∧∃ N:St→Hp→Prop,(∀ σ' H',N σ' H'→∃ m',m'<m∧W (i+1) m' σ' H')∧∀ x H',J.yld i H x H'→g x σ H' fun σ2 H2=>tb { D with nx:=N,ct:=N,bk:=D.nx } σ2 H2)
def xU (fp:List Addr) (h:Heap):List (Addr × Obj):=fp.filterMap fun b=>(h.get? b).map fun o=>(b,o)
theorem yK {fp:List Addr}{h:Heap}{b:Addr}{o:Obj}(hb:b∈fp) (e:h.get? b=some o):(b,o)∈xU fp h:=List.mem_filterMap.mpr ⟨b,hb,by rw[e];rfl⟩
theorem nq {fp:List Addr}{h:Heap}{p:Addr × Obj}(hp:p∈xU fp h):p.1∈fp∧h.get? p.1=some p.2:=by
  obtain⟨b,hb,e⟩:=List.mem_filterMap.mp hp
  cases q:h.get? b with
  | none=>rw[q]at e;cases e
  | some o =>
    rw[q]at e
    have e':(b,o)=p:=Option.some.inj e
    subst e'
    exact⟨hb,q⟩
theorem Inv.pinned {pins:List (Addr × Obj)}{σ:St}{H:Hp}{s:Shared}{fp:List Addr}(I:Inv X pins σ H s) (hf:∀ b∈fp,FpOk X pins H b) (ho:∀ b∈fp,∃ o,s.heap.get? b=some o∧∀ v,o.data≠.cell v):Inv X (pins++xU fp s.heap) σ H s :=
  I.pins_of fun p hp=>(List.mem_append.mp hp).elim (fun z=>I.pin p (List.mem_append_right _ z)) fun z=>by
    obtain⟨hb,e⟩:=nq z
    obtain⟨f0,f1,f2,_⟩:=hf p.1 hb
    obtain⟨o,e',d⟩:=ho p.1 hb
    rw[e]at e';cases e'
    exact⟨e,f0,f1,f2,d⟩
theorem Inv.unpinned {pins pl:List (Addr × Obj)}{σ:St}{H:Hp}{s:Shared}(I:Inv X (pins++pl) σ H s):Inv X pins σ H s:=I.pins_of fun p hp=>I.pin p (List.mem_append_right _ (List.mem_append_left _ hp))
theorem yn {iter:Expr}{body:List Stmt}{wi:TI}{g:TG}{tb:TS}{pos:Pos}(hp:PassesOwn (model X.prog X.w) X.A X.env X.xe) (hc:X.calm=true) (hi:PI X tg iter wi) (hg:PG X tg g) (hb:PSs X body tb)
    (hs:∀ x,foldedSetIterable iter X.env x=pure x:=by intro _;rfl):PS X (.For tg iter body [] pos) (ip wi g tb):=by
  intro pins s σ H D I h
  refine wpAny_For (thn (hi pins s σ H _ I h) fun v s1 h1=>thn h1 fun itv s2 h2=>?_) hs
  obtain⟨it,fp,tn,J,H2,e,I2,T,st2,f2,W,⟨m0,w0⟩,turn⟩:=h2
  subst e
  have stat:∀ {H':Hp},(∀ b∈fp,H' b=none)→∀ b∈fp,FpOk X pins H' b:=fun hn b hb=>⟨hn b hb,(f2 b hb).2⟩
  refine codeAny_forLoop_any (fun n s'=>∃ i σ' H',Inv X pins σ' H' s'∧tn i s'.heap∧(∀ b∈fp,H' b=none)∧W i n σ' H') ?_ m0 ⟨0,σ,H2,I2,st2,fun b hb=>(f2 b hb).1,w0⟩
  rintro n s3 ⟨i,σ3,H3,I3,st3,fr3,w3⟩
  rcases turn i n σ3 H3 w3 with ⟨stop,qn⟩|⟨go,N,hN,step⟩
  · refine wpAny_passesOwn hp (thn (T.done X rfl rfl rfl hc i pins s3 σ3 H3 X.xe I3 (stat fr3) st3 stop) fun r s4 ⟨hr,I4⟩=>?_)
    subst hr
    exact wpAny_execs_nil ⟨σ3,H3,I4,qn⟩
  · refine wpAny_passesOwn hp (thn (T.item X rfl rfl rfl hc i pins s3 σ3 H3 X.xe I3 (stat fr3) st3 go) fun r s4 ⟨u,hr,h4⟩=>?_)
    subst hr
    refine wpAny_passesOwn hp (thn h4 fun _ s5 ⟨x,H5,I5,r5,y5,st5,fr5⟩=>?_)
    have I5':=I5.pinned (stat fr5) (T.obj _ _ st5)
    refine wpAny_passesOwn hp (thn (hg _ s5 σ3 H5 x u _ I5' r5 (step x H5 y5)) fun _ s6 ⟨σ6,H6,I6,q6⟩=>?_)
    refine wpAny_passesOwn hp (thn (hb _ s6 σ6 H6 _ I6 q6) fun f s7 q7=>?_)
    have again:∀ {σ7:St}{H7:Hp},Inv X (pins++xU fp s5.heap) σ7 H7 s7→N σ7 H7→∃ m,m<n∧∃ i σ' H',Inv X pins σ' H' s7∧tn i s7.heap∧(∀ b∈fp,H' b=none)∧W i m σ' H':=fun {σ7 H7} I7 n7=>by
      obtain⟨m',hm,w7⟩:=hN σ7 H7 n7
      refine⟨m',hm,i+1,σ7,H7,I7.unpinned,T.keep _ _ _ st5 fun b hb o e=>(I7.pin (b,o) (List.mem_append_right _ (List.mem_append_right _ (yK hb e)))).1,fun b hb=>?_,w7⟩
      obtain⟨o,e,d⟩:=T.obj _ _ st5 b hb
      exact(I7.pin (b,o) (List.mem_append_right _ (List.mem_append_right _ (yK hb e)))).2.1
    cases f with
    | next=>obtain⟨σ7,H7,I7,n7⟩:=q7;exact again I7 n7
    | cont=>obtain⟨σ7,H7,I7,n7⟩:=q7;exact again I7 n7
    | brk=>obtain⟨σ7,H7,I7,q7⟩:=q7;exact⟨σ7,H7,I7.unpinned,q7⟩
    | ret v=>obtain⟨x7,σ7,H7,I7,r7,q7⟩:=q7;exact⟨x7,σ7,H7,I7.unpinned,r7,q7⟩
end
theorem wo {K:PySem.W.Frag}{a:Addr}{xs:List V}{g:TG}{tb:TS}{D:Ends}{σ:St}{H:Hp}(Pv:Nat→St→Hp→Prop) (h0:Pv 0 σ H) (hl:∀ i σ H,i≤xs.length→Pv i σ H→SqT K H a xs)
    (hs:∀ i x σ H,xs[i]?=some x→Pv i σ H→g x σ H fun σ2 H2=>tb { D with nx:=Pv (i+1),ct:=Pv (i+1),bk:=D.nx } σ2 H2) (hd:∀ σ H,Pv xs.length σ H→D.nx σ H) :
    ∃ W:Nat→Nat→St→Hp→Prop,(∃ m,W 0 m σ H)∧∀ i m σ H,W i m σ H →
      ((Itt K a).stop i H∧D.nx σ H)∨((Itt K a).go i H∧∃ N:St→Hp→Prop,(∀ σ' H',N σ' H'→∃ m',m'<m∧W (i+1) m' σ' H')∧∀ x H',(Itt K a).yld i H x H'→g x σ H' fun σ2 H2=>tb { D with nx:=N,ct:=N,bk:=D.nx } σ2 H2):=by
  refine⟨fun i m σ H=>m=xs.length-i∧i≤xs.length∧Pv i σ H,⟨xs.length,by simp,Nat.zero_le _,h0⟩,?_⟩
  rintro i m σ H ⟨rfl,hi,p⟩
  have q:=hl i σ H hi p
  by_cases hlt:i<xs.length
  · refine .inr ⟨⟨xs,xs[i],q,by simp[hlt]⟩,Pv (i+1),fun σ' H' p'=>⟨xs.length-(i+1),by omega,rfl,hlt,p'⟩,fun x H' y=>?_⟩
    obtain⟨e,y⟩:=y
    subst e
    exact hs i x σ _ (y xs q) p
  · have e:i=xs.length:=by omega
    subst e
    exact .inl ⟨⟨xs,q,Nat.le_refl _⟩,hd σ H p⟩
theorem wC {lo:Int}{n:Nat}{g:TG}{tb:TS}{D:Ends}{σ:St}{H:Hp}(Pv:Nat→St→Hp→Prop) (h0:Pv 0 σ H)
    (hs:∀ i σ H,i<n→Pv i σ H→g (.int (lo+i)) σ H fun σ2 H2=>tb { D with nx:=Pv (i+1),ct:=Pv (i+1),bk:=D.nx } σ2 H2) (hd:∀ σ H,Pv n σ H→D.nx σ H) :
    ∃ W:Nat→Nat→St→Hp→Prop,(∃ m,W 0 m σ H)∧∀ i m σ H,W i m σ H →
      ((Itr lo n).stop i H∧D.nx σ H)∨((Itr lo n).go i H∧∃ N:St→Hp→Prop,(∀ σ' H',N σ' H'→∃ m',m'<m∧W (i+1) m' σ' H')∧∀ x H',(Itr lo n).yld i H x H'→g x σ H' fun σ2 H2=>tb { D with nx:=N,ct:=N,bk:=D.nx } σ2 H2):=by
  refine⟨fun i m σ H=>m=n-i∧i≤n∧Pv i σ H,⟨n,by simp,Nat.zero_le _,h0⟩,?_⟩
  rintro i m σ H ⟨rfl,hi,p⟩
  by_cases hlt:i<n
  · refine .inr ⟨hlt,Pv (i+1),fun σ' H' p'=>⟨n-(i+1),by omega,rfl,hlt,p'⟩,fun x H' y=>?_⟩
    obtain⟨e,y⟩:=y
    subst e y
    exact hs i σ _ hlt p
  · have e:i=n:=by omega
    subst e
    exact .inl ⟨Nat.le_refl _,hd σ H p⟩
abbrev R2:=V→V→Hp→VK→Prop
def OpR (X:Cx) (f:Value→Value→Sem Value) (r:R2):Prop :=
  ∀ (pins:List (Addr × Obj)) (s:Shared) (σ:St) (H:Hp) (x y:V) (v u:Value) (Q:VK),Inv X pins σ H s→RelV x v→RelV y u→r x y H Q →
    wpAny (model X.prog X.w) X.A (f v u) (EP X pins σ Q) X.xe s
def CallR (X:Cx) (f:Value) (r:List V→Hp→VK→Prop):Prop :=
  ∀ (pins:List (Addr × Obj)) (s:Shared) (σ:St) (H:Hp) (xs:List V) (us:List Value) (Q:VK),Inv X pins σ H s→Vals xs us→r xs H Q →
    wpAny (model X.prog X.w) X.A (call f us) (EP X pins σ Q) X.xe s
def tOp (r:R2) (ta tb:TE):TE:=fun σ H Q=>ta σ H fun x H1=>tb σ H1 fun y H2=>r x y H2 Q
def rI (C:Int→Int→Prop) (g:Int→Int→V):R2:=fun x y H Q=>∃ i j,x=.int i∧y=.int j∧C i j∧Q (g i j) H
def rI0 (g:Int→Int→V):R2:=fun x y H Q=>∃ i j,x=.int i∧y=.int j∧Q (g i j) H
section
variable {X:Cx}{a b c:Expr}{ta tb tc:TE}{pos:Pos}
theorem gw (ha:PE X a ta) (hb:PE X b tb) {pins:List (Addr × Obj)}{s:Shared}{σ:St}{H:Hp}{R:V→V→Hp→Prop}(I:Inv X pins σ H s)
    (h:ta σ H fun x H1=>tb σ H1 fun y H2=>R x y H2) {Q:Value→Shared→Prop}{f:Value→Value→Sem Value}
    (hf:∀ v u s2 x y H2,Inv X pins σ H2 s2→RelV x v→RelV y u→R x y H2→wpAny (model X.prog X.w) X.A (f v u) Q X.xe s2) :
    wpAny (model X.prog X.w) X.A (eval a X.env) (fun v s₁=>wpAny (model X.prog X.w) X.A (eval b X.env) (fun u s₂=>wpAny (model X.prog X.w) X.A (f v u) Q X.xe s₂) X.xe s₁) X.xe s:=by
  refine thn (ha pins s σ H _ I h) fun v s1 ⟨x,H1,I1,r1,q1⟩=>?_
  refine thn (hb pins s1 σ H1 _ I1 q1) fun u s2 ⟨y,H2,I2,r2,q2⟩=>?_
  exact hf v u s2 x y H2 I2 r1 r2 q2
theorem zR {op:Operator}{r:R2}(ho:OpR X (binaryOp op) r) (ha:PE X a ta) (hb:PE X b tb):PE X (.BinOp a op b pos) (tOp r ta tb):=by
  intro pins s σ H Q I h
  exact wpAny_BinOp (gw ha hb I h fun v u s2 x y H2 I2 rx ry q=>ho pins s2 σ H2 x y v u Q I2 rx ry q)
theorem opI {f:Value→Value→Sem Value}{C:Int→Int→Prop}{g:Int→Int→Int}
    (rule:∀ (i j:Int) (t u:Tok) (s:Shared) (Q:Value→Shared→Prop) (E:Value→Shared→Prop),C i j→Q (.int (g i j) s.toks) { s with toks:=s.toks+1 }→wpAny (model X.prog X.w) X.A (f (.int i t) (.int j u)) Q E s) :
    OpR X f (rI C fun i j=>.int (g i j)):=by
  intro pins s σ H x y v u Q I rx ry h
  obtain⟨i,j,rfl,rfl,hc,q⟩:=h
  obtain⟨t,rfl⟩:=rx
  obtain⟨t',rfl⟩:=ry
  exact rule i j t t' s _ _ hc ⟨.int (g i j),H,I.tok _,⟨_,rfl⟩,q⟩
theorem eD {f:Value→Value→Sem Value}{g:Int→Int→Int}
    (rule:∀ (i j:Int) (t u:Tok) (s:Shared) (Q:Value→Shared→Prop) (E:Value→Shared→Prop),Q (.int (g i j) s.toks) { s with toks:=s.toks+1 }→wpAny (model X.prog X.w) X.A (f (.int i t) (.int j u)) Q E s) :
    OpR X f (rI0 fun i j=>.int (g i j)):=by
  intro pins s σ H x y v u Q I rx ry h
  obtain⟨i,j,rfl,rfl,q⟩:=h
  obtain⟨t,rfl⟩:=rx
  obtain⟨t',rfl⟩:=ry
  exact rule i j t t' s _ _ ⟨.int (g i j),H,I.tok _,⟨_,rfl⟩,q⟩
theorem jo {f:Value→Value→Sem Value}{g:Int→Int→Bool}
    (rule:∀ (i j:Int) (t u:Tok) (s:Shared) (Q:Value→Shared→Prop) (E:Value→Shared→Prop),Q (.bool (g i j)) s→wpAny (model X.prog X.w) X.A (f (.int i t) (.int j u)) Q E s) :
    OpR X f (rI0 fun i j=>.bl (g i j)):=by
  intro pins s σ H x y v u Q I rx ry h
  obtain⟨i,j,rfl,rfl,q⟩:=h
  obtain⟨t,rfl⟩:=rx
  obtain⟨t',rfl⟩:=ry
  exact rule i j t t' s _ _ ⟨.bl (g i j),H,I,rfl,q⟩
def CDiv (i j:Int):Prop:=0<j∧j<1073741824
def CPow (i j:Int):Prop:=0≤j∧j≤1000000∧i.natAbs<2 ^ 64
def CMul (i j:Int):Prop:=(-(2 ^ 64)<i∧i<2 ^ 64)∨(-(2 ^ 64)<j∧j<2 ^ 64)
theorem CMul.ok {i j:Int}(h:CMul i j):IntMulOk i j:=by
  rcases h with ⟨h1,h2⟩|⟨h1,h2⟩
  · exact .of_left (intBits_le_64 h1 h2)
  · exact .of_right (intBits_le_64 h1 h2)
theorem yJ:OpR X (binaryOp .Add) (rI0 fun i j=>.int (i+j)):=eD fun _ _ _ _ _ _ _ q=>add_int q
theorem yz:OpR X (binaryOp .Sub) (rI0 fun i j=>.int (i-j)):=eD fun _ _ _ _ _ _ _ q=>sub_int q
theorem xJ:OpR X (binaryOp .Mult) (rI CMul fun i j=>.int (i*j)):=opI fun _ _ _ _ _ _ _ hc q=>mul_int q hc.ok
theorem xW:OpR X (binaryOp .FloorDiv) (rI CDiv fun i j=>.int (i / j)):=opI fun i j _ _ _ _ _ hc q=>by
  have h1:(0:Int)<j:=hc.1
  have h2:j<1073741824:=hc.2
  exact floordiv_int (by omega) (by rw[Int.fdiv_eq_ediv_of_nonneg i (by omega)];exact q) (.inl (PyProof.noPylong_small (by omega)))
theorem xK:OpR X (binaryOp .Mod) (rI (fun _ j=>0<j) fun i j=>.int (i%j)):=opI fun i j _ _ _ _ _ hc q=>by
  have h1:(0:Int)<j:=hc
  exact mod_int' (by omega) (by rw[Int.fmod_eq_emod_of_nonneg i (by omega)];exact q)
theorem pG:OpR X (binaryOp .Pow) (rI CPow fun i j=>.int (i ^ j.toNat)):=opI fun _ _ _ _ _ _ _ hc q=>pow_int_small hc.1 hc.2.1 hc.2.2 q
end
def fg:V→V→Bool
  | .non,.non=>true|.non,.int _=>true|.int _,.non=>true|.non,.bl _=>true|.bl _,.non=>true|.non,.str _=>true|.str _,.non=>true
  | .int _,.int _=>true|.bl _,.bl _=>true|.str _,.str _=>true|.byt _,.byt _=>true
  | .int _,.str _=>true|.str _,.int _=>true|.bl _,.str _=>true|.str _,.bl _=>true
  | _,_=>false
def rEq:R2:=fun x y H Q=>fg x y=true∧Q (.bl (decide (x=y))) H
def rNe:R2:=fun x y H Q=>fg x y=true∧Q (.bl (!decide (x=y))) H
theorem oo {i j:Int}:decide (V.int i=V.int j)=(i == j):=by
  rw[Bool.eq_iff_iff]
  simp
theorem jJ {i j:Bool}:decide (V.bl i=V.bl j)=(i == j):=by
  rw[Bool.eq_iff_iff]
  simp
theorem om {i j:Str}:decide (V.str i=V.str j)=(i == j):=by
  rw[Bool.eq_iff_iff]
  simp
theorem oq {i j:Array UInt8}:decide (V.byt i=V.byt j)=(i.toList == j.toList):=by
  rw[Bool.eq_iff_iff]
  cases i
  cases j
  simp
section
variable {X:Cx}{a b c:Expr}{ta tb tc:TE}{pos:Pos}
theorem zr {pins:List (Addr × Obj)}{σ:St}{H:Hp}{s:Shared}{Q:VK}{k k':Bool}(I:Inv X pins σ H s) (q:Q (.bl k) H) (e:k=k'):EP X pins σ Q (.bool k') s:=by
  subst e
  exact⟨.bl k,H,I,rfl,q⟩
theorem y0:OpR X (compareOp .Eq) rEq:=by
  intro pins s σ H x y v u Q I rx ry h
  obtain⟨hs,q⟩:=h
  cases x with
  | non =>
    cases rx
    cases y with
    | non=>cases ry;exact PySem.EqNone.eq_none_none (zr I q (by simp))
    | bl j=>cases ry;exact PySem.EqNone.eq_none_bool (zr I q (by simp))
    | int j=>obtain⟨t',rfl⟩:=ry;exact PySem.EqNone.eq_none_int (zr I q (by simp))
    | str j=>obtain⟨t',rfl⟩:=ry;exact PySem.EqNone.eq_none_str (zr I q (by simp))
    | _=>exact absurd (show false=true from hs) Bool.false_ne_true
  | bl i =>
    cases rx
    cases y with
    | non=>cases ry;exact PySem.EqNone.eq_bool_none (zr I q (by simp))
    | bl j=>cases ry;exact eq_bool (zr I q jJ)
    | str j=>obtain⟨t',rfl⟩:=ry;exact PySem.EqMixed.eq_bool_str (zr I q (by simp))
    | _=>exact absurd (show false=true from hs) Bool.false_ne_true
  | int i =>
    obtain⟨t,rfl⟩:=rx
    cases y with
    | non=>cases ry;exact PySem.EqNone.eq_int_none (zr I q (by simp))
    | int j=>obtain⟨t',rfl⟩:=ry;exact eq_int (zr I q oo)
    | str j=>obtain⟨t',rfl⟩:=ry;exact PySem.EqMixed.eq_int_str (zr I q (by simp))
    | _=>exact absurd (show false=true from hs) Bool.false_ne_true
  | str i =>
    obtain⟨t,rfl⟩:=rx
    cases y with
    | non=>cases ry;exact PySem.EqNone.eq_str_none (zr I q (by simp))
    | bl j=>cases ry;exact PySem.EqMixed.eq_str_bool (zr I q (by simp))
    | int j=>obtain⟨t',rfl⟩:=ry;exact PySem.EqMixed.eq_str_int (zr I q (by simp))
    | str j=>obtain⟨t',rfl⟩:=ry;exact eq_str (zr I q om)
    | _=>exact absurd (show false=true from hs) Bool.false_ne_true
  | byt i =>
    obtain⟨t,rfl⟩:=rx
    cases y with
    | byt j=>obtain⟨t',rfl⟩:=ry;exact PySem.W.eq_bytes (zr I q oq)
    | _=>exact absurd (show false=true from hs) Bool.false_ne_true
  | _=>cases y<;>exact absurd (show false=true from hs) Bool.false_ne_true
theorem iX:OpR X (compareOp .NotEq) rNe:=by
  intro pins s σ H x y v u Q I rx ry h
  obtain⟨hs,q⟩:=h
  cases x with
  | non =>
    cases rx
    cases y with
    | non=>cases ry;exact PySem.EqNone.ne_none_none (zr I q (by simp))
    | bl j=>cases ry;exact PySem.EqNone.ne_none_bool (zr I q (by simp))
    | int j=>obtain⟨t',rfl⟩:=ry;exact PySem.EqNone.ne_none_int (zr I q (by simp))
    | str j=>obtain⟨t',rfl⟩:=ry;exact PySem.EqNone.ne_none_str (zr I q (by simp))
    | _=>exact absurd (show false=true from hs) Bool.false_ne_true
  | bl i =>
    cases rx
    cases y with
    | non=>cases ry;exact PySem.EqNone.ne_bool_none (zr I q (by simp))
    | bl j=>cases ry;exact ne_bool (zr I q (congrArg not jJ))
    | str j=>obtain⟨t',rfl⟩:=ry;exact PySem.EqMixed.ne_bool_str (zr I q (by simp))
    | _=>exact absurd (show false=true from hs) Bool.false_ne_true
  | int i =>
    obtain⟨t,rfl⟩:=rx
    cases y with
    | non=>cases ry;exact PySem.EqNone.ne_int_none (zr I q (by simp))
    | int j=>obtain⟨t',rfl⟩:=ry;exact ne_int (zr I q (congrArg not oo))
    | str j=>obtain⟨t',rfl⟩:=ry;exact PySem.EqMixed.ne_int_str (zr I q (by simp))
    | _=>exact absurd (show false=true from hs) Bool.false_ne_true
  | str i =>
    obtain⟨t,rfl⟩:=rx
    cases y with
    | non=>cases ry;exact PySem.EqNone.ne_str_none (zr I q (by simp))
    | bl j=>cases ry;exact PySem.EqMixed.ne_str_bool (zr I q (by simp))
    | int j=>obtain⟨t',rfl⟩:=ry;exact PySem.EqMixed.ne_str_int (zr I q (by simp))
    | str j=>obtain⟨t',rfl⟩:=ry;exact ne_str (zr I q (congrArg not om))
    | _=>exact absurd (show false=true from hs) Bool.false_ne_true
  | byt i =>
    obtain⟨t,rfl⟩:=rx
    cases y with
    | byt j=>obtain⟨t',rfl⟩:=ry;exact PySem.W.ne_bytes (zr I q (congrArg not oq))
    | _=>exact absurd (show false=true from hs) Bool.false_ne_true
  | _=>cases y<;>exact absurd (show false=true from hs) Bool.false_ne_true
theorem oN:OpR X (compareOp .Lt) (rI0 fun i j=>.bl (decide (i<j))):=jo fun _ _ _ _ _ _ _ q=>lt_int q
theorem oO:OpR X (compareOp .LtE) (rI0 fun i j=>.bl (decide (i≤j))):=jo fun _ _ _ _ _ _ _ q=>le_int q
theorem oP:OpR X (compareOp .Gt) (rI0 fun i j=>.bl (decide (j<i))):=jo fun _ _ _ _ _ _ _ q=>gt_int q
theorem iY:OpR X (compareOp .GtE) (rI0 fun i j=>.bl (decide (j≤i))):=jo fun _ _ _ _ _ _ _ q=>ge_int q
theorem ji:OpR X (compareOp .IsNot) (fun x y H Q=>y=.non∧Q (.bl (!decide (x=.non))) H):=by
  intro pins s σ H x y v u Q I rx ry h
  obtain⟨rfl,q⟩:=h
  cases ry
  refine isnot_none_gen (zr I q ?_)
  cases x<;>first
    | (cases rx;rfl)
    | (obtain⟨t,rfl⟩:=rx;rfl)
theorem zp (b:Expr) {op:CmpOp}(h:op≠.In:=by decide) (h2:op≠.NotIn:=by decide):behindInMarks op b=false:=by
  have e1:(op == CmpOp.In)=false:=by cases op<;>first|rfl|exact absurd rfl h
  have e2:(op == CmpOp.NotIn)=false:=by cases op<;>first|rfl|exact absurd rfl h2
  cases b<;>simp[behindInMarks,e1,e2]
theorem y8 {op:CmpOp}{r:R2}(ho:OpR X (compareOp op) r) (ha:PE X a ta) (hb:PE X b tb) (hm:behindInMarks op b=false):PE X (.Compare a [op] [b] pos) (tOp r ta tb):=by
  intro pins s σ H Q I h
  exact wpAny_Compare1 (gw ha hb I h fun v u s2 x y H2 I2 rx ry q=>ho pins s2 σ H2 x y v u Q I2 rx ry q) hm
def g8 (t:TE):TT:=fun σ H Q=>t σ H fun x H'=>∃ k,x=.bl k∧Q k H'
theorem zj {op:CmpOp}{r:R2}(ho:OpR X (compareOp op) r) (ha:PE X a ta) (hb:PE X b tb) (hm:behindInMarks op b=false):PT X (.Compare a [op] [b] pos) (g8 (tOp r ta tb)):=by
  intro pins s σ H Q I h
  refine wpAny_isTrue_Compare1 (thn (ha pins s σ H _ I h) fun v s1 ⟨x,H1,I1,r1,q1⟩=>thn (hb pins s1 σ H1 _ I1 q1) fun u s2 ⟨y,H2,I2,r2,q2⟩ =>
    thn (ho pins s2 σ H2 x y v u _ I2 r1 r2 q2) fun c s3 ⟨z,H3,I3,r3,k,e,q3⟩=>?_) hm
  subst e
  cases r3
  exact wpAny_truthy_bool ⟨H3,I3,q3⟩
def iq (r r':R2) (ta tb tc:TE):TE:=fun σ H Q=>ta σ H fun x H1=>tb σ H1 fun y H2=>r x y H2 fun z H3=>∃ k,z=.bl k ∧
  (if k=true then tc σ H3 fun w' H4=>r' y w' H4 Q else Q (.bl false) H3)
theorem kE {op op':CmpOp}{r r':R2}(ho:OpR X (compareOp op) r) (ho':OpR X (compareOp op') r') (ha:PE X a ta) (hb:PE X b tb) (hc:PE X c tc)
    (hm:lastMarks [op,op'] [b,c]=false:=by with_unfolding_all rfl):PE X (.Compare a [op,op'] [b,c] pos) (iq r r' ta tb tc):=by
  intro pins s σ H Q I h
  refine Compare_chain (thn (ha pins s σ H _ I h) fun v s1 ⟨x,H1,I1,r1,q1⟩=>chain_link (thn (hb pins s1 σ H1 _ I1 q1) fun u s2 ⟨y,H2,I2,r2,q2⟩ =>
    thn (ho pins s2 σ H2 x y v u _ I2 r1 r2 q2) fun d s3 ⟨z,H3,I3,r3,k,e,q3⟩=>?_)) hm
  subst e
  cases r3
  refine wpAny_truthy_bool ?_
  cases k with
  | false=>exact ite_ff ⟨.bl false,H3,I3,rfl,q3⟩
  | true=>exact ite_tt (chain_last (thn (hc pins s3 σ H3 _ I3 q3) fun w' s4 ⟨z',H4,I4,r4,q4⟩=>ho' pins s4 σ H4 y z' u w' Q I4 r2 r4 q4))
theorem sR:(sizeLine:Nat)<2 ^ 63:=by rw[sizeLine_eq];decide
theorem vI {x:V}{us:List Value}(r:Vals [x] us):∃ u,us=[u]∧RelV x u:=by
  cases r with
  | cons r1 r2=>cases r2;exact⟨_,rfl,r1⟩
theorem mw {x y:V}{us:List Value}(r:Vals [x,y] us):∃ u w',us=[u,w']∧RelV x u∧RelV y w':=by
  cases r with
  | cons r1 r2 =>
    cases r2 with
    | cons r3 r4=>cases r4;exact⟨_,_,rfl,r1,r3⟩
theorem qO:CallR X (.builtin "abs") (fun xs H Q=>∃ i,xs=[.int i]∧Q (.int (if i<0 then -i else i)) H):=by
  intro pins s σ H xs us Q I r h
  obtain⟨i,rfl,q⟩:=h
  obtain⟨u,rfl,t,rfl⟩:=vI r
  exact call_abs_int fun u tk=>⟨.int (if i<0 then -i else i),H,I.tok _,⟨_,rfl⟩,q⟩
theorem mi (hc:X.calm=true):CallR X (.builtin "max") (fun xs H Q=>∃ i j,xs=[.int i,.int j]∧Q (.int (if j > i then j else i)) H):=by
  intro pins s σ H xs us Q I r h
  obtain⟨i,j,rfl,q⟩:=h
  obtain⟨u,w',rfl,⟨t,rfl⟩,⟨t',rfl⟩⟩:=mw r
  refine max_two_ints (I.ok.hd hc) fun h' tk k=>⟨_,H,I.kept k,?_,q⟩
  by_cases hj:j > i
  · rw[if_pos hj,if_pos hj];exact⟨_,rfl⟩
  · rw[if_neg hj,if_neg hj];exact⟨_,rfl⟩
theorem mh (hc:X.calm=true):CallR X (.builtin "min") (fun xs H Q=>∃ i j,xs=[.int i,.int j]∧Q (.int (if j<i then j else i)) H):=by
  intro pins s σ H xs us Q I r h
  obtain⟨i,j,rfl,q⟩:=h
  obtain⟨u,w',rfl,⟨t,rfl⟩,⟨t',rfl⟩⟩:=mw r
  refine min_two_ints (I.ok.hd hc) fun h' tk k=>⟨_,H,I.kept k,?_,q⟩
  by_cases hj:j<i
  · rw[if_pos hj,if_pos hj];exact⟨_,rfl⟩
  · rw[if_neg hj,if_neg hj];exact⟨_,rfl⟩
theorem wF:CallR X (.type "int") (fun xs H Q=>(∃ i,xs=[.int i]∧Q (.int i) H)∨∃ k,xs=[.bl k]∧Q (.int (if k then 1 else 0)) H):=by
  intro pins s σ H xs us Q I r h
  rcases h with ⟨i,rfl,q⟩|⟨k,rfl,q⟩
  · obtain⟨u,rfl,t,rfl⟩:=vI r
    exact call_int_int ⟨.int i,H,I,⟨_,rfl⟩,q⟩
  · obtain⟨u,rfl,r1⟩:=vI r
    cases r1
    exact call_int_bool ⟨.int (if k then 1 else 0),H,I.tok _,⟨_,rfl⟩,q⟩
end
structure ObjM (h:Heap) (x dx C:Addr) (mA:Str→Option Value):Prop where
  obj:h.get? x=some (PySem.W.instObj C dx)
  ns:h.Ns1 dx mA
  ne:dx≠x
theorem n9 {h:Heap}{dx:Addr}{mA:Str→Option Value}(n:h.Ns1 dx mA):∃ od,h.get? dx=some od∧∀ name,PySem.W.lookIn name od=some (mA name):=by
  obtain⟨o,es,ep,ho,hd,hk,_,hm⟩:=n
  refine⟨o,ho,fun name=>?_⟩
  have e:=hm name
  unfold nsFind findBy at e
  rw[← Array.find?_toList]at e
  unfold PySem.W.lookIn
  rw[hd]
  dsimp only
  split
  · rename_i y q
    rw[q]at e
    exact congrArg some e
  · rename_i q
    rw[q]at e
    have a:es.toList.any (·.refKey)=false:=by
      rw[List.any_eq_false]
      intro y hy
      obtain⟨z,t,hkey⟩:=hk y (Array.mem_toList_iff.mp hy)
      simp[DictEntry.refKey,hkey]
    have a':¬ es.toList.any (·.refKey)=true:=by rw[a];exact Bool.false_ne_true
    rw[if_neg a']
    exact congrArg some e
theorem ObjM.look {h:Heap}{x dx C:Addr}{mA:Str→Option Value}(I:ObjM h x dx C mA):∃ od,PySem.W.InstAt h x (PySem.W.instObj C dx) C (some od)∧∀ name,PySem.W.lookIn name od=some (mA name) :=
  let ⟨od,ho,hl⟩:=n9 I.ns
  ⟨od,⟨I.obj,rfl,rfl,ho⟩,hl⟩
section
variable {prog:Program}{w:World}{A:Around}{E:Value→Shared→Prop}{s:Shared}{K:PySem.W.Frag}{x dx C f:Addr}{mA:Str→Option Value}{name:Str}{v:Value}
end
section
variable {P:Program}{w:World}{H H':Hp}{h h':Heap}{a C dx:Addr}{fs fs':List (Str × V)}
theorem iE (hok:HOk P w H h) (e:H a=some (.ins C dx fs)):∃ mA,ObjM h a dx C mA∧(∀ f,RelO (fs.lookup f) (mA f))∧PySem.Within mA (fs.map (·.1))∧fs.length≤1000∧H dx=some (.own a):=by
  obtain⟨d,z,ne,ob,mA,n,r,q⟩:=(show ObjOk P w H h a (.ins C dx fs) from hok a _ e)
  exact⟨mA,⟨ob,n,ne⟩,r,q,z,d⟩
end
structure Cls (K:PySem.W.Frag) (C:Addr):Prop where
  pg:PySem.W.plainGet K C Str.empty=true
  hd:PySem.W.hasDictIn K C=true
  po:PySem.W.plainOver K C=true
  sa:PySem.W.findIn K (.ref C) "__setattr__" = some (some (.builtin "object.__setattr__"))
theorem Cls.get {K:PySem.W.Frag}{C:Addr}(c:Cls K C) (f:Str):PySem.W.plainGet K C f=true:=c.pg
section
variable {X:Cx}{pins:List (Addr × Obj)}{σ:St}{H:Hp}{s:Shared}{a C dx:Addr}{fs:List (Str × V)}{f:Str}{v:V}{A:Around}{E:Value→Shared→Prop}
end
section
variable {X:Cx}{o e value:Expr}{f:Str}{pos pos' tpos:Pos}{ta tv:TE}
end
section
variable {X:Cx}{pins:List (Addr × Obj)}{σ:St}{H:Hp}{s:Shared}{A:Around}{E:Value→Shared→Prop}{Q:Value→Shared→Prop}{c:Value}{b:Bool}
inductive TyOf (K:PySem.W.Frag) (H:Hp):V→Value→Prop where
  | non:TyOf K H .non (.type "NoneType")
  | bl (x:Bool):TyOf K H (.bl x) (.type "bool")
  | int (i:Int):TyOf K H (.int i) (.type "int")
  | str (x:Str):TyOf K H (.str x) (.type "str")
  | flt (x:UInt64):TyOf K H (.flt x) (.type "float")
  | lst {a:Addr}{xs:List V}(e:H a=some (.lst xs)):TyOf K H (.ref a) (.type "list")
  | frz {a:Addr}{o:Obj}{xs:List V}(e:H a=some (.frz o (.lst xs))):TyOf K H (.ref a) (.type "list")
  | tup {a:Addr}{xs:List V}(e:H a=some (.tup xs)):TyOf K H (.ref a) (.type "tuple")
  | dK {a:Addr}{kvs:List (Key × V)}(e:H a=some (.dK kvs)):TyOf K H (.ref a) (.type "dict")
  | dT {a:Addr}{kvs:List (List Key × V)}(e:H a=some (.dT kvs)):TyOf K H (.ref a) (.type "dict")
  | ins {a C dx:Addr}{fs:List (Str × V)}(e:H a=some (.ins C dx fs)) (cl:Cls K C) (ha:PySem.W.findIn K (.ref C) "__class__" = some (some (.builtin "object.__class__")))
      (hn:PySem.W.specialIn K (.builtin "object.__class__") "__get__" = some (some (.builtin "getset_descriptor.__get__"))) (htk:PySem.W.takesIn K (.builtin "object.__class__")=some true)
      (hm:PySem.W.mroIn K C (.type "object")=some true):TyOf K H (.ref a) (.ref C)
theorem mO {x:V}{u t:Value}(I:Inv X pins σ H s) (rx:RelV x u) (ty:TyOf X.K H x t) (e:PySem.W.kitOne X.K t c=some b) (h:∀ tk,Q (.bool b) { s with toks:=tk }) :
    wpAny (model X.prog X.w) A (call (.builtin "isinstance") [u,c]) Q E s:=by
  cases ty with
  | non=>cases (show u=Value.none from rx);exact PySem.W.kia_one PySem.W.kitx_none I.kIn True.intro e (fun z=>nomatch z) h
  | bl y=>cases (show u=Value.bool y from rx);exact PySem.W.kia_one PySem.W.kitx_bool I.kIn True.intro e (fun z=>nomatch z) h
  | int i=>obtain⟨t,q⟩:=(show ∃ t,u=Value.int i t from rx);cases q;exact PySem.W.kia_one PySem.W.kitx_int I.kIn True.intro e (fun z=>nomatch z) h
  | str y=>obtain⟨t,q⟩:=(show ∃ t,u=Value.str y t from rx);cases q;exact PySem.W.kia_one PySem.W.kitx_str I.kIn True.intro e (fun z=>nomatch z) h
  | flt y=>obtain⟨t,q⟩:=(show ∃ t,u=Value.float y t from rx);cases q;exact PySem.W.kia_one PySem.W.kitx_float I.kIn True.intro e (fun z=>nomatch z) h
  | @lst a xs ea =>
    cases (show u=Value.ref a from rx)
    obtain⟨_,_,n,_,h1⟩:=(show ObjOk X.prog X.w H s.heap a (.lst xs) from I.hok a _ ea)
    exact PySem.W.kia_one PySem.W.kitx_list I.kIn ⟨_,h1,rfl⟩ e (fun z=>nomatch z) h
  | @frz a ob xs ea =>
    cases (show u=Value.ref a from rx)
    obtain⟨_,_,_,n,_,h1⟩:=(show ObjOk X.prog X.w H s.heap a (.frz ob (.lst xs)) from I.hok a _ ea)
    exact PySem.W.kia_one PySem.W.kitx_list I.kIn ⟨_,h1,rfl⟩ e (fun z=>nomatch z) h
  | @tup a xs ea =>
    cases (show u=Value.ref a from rx)
    obtain⟨_,_,_,p'⟩:=(show ObjOk X.prog X.w H s.heap a (.tup xs) from I.hok a _ ea)
    have p:=p'.tup
    obtain⟨o,h1,h2,_⟩:=p
    exact PySem.W.kia_one PySem.W.kitx_tuple I.kIn ⟨o,h1,h2⟩ e (fun z=>nomatch z) h
  | @dK a kvs ea =>
    cases (show u=Value.ref a from rx)
    obtain⟨_,_,vs,_,p⟩:=(show ObjOk X.prog X.w H s.heap a (.dK kvs) from I.hok a _ ea)
    obtain⟨o,es,ep,h1,h2,_⟩:=p
    exact PySem.W.kia_one PySem.W.kitx_dict I.kIn ⟨o,h1,h2.1⟩ e (fun z=>nomatch z) h
  | @dT a kvs ea =>
    cases (show u=Value.ref a from rx)
    obtain⟨_,_,xs,_,o,es,ep,h1,h2,_⟩:=(show ObjOk X.prog X.w H s.heap a (.dT kvs) from I.hok a _ ea)
    exact PySem.W.kia_one PySem.W.kitx_dict I.kIn ⟨o,h1,h2.1⟩ e (fun z=>nomatch z) h
  | @ins a C dx fs ea cl ha hn htk hm =>
    cases (show u=Value.ref a from rx)
    obtain⟨mA,O,_⟩:=iE I.hok ea
    obtain⟨od,J,_⟩:=O.look
    exact PySem.W.kia_one (PySem.W.kitx_own (cl.get _) cl.hd ha hn htk hm) I.kIn J e (fun z=>nomatch z) h
end
structure Room (k:Nat) (A:Around):Prop where
  hd:A.handled=none
  dp:A.depth+3*k+5<recursionLimit
  un:A.units+16*k+200<cLine
  gd:A.guards=some []
theorem Room.mono {j k:Nat}{A:Around}(r:Room k A) (h:j≤k):Room j A:=⟨r.hd,by have:=r.dp;omega,by have:=r.un;omega,r.gd⟩
theorem Room.deeper {k:Nat}{A:Around}(r:Room (k+1) A) (env:Env):Room k (A.deeper env) :=
  ⟨r.hd,by have:=r.dp;show A.depth+1+3*k+5<_;omega,by have:=r.un;show A.units+3+16*k+200<_;omega,r.gd⟩
theorem Room.depth {k:Nat}{A:Around}(r:Room k A):A.depth<recursionLimit:=by have:=r.dp;omega
theorem Room.units {k:Nat}{A:Around}(r:Room k A):A.units+64<cLine:=by have:=r.un;omega
theorem Room.units0 {k:Nat}{A:Around}(r:Room k A):A.units<cLine:=by have:=r.un;omega
def fJ:TA:=fun _ H Q=>Q [] H
def iT (ta:TE) (tr:TA):TA:=fun σ H Q=>ta σ H fun x H1=>tr σ H1 fun xs H2=>Q (x::xs) H2
section
variable {X:Cx}{e:Expr}{es:List Expr}{te:TE}{t:TA}{pos:Pos}
theorem zB:PA X [] fJ:=fun _ _ _ _ H Q I h=>Calls.spliced_nil ⟨[],H,I,.nil,h⟩
theorem zA (ha:PE X e te) (hr:PA X es t) (hs:starEach (e::es) X.env=(false,eval e X.env)::starEach es X.env:=by rfl):PA X (e::es) (iT te t):=by
  intro pos pins s σ H Q I h
  rw[hs]
  show wpAny _ _ (spliced ((false,eval e X.env)::backTo pos (starEach es X.env))) _ _ s
  refine Calls.spliced_cons (thn (ha pins s σ H _ I h) fun u s1 ⟨x,H1,I1,r1,q1⟩=>?_)
  exact thn (hr pos pins s1 σ H1 _ I1 q1) fun us s2 ⟨xs,H2,I2,r2,q2⟩=>⟨x::xs,H2,I2,.cons r1 r2,q2⟩
def eY (t:TA):TE:=fun σ H Q=>t σ H fun xs H1=>xs.length≤sizeLine∧∀ p,H1 p=none→Q (.ref p) (upd H1 p (.tup xs))
def e7 (t:TA):TE:=fun σ H Q=>t σ H fun xs H1=>xs.length≤sizeLine∧∀ p,H1 p=none→Q (.ref p) (upd H1 p (.lst xs))
theorem zX {x1} (h:PA X es t):PE X (.Tuple es x1 pos) (eY t):=by
  intro pins s σ H Q I hq
  refine wpAny_Tuple_spliced (thn (h pos pins s σ H _ I hq) fun us s1 ⟨xs,H1,I1,r,z,q⟩=>⟨by rw[← r.length];exact z,?_⟩)
  have hf:H1 s1.heap.objs.size=none:=I1.hok.fresh (Nat.le_refl _)
  refine⟨.ref s1.heap.objs.size,upd H1 s1.heap.objs.size (.tup xs),I1.laid (t':=s1.toks) (fun b u e=>Heap.get?_push_of_some _ e) (Nat.le_refl _) ?_,rfl,q _ hf⟩
  exact⟨z,us,r,TupX.new _ _⟩
theorem zq (h:PA X es t):PE X (.List es pos) (e7 t):=by
  intro pins s σ H Q I hq
  refine wpAny_List_spliced (thn (h pos pins s σ H _ I hq) fun us s1 ⟨xs,H1,I1,r,z,q⟩=>⟨by rw[← r.length];exact z,?_⟩)
  have hf:H1 s1.heap.objs.size=none:=I1.hok.fresh (Nat.le_refl _)
  refine⟨.ref s1.heap.objs.size,upd H1 s1.heap.objs.size (.lst xs),I1.laid (t':=s1.toks) (fun b u e=>Heap.get?_push_of_some _ e) (Nat.le_refl _) ?_,rfl,q _ hf⟩
  exact⟨z,us,0,r,Heap.get?_push_size _ rfl⟩
end
abbrev Sp:=List V→Hp→VK→XK→Prop
abbrev CXT:=List Env→Hp→Shared→XK→Value→Shared→Prop
structure Env0 (P:Program) (w:World) (K:PySem.W.Frag) (mg:Str→Option Value) (base:Heap) (A:Around) (outer:List Env) (s:Shared) (H:Hp):Prop where
  frames:A.frames=some outer
  mod:Mod K mg base
  bs:∀ b o,base.get? b=some o→s.heap.get? b=some o∧H b=none
  bsz:base.objs.size≤s.heap.objs.size
  funs:s.heap.FunFrames base outer
  frf:∀ b∈frs outer,H b=none
  hok:HOk P w H s.heap
  bare:AllBare s.gens
def CE (outer:List Env) (P:Program) (w:World) (H:Hp) (s:Shared) (Q:VK) (u:Value) (s':Shared):Prop :=
  ∃ v H',s'.os=s.os∧AllBare s'.gens∧Un (frs outer) [] H H' s.heap s'.heap∧HOk P w H' s'.heap∧RelV v u∧Q v H'
def CR (CX:CXT) (outer:List Env) (P:Program) (w:World) (H:Hp) (s:Shared) (Q:VK) (E:XK) (r:Result) (s':Shared):Prop :=
  match r with
  | .ok (.ret u)=>CE outer P w H s Q u s'
  | .ok _=>False
  | .error e=>CX outer H s E e s'
structure FnOk (P:Program) (w:World) (K:PySem.W.Frag) (mg:Str→Option Value) (base:Heap) (CX:CXT) (k:Nat) (f:Addr) (fd:FuncData) (ps:List Str) (sp:Sp):Prop where
  len:∀ vs H Q E,sp vs H Q E→vs.length=ps.length
  run:∀ (A:Around) (outer:List Env) (s:Shared) (H:Hp) (args:Args) (us:List Value) (vs:List V) (Q:VK) (E:XK),Room k A→Env0 P w K mg base A outer s H→BindsTo s fd args (ps.zip us)→Vals vs us→sp vs H Q E →
    codeAny (model P w) A (.call (.ref f) args) (CR CX outer P w H s Q E) s
theorem FnOk.mono {P:Program}{w:World}{K:PySem.W.Frag}{mg:Str→Option Value}{base:Heap}{CX:CXT}{j k:Nat}{f:Addr}{fd:FuncData}{ps:List Str}{sp:Sp}(F:FnOk P w K mg base CX j f fd ps sp) (h:j≤k) :
    FnOk P w K mg base CX k f fd ps sp:=⟨F.len,fun A outer s H args us vs Q E hr=>F.run A outer s H args us vs Q E (hr.mono h)⟩
theorem FnOk.imp {P:Program}{w:World}{K:PySem.W.Frag}{mg:Str→Option Value}{base:Heap}{CX:CXT}{k:Nat}{f:Addr}{fd:FuncData}{ps:List Str}{sp sp':Sp}(F:FnOk P w K mg base CX k f fd ps sp)
    (h:∀ vs H Q E,sp' vs H Q E→sp vs H Q E):FnOk P w K mg base CX k f fd ps sp' :=
  ⟨fun vs H Q E q=>F.len vs H Q E (h _ _ _ _ q),fun A outer s H args us vs Q E hr he hb hv hs=>F.run A outer s H args us vs Q E hr he hb hv (h _ _ _ _ hs)⟩
section
variable {X:Cx}{pins:List (Addr × Obj)}{σ:St}{H:Hp}{s s':Shared}
theorem Inv.env0 (I:Inv X pins σ H s):Env0 X.prog X.w X.K X.mg X.base X.A X.stack s H :=
  ⟨I.ok.frames,I.ok.mod,I.bs,Nat.le_trans I.ok.bsz I.sz,I.stack,I.stkFree,I.hok,I.bare⟩
theorem Inv.after {Q:VK}{u:Value}(I:Inv X pins σ H s) (h:CE X.stack X.prog X.w H s Q u s'):EP X pins σ Q u s':=by
  obtain⟨v,H',os,bare,un,hok,r,q⟩:=h
  obtain⟨hh,g,d,t,os'⟩:=s'
  obtain rfl:os'=s.os:=os
  exact⟨v,H',I.call (h':=hh) (g':=g) (d':=d) (t':=t) (ch:=[]) un hok bare (fun b z=>absurd z (by simp)),r,q⟩
end
def fc (sp:Sp) (dvs:List V) (E:XK) (t:TA):TE:=fun σ H Q=>t σ H fun vs H1=>sp (vs++dvs) H1 Q E
def Binds (K:PySem.W.Frag) (fd:FuncData) (ps:List Str) (ds:List Value):Prop :=
  ∀ (s:Shared) (us:List Value),K.In s.heap→(us++ds).length=ps.length→BindsTo s fd ⟨us,[]⟩ (ps.zip (us++ds))
theorem Binds.all {K:PySem.W.Frag}{fd:FuncData}{ps:List Str}(h:∀ us:List Value,us.length=ps.length→bindArgs fd ⟨us,[]⟩=pure (ps.zip us)):Binds K fd ps []:=fun s us _ hl=>by
  rw[List.append_nil]at hl ⊢
  exact .of_eq (h us hl)
def Passes (CX:CXT) (X:Cx) (E:XK):Prop:=∀ (pins:List (Addr × Obj)) (σ:St) (H:Hp) (s:Shared) (e:Value) (s':Shared),Inv X pins σ H s→CX X.stack H s E e s'→X.xe e s'
section
variable {X:Cx}{CX:CXT}{k:Nat}{f C:Addr}{fd:FuncData}{ps:List Str}{sp:Sp}{dvs:List V}{ds:List Value}{E:XK}{x m:Str}{p pos apos:Pos}{e o:Expr}{es:List Expr}{ta:TE}{t:TA}
theorem gE {pins:List (Addr × Obj)}{σ:St}{H:Hp}{s:Shared}{Q:VK}{us:List Value}{vs:List V}(F:FnOk X.prog X.w X.K X.mg X.base CX k f fd ps sp) (hr:Room k X.A) (hb:Binds X.K fd ps ds) (hd:Vals dvs ds) (hx:Passes CX X E)
    (I:Inv X pins σ H s) (r:Vals vs us) (h:sp (vs++dvs) H Q E):wpAny (model X.prog X.w) X.A (call (.ref f) us) (EP X pins σ Q) X.xe s:=by
  have r2:Vals (vs++dvs) (us++ds):=r.append hd
  have hl:(us++ds).length=ps.length:=by rw[← r2.length];exact F.len _ _ _ _ h
  refine wpAny_call (codeAny_mono (F.run X.A X.stack s H ⟨us,[]⟩ (us++ds) (vs++dvs) Q E hr I.env0 (hb s us I.kIn hl) r2 h) fun r s' hq=>?_)
  cases r with
  | error e=>exact hx pins σ H s e s' I hq
  | ok fl =>
    cases fl with
    | ret u=>exact I.after hq
    | next=>exact False.elim hq
    | brk=>exact False.elim hq
    | cont=>exact False.elim hq
theorem zJ (F:FnOk X.prog X.w X.K X.mg X.base CX k f fd ps sp) (hr:Room k X.A) (hg:Gl X x) (hm:X.mg x=some (.ref f)) (hk:PySem.W.keepIn X.K (.ref f)=true) (hb:Binds X.K fd ps ds) (hd:Vals dvs ds) (hx:Passes CX X E)
    (ha:PA X (e::es) t) (hdb:(x == ("__debug__":Str))=false:=by decide) (he:starEach (e::es) X.env=(false,eval e X.env)::starEach es X.env:=by rfl) (hpl:(backTo pos (starEach es X.env)).any (·.1)=false:=by rfl) :
    PE X (.Call (.Name x p) (e::es) [] pos) (fc sp dvs E t):=by
  intro pins s σ H Q I h
  refine wpAny_Call_Name_kw (oa I hg hm ?_ hdb)
  refine PySem.W.callWith_K (h₀:=X.base) I.ok.mod.kin hk (thn (ha pos pins s σ H _ I h) fun us s1 ⟨vs,H1,I1,r,q⟩=>⟨I1.kIn,?_⟩) he hpl
  exact gE F hr hb hd hx I1 r q
end
section
variable {X:Cx}{CX:CXT}{k:Nat}{f C:Addr}{fd:FuncData}{ps ks:List Str}{sp:Sp}{E:XK}{x m:Str}{p pos apos kpos:Pos}{e o:Expr}{es:List Expr}{kws:List Keyword}{te ta:TE}{t tk:TA}{nm:Option Str}
variable {g:List Value→List Value→List Value}{gV:List V→List V→List V}
end
structure FnScope (N P:List Str) (sc:Scope):Prop where
  kind:sc.kind=.function
  co:sc.isCoroutine=false
  gen:sc.isGenerator=false
  nd:N.Nodup
  pre:N.take P.length=P
  par:∀ x∈P,sc.names.lookup x=some .local ∨ sc.names.lookup x=some .cell
  nofree:∀ y∈sc.names,y.2≠.free
theorem tM {kindOf:Str→Option NameKind}{x:Str}:∀ {binds:List (Str × Value)}{m:Str→Option Value},(∀ v,(x,v)∉binds)→bindL kindOf binds m x=m x
  | [],_,_=>rfl
  | (n,v)::r,m,h=>by
    unfold bindL
    rw[tM fun w hw=>h w (List.mem_cons_of_mem _ hw)]
    split
    · have:x≠n:=by rintro rfl;exact h v List.mem_cons_self
      simp[this]
    · rfl
theorem tO {kindOf:Str→Option NameKind}{x:Str}:∀ {binds:List (Str × Value)}{m:Str→Option Value},(∀ v,(x,v)∉binds)→bindC kindOf binds m x=m x
  | [],_,_=>rfl
  | (n,v)::r,m,h=>by
    unfold bindC
    rw[tO fun w hw=>h w (List.mem_cons_of_mem _ hw)]
    split
    · rfl
    · have:x≠n:=by rintro rfl;exact h v List.mem_cons_self
      simp[this]
theorem tN {kindOf:Str→Option NameKind}{x:Str}{v:Value}:∀ {P:List Str}{vs:List Value}{i:Nat}{m:Str→Option Value},P.Nodup→P[i]?=some x→vs[i]?=some v→kindOf x=some .local →
    bindL kindOf (P.zip vs) m x=some v
  | [],_,_,_,_,h,_,_=>by simp at h
  | _::_,[],_,_,_,_,h,_=>by simp at h
  | p::P,w::vs,0,m,nd,h1,h2,hk=>by
    simp at h1 h2;subst h1;subst h2
    show bindL kindOf ((p,w)::P.zip vs) m p=_
    unfold bindL
    rw[tM fun v hv=>(List.nodup_cons.mp nd).1 (List.of_mem_zip hv).1,if_pos hk]
    simp
  | p::P,w::vs,i+1,m,nd,h1,h2,hk=>by
    show bindL kindOf ((p,w)::P.zip vs) m x=_
    unfold bindL
    exact tN (i:=i) (List.nodup_cons.mp nd).2 (by simpa using h1) (by simpa using h2) hk
theorem tQ {kindOf:Str→Option NameKind}{x:Str}{v:Value}:∀ {P:List Str}{vs:List Value}{i:Nat}{m:Str→Option Value},P.Nodup→P[i]?=some x→vs[i]?=some v→kindOf x≠some .local →
    bindC kindOf (P.zip vs) m x=some v
  | [],_,_,_,_,h,_,_=>by simp at h
  | _::_,[],_,_,_,_,h,_=>by simp at h
  | p::P,w::vs,0,m,nd,h1,h2,hk=>by
    simp at h1 h2;subst h1;subst h2
    show bindC kindOf ((p,w)::P.zip vs) m p=_
    unfold bindC
    rw[tO fun v hv=>(List.nodup_cons.mp nd).1 (List.of_mem_zip hv).1,if_neg hk]
    simp
  | p::P,w::vs,i+1,m,nd,h1,h2,hk=>by
    show bindC kindOf ((p,w)::P.zip vs) m x=_
    unfold bindC
    exact tQ (i:=i) (List.nodup_cons.mp nd).2 (by simpa using h1) (by simpa using h2) hk
def wK (N:List Str) (vs:List V):St:=vs.map some++List.replicate (N.length-vs.length) none
def pZ (CX:CXT) (P:Program) (w:World) (K:PySem.W.Frag) (mg:Str→Option Value) (base:Heap) (N:List Str) (qual:Str) (scope:Scope) (f:Addr) (cd:Value) (A:Around) (outer:List Env) (s:Shared) (H:Hp) (E:XK):Cx where
  prog:=P
  w:=w
  K:=K
  mg:=mg
  base:=base
  A:=A.deeper (envOfC qual scope s.heap.objs.size f cd)
  N:=N
  s₀:=s
  H₀:=H
  env:=envOfC qual scope s.heap.objs.size f cd
  outer:=outer
  stack:=envOfC qual scope s.heap.objs.size f cd::outer
  ex:=[]
  calm:=true
  fn:=fun _=>true
  pn:=[]
  xe:=fun e s'=>wpAny (model P w) (A.deeper (envOfC qual scope s.heap.objs.size f cd)) (leaving (envOfC qual scope s.heap.objs.size f cd) e) (fun _ s''=>CX outer H s E e s'') (fun e' s''=>CX outer H s E e' s'') s'
theorem qN {sc:Scope}{n:Nat}{x:Str}(h:sc.names.lookup x=some .cell):∃ c,(cellsFrom n sc.names []).lookup x=some c:=by
  have q:=PySem.W.cellsFrom_some sc.names n [] (.inl h)
  exact Option.isSome_iff_exists.mp q
theorem mP {CX:CXT}{P:Program}{w:World}{K:PySem.W.Frag}{mg:Str→Option Value}{base:Heap}{N ps:List Str}{qual:Str}{scope:Scope}{f:Addr}{cd:Value}{A:Around}{outer:List Env}{s s1:Shared}{H:Hp}{E:XK}{us:List Value}{vs:List V}
    (S:FnScope N ps scope) (hd:A.handled=none) (e0:Env0 P w K mg base A outer s H) (hl:vs.length=ps.length) (r:Vals vs us)
    (x:InCallC s s.heap.objs.size (bindL (envOfC qual scope s.heap.objs.size f cd).kindOf (ps.zip us) fun _=>none) (cellsFrom (s.heap.objs.size+1) scope.names []) (bindC (envOfC qual scope s.heap.objs.size f cd).kindOf (ps.zip us) fun _=>none) s1) :
    Inv (pZ CX P w K mg base N qual scope f cd A outer s H E) [] (wK N vs) H s1:=by
  have hpl:ps.length≤N.length:=by have:=congrArg List.length S.pre;rw[List.length_take]at this;omega
  obtain⟨h1,tk,rfl,hk⟩:=x.done
  have noA:∀ b:Addr,b∉(pZ CX P w K mg base N qual scope f cd A outer s H E).ex:=fun b z=>absurd (show b∈([]:List Addr) from z) (by simp)
  refine⟨⟨e0.mod,S.kind,rfl,rfl,Nat.le_refl _,fun y z c h1 h2=>?_,fun y hy=>?_,fun y c _ h=>?_,fun _=>hd,Around.frames_deeper e0.frames,.inr ⟨rfl,rfl⟩,fun b z=>absurd z (noA b),e0.bs,e0.bsz,fun b _ _=>noA b,fun b z=>absurd z (noA b),e0.funs,e0.frf⟩,
    rfl,e0.bare,Un.kept hk,⟨_,x.toInCall.ns,fun i y v h1 h2 h3=>?_⟩,fun y c h=>⟨_,x.cell y c h⟩,e0.hok.fresh (Nat.le_refl _),fun y c h=>?_,fun p hp=>absurd (show p∈([]:List (Addr × Obj)) from hp) (by simp),e0.hok.kept hk,?_⟩
  · exact name_of_addr x.apart (PySem.mem_of_lookup h1) (PySem.mem_of_lookup h2)
  · have hy:scope.names.lookup y=some .cell∨scope.names.lookup y=some .free:=hy
    rcases hy with hy|hy
    · exact qN hy
    · exact absurd rfl (S.nofree _ (PySem.mem_of_lookup hy))
  · exact Nat.le_of_lt (x.above y c (PySem.mem_of_lookup h))
  · have hi:i<vs.length:=by
      unfold wK at h2
      by_cases hi:i<vs.length
      · exact hi
      · rw[List.getElem?_append_right (by simpa using hi)]at h2
        rw[List.getElem?_replicate]at h2
        split at h2<;>cases h2
    have ha:vs[i]?=some v:=by
      unfold wK at h2
      rw[List.getElem?_append_left (by simpa using hi),List.getElem?_map]at h2
      cases e:vs[i]? with
      | none=>rw[e]at h2;cases h2
      | some a=>rw[e]at h2;cases h2;rfl
    obtain⟨u,hu,rv⟩:=r.get ha
    have hp:ps[i]?=some y:=by
      rw[← S.pre,List.getElem?_take_of_lt (by omega)];exact h1
    have ndP:ps.Nodup:=by rw[← S.pre];exact S.nd.sublist (List.take_sublist _ _)
    refine⟨u,rv,?_⟩
    rcases S.par y (List.mem_of_getElem? hp) with k|k
    · exact .inl ⟨k,tN ndP hp hu k⟩
    · obtain⟨c,e⟩:=qN (n:=s.heap.objs.size+1) k
      refine .inr ⟨.inl k,c,e,?_⟩
      have q:=x.cell y c e
      rw[tQ ndP hp hu (by show scope.names.lookup y≠_;rw[k];decide)]at q
      exact q
  · exact e0.hok.fresh (Nat.le_of_lt (x.above y c (PySem.mem_of_lookup h)))
  · unfold wK
    show _=N.length
    rw[List.length_append,List.length_map,List.length_replicate]
    omega
theorem ic {CX:CXT}{P:Program}{w:World}{K:PySem.W.Frag}{mg:Str→Option Value}{base:Heap}{k:Nat}{f:Addr}{name qual:Str}{params:Arguments}{body:List Stmt}{scope:Scope}{dV kV doc pm cdv ct oc:Value}{an od:Option Addr}
    {osl:Array (Option Value)}{N ps:List Str}{sp:Sp}(lk:K.lookup f=some ⟨oc,od,.func (PySem.W.fnOf name qual params body scope dV kV doc pm an cdv ct),osl⟩) (hcd:PySem.W.codeIn K cdv qual=true) (S:FnScope N ps scope)
    (len:∀ vs H Q E,sp vs H Q E→vs.length=ps.length)
    (hbody:∀ (A:Around) (outer:List Env) (s:Shared) (H:Hp) (vs:List V) (Q:VK) (E:XK),Room k (A.deeper (envOfC qual scope s.heap.objs.size f cdv))→sp vs H Q E →
      ∃ t,PSs (pZ CX P w K mg base N qual scope f cdv A outer s H E) body t∧t { nx:=fun _ H'=>Q .non H',rt:=Q } (wK N vs) H) :
    FnOk P w K mg base CX (k+1) f (PySem.W.fnOf name qual params body scope dV kV doc pm an cdv ct) ps sp:=by
  refine⟨len,fun A outer s H args us vs Q E hr e0 hb r hsp=>?_⟩
  have hl:=len _ _ _ _ hsp
  have KX:K.In s.heap:=e0.mod.kin.keeps fun b o e=>(e0.bs b o e).1
  have lim:s.heap.NoLimit:=e0.mod.nolimit.keeps fun b o e=>(e0.bs b o e).1
  have hkind:∀ y∈ps.zip us,scope.names.lookup y.1=some .local ∨ (scope.names.lookup y.1=some .cell∧((cellsFrom (s.heap.objs.size+1) scope.names []).lookup y.1).isSome=true):=fun ⟨n,v⟩ hy=>by
    rcases S.par n (List.of_mem_zip hy).1 with q|q
    · exact .inl q
    · exact .inr ⟨q,PySem.W.cellsFrom_some _ _ _ (.inl q)⟩
  refine codeAny_call_function hr.depth (KX _ _ lk) rfl S.co S.gen rfl (PySem.W.codeRec_of KX hcd) (hb _ _ _ _ ?_)
  refine wpAny_newFunctionEnv_cells S.kind hkind fun env he s1 x=>?_
  subst he
  refine⟨lim.keeps x.toInCall.keep,codeAny_func ?_⟩
  obtain⟨t,ht,hq⟩:=hbody A outer s H vs Q E (hr.deeper _) hsp
  have I:Inv (pZ CX P w K mg base N qual scope f cdv A outer s H E) [] (wK N vs) H s1:=mP S hr.hd e0 hl r x
  refine wpAny_mono (ht [] s1 (wK N vs) H _ I hq) (fun fl s' hs=>?_) fun e s' hs=>hs
  have fin:∀ {σ':St}{H':Hp}{v:V}{u:Value},Inv (pZ CX P w K mg base N qual scope f cdv A outer s H E) [] σ' H' s'→RelV v u→Q v H'→CE outer P w H s Q u s' :=
    fun {σ' H' v u} J rv q=>⟨v,H',J.os,J.bare,J.base,J.hok,rv,q⟩
  cases fl with
  | ret u =>
    obtain⟨v,σ',H',J,rv,q⟩:=hs
    exact fin J rv q
  | next =>
    obtain⟨σ',H',J,q⟩:=hs
    exact fin (v:=V.non) (u:=Value.none) J rfl q
  | brk =>
    obtain⟨_,_,_,q⟩:=hs
    exact False.elim q
  | cont =>
    obtain⟨_,_,_,q⟩:=hs
    exact False.elim q
section
variable {X:Cx}{x:Str}{p pos:Pos}{e:Expr}{es:List Expr}{t:TA}{id T:String}{r:List V→Hp→VK→Prop}
def tCB (r:List V→Hp→VK→Prop) (t:TA):TE:=fun σ H Q=>t σ H fun vs H1=>r vs H1 Q
theorem zQ (hc:CallR X (.builtin id) r) (hg:Gl X x) (hm:X.mg x=none) (hv:bootBuiltins x=some (.builtin id)) (ha:PA X (e::es) t) (hn:x≠"__name__":=by decide) (hdb:(x == ("__debug__":Str))=false:=by decide)
    (he:starEach (e::es) X.env=(false,eval e X.env)::starEach es X.env:=by rfl) (hpl:(backTo pos (starEach es X.env)).any (·.1)=false:=by rfl):PE X (.Call (.Name x p) (e::es) [] pos) (tCB r t):=by
  intro pins s σ H Q I h
  refine wpAny_Call_Name_kw (xL I hg hm hv ?_ hn hdb)
  exact PyProof.Rows.callWith_builtin1 (thn (ha pos pins s σ H _ I h) fun us s1 ⟨vs,H1,I1,r1,q1⟩=>hc pins s1 σ H1 vs us Q I1 r1 q1) he hpl
theorem zV (hc:CallR X (.type T) r) (hg:Gl X x) (hm:X.mg x=none) (hv:bootBuiltins x=some (.type T)) (ha:PA X (e::es) t) (hn:x≠"__name__":=by decide) (hdb:(x == ("__debug__":Str))=false:=by decide)
    (he:starEach (e::es) X.env=(false,eval e X.env)::starEach es X.env:=by rfl) (hpl:(backTo pos (starEach es X.env)).any (·.1)=false:=by rfl):PE X (.Call (.Name x p) (e::es) [] pos) (tCB r t):=by
  intro pins s σ H Q I h
  refine wpAny_Call_Name_kw (xL I hg hm hv ?_ hn hdb)
  exact PyProof.Rows.callWith_type1 (thn (ha pos pins s σ H _ I h) fun us s1 ⟨vs,H1,I1,r1,q1⟩=>hc pins s1 σ H1 vs us Q I1 r1 q1) he hpl
end
end L2
namespace HT
open PySem PyProof.Rows
section
open PySem.SeqAt
open PySem.AutoSeq1 (wpAny_loadPart')
open PySem.MeetsSeq PySem.MeetsSeq2 PySem.MeetsSeq3
end
section
variable {prog:Program}{w:World}{A:Around}{E:Value→Shared→Prop}{s:Shared}
theorem cat_tup {t b:Addr}{vs ws:List Value}{Q:Value→Shared→Prop}(ht:IsTup s.heap t vs.toArray) (hb:IsTup s.heap b ws.toArray) (hv:vs≠[])
    (h1:ws=[]→Q (.ref t) s) (h2:ws≠[]→Q (.ref s.heap.objs.size) { s with heap:=s.heap.push { cls:=.type "tuple",data:=.seq (vs++ws).toArray } })
    (hsz:vs.length+ws.length≤sizeLine):wpAny (model prog w) A (binaryOp .Add (.ref t) (.ref b)) Q E s:=by
  obtain⟨⟨cls,dd,data,sl⟩,ho,hc,n,hd⟩:=id ht
  obtain⟨⟨cls2,dd2,data2,sl2⟩,ho2,hc2,n2,hd2⟩:=id hb
  simp only at hc hd hc2 hd2
  subst hc hd hc2 hd2
  have e:vs.toArray++ws.toArray=(vs++ws).toArray:=by simp
  by_cases hw:ws=[]
  · exact concat_meets ⟨_,ho,rfl⟩ ⟨_,ho2,rfl⟩ noFill_tuple_add seq_tuple_add PySem.F.slot_tuple_add PySem.F.entry_tuple_add (PySem.F.args_tuple_add_2 _ _)
      (tuple_addW1 t b vs.toArray ws.toArray n n2 dd dd2 sl sl2 (by simpa using hv) (by simp[hw])) ⟨ho,ho2,h1 hw⟩
  · refine concat_meets ⟨_,ho,rfl⟩ ⟨_,ho2,rfl⟩ noFill_tuple_add seq_tuple_add PySem.F.slot_tuple_add PySem.F.entry_tuple_add (PySem.F.args_tuple_add_2 _ _)
      (tuple_addW2 t b vs.toArray ws.toArray n n2 dd dd2 sl sl2 (by simpa using hv) (by simpa using hw) (by rw[List.size_toArray,List.size_toArray];exact hsz)) ⟨ho,ho2,?_⟩
    rw[e]
    exact h2 hw
def sIx (n d:Nat):Option Int→Nat
  | none=>d
  | some v=>if v<0 then (v+(n:Int)).toNat else min v.toNat n
theorem sIx_none (n d:Nat):sIx n d none=d:=rfl
theorem sIx_nat (n d k:Nat):sIx n d (some (k:Int))=min k n:=by
  show (if (k:Int)<0 then ((k:Int)+(n:Int)).toNat else min (k:Int).toNat n)=min k n
  rw[if_neg (by omega),Int.toNat_natCast]
theorem gA (n d:Nat) (hd:d≤n) (o:Option Int):sIx n d o≤n:=by
  cases o with
  | none=>exact hd
  | some v =>
    show (if v<0 then (v+(n:Int)).toNat else min v.toNat n)≤n
    by_cases hv:v<0
    · rw[if_pos hv];omega
    · rw[if_neg hv];exact Nat.min_le_right _ _
theorem o0 (v:Int) (n d:Nat):(if v<0 then max (v+(n:Int)) 0 else min v (n:Int))=((sIx n d (some v):Nat):Int):=by
  show (if v<0 then max (v+(n:Int)) 0 else min v (n:Int))=(((if v<0 then (v+(n:Int)).toNat else min v.toNat n):Nat):Int)
  by_cases hv:v<0
  · simp only[if_pos hv];omega
  · simp only[if_neg hv];omega
theorem pf (lo hi:Option Int) (n:Nat):Builtin.Slice.sliceAdjust lo hi 1 (n:Int)=(((sIx n 0 lo:Nat):Int),((sIx n n hi:Nat):Int)):=by
  have h1:¬((1:Int)<0):=by omega
  unfold Builtin.Slice.sliceAdjust
  simp only[h1,if_false]
  refine Prod.ext ?_ ?_
  · cases lo with
    | none=>rfl
    | some v=>exact o0 v n 0
  · cases hi with
    | none=>rfl
    | some v=>exact o0 v n n
theorem pE (i j:Nat):Builtin.Slice.slicePlaces (i:Int) (j:Int) 1=j-i:=by
  unfold Builtin.Slice.slicePlaces
  have h1:(1:Int) > 0:=by omega
  simp only[h1,if_true,Int.ediv_one]
  split<;>omega
theorem vz {v:Value}{o:Option Int}{Q:Option Int→Shared→Prop}(p:IsPart v o) (h:Q o s):wpAny (model prog w) A (Builtin.Slice.slicePartIndex v) Q E s:=by
  cases p with
  | none=>exact slicePart_none h
  | int i t=>exact slicePart_int h
theorem sliceApplied_gen {sl:Addr}{vl vu:Value}{lo hi:Option Int}{n:Nat}{Q:Int × Int × Nat→Shared→Prop}(hs:s.heap.IsSliceOf sl vl vu .none) (pl:IsPart vl lo) (pu:IsPart vu hi)
    (h:Q (((sIx n 0 lo:Nat):Int),1,sIx n n hi-sIx n 0 lo) s):wpAny (model prog w) A (Builtin.Slice.sliceApplied (.ref sl) (pure (n:Int))) Q E s:=by
  obtain⟨os,hos,hcs,hds⟩:=id hs
  unfold Builtin.Slice.sliceApplied Builtin.Slice.sliceFields
  refine wpAny_bind (wpAny_bind (wpAny_field hos hds (x:=vl) rfl (wpAny_bind (wpAny_field hos hds (x:=vu) rfl (wpAny_bind (wpAny_field hos hds (x:=.none) rfl (wpAny_pure ?_)))))))
  refine wpAny_bind (slicePart_none ?_)
  show wpAny _ _ (if ((1:Int) == 0)=true then _ else _) _ _ s
  rw[if_neg (by decide)]
  refine wpAny_bind (vz pl (wpAny_bind (vz pu (wpAny_bind (wpAny_pure ?_)))))
  show wpAny _ _ (match Builtin.Slice.sliceAdjust lo hi 1 (n:Int) with|(lo,hi)=>pure (lo,(1:Int),Builtin.Slice.slicePlaces lo hi 1)) _ _ s
  rw[pf lo hi n]
  show wpAny _ _ (pure (((sIx n 0 lo:Nat):Int),(1:Int),Builtin.Slice.slicePlaces ((sIx n 0 lo:Nat):Int) ((sIx n n hi:Nat):Int) 1)) _ _ s
  rw[pE]
  exact wpAny_pure h
theorem l0 (xs:Array Value) (i k:Nat):((List.range k).filterMap fun (m:Nat)=>xs[((i:Int)+(m:Int)*1).toNat]?).toArray=((xs.toList.drop i).take k).toArray:=by
  have e:(fun (m:Nat)=>xs[((i:Int)+(m:Int)*1).toNat]?)=fun m=>xs[i+m]?:=by
    funext m
    have:((i:Int)+(m:Int)*1).toNat=i+m:=by omega
    rw[this]
  rw[e]
  have:=pick_run xs i k
  rw[List.filterMap_map]at this
  have e2:((fun x=>xs[x]?)∘fun x=>i+x)=fun m=>xs[i+m]?:=rfl
  rw[e2]at this
  rw[this]
theorem getItem_tuple_cut {t sl:Addr}{items:Array Value}{vl vu:Value}{lo hi:Option Int}{Q:Value→Shared→Prop}(ht:IsTup s.heap t items) (hs:s.heap.IsSliceOf sl vl vu .none) (pl:IsPart vl lo) (pu:IsPart vu hi)
    (hw:¬(sIx items.size 0 lo=0∧sIx items.size items.size hi=items.size))
    (h:Q (.ref s.heap.objs.size) { s with heap:=s.heap.push { cls:=.type "tuple",data:=.seq ((items.toList.drop (sIx items.size 0 lo)).take (sIx items.size items.size hi-sIx items.size 0 lo)).toArray } })
    (hsz:items.size≤sizeLine):wpAny (model prog w) A (getItem (.ref t) (.ref sl)) Q E s:=by
  have htake:sizeOk (.seq ((items.toList.drop (sIx items.size 0 lo)).take (sIx items.size items.size hi-sIx items.size 0 lo)).toArray):=by
    show ((items.toList.drop (sIx items.size 0 lo)).take (sIx items.size items.size hi-sIx items.size 0 lo)).toArray.size≤sizeLine
    rw[List.size_toArray,List.length_take,List.length_drop,Array.length_toList]
    omega
  have hj:sIx items.size items.size hi≤items.size:=gA _ _ (Nat.le_refl _) hi
  obtain⟨os,hos,hcs,hds⟩:=id hs
  have hTs:s.TypeIs (.ref sl) "slice":=⟨os,hos,hcs⟩
  unfold getItem
  try with_reducible refine wpAny_holding ?_
  first|refine wpAny_bind (wpAny_pure ?_)|skip
  refine wpAny_bind (wpAny_sequenceKey ht.typeIs (by decide) ?_)
  refine wpAny_bind (wpAny_callSpecial?_slot (name:=Str.ofString "__getitem__") ht.typeIs PyProof.Rows.slot_tuple_getitem
    (wpAny_call_entry PyProof.Rows.slot_tuple_getitem ht.typeIs entry_tuple_getitem ?_ (args_tuple_getitem _ _)))
  show wpAny _ _ (Builtin.Tuple.tupleItemsOf (.ref t) >>= _) _ _ s
  refine wpAny_bind (tupleItemsOf_ ht ?_)
  refine wpAny_bind (wpAny_typeOf hTs ?_)
  rw[if_pos (by decide)]
  refine wpAny_bind (sliceApplied_gen hs pl pu ?_)
  have hno:¬((((sIx items.size 0 lo:Nat):Int) == 0 && (1:Int) == 1 && (sIx items.size items.size hi-sIx items.size 0 lo) == items.size)=true):=by
    intro q
    rw[Bool.and_eq_true,Bool.and_eq_true]at q
    have q1:((sIx items.size 0 lo:Nat):Int)=0:=eq_of_beq q.1.1
    have q2:sIx items.size items.size hi-sIx items.size 0 lo=items.size:=eq_of_beq q.2
    exact hw ⟨by omega,by omega⟩
  show wpAny _ _ (if (((sIx items.size 0 lo:Nat):Int) == 0 && (1:Int) == 1 && (sIx items.size items.size hi-sIx items.size 0 lo) == items.size)=true then _ else _) _ _ s
  rw[if_neg hno,l0]
  first
    | exact wpAny_bind (m:=Builtin.Tuple.tupleExact _) (wpAny_newObj_type (wpAny_pure ⟨_,rfl,wpAny_pure h⟩) htake)
    | exact wpAny_bind (m:=Builtin.Tuple.tupleExact _) (wpAny_newObj_type (wpAny_bind (wpAny_pure (wpAny_pure ⟨_,rfl,wpAny_pure h⟩))) htake)
    | exact wpAny_bind (wpAny_bind (m:=Builtin.Tuple.tupleExact _) (wpAny_newObj_type (wpAny_pure (wpAny_pure ⟨_,rfl,wpAny_pure h⟩)) htake))
    | exact wpAny_bind (wpAny_bind (m:=Builtin.Tuple.tupleExact _) (wpAny_newObj_type (wpAny_pure ⟨_,rfl,wpAny_pure h⟩) htake))
end
end HT
namespace L2
open PySem PySem.Spec PyProof.Rows
abbrev TO:=St→Hp→(Option Int→Hp→Prop)→Prop
def PO (X:Cx) (e:Option Expr) (t:TO):Prop :=
  ∀ (pins:List (Addr × Obj)) (s:Shared) (σ:St) (H:Hp) (Q:Option Int→Hp→Prop),Inv X pins σ H s→t σ H Q →
    wpAny (model X.prog X.w) X.A (evalPart e X.env) (fun u s'=>∃ o H',Inv X pins σ H' s'∧IsPart u o∧Q o H') X.xe s
def jY:TO:=fun _ H Q=>Q none H
def g9 (t:TE):TO:=fun σ H Q=>t σ H fun x H1=>∃ i,x=.int i∧Q (some i) H1
section
variable {X:Cx}{e:Expr}{te:TE}{lo hi:Option Expr}{tl th:TO}{pos p2:Pos}
theorem yC:PO X none jY:=by
  intro pins s σ H Q I h
  rw[evalPart_none]
  exact wpAny_pure ⟨none,H,I,.none,h⟩
theorem zo (h:PE X e te):PO X (some e) (g9 te):=by
  intro pins s σ H Q I hw
  rw[evalPart_some]
  refine thn (h pins s σ H _ I hw) fun u s1 ⟨x,H1,I1,r1,q1⟩=>?_
  obtain⟨i,rfl,q⟩:=q1
  obtain⟨t,rfl⟩:=r1
  exact⟨some i,H1,I1,.int i t,q⟩
def SlR (X:Cx) (r:V→Option Int→Option Int→Hp→VK→Prop):Prop :=
  ∀ (pins:List (Addr × Obj)) (s:Shared) (σ:St) (H:Hp) (x:V) (v vl vu:Value) (lo hi:Option Int) (sl:Addr) (Q:VK),Inv X pins σ H s→RelV x v→s.heap.IsSliceOf sl vl vu .none→IsPart vl lo→IsPart vu hi→r x lo hi H Q →
    ∃ T id,typeLookup (.type T) "__getitem__" = pure (some (.builtin id))∧s.TypeIs v T∧wpAny (model X.prog X.w) X.A (getItem v (.ref sl)) (EP X pins σ Q) X.xe s
def tSl (r:V→Option Int→Option Int→Hp→VK→Prop) (te:TE) (tl th:TO):TE:=fun σ H Q=>te σ H fun x H1=>tl σ H1 fun l H2=>th σ H2 fun u H3=>r x l u H3 Q
theorem zu {r:V→Option Int→Option Int→Hp→VK→Prop}(hr:SlR X r) (he:PE X e te) (hl:PO X lo tl) (hu:PO X hi th):PE X (.Subscript e (.Slice lo hi none p2) pos) (tSl r te tl th):=by
  intro pins s σ H Q I h
  refine Subscript_ (thn (he pins s σ H _ I h) fun v s1 ⟨x,H1,I1,r1,q1⟩=>?_)
  refine wpAny_Slice (thn (hl pins s1 σ H1 _ I1 q1) fun vl s2 ⟨l,H2,I2,pl,q2⟩=>thn (hu pins s2 σ H2 _ I2 q2) fun vu s3 ⟨u,H3,I3,pu,q3⟩=>?_)
  rw[evalPart_none]
  refine wpAny_pure ?_
  have I4:Inv X pins σ H3 { s3 with heap:=s3.heap.push { cls:=.type "slice",data:=.fields #[vl,vu,.none] } }:=I3.kept (t':=s3.toks) fun b ob q=>Heap.get?_push_of_some _ q
  obtain⟨T,id,hT,ht,hg⟩:=hr pins { s3 with heap:=s3.heap.push { cls:=.type "slice",data:=.fields #[vl,vu,.none] } } σ H3 x v vl vu l u s3.heap.objs.size Q I4 r1 (Heap.IsSliceOf.new ..) pl pu q3
  show wpAny (model X.prog X.w) X.A (subscriptTail e (.Slice lo hi none p2) v (.ref s3.heap.objs.size)) (EP X pins σ Q) X.xe { s3 with heap:=s3.heap.push { cls:=.type "slice",data:=.fields #[vl,vu,.none] } }
  exact tail_any (ops:=[.ref s3.heap.objs.size,v]) ht hT hg (by with_unfolding_all rfl)
def xO (xs:List V) (lo hi:Option Int):List V:=(xs.drop (HT.sIx xs.length 0 lo)).take (HT.sIx xs.length xs.length hi-HT.sIx xs.length 0 lo)
theorem vS (xs:List V) (lo hi:Option Int):(xO xs lo hi).length≤xs.length:=by
  unfold xO
  rw[List.length_take,List.length_drop]
  omega
def dv (K:PySem.W.Frag):V→Option Int→Option Int→Hp→VK→Prop:=fun x lo hi H Q=>∃ a xs,x=.ref a∧SqT K H a xs ∧
  ¬(HT.sIx xs.length 0 lo=0∧HT.sIx xs.length xs.length hi=xs.length)∧∀ p,H p=none→Q (.ref p) (upd H p (.tup (xO xs lo hi)))
theorem iy:SlR X (dv X.K):=by
  intro pins s σ H x v vl vu lo hi sl Q I rx hs pl pu h
  obtain⟨a,xs,rfl,hx,hw,q⟩:=h
  cases rx
  obtain⟨its,r,ht,hz⟩:=I.tuple hx
  have hlen:its.toArray.size=xs.length:=by rw[List.size_toArray];exact r.length.symm
  refine⟨"tuple",_,PyProof.Rows.slot_tuple_getitem.lookup,ht.typeIs,?_⟩
  refine HT.getItem_tuple_cut ht hs pl pu (by rw[hlen];exact hw) ?_ (by rw[hlen];exact hz)
  rw[hlen]
  refine⟨.ref s.heap.objs.size,_,I.laid (t':=s.toks) (o:=.tup (xO xs lo hi)) (fun b ob q=>Heap.get?_push_of_some _ q) (Nat.le_refl _) ?_,rfl,q _ (I.hok.fresh (Nat.le_refl _))⟩
  exact⟨Nat.le_trans (vS xs lo hi) hz,_,(r.drop (HT.sIx xs.length 0 lo)).take (HT.sIx xs.length xs.length hi-HT.sIx xs.length 0 lo),TupX.new _ _⟩
def eB (K:PySem.W.Frag):R2:=fun x y H Q=>∃ a b xs ys,x=.ref a∧y=.ref b∧SqT K H a xs∧SqT K H b ys∧xs≠[]∧xs.length+ys.length≤sizeLine ∧
  (ys=[]→Q (.ref a) H)∧(ys≠[]→∀ p,H p=none→Q (.ref p) (upd H p (.tup (xs++ys))))
theorem Vals.nil_iff {xs:List V}{us:List Value}(r:Vals xs us):us=[]↔xs=[]:=by
  cases r with
  | nil=>simp
  | cons _ _=>simp
theorem jn:OpR X (binaryOp .Add) (eB X.K):=by
  intro pins s σ H x y v u Q I rx ry h
  obtain⟨a,b,xs,ys,rfl,rfl,ha,hb,hx,hz,q1,q2⟩:=h
  cases rx
  cases ry
  obtain⟨its,r1,p1,_⟩:=I.tuple ha
  obtain⟨its2,r2,p2,_⟩:=I.tuple hb
  refine HT.cat_tup p1 p2 (fun z=>hx (r1.nil_iff.mp z)) (fun z=>⟨.ref a,H,I,rfl,q1 (r2.nil_iff.mp z)⟩) (fun z=>?_) (by rw[← r1.length,← r2.length];exact hz)
  refine⟨.ref s.heap.objs.size,_,I.laid (t':=s.toks) (o:=.tup (xs++ys)) (fun b ob q=>Heap.get?_push_of_some _ q) (Nat.le_refl _) ?_,rfl,q2 (fun w=>z (r2.nil_iff.mpr w)) _ (I.hok.fresh (Nat.le_refl _))⟩
  exact⟨by rw[List.length_append];exact hz,_,r1.append r2,TupX.new _ _⟩
end
def ixN (n:Nat) (i:Int):Option Nat:=if 0≤i then (if i<n then some i.toNat else none) else if -(n:Int)≤i then some (i+n).toNat else none
def atI {α:Type}(xs:List α) (i:Int):Option α:=(ixN xs.length i).bind fun j=>xs[j]?
theorem sS {n:Nat}{i:Int}{j:Nat}(h:ixN n i=some j):seqIndex? i n=some j∧j<n∧-(n:Int)≤i∧i<n:=by
  unfold ixN at h
  by_cases h0:0≤i
  · rw[if_pos h0]at h
    by_cases h1:i<n
    · rw[if_pos h1]at h
      have e:i.toNat=j:=Option.some.inj h
      exact⟨by rw[seqIndex_of h0 h1,e],by omega,by omega,h1⟩
    · rw[if_neg h1]at h;cases h
  · rw[if_neg h0]at h
    by_cases h1:-(n:Int)≤i
    · rw[if_pos h1]at h
      have e:(i+n).toNat=j:=Option.some.inj h
      exact⟨by rw[seqIndex_neg (by omega) h1,e],by omega,h1,by omega⟩
    · rw[if_neg h1]at h;cases h
theorem o4 {α:Type}{xs:List α}{i:Int}{v:α}(h:atI xs i=some v):∃ j,seqIndex? i xs.length=some j∧xs[j]?=some v∧j<xs.length∧-(xs.length:Int)≤i∧i<xs.length:=by
  unfold atI at h
  cases e:ixN xs.length i with
  | none=>rw[e]at h;cases h
  | some j =>
    rw[e]at h
    obtain⟨h1,h2,h3,h4⟩:=sS e
    exact⟨j,h1,h,h2,h3,h4⟩
theorem yD {α:Type}{xs:List α}{j:Nat}{v:α}(h:xs[j]?=some v):atI xs (j:Int)=some v:=by
  have hj:j<xs.length:=(List.getElem?_eq_some_iff.mp h).1
  have e:ixN xs.length (j:Int)=some j:=by
    unfold ixN
    rw[if_pos (by omega),if_pos (by omega)];simp
  unfold atI;rw[e];exact h
def PlainIx (b:Expr):Prop:=∀ o i,subscripted b false o i=operate [o,i] (getItem o i)
def IxR (X:Cx) (r:R2):Prop :=
  ∀ (value slice:Expr) (pins:List (Addr × Obj)) (s:Shared) (σ:St) (H:Hp) (x y:V) (v u:Value) (Q:VK),Inv X pins σ H s→RelV x v→RelV y u→r x y H Q →
    subscripted slice false v u=operate [v,u] (getItem v u)→wpAny (model X.prog X.w) X.A (subscriptTail value slice v u) (EP X pins σ Q) X.xe s
def MtR (X:Cx) (id:String) (r:V→List V→Hp→VK→Prop):Prop :=
  ∀ (pins:List (Addr × Obj)) (s:Shared) (σ:St) (H:Hp) (x:V) (xs:List V) (v:Value) (us:List Value) (Q:VK),Inv X pins σ H s→RelV x v→Vals xs us→r x xs H Q →
    wpAny (model X.prog X.w) X.A (call (.builtin id) (v::us)) (EP X pins σ Q) X.xe s
section
variable {X:Cx}{a b:Expr}{ta tb:TE}{pos:Pos}
theorem zY {r:R2}(hr:IxR X r) (ha:PE X a ta) (hb:PE X b tb) (hs:PlainIx b):PE X (.Subscript a b pos) (tOp r ta tb):=by
  intro pins s σ H Q I h
  exact Subscript_ (gw ha hb I h fun v u s2 x y H2 I2 rx ry q=>hr a b pins s2 σ H2 x y v u Q I2 rx ry q (hs _ _))
def lj (K:PySem.W.Frag):R2:=fun x y H Q=>∃ p xs i v,x=.ref p∧y=.int i∧SqL K H p xs∧atI xs i=some v∧Q v H
def dz (K:PySem.W.Frag):R2:=fun x y H Q=>∃ p xs i v,x=.ref p∧y=.int i∧SqT K H p xs∧atI xs i=some v∧Q v H
theorem zd:IxR X (lj X.K):=by
  intro value slice pins s σ H x y v u Q I rx ry h hs
  obtain⟨p,xs,i,z,rfl,rfl,hq,he,q⟩:=h
  cases rx
  obtain⟨t,rfl⟩:=ry
  obtain⟨its,r,pl,hz⟩:=I.list hq
  obtain⟨j,h1,h2,h3,h4,h5⟩:=o4 he
  obtain⟨w,ew,rw'⟩:=r.get h2
  have hl:=r.length
  have hn:=sR
  have fin:EP X pins σ Q w s:=⟨z,H,I,rw',q⟩
  by_cases h0:0≤i
  · have hj:i.toNat=j:=by
      rw[seqIndex_of h0 h5]at h1
      exact Option.some.inj h1
    exact item_listR pl.isList h0 (by omega) (by rw[hj];simpa using ew) fin hs
  · have hj:(i+(its.toArray.size:Int)).toNat=j:=by
      rw[seqIndex_neg (by omega) h4]at h1
      rw[List.size_toArray,← hl]
      exact Option.some.inj h1
    exact subscriptTail_builtinR (x:=w) pl.isList.typeIs slot_list_getitem.lookup
      (wpAny_getItem_list_neg (Q:=fun r s'=>r=w∧EP X pins σ Q r s') pl.isList (by omega) (by rw[List.size_toArray]<;>omega) (by omega) (by rw[hj];simpa using ew) ⟨rfl,fin⟩) hs
theorem yB:IxR X (dz X.K):=by
  intro value slice pins s σ H x y v u Q I rx ry h hs
  obtain⟨p,xs,i,z,rfl,rfl,hq,he,q⟩:=h
  cases rx
  obtain⟨t,rfl⟩:=ry
  obtain⟨its,r,pl,hz⟩:=I.tuple hq
  obtain⟨j,h1,h2,h3,h4,h5⟩:=o4 he
  obtain⟨w,ew,rw'⟩:=r.get h2
  have hl:=r.length
  have hn:=sR
  have fin:EP X pins σ Q w s:=⟨z,H,I,rw',q⟩
  exact subscriptTail_builtinR (x:=w) pl.typeIs slot_tuple_getitem.lookup
    (getItem_tuple (j:=j) (Q:=fun r s'=>r=w∧EP X pins σ Q r s') pl (by omega) (by omega) (by rw[List.size_toArray,← hl];exact h1) (by simpa using ew) ⟨rfl,fin⟩) hs
theorem pN (its:List Value) (n j:Nat) (u:Value):Obj.mapSeq (·.setIfInBounds j u) { cls:=.type "list",data:=.seq its.toArray n }={ cls:=.type "list",data:=.seq (its.set j u).toArray n }:=by
  simp[Obj.mapSeq]
theorem Inv.lst {pins:List (Addr × Obj)}{σ:St}{H:Hp}{s:Shared}{p:Addr}{xs:List V}(I:Inv X pins σ H s) (h:H p=some (.lst xs)) :
    ∃ (its:List Value) (n:Nat),Vals xs its∧s.heap.get? p=some { cls:=.type "list",data:=.seq its.toArray n }∧xs.length≤sizeLine:=by
  obtain⟨z,its,n,r,e⟩:=I.hok p _ h
  exact⟨its,n,r,e,z⟩
theorem Inv.lstUpd {pins:List (Addr × Obj)}{σ:St}{H:Hp}{s:Shared}{p:Addr}{xs ys:List V}{its its':List Value}{n n':Nat}{f:Obj→Obj}(I:Inv X pins σ H s) (h:H p=some (.lst xs))
    (ho:s.heap.get? p=some { cls:=.type "list",data:=.seq its.toArray n }) (hf:f { cls:=.type "list",data:=.seq its.toArray n }={ cls:=.type "list",data:=.seq its'.toArray n' }) (r:Vals ys its') (hz:ys.length≤sizeLine) (t:Nat) :
    Inv X pins σ (upd H p (.lst ys)) { s with heap:=s.heap.update p f,toks:=t }:=by
  have e:(s.heap.update p f).get? p=some { cls:=.type "list",data:=.seq its'.toArray n' }:=by
    rw[Heap.get?_update_self f ho (by rw[hf]<;>rfl),hf]
  refine I.write (x:=p) (e:=p) (by rw[h];trivial) (.inl rfl) (fun b u hb q=>(Heap.get?_update_other _ _ (Ne.symm hb)).trans q) ⟨_,e⟩ ?_
  exact⟨hz,its',n',r,e⟩
def fv:V→V→V→Hp→(Hp→Prop)→Prop:=fun o i v H Q=>∃ p xs k j,o=.ref p∧i=.int k∧H p=some (.lst xs)∧ixN xs.length k=some j∧Q (upd H p (.lst (xs.set j v)))
theorem yg:PSet X fv:=by
  intro pins s σ H o i v ov iv u Q I ro ri rv h
  obtain⟨p,xs,k,j,rfl,rfl,hp,hj,q⟩:=h
  cases ro
  obtain⟨t,rfl⟩:=ri
  obtain⟨its,n,r,ho,hz⟩:=I.lst hp
  obtain⟨h1,h2,h3,h4⟩:=sS hj
  have hl:=r.length
  have hn:=sR
  have I':Inv X pins σ (upd H p (.lst (xs.set j v))) { s with heap:=s.heap.update p (Obj.mapSeq (·.setIfInBounds j u)) } :=
    I.lstUpd hp ho (pN its n j u) (r.set rv j) (by rw[List.length_set];exact hz) s.toks
  by_cases h0:0≤k
  · have hk:k.toNat=j:=by
      rw[seqIndex_of h0 h4]at h1
      exact Option.some.inj h1
    exact PySem.W.ki_setAt ho h0 (by omega) (by rw[List.size_toArray,← hl];exact h4) (by rw[hk];exact⟨_,I',q⟩)
  · have hk:(k+(its.toArray.size:Int)).toNat=j:=by
      rw[seqIndex_neg (by omega) h3]at h1
      rw[List.size_toArray,← hl]
      exact Option.some.inj h1
    exact PySem.W.ki_setBack ho (by omega) (by rw[List.size_toArray,← hl];exact h3) (by omega) (by rw[hk];exact⟨_,I',q⟩)
theorem tw (lo hi:Option Int) (n:Nat):(sliceBounds lo hi none n).1=((HT.sIx n 0 lo:Nat):Int)∧(sliceBounds lo hi none n).2.1=((HT.sIx n n hi:Nat):Int)∧(sliceBounds lo hi none n).2.2=1:=by
  refine⟨?_,?_,rfl⟩
  · cases lo with
    | none=>simp[sliceBounds,HT.sIx]
    | some i =>
      simp only[sliceBounds,HT.sIx,Option.getD_none,show (1:Int) > 0 by decide,if_true]
      by_cases h:i<0
      · simp only[h,if_true]<;>omega
      · simp only[h,if_false]<;>omega
  · cases hi with
    | none=>simp[sliceBounds,HT.sIx]
    | some i =>
      simp only[sliceBounds,HT.sIx,Option.getD_none,show (1:Int) > 0 by decide,if_true]
      by_cases h:i<0
      · simp only[h,if_true]<;>omega
      · simp only[h,if_false]<;>omega
theorem ud (its:List Value) (lo hi:Option Int):slicePick its.toArray lo hi none=((its.drop (HT.sIx its.length 0 lo)).take (HT.sIx its.length its.length hi-HT.sIx its.length 0 lo)).toArray:=by
  obtain⟨h1,h2,h3⟩:=tw lo hi its.toArray.size
  unfold slicePick
  rw[h1,h2,h3]
  simp only[sliceRange_one,pick_run,List.size_toArray]<;>rfl
def dw (K:PySem.W.Frag):V→Option Int→Option Int→Hp→VK→Prop:=fun x lo hi H Q=>∃ a xs,x=.ref a∧SqL K H a xs∧∀ p,H p=none→Q (.ref p) (upd H p (.lst (xO xs lo hi)))
theorem xy:SlR X (dw X.K):=by
  intro pins s σ H x v vl vu lo hi sl Q I rx hs pl pu h
  obtain⟨a,xs,rfl,hx,q⟩:=h
  cases rx
  obtain⟨its,r,ht,hz⟩:=I.list hx
  have hlen:=r.length
  refine⟨"list",_,slot_list_getitem.lookup,ht.isList.typeIs,?_⟩
  refine wpAny_getItem_list_slice ht.isList hs pl pu .none (by simp) ?_ (by rw[List.size_toArray]<;>omega)
  rw[ud,← hlen]
  refine⟨.ref s.heap.objs.size,_,I.laid (t':=s.toks) (o:=.lst (xO xs lo hi)) (fun b ob q=>Heap.get?_push_of_some _ q) (Nat.le_refl _) ?_,rfl,q _ (I.hok.fresh (Nat.le_refl _))⟩
  exact⟨Nat.le_trans (vS xs lo hi) hz,_,0,(r.drop (HT.sIx xs.length 0 lo)).take (HT.sIx xs.length xs.length hi-HT.sIx xs.length 0 lo),Heap.get?_push_size _ rfl⟩
def vR:V→Bool
  | .non=>true
  | .bl _=>true
  | .int _=>true
  | .str _=>true
  | _=>false
def eqV:V→V→Bool
  | .non,.non=>true
  | .bl a,.bl b=>a == b
  | .bl a,.int b=>(if a then 1 else 0) == b
  | .int a,.bl b=>a == (if b then 1 else 0)
  | .int a,.int b=>a == b
  | .str a,.str b=>a == b
  | _,_=>false
theorem gn {A:Around}{s:Shared}{y x:V}{u v:Value}(ry:RelV y u) (rx:RelV x v) (fy:vR y=true) (fx:vR x=true):SeqAt.EqAt A s u v (eqV y x):=by
  cases y with
  | non =>
    cases ry
    cases x with
    | non=>cases rx;exact SeqAt.EqAt.same _
    | bl b=>cases rx;exact SeqAt.EqAt.none_bool b
    | int b=>obtain⟨t,rfl⟩:=rx;exact SeqAt.EqAt.none_int b t
    | str b=>obtain⟨t,rfl⟩:=rx;exact SeqAt.EqAt.none_str b t
    | _=>exact absurd (show false=true from fx) Bool.false_ne_true
  | bl a =>
    cases ry
    cases x with
    | non=>cases rx;exact SeqAt.EqAt.bool_none a
    | bl b=>cases rx;exact SeqAt.EqAt.bool_bool a b
    | int b=>obtain⟨t,rfl⟩:=rx;exact SeqAt.EqAt.bool_int a b t
    | str b=>obtain⟨t,rfl⟩:=rx;exact SeqAt.EqAt.bool_str a b t
    | _=>exact absurd (show false=true from fx) Bool.false_ne_true
  | int a =>
    obtain⟨t',rfl⟩:=ry
    cases x with
    | non=>cases rx;exact SeqAt.EqAt.int_none a t'
    | bl b=>cases rx;exact SeqAt.EqAt.int_bool a t' b
    | int b=>obtain⟨t,rfl⟩:=rx;exact SeqAt.EqAt.int_int a t' b t
    | str b=>obtain⟨t,rfl⟩:=rx;exact SeqAt.EqAt.int_str a t' b t
    | _=>exact absurd (show false=true from fx) Bool.false_ne_true
  | str a =>
    obtain⟨t',rfl⟩:=ry
    cases x with
    | non=>cases rx;exact SeqAt.EqAt.str_none a t'
    | bl b=>cases rx;exact SeqAt.EqAt.str_bool a t' b
    | int b=>obtain⟨t,rfl⟩:=rx;exact SeqAt.EqAt.str_int a t' b t
    | str b=>obtain⟨t,rfl⟩:=rx;exact SeqAt.EqAt.str_str a t' b t
    | _=>exact absurd (show false=true from fx) Bool.false_ne_true
  | _=>exact absurd (show false=true from fy) Bool.false_ne_true
def eqU (x:V) (u:Value):Bool:=match u with
  | .none=>eqV .non x
  | .bool b=>eqV (.bl b) x
  | .int i _=>eqV (.int i) x
  | .str z _=>eqV (.str z) x
  | _=>false
theorem jE {x y:V}{u:Value}(r:RelV y u) (f:vR y=true):eqU x u=eqV y x:=by
  cases y with
  | non=>cases r;rfl
  | bl b=>cases r;rfl
  | int i=>obtain⟨t,rfl⟩:=r;rfl
  | str z=>obtain⟨t,rfl⟩:=r;rfl
  | _=>exact absurd (show false=true from f) Bool.false_ne_true
theorem sZ {x:V}:∀ {xs:List V}{us:List Value},Vals xs us→xs.all vR=true→us.any (eqU x)=xs.any fun y=>eqV y x
  | _,_,.nil,_=>rfl
  | y::xs,u::us,.cons r t,f=>by
    rw[List.all_cons,Bool.and_eq_true]at f
    rw[List.any_cons,List.any_cons,jE r f.1,sZ t f.2]
theorem uJ {A:Around}{s:Shared}{x:V}{v:Value}(rx:RelV x v) (fx:vR x=true):∀ {xs:List V}{us:List Value},Vals xs us→xs.all vR=true→∀ u∈us,SeqAt.EqAt A s u v (eqU x u)
  | _,_,.nil,_=>fun u hu=>by cases hu
  | y::xs,u::us,.cons r t,f=>fun u' hu=>by
    rw[List.all_cons,Bool.and_eq_true]at f
    rcases List.mem_cons.mp hu with rfl|hu
    · rw[jE r f.1];exact gn r rx f.1 fx
    · exact uJ rx fx t f.2 u' hu
def inV (x:V) (xs:List V):Bool:=xs.any fun y=>eqV y x
def rIn (K:PySem.W.Frag) (neg:Bool):R2:=fun x y H Q=>∃ p xs,y=.ref p∧(SqL K H p xs∨SqT K H p xs)∧vR x=true∧xs.all vR=true∧Q (.bl (if neg then !inV x xs else inV x xs)) H
theorem uw:OpR X (compareOp .In) (rIn X.K false):=by
  intro pins s σ H x y v u Q I rx ry h
  obtain⟨p,xs,rfl,hq,fx,fs,q⟩:=h
  cases ry
  rcases hq with hq|hq
  · obtain⟨its,r,pl,hz⟩:=I.list hq
    refine SeqAt.in_listAt (eqU x) pl.isList (fun w hw=>uJ rx fx r fs w (by simpa using hw)) ⟨.bl _,H,I,rfl,?_⟩
    rw[show its.toArray.any (eqU x)=its.any (eqU x) by simp,sZ r fs]
    exact q
  · obtain⟨its,r,pl,hz⟩:=I.tuple hq
    refine SeqAt.in_tupleAt (eqU x) pl (fun w hw=>uJ rx fx r fs w (by simpa using hw)) ⟨.bl _,H,I,rfl,?_⟩
    rw[show its.toArray.any (eqU x)=its.any (eqU x) by simp,sZ r fs]
    exact q
theorem zW:CallR X (.builtin "len") (fun xs H Q=>∃ p ys,xs=[.ref p]∧(SqL X.K H p ys∨SqT X.K H p ys)∧Q (.int ys.length) H):=by
  intro pins s σ H xs us Q I r h
  obtain⟨p,ys,rfl,hq,q⟩:=h
  obtain⟨u,rfl,rx⟩:=vI r
  cases rx
  have hn:=sR
  rcases hq with hq|hq
  · obtain⟨its,r',pl,hz⟩:=I.list hq
    have hlen:=r'.length
    exact Calls.call_len_list pl.isList (by simp only[List.size_toArray]<;>omega) ⟨.int ys.length,H,I.tok _,⟨s.toks+1,by rw[List.size_toArray,hlen]⟩,q⟩
  · obtain⟨its,r',pl,hz⟩:=I.tuple hq
    have hlen:=r'.length
    exact len_tuple pl (by simp only[List.size_toArray]<;>omega) ⟨.int ys.length,H,I.tok _,⟨s.toks+1,by rw[List.size_toArray,hlen]⟩,q⟩
theorem yQ:CallR X (.type "list") (fun xs H Q=>∃ p ys,xs=[.ref p]∧(SqL X.K H p ys∨SqT X.K H p ys)∧∀ l,H l=none→Q (.ref l) (upd H l (.lst ys))):=by
  intro pins s σ H xs us Q I r h
  obtain⟨p,ys,rfl,hq,q⟩:=h
  obtain⟨u,rfl,rx⟩:=vI r
  cases rx
  have fin:∀ (its:List Value),Vals ys its→ys.length≤sizeLine→∀ (h':Heap) (c':Nat),(∀ b o',s.heap.get? b=some o'→h'.get? b=some o') →
      h'.get? s.heap.objs.size=some { cls:=.type "list",dict:=none,data:=.seq its.toArray c',slots:=#[] }→EP X pins σ Q (.ref s.heap.objs.size) { s with heap:=h' }:=fun its r' hz h' c' kp e =>
    ⟨.ref s.heap.objs.size,_,I.laid (t':=s.toks) kp (Nat.le_refl _) (show ObjOk X.prog X.w _ h' _ (.lst ys) from⟨hz,its,c',r',e⟩),rfl,q _ (I.hok.fresh (Nat.le_refl _))⟩
  rcases hq with hq|hq
  · obtain⟨its,r',pl,hz⟩:=I.list hq
    have hlen:=r'.length
    obtain⟨o,ho,hc,n,hd⟩:=pl.isList
    exact call_list_seq p (.inl rfl) ho hc hd (fun h' c' kp e=>fin its r' hz h' c' kp e) (by simp only[List.size_toArray]<;>omega)
  · obtain⟨its,r',pl,hz⟩:=I.tuple hq
    have hlen:=r'.length
    obtain⟨o,ho,hc,n,hd⟩:=pl
    exact call_list_seq p (.inr rfl) ho hc hd (fun h' c' kp e=>fin its r' hz h' c' kp e) (by simp only[List.size_toArray]<;>omega)
theorem zZ:CallR X (.type "tuple") (fun xs H Q=>∃ p ys,xs=[.ref p]∧((SqL X.K H p ys∧∀ l,H l=none→Q (.ref l) (upd H l (.tup ys)))∨(SqT X.K H p ys∧Q (.ref p) H))):=by
  intro pins s σ H xs us Q I r h
  obtain⟨p,ys,rfl,h⟩:=h
  obtain⟨u,rfl,rx⟩:=vI r
  cases rx
  rcases h with ⟨hq,q⟩|⟨hq,q⟩
  · obtain⟨its,r',pl,hz⟩:=I.list hq
    have hlen:=r'.length
    refine call_tuple_list pl.isList (fun h' kp=>?_) (by simp only[List.size_toArray]<;>omega)
    have I1:Inv X pins σ H { s with heap:=h' }:=I.kept (t':=s.toks) kp
    have I2:Inv X pins σ (upd H h'.objs.size (.tup ys)) { s with heap:=h'.push { cls:=.type "tuple",data:=.seq its.toArray } } :=
      I1.laid (t':=s.toks) (fun b o e=>Heap.get?_push_of_some _ e) (Nat.le_refl _) (show ObjOk X.prog X.w _ _ _ (.tup ys) from⟨hz,its,r',TupX.new _ _⟩)
    exact⟨.ref h'.objs.size,_,I2,rfl,q _ (I1.hok.fresh (Nat.le_refl _))⟩
  · obtain⟨its,r',pl,hz⟩:=I.tuple hq
    exact call_tuple_same pl ⟨.ref p,H,I,rfl,q⟩
def tyV (K:PySem.W.Frag) (T:String) (x:V) (H:Hp):Prop:=match x with
  | .str _=>T = "str"
  | .int _=>T = "int"
  | .ref p=>(T = "list"∧∃ xs,SqL K H p xs)∨(T = "tuple"∧∃ o,K.lookup p=some o∧o.cls=.type "tuple"∧o.dict=none) ∨
      (T = "dict"∧((∃ kvs,H p=some (.dK kvs))∨∃ kvs,H p=some (.dT kvs)))∨(T = "set"∧∃ S n,H p=some (.set S n))
  | _=>False
theorem mx {pins:List (Addr × Obj)}{σ:St}{H:Hp}{s:Shared}{T:String}{x:V}{v:Value}(I:Inv X pins σ H s) (r:RelV x v) (ty:tyV X.K T x H) :
    s.TypeIs v T∧∀ a,v=.ref a→∃ ob,s.heap.get? a=some ob∧ob.dict=none:=by
  cases x with
  | str z =>
    obtain⟨t,rfl⟩:=r
    cases (show T = "str" from ty)
    exact⟨typeIs_str s z t,fun _ e=>nomatch e⟩
  | int i =>
    obtain⟨t,rfl⟩:=r
    cases (show T = "int" from ty)
    exact⟨typeIs_int s i t,fun _ e=>nomatch e⟩
  | ref p =>
    cases r
    rcases ty with ⟨rfl,xs,hq⟩|⟨rfl,o,hk,hc,hd⟩|⟨rfl,hk⟩|⟨rfl,S,n,hk⟩
    · obtain⟨its,_,pl,_⟩:=I.list hq
      refine⟨pl.isList.typeIs,fun a e=>?_⟩
      cases e
      obtain⟨o,n,e,c,hd,_⟩:=pl
      exact⟨o,e,hd⟩
    · refine⟨⟨o,I.kIn p o hk,hc⟩,fun a e=>?_⟩
      cases e
      exact⟨o,I.kIn _ o hk,hd⟩
    · have z:∃ o,s.heap.get? p=some o∧o.ExactDict:=by
        rcases hk with ⟨kvs,hk⟩|⟨kvs,hk⟩
        · obtain⟨_,_,_,_,o,_,_,e,ex,_⟩:=I.hok p _ hk
          exact⟨o,e,ex⟩
        · obtain⟨_,_,_,_,o,_,_,e,ex,_⟩:=I.hok p _ hk
          exact⟨o,e,ex⟩
      obtain⟨o,e,ex⟩:=z
      refine⟨⟨o,e,ex.1⟩,fun a e2=>?_⟩
      cases e2
      exact⟨o,e,ex.2.1⟩
    · obtain⟨o,_,_,_,e,ex,_⟩:=I.hok p _ hk
      refine⟨⟨o,e,ex.1⟩,fun a e2=>?_⟩
      cases e2
      exact⟨o,e,ex.2.1⟩
  | _=>exact False.elim ty
def dO (K:PySem.W.Frag) (T:String) (r:V→List V→Hp→VK→Prop) (to:TE):TE:=fun σ H Q=>to σ H fun x H1=>tyV K T x H1∧r x [] H1 Q
def tBM (K:PySem.W.Frag) (T:String) (r:V→List V→Hp→VK→Prop) (to:TE) (t:TA):TE:=fun σ H Q=>to σ H fun x H1=>tyV K T x H1∧t σ H1 fun xs H2=>r x xs H2 Q
variable {o e:Expr}{es:List Expr}{to:TE}{t:TA}{name:Str}{apos cpos:Pos}{T id:String}{r:V→List V→Hp→VK→Prop}
theorem kG (pa:PlainAttrs T) (slot:Slot T name id) (hty:typeOf (.builtin id)=pure (.type "method_descriptor")) (hm:MtR X id r) (ho:PE X o to)
    (hbase:attributeBase o name X.env (eval o X.env)=eval o X.env:=by rfl) (hline:(apos.endLine == cpos.line)=true:=by rfl):PE X (.Call (.Attribute o name apos) [] [] cpos) (dO X.K T r to):=by
  intro pins s σ H Q I h
  refine wpAny_Call_method0_late hbase hline (thn (ho pins s σ H _ I h) fun v s1 ⟨x,H1,I1,r1,ty,q1⟩=>?_)
  obtain⟨h1,h2⟩:=mx I1 r1 ty
  exact⟨T,id,pa,slot,hty,h1,h2,Calls.callWith_builtin rfl (PySem.evalArgs_none (hm pins s1 σ H1 x [] v [] Q I1 r1 .nil q1))⟩
theorem wn (pa:PlainAttrs T) (slot:Slot T name id) (hty:typeOf (.builtin id)=pure (.type "method_descriptor")) (hm:MtR X id r) (ho:PE X o to) (ha:PA X (e::es) t)
    (hbase:attributeBase o name X.env (eval o X.env)=eval o X.env:=by rfl)
    (hfew:((backTo cpos (starEach (e::es) X.env)).all (fun x=>!x.1) && (backToKw cpos (keywordEach [] X.env)).all (fun x=>x.1.isSome)
      && decide ((e::es).length+([]:List Keyword).length+(if ([]:List Keyword).isEmpty then 0 else 1)<30))=true:=by rfl)
    (hline:(apos.endLine == cpos.line)=true:=by rfl) (hs:starEach (e::es) X.env=(false,eval e X.env)::starEach es X.env:=by rfl) (hplain:(backTo cpos (starEach es X.env)).any (·.1)=false:=by rfl) :
    PE X (.Call (.Attribute o name apos) (e::es) [] cpos) (tBM X.K T r to t):=by
  intro pins s σ H Q I h
  refine wpAny_Call_method_late hbase hfew hline rfl (thn (ho pins s σ H _ I h) fun v s1 ⟨x,H1,I1,r1,ty,q1⟩=>?_)
  obtain⟨h1,h2⟩:=mx I1 r1 ty
  refine⟨T,id,pa,slot,hty,h1,h2,?_⟩
  have hA:=ha cpos pins s1 σ H1 _ I1 q1
  rw[hs]at hA ⊢
  refine Calls.callWith_builtin (by show (false || (backTo cpos (starEach es X.env)).any (·.1))=false;rw[hplain]<;>rfl) (Calls.evalArgs_plain ?_)
  exact thn hA fun us s2 ⟨vs,H2,I2,r2,q2⟩=>hm pins s2 σ H2 x vs v us Q I2 r1 r2 q2
end
def MtM (X:Cx) (id:String) (r:V→List V→Hp→VK→Prop):Prop :=
  ∀ (pins:List (Addr × Obj)) (s:Shared) (σ:St) (H:Hp) (x:V) (xs:List V) (v:Value) (us:List Value) (Q:VK),Inv X pins σ H s→RelV x v→Vals xs us→r x xs H Q →
    wpAny (model X.prog X.w) X.A (call (.builtin id) (v::us)) (EP X pins σ Q) X.xe s
theorem Vals.one:∀ {x:V}{us:List Value},Vals [x] us→∃ u,us=[u]∧RelV x u
  | _,_,.cons r .nil=>⟨_,rfl,r⟩
theorem Vals.two:∀ {x y:V}{us:List Value},Vals [x,y] us→∃ u v,us=[u,v]∧RelV x u∧RelV y v
  | _,_,_,.cons r (.cons q .nil)=>⟨_,_,rfl,r,q⟩
theorem Vals.zero:∀ {us:List Value},Vals [] us→us=[]
  | _,.nil=>rfl
theorem Vals.dropLast {xs:List V}{us:List Value}(h:Vals xs us):Vals xs.dropLast us.dropLast:=by
  induction h with
  | nil=>exact .nil
  | cons r t ih =>
    cases t with
    | nil=>exact .nil
    | cons q t'=>exact .cons r ih
theorem Vals.eraseIdx:∀ {xs:List V}{us:List Value}(i:Nat),Vals xs us→Vals (xs.eraseIdx i) (us.eraseIdx i)
  | _,_,_,.nil=>.nil
  | _,_,0,.cons _ t=>t
  | _,_,i+1,.cons r t=>.cons r (Vals.eraseIdx i t)
theorem Vals.rep {xs:List V}{us:List Value}(h:Vals xs us):∀ k:Nat,Vals (List.replicate k xs).flatten (List.replicate k us).flatten
  | 0=>.nil
  | k+1=>by
    rw[List.replicate_succ,List.replicate_succ,List.flatten_cons,List.flatten_cons]
    exact Vals.append h (Vals.rep h k)
theorem pX {α:Type}(l:List α):l.eraseIdx (l.length-1)=l.dropLast:=by
  induction l with
  | nil=>rfl
  | cons a r ih =>
    cases r with
    | nil=>rfl
    | cons b r =>
      have e:(a::b::r).length-1=((b::r).length-1)+1:=by
        have h1:(a::b::r).length=r.length+2:=rfl
        have h2:(b::r).length=r.length+1:=rfl
        omega
      rw[e,List.eraseIdx_cons_succ,ih]
      all_goals rfl
theorem tH {α:Type}:∀ (l:List α) (i:Nat),(l.eraseIdx i).length≤l.length
  | [],_=>Nat.le_refl _
  | _::_,0=>Nat.le_succ _
  | _::r,i+1=>Nat.succ_le_succ (tH r i)
theorem tL (its:List Value):∀ (k:Nat) (acc:List Value),
    List.foldl (fun x1 x2=>x1++x2) acc.toArray (List.replicate k its.toArray)=(acc++(List.replicate k its).flatten).toArray
  | 0,acc=>by simp
  | k+1,acc=>by
    have e:acc.toArray++its.toArray=(acc++its).toArray:=by simp
    have e2:(acc++its)++(List.replicate k its).flatten=acc++(List.replicate (k+1) its).flatten:=by
      rw[List.replicate_succ,List.flatten_cons,List.append_assoc]
    rw[← e2,← tL its k (acc++its),← e,List.replicate_succ,List.foldl_cons]
section
variable {X:Cx}{pins:List (Addr × Obj)}{σ:St}{H:Hp}{s:Shared}{l b:Addr}{xs ys zs:List V}
theorem Inv.lset {its its':List Value}{n:Nat}{f:Array Value→Array Value}{t':Nat}(I:Inv X pins σ H s) (hH:H l=some (.lst xs))
    (e:s.heap.get? l=some { cls:=.type "list",data:=.seq its.toArray n }) (hf:f its.toArray=its'.toArray) (hv:Vals ys its') (hz:ys.length≤sizeLine) :
    Inv X pins σ (upd H l (.lst ys)) { s with heap:=s.heap.update l (Obj.mapSeq f),toks:=t' }:=by
  have q:=PySem.IsL.update e f
  rw[hf]at q
  refine I.write (x:=l) (e:=l) (by rw[hH];exact trivial) (.inl rfl) (fun b' u hb hu=>(Heap.get?_update_other s.heap (Obj.mapSeq f) (Ne.symm hb)).trans hu) ⟨_,q⟩ ?_
  exact⟨hz,its',_,hv,q⟩
theorem Inv.lnew {its:List Value}{t':Nat}(I:Inv X pins σ H s) (hv:Vals ys its) (hz:ys.length≤sizeLine) :
    Inv X pins σ (upd H s.heap.objs.size (.lst ys)) { s with heap:=s.heap.push { cls:=.type "list",data:=.seq its.toArray },toks:=t' } :=
  I.laid (fun _ _ q=>Heap.get?_push_of_some _ q) (Nat.le_refl _) ⟨hz,its,0,hv,Heap.get?_push_size _ rfl⟩
theorem Inv.fresh (I:Inv X pins σ H s):H s.heap.objs.size=none:=I.hok.fresh (Nat.le_refl _)
theorem Inv.lstM (I:Inv X pins σ H s) (hH:H l=some (.lst xs)):xs.length≤sizeLine∧∃ (its:List Value) (n:Nat),Vals xs its∧xs.length=its.length∧s.heap.get? l=some { cls:=.type "list",data:=.seq its.toArray n }:=by
  obtain⟨z,its,n,r,e⟩:=I.hok l _ hH
  exact⟨z,its,n,r,r.length,e⟩
theorem rV {n:Nat}(h:n≤sizeLine):Builtin.List.listTooLong n=false:=by
  unfold Builtin.List.listTooLong
  exact decide_eq_false (by omega)
end
section
variable {X:Cx}
def rAppend:V→List V→Hp→VK→Prop:=fun x vs H Q=>∃ l xs y,x=.ref l∧vs=[y]∧H l=some (.lst xs)∧xs.length<sizeLine∧Q .non (upd H l (.lst (xs++[y])))
theorem yc:MtM X "list.append" rAppend:=by
  intro pins s σ H x vs v us Q I rx rv h
  obtain⟨l,xs,y,rfl,rfl,hH,hz,q⟩:=h
  cases rx
  obtain⟨u,rfl,ru⟩:=rv.one
  obtain⟨z,its,n,r,hl,e⟩:=I.lstM hH
  refine call_meets F.slot_list_append ⟨_,e,rfl⟩ F.entry_list_append (F.args_list_append_2 _ _) (PySem.list_append l its.toArray n u (by rw[List.size_toArray];omega)) ⟨e,?_⟩
  refine⟨.non,_,I.lset (its':=its++[u]) hH e (by simp) (r.append (.cons ru .nil)) ?_,rfl,q⟩
  rw[List.length_append,List.length_singleton]
  omega
def rExtend:V→List V→Hp→VK→Prop:=fun x vs H Q=>∃ l b xs zs,x=.ref l∧vs=[.ref b]∧H l=some (.lst xs)∧H b=some (.lst zs)∧xs.length+zs.length≤sizeLine∧Q .non (upd H l (.lst (xs++zs)))
theorem ux:MtM X "list.extend" rExtend:=by
  intro pins s σ H x vs v us Q I rx rv h
  obtain⟨l,b,xs,zs,rfl,rfl,hH,hB,hz,q⟩:=h
  cases rx
  obtain⟨u,rfl,ru⟩:=rv.one
  cases ru
  obtain⟨z,its,n,r,hl,e⟩:=I.lstM hH
  obtain⟨z2,its2,n2,r2,hl2,e2⟩:=I.lstM hB
  have hsz:its.toArray.size+its2.toArray.size≤sizeLine:=by rw[List.size_toArray,List.size_toArray];omega
  have hlong:¬(!its.toArray.isEmpty && Builtin.List.listTooLong (its.toArray.size+its2.toArray.size))=true:=by
    rw[rV hsz,Bool.and_false]
    exact Bool.false_ne_true
  refine call_meets F.slot_list_extend ⟨_,e,rfl⟩ F.entry_list_extend (F.args_list_extend_2 _ _)
    (AutoSeq1.list_extend_list_list_0 l its.toArray n b its2.toArray n2 hlong (by rw[List.size_toArray];omega) (by omega)) ⟨e,e2,?_⟩
  refine⟨.non,_,I.lset (its':=its++its2) hH e (by simp) (r.append r2) ?_,rfl,q⟩
  rw[List.length_append]
  omega
def rPop:V→List V→Hp→VK→Prop:=fun x vs H Q=>∃ l xs y,x=.ref l∧vs=[]∧H l=some (.lst xs)∧xs[xs.length-1]?=some y∧Q y (upd H l (.lst xs.dropLast))
theorem kg:MtM X "list.pop" rPop:=by
  intro pins s σ H x vs v us Q I rx rv h
  obtain⟨l,xs,y,rfl,rfl,hH,hy,q⟩:=h
  cases rx
  have hus:=rv.zero
  subst hus
  obtain⟨z,its,n,r,hl,e⟩:=I.lstM hH
  obtain⟨u,hu,ru⟩:=r.get hy
  have hy':its.toArray[its.toArray.size-1]?=some u:=by
    show its.toArray[its.length-1]?=some u
    rw[← Array.getElem?_toList,← hl]
    exact hu
  refine call_meets F.slot_list_pop ⟨_,e,rfl⟩ F.entry_list_pop (F.args_list_pop_1 _) (MeetsSeq.list_pop_last l its.toArray n u hy' (by rw[List.size_toArray];omega)) ⟨e,?_⟩
  refine⟨y,_,I.lset (its':=its.dropLast) hH e ?_ r.dropLast ?_,ru,q⟩
  · show its.toArray.eraseIdxIfInBounds (its.toArray.size-1)=its.dropLast.toArray
    rw[List.size_toArray,List.eraseIdxIfInBounds_toArray,pX]
  · rw[List.length_dropLast]
    omega
def rPopAt:V→List V→Hp→VK→Prop:=fun x vs H Q=>∃ l xs i k y,x=.ref l∧vs=[.int i]∧H l=some (.lst xs)∧-(2 ^ 63)≤i∧i<2 ^ 63∧seqIndex? i xs.length=some k∧xs[k]?=some y∧Q y (upd H l (.lst (xs.eraseIdx k)))
theorem kf:MtM X "list.pop" rPopAt:=by
  intro pins s σ H x vs v us Q I rx rv h
  obtain⟨l,xs,i,k,y,rfl,rfl,hH,h1,h2,hk,hy,q⟩:=h
  cases rx
  obtain⟨u,rfl,ru⟩:=rv.one
  obtain⟨t,rfl⟩:=ru
  obtain⟨z,its,n,r,hl,e⟩:=I.lstM hH
  obtain⟨w,hw,rw'⟩:=r.get hy
  refine call_meets F.slot_list_pop ⟨_,e,rfl⟩ F.entry_list_pop (F.args_list_pop_2 _ _)
    (MeetsSeq.list_pop_at l its.toArray n i t k w (fitsIndex_both h1 h2) (by rw[List.size_toArray,← hl];exact hk) (by rw[← Array.getElem?_toList];exact hw) (by rw[List.size_toArray];omega)) ⟨e,?_⟩
  refine⟨y,_,I.lset (its':=its.eraseIdx k) hH e ?_ (r.eraseIdx k) ?_,rw',q⟩
  · show its.toArray.eraseIdxIfInBounds k=(its.eraseIdx k).toArray
    rw[List.eraseIdxIfInBounds_toArray]
  · have:=tH xs k
    omega
def cA:R2:=fun x y H Q=>∃ l b xs zs,x=.ref l∧y=.ref b∧H l=some (.lst xs)∧H b=some (.lst zs)∧xs.length+zs.length≤sizeLine∧∀ p,H p=none→Q (.ref p) (upd H p (.lst (xs++zs)))
theorem xg:OpR X (binaryOp .Add) cA:=by
  intro pins s σ H x y v u Q I rx ry h
  obtain⟨l,b,xs,zs,rfl,rfl,hH,hB,hz,q⟩:=h
  cases rx
  cases ry
  obtain⟨z,its,n,r,hl,e⟩:=I.lstM hH
  obtain⟨z2,its2,n2,r2,hl2,e2⟩:=I.lstM hB
  refine PySem.P.add_list e e2 ?_ (by rw[List.size_toArray,List.size_toArray];omega)
  have ea:its.toArray++its2.toArray=(its++its2).toArray:=by simp
  rw[ea]
  exact⟨.ref _,_,I.lnew (t':=s.toks) (r.append r2) (by rw[List.length_append];omega),rfl,q _ I.fresh⟩
def dy:R2:=fun x y H Q=>∃ l k xs,x=.ref l∧y=.int k∧H l=some (.lst xs)∧-(2 ^ 63)≤k∧k<2 ^ 63∧xs.length*k.toNat≤sizeLine ∧
  ∀ p,H p=none→Q (.ref p) (upd H p (.lst (List.replicate k.toNat xs).flatten))
theorem j8 {α:Type}(xs:List α) (k:Nat):(List.replicate k xs).flatten.length=k*xs.length:=by
  induction k with
  | zero=>simp
  | succ k ih=>rw[List.replicate_succ,List.flatten_cons,List.length_append,ih,Nat.succ_mul,Nat.add_comm]
theorem gJ:OpR X (binaryOp .Mult) dy:=by
  intro pins s σ H x y v u Q I rx ry h
  obtain⟨l,k,xs,rfl,rfl,hH,h1,h2,hz,q⟩:=h
  cases rx
  obtain⟨t,rfl⟩:=ry
  obtain⟨z,its,n,r,hl,e⟩:=I.lstM hH
  have hlen:its.toArray.size*k.toNat≤sizeLine:=by rw[List.size_toArray,← hl];exact hz
  have hcap:¬ its.toArray.size*k.toNat > (2 ^ 63-1) / 8:=by
    have:(sizeLine:Nat)≤(2 ^ 63-1) / 8:=by decide
    omega
  have hfit:¬(!Builtin.List.listFitsIndex k)=true:=by
    rw[fitsIndex_both h1 h2]
    exact Bool.false_ne_true
  have hlong:¬ Builtin.List.listTooLong (its.toArray.size*k.toNat)=true:=by
    rw[rV hlen]
    exact Bool.false_ne_true
  have hnew:List.foldl (fun x1 x2=>x1++x2) #[] (List.replicate (if its.toArray.isEmpty=true then 0 else k.toNat) its.toArray)=(List.replicate k.toNat its).flatten.toArray:=by
    have f0:∀ m:Nat,List.foldl (fun x1 x2=>x1++x2) #[] (List.replicate m its.toArray)=(List.replicate m its).flatten.toArray:=fun m=>by
      have:=tL its m []
      rw[List.nil_append]at this
      exact this
    rw[f0]
    cases its with
    | nil=>simp
    | cons a r'=>rw[if_neg (by simp)]
  refine wpAny_binaryOp_repeat_ref (T:="list") (U:="int") (by decide) ⟨_,e,rfl⟩ (fun s'=>typeIs_int s' k t) noFill_list_mul F.fills_int_mul F.slot_int_rmul repeat_list F.slot_int_index.lookup
    (call_meets F.slot_int_rmul (typeIs_int s k t) F.entry_int_rmul (F.args_int_rmul_2 _ _) (int___rmul___int_list k t l its.toArray n)
      ⟨e,rfl,⟨_,e,rfl⟩,call_meets F.slot_list_mul ⟨_,e,rfl⟩ F.entry_list_mul (F.args_list_mul_2 _ _) (AutoListH.list___mul___list_int_3 l its.toArray n k t hfit hcap hlong) ⟨e,?_⟩⟩)
  rw[hnew]
  exact⟨.ref _,_,I.lnew (t':=s.toks) (r.rep k.toNat) (by rw[j8,Nat.mul_comm];exact hz),rfl,q _ I.fresh⟩
end
section
variable {prog:Program}{w:World}{A:Around}{E:Value→Shared→Prop}{s:Shared}
end
section
variable {X:Cx}
end
end L2
namespace Att
open PySem PySem.W PySem.Calls PyProof.Rows
theorem vV {P:Params}{h:Heap}:∀ (ns:List Int) (vs:List Value),WellAll P h vs (ns.map WData.int)→IntsAre vs ns:=by
  intro ns
  induction ns with
  | nil =>
    intro vs w
    rw[List.map_nil]at w
    cases w
    exact .nil
  | cons n ns ih =>
    intro vs w
    rw[List.map_cons]at w
    cases w with
    | cons a b =>
      cases a
      exact .cons _ _ (ih _ b)
theorem nO {l:OpenLaw}{n:Nat}(hn:l.most=some n) {P:Params}{h:Heap}{args:List WData}{vals:List Value}
    (hpre:l.row.toRowW.claim.pre args=true) (hwl:WellAll P h vals args) :
    ∃ a vs ns,vals=[Value.ref a]∧args=[WData.list (ns.map WData.int)]∧h.get? a=some { cls:=.type "list",data:=.seq vs.toArray }∧IntsAre vs ns∧ns.length≤n:=by
  have hsh:WShape.hasAll [] args [.list .int]=true:=(pre_splitW hpre).1
  have hc:l.pre.holds [] { args:=args }=true:=(pre_splitW hpre).2
  obtain⟨d,r,rfl,h1,h2⟩:=hasAllW_cons hsh
  obtain rfl:=hasAllW_nil h2
  obtain⟨xs,rfl,h3⟩:=hasW_list h1
  obtain⟨ns,rfl⟩:=items_int h3
  have hlen:ns.length≤n:=by
    unfold OpenLaw.pre at hc
    have h4:(WTm.not (.lt (.lit (.int (n:Int))) (.len (.arg 0)))).holds [] { args:=[.list (ns.map .int)] }=true:=by
      have h4:=(holds_andW hc).1
      rw[hn]at h4
      exact h4
    have h5:=condW_of h4 (w_not (w_lt w_lit (w_len_list (w_arg rfl))))
    rw[List.length_map]at h5
    refine Nat.le_of_not_lt fun q=>?_
    have q':(n:Int)<((ns.length:Nat):Int):=by omega
    first
      | (rw[decide_eq_true q']at h5;exact absurd h5 (by decide))
      | (simp at h5;omega)
  cases hwl with
  | cons w1 w2 =>
    cases w2
    cases w1 with
    | list ho hall=>exact⟨_,_,ns,rfl,rfl,ho,vV ns _ hall,hlen⟩
theorem nR (l:OpenLaw) (args:List WData):l.row.toRowW.claim.post args (.bool true) args=true :=
  postW_of (r:=l.row.toRowW) (X:=(true == true))
    (show WShape.has [] (.bool true) .bool=true by first|rfl|decide|simp[WShape.has,WShape.arms,WShape.armsAll])
    (show (WTm.eq .res (.lit (.bool true))).value [] { args:=args,res:=some (.bool true),after:=args }=some (.bool (true == true)) from w_eq_bool (w_res rfl) w_lit) rfl
theorem attach_call {l:OpenLaw}{n:Nat}{q:Program}{loose:List Str}{XP:(Str→Option Value)→Heap→Prop}{YP:World→Heap→Prop}{d:DefRec}
    (hn:l.most=some n) (hdf:d.params.defaults=[])
    (call:∀ (w:World) (s₀ s₁:Shared) (mg mb:Str→Option Value) (fa:Addr) (o:Obj) (pm cd doc:Value) (a:Addr) (vs:List Value) (ns:List Int),
      Ground q loose [] XP w s₀ mg mb s₁.heap→YP w s₁.heap →
      s₁.heap.get? fa=some o→o.data=.func (docDef d.name d.params d.body d.scope pm cd doc)→s₁.heap.CodeRec cd d.name→mg d.name=some (.ref fa) →
      s₁.heap.get? a=some { cls:=.type "list",data:=.seq vs.toArray }→IntsAre vs ns→ns.length≤n→s₁.gens = #[] →
      codeAny (model l.prog w) callerA (.call (.ref fa) ⟨[.ref a],[]⟩) (fun r s'=>r=.ok (.ret (.bool true))∧OldK s₁.heap s'.heap∧s'.os=s₁.os∧AllBare s'.gens) s₁) :
    WalkO q loose XP YP l.row.toRowW d [] (fun f vs=>PySem.call f vs):=by
  intro w s₀ s₁ mg mb G Y fa o pm cd doc dV kV ho hd hcd hD hmg hg args vals as hpre hlay hrd hwl hlo
  obtain rfl:dV=.none:=Dflts.none hD hdf
  obtain rfl:kV=.none:=Dflts.noKw hD
  obtain⟨a,vs,ns,rfl,rfl,hobj,hints,hlen⟩:=nO hn hpre hwl
  refine enter_call (codeAny_mono (call w s₀ s₁ mg mb fa o pm cd doc a vs ns G Y ho (fd_plain hd) hcd hmg hobj hints hlen hg) fun r s' hq=>?_)
  obtain⟨rfl,h2,h3,h4⟩:=hq
  exact⟨.inl ⟨.bool true,.bool true,[],rfl,fun _=>rfl,.bool true,nR l _,fun _=>⟨List.Pairwise.nil,fun _ hm=>(nomatch hm)⟩⟩,h2,h3,h4⟩
section
variable {prog:Program}{w:World}{A:Around}{E:Value→Shared→Prop}{s:Shared}{K:Frag}
def cC (h:Heap) (L d:Addr):List (Addr × Obj):=(List.range h.objs.size).filterMap fun a=>if a=L∨a=d then none else (h.get? a).map fun o=>(a,o)
end
end Att
namespace L2
open PySem PySem.Spec PyProof.Rows
theorem ui:∀ {vs:List Value}{ns:List Int},IntsAre vs ns→Vals (ns.map V.int) vs
  | _,_,.nil=>.nil
  | _,_,.cons n t h=>.cons ⟨t,rfl⟩ (ui h)
abbrev KOf {K:PySem.W.Frag}{h:Heap}(_:K.In h):PySem.W.Frag:=K
def y9 (s:Stmt):Arguments:=match s with
  | .FunctionDef _ a _ _ _ _ _ _ _ _=>a
  | _=>{ posonlyargs:=[],args:=[],vararg:=none,kwonlyargs:=[],kw_defaults:=[],kwarg:=none,defaults:=[] }
def yV (s:Stmt):List Stmt:=match s with
  | .FunctionDef _ _ b _ _ _ _ _ _ _=>b
  | _=>[]
def zM (s:Stmt):Scope:=match s with
  | .FunctionDef _ _ _ _ _ _ sc _ _ _=>sc
  | _=>{ kind:=.function,names:=[],isGenerator:=false,isCoroutine:=false }
abbrev CX0:CXT:=fun _ _ _ _ _ _=>False
abbrev E0:XK:=fun _ _ _=>False
theorem zS {X:Cx}:Passes CX0 X E0:=fun _ _ _ _ _ _ _ h=>h.elim
structure Fun (K:PySem.W.Frag) (x qual:Str) (st:Stmt) (f:Addr) (fd:FuncData):Prop where
  ex:∃ (oc:Value) (od:Option Addr) (kV doc pm:Value) (an:Option Addr) (cdv ct:Value) (osl:Array (Option Value)),
    fd=PySem.W.fnOf x qual (y9 st) (yV st) (zM st) .none kV doc pm an cdv ct∧K.lookup f=some ⟨oc,od,.func fd,osl⟩∧PySem.W.codeIn K cdv qual=true
  kp:PySem.W.keepIn K (.ref f)=true
section
variable {P:Program}{w:World}{K:PySem.W.Frag}{mg:Str→Option Value}{base:Heap}
theorem Fun.ok {x qual:Str}{st:Stmt}{f:Addr}{fd:FuncData}{N ps:List Str}{k:Nat}{sp:Sp}(F:Fun K x qual st f fd) (S:FnScope N ps (zM st)) (len:∀ vs H Q E,sp vs H Q E→vs.length=ps.length)
    (hbody:∀ (cdv:Value) (A:Around) (outer:List Env) (s:Shared) (H:Hp) (vs:List V) (Q:VK) (E:XK),Room k (A.deeper (envOfC qual (zM st) s.heap.objs.size f cdv))→sp vs H Q E →
      ∃ t,PSs (pZ CX0 P w K mg base N qual (zM st) f cdv A outer s H E).nox (yV st) t∧t { nx:=fun _ H'=>Q .non H',rt:=Q } (wK N vs) H):FnOk P w K mg base CX0 (k+1) f fd ps sp:=by
  obtain⟨oc,od,kV,doc,pm,an,cdv,ct,osl,rfl,lk,hcd⟩:=F.ex
  refine ic lk hcd S len fun A outer s H vs Q E hr hsp=>?_
  obtain⟨t,h,q⟩:=hbody cdv A outer s H vs Q E hr hsp
  exact⟨t,h.nox,q⟩
theorem Fun.binds {x qual:Str}{st:Stmt}{f:Addr}{fd:FuncData}{ps:List Str}(F:Fun K x qual st f fd)
    (h:∀ (kV doc pm:Value) (an:Option Addr) (cdv ct:Value) (us:List Value),us.length=ps.length→bindArgs (PySem.W.fnOf x qual (y9 st) (yV st) (zM st) .none kV doc pm an cdv ct) ⟨us,[]⟩=pure (ps.zip us)):Binds K fd ps []:=by
  obtain⟨oc,od,kV,doc,pm,an,cdv,ct,osl,rfl,lk,hcd⟩:=F.ex
  exact .all (h kV doc pm an cdv ct)
theorem gh {x qual:Str}{st:Stmt}{f:Addr}{oc:Value}{od an:Option Addr}{osl:Array (Option Value)}{kV doc pm cdv ct:Value}(l:K.lookup f=some ⟨oc,od,.func (PySem.W.fnOf x qual (y9 st) (yV st) (zM st) .none kV doc pm an cdv ct),osl⟩)
    (c:PySem.W.codeIn K cdv qual=true) (k:PySem.W.keepIn K (.ref f)=true):Fun K x qual st f (PySem.W.fnOf x qual (y9 st) (yV st) (zM st) .none kV doc pm an cdv ct):=⟨⟨oc,od,kV,doc,pm,an,cdv,ct,osl,rfl,l,c⟩,k⟩
end
section
variable {X:Cx}
theorem pv (i:Nat) {x:Str}{pos:Pos}(hN:X.N[i]?=some x:=by rfl) (hv:Vis X.env.scope x:=by first|exact Or.inl rfl|exact Or.inr (.inl rfl)|exact Or.inr (.inr rfl)) (hd:(x == ("__debug__":Str))=false:=by decide)
    (hcd:(x == ("__classdict__":Str))=false:=by decide):PE X (.Name x pos) (jX i):=gG hN hv hd hcd
end
theorem zv {A B:Prop}(h:B):if false=true then A else B:=by
  rw[if_neg Bool.false_ne_true]
  exact h
theorem yP {A B:Prop}(h:A):if true=true then A else B:=by
  rw[if_pos rfl]
  exact h
theorem vU {c A B:Prop} [Decidable c] (h1:c→A) (h2:¬ c→B):if c then A else B:=by
  by_cases h:c
  · rw[if_pos h]
    exact h1 h
  · rw[if_neg h]
    exact h2 h
def Same (H H':Hp):Prop:=∀ b o,H b=some o→H' b=some o
theorem Same.refl (H:Hp):Same H H:=fun _ _ h=>h
theorem Same.trans {H H1 H2:Hp}(a:Same H H1) (b:Same H1 H2):Same H H2:=fun c o h=>b c o (a c o h)
theorem Same.free {H H':Hp}(e:Same H H') {l:Addr}(h:H' l=Option.none):H l=Option.none:=by
  cases q:H l with
  | none=>rfl
  | some o =>
    rw[e l o q]at h
    cases h
end L2
set_option maxHeartbeats 4000001
namespace L2
open PySem PySem.Spec PyProof.Rows
def wI (cells:List (Str × Addr)):List (Str × NameKind)→List (Str × Addr)→List (Str × Addr)
 | [],cs=>cs
 | (n,k)::r,cs=>if k == .free then wI cells r ((n,(cells.lookup n).getD 0)::cs) else wI cells r cs
theorem uX {env:Env}:∀ (names:List (Str × NameKind)) (cs:List (Str × Addr)),(∀ y∈names,y.2=.free→∃ c,env.cells.lookup y.1=some c) →
  (forIn names cs fun x r=>match x with|(name,kind)=>if (kind == NameKind.free)=true then (do let a ← cellOf env name;pure (ForInStep.yield ((name,a)::r))) else pure (ForInStep.yield r):Sem (List (Str × Addr)))=pure (wI env.cells names cs)
 | [],cs,_=>rfl
 | (n,k)::r,cs,h=>by
  rw[List.forIn_cons]
  by_cases e:(k == NameKind.free)=true
  ·obtain⟨c,hc⟩:=h (n,k) List.mem_cons_self (by simpa using e)
   have hcell:cellOf env n=pure c:=by
    have hc':env.cells.lookup n=some c:=hc
    unfold cellOf;rw[hc']
   simp only[e,if_true,hcell,pure_bind]
   rw[uX r _ fun y hy=>h y (List.mem_cons_of_mem _ hy)]
   have hc':env.cells.lookup n=some c:=hc
   show _=pure (if (k == NameKind.free)=true then _ else _)
   rw[if_pos e,hc']
   rfl
  ·have ef:(k == NameKind.free)=false:=by simpa using e
   simp only[ef,Bool.false_eq_true,if_false,pure_bind]
   rw[uX r _ fun y hy=>h y (List.mem_cons_of_mem _ hy)]
   show _=pure (if (k == NameKind.free)=true then _ else _)
   rw[if_neg e]
theorem wS {scope:Scope}{env:Env}(h:∀ y∈scope.names,y.2=.free→∃ c,env.cells.lookup y.1=some c):closureFor scope env=pure (wI env.cells scope.names []):=by
 unfold closureFor
 show (forIn scope.names [] _ >>= fun r=>pure r)=_
 rw[bind_pure]
 exact uX _ _ h
theorem xu {cells:List (Str × Addr)}:∀ (names:List (Str × NameKind)) (cs:List (Str × Addr)) (x:Str) (c:Addr),(∀ y∈names,y.2=.free→∃ c,cells.lookup y.1=some c) →
  (∀ x c,cs.lookup x=some c→cells.lookup x=some c)→(wI cells names cs).lookup x=some c→cells.lookup x=some c
 | [],cs,x,c,_,hs,e=>hs x c e
 | (n,k)::r,cs,x,c,h,hs,e=>by
  unfold wI at e
  by_cases q:(k == NameKind.free)=true
  ·rw[if_pos q]at e
   obtain⟨c0,hc0⟩:=h (n,k) List.mem_cons_self (by simpa using q)
   refine xu r _ x c (fun y hy=>h y (List.mem_cons_of_mem _ hy)) (fun x' c' e'=>?_) e
   rw[List.lookup_cons]at e'
   cases hx:x' == n with
   | true =>
    rw[hx]at e'
    have hx':x'=n:=by simpa using hx
    subst hx'
    have hc0':cells.lookup x'=some c0:=hc0
    rw[hc0']at e' ⊢
    exact e'
   | false =>
    rw[hx]at e'
    exact hs x' c' e'
  ·rw[if_neg q]at e
   exact xu r _ x c (fun y hy=>h y (List.mem_cons_of_mem _ hy)) hs e
theorem vG {cells:List (Str × Addr)}:∀ (names:List (Str × NameKind)) (cs:List (Str × Addr)) (x:Str),(∃ c,cs.lookup x=some c)→∃ c,(wI cells names cs).lookup x=some c
 | [],cs,x,e=>e
 | (n,k)::r,cs,x,e=>by
  unfold wI
  by_cases q:(k == NameKind.free)=true
  ·rw[if_pos q]
   refine vG r _ x ?_
   rw[List.lookup_cons]
   cases hx:x == n with
   | true=>exact⟨_,rfl⟩
   | false=>exact e
  ·rw[if_neg q]
   exact vG r _ x e
theorem yt {cells:List (Str × Addr)}:∀ (names:List (Str × NameKind)) (cs:List (Str × Addr)) (x:Str),names.lookup x=some .free→∃ c,(wI cells names cs).lookup x=some c
 | [],cs,x,e=>by simp at e
 | (n,k)::r,cs,x,e=>by
  rw[List.lookup_cons]at e
  unfold wI
  cases hx:x == n with
  | true =>
   rw[hx]at e
   have e':k=.free:=Option.some.inj e
   subst e'
   rw[if_pos (by decide)]
   refine vG r _ x ?_
   rw[List.lookup_cons,hx]
   exact⟨_,rfl⟩
  | false =>
   rw[hx]at e
   by_cases q:(k == NameKind.free)=true
   ·rw[if_pos q];exact yt r _ x e
   ·rw[if_neg q];exact yt r _ x e
def jN (env:Env) (p:Str × NameKind):Bool:=p.2 == .free && env.scope.kind == .function && env.kindOf p.1 == some .cell
def wB (env:Env) (p:Str × NameKind):Str × NameKind:=if jN env p=true then (p.1,.cell) else p
theorem vP (env:Env) (p:Str × NameKind):(wB env p).1=p.1:=by unfold wB;split<;>rfl
theorem vO (env:Env) (p:Str × NameKind):(wB env p).2=p.2∨((wB env p).2=.cell∧p.2=.free):=by
 unfold wB
 split
 ·rename_i h
  refine .inr ⟨rfl,?_⟩
  unfold jN at h
  cases e:p.2<;>simp[e]at h<;>rfl
 ·exact .inl rfl
theorem wL (scope:Scope) (env:Env):(relabel scope env).names=scope.names.map (wB env):=rfl
theorem uK {f:Str × NameKind→Str × NameKind}(hf:∀ p,(f p).1=p.1):∀ (l:List (Str × NameKind)) (x:Str),(l.map f).lookup x=none∧l.lookup x=none∨∃ p∈l,(l.map f).lookup x=some (f p).2∧l.lookup x=some p.2
 | [],_=>.inl ⟨rfl,rfl⟩
 | p::r,x=>by
  have e1:((p::r).map f).lookup x=if x == p.1 then some (f p).2 else (r.map f).lookup x:=by
   show List.lookup x (((f p).1,(f p).2)::r.map f)=_
   rw[List.lookup_cons,hf p];cases x == p.1<;>rfl
  have e2:(p::r).lookup x=if x == p.1 then some p.2 else r.lookup x:=by
   show List.lookup x ((p.1,p.2)::r)=_
   rw[List.lookup_cons];cases x == p.1<;>rfl
  rw[e1,e2]
  cases x == p.1
  ·rcases uK hf r x with z|⟨q,hq,z⟩
   ·exact .inl z
   ·exact .inr ⟨q,List.mem_cons_of_mem _ hq,z⟩
  ·exact .inr ⟨p,List.mem_cons_self,rfl,rfl⟩
theorem yU {scope:Scope}{env:Env}{x:Str}{k':NameKind}(h:(relabel scope env).names.lookup x=some k'):scope.names.lookup x=some k'∨(k'=.cell∧scope.names.lookup x=some .free):=by
 rw[wL]at h
 rcases uK (vP env) scope.names x with ⟨z,_⟩|⟨p,_,z,e⟩
 ·rw[z]at h;cases h
 ·rw[z]at h
  obtain rfl:=Option.some.inj h
  rcases vO env p with q|⟨q,q'⟩
  ·rw[q];exact .inl e
  ·exact .inr ⟨q,by rw[e,q']⟩
theorem xT {scope:Scope}{env:Env}{x:Str}(h:scope.names.lookup x=some .free):(relabel scope env).names.lookup x=some .cell∨(relabel scope env).names.lookup x=some .free:=by
 rw[wL]
 rcases uK (vP env) scope.names x with ⟨_,z⟩|⟨p,_,z,e⟩
 ·rw[z]at h;cases h
 ·rw[e]at h
  rcases vO env p with q|⟨q,_⟩
  ·rw[z,q,h];exact .inr rfl
  ·rw[z,q];exact .inl rfl
def yF (X:Cx) (N':List Str) (scope:Scope) (C:Addr) (s₀:Shared) (H₀:Hp) (fp:List Addr) (pins:List (Addr × Obj)):Cx :=
 { X with N:=N',s₀:=s₀,H₀:=H₀,env:=compEnvC scope (wI X.env.cells scope.names []) C X.env,outer:=X.stack,stack:=X.stack,ex:=fp,fn:=fun _=>false,pn:=X.pn++pins,xe:=fun _ _=>False }
def sU (cap:List (Option Nat)) (σ:St):St:=cap.map fun o=>match o with|some i=>(match σ[i]? with|some v=>v|none=>none)|none=>none
def tst (M:Model) (A:Around) (env:Env) (E:Value→Shared→Prop) (o:Option Expr) (Q:Bool→Shared→Prop) (s:Shared):Prop:=match o with
 | none=>Q true s
 | some c=>wpAny M A (isTrue c env (eval c env)) Q E s
theorem su {M:Model}{A:Around}{env:Env}{E:Value→Shared→Prop}{o:Option Expr}{Q Q':Bool→Shared→Prop}{s:Shared}(h:tst M A env E o Q s) (k:∀ b z,Q b z→Q' b z):tst M A env E o Q' s:=by
 cases o with
 | none=>exact k _ _ h
 | some c=>exact thn h k
def PTo (X:Cx) (o:Option Expr) (t:TT):Prop :=
 ∀ (pins:List (Addr × Obj)) (s:Shared) (σ:St) (H:Hp) (Q:Bool→Hp→Prop),Inv X pins σ H s→t σ H Q→tst (model X.prog X.w) X.A X.env X.xe o (TP X pins σ Q) s
def lB:TT:=fun _ H Q=>Q true H
theorem yN {X:Cx}:PTo X none lB:=fun _ _ _ H _ I h=>⟨H,I,h⟩
theorem jf {X:Cx}{c:Expr}{t:TT}(h:PT X c t):PTo X (some c) t:=fun pins s σ H Q I hw=>h pins s σ H Q I hw
abbrev NoX:Value→Shared→Prop:=fun _ _=>False
def Go (M:Model) (A:Around) (tg elt:Expr) (o:Option Expr) (it acc:Value) (env:Env) (R:Result→Shared→Prop) (onward:Shared→Prop) (s:Shared):Prop :=
 wpAny M A (pyNext it) (fun r a=>match r with
  | none=>R (.ok .next) a
  | some v=>wpAny M A (letOwnedTupleGo tg it v) (fun _ b=>wpAny M A (assign tg env v) (fun _ c=>tst M A env NoX o (fun yes d =>
    if yes=true then wpAny M A (eval elt env) (fun x e=>wpAny M A (call (.builtin "list.append") [acc,x]) (fun _ f=>onward f) NoX e) NoX d else onward d) c) NoX b) NoX a) NoX s
theorem mZ {prog:Program}{w:World}{A:Around}{R:Result→Shared→Prop}{s:Shared}{elt tg iter:Expr}{o:Option Expr}{scope:Scope}{pos:Pos}{it acc:Value}{env:Env}(J:Nat→Shared→Prop)
  (turn:∀ n s,J n s→Go (model prog w) A tg elt o it acc env R (fun z=>∃ m,m<n∧J m z) s) (n:Nat) (h:J n s) :
  codeAny (model prog w) A (.compLoop (.ListComp elt [⟨tg,iter,o.toList,0⟩] scope pos) 0 it acc env) R s:=by
 cases o with
 | none =>
  refine PySem.W.kcp_loop J (fun n a ha=>wpAny_mono (turn n a ha) (fun r b hb=>?_) fun _ _ z=>z.elim) n h
  cases r with
  | none=>exact hb
  | some v=>exact wpAny_mono hb (fun _ c hc=>wpAny_mono hc (fun _ d hd=>wpAny_mono (show wpAny _ _ _ _ _ d from hd) (fun x e he=>wpAny_mono he (fun _ _ q=>q) fun _ _ z=>z.elim) fun _ _ z=>z.elim) fun _ _ z=>z.elim) fun _ _ z=>z.elim
 | some t =>
  refine PySem.W.kct_loop J (fun n a ha=>wpAny_mono (turn n a ha) (fun r b hb=>?_) fun _ _ z=>z.elim) n h
  cases r with
  | none=>exact hb
  | some v =>
   refine wpAny_mono hb (fun _ c hc=>wpAny_mono hc (fun _ d hd=>wpAny_mono (show wpAny _ _ _ _ _ d from hd) (fun yes e he=>?_) fun _ _ z=>z.elim) fun _ _ z=>z.elim) fun _ _ z=>z.elim
   cases yes
   ·exact he
   ·exact wpAny_mono (show wpAny _ _ _ _ _ e from he) (fun x f hf=>wpAny_mono hf (fun _ _ q=>q) fun _ _ z=>z.elim) fun _ _ z=>z.elim
structure CapOk (N N':List Str) (sc scope:Scope) (cap:List (Option Nat)):Prop where
 kind:scope.kind=.function
 nocell:∀ y∈scope.names,y.2≠.cell
 names:∀ y∈scope.names,y.2=.local → scope.names.lookup y.1=some .local
 free:∀ y∈scope.names,y.2=.free→sc.names.lookup y.1=some .cell∨sc.names.lookup y.1=some .free
 len:cap.length=N'.length
 cap:∀ p∈N'.zip cap,∀ i,p.2=some i→N[i]?=some p.1∧scope.names.lookup p.1=some .free∧(sc.names.lookup p.1=some .cell∨sc.names.lookup p.1=some .free)
theorem xX {α:Type}:∀ {l:List (Str × α)}{x:Str}{a:α},l.lookup x=some a→(x,a)∈l
 | [],_,_,h=>by simp at h
 | (n,k)::r,x,a,h=>by
  rw[List.lookup_cons]at h
  cases hx:x == n with
  | true =>
   rw[hx]at h
   have e:k=a:=Option.some.inj h
   have e2:x=n:=by simpa using hx
   subst e e2
   exact List.mem_cons_self
  | false=>rw[hx]at h;exact List.mem_cons_of_mem _ (xX h)
def LCW (J:It) (g:TG) (tt:TT) (te:TE) (l:Addr) (Q:VK) (W:Nat→Nat→List V→St→Hp→Prop):Prop :=
 ∀ i m acc σ' H',W i m acc σ' H'→H' l=some (.lst acc) ∧
  ((J.stop i H'∧Q (.ref l) H')∨(J.go i H'∧∀ x H2,J.yld i H' x H2→g x σ' H2 fun σ3 H3=>tt σ3 H3 fun b H4 =>
   if b=true then te σ3 H4 fun y H5=>H5 l=some (.lst acc)∧acc.length<sizeLine∧∃ m',m'<m∧W (i+1) m' (acc++[y]) σ3 (upd H5 l (.lst (acc++[y])))
   else ∃ m',m'<m∧W (i+1) m' acc σ3 H4))
def tLC (cap:List (Option Nat)) (wi:TI) (g:TG) (tt:TT) (te:TE):TE:=fun σ H Q=>wi σ H fun J H1=>∀ l,H1 l=none →
 ∃ W:Nat→Nat→List V→St→Hp→Prop,(∃ m,W 0 m [] (sU cap σ) (upd H1 l (.lst [])))∧LCW J g tt te l Q W
theorem oe {X:Cx}{elt tg iter:Expr}{o:Option Expr}{scope:Scope}{pos ppos:Pos}{wi:TI}{g:TG}{tt:TT}{te:TE}{N':List Str}{cap:List (Option Nat)}{use:Option (Value→Sem Unit)}{Q0:Value→Shared→Prop}
  (hc:X.calm=true) (hi:PI X tg iter wi) (ck:CapOk X.N N' X.env.scope scope cap)
  (hg:∀ C s₀ H₀ fp pins,PG (yF X N' scope C s₀ H₀ fp pins) tg g)
  (ht:∀ C s₀ H₀ fp pins,PTo (yF X N' scope C s₀ H₀ fp pins) o tt)
  (he:∀ C s₀ H₀ fp pins,PE (yF X N' scope C s₀ H₀ fp pins) elt te)
  (hs:∀ x,foldedSetIterable iter X.env x=pure x) {pins:List (Addr × Obj)}{s:Shared}{σ:St}{H:Hp}{Q:VK}(I:Inv X pins σ H s) (h:tLC cap wi g tt te σ H Q)
  (fin:∀ (l C:Addr) (H4:Hp) (s5:Shared) (m:Str→Option Value),Inv X pins σ H4 s5→Q (.ref l) H4→s5.heap.Ns C m→FpOk X pins H4 C→compPost (model X.prog X.w) X.A X.xe use Q0 (.ref l) C (.ok .next) s5) :
  wpAny (model X.prog X.w) X.A (comprehension (.ListComp elt [⟨tg,iter,o.toList,0⟩] scope pos) scope X.env ppos (newList []) false (eval iter X.env) use) Q0 X.xe s:=by
 have hcells:∀ y∈scope.names,y.2=.free→∃ c,X.env.cells.lookup y.1=some c:=fun y hy hf=>I.ok.has y.1 (ck.free y hy hf)
 refine wpAny_comprehension_free (use:=use) rfl hs (wS hcells) ck.kind ck.names (thn (hi pins s σ H _ I h) fun v s1 h1=>thn h1 fun itv s2 h2=>?_)
 obtain⟨it,fp,tn,J,H2,e,I2,T,st2,f2,body⟩:=h2
 subst e
 have hfr2:H2 s2.heap.objs.size=none:=I2.hok.fresh (Nat.le_refl _)
 obtain⟨W,⟨m0,w0⟩,turn⟩:=body s2.heap.objs.size hfr2
 have I3:Inv X pins σ (upd H2 s2.heap.objs.size (.lst [])) { s2 with heap:=s2.heap.push { cls:=.type "list",data:=.seq ([]:List Value).toArray },toks:=s2.toks }:=I2.lnew (its:=[]) (t':=s2.toks) .nil (Nat.zero_le _)
 refine wpAny_newObj_type (wpAny_newFunctionEnv ck.nocell (by intro y hy;simp at hy) (fun h₁ hns₁ hsb₁=>?_) ck.kind)
 dsimp only at hns₁ hsb₁ ⊢
 generalize hl:s2.heap.objs.size=l at *
 generalize hP:s2.heap.push { cls:=.type "list",dict:=none,data:=.seq ([]:List Value).toArray }=P2 at *
 generalize hH3:upd H2 l (.lst [])=H3 at *
 have old:∀ b o,P2.get? b=some o→h₁.get? b=some o:=fun b o e=>hsb₁.extBut b o (Nat.ne_of_lt (Heap.lt_size e)) (Heap.get?_push_of_some _ e)
 have old2:∀ b o,s2.heap.get? b=some o→P2.get? b=some o:=fun b o e=>hP ▸ Heap.get?_push_of_some _ e
 have fpl:∀ b∈fp,b<l:=fun b hb=>by
  obtain⟨o,e,_⟩:=T.obj _ _ st2 b hb
  rw[← hl];exact Heap.lt_size e
 have fp3:∀ b∈fp,H3 b=none:=fun b hb=>by
  rw[← hH3,zH (Nat.ne_of_lt (fpl b hb))];exact(f2 b hb).1
 have hPs:P2.objs.size=l+1:=by rw[← hP,Heap.size_push,hl]
 have subc:∀ x c,(wI X.env.cells scope.names []).lookup x=some c→X.env.cells.lookup x=some c:=fun x c e=>xu _ _ x c hcells (fun _ _ z=>by simp at z) e
 generalize hs3:({ s2 with heap:=P2,toks:=s2.toks }:Shared)=s3 at *
 have hs3h:s3.heap=P2:=by rw[← hs3]
 let Y:=yF X N' scope P2.objs.size s3 H3 fp pins
 have hYok:Y.Ok:=by
  refine⟨I3.ok.mod,ck.kind,I3.ok.glob,I3.ok.blt,by show s3.heap.objs.size≤P2.objs.size;rw[hs3h];exact Nat.le_refl _,fun x y c e1 e2=>I3.ok.inj x y c (subc x c e1) (subc y c e2),fun x hx=>?_,fun x c hx=>absurd (show false=true from hx) Bool.false_ne_true,I3.ok.hd,I3.ok.frames,.inl rfl,fun b hb=>⟨?_,fun x c e=>?_⟩,I3.bs,
   Nat.le_trans I3.ok.bsz I3.sz,fun b o e hb=>?_,fun b hb hz=>?_,I3.stack,I3.stkFree⟩
  ·have hx':scope.names.lookup x=some .free:=by
    rcases hx with hx|hx
    ·rcases yU hx with z|z
     ·exact absurd rfl (ck.nocell _ (xX z))
     ·exact z.2
    ·rcases yU hx with z|z
     ·exact z
     ·exact z.2
   exact yt _ _ x hx'
  ·exact Nat.ne_of_lt (by show b<P2.objs.size;rw[hPs];exact Nat.lt_succ_of_lt (fpl b hb))
  ·exact(f2 b hb).2.2.2.2.1 x c (subc x c e)
  ·rcases (f2 b hb).2.2.2.1 with z|z
   ·exact I3.ok.noex b o e z
   ·exact absurd (Nat.lt_of_lt_of_le (Heap.lt_size e) (Nat.le_trans I3.ok.bsz z)) (Nat.lt_irrefl _)
  ·rcases List.mem_cons.mp (I3.stkSub b hz) with z|z
   ·exact(f2 b hb).2.1 z
   ·exact(f2 b hb).2.2.1 z
 have hYi:Inv Y [] (sU cap σ) H3 { s2 with heap:=h₁,toks:=s2.toks }:=by
  refine⟨hYok,by show s2.os=s3.os;rw[← hs3],I2.bare,by show Un _ _ _ _ s3.heap h₁;rw[hs3h];exact Un.kept old,⟨_,hns₁,fun j x v e1 e2 e3=>?_⟩,fun x c e=>?_,?_,fun x c e=>I3.freeC x c (subc x c e),fun p hp=>?_,fun b o e=>?_,?_⟩
  ·have e1':N'[j]?=some x:=e1
   unfold sU at e2
   rw[List.getElem?_map]at e2
   cases ec:cap[j]? with
   | none=>rw[ec]at e2;cases e2
   | some oc =>
    rw[ec]at e2
    cases oc with
    | none=>cases e2
    | some i =>
     have e2':σ[i]?=some (some v):=by
      cases ei:σ[i]? with
      | none=>simp[ei]at e2
      | some v' =>
       simp[ei]at e2
       rw[e2]
     have hz:(x,some i)∈N'.zip cap:=by
      refine List.mem_of_getElem? (i:=j) ?_
      rw[List.getElem?_zip_eq_some]
      exact⟨e1',ec⟩
     obtain⟨hN,hf,hk⟩:=ck.cap _ hz i rfl
     obtain⟨m,hn,hlo⟩:=I3.loc
     obtain⟨u,r,lk⟩:=hlo i x v hN e2' (by rcases hk with z|z;exact .inr (.inl z);exact .inr (.inr z))
     refine⟨u,r,.inr ⟨?_,?_⟩⟩
     ·exact xT hf
     ·rcases lk with ⟨z,_⟩|⟨_,c,hcx,hcell⟩
      ·have z':X.env.scope.names.lookup x=some .local:=z
       rcases hk with q|q
       ·rw[q]at z';cases z'
       ·rw[q]at z';cases z'
      ·obtain⟨c',hc'⟩:=yt (cells:=X.env.cells) scope.names [] x hf
       have:=subc x c' hc'
       rw[hcx]at this;cases this
       obtain⟨ob,e,d⟩:=hcell
       rw[hs3h]at e
       exact⟨c,hc',ob,old c ob e,d⟩
  ·obtain⟨v,ob,e',d⟩:=I3.cell x c (subc x c e)
   rw[hs3h]at e'
   exact⟨v,ob,old c ob e',d⟩
  ·refine I3.hok.fresh ?_
   rw[hs3h];exact Nat.le_refl _
  ·have hp':p∈X.pn++pins:=(List.mem_append.mp hp).elim (fun z=>z) (fun z=>nomatch z)
   obtain⟨e,n,ne,nf,d⟩:=I3.pin p hp'
   rw[hs3h]at e
   refine⟨old _ _ e,n,Nat.ne_of_lt (Heap.lt_size e),fun z=>?_,d⟩
   rcases List.mem_cons.mp (I3.stkSub _ z) with q|q
   ·exact ne q
   ·exact nf q
  ·have:=I3.hok.kept (h':=h₁) (fun b u q=>old b u (by rw[← hs3h];exact q))
   exact this b o e
  ·show (cap.map _).length=N'.length
   rw[List.length_map,ck.len]
 have stat:∀ {H':Hp},(∀ b∈fp,H' b=none)→∀ b∈fp,FpOk Y [] H' b:=fun {H'} hn b hb=>by
  refine⟨hn b hb,(hYok.exf b hb).1,hYok.exfs b hb,.inl hb,(hYok.exf b hb).2,fun p hp=>?_⟩
  have hp':p∈X.pn++pins:=(List.mem_append.mp hp).elim (fun z=>z) (fun z=>nomatch z)
  exact(f2 b hb).2.2.2.2.2 p hp'
 have st1:tn 0 h₁:=T.keep 0 _ _ st2 fun b hb o e=>old b o (old2 b o e)
 have loop:codeAny (model X.prog X.w) X.A (.compLoop (.ListComp elt [⟨tg,iter,o.toList,0⟩] scope pos) 0 (.ref it) (.ref l) Y.env) (compPost (model X.prog X.w) X.A X.xe use Q0 (.ref l) P2.objs.size) { s2 with heap:=h₁,toks:=s2.toks }:=by
  refine mZ (fun n s'=>∃ i acc σ' H',Inv Y [] σ' H' s'∧tn i s'.heap∧(∀ b∈fp,H' b=none)∧W i n acc σ' H') ?_ m0 ⟨0,[],_,H3,hYi,st1,fp3,w0⟩
  rintro n s4 ⟨i,acc,σ4,H4,I4,st4,fr4,w4⟩
  obtain⟨hlst,q4⟩:=turn i n acc σ4 H4 w4
  rcases q4 with ⟨stop,qn⟩|⟨go,step⟩
  ·refine thn (T.done Y rfl rfl rfl hc i [] s4 σ4 H4 Y.xe I4 (stat fr4) st4 stop) fun r s5 ⟨hr,I5⟩=>?_
   subst hr
   obtain⟨m,hn,_⟩:=id I5.loc
   have un:Un (frs X.stack) fp H3 H4 s3.heap s5.heap:=I5.base
   have sz3:s3.heap.objs.size≤P2.objs.size:=by rw[hs3h];exact Nat.le_refl _
   have IX:Inv X pins σ H4 s5:=I3.call' (ch:=fp) I5.os un I5.hok I5.bare fun b hb=>⟨(f2 b hb).2.2.2.1,(f2 b hb).2.1,(f2 b hb).2.2.2.2.1,(f2 b hb).2.2.2.2.2⟩
   exact fin l P2.objs.size H4 s5 m IX qn hn (I3.fpOk sz3 I5.free)
  ·refine thn (T.item Y rfl rfl rfl hc i [] s4 σ4 H4 Y.xe I4 (stat fr4) st4 go) fun r s5 ⟨u,hr,h5⟩=>?_
   subst hr
   refine thn h5 fun _ s6 ⟨x,H6,I6,r6,y6,st6,fr6⟩=>?_
   have I6':=I6.pinned (stat fr6) (T.obj _ _ st6)
   refine thn (hg _ _ _ _ _ _ s6 σ4 H6 x u _ I6' r6 (step x H6 y6)) fun _ s7 ⟨σ7,H7,I7,q7⟩=>?_
   refine su (ht _ _ _ _ _ _ s7 σ7 H7 _ I7 q7) fun b s8 ⟨H8,I8,q8⟩=>?_
   have again:∀ {σ9:St}{H9:Hp}{s9:Shared}{acc9:List V},Inv Y ([]++xU fp s6.heap) σ9 H9 s9→(∃ m',m'<n∧W (i+1) m' acc9 σ9 H9)→∃ m,m<n∧∃ i acc σ' H',Inv Y [] σ' H' s9∧tn i s9.heap∧(∀ b∈fp,H' b=none)∧W i m acc σ' H':=fun {σ9 H9 s9 acc9} I9 ⟨m',hm,w9⟩=>by
    refine⟨m',hm,i+1,acc9,σ9,H9,I9.unpinned,T.keep _ _ _ st6 fun b hb o e=>(I9.pin (b,o) (List.mem_append_right _ (List.mem_append_right _ (yK hb e)))).1,fun b hb=>?_,w9⟩
    obtain⟨o,e,d⟩:=T.obj _ _ st6 b hb
    exact(I9.pin (b,o) (List.mem_append_right _ (List.mem_append_right _ (yK hb e)))).2.1
   cases b with
   | false =>
    rw[if_neg Bool.false_ne_true]at q8 ⊢
    exact again I8 q8
   | true =>
    rw[if_pos rfl]at q8 ⊢
    refine thn (he _ _ _ _ _ _ s8 σ7 H8 _ I8 q8) fun yv s9 ⟨y,H9,I9,r9,hl9,hz9,q9⟩=>?_
    refine thn (yc (X:=Y) _ s9 σ7 H9 (.ref l) [y] (.ref l) [yv] (fun _ H'=>H'=upd H9 l (.lst (acc++[y]))) I9 rfl (.cons r9 .nil) ⟨l,acc,y,rfl,rfl,hl9,hz9,rfl⟩) fun _ s10 ⟨_,H10,I10,_,e10⟩=>?_
    subst e10
    exact again I10 q9
 exact codeAny_compStart_list loop (T.self X.A 0 _ _ _ st1 loop)
theorem Inv.gone {X:Cx}{pins:List (Addr × Obj)}{σ:St}{H:Hp}{s:Shared}{C:Addr}{h':Heap}(I:Inv X pins σ H s) (f:FpOk X pins H C) (sb:Heap.SameBut C s.heap h'):Inv X pins σ H { s with heap:=h' } :=
 I.turned (t':=s.toks) (fun b o hb e=>(sb.2 b hb).trans e) f.1 f.2.1 f.2.2.2.1 f.2.2.2.2.1 f.2.2.2.2.2
theorem xN {X:Cx}{elt tg iter:Expr}{o:Option Expr}{scope:Scope}{pos:Pos}{wi:TI}{g:TG}{tt:TT}{te:TE}{N':List Str}{cap:List (Option Nat)}
  (hc:X.calm=true) (hi:PI X tg iter wi) (ck:CapOk X.N N' X.env.scope scope cap)
  (hg:∀ C s₀ H₀ fp pins,PG (yF X N' scope C s₀ H₀ fp pins) tg g)
  (ht:∀ C s₀ H₀ fp pins,PTo (yF X N' scope C s₀ H₀ fp pins) o tt)
  (he:∀ C s₀ H₀ fp pins,PE (yF X N' scope C s₀ H₀ fp pins) elt te)
  (hs:∀ x,foldedSetIterable iter X.env x=pure x:=by intro _;rfl) :
  PE X (.ListComp elt [⟨tg,iter,o.toList,0⟩] scope pos) (tLC cap wi g tt te):=by
 intro pins s σ H Q I h
 rw[eval_ListComp]
 exact oe (use:=none) hc hi ck hg ht he hs I h fun l C H4 s5 m I5 q hn f=>⟨m,hn,fun h' sb=>⟨.ref l,H4,I5.gone f sb,rfl,q⟩⟩
theorem uD {X:Cx}{i:Nat}{y:Str}{elt tg iter:Expr}{o:Option Expr}{scope:Scope}{pos spos py:Pos}{wi:TI}{g:TG}{tt:TT}{te:TE}{N':List Str}{cap:List (Option Nat)}
  (hN:X.N.Nodup) (hi':X.N[i]?=some y) (hy:X.env.scope.names.lookup y=some .local) (hc:X.calm=true) (hi:PI X tg iter wi) (ck:CapOk X.N N' X.env.scope scope cap)
  (hg:∀ C s₀ H₀ fp pins,PG (yF X N' scope C s₀ H₀ fp pins) tg g)
  (ht:∀ C s₀ H₀ fp pins,PTo (yF X N' scope C s₀ H₀ fp pins) o tt)
  (he:∀ C s₀ H₀ fp pins,PE (yF X N' scope C s₀ H₀ fp pins) elt te)
  (hs:∀ x,foldedSetIterable iter X.env x=pure x:=by intro _;rfl)
  (hsw:swapsWith (.ListComp elt [⟨tg,iter,o.toList,0⟩] scope pos) (some (.Name y py)) spos.line X.env=pure true:=by with_unfolding_all rfl) :
  PS X (.Assign [.Name y py] (.ListComp elt [⟨tg,iter,o.toList,0⟩] scope pos) spos) (ja (tLC cap wi g tt te) (xp i)):=by
 intro pins s σ H D I h
 rw[exec_Assign_Name_used y py _ spos hsw]
 refine wpAny_bind (wpAny_standAt (wpAny_bind (wpAny_bind (thn (oe (use:=some (assign (.Name y py) X.env)) (Q0:=fun _ z=>SP X pins D .next z) hc hi ck hg ht he hs I h fun l C H4 s5 m I5 q hn f=>?_) fun _ z hz=>wpAny_pure (wpAny_pure hz)))))
 refine wpAny_assign_Name (uj (v:=.ref l) I5 hN hi' (.inl hy) rfl (fun s6 I6 ⟨a,sb,ha⟩=>?_) (.inr hy))
 have nC:C≠a:=by
  rcases ha with z|z
  ·rw[z];exact f.2.1
  ·exact fun w=>f.2.2.2.2.1 y a z w.symm
 have hn6:s6.heap.Ns C m:=hn.sameBut sb nC
 exact⟨m,hn6,fun h' sb'=>⟨_,H4,I6.gone f sb',q⟩⟩
end L2
namespace Own
open PySem PySem.Spec PyProof.Rows
section
variable {M:Model}{prog:Program}{w:World}{A:Around}{E:Value→Shared→Prop}{s:Shared}{α:Type}{Q:α→Shared→Prop}
theorem rf {a:Addr}{o:Obj}{vs:Array Value}{x:Value}{f:Value→Sem α}(k:Nat) (ho:s.heap.get? a=some o) (hd:o.data=.fields vs) (hx:vs[k]?=some x) (h:wpAny M A (f x) Q E s) :
  wpAny M A (field (.ref a) k >>= f) Q E s:=wpAny_bind (wpAny_field ho hd hx h)
theorem nx {T id:String}{B:Builtin}{it:Addr}{P:Value→Shared→Prop}(slot:Slot T "__next__" id) (ty:s.TypeIs (.ref it) T) (en:entryFor table id=some B) (ok:argsOk id ⟨[.ref it],[]⟩)
  (h:wpAny (model prog w) A.in1 (B ⟨[.ref it],[]⟩) (fun r s'=>∃ v,r=.done (.ret v)∧P v s') E s):wpAny (model prog w) A (Builtin.SmallTypes.nextOf (.ref it)) P E s:=by
 unfold Builtin.SmallTypes.nextOf;refine wpAny_bind (wpAny_callSpecial?_slot (name:="__next__") ty slot (wpAny_call_entry slot ty en (thn2 h) ok))
where
 thn2 {B':Sem Fin}{P:Value→Shared→Prop}{A':Around}(h:wpAny (model prog w) A' B' (fun r s'=>∃ v,r=.done (.ret v)∧P v s') E s) :
   wpAny (model prog w) A' B' (fun r s'=>∃ v,r=.done (.ret v)∧wpAny (model prog w) A (pure v) P E s') E s :=
  wpAny_mono h (fun _ _ ⟨v,e,q⟩=>⟨v,e,wpAny_pure q⟩) fun _ _ z=>z
end
theorem ends {A:Around}{E:Value→Shared→Prop}{prog:Program}{w:World}{s:Shared}{α:Type}{Q:α→Shared→Prop}(hh:A.handled=none)
  (h:∀ h' x,(∀ b o,s.heap.get? b=some o→h'.get? b=some o)→(∃ o,h'.get? x=some o∧o.cls=.type "StopIteration")→E (.ref x) { s with heap:=h' }) :
  wpAny (model prog w) A (Builtin.SmallTypes.stopIteration:Sem α) Q E s:=by
 unfold Builtin.SmallTypes.stopIteration newExc newTuple
 refine wpAny_bind (wpAny_bind (wpAny_newObj_type ?_ (by size_fits)))
 refine wpAny_bind (wpAny_of_eq (a:=Value.none) (by rfl) (wpAny_newObj_type (wpAny_raiseNew_none hh (h _ _ (fun b o e=>?_) ⟨_,Heap.get?_push_size _ rfl,rfl⟩)) (by size_fits)))
 exact Heap.get?_push_of_some _ (Heap.get?_push_of_some _ e)
def cN:Bool→String
 | true=>"list_iterator"
 | false=>"tuple_iterator"
abbrev RIt (b:Bool) (h:Heap) (it a:Addr) (i:Int):Prop:=h.get? it=some { cls:=.type (cN b),dict:=none,data:=.fields #[.ref a,.int i 0],slots:=#[] }
def SqO:Bool→Heap→Addr→Array Value→Prop
 | true,h,a,xs=>h.IsList a xs
 | false,h,a,xs=>h.IsTuple a xs
theorem SqO.ob {b:Bool}{h:Heap}{a:Addr}{xs:Array Value}(x:SqO b h a xs):∃ o n,h.get? a=some o∧o.data=.seq xs n:=by
 cases b<;>(obtain⟨o,e,_,n,d⟩:=x;exact⟨o,n,e,d⟩)
theorem SqO.mv {b:Bool}{h h':Heap}{a:Addr}{xs:Array Value}(x:SqO b h a xs) (k:∀ o,h.get? a=some o→h'.get? a=some o):SqO b h' a xs:=by
 cases b<;>(obtain⟨o,e,r⟩:=x;exact⟨o,k o e,r⟩)
theorem SqO.ne {b b':Bool}{h:Heap}{a it a':Addr}{i:Int}{xs:Array Value}(x:SqO b h a xs) (y:RIt b' h it a' i):a≠it:=fun z=>by
 obtain⟨o,n,e,d⟩:=x.ob
 rw[z,y]at e;cases e;cases d
section
variable {prog:Program}{w:World}{A:Around}{E:Value→Shared→Prop}{s:Shared}
theorem ty {b:Bool}{it a:Addr}{i:Int}(y:RIt b s.heap it a i):s.TypeIs (.ref it) (cN b):=⟨_,y,rfl⟩
theorem sH {b:Bool}{it a:Addr}{i:Nat}{xs:Array Value}{x:Value}{P:Value→Shared→Prop}{B:Builtin}(hB:B=match b with|true=>Builtin.«list_iterator.__next__»|false=>Builtin.«tuple_iterator.__next__»)
  (y:RIt b s.heap it a i) (sq:SqO b s.heap a xs) (hx:xs[i]?=some x) (h:∀ h',RIt b h' it a (i+1)→Heap.SameBut it s.heap h'→P x { s with heap:=h' }) :
  wpAny (model prog w) A (B ⟨[.ref it],[]⟩) (fun r s'=>∃ v,r=.done (.ret v)∧P v s') E s:=by
 obtain⟨o,n,e,d⟩:=sq.ob
 have fin:wpAny (model prog w) A (match xs[(i:Int).toNat]? with
   | some x=>(do setField (.ref it) 1 (rawInt ((i:Int)+1));ret x:Sem Fin)
   | none=>Builtin.SmallTypes.stopIteration) (fun r s'=>∃ v,r=.done (.ret v)∧P v s') E s:=by
  rw[Int.toNat_natCast,hx]
  exact wpAny_bind (wpAny_setField_rec y (show 1<2 by decide) fun h' y' sb=>wpAny_pure ⟨x,rfl,h h' y' sb⟩)
 rw[Int.toNat_natCast,hx]at fin
 subst hB
 cases b <;>
 ·refine rf 0 y rfl rfl (PyIte (show ¬((Value.ref a == Value.none)=true) from Bool.false_ne_true) (rf 1 y rfl rfl (wpAny_bind (wpAny_seqItems e d ?_))))
  simp only[Int.toNat_natCast,hx];exact fin
where
 PyIte {c:Prop} [Decidable c] {α:Type}{a b:Sem α}{M:Model}{A:Around}{Q:α→Shared→Prop}{E:Value→Shared→Prop}{s:Shared}(hc:¬ c) (h:wpAny M A b Q E s):wpAny M A (if c then a else b) Q E s:=by
  rw[if_neg hc];exact h
theorem uk {b:Bool}{it a:Addr}{i:Nat}{xs:Array Value}{Q:Fin→Shared→Prop}{B:Builtin}(hB:B=match b with|true=>Builtin.«list_iterator.__next__»|false=>Builtin.«tuple_iterator.__next__»)
  (hh:A.handled=none) (y:RIt b s.heap it a i) (sq:SqO b s.heap a xs) (hx:xs[i]?=none)
  (h:∀ h' x,(∀ c o,c≠it→s.heap.get? c=some o→h'.get? c=some o)→(∃ o,h'.get? x=some o∧o.cls=.type "StopIteration")→E (.ref x) { s with heap:=h' }) :
  wpAny (model prog w) A (B ⟨[.ref it],[]⟩) Q E s:=by
 obtain⟨o,n,e,d⟩:=sq.ob
 subst hB
 cases b <;>
 ·refine rf 0 y rfl rfl (sH.PyIte (show ¬((Value.ref a == Value.none)=true) from Bool.false_ne_true) (rf 1 y rfl rfl (wpAny_bind (wpAny_seqItems e d ?_))))
  simp only[Int.toNat_natCast,hx];refine wpAny_bind (wpAny_rule (wpAny_bind (wpAny_setField_rec y (show 0<2 by decide) fun h1 _ sb=>?_)))
  exact ends hh fun h2 x k z=>h h2 x (fun c o hc q=>k c o ((sb.2 c hc).trans q)) z
theorem j0 {b:Bool}{it a:Addr}{i:Nat}{xs:Array Value}{x:Value}{P:Value→Shared→Prop}(y:RIt b s.heap it a i) (sq:SqO b s.heap a xs) (hx:xs[i]?=some x)
  (h:∀ h',RIt b h' it a (i+1)→Heap.SameBut it s.heap h'→P x { s with heap:=h' }):wpAny (model prog w) A (Builtin.SmallTypes.nextOf (.ref it)) P E s:=by
 cases b
 ·exact nx F.slot_tuple_iterator_next (ty y) F.entry_tuple_iterator_next (F.args_tuple_iterator_next_1 _) (sH (b:=false) rfl y sq hx h)
 ·exact nx slot_listiter_next (ty y) entry_listiter_next (args_listiter_next _) (sH (b:=true) rfl y sq hx h)
theorem nr {b:Bool}{it a:Addr}{i:Nat}{xs:Array Value}{P:Value→Shared→Prop}(hh:A.handled=none) (y:RIt b s.heap it a i) (sq:SqO b s.heap a xs) (hx:xs[i]?=none)
  (h:∀ h' x,(∀ c o,c≠it→s.heap.get? c=some o→h'.get? c=some o)→(∃ o,h'.get? x=some o∧o.cls=.type "StopIteration")→E (.ref x) { s with heap:=h' }) :
  wpAny (model prog w) A (Builtin.SmallTypes.nextOf (.ref it)) P E s:=by
 have inner:A.in1.handled=none:=hh
 cases b
 ·exact nx F.slot_tuple_iterator_next (ty y) F.entry_tuple_iterator_next (F.args_tuple_iterator_next_1 _) (uk (b:=false) rfl inner y sq hx h)
 ·exact nx slot_listiter_next (ty y) entry_listiter_next (args_listiter_next _) (uk (b:=true) rfl inner y sq hx h)
theorem xI {b:Bool}{a:Addr}{xs:Array Value}{P:Value→Shared→Prop}(sq:SqO b s.heap a xs)
  (h:P (.ref s.heap.objs.size) { s with heap:=s.heap.push { cls:=.type (cN b),data:=.fields #[.ref a,.int 0 0] } }):wpAny (model prog w) A (pyIter (.ref a)) P E s:=by
 cases b
 ·exact wpAny_pyIter_tuple sq h
 ·exact wpAny_pyIter_list sq h
end
theorem draws {prog:Program}{w:World}{A:Around}(hh:A.handled=none) (b:Bool) (it a:Addr) (xs:Array Value) (hne:a≠it) :
  Draws prog w A it [it,a] xs.size (fun i v=>xs[i]?=some v) (fun i h=>RIt b h it a i∧SqO b h a xs) :=
 ⟨fun _ _ st=>⟨_,st.1⟩,fun _ _ _ st k=>⟨k it List.mem_cons_self _ st.1,st.2.mv fun o e=>k a (List.mem_cons_of_mem _ List.mem_cons_self) o e⟩,
  fun i s Q E hi st k=>j0 st.1 st.2 (Array.getElem?_eq_getElem hi) fun h' y sb=>k _ h' s.toks (Array.getElem?_eq_getElem hi) ⟨y,st.2.mv fun o e=>(sb.2 a hne).trans e⟩ sb,
  fun s Q E st k=>nr hh st.1 st.2 (by simp) fun h' x kk z=>k h' x (fun c o hc q=>kk c o hc q) z⟩
theorem jF (b:Bool) (a:Addr) (o:Obj) (xs:Array Value) :
  Meets (Builtin.«enumerate.__new__» ⟨[.type "enumerate",.ref a],[]⟩) (fun _ R s=>s.heap.get? a=some o∧SqO b s.heap a xs ∧
   R (.ok (.ret (.ref (s.heap.push { cls:=.type (cN b),data:=.fields #[.ref a,.int 0 0] }).objs.size)))
    { s with heap:=(s.heap.push { cls:=.type (cN b),data:=.fields #[.ref a,.int 0 0] }).push { cls:=.type "enumerate",data:=.fields #[.none,.bool false,.ref s.heap.objs.size,rawInt 0,.none,.none] } }) :=
 .of_wp fun prog w A R s h=>by
  obtain⟨hp,g,d,tk,os⟩:=s;obtain⟨ho,sq,h⟩:=h
  have sub:=sub_enumerate
  have sq':SqO b (Shared.heap ⟨hp,g,d,tk,os⟩) a xs:=sq
  wp_walk using AutoSeq1.wpAny_loadPart' ho;refine wpAny_stack_any fun st=>wpAny_pure ?_
  split
  case h_1 c _ _ _ _ _ =>
   cases (c == Value.type "enumerate")<;>(wp_walk using AutoSeq1.wpAny_loadPart' ho,xI sq';exact⟨_,rfl,h⟩)
  all_goals (wp_walk using AutoSeq1.wpAny_loadPart' ho,xI sq';exact⟨_,rfl,h⟩)
theorem mo {prog:Program}{w:World}{A:Around}{E:Value→Shared→Prop}{s:Shared}{b:Bool}{a:Addr}{xs:Array Value}{P:Value→Shared→Prop}(sq:SqO b s.heap a xs)
  (h:∀ h' e it,s.heap.objs.size≤e→s.heap.objs.size≤it→e≠it→IsEnum h' e it 0 .none→RIt b h' it a 0→(∀ c o,s.heap.get? c=some o→h'.get? c=some o)→P (.ref e) { s with heap:=h' }) :
  wpAny (model prog w) A (call (.type "enumerate") [.ref a]) P E s:=by
 obtain⟨o,n,ho,_⟩:=sq.ob
 refine callType_new F.called_enumerate (by decide) (F.typeCall_enumerate_1 _) (F.newCall_enumerate_1 _) (fun obj=>F.args_object_init_2 obj _) F.entry_enumerate_new (jF b a o xs) ⟨ho,sq,⟨_,Heap.get?_push_size _ rfl,rfl⟩,?_⟩
 refine h _ _ _ ?_ (Nat.le_refl _) ?_ (Heap.get?_push_size _ rfl) (Heap.get?_push_of_some _ (Heap.get?_push_size _ rfl)) fun c o e=>Heap.get?_push_of_some _ (Heap.get?_push_of_some _ e)
 ·rw[Heap.size_push];exact Nat.le_succ _
 ·rw[Heap.size_push];exact Nat.succ_ne_self _
structure Sep (z TI TO i1 i2:Addr) (f1 f2:List Addr):Prop where
 all:[z,TI,TO,i1,i2].Nodup
 z1:z∉f1
 t1:TO∉f1
 o1:i2∉f1
 z2:z∉f2
 t2:TO∉f2
 o2:i1∉f2
section
variable {prog:Program}{w:World}{A:Around}{E:Value→Shared→Prop}{s:Shared}{z TI TO i1 i2:Addr}{f1 f2:List Addr}{n1 n2 k:Nat}{P1 P2:Nat→Value→Prop}{S1 S2:Nat→Heap→Prop}{a b:Value}
theorem mr (S:Sep z TI TO i1 i2 f1 f2) (D1:Draws prog w A i1 f1 n1 P1 S1) (D2:Draws prog w A i2 f2 n2 P2 S2) {Q:Value→Shared→Prop}
  (hz:IsZip s.heap z TI TO .none) (hI:IsPair s.heap TI (.ref i1) (.ref i2)) (hO:IsPair s.heap TO a b) (d1:S1 k s.heap) (d2:S2 k s.heap) (l1:k<n1) (l2:k<n2)
  (h:∀ x y h' tk,P1 k x→P2 k y→IsZip h' z TI TO (rawInt s.heap.objs.size)→IsPair h' TO x y→S1 (k+1) h'→S2 (k+1) h'→IsPair h' s.heap.objs.size x y →
   (∀ c o,c∉[z,TO,i1,i2]→s.heap.get? c=some o→h'.get? c=some o)→Q (.ref s.heap.objs.size) { s with heap:=h',toks:=tk }) :
  wpAny (model prog w) A (Builtin.«zip.__next__» ⟨[.ref z],[]⟩) (fun r s'=>∃ v,r=.done (.ret v)∧Q v s') E s:=by
 have nd:=S.all
 simp only[List.nodup_cons,List.mem_cons,List.not_mem_nil,or_false,not_or]at nd
 obtain⟨⟨zI,zO,z1,z2⟩,⟨IO,I1,I2⟩,⟨O1,O2⟩,n12,_⟩:=nd
 refine rf 2 hz rfl rfl (rf 3 hz rfl rfl (wpAny_bind (wpAny_seqItems hI rfl (wpAny_bind (rf 0 hz rfl rfl (wpAny_pure ?_))))))
 simp only[if_true]
 refine wpAny_bind (wpAny_rule (rf 4 hz rfl rfl (wpAny_bind (wpAny_setField_rec hz (show 0<5 by decide) fun ha za sa=>wpAny_bind ?_))))
 have za':IsZip ha z TI TO .ellipsis:=za;simp only[List.zipIdx_cons,List.zipIdx_nil,List.forIn_cons,List.forIn_nil]
 refine wpAny_bind (wpAny_bind (wpAny_onRaise (wpAny_bind (D1.item k _ _ _ l1 (D1.frame _ _ _ d1 fun c hc o e=>(sa.2 c fun q=>S.z1 (q ▸ hc)).trans e) fun x hb tb px db sb=>wpAny_pure ?_))))
 have Ob:IsPair hb TO a b:=(sb.2 TO O1).trans ((sa.2 TO (Ne.symm zO)).trans hO)
 refine wpAny_bind (wpAny_seqItems Ob rfl (wpAny_bind (wpAny_updateSeq_pair Ob fun hc Oc sc=>wpAny_bind (wpAny_letGo (wpAny_pure ?_)))))
 have Oc':IsPair hc TO x b:=Oc
 have st2:S2 k hc:=D2.frame _ _ _ d2 fun c hm o e=>(sc.2 c fun q=>S.t2 (q ▸ hm)).trans ((sb.2 c fun q=>S.o2 (q ▸ hm)).trans ((sa.2 c fun q=>S.z2 (q ▸ hm)).trans e))
 refine wpAny_bind (wpAny_bind (wpAny_onRaise (wpAny_bind (D2.item k _ _ _ l2 st2 fun y hd td py dd sd=>wpAny_pure ?_))))
 have Od:IsPair hd TO x b:=(sd.2 TO O2).trans Oc'
 refine wpAny_bind (wpAny_seqItems Od rfl (wpAny_bind (wpAny_updateSeq_pair Od fun he Oe se=>wpAny_bind (wpAny_letGo (wpAny_pure (wpAny_pure ?_))))))
 have Oe':IsPair he TO x y:=Oe
 refine wpAny_bind (wpAny_seqItems Oe' rfl (wpAny_bind (wpAny_newTuple (wpAny_bind ?_))))
 have sz:he.objs.size=s.heap.objs.size:=by rw[se.1,sd.1,sc.1,sb.1,sa.1]
 have ze:IsZip he z TI TO .ellipsis:=(se.2 z zO).trans ((sd.2 z z2).trans ((sc.2 z zO).trans ((sb.2 z z1).trans za')))
 have zn:he.objs.size≠z:=Nat.ne_of_gt (Heap.lt_size ze)
 unfold Builtin.SmallTypes.ownedTupleHandOut;refine wpAny_bind (wpAny_setField_rec (Heap.get?_push_of_some _ ze) (show 0<5 by decide) fun hf zf sf=>wpAny_setField_rec zf (show 1<5 by decide) fun hg zg sg=>wpAny_pure ⟨_,rfl,?_⟩)
 have up:∀ c o,c≠z→he.get? c=some o→hg.get? c=some o:=fun c o q e=>(sg.2 c q).trans ((sf.2 c q).trans (Heap.get?_push_of_some _ e))
 have new:IsPair hg he.objs.size x y:=(sg.2 _ zn).trans ((sf.2 _ zn).trans (Heap.get?_push_size _ rfl))
 have zg':IsZip hg z TI TO (rawInt he.objs.size):=zg
 rw[sz]at new zg'
 show Q (.ref he.objs.size) _
 rw[sz]
 refine h x y hg td px py zg' (up _ _ (Ne.symm zO) Oe') ?_ ?_ new fun c o hc e=>?_
 ·exact D1.frame _ _ _ db fun c hm o e=>up c o (fun q=>S.z1 (q ▸ hm)) ((se.2 c fun q=>S.t1 (q ▸ hm)).trans ((sd.2 c fun q=>S.o1 (q ▸ hm)).trans ((sc.2 c fun q=>S.t1 (q ▸ hm)).trans e)))
 ·exact D2.frame _ _ _ dd fun c hm o e=>up c o (fun q=>S.z2 (q ▸ hm)) ((se.2 c fun q=>S.t2 (q ▸ hm)).trans e)
 ·simp only[List.mem_cons,List.not_mem_nil,or_false,not_or]at hc
  obtain⟨c1,c2,c3,c4⟩:=hc
  exact up c o c1 ((se.2 c c2).trans ((sd.2 c c4).trans ((sc.2 c c2).trans ((sb.2 c c3).trans ((sa.2 c c1).trans e)))))
end
section
variable {prog:Program}{w:World}{A:Around}{E:Value→Shared→Prop}{s:Shared}{z TI TO i1 i2:Addr}{f1 f2:List Addr}{n1 n2 k:Nat}{P1 P2:Nat→Value→Prop}{S1 S2:Nat→Heap→Prop}{a b:Value}
theorem mq (S:Sep z TI TO i1 i2 f1 f2) (D1:Draws prog w A i1 f1 n1 P1 S1) {Q:Fin→Shared→Prop}(hz:IsZip s.heap z TI TO .none) (hI:IsPair s.heap TI (.ref i1) (.ref i2)) (d1:S1 n1 s.heap)
  (h:∀ h' x,(∀ c o,c∉[z,TO,i1,i2]→s.heap.get? c=some o→h'.get? c=some o)→(∃ o,h'.get? x=some o∧o.cls=.type "StopIteration")→E (.ref x) { s with heap:=h' }):wpAny (model prog w) A (Builtin.«zip.__next__» ⟨[.ref z],[]⟩) Q E s:=by
 have nd:=S.all
 simp only[List.nodup_cons,List.mem_cons,List.not_mem_nil,or_false,not_or]at nd
 obtain⟨⟨zI,zO,z1,z2⟩,⟨IO,I1,I2⟩,⟨O1,O2⟩,n12,_⟩:=nd
 refine rf 2 hz rfl rfl (rf 3 hz rfl rfl (wpAny_bind (wpAny_seqItems hI rfl (wpAny_bind (rf 0 hz rfl rfl (wpAny_pure ?_))))))
 simp only[if_true]
 refine wpAny_bind (wpAny_rule (rf 4 hz rfl rfl (wpAny_bind (wpAny_setField_rec hz (show 0<5 by decide) fun ha za sa=>wpAny_bind ?_))))
 have za':IsZip ha z TI TO .ellipsis:=za;simp only[List.zipIdx_cons,List.zipIdx_nil,List.forIn_cons,List.forIn_nil]
 refine wpAny_bind (wpAny_bind (wpAny_onRaise (wpAny_bind (D1.done _ _ _ (D1.frame _ _ _ d1 fun c hc o e=>(sa.2 c fun q=>S.z1 (q ▸ hc)).trans e) fun hb x kb ⟨ox,ex,cx⟩=>?_))))
 have zb:IsZip hb z TI TO .ellipsis:=kb z _ z1 za'
 have xz:x≠z:=fun q=>by rw[q,zb]at ex;cases ex;exact absurd (show Value.type "zip" = Value.type "StopIteration" from cx) (by decide)
 refine wpAny_setField_rec zb (show 0<5 by decide) fun hc _ sc=>h hc x (fun c o hm e=>?_) ⟨ox,(sc.2 x xz).trans ex,cx⟩
 simp only[List.mem_cons,List.not_mem_nil,or_false,not_or]at hm
 exact(sc.2 c hm.1).trans (kb c o hm.2.2.1 ((sa.2 c hm.1).trans e))
end
theorem jP (b1 b2:Bool) (a1 a2:Addr) (xs ys:Array Value):Meets (Builtin.«zip.__new__» ⟨[.type "zip",.ref a1,.ref a2],[]⟩) (fun _ R s=>SqO b1 s.heap a1 xs∧SqO b2 s.heap a2 ys ∧
  ∀ h' z,(∃ TI TO i1 i2,[z,TI,TO,i1,i2].Nodup∧(∀ c∈[z,TI,TO,i1,i2],s.heap.objs.size≤c)∧IsZip h' z TI TO .none∧IsPair h' TI (.ref i1) (.ref i2)∧IsPair h' TO .none .none∧RIt b1 h' i1 a1 0∧RIt b2 h' i2 a2 0) →
   (∀ c o,s.heap.get? c=some o→h'.get? c=some o)→R (.ok (.ret (.ref z))) { s with heap:=h' }) :=
 .of_wp fun prog w A R s h=>by
  obtain⟨hp,g,d,tk,os⟩:=s;obtain⟨q1,q2,h⟩:=h
  have sub:=sub_zip
  have r1:SqO b1 (Shared.heap ⟨hp,g,d,tk,os⟩) a1 xs:=q1
  have r2:SqO b2 (Shared.heap ⟨hp.push { cls:=.type (cN b1),data:=.fields #[.ref a1,.int 0 0] },g,d,tk,os⟩) a2 ys:=q2.mv fun o e=>Heap.get?_push_of_some _ e
  wp_walk using xI r1,xI r2
  refine⟨_,rfl,h _ _ ⟨_,_,_,_,?_,?_,Heap.get?_push_size _ rfl,Heap.get?_push_of_some _ (Heap.get?_push_of_some _ (Heap.get?_push_size _ rfl)),Heap.get?_push_of_some _ (Heap.get?_push_size _ rfl),
   Heap.get?_push_of_some _ (Heap.get?_push_of_some _ (Heap.get?_push_of_some _ (Heap.get?_push_of_some _ (Heap.get?_push_size _ rfl)))),Heap.get?_push_of_some _ (Heap.get?_push_of_some _ (Heap.get?_push_of_some _ (Heap.get?_push_size _ rfl)))⟩ fun c o e=>?_⟩
  ·simp only[Heap.size_push,List.nodup_cons,List.mem_cons,List.not_mem_nil,or_false,not_or]
   simp<;>lia
  ·simp only[Heap.size_push,List.mem_cons,List.not_mem_nil,or_false]
   intro c hc
   have:hp.objs.size≤c:=by lia
   exact this
  ·exact Heap.get?_push_of_some _ (Heap.get?_push_of_some _ (Heap.get?_push_of_some _ (Heap.get?_push_of_some _ (Heap.get?_push_of_some _ e))))
end Own
namespace L2
open PySem PySem.Spec PyProof.Rows Own
section
variable {X:Cx}{pins:List (Addr × Obj)}{σ:St}{H:Hp}{s:Shared}{h':Heap}
theorem Inv.spunN {fp:List Addr}{T:Addr}{o:HO}{t':Nat}(I:Inv X pins σ H s) (k:∀ b o,b∉fp→s.heap.get? b=some o→h'.get? b=some o) (hf:∀ b∈fp,FpOk X pins H b) (hT:s.heap.objs.size≤T)
  (new:ObjOk X.prog X.w (upd H T o) h' T o):Inv X pins σ (upd H T o) { s with heap:=h',toks:=t' }:=by
 have hn:H T=none:=I.hok.fresh hT
 have neT:∀ b u,s.heap.get? b=some u→b≠T:=fun b u e=>Nat.ne_of_lt (Nat.lt_of_lt_of_le (Heap.lt_size e) hT)
 have nfp:∀ b u,H b=some u→b∉fp:=fun b u e hb=>by rw[(hf b hb).1]at e;cases e
 refine I.step (g':=s.gens) (d':=s.drawn) (ch:=fp) (fun b hb=>?_) (fun b o _ _ hc e _=>k b o hc e) (fun b o _ _ hc e _=>⟨o.slots,k b o hc e⟩) (fun b o _ e n=>by rw[zH (neT b o e)];exact n)
  (fun b o hc e=>⟨o,k b o hc e⟩) (fun b xs e=>by rw[zH (zG e hn)];exact e) (fun b o u e=>by rw[zH (zG e hn)];exact e) (fun b ps e=>⟨#[],by rw[zH (zG e hn),e];simp⟩) (fun m hm=>?_) (fun b u e=>?_) I.bare
 ·obtain⟨f0,f1,f2,f3,f4,f5⟩:=hf b hb
  exact⟨f3,f1,f4,f5⟩
 ·obtain⟨o,es,ep,ho,r⟩:=hm
  exact⟨o,es,ep,k _ o (fun hb=>(hf _ hb).2.1 rfl) ho,r⟩
 ·by_cases hb:b=T
  ·subst hb;rw[zD]at e;cases e;exact new
  ·rw[zH hb]at e
   refine(I.hok b u e).stay (fun c v hc q=>k c v ?_ q) (fun c q=>by rw[zH (zG q hn)];exact q) fun c xs q=>by rw[zH (zG q hn)];exact q
   rcases hc with z|z
   ·rw[z];exact nfp b u e
   ·exact nfp c _ z
theorem Inv.spun {fp:List Addr}{t':Nat}(I:Inv X pins σ H s) (k:∀ b o,b∉fp→s.heap.get? b=some o→h'.get? b=some o) (hf:∀ b∈fp,FpOk X pins H b):Inv X pins σ H { s with heap:=h',toks:=t' }:=by
 have nfp:∀ b u,H b=some u→b∉fp:=fun b u e hb=>by rw[(hf b hb).1]at e;cases e
 refine I.step (g':=s.gens) (d':=s.drawn) (ch:=fp) (fun b hb=>?_) (fun b o _ _ hc e _=>k b o hc e) (fun b o _ _ hc e _=>⟨o.slots,k b o hc e⟩) (fun b o _ e n=>n)
  (fun b o hc e=>⟨o,k b o hc e⟩) (fun b xs e=>e) (fun b o u e=>e) (fun b ps e=>⟨#[],by rw[e];simp⟩) (fun m hm=>?_) (fun b u e=>?_) I.bare
 ·obtain⟨f0,f1,f2,f3,f4,f5⟩:=hf b hb
  exact⟨f3,f1,f4,f5⟩
 ·obtain⟨o,es,ep,ho,r⟩:=hm
  exact⟨o,es,ep,k _ o (fun hb=>(hf _ hb).2.1 rfl) ho,r⟩
 ·refine(I.hok b u e).stay (fun c v hc q=>k c v ?_ q) (fun c q=>q) fun c xs q=>q
  rcases hc with z|z
  ·rw[z];exact nfp b u e
  ·exact nfp c _ z
end
def SqB:Bool→PySem.W.Frag→Hp→Addr→List V→Prop
 | true,K,H,a,xs=>SqL K H a xs
 | false,K,H,a,xs=>SqT K H a xs
section
variable {X:Cx}{pins:List (Addr × Obj)}{σ:St}{H:Hp}{s:Shared}{a c:Addr}{xs ys:List V}{b:Bool}
theorem Inv.sq (I:Inv X pins σ H s) (h:SqB b X.K H a xs):∃ its:List Value,Vals xs its∧SqO b s.heap a its.toArray:=by
 cases b
 ·obtain⟨its,r,p,z⟩:=I.tuple h
  exact⟨its,r,p⟩
 ·obtain⟨its,r,p,z⟩:=I.list h
  exact⟨its,r,p.isList⟩
theorem Inv.sq_inj (I:Inv X pins σ H s) (h:SqB b X.K H a xs) (h':SqB b X.K H a ys):xs=ys:=by
 cases b
 ·exact I.tuple_inj h h'
 ·exact I.list_inj h h'
theorem Inv.sq_ne (I:Inv X pins σ H s) (h:SqB b X.K H a xs) (f:FpOk X pins H c):c≠a:=by
 rintro rfl
 have inK:∀ o,X.K.lookup c=some o→False:=fun o e=>by
  have e1:=I.ok.mod.kin c o e
  rcases f.2.2.2.1 with z|z
  ·exact I.ok.noex c o e1 z
  ·exact absurd (Nat.lt_of_lt_of_le (Heap.lt_size e1) (Nat.le_trans I.ok.bsz z)) (Nat.lt_irrefl _)
 cases b <;>
 ·rcases h with (h|⟨o,h⟩)|⟨o,_,_,e,_⟩
  ·rw[f.1]at h;cases h
  ·rw[f.1]at h;cases h
  ·exact inK o e
end
def Pr (v u:V) (H:Hp) (x:V) (H':Hp):Prop:=∃ T,H T=none∧x=.ref T∧H'=upd H T (.tup [v,u])
theorem oM {P:Program}{w:World}{H:Hp}{h:Heap}{T:Addr}{v u:V}{a b:Value}(e:IsPair h T a b) (rv:RelV v a) (ru:RelV u b):ObjOk P w (upd H T (.tup [v,u])) h T (.tup [v,u]) :=
 ⟨show 2≤sizeLine by decide,[a,b],.cons rv (.cons ru .nil),⟨_,e,rfl,_,rfl,rfl⟩⟩
def Ite (K:PySem.W.Frag) (b:Bool) (a:Addr):It :=
 ⟨fun i H=>∃ xs x,SqB b K H a xs∧xs[i]?=some x,fun i H x H'=>∃ y,(∀ xs,SqB b K H a xs→xs[i]?=some y)∧Pr (.int i) y H x H',fun i H=>∃ xs,SqB b K H a xs∧xs.length=i⟩
theorem nE {P:Program}{w:World}{K:PySem.W.Frag}{es:List Expr}{k1} {p1:Pos}(b:Bool) (a e it:Addr) (hne:e≠it):Turn P w K (.Tuple es k1 p1) (Ite K b a) [e,it] e (fun i h=>(∃ old,IsEnum h e it i old)∧RIt b h it a i) where
 mem:=List.mem_cons_self
 obj:=fun i h ⟨⟨old,he⟩,hi⟩ c hc=>by
  rcases List.mem_cons.mp hc with q|q
  ·rw[q];exact⟨_,he,fun v z=>by cases z⟩
  ·rw[List.mem_singleton.mp q];exact⟨_,hi,fun v z=>by cases z⟩
 keep:=fun i h h' ⟨⟨old,he⟩,hi⟩ kk=>⟨⟨old,kk e (by simp) _ he⟩,kk it (by simp) _ hi⟩
 item:=by
  intro X hP hw hK hc i pins s σ H E I hf ⟨⟨old,he⟩,hi⟩ ⟨xs,x,hq,hx⟩
  subst hP hw hK
  obtain⟨its,rv,p⟩:=I.sq hq
  obtain⟨u,hu,ru⟩:=rv.get hx
  have hlt:i<its.toArray.size:=by simpa using (List.getElem?_eq_some_iff.mp hu).1
  refine wpAny_pyNext_enum_itemD (draws (prog:=X.prog) (w:=X.w) (A:=X.A.in1) (I.ok.hd hc) b it a its.toArray (p.ne hi)) he ⟨hi,p⟩ hlt hne (by simp[hne,I.sq_ne hq (hf e (by simp))]) fun v h1 tk hv ho hs hT _ hk=>?_
  obtain rfl:u=v:=Option.some.inj (hu.symm.trans (by simpa using hv))
  refine⟨_,rfl,wpAny_letOwnedTupleGo_enum ho fun h2 he2 s2=>?_⟩
  have nT:s.heap.objs.size≠e:=Nat.ne_of_gt (Heap.lt_size he)
  have nI:s.heap.objs.size≠it:=Nat.ne_of_gt (Heap.lt_size hi)
  refine⟨.ref s.heap.objs.size,_,I.spunN (fp:=[e,it]) (fun c o hm q=>?_) hf (Nat.le_refl _) (oM (v:=.int i) (u:=x) ((s2.2 _ nT).trans hT) ⟨tk,rfl⟩ ru),rfl,⟨x,fun ys hy=>by rw[I.sq_inj hy hq];exact hx,_,I.fresh,rfl,rfl⟩,⟨⟨_,he2⟩,(s2.2 it (Ne.symm hne)).trans hs.1⟩,fun c hm=>?_⟩
  ·have c1:c≠e:=fun z=>hm (by simp[z])
   exact(s2.2 c c1).trans (hk c o c1 (fun z=>hm (by simp[z])) q)
  ·rw[zH,(hf c hm).1]
   rintro rfl
   rcases List.mem_cons.mp hm with z|z
   ·exact nT z
   ·exact nI (List.mem_singleton.mp z)
 done:=by
  intro X hP hw hK hc i pins s σ H E I hf ⟨⟨old,he⟩,hi⟩ ⟨xs,hq,hx⟩
  subst hP hw hK
  obtain⟨its,rv,p⟩:=I.sq hq
  have hz:i=its.toArray.size:=by rw[List.size_toArray,← rv.length,hx]
  refine wpAny_pyNext_enum_endD (draws (prog:=X.prog) (w:=X.w) (A:=X.A.in1) (I.ok.hd hc) b it a its.toArray (p.ne hi)) he ⟨by rw[← hz];exact hi,p⟩ fun h' eb=>⟨rfl,I.spun (t':=s.toks) (fp:=[e,it]) (fun c o hm q=>eb c o (fun z=>hm (by simp[z])) q) hf⟩
 self:=fun _ _ _ _ _ ⟨⟨_,he⟩,_⟩ h=>wpAny_pyIter_enum he h
def eP (K:PySem.W.Frag) (b:Bool) (ta:TA):TI:=fun σ H R=>ta σ H fun vs H1=>∃ a xs,vs=[.ref a]∧SqB b K H1 a xs∧R (Ite K b a) H1
theorem oI {X:Cx}{a:Expr}{ta:TA}{p pos p1:Pos}{es:List Expr}{k1} (b:Bool) (hg:Gl X "enumerate") (hm:X.mg "enumerate" = none) (ha:PA X [a] ta) (hs:starEach [a] X.env=[(false,eval a X.env)]:=by rfl) :
  PI X (.Tuple es k1 p1) (.Call (.Name "enumerate" p) [a] [] pos) (eP X.K b ta):=by
 intro pins s σ H R I h
 refine Call_ (xL I hg hm (u:=.type "enumerate") (by rfl) (PyProof.Rows.callWith_type1 (thn (ha pos pins s σ H _ I h) fun us s1 ⟨vs,H1,I1,r1,q1⟩=>?_) hs rfl))
 obtain⟨a',xs,rfl,hq,q⟩:=q1
 obtain⟨u,rfl,ru⟩:=r1.one
 cases ru
 obtain⟨its,rv,pl⟩:=I1.sq hq
 refine mo pl fun h' e it l1 l2 ne he hi hk=>wpAny_pyIter_enum he ⟨_,[e,it],_,_,H1,rfl,I1.kept (t':=s1.toks) hk,nE b a' e it ne,⟨⟨_,he⟩,hi⟩,fun c hc=>?_,q⟩
 have hc':s1.heap.objs.size≤c:=by
  rcases List.mem_cons.mp hc with z|z
  ·rw[z];exact l1
  ·rw[List.mem_singleton.mp z];exact l2
 exact I1.fpOk hc' (I1.hok.fresh hc')
def Itz (K:PySem.W.Frag) (b1 b2:Bool) (a1 a2:Addr):It :=
 ⟨fun i H=>∃ xs ys x y,SqB b1 K H a1 xs∧SqB b2 K H a2 ys∧xs[i]?=some x∧ys[i]?=some y,fun i H v H'=>∃ x y,(∀ xs,SqB b1 K H a1 xs→xs[i]?=some x)∧(∀ ys,SqB b2 K H a2 ys→ys[i]?=some y)∧Pr x y H v H',
  fun i H=>∃ xs,SqB b1 K H a1 xs∧xs.length=i⟩
theorem my {P:Program}{w:World}{K:PySem.W.Frag}{es:List Expr}{k1} {p1:Pos}(b1 b2:Bool) (a1 a2 z TI TO i1 i2:Addr) (nd:[z,TI,TO,i1,i2].Nodup) :
  Turn P w K (.Tuple es k1 p1) (Itz K b1 b2 a1 a2) [z,TI,TO,i1,i2] z (fun i h=>IsZip h z TI TO .none∧IsPair h TI (.ref i1) (.ref i2)∧(∃ a b,IsPair h TO a b)∧RIt b1 h i1 a1 i∧RIt b2 h i2 a2 i) where
 mem:=List.mem_cons_self
 obj:=fun i h ⟨hz,hI,⟨a,b,hO⟩,h1,h2⟩ c hc=>by
  simp only[List.mem_cons,List.not_mem_nil,or_false]at hc
  rcases hc with rfl|rfl|rfl|rfl|rfl
  ·exact⟨_,hz,fun v q=>by cases q⟩
  ·exact⟨_,hI,fun v q=>by cases q⟩
  ·exact⟨_,hO,fun v q=>by cases q⟩
  ·exact⟨_,h1,fun v q=>by cases q⟩
  ·exact⟨_,h2,fun v q=>by cases q⟩
 keep:=fun i h h' ⟨hz,hI,⟨a,b,hO⟩,h1,h2⟩ kk=>⟨kk z (by simp) _ hz,kk TI (by simp) _ hI,⟨a,b,kk TO (by simp) _ hO⟩,kk i1 (by simp) _ h1,kk i2 (by simp) _ h2⟩
 item:=by
  intro X hP hw hK hc i pins s σ H E I hf ⟨hz,hI,⟨a,b,hO⟩,h1,h2⟩ ⟨xs,ys,x,y,q1,q2,hx,hy⟩
  subst hP hw hK
  obtain⟨u1,r1,p1⟩:=I.sq q1
  obtain⟨u2,r2,p2⟩:=I.sq q2
  obtain⟨v1,e1,rx⟩:=r1.get hx
  obtain⟨v2,e2,ry⟩:=r2.get hy
  have nd':=nd
  simp only[List.nodup_cons,List.mem_cons,List.not_mem_nil,or_false,not_or]at nd'
  obtain⟨⟨zI,zO,z1,z2⟩,⟨IO,I1,I2⟩,⟨O1,O2⟩,n12,_⟩:=nd'
  have na1:∀ c∈[z,TI,TO,i1,i2],c≠a1:=fun c hm=>I.sq_ne q1 (hf c hm)
  have na2:∀ c∈[z,TI,TO,i1,i2],c≠a2:=fun c hm=>I.sq_ne q2 (hf c hm)
  have S:Sep z TI TO i1 i2 [i1,a1] [i2,a2]:=⟨nd,by simp[z1,na1 z (by simp)],by simp[O1,na1 TO (by simp)],by simp[Ne.symm n12,na1 i2 (by simp)],by simp[z2,na2 z (by simp)],by simp[O2,na2 TO (by simp)],by simp[n12,na2 i1 (by simp)]⟩
  have hd:=I.ok.hd hc
  have D1:=draws (prog:=X.prog) (w:=X.w) (A:=X.A.in1) hd b1 i1 a1 u1.toArray (p1.ne h1)
  have D2:=draws (prog:=X.prog) (w:=X.w) (A:=X.A.in1) hd b2 i2 a2 u2.toArray (p2.ne h2)
  have tyz:s.TypeIs (.ref z) "zip":=⟨_,hz,rfl⟩
  unfold pyNext
  refine wpAny_bind (wpAny_attempt (wpAny_callSpecial?_slot (name:="__next__") tyz F.slot_zip_next (wpAny_call_entry F.slot_zip_next tyz F.entry_zip_next (mr S D1 D2 hz hI hO ⟨h1,p1⟩ ⟨h2,p2⟩ (by simpa using (List.getElem?_eq_some_iff.mp e1).1) (by simpa using (List.getElem?_eq_some_iff.mp e2).1)
   fun w1 w2 h' tk hw1 hw2 zh Oh d1 d2 new hk=>wpAny_pure ?_) (F.args_zip_next_1 _))))
  obtain rfl:v1=w1:=Option.some.inj (e1.symm.trans (by simpa using hw1))
  obtain rfl:v2=w2:=Option.some.inj (e2.symm.trans (by simpa using hw2))
  refine⟨_,rfl,wpAny_letOwnedTupleGo_zip zh fun h3 z3 s3=>?_⟩
  have nz:s.heap.objs.size≠z:=Nat.ne_of_gt (Heap.lt_size hz)
  have far:∀ c∈[z,TI,TO,i1,i2],c≠s.heap.objs.size:=fun c hm=>by
   simp only[List.mem_cons,or_false,List.not_mem_nil]at hm
   rcases hm with rfl|rfl|rfl|rfl|rfl
   ·exact Nat.ne_of_lt (Heap.lt_size hz)
   ·exact Nat.ne_of_lt (Heap.lt_size hI)
   ·exact Nat.ne_of_lt (Heap.lt_size hO)
   ·exact Nat.ne_of_lt (Heap.lt_size h1)
   ·exact Nat.ne_of_lt (Heap.lt_size h2)
  refine⟨.ref s.heap.objs.size,_,I.spunN (fp:=[z,TI,TO,i1,i2]) (fun c o hm q=>?_) hf (Nat.le_refl _) (oM ((s3.2 _ nz).trans new) rx ry),rfl,⟨x,y,fun l hl=>by rw[I.sq_inj hl q1];exact hx,fun l hl=>by rw[I.sq_inj hl q2];exact hy,_,I.fresh,rfl,rfl⟩,
   ⟨z3,(s3.2 _ (Ne.symm zI)).trans (hk TI _ (by simp[Ne.symm zI,IO,I1,I2]) hI),⟨_,_,(s3.2 _ (Ne.symm zO)).trans Oh⟩,(s3.2 _ (Ne.symm z1)).trans d1.1,(s3.2 _ (Ne.symm z2)).trans d2.1⟩,fun c hm=>by rw[zH (far c hm),(hf c hm).1]⟩
  simp only[List.mem_cons,List.not_mem_nil,or_false,not_or]at hm
  exact(s3.2 c hm.1).trans (hk c o (by simp[hm]) q)
 done:=by
  intro X hP hw hK hc i pins s σ H E I hf ⟨hz,hI,⟨a,b,hO⟩,h1,h2⟩ ⟨xs,q1,hx⟩
  subst hP hw hK
  obtain⟨u1,r1,p1⟩:=I.sq q1
  have nd':=nd
  simp only[List.nodup_cons,List.mem_cons,List.not_mem_nil,or_false,not_or]at nd'
  obtain⟨⟨zI,zO,z1,z2⟩,⟨IO,I1,I2⟩,⟨O1,O2⟩,n12,_⟩:=nd'
  have na1:∀ c∈[z,TI,TO,i1,i2],c≠a1:=fun c hm=>I.sq_ne q1 (hf c hm)
  have S:Sep z TI TO i1 i2 [i1,a1] [i2]:=⟨nd,by simp[z1,na1 z (by simp)],by simp[O1,na1 TO (by simp)],by simp[Ne.symm n12,na1 i2 (by simp)],by simp[z2],by simp[O2],by simp[n12]⟩
  have hsz:i=u1.toArray.size:=by rw[List.size_toArray,← r1.length,hx]
  have tyz:s.TypeIs (.ref z) "zip":=⟨_,hz,rfl⟩
  unfold pyNext
  refine wpAny_bind (wpAny_attempt (wpAny_callSpecial?_slot (name:="__next__") tyz F.slot_zip_next (wpAny_call_entry F.slot_zip_next tyz F.entry_zip_next
   (mq S (draws (prog:=X.prog) (w:=X.w) (A:=X.A.in1) (I.ok.hd hc) b1 i1 a1 u1.toArray (p1.ne h1)) hz hI ⟨by rw[← hsz];exact h1,p1⟩ fun h' x hk ⟨o,eo,co⟩=>?_) (F.args_zip_next_1 _))))
  refine wpAny_bind (wpAny_isInstance (T:="StopIteration") (b:=true) ⟨o,eo,co⟩ isSubtype_stop (wpAny_pure ⟨rfl,I.spun (t':=s.toks) (fp:=[z,TI,TO,i1,i2]) (fun c o hm q=>hk c o ?_ q) hf⟩))
  simp only[List.mem_cons,List.not_mem_nil,or_false,not_or]at hm ⊢
  exact⟨hm.1,hm.2.2.1,hm.2.2.2.1,hm.2.2.2.2⟩
 self:=fun _ _ _ _ _ st h=>wpAny_pyIter_zip st.1 h
def cG (K:PySem.W.Frag) (b1 b2:Bool) (ta:TA):TI:=fun σ H R=>ta σ H fun vs H1=>∃ a1 a2 xs ys,vs=[.ref a1,.ref a2]∧SqB b1 K H1 a1 xs∧SqB b2 K H1 a2 ys∧R (Itz K b1 b2 a1 a2) H1
theorem kA {X:Cx}{a b:Expr}{ta:TA}{p pos p1:Pos}{es:List Expr}{k1} (b1 b2:Bool) (hg:Gl X "zip") (hm:X.mg "zip" = none) (ha:PA X [a,b] ta) (hs:starEach [a,b] X.env=[(false,eval a X.env),(false,eval b X.env)]:=by rfl) (hs2:starEach [b] X.env=[(false,eval b X.env)]:=by rfl) :
  PI X (.Tuple es k1 p1) (.Call (.Name "zip" p) [a,b] [] pos) (cG X.K b1 b2 ta):=by
 intro pins s σ H R I h
 refine Call_ (xL I hg hm (u:=.type "zip") (by rfl) (PyProof.Rows.callWith_type1 (thn (ha pos pins s σ H _ I h) fun us s1 ⟨vs,H1,I1,r1,q1⟩=>?_) (by rw[hs,hs2]) (by rw[hs2];rfl)))
 obtain⟨a1,a2,xs,ys,rfl,hq1,hq2,q⟩:=q1
 obtain⟨u,v,rfl,ru,rv⟩:=r1.two
 cases ru
 cases rv
 obtain⟨its,_,pl1⟩:=I1.sq hq1
 obtain⟨jts,_,pl2⟩:=I1.sq hq2
 refine callType_new F.called_zip (by decide) (F.typeCall_zip_2 _ _) (F.newCall_zip_2 _ _) (fun obj=>F.args_object_init_3 obj _ _) F.entry_zip_new (jP b1 b2 a1 a2 its.toArray jts.toArray) ⟨pl1,pl2,fun h' z ⟨TI,TO,i1,i2,nd,far,hz,hI,hO,h1,h2⟩ hk=>⟨⟨_,hz,rfl⟩,?_⟩⟩
 exact wpAny_pyIter_zip hz ⟨_,[z,TI,TO,i1,i2],_,_,H1,rfl,I1.kept (t':=s1.toks) hk,my b1 b2 a1 a2 z TI TO i1 i2 nd,⟨hz,hI,⟨_,_,hO⟩,h1,h2⟩,fun c hc=>I1.fpOk (far c hc) (I1.hok.fresh (far c hc)),q⟩
section
variable {X:Cx}
theorem ph {prog:Program}{w:World}{A:Around}(hh:A.handled=none) (b:Bool) (I a:Addr) (hne:a≠I) (xs:Array Value) :
  Walks prog w A I [I,a] [I] xs.size (fun i v=>xs[i]?=some v) (fun i h=>(match b with|true=>h.IsListIter I a i|false=>h.IsTupleIter I a i)∧SqO b h a xs):=by
 cases b
 ·exact Walks.tuple hh I a hne xs
 ·exact Walks.list hh I a hne xs
theorem wG (hc:X.calm=true) (b:Bool):CallR X (.builtin "all") (fun vs H Q=>∃ a bs,vs=[.ref a]∧SqB b X.K H a (List.map V.bl bs)∧Q (.bl (bs.all id)) H):=by
 intro pins s σ H vs us Q I rv h
 obtain⟨a,bs,rfl,hq,q⟩:=h
 obtain⟨u,rfl,ru⟩:=rv.one
 cases ru
 obtain⟨its,r,p⟩:=I.sq hq
 have hne:a≠s.heap.objs.size:=by
  obtain⟨o,n,e,_⟩:=p.ob
  exact Nat.ne_of_lt (Heap.lt_size e)
 have hl:its.length=bs.length:=by rw[← r.length,List.length_map]
 refine call_all_walk (xI p ⟨s.heap.objs.size,[s.heap.objs.size,a],[s.heap.objs.size],_,_,_,fun i=>bs.getD i true,rfl,ph (show X.A.in1.handled=none from I.ok.hd hc) b _ a hne its.toArray,?_,?_,?_⟩)
 ·refine⟨?_,p.mv fun o e=>Heap.get?_push_of_some _ e⟩
  cases b<;>exact⟨_,Heap.get?_push_size _ rfl,rfl,rfl⟩
 ·intro i v s' Q' E' hv hQ
  have hv':its[i]?=some v:=by simpa using hv
  have hi:=(List.getElem?_eq_some_iff.mp hv').1
  have e:(List.map V.bl bs)[i]?=some (V.bl (bs.getD i true)):=by
   rw[List.getElem?_map,List.getD_eq_getElem?_getD,List.getElem?_eq_getElem (by lia)]
   rfl
  obtain⟨u',e',ru⟩:=r.get e
  rw[hv']at e'
  obtain rfl:=Option.some.inj e'
  obtain rfl:v=Value.bool (bs.getD i true):=ru
  exact wpAny_truthy_bool hQ
 ·intro h' tk hk
  refine⟨.bl (bs.all id),H,I.kept (t':=tk) fun c o e=>hk c o ?_ (Heap.get?_push_of_some _ e),?_,q⟩
  ·exact fun z=>Nat.ne_of_lt (Heap.lt_size e) (List.mem_singleton.mp z)
  ·show Value.bool _=Value.bool _
   congr 1
   rw[List.size_toArray,hl,Bool.eq_iff_iff,List.all_eq_true,List.all_eq_true]
   constructor
   ·intro h x hx
    obtain⟨j,hj,e⟩:=List.getElem_of_mem hx
    have at_j:=h j (List.mem_range.mpr hj)
    rw[List.getD_eq_getElem?_getD,List.getElem?_eq_getElem hj]at at_j
    rw[← e];exact at_j
   ·intro h j hj
    rw[List.getD_eq_getElem?_getD,List.getElem?_eq_getElem (List.mem_range.mp hj)]
    exact h _ (List.getElem_mem _)
theorem wt:CallR X (.builtin "isinstance") (fun vs H Q=>∃ x T t k,vs=[x,.ty T]∧TyOf X.K H x t∧PySem.W.kitOne X.K t (.type T)=some k∧Q (.bl k) H):=by
 intro pins s σ H vs us Q I rv h
 obtain⟨x,T,t,k,rfl,ht,hk,q⟩:=h
 obtain⟨u,v,rfl,ru,rv'⟩:=rv.two
 cases (show v=Value.type T from rv')
 exact mO I ru ht hk fun tk=>⟨.bl k,H,I.tok tk,rfl,q⟩
end
example (K:PySem.W.Frag):PySem.W.kitOne K (.type "int") (.type "tuple")=some false:=by rfl
example (K:PySem.W.Frag):PySem.W.kitOne K (.type "int") (.type "bool")=some false:=by first|rfl|decide|(with_unfolding_all rfl)
theorem zC {H:Hp}{p:Addr}(h:H p=none) (o:HO):Same H (upd H p o):=fun b u q=>by rw[zH (zG q h)];exact q
def eU (N N':List Str) (sc scope:Scope) (cap:List (Option Nat)):Bool :=
 decide (scope.kind=.function) && (scope.names.all fun y=>decide (y.2≠.cell) && (decide (y.2≠.local) || decide (scope.names.lookup y.1=some .local)) &&
  (decide (y.2≠.free) || (decide (sc.names.lookup y.1=some .cell) || decide (sc.names.lookup y.1=some .free)))) && decide (cap.length=N'.length) &&
 ((N'.zip cap).all fun p=>match p.2 with
  | none=>true
  | some i=>decide (N[i]?=some p.1) && (decide (scope.names.lookup p.1=some .free) && (decide (sc.names.lookup p.1=some .cell) || decide (sc.names.lookup p.1=some .free))))
theorem CapOk.of {N N':List Str}{sc scope:Scope}{cap:List (Option Nat)}(h:eU N N' sc scope cap=true):CapOk N N' sc scope cap:=by
 unfold eU at h
 simp only[Bool.and_eq_true,List.all_eq_true,Bool.or_eq_true,decide_eq_true_eq]at h
 obtain⟨⟨⟨h1,h2⟩,h3⟩,h4⟩:=h;refine⟨h1,fun y hy=>(h2 y hy).1.1,fun y hy e=>?_,fun y hy e=>?_,h3,fun p hp i e=>?_⟩
 ·rcases (h2 y hy).1.2 with z|z
  ·exact absurd e z
  ·exact z
 ·rcases (h2 y hy).2 with z|z
  ·exact absurd e z
  ·exact z
 ·have q:=h4 p hp
  rw[e]at q
  simp only[Bool.and_eq_true,Bool.or_eq_true,decide_eq_true_eq]at q
  exact q
def Nx (n i:Nat) (p:Prop):Prop:=∃ m',m'<n-i∧m'=n-(i+1)∧i+1≤n∧p
theorem nx {n i:Nat}{p:Prop}(h:i<n) (q:p):Nx n i p:=⟨n-(i+1),by lia,rfl,h,q⟩
theorem uL {lo:Int}{n:Nat}{g:TG}{te:TE}{l:Addr}{σ:St}{H:Hp}{Q:VK}(Pv:Nat→List V→St→Hp→Prop) (h0:Pv 0 [] σ H) (hl:∀ i acc σ H,Pv i acc σ H→H l=some (.lst acc))
  (hs:∀ i acc σ H,i<n→Pv i acc σ H→g (.int (lo+i)) σ H fun σ3 H3=>te σ3 H3 fun y H5=>H5 l=some (.lst acc)∧acc.length<sizeLine∧Nx n i (Pv (i+1) (acc++[y]) σ3 (upd H5 l (.lst (acc++[y])))))
  (hd:∀ acc σ H,Pv n acc σ H→Q (.ref l) H):∃ W:Nat→Nat→List V→St→Hp→Prop,(∃ m,W 0 m [] σ H)∧LCW (Itr lo n) g lB te l Q W:=by
 refine⟨fun i m acc σ H=>m=n-i∧i≤n∧Pv i acc σ H,⟨n,by simp,Nat.zero_le _,h0⟩,?_⟩
 rintro i m acc σ H ⟨rfl,hi,p⟩
 refine⟨hl i acc σ H p,?_⟩
 by_cases hlt:i<n
 ·refine .inr ⟨hlt,fun x H2 ⟨e,y⟩=>?_⟩
  subst e y
  exact hs i acc σ _ hlt p
 ·have e:i=n:=by lia
  subst e
  exact .inl ⟨Nat.le_refl _,hd acc σ H p⟩
theorem qD {K:PySem.W.Frag}{b:Bool}{a:Addr}{xs:List V}{g:TG}{tb:TS}{D:Ends}{σ:St}{H:Hp}(Pv:Nat→St→Hp→Prop) (h0:Pv 0 σ H) (hl:∀ i σ H,i≤xs.length→Pv i σ H→SqB b K H a xs)
  (hs:∀ i x σ H T,xs[i]?=some x→H T=none→Pv i σ H→g (.ref T) σ (upd H T (.tup [.int i,x])) fun σ2 H2=>tb { D with nx:=Pv (i+1),ct:=Pv (i+1),bk:=D.nx } σ2 H2) (hd:∀ σ H,Pv xs.length σ H→D.nx σ H) :
  ∃ W:Nat→Nat→St→Hp→Prop,(∃ m,W 0 m σ H)∧∀ i m σ H,W i m σ H →
   ((Ite K b a).stop i H∧D.nx σ H)∨((Ite K b a).go i H∧∃ N:St→Hp→Prop,(∀ σ' H',N σ' H'→∃ m',m'<m∧W (i+1) m' σ' H')∧∀ x H',(Ite K b a).yld i H x H'→g x σ H' fun σ2 H2=>tb { D with nx:=N,ct:=N,bk:=D.nx } σ2 H2):=by
 refine⟨fun i m σ H=>m=xs.length-i∧i≤xs.length∧Pv i σ H,⟨xs.length,by simp,Nat.zero_le _,h0⟩,?_⟩
 rintro i m σ H ⟨rfl,hi,p⟩
 have q:=hl i σ H hi p
 by_cases hlt:i<xs.length
 ·refine .inr ⟨⟨xs,xs[i],q,List.getElem?_eq_getElem hlt⟩,Pv (i+1),fun σ' H' p'=>⟨xs.length-(i+1),by lia,rfl,hlt,p'⟩,fun x H' ⟨y,ey,T,hT,e1,e2⟩=>?_⟩
  subst e1 e2
  exact hs i y σ H T (ey xs q) hT p
 ·have e:i=xs.length:=by lia
  subst e
  exact .inl ⟨⟨xs,q,rfl⟩,hd σ H p⟩
section
variable {X:Cx}
theorem num_at {ns:List Int}{its:List Value}(r:Vals (ns.map V.int) its) {i:Nat}{v:Value}(h:its[i]?=some v):i<ns.length∧∃ t,v=.int (ns.getD i 0) t:=by
 have hl:its.length=ns.length:=by rw[← r.length,List.length_map]
 have hi:=(List.getElem?_eq_some_iff.mp h).1
 have e:(List.map V.int ns)[i]?=some (V.int (ns.getD i 0)):=by
  rw[List.getElem?_map,List.getD_eq_getElem?_getD,List.getElem?_eq_getElem (by lia)];rfl
 obtain⟨u',e',⟨t,rfl⟩⟩:=r.get e
 rw[h]at e'
 exact⟨by lia,t,Option.some.inj e'⟩
theorem xo {ns:List Int}{i:Nat}(h:i<ns.length):ns.getD i 0∈ns:=by
 rw[List.getD_eq_getElem?_getD,List.getElem?_eq_getElem h];exact List.getElem_mem h
theorem rg {ns:List Int}{x:Int}(h:x∈ns):∃ i,i<ns.length∧ns.getD i 0=x:=by
 obtain⟨i,hi,e⟩:=List.getElem_of_mem h
 exact⟨i,hi,by rw[List.getD_eq_getElem?_getD,List.getElem?_eq_getElem hi];exact e⟩
theorem vH (hc:X.calm=true) (b:Bool):CallR X (.builtin "max") (fun vs H Q=>∃ a ns,vs=[.ref a]∧SqB b X.K H a (List.map V.int ns)∧0<ns.length∧∀ M,M∈ns→(∀ x∈ns,x≤M)→Q (.int M) H):=by
 intro pins s σ H vs us Q I rv h
 obtain⟨a,ns,rfl,hq,hpos,q⟩:=h
 obtain⟨u,rfl,ru⟩:=rv.one
 cases ru
 obtain⟨its,r,p⟩:=I.sq hq
 obtain⟨o,n,eo,_⟩:=p.ob
 have hl:its.length=ns.length:=by rw[← r.length,List.length_map]
 refine call_max_walk (xI p ⟨s.heap.objs.size,[s.heap.objs.size,a],[s.heap.objs.size],_,_,_,fun i j=>decide (ns.getD i 0 > ns.getD j 0),rfl,ph (show X.A.in1.handled=none from I.ok.hd hc) b _ a (Nat.ne_of_lt (Heap.lt_size eo)) its.toArray,⟨?_,p.mv fun o e=>Heap.get?_push_of_some _ e⟩,fun c hm=>?_,by rw[List.size_toArray];lia,?_,?_⟩)
 ·cases b<;>exact⟨_,Heap.get?_push_size _ rfl,rfl,rfl⟩
 ·show c<(s.heap.push _).objs.size
  rw[Heap.size_push]
  rcases List.mem_cons.mp hm with z|z
  ·rw[z];exact Nat.lt_succ_self _
  ·rw[List.mem_singleton.mp z];exact Nat.lt_succ_of_lt (Heap.lt_size eo)
 ·intro i j vi vj s' Q' E' hi hj hQ
  obtain⟨_,t,rfl⟩:=num_at r (i:=i) (by simpa using hi)
  obtain⟨_,t',rfl⟩:=num_at r (i:=j) (by simpa using hj)
  exact gt_int hQ
 ·intro v h' tk hv hk
  have best:=argBest_gt (fun i=>ns.getD i 0) (its.toArray.size-1)
  obtain⟨li,t,rfl⟩:=num_at r (by simpa using hv)
  refine⟨.int _,H,I.kept (t':=tk) fun c o e=>hk c o (fun z=>Nat.ne_of_lt (Heap.lt_size e) (List.mem_singleton.mp z)) (Heap.get?_push_of_some _ e),⟨t,rfl⟩,q _ (xo li) fun x hx=>?_⟩
  obtain⟨j,hj,rfl⟩:=rg hx
  exact best.2 j (by rw[List.size_toArray];lia)
theorem wE (hc:X.calm=true) (b:Bool):CallR X (.builtin "min") (fun vs H Q=>∃ a ns,vs=[.ref a]∧SqB b X.K H a (List.map V.int ns)∧0<ns.length∧∀ M,M∈ns→(∀ x∈ns,M≤x)→Q (.int M) H):=by
 intro pins s σ H vs us Q I rv h
 obtain⟨a,ns,rfl,hq,hpos,q⟩:=h
 obtain⟨u,rfl,ru⟩:=rv.one
 cases ru
 obtain⟨its,r,p⟩:=I.sq hq
 obtain⟨o,n,eo,_⟩:=p.ob
 have hl:its.length=ns.length:=by rw[← r.length,List.length_map]
 refine call_min_walk (xI p ⟨s.heap.objs.size,[s.heap.objs.size,a],[s.heap.objs.size],_,_,_,fun i j=>decide (ns.getD i 0<ns.getD j 0),rfl,ph (show X.A.in1.handled=none from I.ok.hd hc) b _ a (Nat.ne_of_lt (Heap.lt_size eo)) its.toArray,⟨?_,p.mv fun o e=>Heap.get?_push_of_some _ e⟩,fun c hm=>?_,by rw[List.size_toArray];lia,?_,?_⟩)
 ·cases b<;>exact⟨_,Heap.get?_push_size _ rfl,rfl,rfl⟩
 ·show c<(s.heap.push _).objs.size
  rw[Heap.size_push]
  rcases List.mem_cons.mp hm with z|z
  ·rw[z];exact Nat.lt_succ_self _
  ·rw[List.mem_singleton.mp z];exact Nat.lt_succ_of_lt (Heap.lt_size eo)
 ·intro i j vi vj s' Q' E' hi hj hQ
  obtain⟨_,t,rfl⟩:=num_at r (i:=i) (by simpa using hi)
  obtain⟨_,t',rfl⟩:=num_at r (i:=j) (by simpa using hj)
  exact lt_int hQ
 ·intro v h' tk hv hk
  have best:=argBest_lt (fun i=>ns.getD i 0) (its.toArray.size-1)
  obtain⟨li,t,rfl⟩:=num_at r (by simpa using hv)
  refine⟨.int _,H,I.kept (t':=tk) fun c o e=>hk c o (fun z=>Nat.ne_of_lt (Heap.lt_size e) (List.mem_singleton.mp z)) (Heap.get?_push_of_some _ e),⟨t,rfl⟩,q _ (xo li) fun x hx=>?_⟩
  obtain⟨j,hj,rfl⟩:=rg hx
  exact best.2 j (by rw[List.size_toArray];lia)
end
end L2
namespace Own
open PySem PySem.Spec PyProof.Rows
section
variable {prog:Program}{w:World}{A:Around}{E:Value→Shared→Prop}{s:Shared}
end
end Own
namespace L2
open PySem PySem.Spec PyProof.Rows Own
section
variable {X:Cx}
end
section
variable {X:Cx}
theorem sM:OpR X (compareOp .IsNot) (fun x y H Q=>∃ c d:Bool,x=.bl c∧y=.bl d∧Q (.bl (!(c == d))) H):=by
 intro pins s σ H x y v u Q I rx ry h
 obtain⟨c,d,rfl,rfl,q⟩:=h
 cases rx;cases ry
 exact wpAny_isNot_plain rfl (zr I q (by cases c<;>cases d<;>rfl))
end
theorem xk {K:PySem.W.Frag}{a:Addr}{xs:List V}{g:TG}{te:TE}{l:Addr}{σ:St}{H:Hp}{Q:VK}(Pv:Nat→List V→St→Hp→Prop) (h0:Pv 0 [] σ H) (hl:∀ i acc σ H,Pv i acc σ H→H l=some (.lst acc)∧SqT K H a xs)
  (hs:∀ i x acc σ H,xs[i]?=some x→Pv i acc σ H→g x σ H fun σ3 H3=>te σ3 H3 fun y H5=>H5 l=some (.lst acc)∧acc.length<sizeLine∧Nx xs.length i (Pv (i+1) (acc++[y]) σ3 (upd H5 l (.lst (acc++[y])))))
  (hd:∀ acc σ H,Pv xs.length acc σ H→Q (.ref l) H):∃ W:Nat→Nat→List V→St→Hp→Prop,(∃ m,W 0 m [] σ H)∧LCW (Itt K a) g lB te l Q W:=by
 refine⟨fun i m acc σ H=>m=xs.length-i∧i≤xs.length∧Pv i acc σ H,⟨_,rfl,Nat.zero_le _,h0⟩,?_⟩
 rintro i m acc σ H ⟨rfl,hi,p⟩
 obtain⟨q0,q1⟩:=hl i acc σ H p
 refine⟨q0,?_⟩
 by_cases hlt:i<xs.length
 ·refine .inr ⟨⟨xs,xs[i],q1,List.getElem?_eq_getElem hlt⟩,fun x H2 ⟨e,y⟩=>?_⟩
  subst e
  exact hs i x acc σ _ (y xs q1) p
 ·obtain rfl:i=xs.length:=by lia
  exact .inl ⟨⟨xs,q1,Nat.le_refl _⟩,hd acc σ H p⟩
theorem vc {K:PySem.W.Frag}{a:Addr}{xs:List V}{g:TG}{te:TE}{l:Addr}{σ:St}{H:Hp}{Q:VK}(Pv:Nat→List V→St→Hp→Prop) (h0:Pv 0 [] σ H) (hl:∀ i acc σ H,Pv i acc σ H→H l=some (.lst acc)∧SqL K H a xs)
  (hs:∀ i x acc σ H,xs[i]?=some x→Pv i acc σ H→g x σ H fun σ3 H3=>te σ3 H3 fun y H5=>H5 l=some (.lst acc)∧acc.length<sizeLine∧Nx xs.length i (Pv (i+1) (acc++[y]) σ3 (upd H5 l (.lst (acc++[y])))))
  (hd:∀ acc σ H,Pv xs.length acc σ H→Q (.ref l) H):∃ W:Nat→Nat→List V→St→Hp→Prop,(∃ m,W 0 m [] σ H)∧LCW (Itl K a) g lB te l Q W:=by
 refine⟨fun i m acc σ H=>m=xs.length-i∧i≤xs.length∧Pv i acc σ H,⟨_,rfl,Nat.zero_le _,h0⟩,?_⟩
 rintro i m acc σ H ⟨rfl,hi,p⟩
 obtain⟨q0,q1⟩:=hl i acc σ H p
 refine⟨q0,?_⟩
 by_cases hlt:i<xs.length
 ·refine .inr ⟨⟨xs,xs[i],q1,List.getElem?_eq_getElem hlt⟩,fun x H2 ⟨e,y⟩=>?_⟩
  subst e
  exact hs i x acc σ _ (y xs q1) p
 ·obtain rfl:i=xs.length:=by lia
  exact .inl ⟨⟨xs,q1,Nat.le_refl _⟩,hd acc σ H p⟩
theorem mD {lo:Int}{n:Nat}{g:TG}{tt:TT}{te:TE}{l:Addr}{σ:St}{H:Hp}{Q:VK}(Pv:Nat→List V→St→Hp→Prop) (h0:Pv 0 [] σ H) (hl:∀ i acc σ H,Pv i acc σ H→H l=some (.lst acc))
  (hs:∀ i acc σ H,i<n→Pv i acc σ H→g (.int (lo+i)) σ H fun σ3 H3=>tt σ3 H3 fun b H4=>if b=true then te σ3 H4 fun y H5=>H5 l=some (.lst acc)∧acc.length<sizeLine∧Nx n i (Pv (i+1) (acc++[y]) σ3 (upd H5 l (.lst (acc++[y])))) else Nx n i (Pv (i+1) acc σ3 H4))
  (hd:∀ acc σ H,Pv n acc σ H→Q (.ref l) H):∃ W:Nat→Nat→List V→St→Hp→Prop,(∃ m,W 0 m [] σ H)∧LCW (Itr lo n) g tt te l Q W:=by
 refine⟨fun i m acc σ H=>m=n-i∧i≤n∧Pv i acc σ H,⟨_,rfl,Nat.zero_le _,h0⟩,?_⟩
 rintro i m acc σ H ⟨rfl,hi,p⟩
 refine⟨hl i acc σ H p,?_⟩
 by_cases hlt:i<n
 ·refine .inr ⟨hlt,fun x H2 ⟨e,y⟩=>?_⟩
  subst e y
  exact hs i acc σ _ hlt p
 ·obtain rfl:i=n:=by lia
  exact .inl ⟨Nat.le_refl _,hd acc σ H p⟩
end L2
namespace L2
open PySem PySem.Spec PyProof.Rows PySem.Calls PySem.NumText Own
section
variable {X:Cx}
end
end L2
namespace L2
open PySem PySem.Spec PyProof.Rows Own
section
variable {prog:Program}{w:World}{A:Around}{E:Value→Shared→Prop}{s:Shared}
theorem qL {Q:List Value→Shared→Prop}{r:Addr}{a b c:Int}{t u v:Tok}{n:Nat}(hh:A.handled=none) (hr:IsRange s.heap r a b c t u v) (sm:Builtin.Range.small a b c=true) (hn:Builtin.Range.rangeSize a b c=n) (hlen:n≤2 ^ 24)
  (q:∀ (h':Heap) (tk:Nat) (acc:Array Value),(∀ b o,s.heap.get? b=some o→h'.get? b=some o)→ItemsOf (fun i v=>∃ t,v=.int (a+i*c) t) acc n→Q acc.toList { s with heap:=h',toks:=tk }):wpAny (model prog w) A (collect (.ref r)) Q E s:=by
 have key:∀ R:Result→Shared→Prop,(∀ (h':Heap) (tk:Nat) (acc:Array Value) (c':Nat),(∀ b o,s.heap.get? b=some o→h'.get? b=some o)→h'.get? s.heap.objs.size=some { cls:=.type "list",data:=.seq acc c' }→ItemsOf (fun i v=>∃ t,v=.int (a+i*c) t) acc n→R (.ok (.ret (.ref s.heap.objs.size))) { s with heap:=h',toks:=tk }) →
   codeAny (model prog w) A (.builtin "proto.collect" ⟨[.ref r],[]⟩) R s:=by
  intro R hR
  have u1:=fun z=>Around.under_plainId (A:=A) F.plain_proto_collect z
  have u2:=fun z=>Around.under_plainId (A:=A) F.plain_list_iadd z
  refine codeAny_builtin F.entry_proto_collect ?_
  rw[u1]
  refine wpAny_bind (m:=newList []) (wpAny_newObj_type (wpAny_pure ⟨plainId_quiet F.plain_list_iadd _,codeAny_builtin F.entry_list_iadd ?_⟩))
  rw[u2]
  have e0:(s.heap.push { cls:=.type "list",data:=.seq ([]:List Value).toArray }).get? s.heap.objs.size=some { cls:=.type "list",data:=.seq #[] 0 }:=Heap.get?_push_size _ rfl
  exact wpAny_extend_range (s:={ s with heap:=s.heap.push { cls:=.type "list",data:=.seq ([]:List Value).toArray } }) hh (Heap.get?_push_of_some _ hr) sm hn hlen s.heap.objs.size (.ref s.heap.objs.size) _ e0 fun h' tk acc' c' kk e it=>hR h' tk acc' c' (fun b o z=>kk b o (Nat.ne_of_lt (Heap.lt_size z)) (Heap.get?_push_of_some _ z)) e it
 unfold collect
 exact wpAny_bind (wpAny_runValue (key _ fun h' tk acc c' kk e it=>wpAny_bind (m:=load s.heap.objs.size) (wpAny_load e (wpAny_pure (q h' tk acc kk it)))))
theorem uf (r:Addr) (a b c:Int) (t u v:Tok) (n:Nat) (sm:Builtin.Range.small a b c=true) (hn:Builtin.Range.rangeSize a b c=n) (hlen:n≤2 ^ 24) :
  Meets (Builtin.«tuple.__new__» ⟨[.type "tuple",.ref r],[]⟩) (fun A R s=>A.handled=none∧IsRange s.heap r a b c t u v∧∀ (h':Heap) (tk:Nat) (acc:Array Value),(∀ b o,s.heap.get? b=some o→h'.get? b=some o)→ItemsOf (fun i v=>∃ t,v=.int (a+i*c) t) acc n →
   R (.ok (.ret (.ref h'.objs.size))) { s with heap:=h'.push { cls:=.type "tuple",data:=.seq acc },toks:=tk }) :=
 .of_wp fun prog w A R s h=>by
  obtain⟨hh,hr,h⟩:=h
  have g1:=sub_tuple_self
  have g2:=init_tuple_lookup
  have g3:=madeHere_tuple
  have g4:s.TypeIs (.ref r) "range":=⟨_,hr,rfl⟩
  have g5:A.in1.handled=none:=hh
  wp_walk using wpAny_typeOf g4,qL g5 hr sm hn hlen
  intro h' tk acc kk it
  rw[show acc.toList.toArray=acc by simp]
  exact wpAny_bind (m:=Builtin.Tuple.tupleExact acc) (wpAny_newObj_type (wpAny_pure ⟨_,rfl,h h' tk acc kk it⟩) (by show acc.size≤sizeLine;rw[it.1,sizeLine_eq];exact hlen))
theorem sV {Q:Value→Shared→Prop}{r:Addr}{a b c:Int}{t u v:Tok}{n:Nat}(hh:A.handled=none) (hr:IsRange s.heap r a b c t u v) (sm:Builtin.Range.small a b c=true) (hn:Builtin.Range.rangeSize a b c=n) (hlen:n≤2 ^ 24)
  (q:∀ (h':Heap) (tk:Nat) (acc:Array Value),(∀ b o,s.heap.get? b=some o→h'.get? b=some o)→ItemsOf (fun i v=>∃ t,v=.int (a+i*c) t) acc n→Q (.ref h'.objs.size) { s with heap:=h'.push { cls:=.type "tuple",data:=.seq acc },toks:=tk }) :
  wpAny (model prog w) A (call (.type "tuple") [.ref r]) Q E s :=
 callType_new F.called_tuple (by decide) (F.typeCall_tuple_1 _) (F.newCall_tuple_1 _) (fun obj=>F.args_object_init_2 obj _) F.entry_tuple_new (uf r a b c t u v n sm hn hlen) ⟨hh,hr,fun h' tk acc kk it=>⟨⟨_,Heap.get?_push_size _ rfl,rfl⟩,q h' tk acc kk it⟩⟩
end
def sn (n:Nat):List V:=(List.range n).map fun (i:Nat)=>V.int i
theorem wJ {acc:Array Value}{n:Nat}(h:ItemsOf (fun i v=>∃ t,v=Value.int (0+i*1) t) acc n):Vals (sn n) acc.toList:=by
 obtain⟨h1,h2⟩:=h
 have go:∀ (l:List Value) (k:Nat),(∀ (j:Nat) (v:Value),l[j]?=some v→∃ t,v=Value.int ((k+j:Nat):Int) t)→Vals ((List.range l.length).map fun (i:Nat)=>V.int ((k+i:Nat):Int)) l:=by
  intro l
  induction l with
  | nil=>intro k _;exact .nil
  | cons x l ih =>
   intro k hx
   rw[List.length_cons,List.range_succ_eq_map,List.map_cons,List.map_map]
   refine .cons (by obtain⟨t,e⟩:=hx 0 x rfl;exact⟨t,e⟩) ?_
   have:=ih (k+1) fun j v hj=>by
    obtain⟨t,e⟩:=hx (j+1) v (by simpa using hj)
    exact⟨t,by rw[e];congr 1;lia⟩
   refine cast (congrArg (fun z=>Vals z l) (List.map_congr_left fun i _=>?_)) this
   show V.int ((k+1+i:Nat):Int)=V.int ((k+(i+1):Nat):Int)
   congr 2;lia
 have:=go acc.toList 0 fun j v hj=>by
  obtain⟨t,e⟩:=h2 j v (by simpa using hj)
  exact⟨t,by rw[e];congr 1;lia⟩
 rw[Array.length_toList,h1]at this
 unfold sn
 refine cast (congrArg (fun z=>Vals z acc.toList) (List.map_congr_left fun i _=>?_)) this
 show V.int ((0+i:Nat):Int)=V.int (i:Int)
 rw[Nat.zero_add]
theorem sk (n:Nat):(sn n).length=n:=by simp[sn]
section
variable {X:Cx}
def lC (b:Bool) (ta:TA):TE:=fun σ H Q=>ta σ H fun vs H1=>∃ j:Nat,vs=[.int j]∧j≤100000∧∀ l,H1 l=none→Q (.ref l) (upd H1 l (if b=true then .lst (sn j) else .tup (sn j)))
theorem sy {j:Nat}(h:j≤100000):Builtin.Range.small 0 (j:Int) 1=true:=small_one (by lia) (by lia) (by lia) (by lia)
theorem oB {j:Nat}:Builtin.Range.rangeSize 0 (j:Int) 1=((j:Nat):Int):=by rw[rangeSize_one];split<;>lia
theorem x6 {a:Expr}{ta:TA}{p p2 pos pos2:Pos}(hc:X.calm=true) (hgl:Gl X "list") (hml:X.mg "list" = none) (hgr:Gl X "range") (hmr:X.mg "range" = none) (ha:PA X [a] ta) (hs:starEach [a] X.env=[(false,eval a X.env)]:=by rfl)
  (hs2:starEach [.Call (.Name "range" p2) [a] [] pos2] X.env=[(false,eval (.Call (.Name "range" p2) [a] [] pos2) X.env)]:=by rfl):PE X (.Call (.Name "list" p) [.Call (.Name "range" p2) [a] [] pos2] [] pos) (lC true ta):=by
 intro pins s σ H Q I h
 refine wpAny_Call_Name_kw (xL I hgl hml (u:=.type "list") (by rfl) (PyProof.Rows.callWith_type1 ?_ hs2 rfl))
 rw[hs2]
 refine Calls.spliced_cons (Call_ (xL I hgr hmr boot_range (PyProof.Rows.callWith_type1 (thn (ha pos2 pins s σ H _ I h) fun us s1 ⟨vs,H1,I1,r1,q1⟩=>?_) hs rfl)))
 obtain⟨j,rfl,hj,q⟩:=q1
 obtain⟨u,rfl,t,rfl⟩:=r1.one
 refine call_range_1 (Calls.spliced_nil ?_)
 refine call_list_range (n:=j) (I1.ok.hd hc) (IsRange.new ..) (sy hj) oB (Nat.le_trans hj (by decide)) fun h' tk acc' c' kk e it=>?_
 have k2:∀ b o,s1.heap.get? b=some o→h'.get? b=some o:=fun b o z=>kk b o (Heap.get?_push_of_some _ z)
 refine⟨.ref _,_,I1.laid (t':=tk) (o:=.lst (sn j)) k2 ?_ ⟨by rw[sk];exact Nat.le_trans hj (by decide),acc'.toList,c',wJ it,by simpa using e⟩,rfl,q _ (I1.hok.fresh ?_)⟩
 all_goals (show s1.heap.objs.size≤(s1.heap.push _).objs.size;rw[Heap.size_push];exact Nat.le_succ _)
theorem vA {a:Expr}{ta:TA}{p p2 pos pos2:Pos}(hc:X.calm=true) (hgl:Gl X "tuple") (hml:X.mg "tuple" = none) (hgr:Gl X "range") (hmr:X.mg "range" = none) (ha:PA X [a] ta) (hs:starEach [a] X.env=[(false,eval a X.env)]:=by rfl)
  (hs2:starEach [.Call (.Name "range" p2) [a] [] pos2] X.env=[(false,eval (.Call (.Name "range" p2) [a] [] pos2) X.env)]:=by rfl):PE X (.Call (.Name "tuple" p) [.Call (.Name "range" p2) [a] [] pos2] [] pos) (lC false ta):=by
 intro pins s σ H Q I h
 refine wpAny_Call_Name_kw (xL I hgl hml (u:=.type "tuple") (by rfl) (PyProof.Rows.callWith_type1 ?_ hs2 rfl))
 rw[hs2]
 refine Calls.spliced_cons (Call_ (xL I hgr hmr boot_range (PyProof.Rows.callWith_type1 (thn (ha pos2 pins s σ H _ I h) fun us s1 ⟨vs,H1,I1,r1,q1⟩=>?_) hs rfl)))
 obtain⟨j,rfl,hj,q⟩:=q1
 obtain⟨u,rfl,t,rfl⟩:=r1.one
 refine call_range_1 (Calls.spliced_nil ?_)
 refine sV (n:=j) (I1.ok.hd hc) (IsRange.new ..) (sy hj) oB (Nat.le_trans hj (by decide)) fun h' tk acc kk it=>?_
 have k2:∀ b o,s1.heap.get? b=some o→h'.get? b=some o:=fun b o z=>kk b o (Heap.get?_push_of_some _ z)
 have I2:Inv X pins σ H1 { s1 with heap:=h',toks:=tk }:=I1.kept k2
 refine⟨.ref h'.objs.size,_,I2.laid (t':=tk) (o:=.tup (sn j)) (fun b o e=>Heap.get?_push_of_some _ e) (Nat.le_refl _) ⟨by rw[sk];exact Nat.le_trans hj (by decide),acc.toList,wJ it,?_⟩,rfl,q _ (I2.hok.fresh (Nat.le_refl _))⟩
 exact⟨_,Heap.get?_push_size _ rfl,rfl,0,by simp,rfl⟩
theorem sN (hu:X.A.units<cLine):OpR X (compareOp .NotEq) (fun x y H Q=>∃ a b xs,x=.ref a∧y=.ref b∧SqL X.K H a xs∧SqL X.K H b []∧Q (.bl (!xs.isEmpty)) H):=by
 intro pins s σ H x y v u Q I rx ry h
 obtain⟨a,b,xs,rfl,rfl,ha,hb,q⟩:=h
 cases rx;cases ry
 obtain⟨its,r1,p1,_⟩:=I.list ha
 obtain⟨jts,r2,p2,_⟩:=I.list hb
 cases r2
 have l1:=r1.length
 cases xs with
 | nil =>
  cases r1
  exact SeqAt.RcNeAt.lists (e:=fun _=>true) p1.isList p2.isList rfl hu (fun j h=>absurd h (Nat.not_lt_zero _)) X.prog X.w _ _ ⟨.bl _,H,I,rfl,q⟩
 | cons z zs =>
  exact SeqAt.RcNeAt.lists_lengths p1.isList p2.isList (by rw[List.size_toArray,← l1];simp) hu X.prog X.w _ _ ⟨.bl _,H,I,rfl,q⟩
end
section
variable {prog:Program}{w:World}{A:Around}{E:Value→Shared→Prop}{s:Shared}
end
section
variable {X:Cx}
end
theorem pM (l:Addr) (o:Obj) (items:Array Value) (n:Nat) (x:Value) (j:Nat) (hc:o.cls=.type "tuple") (hd:o.data=.seq items n) (e:Nat→Bool) (h0:∀ i,i<j→e i=false) (h1:e j=true) (hj:j<items.size) :
  Meets (Builtin.«tuple.index» ⟨[.ref l,x],[]⟩) (fun A R s=>s.heap.get? l=some o∧(∀ i (h:i<items.size),SeqAt.EqAt A.in1 s items[i] x (e i))∧R (.ok (.ret (.int j s.toks))) { s with toks:=s.toks+1 }) :=
 .of_wp fun prog w A R s h=>by
  cases s with
  | mk hp gs dr tk os =>
  obtain⟨hl,he,h⟩:=h
  unfold Builtin.«tuple.index»
  simp only[Std.Legacy.Range.forIn_eq_forIn_range']
  wp_walk using wpAny_seqItems hl hd,wpAny_forIn_list _ (fun rest b s'=>s'=⟨hp,gs,dr,tk,os⟩∧b.1=none∧∃ i,i≤j∧rest=List.range' i (items.size-i)) _
  case turn =>
   rintro i rest b s' ⟨rfl,hb,i',hi,hz⟩
   have hs:items.size-i'=(items.size-(i'+1))+1:=by lia
   rw[hs,List.range'_succ]at hz
   injection hz with e1 e2
   subst e1
   have il:i<items.size:=by lia
   have hg:items[i]?=some items[i]:=by simp[il]
   simp only[hg]
   refine wpAny_bind (he i il prog w _ _ ?_)
   by_cases q:i=j
   ·subst q;rw[h1];wp_walk;exact⟨_,rfl,h⟩
   ·rw[h0 i (by lia)];wp_walk;exact⟨rfl,rfl,i+1,by lia,e2⟩
  case fin =>
   rintro b s' ⟨rfl,hb,i',hi,hz⟩
   have:=congrArg List.length hz
   simp at this
   lia
  case h=>exact⟨rfl,rfl,0,Nat.zero_le _,by simp[Std.Legacy.Range.size]⟩
section
variable {X:Cx}
theorem uR:∀ {ns:List Int}{k:Int}{i:Nat},i<ns.idxOf k→(ns.getD i 0 == k)=false
 | [],k,i,h=>by simp at h
 | n::ns,k,i,h=>by
  rw[List.idxOf_cons]at h
  cases e:n == k with
  | true=>rw[e]at h;simp at h
  | false =>
   rw[e]at h
   simp only[cond_false]at h
   cases i with
   | zero=>exact e
   | succ i=>exact uR (ns:=ns) (i:=i) (by lia)
def g7 (to:TE) (t:TA):TE:=fun σ H Q=>to σ H fun x H1=>∃ a ns,x=.ref a∧H1 a=some (.tup (List.map V.int ns))∧t σ H1 fun vs H2=>∃ k:Int,vs=[.int k]∧H2 a=some (.tup (List.map V.int ns))∧k∈ns∧Q (.int (ns.idxOf k:Nat)) H2
theorem oJ {o e:Expr}{to:TE}{t:TA}{apos cpos:Pos}(hu:X.A.units+64<cLine) (ho:PE X o to) (ha:PA X [e] t)
  (hbase:attributeBase o "index" X.env (eval o X.env)=eval o X.env:=by rfl)
  (hfew:((backTo cpos (starEach [e] X.env)).all (fun x=>!x.1) && (backToKw cpos (keywordEach [] X.env)).all (fun x=>x.1.isSome) && decide ([e].length+([]:List Keyword).length+(if ([]:List Keyword).isEmpty then 0 else 1)<30))=true:=by rfl)
  (hline:(apos.endLine == cpos.line)=true:=by rfl) (hs:starEach [e] X.env=(false,eval e X.env)::starEach [] X.env:=by rfl):PE X (.Call (.Attribute o "index" apos) [e] [] cpos) (g7 to t):=by
 intro pins s σ H Q I h
 refine wpAny_Call_method_late hbase hfew hline rfl (thn (ho pins s σ H _ I h) fun v s1 ⟨x,H1,I1,r1,a,ns,ex,hx,q1⟩=>?_)
 subst ex
 cases r1
 obtain⟨_,its,_,⟨ob,eo,c1,n1,d1,nd⟩⟩:=(show ObjOk X.prog X.w H1 s1.heap a (.tup (List.map V.int ns)) from I1.hok a _ hx)
 refine⟨"tuple","tuple.index",PySem.F.plainAttrs_tuple,PySem.F.slot_tuple_index,PySem.F.type_tuple_index,⟨ob,eo,c1⟩,fun a' e'=>by cases e';exact⟨ob,eo,nd⟩,?_⟩
 have hA:=ha cpos pins s1 σ H1 _ I1 q1
 rw[hs]at hA ⊢
 refine Calls.callWith_builtin rfl (Calls.evalArgs_plain ?_)
 refine thn hA fun us s2 ⟨vs,H2,I2,r2,k,ev,hx2,km,q⟩=>?_
 subst ev
 obtain⟨u,rfl,tk,rfl⟩:=r2.one
 obtain⟨_,jts,rj,⟨ob2,eo2,c2,n2,d2,nd2⟩⟩:=(show ObjOk X.prog X.w H2 s2.heap a (.tup (List.map V.int ns)) from I2.hok a _ hx2)
 have hlen:jts.toArray.size=ns.length:=by rw[List.size_toArray,← rj.length,List.length_map]
 have hj:=List.idxOf_lt_length_of_mem km
 refine call_meets PySem.F.slot_tuple_index ⟨ob2,eo2,c2⟩ PySem.F.entry_tuple_index (PySem.F.args_tuple_index_2 _ _)
  (pM a ob2 jts.toArray n2 (.int k tk) (ns.idxOf k) c2 d2 (fun i=>ns.getD i 0 == k) (fun i hi=>?_) ?_ (by rw[hlen];exact hj)) ⟨eo2,fun i hi=>?_,?_⟩
 ·exact uR hi
 ·rw[List.getD_eq_getElem?_getD,List.getElem?_eq_getElem hj]
  simp
 ·have hi':i<ns.length:=by rw[← hlen];exact hi
  obtain⟨w1,e1,t1,rfl⟩:=rj.get (show (List.map V.int ns)[i]?=some (V.int (ns.getD i 0)) by rw[List.getElem?_map,List.getD_eq_getElem?_getD,List.getElem?_eq_getElem hi'];rfl)
  have g1:jts.toArray[i]=.int (ns.getD i 0) t1:=by simpa using (List.getElem?_eq_some_iff.mp e1).2
  rw[g1]
  exact(MeetsSeq.EqGives.int _ _ _ _).at _ _
 ·exact⟨.int _,H2,I2.tok _,⟨_,rfl⟩,q⟩
end
theorem rX:fillsNumberSlot (.type "tuple") "mul" = pure false :=
 PySem.fillsNumberSlot_seq (id:="tuple.__mul__") (r:=some (.builtin "tuple.__rmul__")) F.slot_tuple_mul.lookup (by decide +kernel) F.slot_tuple_rmul.lookup (by decide +kernel)
theorem qz:seqRepeat? (.type "tuple")=pure (some (.builtin "tuple.__mul__")):=by
 unfold seqRepeat?;rw[PySem.seqSlot_of (T:="tuple") (name:="__mul__") (id:="tuple.__mul__") F.slot_tuple_mul.lookup (by decide +kernel),PySem.seqSlot_of (T:="tuple") (name:="__rmul__") (id:="tuple.__rmul__") F.slot_tuple_rmul.lookup (by decide +kernel)];rfl
theorem jI (a:Int) (t:Tok) (l:Addr) (dd:Option Addr) (sl:Array (Option Value)) (items:Array Value) (n:Nat) :
  Meets (Builtin.«int.__rmul__» ⟨[.int a t,.ref l],[]⟩) (fun _ R s=>s.heap.get? l=some { cls:=.type "tuple",dict:=dd,data:=.seq items n,slots:=sl }∧R (.ok (.ret Value.notImplemented)) s) :=
 .of_wp fun prog w A R s h=>by
  cases s;obtain⟨hl,h⟩:=h
  wp_walk using AutoSeq1.wpAny_loadPart' hl
  exact⟨_,rfl,h⟩
theorem pL (l:Addr) (o:Obj) (x:Value) (n k:Nat) (t:Tok) (hc:o.cls=.type "tuple") (hd:o.data=.seq #[x] n) (hk:k≤100000) :
  Meets (Builtin.«tuple.__mul__» ⟨[.ref l,.int k t],[]⟩) (fun _ R s=>s.heap.get? l=some o ∧
   (k=1→R (.ok (.ret (.ref l))) s)∧(k≠1→R (.ok (.ret (.ref s.heap.objs.size))) { s with heap:=s.heap.push { cls:=.type "tuple",data:=.seq (List.replicate k x).toArray } })) :=
 .of_wp fun prog w A R s h=>by
  cases s with
  | mk hp gs dr tk os =>
  obtain⟨hl,g1,g2⟩:=h
  have ty:Shared.TypeIs ⟨hp,gs,dr,tk,os⟩ (.ref l) "tuple":=⟨o,hl,hc⟩
  wp_walk using wpAny_seqItems hl hd,wpAny_typeOf ty
  have c1:¬(decide ((k:Int) < -2 ^ 63) || decide ((k:Int)≥2 ^ 63))=true:=by
   rw[decide_eq_false (by lia),decide_eq_false (by lia)];exact Bool.false_ne_true
  rw[if_neg c1]
  wp_walk using wpAny_seqItems hl hd,wpAny_typeOf ty
  by_cases k1:k=1
  ·have c2:((#[x]:Array Value).isEmpty || (k:Int) == 1)=true:=by subst k1;rfl
   rw[if_pos c2]
   wp_walk using wpAny_typeOf ty
   exact⟨_,rfl,g1 k1⟩
  ·have c2:¬((#[x]:Array Value).isEmpty || (k:Int) == 1)=true:=by
    have:((k:Int) == 1)=false:=by rw[beq_eq_false_iff_ne];lia
    rw[this];exact Bool.false_ne_true
   rw[if_neg c2]
   have fl:∀ (m:Nat) (acc:Array Value),(List.foldl (fun x1 x2=>x1++x2) acc (List.replicate m #[x]))=acc++(List.replicate m x).toArray:=fun m=>by
    induction m with
    | zero=>intro acc;simp
    | succ m ih=>intro acc;rw[List.replicate_succ,List.foldl_cons,ih,List.replicate_succ];apply Array.ext';simp
   by_cases k0:k=0
   ·subst k0
    have c3:(decide (((0:Nat):Int)≤0) || (#[x]:Array Value).isEmpty)=true:=rfl
    rw[if_pos c3]
    wp_walk
    exact⟨_,rfl,g2 (by decide)⟩
   ·have c3:¬(decide ((k:Int)≤0) || (#[x]:Array Value).isEmpty)=true:=by
     rw[decide_eq_false (by lia)];exact Bool.false_ne_true
    have c4:¬(((#[x]:Array Value).size:Int)*(k:Int) > (2 ^ 63-1) / 8):=by
     show ¬((1:Int)*(k:Int) > (2 ^ 63-1) / 8)
     lia
    have c5:¬ Builtin.Tuple.tupleTooMany (((#[x]:Array Value).size:Int)*(k:Int))=true:=by
     unfold Builtin.Tuple.tupleTooMany
     show ¬ decide ((1:Int)*(k:Int) > (sizeLine:Int))=true
     rw[decide_eq_false (by rw[sizeLine_eq];lia)];exact Bool.false_ne_true
    rw[if_neg c3,if_neg c4,if_neg c5,Int.toNat_natCast,fl]
    refine wpAny_bind (m:=Builtin.Tuple.tupleExact _) (wpAny_newObj_type (wpAny_pure ⟨_,rfl,?_⟩) ?_)
    ·have e:(#[]++(List.replicate k x).toArray:Array Value)=(List.replicate k x).toArray:=by simp
     rw[e];exact g2 k1
    ·show (#[]++(List.replicate k x).toArray:Array Value).size≤sizeLine
     rw[sizeLine_eq];simp;lia
section
variable {X:Cx}
theorem Vals.same {v:V}{u:Value}(r:RelV v u):∀ k:Nat,Vals (List.replicate k v) (List.replicate k u)
 | 0=>.nil
 | k+1=>by rw[List.replicate_succ,List.replicate_succ];exact .cons r (Vals.same r k)
theorem va:OpR X (binaryOp .Mult) (fun x y H Q=>∃ a v,∃ k:Nat,x=.ref a∧y=.int k∧H a=some (.tup [v])∧k≤100000∧∀ r H',Same H H'→H' r=some (.tup (List.replicate k v))→Q (.ref r) H'):=by
 intro pins s σ H x y vx vy Q I rx ry h
 obtain⟨a,v,k,rfl,rfl,ha,hk,q⟩:=h
 cases rx
 obtain⟨t,rfl⟩:=ry
 obtain⟨_,its,r,⟨⟨c,dd,d,sl⟩,eo,c1,n1,d1,nd⟩⟩:=(show ObjOk X.prog X.w H s.heap a (.tup [v]) from I.hok a _ ha)
 simp only at c1 d1 nd
 subst c1 d1 nd
 obtain⟨u,rfl,ru⟩:=r.one
 refine wpAny_binaryOp_repeat_ref (T:="tuple") (U:="int") (by decide) ⟨_,eo,rfl⟩ (fun s'=>typeIs_int s' k t) rX F.fills_int_mul F.slot_int_rmul qz F.slot_int_index.lookup
  (call_meets F.slot_int_rmul (typeIs_int s k t) F.entry_int_rmul (F.args_int_rmul_2 _ _) (jI k t a none sl _ n1)
   ⟨eo,rfl,⟨_,eo,rfl⟩,call_meets F.slot_tuple_mul ⟨_,eo,rfl⟩ F.entry_tuple_mul (F.args_tuple_mul_2 _ _) (pL a _ u n1 k t rfl rfl hk) ⟨eo,fun e=>?_,fun e=>?_⟩⟩)
 ·subst e
  exact⟨.ref a,H,I,rfl,q a H (Same.refl H) ha⟩
 ·have hz:(List.replicate k v).length≤sizeLine:=by rw[List.length_replicate,sizeLine_eq];lia
  exact⟨.ref s.heap.objs.size,_,I.laid (t':=s.toks) (o:=.tup (List.replicate k v)) (fun b ob z=>Heap.get?_push_of_some _ z) (Nat.le_refl _) ⟨hz,_,Vals.same ru k,TupX.new _ _⟩,rfl,q _ _ (zC (I.hok.fresh (Nat.le_refl _)) _) zD⟩
end
end L2
namespace Bn
open PySem L2 Own
def Tups (H H':Hp):Prop:=∀ a xs,H a=some (.tup xs)→H' a=some (.tup xs)
theorem Tups.trans {H H1 H2:Hp}(x:Tups H H1) (y:Tups H1 H2):Tups H H2:=fun a xs e=>y a xs (x a xs e)
theorem Tups.of {H H':Hp}(s:Same H H'):Tups H H':=fun a _ e=>s a _ e
theorem Tups.lst {H:Hp}{l:Addr}{xs ys:List V}(h:H l=some (.lst xs)):Tups H (upd H l (.lst ys)):=fun a zs e=>by
 rw[zH (by rintro rfl;rw[h]at e;cases e)];exact e
def But (l:Addr) (H H':Hp):Prop:=∀ b o,H b=some o→b≠l→H' b=some o
theorem But.trans {l:Addr}{H H1 H2:Hp}(x:But l H H1) (y:But l H1 H2):But l H H2:=fun b o e n=>y b o (x b o e n) n
theorem But.of {l:Addr}{H H1:Hp}(x:Same H H1):But l H H1:=fun b o e _=>x b o e
def Prs (H:Hp):List V→List (Nat × Nat)→Prop
 | [],[]=>True
 | p::ps,f::fs=>(∃ a,p=.ref a∧H a=some (.tup [.int f.1,.int f.2]))∧Prs H ps fs
 | _,_=>False
theorem Prs.tups {H H':Hp}(t:Tups H H'):∀ {ps:List V}{fs:List (Nat × Nat)},Prs H ps fs→Prs H' ps fs
 | [],[],_=>trivial
 | _::_,_::_,⟨⟨a,e,h⟩,r⟩=>⟨⟨a,e,t _ _ h⟩,r.tups t⟩
theorem Prs.len {H:Hp}:∀ {ps:List V}{fs:List (Nat × Nat)},Prs H ps fs→ps.length=fs.length
 | [],[],_=>rfl
 | _::_,_::_,⟨_,r⟩=>congrArg (· + 1) r.len
theorem Prs.add {H:Hp}{a:Addr}{f:Nat × Nat}(h:H a=some (.tup [.int f.1,.int f.2])):∀ {ps:List V}{fs:List (Nat × Nat)},Prs H ps fs→Prs H (ps++[.ref a]) (fs++[f])
 | [],[],_=>⟨⟨a,rfl,h⟩,trivial⟩
 | _::_,_::_,⟨x,r⟩=>⟨x,r.add h⟩
theorem Prs.get {H:Hp}:∀ {ps:List V}{fs:List (Nat × Nat)}{i:Nat}{p:V},Prs H ps fs→ps[i]?=some p→∃ a f,p=.ref a∧fs[i]?=some f∧H a=some (.tup [.int f.1,.int f.2])
 | [],[],_,_,_,e=>by simp at e
 | _::_,f::_,0,p,⟨⟨a,e1,h⟩,_⟩,e=>by
  have:_=p:=Option.some.inj e
  subst this
  exact⟨a,f,e1,rfl,h⟩
 | _::_,_::_,i+1,p,⟨_,r⟩,e=>r.get (i:=i) (by simpa using e)
structure Nt where
 lanes:Nat
 forks:List (Nat × Nat)
 ends:List Nat
structure Nt.Ok (N:Nt):Prop where
 l1:1≤N.lanes
 l16:N.lanes≤16
 fm:N.forks.length≤128
 fk:∀ f∈N.forks,f.1<N.lanes∧f.2<N.lanes∧f.1≠f.2
 en:N.ends.Perm (List.range N.lanes)
def zT (es:List Nat):List V:=es.map fun (e:Nat)=>V.int e
structure NetAt (H:Hp) (r fr er:Addr) (ps:List V) (N:Nt):Prop where
 net:H r=some (.tup [.int N.lanes,.ref fr,.ref er])
 forks:H fr=some (.tup ps)
 prs:Prs H ps N.forks
 ends:H er=some (.tup (zT N.ends))
theorem NetAt.tups {H H':Hp}{r fr er:Addr}{ps:List V}{N:Nt}(t:Tups H H') (h:NetAt H r fr er ps N):NetAt H' r fr er ps N:=⟨t _ _ h.net,t _ _ h.forks,h.prs.tups t,t _ _ h.ends⟩
def vK (st:List Int × List Int) (f:Nat × Nat):List Int × List Int :=
 ((st.1.set f.1 ((st.1.getD f.1 0+st.1.getD f.2 0+1) / 2)).set f.2 ((st.1.getD f.1 0+st.1.getD f.2 0) / 2),st.2++[(st.1.getD f.1 0+st.1.getD f.2 0)%2])
def wq (st:List Int × List Int) (fs:List (Nat × Nat)):List Int × List Int:=fs.foldl vK st
def vE (fs:List (Nat × Nat)) (cs:List Int):List Int × List Int:=wq (cs,[]) fs
def jG (N:Nt) (cs:List Int):List Int:=N.ends.map fun e=>(vE N.forks cs).1.getD e 0
theorem mW (fs:List (Nat × Nat)) (f:Nat × Nat) (cs:List Int):vE (fs++[f]) cs=vK (vE fs cs) f:=by
 unfold vE wq;rw[List.foldl_append];rfl
theorem nK (st:List Int × List Int) (f:Nat × Nat):(vK st f).1.length=st.1.length:=by simp[vK]
theorem wp:∀ (fs:List (Nat × Nat)) (st:List Int × List Int),(wq st fs).1.length=st.1.length∧(wq st fs).2.length=st.2.length+fs.length
 | [],st=>⟨rfl,rfl⟩
 | f::fs,st=>by
  have h:=wp fs (vK st f)
  refine⟨h.1.trans (nK st f),h.2.trans ?_⟩
  simp[vK];lia
theorem qE (fs:List (Nat × Nat)) (cs:List Int):(vE fs cs).1.length=cs.length:=(wp fs (cs,[])).1
theorem mV {fs:List (Nat × Nat)}{i:Nat}{f:Nat × Nat}(h:fs[i]?=some f) (cs:List Int):vE (fs.take (i+1)) cs=vK (vE (fs.take i) cs) f:=by
 have w:=List.getElem?_eq_some_iff.mp h;obtain⟨hi,e⟩:=w
 rw[List.take_succ_eq_append_getElem hi,mW,e]
theorem xY {cs:List Int}{i:Nat}(h:i<cs.length):atI (cs.map V.int) ((i:Nat):Int)=some (.int (cs.getD i 0)):=by
 refine yD ?_
 rw[List.getElem?_map,List.getD_eq_getElem?_getD,List.getElem?_eq_getElem h];rfl
theorem uO {α:Type}{xs:List α}{i:Nat}(h:i<xs.length):ixN xs.length ((i:Nat):Int)=some i:=by
 unfold ixN
 rw[if_pos (by lia),if_pos (by lia)];simp
theorem wf (cs:List Int) (i:Nat) (a:Int):(cs.map V.int).set i (.int a)=(cs.set i a).map V.int:=by rw[List.map_set]
structure Mgs (mg:Str→Option Value):Prop where
 len:mg "len" = none
 range:mg "range" = none
 tuple:mg "tuple" = none
 enum:mg "enumerate" = none
 abs:mg "abs" = none
 zip:mg "zip" = none
 isi:mg "isinstance" = none
 all:mg "all" = none
 sum:mg "sum" = none
 bool:mg "bool" = none
 int:mg "int" = none
 str:mg "str" = none
 max:mg "max" = none
 min:mg "min" = none
 sorted:mg "sorted" = none
 list:mg "list" = none
structure Use (P:Program) (w:World) (K:PySem.W.Frag) (mg:Str→Option Value) (base:Heap) (x:Str) (ps:List Str) (k:Nat) (sp:Sp) (f:Addr) (fd:FuncData):Prop where
 ok:FnOk P w K mg base CX0 k f fd ps sp
 b:Binds K fd ps []
 kp:PySem.W.keepIn K (.ref f)=true
 m:mg x=some (.ref f)
def qX:Sp:=fun vs H Q _=>∃ r fr er ps N c cs,vs=[.ref r,.ref c]∧Nt.Ok N∧NetAt H r fr er ps N∧H c=some (.tup (List.map V.int cs))∧cs.length=N.lanes ∧
 ∀ p H',Same H H'→H' p=some (.tup ((jG N cs).map V.int))→Q (.ref p) H'
def Frs (l:Addr) (H:Hp) (x:Addr):Prop:=∀ b o,H b=some o→b≠l→b≠x
theorem But.frs {l x:Addr}{H H1:Hp}(B:But l H H1) (h:H1 x=none):Frs l H x:=fun b o e n=>zG (B b o e n) h
theorem But.upd {l x:Addr}{H H1:Hp}{o:HO}(B:But l H H1) (f:Frs l H x):But l H (upd H1 x o):=fun b u e n=>by rw[zH (f b u e n)];exact B b u e n
theorem x5 {xs:List Nat}{v:Nat}(h:v<xs.length):∃ n,n∈xs∧atI (zT xs) ((v:Nat):Int)=some (.int n):=by
 refine⟨xs[v],List.getElem_mem h,yD ?_⟩
 unfold zT
 rw[List.getElem?_map,List.getElem?_eq_getElem h];rfl
theorem zc (es:List Nat):(zT es).length=es.length:=by simp[zT]
theorem rO {one d lanes:Nat}(h1:one<lanes) (h2:d+1<lanes):(one+1+d)%lanes<lanes∧one≠(one+1+d)%lanes:=by
 refine⟨Nat.mod_lt _ (by lia),fun e=>?_⟩
 by_cases z:one+1+d<lanes
 ·rw[Nat.mod_eq_of_lt z]at e;lia
 ·rw[Nat.mod_eq_sub_mod (by lia),Nat.mod_eq_of_lt (by lia)]at e;lia
def nm (ns:List Nat) (i:Nat):Nat:=ns.getD i 0
section
variable {ns:List Nat}{n:Nat}(pm:ns.Perm (List.range n))
include pm
end
def ren (ns:List Nat) (f:Nat × Nat):Nat × Nat:=(nm ns f.1,nm ns f.2)
def Nt.ren (N:Nt) (ns:List Nat):Nt:=⟨N.lanes,N.forks.map (Bn.ren ns),N.ends.map (nm ns)⟩
def Nt.again (N:Nt) (f:Nat × Nat):Nt:=⟨N.lanes,N.forks++[f],N.ends⟩
end Bn
namespace L2
open PySem PySem.Spec PyProof.Rows Own
section
variable {X:Cx}
end
section
variable {prog:Program}{w:World}{A:Around}{E:Value→Shared→Prop}{s:Shared}
theorem qA {t sl:Addr}{items:Array Value}{vl vu:Value}{lo hi:Option Int}{Q:Value→Shared→Prop}(ht:IsTup s.heap t items) (hs:s.heap.IsSliceOf sl vl vu .none) (pl:IsPart vl lo) (pu:IsPart vu hi)
  (e0:HT.sIx items.size 0 lo=0) (e1:HT.sIx items.size items.size hi=items.size) (h:Q (.ref t) s):wpAny (model prog w) A (getItem (.ref t) (.ref sl)) Q E s:=by
 obtain⟨os,hos,hcs,hds⟩:=id hs
 have hTs:s.TypeIs (.ref sl) "slice":=⟨os,hos,hcs⟩
 unfold getItem
 try with_reducible refine wpAny_holding ?_
 first|refine wpAny_bind (wpAny_pure ?_)|skip
 refine wpAny_bind (wpAny_sequenceKey ht.typeIs (by decide) (wpAny_bind (wpAny_callSpecial?_slot (name:=Str.ofString "__getitem__") ht.typeIs PyProof.Rows.slot_tuple_getitem (wpAny_call_entry PyProof.Rows.slot_tuple_getitem ht.typeIs PyProof.Rows.entry_tuple_getitem ?_ (PyProof.Rows.args_tuple_getitem _ _)))))
 show wpAny _ _ (Builtin.Tuple.tupleItemsOf (.ref t) >>= _) _ _ s
 refine wpAny_bind (tupleItemsOf_ ht (wpAny_bind (wpAny_typeOf hTs ?_)))
 rw[if_pos (by decide)]
 refine wpAny_bind (HT.sliceApplied_gen hs pl pu ?_)
 rw[e0,e1]
 show wpAny _ _ (if (((0:Nat):Int) == 0 && (1:Int) == 1 && (items.size-0) == items.size)=true then _ else _) _ _ s
 rw[if_pos (by simp)]
 refine wpAny_bind ?_
 unfold Builtin.Tuple.tupleIsExact
 refine wpAny_bind (wpAny_typeOf ht.typeIs (wpAny_pure ?_))
 rw[if_pos (by decide)]
 exact wpAny_bind (wpAny_rule (wpAny_pure ⟨_,rfl,wpAny_pure h⟩))
end
section
variable {X:Cx}
end
section
variable {prog:Program}{w:World}{A:Around}{R:Result→Shared→Prop}{I S:Addr}{fp wr:List Addr}{n:Nat}{P B:Nat→Value→Prop}{St:Nat→Heap→Prop}
end
section
variable {prog:Program}{w:World}{A:Around}{E:Value→Shared→Prop}{s:Shared}
end
section
variable {X:Cx}{e e2:Expr}{ta tb:TE}{p kp pos:Pos}
end
end L2
namespace K45
open PySem L2 Own Bn
def top (i:Nat):Stmt:=PySem.Challenge.pw_stairlanes_k45_places_taken.main.body.getD i (.Pass ⟨0,0,0,0⟩)
end K45
namespace L2
open PySem PySem.Spec PyProof.Rows Own
section
variable {X:Cx}
theorem yZ:OpR X (binaryOp .Add) (fun x y H Q=>∃ a b xs ys,x=.ref a∧y=.ref b∧H a=some (.tup xs)∧H b=some (.tup ys)∧xs.length+ys.length≤sizeLine∧∀ r H',Same H H'→H' r=some (.tup (xs++ys))→Q (.ref r) H'):=by
 intro pins s σ H x y v u Q I rx ry h
 obtain⟨a,b,xs,ys,rfl,rfl,ha,hb,hz,q⟩:=h
 by_cases hx:xs=[]
 ·subst hx
  cases rx;cases ry
  obtain⟨its,r1,p1,_⟩:=I.tuple (SqT.of ha)
  obtain⟨jts,r2,p2,_⟩:=I.tuple (SqT.of hb)
  cases r1
  obtain⟨⟨c1,d1,e1,sl1⟩,o1,c1',n1,e1'⟩:=p1
  obtain⟨⟨c2,d2,e2,sl2⟩,o2,c2',n2,e2'⟩:=p2
  simp only at c1' e1' c2' e2'
  subst c1' e1' c2' e2'
  refine concat_meets ⟨_,o1,rfl⟩ ⟨_,o2,rfl⟩ noFill_tuple_add seq_tuple_add PySem.F.slot_tuple_add PySem.F.entry_tuple_add (PySem.F.args_tuple_add_2 _ _) (tuple_addW0 a b #[] jts.toArray n1 n2 d1 d2 sl1 sl2 rfl) ⟨o1,o2,?_⟩
  exact⟨.ref b,H,I,rfl,q b H (Same.refl H) (by rw[List.nil_append];exact hb)⟩
 ·exact jn pins s σ H _ _ v u Q I rx ry ⟨a,b,xs,ys,rfl,rfl,SqT.of ha,SqT.of hb,hx,hz,fun e=>q a H (Same.refl H) (by rw[e,List.append_nil];exact ha),fun _ p hp=>q p _ (zC hp _) zD⟩
theorem yR:SlR X (fun x lo hi H Q=>∃ a xs,x=.ref a∧H a=some (.tup xs)∧∀ p H',Same H H'→H' p=some (.tup (xO xs lo hi))→Q (.ref p) H'):=by
 intro pins s σ H x v vl vu lo hi sl Q I rx hs pl pu h
 obtain⟨a,xs,rfl,hx,q⟩:=h
 by_cases hw:HT.sIx xs.length 0 lo=0∧HT.sIx xs.length xs.length hi=xs.length
 ·cases rx
  obtain⟨its,r,ht,hz⟩:=I.tuple (SqT.of hx)
  have hlen:its.toArray.size=xs.length:=by rw[List.size_toArray];exact r.length.symm
  refine⟨"tuple",_,PyProof.Rows.slot_tuple_getitem.lookup,ht.typeIs,qA ht hs pl pu (by rw[hlen];exact hw.1) (by rw[hlen];exact hw.2) ⟨.ref a,H,I,rfl,q a H (Same.refl H) ?_⟩⟩
  unfold xO
  rw[hw.1,hw.2,List.drop_zero,Nat.sub_zero,List.take_length]
  exact hx
 ·exact iy pins s σ H _ v vl vu lo hi sl Q I rx hs pl pu ⟨a,xs,rfl,SqT.of hx,hw,fun p hp=>q p _ (zC hp _) zD⟩
end
theorem uV (xs:List V) (i:Nat) (h:i≤xs.length):xO xs none (some (i:Int))=xs.take i:=by
 unfold xO
 rw[HT.sIx_none,HT.sIx_nat,List.drop_zero,Nat.sub_zero,Nat.min_eq_left h]
theorem uW (xs:List V) (i:Nat) (h:i≤xs.length):xO xs (some (i:Int)) none=xs.drop i:=by
 unfold xO
 rw[HT.sIx_none,HT.sIx_nat,Nat.min_eq_left h]
 exact List.take_of_length_le (by rw[List.length_drop];exact Nat.le_refl _)
section
variable {X:Cx}
end
theorem um {h:Heap}:∀ (vs:List Value) (ds:List PyData),vs.length=ds.length→(∀ (j:Nat) (v:Value) (d:PyData),vs[j]?=some v→ds[j]?=some d→∃ as,Reads h v d as)→∃ as,ReadsAll h vs ds as
 | [],[],_,_=>⟨_,.nil⟩
 | v::vs,d::ds,hl,q=>by
  obtain⟨as,r⟩:=q 0 v d rfl rfl
  obtain⟨bs,r'⟩:=um vs ds (by simpa using hl) fun j v' d' e1 e2=>q (j+1) v' d' (by simpa using e1) (by simpa using e2)
  exact⟨_,.cons r r'⟩
section
variable {X:Cx}
end
theorem vJ (ts:List Str):(tupleText ts).length≤piled ts+3:=by
 unfold tupleText;rw[strLen_append,strLen_append]
 have e1:(("(":String):Str).length=1:=rfl
 have e3:(((if ts.length == 1 then ",)" else ")":String):Str)).length≤2:=by split<;>decide
 rw[e1]
 by_cases h:ts=[]
 ·subst h
  have:(Str.join ", " ([]:List Str)).length=0:=rfl
  lia
 ·have jl:=join_length_add ts h
  lia
theorem uF {m:Nat}:∀ {ts:List Str},(∀ t∈ts,t.length≤m)→piled ts≤ts.length*(m+2)
 | [],_=>Nat.zero_le _
 | t::ts,h=>by
  have a:=h t List.mem_cons_self
  have b:=uF (ts:=ts) fun x hx=>h x (List.mem_cons_of_mem _ hx)
  rw[piled_cons,List.length_cons,Nat.add_one_mul]
  lia
end L2
namespace L2
open PySem PySem.Spec PyProof.Rows PySem.Calls PySem.NumText Own
section
variable {prog:Program}{w:World}{A:Around}{E:Value→Shared→Prop}{s:Shared}
end
section
variable {X:Cx}
end
end L2
namespace L2
open PySem PySem.Spec PyProof.Rows Own
section
variable {X:Cx}
end
def AnyT (K:PySem.W.Frag) (H:Hp) (x:V):Prop:=∃ T,TyOf K H x T∧∃ t:String,T=.type t
def tR:V→Bool
 | .int _=>true
 | _=>false
def wT (b:Int):V→Bool
 | .int i=>decide (0≤i) && decide (i<b)
 | _=>false
def y4 (b:Int):V→Bool
 | .int i=>decide (b≤i)
 | _=>false
def zw (H:Hp):V→Option (List V)
 | .ref a=>match H a with
  | some (.tup xs)=>some xs
  | _=>none
 | _=>none
def xb (H:Hp) (m:Int) (x:V):Bool:=match zw H x with
 | some xs=>decide ((xs.length:Int)=m)
 | none=>false
theorem zy {H:Hp}{a:Addr}{xs:List V}(h:H a=some (.tup xs)):zw H (.ref a)=some xs:=by
 show (match H a with
  | some (.tup xs)=>some xs
  | _=>none)=_
 rw[h]
theorem yI {H:Hp}{x:V}{xs:List V}(h:zw H x=some xs):∃ a,x=.ref a∧H a=some (.tup xs):=by
 cases x with
 | ref a =>
  refine⟨a,rfl,?_⟩
  cases z:H a with
  | none=>simp[zw,z]at h
  | some o=>cases o<;>simp[zw,z]at h;rw[h]
 | _=>cases h
theorem vd (i j:Int):decide (V.int i=V.int j)=decide (i=j):=by
 by_cases e:i=j
 ·rw[decide_eq_true e,decide_eq_true (congrArg V.int e)]
 ·rw[decide_eq_false e,decide_eq_false (fun z=>e (V.int.inj z))]
theorem AnyT.same {K:PySem.W.Frag}{H H':Hp}{x:V}(s:∀ b o,H b=some o→H' b=some o) (h:AnyT K H x):AnyT K H' x:=by
 obtain⟨T,h,t,et⟩:=h
 cases h with
 | non=>exact⟨_,.non,_,rfl⟩
 | bl b=>exact⟨_,.bl b,_,rfl⟩
 | int i=>exact⟨_,.int i,_,rfl⟩
 | str x=>exact⟨_,.str x,_,rfl⟩
 | flt x=>exact⟨_,.flt x,_,rfl⟩
 | lst e=>exact⟨_,.lst (s _ _ e),_,rfl⟩
 | frz e=>exact⟨_,.frz (s _ _ e),_,rfl⟩
 | tup e=>exact⟨_,.tup (s _ _ e),_,rfl⟩
 | dK e=>exact⟨_,.dK (s _ _ e),_,rfl⟩
 | dT e=>exact⟨_,.dT (s _ _ e),_,rfl⟩
 | ins e _ _ _ _ _=>cases et
structure Isi (K:PySem.W.Frag) (H:Hp) (x:V) (t:Value):Prop where
 ty:TyOf K H x t
 int:PySem.W.kitOne K t (.type "int")=some (match x with|.int _=>true|.bl _=>true|_=>false)
 bool:PySem.W.kitOne K t (.type "bool")=some (match x with|.bl _=>true|_=>false)
 str:PySem.W.kitOne K t (.type "str")=some (match x with|.str _=>true|_=>false)
 tup:PySem.W.kitOne K t (.type "tuple")=some (zw H x).isSome
theorem gf {K:PySem.W.Frag}{H:Hp}{x:V}{T:Value}(h:TyOf K H x T) (et:∃ t,T=.type t):Isi K H x T:=by
 cases h with
 | ins e _ _ _ _ _=>obtain⟨t,et⟩:=et;cases et
 | lst e=>exact⟨.lst e,rfl,rfl,rfl,by simp only[zw,e];rfl⟩
 | frz e=>exact⟨.frz e,rfl,rfl,rfl,by simp only[zw,e];rfl⟩
 | tup e=>exact⟨.tup e,rfl,rfl,rfl,by simp only[zw,e];rfl⟩
 | dK e=>exact⟨.dK e,rfl,rfl,rfl,by simp only[zw,e];rfl⟩
 | dT e=>exact⟨.dT e,rfl,rfl,rfl,by simp only[zw,e];rfl⟩
 | non=>exact⟨.non,rfl,rfl,rfl,rfl⟩
 | bl b=>exact⟨.bl b,rfl,rfl,rfl,rfl⟩
 | int i=>exact⟨.int i,rfl,rfl,rfl,rfl⟩
 | str x=>exact⟨.str x,rfl,rfl,rfl,rfl⟩
 | flt x=>exact⟨.flt x,rfl,rfl,rfl,rfl⟩
theorem AnyT.isi {K:PySem.W.Frag}{H:Hp}{x:V}(h:AnyT K H x):∃ t,Isi K H x t :=
 let ⟨T,h,et⟩:=h
 ⟨T,gf h et⟩
section
variable {X:Cx}{pos:Pos}
theorem Inv.big {pins:List (Addr × Obj)}{σ:St}{H:Hp}{s:Shared}(I:Inv X pins σ H s):sysModules<s.heap.objs.size:=by
 have h:mainGlobals<s.heap.objs.size:=(I.mod.glob.keeps I.bk).lt
 exact Nat.lt_trans (by decide) h
end
end L2
namespace Bn
open PySem L2 Own
structure Good (K:PySem.W.Frag) (D:Addr→Prop) (H:Hp) (x:V):Prop where
 any:AnyT K H x
 ne:∀ a,x=.ref a→D a
def Flat:V→Prop
 | .ref _=>False
 | .ty _=>False
 | .byt _=>False
 | _=>True
theorem Good.flat {K:PySem.W.Frag}{D:Addr→Prop}{H:Hp}:∀ {x:V},Flat x→Good K D H x
 | .non,_=>⟨⟨_,.non,_,rfl⟩,fun _ z=>by cases z⟩
 | .bl b,_=>⟨⟨_,.bl b,_,rfl⟩,fun _ z=>by cases z⟩
 | .int i,_=>⟨⟨_,.int i,_,rfl⟩,fun _ z=>by cases z⟩
 | .str s,_=>⟨⟨_,.str s,_,rfl⟩,fun _ z=>by cases z⟩
 | .flt s,_=>⟨⟨_,.flt s,_,rfl⟩,fun _ z=>by cases z⟩
end Bn
namespace L2
open PySem PySem.Spec PyProof.Rows
section
variable {κ:Type} [DecidableEq κ]
theorem RelO.isSome_eq {o:Option V}{u:Option Value}(r:RelO o u):o.isSome=u.isSome:=by
 cases o with
 | none=>cases u with
  | none=>rfl
  | some _=>exact(show False from r).elim
 | some _=>cases u with
  | none=>exact(show False from r).elim
  | some _=>rfl
end
theorem eJ {P:Program}{w:World}{k:Key}{u:Value}(r:RelV (kV k) u):(yS P w).is k u=true:=by
 cases k with
 | inl i=>obtain⟨t,e⟩:=(show ∃ t,u=Value.int i t from r);subst e;exact re P w i t
 | inr x=>obtain⟨t,e⟩:=(show ∃ t,u=Value.str x t from r);subst e;exact rc P w x t
theorem tJ {P:Program}{w:World}:∀ {ks:List Key}{us:List Value},Vals (ks.map kV) us→ItemsAre (yS P w) ks us
 | [],_,r=>by rw[List.map_nil]at r;cases r;exact .nil
 | k::ks,_,r=>by
  rw[List.map_cons]at r
  cases r with
  | cons h t=>exact .cons (eJ h) (tJ t)
section
variable {P:Program}{w:World}{H:Hp}{h:Heap}{a:Addr}
theorem iU {u:HO}(ok:HOk P w H h) (e:Rd H a u):ObjOk P w H h a u:=e.ok ok
theorem gb {ks:List Key}(ok:HOk P w H h) (e:H a=some (.tup (ks.map kV))):(tupleKind (yS P w)).is h ks a:=by
 obtain⟨_,its,r,o,h1,h2,n,h3⟩:=(show ObjOk P w H h a (.tup (ks.map kV)) from ok a _ e)
 exact⟨o,its.toArray,n,h1,h2,h3.1,by simpa using tJ r⟩
end
section
variable {X:Cx}{pins:List (Addr × Obj)}{σ:St}{H:Hp}{s:Shared}{a:Addr}{y v:V}{u r:Value}{o:Option V}{A:Around}{E:Value→Shared→Prop}
theorem ow {h':Heap}{t':Nat}{ob:HO}(I:Inv X pins σ H s) (mu:Mut (H a)) (hs:Heap.SameBut a s.heap h') (he:∃ q,h'.get? a=some q) (new:ObjOk X.prog X.w (upd H a ob) h' a ob) :
  Inv X pins σ (upd H a ob) { s with heap:=h',toks:=t' } :=
 I.write (x:=a) (e:=a) mu (.inl rfl) (fun b q hb z=>(hs.2 b hb).trans z) he new
end
section
variable {X:Cx}{pins:List (Addr × Obj)}{σ:St}{H:Hp}{s:Shared}{a:Addr}{kvs:List (Key × V)}{k:Key}{u:Value}{A:Around}{E:Value→Shared→Prop}
end
section
variable {X:Cx}{o i e value:Expr}{pos pos' tpos:Pos}{td ty tv:TE}
end
section
variable {X:Cx}{pos:Pos}
end
structure M2 (X:Cx) (o:Expr) (m:Str) (apos:Pos) (e f:Expr) (cpos:Pos):Prop where
 base:attributeBase o m X.env (eval o X.env)=eval o X.env
 few:((backTo cpos (starEach [e,f] X.env)).all (fun x=>!x.1) && (backToKw cpos (keywordEach [] X.env)).all (fun x=>x.1.isSome)
  && decide (([e,f]:List Expr).length+([]:List Keyword).length+(if ([]:List Keyword).isEmpty then 0 else 1)<30))=true
 line:(apos.endLine == cpos.line)=true
 trees:backTo cpos (starEach [e,f] X.env)=[(false,eval e X.env),(false,eval f X.env)]
section
variable {X:Cx}{pins:List (Addr × Obj)}{σ:St}{H:Hp}{s:Shared}{a:Addr}{y d:V}{u r:Value}{o:Option V}{A:Around}{E:Value→Shared→Prop}
end
section
variable {X:Cx}{o e f:Expr}{apos cpos:Pos}{td ty tx:TE}
end
section
variable {X:Cx}{pins:List (Addr × Obj)}{σ:St}{H:Hp}{s:Shared}{a:Addr}{kvs:List (Key × V)}{A:Around}{E:Value→Shared→Prop}
end
section
variable {X:Cx}{pins:List (Addr × Obj)}{σ:St}{H:Hp}{s:Shared}{a:Addr}{y:V}{u:Value}{A:Around}{E:Value→Shared→Prop}
end
end L2
namespace L2
open PySem PySem.Spec PyProof.Rows Own
def FlD (x:V) (d:PyData):Prop:=(∃ i,x=.int i∧d=.int i)∨(∃ z,x=.str z∧d=.str z∧(PyData.str z).canLay0=true)∨(∃ b,x=.bl b∧d=.bool b)∨(x=.non∧d=.none)
def DD (H:Hp):Nat→V→PyData→Prop
 | 0,x,d=>FlD x d
 | n+1,x,d=>FlD x d∨∃ a xs ds,x=.ref a∧xs.length=ds.length∧((d=.tuple ds∧H a=some (.tup xs))∨(d=.list ds∧H a=some (.lst xs)))∧∀ (j:Nat) (u:V) (e:PyData),xs[j]?=some u→ds[j]?=some e→DD H n u e
theorem DD.same {H H':Hp}(s:Same H H'):∀ {n:Nat}{x:V}{d:PyData},DD H n x d→DD H' n x d
 | 0,_,_,h=>h
 | n+1,_,_,h=>by
  rcases h with h|⟨a,xs,ds,e1,e2,h1,h2⟩
  ·exact .inl h
  ·refine .inr ⟨a,xs,ds,e1,e2,?_,fun j u e p q=>DD.same s (h2 j u e p q)⟩
   rcases h1 with ⟨y,z⟩|⟨y,z⟩
   ·exact .inl ⟨y,s _ _ z⟩
   ·exact .inr ⟨y,s _ _ z⟩
theorem DD.fl {H:Hp}{n:Nat}{x:V}{d:PyData}(h:FlD x d):DD H n x d:=by
 cases n
 ·exact h
 ·exact .inl h
theorem DD.up {H:Hp}:∀ {n m:Nat}{x:V}{d:PyData},n≤m→DD H n x d→DD H m x d
 | 0,m,_,_,_,h=>DD.fl h
 | n+1,0,_,_,l,_=>by lia
 | n+1,m+1,_,_,l,h=>by
  rcases h with h|⟨a,xs,ds,e1,e2,h1,h2⟩
  ·exact .inl h
  ·exact .inr ⟨a,xs,ds,e1,e2,h1,fun j u e p q=>DD.up (by lia) (h2 j u e p q)⟩
theorem DD.i {H:Hp}{n:Nat}(i:Int):DD H n (.int i) (.int i):=DD.fl (.inl ⟨i,rfl,rfl⟩)
theorem DD.tup {H:Hp}{n:Nat}{a:Addr}{xs:List V}{ds:List PyData}(h:H a=some (.tup xs)) (l:xs.length=ds.length) (f:∀ (j:Nat) (u:V) (e:PyData),xs[j]?=some u→ds[j]?=some e→DD H n u e):DD H (n+1) (.ref a) (.tuple ds):=.inr ⟨a,xs,ds,rfl,l,.inl ⟨rfl,h⟩,f⟩
theorem gq {H:Hp}{n:Nat}{α:Type}{f:α→V}{g:α→PyData}{l:List α}(h:∀ x∈l,DD H n (f x) (g x)):(l.map f).length=(l.map g).length∧∀ (j:Nat) (u:V) (e:PyData),(l.map f)[j]?=some u→(l.map g)[j]?=some e→DD H n u e:=by
 refine⟨by rw[List.length_map,List.length_map],fun j u e p q=>?_⟩
 rw[List.getElem?_map]at p q
 cases z:l[j]? with
 | none=>rw[z]at p;cases p
 | some x =>
  rw[z]at p q
  obtain rfl:=Option.some.inj p
  obtain rfl:=Option.some.inj q
  exact h x (List.mem_of_getElem? z)
theorem ot {H:Hp}{n:Nat}{a:Addr}{xs:List Int}(h:H a=some (.tup (xs.map V.int))):DD H (n+1) (.ref a) (.tuple (xs.map PyData.int)) :=
 let ⟨p,q⟩:=gq (H:=H) (n:=n) (f:=V.int) (g:=PyData.int) (l:=xs) fun x _=>DD.i x
 DD.tup h p q
theorem si:∀ {ds:List PyData}{n:Nat},(∀ e∈ds,e.canLay0=true∧e.depth≤n)→PyData.canLayAll0 ds=true∧PyData.depthAll ds≤n
 | [],_,_=>⟨rfl,Nat.zero_le _⟩
 | d::ds,n,h=>by
  obtain⟨a1,a2⟩:=h d List.mem_cons_self
  obtain⟨b1,b2⟩:=si (ds:=ds) fun e he=>h e (List.mem_cons_of_mem _ he)
  refine⟨?_,?_⟩
  ·show (d.canLay0 && PyData.canLayAll0 ds)=true
   rw[a1,b1];rfl
  ·show max d.depth (PyData.depthAll ds)≤n
   lia
theorem FlD.ok {x:V}{d:PyData}(h:FlD x d):d.canLay0=true∧d.depth≤0:=by
 rcases h with ⟨i,_,rfl⟩|⟨z,_,rfl,e⟩|⟨b,_,rfl⟩|⟨_,rfl⟩
 ·exact⟨rfl,Nat.le_refl _⟩
 ·exact⟨e,Nat.le_refl _⟩
 ·exact⟨rfl,Nat.le_refl _⟩
 ·exact⟨rfl,Nat.le_refl _⟩
theorem DD.ok {H:Hp}:∀ {n:Nat}{x:V}{d:PyData},DD H n x d→d.canLay0=true∧d.depth≤n
 | 0,_,_,h=>FlD.ok h
 | n+1,_,_,h=>by
  rcases h with h|⟨a,xs,ds,e1,e2,h1,h2⟩
  ·have:=FlD.ok h
   exact⟨this.1,by lia⟩
  ·obtain⟨p,q⟩:=si (n:=n) (ds:=ds) fun e he=>by
    obtain⟨j,jl,ej⟩:=List.getElem_of_mem he
    exact(h2 j _ e (List.getElem?_eq_getElem (by lia)) (by rw[List.getElem?_eq_getElem jl,ej])).ok
   rcases h1 with ⟨rfl,_⟩|⟨rfl,_⟩
   ·exact⟨p,Nat.succ_le_succ q⟩
   ·exact⟨p,Nat.succ_le_succ q⟩
section
variable {X:Cx}
theorem FlD.reads {h:Heap}{x:V}{d:PyData}{v:Value}(f:FlD x d) (r:RelV x v):∃ as,Reads h v d as:=by
 rcases f with ⟨i,rfl,rfl⟩|⟨z,rfl,rfl,e⟩|⟨b,rfl,rfl⟩|⟨rfl,rfl⟩
 ·obtain⟨t,rfl⟩:=r
  exact⟨_,.int i t⟩
 ·obtain⟨t,rfl⟩:=r
  exact⟨_,.str z t⟩
 ·cases r
  exact⟨_,.bool b⟩
 ·cases r
  exact⟨_,.none⟩
theorem DD.reads {pins:List (Addr × Obj)}{σ:St}{H:Hp}{s:Shared}(I:Inv X pins σ H s):∀ (n:Nat) (x:V) (d:PyData) (v:Value),DD H n x d→RelV x v→∃ as,Reads s.heap v d as
 | 0,x,d,v,h,r=>FlD.reads h r
 | n+1,x,d,v,h,r=>by
  rcases h with h|⟨a,xs,ds,rfl,hl,h1,hx⟩
  ·exact FlD.reads h r
  ·cases r
   have key:∀ its:List Value,Vals xs its→∃ as,ReadsAll s.heap its ds as:=fun its g=>by
    have gl:=g.length
    exact um (h:=s.heap) its ds (by lia) fun j v' d' e1 e2=>by
     have jl:j<xs.length:=by have:=(List.getElem?_eq_some_iff.mp e1).1;lia
     obtain⟨w',f1,f2⟩:=g.get (List.getElem?_eq_getElem jl)
     obtain rfl:=Option.some.inj (e1.symm.trans f1)
     exact DD.reads I n _ _ _ (hx j _ _ (List.getElem?_eq_getElem jl) e2) f2
   rcases h1 with ⟨rfl,ha⟩|⟨rfl,ha⟩
   ·obtain⟨its,g,⟨o,eo,co,m,dm⟩,_⟩:=I.tuple (SqT.of ha)
    obtain⟨as,ra⟩:=key its g
    exact⟨as,.tuple eo co dm (by simpa using ra)⟩
   ·obtain⟨its,g,p,_⟩:=I.list (SqL.of ha)
    obtain⟨as,ra⟩:=key its g
    obtain⟨o,eo,co,m,dm⟩:=p.isList
    exact⟨_,.list eo co dm (by simpa using ra)⟩
end
abbrev KI:=Int ⊕ List Int
abbrev KN:=List KI
section
variable (prog:Program) (w:World)
def NIt (h:Heap):KI→Value→Prop
 | .inl i,v=>∃ t,v=.int i t
 | .inr xs,v=>∃ b,v=.ref b∧IsTupleKey (yS prog w) h (xs.map Sum.inl) b
def NIts (h:Heap):KN→List Value→Prop
 | [],vs=>vs=[]
 | k::ks,vs=>∃ v r,vs=v::r∧NIt prog w h k v∧NIts h ks r
def NIs (h:Heap) (ks:KN) (a:Addr):Prop:=∃ o items n,h.get? a=some o∧o.cls=.type "tuple"∧o.data=.seq items n∧NIts prog w h ks items.toList
def nh1:KI→Int
 | .inl i=>hashInt i
 | .inr xs=>tupleKeyHash (yS prog w) (xs.map Sum.inl)
def nd1:KI→Nat
 | .inl _=>1
 | .inr xs=>xs.length+1
def nds (ks:KN):Nat:=(ks.map nd1).sum
end
variable {prog:Program}{w:World}{A:Around}{E:Value→Shared→Prop}
theorem iF {a b:List Int}(h:a.map (Sum.inl:Int→Key)=b.map Sum.inl):a=b :=
 List.map_inj_right (fun x y e=>Sum.inl.inj e) |>.mp h
theorem NIt.inj {h:Heap}{x y:KI}{v:Value}(a:NIt prog w h x v) (b:NIt prog w h y v):x=y:=by
 cases x with
 | inl i =>
  obtain⟨t,rfl⟩:=a
  cases y with
  | inl j=>obtain⟨u,e⟩:=b;cases e;rfl
  | inr ys=>obtain⟨b,e,_⟩:=b;cases e
 | inr xs =>
  obtain⟨c,rfl,hc⟩:=a
  cases y with
  | inl j=>obtain⟨u,e⟩:=b;cases e
  | inr ys =>
   obtain⟨d,e,hd⟩:=b
   cases e
   rw[iF (hc.inj hd)]
theorem NIts.inj {h:Heap}:∀ {x y:KN}{vs:List Value},NIts prog w h x vs→NIts prog w h y vs→x=y
 | [],[],_,_,_=>rfl
 | [],_::_,_,a,b=>by obtain⟨v,r,e,_⟩:=b;rw[show _=[] from a]at e;cases e
 | _::_,[],_,a,b=>by obtain⟨v,r,e,_⟩:=a;rw[show _=[] from b]at e;cases e
 | x::xs,y::ys,_,a,b=>by
  obtain⟨v,r,rfl,a1,a2⟩:=a
  obtain⟨v',r',e,b1,b2⟩:=b
  cases e
  rw[a1.inj b1,NIts.inj a2 b2]
theorem NIs.inj {h:Heap}{x y:KN}{a:Addr}(p:NIs prog w h x a) (q:NIs prog w h y a):x=y:=by
 obtain⟨o,its,n,h1,_,h3,h4⟩:=p
 obtain⟨o',its',n',g1,_,g3,g4⟩:=q
 rw[h1]at g1
 cases g1
 rw[h3]at g3
 cases g3
 exact h4.inj g4
theorem NIt.keeps {h h':Heap}{d:Addr}{o:Obj}{es ep} (hd:h.get? d=some o) (ho:o.data=.dict es ep) (s:Heap.SameBut d h h') {k:KI}{v:Value}(a:NIt prog w h k v):NIt prog w h' k v:=by
 cases k with
 | inl i=>exact a
 | inr xs =>
  obtain⟨b,e,hb⟩:=a
  exact⟨b,e,hb.keeps hd ho s⟩
theorem NIts.keeps {h h':Heap}{d:Addr}{o:Obj}{es ep} (hd:h.get? d=some o) (ho:o.data=.dict es ep) (s:Heap.SameBut d h h'):∀ {ks:KN}{vs:List Value},NIts prog w h ks vs→NIts prog w h' ks vs
 | [],_,a=>a
 | k::ks,_,a=>by
  obtain⟨v,r,e,a1,a2⟩:=a
  exact⟨v,r,e,a1.keeps hd ho s,NIts.keeps hd ho s a2⟩
theorem NIs.keeps {h h':Heap}{ks:KN}{a d:Addr}{o:Obj}{es ep} (p:NIs prog w h ks a) (hd:h.get? d=some o) (ho:o.data=.dict es ep) (s:Heap.SameBut d h h'):NIs prog w h' ks a:=by
 obtain⟨o',its,n,h1,h2,h3,h4⟩:=p
 refine⟨o',its,n,?_,h2,h3,h4.keeps hd ho s⟩
 rw[s.2 a (by rintro rfl;rw[hd]at h1;cases h1;rw[ho]at h3;cases h3)]
 exact h1
theorem uS:∀ (ks:KN) (vs:List Value) (hs:Array Int) (s:Shared) (Q:Array Int→Shared→Prop),A.units<cLine→NIts prog w s.heap ks vs→Q (hs++(ks.map (nh1 prog w)).toArray) { s with toks:=s.toks+nds ks } →
  wpAny (model prog w) A (forIn vs hs fun x hs=>(do let r ← pyHash x;pure (ForInStep.yield (hs.push r)))) Q E s
 | [],vs,hs,s,Q,hu,a,q=>by
  rw[show vs=[] from a,List.forIn_nil]
  refine wpAny_pure ?_
  simpa [nds] using q
 | k::ks,vs,hs,s,Q,hu,a,q=>by
  obtain⟨v,r,rfl,a1,a2⟩:=a
  rw[List.forIn_cons]
  have e1:∀ (m:Nat),m=nd1 k→({ s with toks:=s.toks+m+nds ks }:Shared)={ s with toks:=s.toks+nds (k::ks) }:=fun m e=>by
   subst e
   unfold nds
   rw[List.map_cons,List.sum_cons,Nat.add_assoc]
  have e2:hs.push (nh1 prog w k)++(ks.map (nh1 prog w)).toArray=hs++((k::ks).map (nh1 prog w)).toArray:=by simp
  have go:∀ (m:Nat),m=nd1 k→wpAny (model prog w) A (forIn r (hs.push (nh1 prog w k)) fun x hs=>(do let r ← pyHash x;pure (ForInStep.yield (hs.push r)))) Q E { s with toks:=s.toks+m }:=fun m e =>
   uS ks r (hs.push (nh1 prog w k)) { s with toks:=s.toks+m } Q hu a2 (by rw[e2];have:=e1 m e;simp only at this ⊢;rw[this];exact q)
  cases k with
  | inl i =>
   obtain⟨t,rfl⟩:=a1
   exact wpAny_bind (wpAny_bind (wpAny_pyHash_int (wpAny_pure (go 1 rfl))))
  | inr xs =>
   obtain⟨b,rfl,hb⟩:=a1
   exact wpAny_bind (wpAny_bind (wpAny_pyHash_tuple hu hb (wpAny_pure (go _ (by rw[List.length_map];rfl)))))
theorem mT {s:Shared}{a:Addr}{ks:KN}{Q:Int→Shared→Prop}(hu:A.units+1<cLine) (hk:NIs prog w s.heap ks a)
  (q:Q (reduceHash (Builtin.Tuple.tupleHashOf (ks.map (nh1 prog w)))) { s with toks:=s.toks+(nds ks+1) }):wpAny (model prog w) A (pyHash (.ref a)) Q E s:=by
 obtain⟨o,its,n,ho,hc,hd,hi⟩:=hk
 show wpAny (model prog w) A (pyHashByItsType (.ref a)) Q E s
 refine W.pyHash_slot (T:="tuple") (id:="tuple.__hash__") (B:=Builtin.«tuple.__hash__») ⟨o,ho,hc⟩ F.slot_tuple_hash F.entry_tuple_hash (F.args_tuple_hash_1 _) (by decide) (.inr (by lia)) ?_
 unfold Builtin.«tuple.__hash__»
 refine wpAny_bind ?_
 show wpAny _ _ (pure _) _ _ _
 refine wpAny_pure (wpAny_bind (wpAny_tupleItemsOf ho hd ?_))
 rw[← Array.forIn_toList]
 refine wpAny_bind (uS ks _ _ s _ hu hi ?_)
 simp only[Array.empty_append]
 unfold retInt
 exact wpAny_bind (wpAny_mkInt (wpAny_pure ⟨_,_,rfl,q⟩))
theorem ur {i:Int}{t:Tok}{n:Nat}{s:Shared}{Q:Bool→Shared→Prop}(q:Q true s):wpAny (model prog w) A (eqIsQuiet n (.int i t)) Q E s:=by
 cases n<;>exact wpAny_pure q
theorem vL {n:Nat}{s:Shared}:∀ (vs:List Value) (Q:Option Bool × Unit→Shared→Prop),(∀ v∈vs,∀ R:Bool→Shared→Prop,R true s→wpAny (model prog w) A (eqIsQuiet n v) R E s)→Q (none,()) s →
  wpAny (model prog w) A (forIn vs ((none,()):Option Bool × Unit) fun y _=>(do
   let b ← eqIsQuiet n y
   if (!b)=true then pure (ForInStep.done (some false,())) else pure (ForInStep.yield (none,())))) Q E s
 | [],Q,_,q=>by rw[List.forIn_nil];exact wpAny_pure q
 | v::vs,Q,h,q=>by
  rw[List.forIn_cons]
  exact wpAny_bind (wpAny_bind (h v List.mem_cons_self _ (wpAny_pure (vL vs Q (fun u hu=>h u (List.mem_cons_of_mem _ hu)) q))))
theorem uo {s:Shared}{a:Addr}{o:Obj}{its:Array Value}{m n:Nat}{Q:Bool→Shared→Prop}(ho:s.heap.get? a=some o) (hc:o.cls=.type "tuple") (hd:o.data=.seq its m)
  (h:∀ v∈its.toList,∀ R:Bool→Shared→Prop,R true s→wpAny (model prog w) A (eqIsQuiet n v) R E s) (q:Q true s):wpAny (model prog w) A (eqIsQuiet (n+1) (.ref a)) Q E s:=by
 have ty:s.TypeIs (.ref a) "tuple":=⟨o,ho,hc⟩
 unfold eqIsQuiet
 refine wpAny_bind (wpAny_specialOf (T:="tuple") ty F.slot_tuple_eq.lookup (wpAny_bind (wpAny_isInstance (T:="tuple") (b:=true) ty rfl ?_)))
 show wpAny _ _ (do let _ ← seqItems? _;_) _ _ _
 refine wpAny_bind (wpAny_seqItems ho hd (wpAny_bind ?_))
 rw[Option.getD_some,← Array.forIn_toList]
 exact vL _ _ h (wpAny_pure q)
theorem NIts.mem {h:Heap}:∀ {ks:KN}{vs:List Value},NIts prog w h ks vs→∀ v∈vs,∃ k,NIt prog w h k v
 | [],_,a,v,hv=>by rw[show _=[] from a]at hv;cases hv
 | k::ks,_,a,v,hv=>by
  obtain⟨x,r,rfl,a1,a2⟩:=a
  rcases List.mem_cons.mp hv with rfl|z
  ·exact⟨k,a1⟩
  ·exact NIts.mem a2 v z
theorem rZ {i:Int}{v:Value}(h:(yS prog w).is (.inl i) v=true):∃ t,v=.int i t:=by
 rw[pJ]at h
 rcases yH h with ⟨j,t,e,rfl⟩|⟨x,t,e,_⟩
 ·cases e;exact⟨t,rfl⟩
 ·cases e
theorem pV {ks:List Key}{vs:List Value}(h:ItemsAre (yS prog w) ks vs):∀ xs:List Int,ks=xs.map Sum.inl→∀ v∈vs,∃ i t,v=.int i t:=by
 induction h with
 | nil=>intro xs _ v hv;cases hv
 | cons hk _ ih =>
  intro xs e v hv
  cases xs with
  | nil=>cases e
  | cons x xs =>
   rw[List.map_cons]at e
   injection e with e1 e2
   subst e1
   rcases List.mem_cons.mp hv with rfl|z
   ·obtain⟨t,e⟩:=rZ hk
    exact⟨x,t,e⟩
   ·exact ih xs e2 v z
theorem items_int {ks:List Int}{vs:List Value}(h:ItemsAre (yS prog w) (ks.map Sum.inl) vs):∀ v∈vs,∃ i t,v=.int i t:=pV h ks rfl
theorem uB {s:Shared}{a:Addr}{ks:KN}{Q:Bool→Shared→Prop}(hk:NIs prog w s.heap ks a) (q:Q true s):wpAny (model prog w) A (eqIsQuiet 8 (.ref a)) Q E s:=by
 obtain⟨o,its,n,ho,hc,hd,hi⟩:=hk
 refine uo ho hc hd (fun v hv R r=>?_) q
 obtain⟨k,hk⟩:=hi.mem v hv
 cases k with
 | inl i=>obtain⟨t,rfl⟩:=hk;exact ur r
 | inr xs =>
  obtain⟨b,rfl,o2,it2,n2,ho2,hc2,hd2,hi2⟩:=hk
  refine uo ho2 hc2 hd2 (fun u hu R r=>?_) r
  obtain⟨i,t,rfl⟩:=items_int hi2 u hu
  exact ur r
def dI:KI→PyData
 | .inl i=>.int i
 | .inr xs=>.tuple (xs.map PyData.int)
def dN (ks:KN):PyData:=.tuple (ks.map dI)
theorem pB {h:Heap}{ks:List Key}{vs:List Value}(a:ItemsAre (yS prog w) ks vs):∀ xs:List Int,ks=xs.map Sum.inl→∃ as,ReadsAll h vs (xs.map PyData.int) as:=by
 induction a with
 | nil =>
  intro xs e
  cases xs with
  | nil=>exact⟨_,.nil⟩
  | cons x xs=>cases e
 | cons hk _ ih =>
  intro xs e
  cases xs with
  | nil=>cases e
  | cons x xs =>
   rw[List.map_cons]at e
   injection e with e1 e2
   subst e1
   obtain⟨t,rfl⟩:=rZ hk
   obtain⟨as,r⟩:=ih xs e2
   exact⟨_,.cons (.int x t) r⟩
theorem NIt.reads {h:Heap}{k:KI}{v:Value}(a:NIt prog w h k v):∃ as,Reads h v (dI k) as:=by
 cases k with
 | inl i=>obtain⟨t,rfl⟩:=a;exact⟨_,.int i t⟩
 | inr xs =>
  obtain⟨b,rfl,o,its,n,h1,h2,h3,h4⟩:=a
  obtain⟨as,r⟩:=pB (h:=h) h4 xs rfl
  exact⟨_,.tuple h1 h2 h3 r⟩
theorem NIts.reads {h:Heap}:∀ {ks:KN}{vs:List Value},NIts prog w h ks vs→∃ as,ReadsAll h vs (ks.map dI) as
 | [],_,a=>by rw[show _=[] from a];exact⟨_,.nil⟩
 | k::ks,_,a=>by
  obtain⟨v,r,rfl,a1,a2⟩:=a
  obtain⟨as,p⟩:=a1.reads
  obtain⟨bs,q⟩:=NIts.reads a2
  exact⟨_,.cons p q⟩
theorem NIs.reads {h:Heap}{ks:KN}{a:Addr}(p:NIs prog w h ks a):∃ as,Reads h (.ref a) (dN ks) as:=by
 obtain⟨o,its,n,h1,h2,h3,h4⟩:=p
 obtain⟨as,r⟩:=h4.reads
 exact⟨_,.tuple h1 h2 h3 r⟩
theorem qF:∀ (x y:List Int),PyData.eqvAll (x.map PyData.int) (y.map PyData.int)=decide (x=y)
 | [],[]=>rfl
 | [],_::_=>rfl
 | _::_,[]=>rfl
 | a::x,b::y=>by
  show (PyData.eqv (.int a) (.int b) && PyData.eqvAll (x.map PyData.int) (y.map PyData.int))=_
  rw[qF x y,show PyData.eqv (.int a) (.int b)=(a == b) from rfl,Bool.eq_iff_iff]
  simp
theorem gm (x y:KI):PyData.eqv (dI x) (dI y)=decide (x=y):=by
 cases x<;>cases y
 ·rw[show PyData.eqv (dI (.inl _)) (dI (.inl _))=(_ == _) from rfl,Bool.eq_iff_iff];simp
 ·rfl
 ·rfl
 ·show PyData.eqvAll _ _=_
  rw[qF,Bool.eq_iff_iff];simp
theorem oj:∀ (x y:KN),PyData.eqvAll (x.map dI) (y.map dI)=decide (x=y)
 | [],[]=>rfl
 | [],_::_=>rfl
 | _::_,[]=>rfl
 | a::x,b::y=>by
  show (PyData.eqv (dI a) (dI b) && PyData.eqvAll (x.map dI) (y.map dI))=_
  rw[oj x y,gm,Bool.eq_iff_iff]
  simp
theorem rq:∀ x:List Int,PyData.canLayAll0 (x.map PyData.int)=true∧PyData.depthAll (x.map PyData.int)≤0
 | []=>⟨rfl,Nat.le_refl _⟩
 | a::x=>by
  obtain⟨p,q⟩:=rq x
  refine⟨?_,?_⟩
  ·show (PyData.canLay0 (.int a) && PyData.canLayAll0 (x.map PyData.int))=true
   rw[p];rfl
  ·show max 0 (PyData.depthAll (x.map PyData.int))≤0
   lia
theorem pT (ks:KN):(dN ks).canLay0=true∧(dN ks).depth≤2:=by
 have key:∀ e∈ks.map dI,e.canLay0=true∧e.depth≤1:=fun e he=>by
  obtain⟨k,_,rfl⟩:=List.mem_map.mp he
  cases k with
  | inl i=>exact⟨rfl,by show 0≤1;lia⟩
  | inr xs =>
   obtain⟨p,q⟩:=rq xs
   refine⟨p,?_⟩
   show PyData.depthAll (xs.map PyData.int)+1≤1
   lia
 obtain⟨p,q⟩:=si key
 refine⟨p,?_⟩
 show PyData.depthAll (ks.map dI)+1≤2
 lia
theorem iJ {s:Shared}{x y:KN}{a b:Addr}{Q:Bool→Shared→Prop}(hu:A.units+2<cLine) (hx:NIs prog w s.heap x a) (hy:NIs prog w s.heap y b) (q:Q (decide (x=y)) s):wpAny (model prog w) A (eqBool (.ref a) (.ref b)) Q E s:=by
 obtain⟨as,rx⟩:=hx.reads
 obtain⟨bs,ry⟩:=hy.reads
 obtain⟨p1,p2⟩:=pT x
 obtain⟨q1,q2⟩:=pT y
 refine PySem.SeqAt.eqBoolOverData prog w A E s _ _ _ _ as bs Q rx ry p1 q1 (by lia) ?_
 rw[show PyData.eqv (dN x) (dN y)=PyData.eqvAll (x.map dI) (y.map dI) from rfl,oj]
 exact q
variable (prog w)
def yT:HeapKind prog w KN where
 is:=NIs prog w
 hash:=fun ks=>reduceHash (Builtin.Tuple.tupleHashOf (ks.map (nh1 prog w)))
 draws:=fun ks=>nds ks+1
 room:=fun A=>A.units+2<cLine
 inj:=fun hx hy=>NIs.inj hx hy
 keeps:=fun x ho hd hs=>NIs.keeps x ho hd hs
 pyHash:=fun hu hk h=>mT (by lia) hk h
 eqBool:=fun hu hx hy h=>iJ hu hx hy h
 quiet:=fun hk h=>uB hk h
end L2
namespace Own
open PySem PySem.Spec PyProof.Rows
theorem sP:typeLookup (.type "list") "keys" = pure none:=by
 exact(by rw[typeLookup_type,builtinLookup_eq_fast];kernel_rfl)
theorem sQ:typeLookup (.type "list") "__getattr__" = pure none:=by
 exact(by rw[typeLookup_type,builtinLookup_eq_fast];kernel_rfl)
section
variable {prog:Program}{w:World}{A:Around}{E:Value→Shared→Prop}{s:Shared}{l:Addr}{its:Array Value}{n:Nat}
theorem pU {u:Tok}{Q:Fin→Shared→Prop}(hx:s.heap.get? l=some { cls:=.type "list",data:=.seq its n }) (hA:A.handled=none)
  (h:∀ h' tk e,Heap.NewAttrErr s.heap h' e (.ref l) "keys"→E (.ref e) { s with heap:=h',toks:=tk }) :
  wpAny (model prog w) A (Builtin.«object.__getattribute__» ⟨[.ref l,.str "keys" u],[]⟩) Q E s:=by
 obtain⟨hp,gs,dr,tk,os⟩:=s
 have ty:(⟨hp,gs,dr,tk,os⟩:Shared).TypeIs (.ref l) "list":=⟨_,hx,rfl⟩
 have f4:=sP;unfold Builtin.«object.__getattribute__»
 repeat any_goals (first|assumption|wp_step)
 repeat any_goals (first|assumption|wp_step)
 exact wpAny_raiseAttrError hA h (attrMsg_fits (by decide +kernel) (by size_fits))
theorem mJ {u:Tok}{R:Result→Shared→Prop}(hx:s.heap.get? l=some { cls:=.type "list",data:=.seq its n }) (hA:A.handled=none)
  (h:∀ h' tk e,Heap.NewAttrErr s.heap h' e (.ref l) "keys"→R (.error (.ref e)) { s with heap:=h',toks:=tk }) :
  codeAny (model prog w) A (.call (.builtin "list.__getattribute__") ⟨[.ref l,.str "keys" u],[]⟩) R s :=
 codeAny_call_builtin F.slot_list_getattribute.plain F.entry_list_ga (F.slot_list_getattribute.check _ _ _ _ _ _ _ _ (show s.TypeIs (.ref l) "list" from⟨_,hx,rfl⟩) (F.args_list_getattribute_2 _ _) (pU (A:=A.in1) hx hA h))
theorem mB {Q:Option Value→Shared→Prop}(hx:s.heap.get? l=some { cls:=.type "list",data:=.seq its n }) (hA:A.handled=none)
  (h:∀ h' tk,(∀ b o,s.heap.get? b=some o→h'.get? b=some o)→Q none { s with heap:=h',toks:=tk }) :
  wpAny (model prog w) A (getAttr? (.ref l) "keys") Q E s:=by
 obtain⟨hp,gs,dr,tk,os⟩:=s
 have ty:(⟨hp,gs,dr,tk,os⟩:Shared).TypeIs (.ref l) "list":=⟨_,hx,rfl⟩
 have f1:=sub_AttributeError
 have g2:=F.slot_list_getattribute.lookup
 have f3:=F.slot_list_getattribute.bind (.ref l)
 have f5:=sQ;unfold getAttr? getAttrBy? getAttrBy
 repeat any_goals (first|assumption|wp_step)
 refine mJ hx hA fun h' tk' e ne=>?_
 obtain⟨t',u',he⟩:=ne.there
 have te:({ heap:=h',gens:=gs,drawn:=dr,toks:=tk',os:=os }:Shared).TypeIs (.ref e) "AttributeError":=⟨_,he,rfl⟩
 dsimp only
 unfold getattributeRaised
 repeat any_goals (first|assumption|wp_step)
 exact h h' tk' ne.keeps
end
theorem xt:entryFor table "dict.update.loop" = some Builtin.«dict.update.loop»:=entryFor_of_fast (by kernel_rfl)
theorem yh:plainId "dict.update.loop" = true:=by decide +kernel
section
variable {prog:Program}{w:World}{K:Type} [DecidableEq K] {knd:KeyKind prog w K}{A:Around}{E:Value→Shared→Prop}{d it l:Addr}{its:Array Value}{ps:List (K × Value)}{res:Value}
end
end Own
namespace L2
open PySem PySem.Spec PyProof.Rows Own
section
variable {X:Cx}{pins:List (Addr × Obj)}{σ:St}{H:Hp}{s:Shared}{A:Around}{E:Value→Shared→Prop}
end
section
variable {X:Cx}{o e:Expr}{td ty:TE}{apos cpos:Pos}
end
structure MgD (mg:Str→Option Value):Prop where
 dict:mg "dict" = none
end L2
namespace Ts
open PySem PyProof.Rows
def R (rk:Keyed→Int) (xs:Array Keyed) (i:Nat):Int:=match xs[i]? with
 | some p=>rk p
 | none=>0
section
variable {prog:Program}{w:World}{A:Around}{E:Value→Shared→Prop}{s:Shared}{κ:SortKind}{P:Keyed→Prop}{rk:Keyed→Int}{a₀:Array Keyed}
end
section
variable {prog:Program}{w:World}{A:Around}{E:Value→Shared→Prop}{s:Shared}{κ:SortKind}{P:Keyed→Prop}{rk:Keyed→Int}{a₀:Array Keyed}
end
def bd (left:Bool) (k r:Int):Bool:=if left=true then decide (r<k) else !decide (k<r)
section
variable {prog:Program}{w:World}{A:Around}{E:Value→Shared→Prop}{s:Shared}{κ:SortKind}{P:Keyed→Prop}{rk:Keyed→Int}{a₀:Array Keyed}
end
section
variable {rk:Keyed→Int}{T out a b c:List Keyed}
end
section
variable {rk:Keyed→Int}{T:List Keyed}{out a b:Array Keyed}{ia ib k:Nat}{p q:Keyed}
end
section
variable {prog:Program}{w:World}{A:Around}{E:Value→Shared→Prop}{s:Shared}{κ:SortKind}{P:Keyed→Prop}{rk:Keyed→Int}{a₀:Array Keyed}
end
section
variable {rk:Keyed→Int}{T out a b c:List Keyed}
end
section
variable {rk:Keyed→Int}{T:List Keyed}{out a b:Array Keyed}{na nb i:Nat}{p q:Keyed}
end
section
variable {prog:Program}{w:World}{A:Around}{E:Value→Shared→Prop}{s:Shared}{κ:SortKind}{P:Keyed→Prop}{rk:Keyed→Int}{a₀:Array Keyed}
end
section
variable {rk:Keyed→Int}
end
section
variable {prog:Program}{w:World}{A:Around}{E:Value→Shared→Prop}{s:Shared}{κ:SortKind}{P:Keyed→Prop}{rk:Keyed→Int}{a₀:Array Keyed}
end
section
variable {prog:Program}{w:World}{A:Around}{E:Value→Shared→Prop}{s:Shared}{κ:SortKind}{P:Keyed→Prop}{rk:Keyed→Int}{a₀:Array Keyed}
end
end Ts
namespace L2
open PySem PySem.Spec PyProof.Rows Own
section
variable {prog:Program}{w:World}{A:Around}{R:Result→Shared→Prop}{I S:Addr}{fp wr:List Addr}{n:Nat}{P:Nat→Value→Prop}{St:Nat→Heap→Prop}
end
section
variable {prog:Program}{w:World}{A:Around}{E:Value→Shared→Prop}{s:Shared}
end
section
variable {X:Cx}
end
end L2
namespace Ts
open PySem PyProof.Rows
section
variable {prog:Program}{w:World}{A:Around}{E:Value→Shared→Prop}{s:Shared}
end
end Ts
namespace Own
open PySem PySem.Spec PyProof.Rows
section
variable {prog:Program}{w:World}{A:Around}{E:Value→Shared→Prop}{s:Shared}{z TI TO i1 i2:Addr}{f1 f2:List Addr}{n1 n2 k:Nat}{P1 P2:Nat→Value→Prop}{S1 S2:Nat→Heap→Prop}{a b:Value}
end
section
variable {prog:Program}{w:World}{A:Around}{E:Value→Shared→Prop}{s:Shared}{z TI TO i1 i2 L:Addr}{f1 f2:List Addr}{n n2 k:Nat}{P1 P2:Nat→Value→Prop}{S1 S2:Nat→Heap→Prop}
end
end Own
namespace Own
open PySem PySem.Spec PyProof.Rows Ts
section
variable {prog:Program}{w:World}{A:Around}{E:Value→Shared→Prop}{s:Shared}
end
end Own
namespace L2
open PySem PySem.Spec PyProof.Rows Own Ts
section
variable {X:Cx}
end
section
variable {prog:Program}{w:World}{A:Around}{E:Value→Shared→Prop}{s:Shared}
end
section
variable {X:Cx}
end
section
variable {X:Cx}
end
section
variable {X:Cx}{pins:List (Addr × Obj)}{σ:St}{H:Hp}{s:Shared}
theorem Inv.adopt {T:Addr}{o:HO}(I:Inv X pins σ H s) (hf:FpOk X pins H T) (new:ObjOk X.prog X.w (upd H T o) s.heap T o):Inv X pins σ (upd H T o) s:=by
 have hn:=hf.1
 have J:Inv X pins σ (upd H T o) { s with heap:=s.heap,gens:=s.gens,drawn:=s.drawn,toks:=s.toks }:=by
  refine I.step (ch:=[T]) (fun b hb=>?_) (fun b u _ _ _ e _=>e) (fun b u _ _ _ e _=>⟨u.slots,e⟩) (fun b u hc _ n=>by rw[zH fun q=>hc (List.mem_singleton.mpr q)];exact n)
   (fun b u _ e=>⟨u,e⟩) (fun b xs e=>by rw[zH (zG e hn)];exact e) (fun b u x e=>by rw[zH (zG e hn)];exact e) (fun b ps e=>⟨#[],by rw[zH (zG e hn),e];simp⟩) (fun m hm=>hm) (fun b u e=>?_) I.bare
  ·have only:=List.mem_singleton.mp hb
   subst only
   exact⟨hf.2.2.2.1,hf.2.1,hf.2.2.2.2.1,hf.2.2.2.2.2⟩
  ·by_cases hb:b=T
   ·subst hb;rw[zD]at e;cases e;exact new
   ·rw[zH hb]at e
    exact(I.hok b u e).stay (fun c v _ q=>q) (fun c q=>by rw[zH (zG q hn)];exact q) fun c xs q=>by rw[zH (zG q hn)];exact q
 exact J
end
end L2
namespace L2
open PySem PySem.Spec PyProof.Rows Own Ts PySem.W
section
variable {X:Cx}
end
end L2
namespace L2
open PySem PySem.Spec PyProof.Rows Own
section
variable {X:Cx}{pins:List (Addr × Obj)}{σ:St}{H:Hp}{s:Shared}{d:Addr}{o:Obj}{kvs:List (Key × V)}
end
section
variable {X:Cx}{tg:Expr}
end
def NIv (H:Hp):KI→V→Prop
 | .inl i,v=>v=.int i
 | .inr xs,v=>∃ b,v=.ref b∧H b=some (.tup (xs.map V.int))
def NIvs (H:Hp):KN→List V→Prop
 | [],vs=>vs=[]
 | k::ks,vs=>∃ v r,vs=v::r∧NIv H k v∧NIvs H ks r
def NKey (H:Hp) (k:KN) (b:Addr):Prop:=∃ ys,H b=some (.tup ys)∧NIvs H k ys
theorem NIvs.tups {H H':Hp}(t:∀ b ys,H b=some (.tup ys)→H' b=some (.tup ys)):∀ {k:KN}{ys:List V},NIvs H k ys→NIvs H' k ys
 | [],_,h=>h
 | .inl i::k,_,h=>by
  obtain⟨v,r,e,h1,h2⟩:=h
  exact⟨v,r,e,h1,NIvs.tups t h2⟩
 | .inr xs::k,_,h=>by
  obtain⟨v,r,e,⟨b,h1,h3⟩,h2⟩:=h
  exact⟨v,r,e,⟨b,h1,t _ _ h3⟩,NIvs.tups t h2⟩
theorem NKey.tups {H H':Hp}(t:∀ b ys,H b=some (.tup ys)→H' b=some (.tup ys)) {k:KN}{b:Addr}(h:NKey H k b):NKey H' k b:=by
 obtain⟨ys,h1,h2⟩:=h
 exact⟨ys,t _ _ h1,h2.tups t⟩
section
variable {P:Program}{w:World}{H:Hp}{h:Heap}
theorem rY (ok:HOk P w H h):∀ {k:KN}{ys:List V}{its:List Value},NIvs H k ys→Vals ys its→NIts P w h k its
 | [],_,its,a,r=>by
  rw[show _=[] from a]at r
  cases r;rfl
 | k::ks,_,its,a,r=>by
  obtain⟨v,q,rfl,a1,a2⟩:=a
  cases r with
  | @cons _ u _ us hu r =>
   refine⟨u,us,rfl,?_,rY ok a2 r⟩
   cases k with
   | inl i=>rw[show v=.int i from a1]at hu;exact hu
   | inr xs =>
    obtain⟨b,rfl,hb⟩:=a1
    refine⟨b,hu,?_⟩
    have e:xs.map V.int=(xs.map (Sum.inl:Int→Key)).map kV:=by rw[List.map_map];rfl
    rw[e]at hb
    exact gb ok hb
theorem x8 (ok:HOk P w H h) {k:KN}{b:Addr}(a:NKey H k b):NIs P w h k b:=by
 obtain⟨ys,hb,a⟩:=a
 obtain⟨_,its,r,o,h1,h2,n,h3⟩:=(show ObjOk P w H h b (.tup ys) from ok b _ hb)
 exact⟨o,its.toArray,n,h1,h2,h3.1,by simpa using rY ok a r⟩
end
abbrev KVN:=List (KN × Addr × V)
def PrN:KN × Addr × V→KN × Addr × Value→Prop:=fun p q=>p.1=q.1∧p.2.1=q.2.1∧RelV p.2.2 q.2.2
def yw (xs:KVN) (k:KN):Option V:=(xs.find? fun x=>decide (x.1=k)).map (·.2.2)
def yk (xs:KVN) (k:KN) (b:Addr) (v:V):KVN:=if (yw xs k).isSome then xs.map fun x=>if x.1=k then (x.1,x.2.1,v) else x else xs++[(k,b,v)]
theorem ve {xs:KVN}{vs:List (KN × Addr × Value)}(r:Paired PrN xs vs) (k:KN):RelO (yw xs k) ((atKey vs k).map (·.2)):=by
 induction r with
 | nil=>exact True.intro
 | @cons p q ps qs h t ih =>
  unfold yw atKey at ih ⊢
  rw[List.find?_cons,List.find?_cons,h.1]
  by_cases c:q.1=k
  ·rw[decide_eq_true c];exact h.2.2
  ·rw[decide_eq_false c];exact ih
theorem lu {xs:KVN}{vs:List (KN × Addr × Value)}(r:Paired PrN xs vs) (k:KN) {v:V}{u:Value}(rv:RelV v u):Paired PrN (xs.map fun x=>if x.1=k then (x.1,x.2.1,v) else x) (vs.map (putAt k u)):=by
 induction r with
 | nil=>exact .nil
 | @cons p q ps qs h t ih =>
  refine .cons ?_ ih
  unfold putAt
  dsimp only
  by_cases c:q.1=k
  ·rw[if_pos (h.1.trans c),if_pos c];exact⟨h.1,h.2.1,rv⟩
  ·rw[if_neg (fun z=>c (h.1.symm.trans z)),if_neg c];exact h
theorem putN_rel {xs:KVN}{vs:List (KN × Addr × Value)}(r:Paired PrN xs vs) (k:KN) (b:Addr) {v:V}{u:Value}(rv:RelV v u):Paired PrN (yk xs k b v) (storedH vs k b u):=by
 have e:=(ve r k).isSome_eq
 rw[Option.isSome_map]at e
 unfold yk storedH
 rw[← e]
 by_cases c:(yw xs k).isSome=true
 ·rw[if_pos c,if_pos c];exact lu r k rv
 ·rw[if_neg c,if_neg c];exact Paired.snoc r ⟨rfl,rfl,rv⟩
theorem wg (xs:KVN) (k:KN) (b:Addr) (v:V):(yk xs k b v).length≤xs.length+1:=by
 unfold yk
 split
 ·rw[List.length_map];lia
 ·rw[List.length_append];exact Nat.le_refl _
def PhN (P:Program) (w:World) (a:Addr) (xs:KVN):Heap→Prop:=fun h=>xs.length≤sizeLine∧(a == sysModules)=false∧∃ vs,Paired PrN xs vs ∧
 ∃ o es ep,h.get? a=some o∧o.ExactDict∧o.data=.dict es ep∧es.toList=vs.map (entryOfKey (yT P w))∧(vs.map (·.1)).Nodup
def DN (P:Program) (w:World) (a:Addr) (xs:KVN):HO:=.ext (PhN P w a xs)
def KsIn (H:Hp) (xs:KVN):Prop:=∀ x∈xs,NKey H x.1 x.2.1
theorem KsIn.tups {H H':Hp}{xs:KVN}(t:∀ b ys,H b=some (.tup ys)→H' b=some (.tup ys)) (h:KsIn H xs):KsIn H' xs:=fun x hx=>(h x hx).tups t
section
variable {P:Program}{w:World}{H H':Hp}{h h':Heap}{a:Addr}{xs:KVN}
theorem dn_new (z:xs.length≤sizeLine) (hd:(a == sysModules)=false) {vs:List (KN × Addr × Value)}(r:Paired PrN xs vs) (d:h'.DictOfH (yT P w) a vs):ObjOk P w H' h' a (DN P w a xs):=by
 obtain⟨o,es,ep,h1,h2,h3,h4,_,h5⟩:=d
 refine⟨⟨z,hd,vs,r,o,es,ep,h1,h2,h3,h4,h5⟩,⟨o,h1⟩,fun k1 k2 ⟨z,hd,vs,r,o,es,ep,h1,h2,h3,h4,h5⟩ s=>⟨z,hd,vs,r,o,es,ep,s o h1,h2,h3,h4,h5⟩⟩
theorem qG (ok:HOk P w H h) (e:Rd H a (DN P w a xs)) (ks:KsIn H xs):xs.length≤sizeLine∧(a == sysModules)=false∧∃ vs,Paired PrN xs vs∧h.DictOfH (yT P w) a vs:=by
 obtain⟨⟨z,hd,vs,r,o,es,ep,h1,h2,h3,h4,h5⟩,c1,c2⟩:=(show ObjOk P w H h a (DN P w a xs) from iU ok e)
 refine⟨z,hd,vs,r,o,es,ep,h1,h2,h3,h4,?_,h5⟩
 clear h4 h5 e z c1 c2
 induction r with
 | nil=>intro x hx;exact nomatch hx
 | @cons p q ps qs hq t ih =>
  intro x hx
  rcases List.mem_cons.mp hx with here|there
  ·have:=x8 ok (ks p List.mem_cons_self)
   rw[hq.1,hq.2.1,← here]at this
   exact this
  ·exact ih (fun y hy=>ks y (List.mem_cons_of_mem _ hy)) x there
end
section
variable {X:Cx}{pins:List (Addr × Obj)}{σ:St}{H:Hp}{s:Shared}{a b:Addr}{xs:KVN}{k:KN}{v d:V}{u r:Value}{A:Around}{E:Value→Shared→Prop}
theorem kX (hu:A.units+3<cLine):(yT X.prog X.w).room A.in1:=by show A.in1.units+2<cLine;rw[Around.in1_units];lia
theorem cB {Q:Value→Shared→Prop}(hu:A.units+3<cLine) (I:Inv X pins σ H s) (e:Rd H a (DN X.prog X.w a xs)) (ks:KsIn H xs) (kb:NKey H k b) (h:∀ s',Inv X pins σ H s'→Q (.bool (yw xs k).isSome) s') :
  wpAny (model X.prog X.w) A (compareOp .In (.ref b) (.ref a)) Q E s:=by
 obtain⟨z,hd,vs,rel,dd⟩:=qG I.hok e ks
 refine wpAny_in_heap (kX hu) (x8 I.hok kb) hd dd ?_
 have q:=(ve rel k).isSome_eq
 rw[Option.isSome_map]at q
 rw[← q]
 exact h _ (I.tok _)
theorem j4 {Q:Value→Shared→Prop}(hu:A.units+3<cLine) (I:Inv X pins σ H s) (e:Rd H a (DN X.prog X.w a xs)) (ks:KsIn H xs) (kb:NKey H k b) (h:∀ s',Inv X pins σ H s'→Q (.bool (!(yw xs k).isSome)) s') :
  wpAny (model X.prog X.w) A (compareOp .NotIn (.ref b) (.ref a)) Q E s:=by
 obtain⟨z,hd,vs,rel,dd⟩:=qG I.hok e ks
 refine wpAny_notIn_heap (kX hu) (x8 I.hok kb) hd dd ?_
 have q:=(ve rel k).isSome_eq
 rw[Option.isSome_map]at q
 rw[← q]
 exact h _ (I.tok _)
theorem nv {Q:Unit→Shared→Prop}(hu:A.units+3<cLine) (I:Inv X pins σ H s) (e:H a=some (DN X.prog X.w a xs)) (ks:KsIn H xs) (kb:NKey H k b) (rv:RelV v r) (l:xs.length<sizeLine) (h:∀ s',Inv X pins σ (upd H a (DN X.prog X.w a (yk xs k b v))) s'→Q () s') :
  wpAny (model X.prog X.w) A (setItem (.ref a) (.ref b) r) Q E s:=by
 obtain⟨z,hd,vs,rel,dd⟩:=qG I.hok (.inl e) ks
 have hz:vs.length≤sizeLine:=by rw[← Paired.length rel];exact z
 have hl:(yk xs k b v).length≤sizeLine:=by have:=wg xs k b v;lia
 refine wpAny_setItem_heap (hsz:=hz) (kX hu) (x8 I.hok kb) dd fun h' dd' hs=>h _ ?_
 have he:∃ q,h'.get? a=some q:=let ⟨q,_,_,hq,_⟩:=dd';⟨q,hq⟩
 exact ow I (by rw[e];exact True.intro) hs he (dn_new hl hd (putN_rel rel k b rv) dd')
end
section
variable {prog:Program}{w:World}{A:Around}{E:Value→Shared→Prop}{s:Shared}{d:Addr}
theorem mY {o:Obj}{es:Array DictEntry}{ep:Nat}{Q:Value→Shared→Prop}(ho:s.heap.get? d=some o) (hx:o.ExactDict) (hd:o.data=.dict es ep) (hs:(d == sysModules)=false) (h:Q (.int es.size s.toks) { s with toks:=s.toks+1 }) :
  wpAny (model prog w) A (Builtin.«dict.__len__» ⟨[.ref d],[]⟩) (fun fin s'=>∃ r,fin=.done (.ret r)∧Q r s') E s:=by
 have ty:s.TypeIs (.ref d) "dict":=⟨o,ho,hx.1⟩
 unfold Builtin.«dict.__len__» Builtin.Dict.dictSlotNone
 refine wpAny_bind (wpAny_bind (wpAny_notOrdered_dict ty ?_))
 refine wpAny_bind ?_
 show wpAny _ _ (pure ((.ref d,[]):Value × List Value)) _ _ _
 refine wpAny_pure (wpAny_pure (wpAny_bind ?_))
 show wpAny _ _ (pure d) _ _ _
 unfold dictSize
 refine wpAny_pure (wpAny_bind (wpAny_bind (wpAny_dictEntries ho hd (wpAny_pure (wpAny_bind (wpAny_pendingCount_other hs ?_))))))
 unfold retInt
 have g:Q (.int ((es.size:Int)+((0:Nat):Int)) s.toks) { s with toks:=s.toks+1 }:=by
  rw[show ((es.size:Int)+((0:Nat):Int))=es.size from Int.add_zero _]
  exact h
 exact wpAny_bind (wpAny_mkInt (wpAny_pure ⟨_,rfl,g⟩))
theorem ki {o:Obj}{es:Array DictEntry}{ep:Nat}{Q:Value→Shared→Prop}(ho:s.heap.get? d=some o) (hx:o.ExactDict) (hd:o.data=.dict es ep) (hs:(d == sysModules)=false) (hf:(es.size:Int)<2 ^ 63) (h:∀ t,Q (.int es.size t) { s with toks:=s.toks+1+1 }) :
  wpAny (model prog w) A (Builtin.«len» ⟨[.ref d],[]⟩) (fun fin s'=>∃ r,fin=.done (.ret r)∧Q r s') E s:=by
 have ty:s.TypeIs (.ref d) "dict":=⟨o,ho,hx.1⟩
 unfold Builtin.«len»
 refine wpAny_bind ?_
 show wpAny _ _ (pure (Value.ref d)) _ _ _
 refine wpAny_pure (wpAny_bind (wpAny_callSpecial?_slot ty PySem.F.slot_dict_len (wpAny_call_entry PySem.F.slot_dict_len ty PySem.F.entry_dict_len (mY ho hx hd hs ?_) (PySem.F.args_dict_len_1 _))))
 show wpAny _ _ (holding [Value.int (es.size:Int) s.toks] (asIndex (.int (es.size:Int) s.toks)) >>= _) _ _ _
 refine wpAny_bind (wpAny_holding (show wpAny _ _ (pure (es.size:Int)) _ _ _ from wpAny_pure (wpAny_bind (wpAny_letGo ?_))))
 dsimp only
 rw[if_neg (by lia),if_neg (by lia)]
 unfold retInt
 exact wpAny_bind (wpAny_mkInt (wpAny_pure ⟨_,rfl,h _⟩))
end
section
variable {X:Cx}{pins:List (Addr × Obj)}{σ:St}{H:Hp}{s:Shared}{a:Addr}{xs:KVN}{A:Around}{E:Value→Shared→Prop}
theorem eE {P:Program}{w:World}{h:Heap}(ok:HOk P w H h) (e:Rd H a (DN P w a xs)):(a == sysModules)=false∧∃ o es ep,h.get? a=some o∧o.ExactDict∧o.data=.dict es ep∧es.size=xs.length∧(es.size:Int)<2 ^ 63:=by
 obtain⟨⟨z,hd,vs,r,o,es,ep,h1,h2,h3,h4,h5⟩,_,_⟩:=(show ObjOk P w H h a (DN P w a xs) from iU ok e)
 have l:es.size=xs.length:=by rw[size_of_entries h4,← Paired.length r]
 refine⟨hd,o,es,ep,h1,h2,h3,l,?_⟩
 rw[sizeLine_eq]at z
 lia
theorem eF {Q:Value→Shared→Prop}(I:Inv X pins σ H s) (e:Rd H a (DN X.prog X.w a xs)) (h:∀ t s',Inv X pins σ H s'→Q (.int xs.length t) s'):wpAny (model X.prog X.w) A (call (.builtin "len") [.ref a]) Q E s:=by
 obtain⟨hd,o,es,ep,h1,h2,h3,l,f⟩:=eE I.hok e
 refine Calls.call_function_entry kind_len plain_len entry_len (args_len1 _) (ki h1 h2 h3 hd f fun t=>?_)
 rw[l]
 exact h _ _ (I.tok _)
end
def NAt (P:Program) (w:World) (H:Hp) (a:Addr) (xs:KVN):Prop:=Rd H a (DN P w a xs)∧KsIn H xs
def jZ (P:Program) (w:World) (ty td:TE):TE:=fun σ H Q=>ty σ H fun y H1=>td σ H1 fun x H2=>∃ a b xs k,x=.ref a∧y=.ref b∧NAt P w H2 a xs∧NKey H2 k b∧Q (.bl (!(yw xs k).isSome)) H2
def fu (P:Program) (w:World) (td ty tv:TE):TS:=fun D σ H=>tv σ H fun v H1=>td σ H1 fun x H2=>ty σ H2 fun y H3=>∃ a b xs k,x=.ref a∧y=.ref b∧H3 a=some (DN P w a xs)∧KsIn H3 xs∧NKey H3 k b∧xs.length<sizeLine∧D.nx σ (upd H3 a (DN P w a (yk xs k b v)))
section
variable {X:Cx}{o i e f value:Expr}{pos pos' tpos apos cpos:Pos}{td ty tv tx:TE}
theorem vB (hu:X.A.units+3<cLine) (hi:PE X i ty) (ho:PE X o td):PC X .NotIn i o (jZ X.prog X.w ty td):=by
 intro pins s σ H Q I h
 refine thn (hi pins s σ H _ I h) fun iv s1 ⟨y,H1,I1,ry,q1⟩=>thn (ho pins s1 σ H1 _ I1 q1) fun u s2 ⟨x,H2,I2,rx,a,b,xs,k,ex,ey,n,kb,q2⟩=>?_
 subst ex ey
 cases (show u=Value.ref a from rx)
 cases (show iv=Value.ref b from ry)
 exact j4 hu I2 n.1 n.2 kb fun s3 I3=>⟨.bl (!(yw xs k).isSome),H2,I3,rfl,q2⟩
theorem oH (hu:X.A.units+3<cLine) (ho:PE X o td) (hi:PE X i ty) (hv:PE X value tv) (hs:swapsWith value (some (.Subscript o i pos')) pos.line X.env=pure false) :
  PS X (.Assign [.Subscript o i pos'] value pos) (fu X.prog X.w td ty tv):=by
 intro pins s σ H D I h
 refine wpAny_Assign_Subscript (thn (hv pins s σ H _ I h) fun r s1 ⟨v,H1,I1,rv,q1⟩=>thn (ho pins s1 σ H1 _ I1 q1) fun u s2 ⟨x,H2,I2,rx,q2⟩=>thn (hi pins s2 σ H2 _ I2 q2) fun iv s3 ⟨y,H3,I3,ry,a,b,xs,k,ex,ey,hd,ks,kb,l,q3⟩=>?_) hs
 subst ex ey
 cases (show u=Value.ref a from rx)
 cases (show iv=Value.ref b from ry)
 exact nv hu I3 hd ks kb rv l fun s4 I4=>⟨σ,_,I4,q3⟩
theorem wD:CallR X (.builtin "len") (fun vs H Q=>∃ a xs,vs=[.ref a]∧Rd H a (DN X.prog X.w a xs)∧Q (.int xs.length) H):=by
 intro pins s σ H vs us Q I rv ⟨a,xs,e,d,q⟩
 subst e
 obtain⟨u,rfl,ru⟩:=rv.one
 cases (show u=Value.ref a from ru)
 exact eF I d fun t s' I'=>⟨.int xs.length,H,I',⟨t,rfl⟩,q⟩
def fQ (P:Program) (w:World):TE:=fun _ H Q=>∀ p,H p=none→Q (.ref p) (upd H p (DN P w p []))
theorem jh:PE X (.Dict [] [] pos) (fQ X.prog X.w):=fun pins s σ H Q I h =>
 wpAny_Dict_empty ⟨.ref s.heap.objs.size,_,I.laid (a:=s.heap.objs.size) (o:=DN X.prog X.w s.heap.objs.size []) (t':=s.toks) (fun _ _ q=>Heap.get?_push_of_some _ q) (Nat.le_refl _)
  (dn_new (vs:=[]) (Nat.zero_le _) (beq_eq_false_iff_ne.mpr (Nat.ne_of_gt I.big)) .nil (Heap.DictOfH.new _)),rfl,h _ (I.hok.fresh (Nat.le_refl _))⟩
end
section
variable {X:Cx}{e f:Expr}{pos:Pos}{ty tv:TE}
end
section
variable {prog:Program}{w:World}{A:Around}{E:Value→Shared→Prop}{s:Shared}{d:Addr}
theorem mR {Q:Int→Shared→Prop}(q:Q (reduceHash 0xFCA86420) { s with toks:=s.toks+1 }):wpAny (model prog w) A (pyHash .none) Q E s:=by
 show wpAny (model prog w) A (pyHashByItsType .none) Q E s
 refine W.pyHash_slot (T:="NoneType") (id:="NoneType.__hash__") (B:=Builtin.«NoneType.__hash__») rfl F.slot_NoneType_hash F.entry_NoneType_hash (F.args_NoneType_hash_1 _) (by decide) (.inl rfl) ?_
 unfold Builtin.«NoneType.__hash__»
 refine wpAny_bind ?_
 show wpAny _ _ (pure _) _ _ _
 unfold retInt
 exact wpAny_pure (wpAny_bind (wpAny_mkInt (wpAny_pure ⟨_,_,rfl,q⟩)))
theorem vF {a:Addr}{k:KN}{Q:Bool→Shared→Prop}(hu:A.units<cLine) (hx:NIs prog w s.heap k a) (q:Q false s):wpAny (model prog w) A (eqBool (.ref a) .none) Q E s:=by
 obtain⟨as,rx⟩:=hx.reads
 exact PySem.SeqAt.eqBoolOverData prog w A E s _ _ _ .none as [] Q rx .none (pT k).1 rfl (by show A.units+min _ 0<cLine;lia) q
theorem pC {n:Nat}{Q:Bool→Shared→Prop}(q:Q true s):wpAny (model prog w) A (eqIsQuiet n .none) Q E s:=by
 cases n<;>exact wpAny_pure q
theorem sw {α β:Type}{f:α→β→Sem (ForInStep β)}{b:β}:∀ (l:List α) {Q:β→Shared→Prop},(∀ i∈l,∀ R:ForInStep β→Shared→Prop,R (.yield b) s→wpAny (model prog w) A (f i b) R E s)→Q b s→wpAny (model prog w) A (forIn l b f) Q E s
 | [],Q,_,q=>by rw[List.forIn_nil];exact wpAny_pure q
 | i::l,Q,h,q=>by
  rw[List.forIn_cons]
  exact wpAny_bind (h i List.mem_cons_self _ (sw l (fun j hj=>h j (List.mem_cons_of_mem _ hj)) q))
theorem nG {stored:List Value}{Q:Bool→Shared→Prop}(h:∀ v∈stored,∃ a k,v=.ref a∧NIs prog w s.heap k a) (q:Q false s):wpAny (model prog w) A (tableMayTell .none stored) Q E s:=by
 unfold tableMayTell
 by_cases c:stored.isEmpty=true
 ·rw[if_pos c];exact wpAny_pure q
 rw[if_neg c]
 refine wpAny_bind (pC (wpAny_bind (sw stored (fun v hv R r=>?_) (wpAny_pure q))))
 obtain⟨a,k,rfl,hk⟩:=h v hv
 exact wpAny_bind (uB hk (wpAny_pure r))
theorem mX {o:Obj}{es:Array DictEntry}{ep:Nat}{h:Int}{Q:Option Nat→Shared→Prop}(hu:A.units<cLine) (ho:s.heap.get? d=some o) (hd:o.data=.dict es ep) (hk:∀ e∈es.toList,∃ a k,e.key=.ref a∧NIs prog w s.heap k a) (q:Q none s) :
  wpAny (model prog w) A (dictFind d .none h) Q E s:=by
 have key:∀ (i:Nat) (e:DictEntry),es[i]?=some e→∃ a k,e.key=.ref a∧NIs prog w s.heap k a:=fun i e he=>hk e (by
  obtain⟨l,z⟩:=Array.getElem?_eq_some_iff.mp he
  rw[← z];exact Array.getElem_mem_toList l)
 unfold dictFind
 refine wpAny_holding (wpAny_bind (wpAny_dictEntries ho hd ?_))
 by_cases c:(Value.none::List.filterMap (fun i=>Option.map (fun x=>x.key) es[i]?) (placesWithHash es.size (fun i=>Option.map (fun x=>x.hash) es[i]?) h)).all carriedByValue=true
 ·refine(congrArg (fun m=>wpAny (model prog w) A m Q E s) (if_pos c)).mpr ?_
  unfold dictWalkPlain
  refine wpAny_bind (sw _ (fun i hi R r=>?_) (wpAny_pure q))
  cases he:es[i]? with
  | none=>exact wpAny_pure r
  | some e =>
   obtain⟨a,k,ea,ka⟩:=key i e he
   by_cases ch:(e.hash == h)=true
   ·refine(congrArg (fun m=>wpAny (model prog w) A m R E s) (if_pos ch)).mpr (wpAny_bind (wpAny_dictEpoch ho hd (wpAny_bind ?_)))
    rw[ea]
    refine vF hu ka (wpAny_bind (wpAny_dictEpoch ho hd ?_))
    dsimp only
    rw[if_neg (c:=(ep != ep)=true) (by simp),if_neg Bool.false_ne_true]
    exact wpAny_bind (wpAny_rule (wpAny_pure r))
   ·exact(congrArg (fun m=>wpAny (model prog w) A m R E s) (if_neg ch)).mpr (wpAny_pure r)
 ·refine(congrArg (fun m=>wpAny (model prog w) A m Q E s) (if_neg c)).mpr ?_
  have hst:∀ v∈List.filterMap (fun i=>Option.map (fun x=>x.key) es[i]?) (placesWithHash es.size (fun i=>Option.map (fun x=>x.hash) es[i]?) h),∃ a k,v=.ref a∧NIs prog w s.heap k a:=fun v hv=>by
   obtain⟨i,-,e,he,rfl⟩:∃ i:Nat,True∧∃ e:DictEntry,es[i]?=some e∧e.key=v:=by
    obtain⟨i,p⟩:=List.mem_filterMap.mp hv
    exact⟨i,True.intro,Option.map_eq_some_iff.mp p.2⟩
   exact key i e he
  by_cases c2:(List.filterMap (fun i=>Option.map (fun x=>x.key) es[i]?) (placesWithHash es.size (fun i=>Option.map (fun x=>x.hash) es[i]?) h) == [Value.none])=true
  ·refine(congrArg (fun m=>wpAny (model prog w) A m Q E s) (if_pos c2)).mpr (wpAny_bind (wpAny_pure ?_))
   dsimp only
   rw[if_neg (by simp)]
   refine wpAny_bind (sw _ (fun i hi R r=>?_) (wpAny_pure q))
   cases he:es[i]? with
   | none=>exact wpAny_pure r
   | some e =>
    obtain⟨a,k,ea,ka⟩:=key i e he
    by_cases ch:(e.hash == h)=true
    ·refine(congrArg (fun m=>wpAny (model prog w) A m R E s) (if_pos ch)).mpr (wpAny_bind (wpAny_dictEpoch ho hd (wpAny_bind ?_)))
     rw[ea]
     refine vF hu ka (wpAny_bind (wpAny_dictEpoch ho hd ?_))
     rw[if_neg (c:=(ep != ep)=true) (by simp),if_neg Bool.false_ne_true]
     refine wpAny_bind (wpAny_rule ?_)
     rw[if_neg (by simp)]
     exact wpAny_pure r
    ·exact(congrArg (fun m=>wpAny (model prog w) A m R E s) (if_neg ch)).mpr (wpAny_pure r)
  ·refine(congrArg (fun m=>wpAny (model prog w) A m Q E s) (if_neg c2)).mpr (wpAny_bind (nG hst ?_))
   dsimp only
   rw[if_neg (by simp)]
   refine wpAny_bind (sw _ (fun i hi R r=>?_) (wpAny_pure q))
   cases he:es[i]? with
   | none=>exact wpAny_pure r
   | some e =>
    obtain⟨a,k,ea,ka⟩:=key i e he
    by_cases ch:(e.hash == h)=true
    ·refine(congrArg (fun m=>wpAny (model prog w) A m R E s) (if_pos ch)).mpr (wpAny_bind (wpAny_dictEpoch ho hd (wpAny_bind ?_)))
     rw[ea]
     refine vF hu ka (wpAny_bind (wpAny_dictEpoch ho hd ?_))
     rw[if_neg (c:=(ep != ep)=true) (by simp),if_neg Bool.false_ne_true]
     refine wpAny_bind (wpAny_rule ?_)
     rw[if_neg (by simp)]
     exact wpAny_pure r
    ·exact(congrArg (fun m=>wpAny (model prog w) A m R E s) (if_neg ch)).mpr (wpAny_pure r)
theorem jB {o:Obj}{es:Array DictEntry}{ep:Nat}{Q:Option Value→Shared→Prop}(hu:A.units<cLine) (ho:s.heap.get? d=some o) (hd:o.data=.dict es ep) (hk:∀ e∈es.toList,∃ a k,e.key=.ref a∧NIs prog w s.heap k a) (q:Q none { s with toks:=s.toks+1 }) :
  wpAny (model prog w) A (dictGet d .none) Q E s:=by
 unfold dictGet
 exact wpAny_holding (wpAny_bind (mR (wpAny_bind (mX (s:={ s with toks:=s.toks+1 }) hu ho hd hk (wpAny_pure q)))))
theorem uh {o:Obj}{es:Array DictEntry}{ep:Nat}{Q:Value→Shared→Prop}(hu:A.units<cLine) (ho:s.heap.get? d=some o) (hx:o.ExactDict) (hd:o.data=.dict es ep) (hs:(d == sysModules)=false) (hk:∀ e∈es.toList,∃ a k,e.key=.ref a∧NIs prog w s.heap k a) (q:Q (.bool false) { s with toks:=s.toks+1 }) :
  wpAny (model prog w) A (Builtin.«dict.__contains__» ⟨[.ref d,.none],[]⟩) (fun fin s'=>∃ r,fin=.done (.ret r)∧Q r s') E s:=by
 unfold Builtin.«dict.__contains__»
 refine wpAny_bind ?_
 show wpAny _ _ (pure (d,Value.none)) _ _ _
 refine wpAny_pure (wpAny_bind (jB hu ho hd hk ?_))
 show wpAny _ _ (Builtin.Dict.pendingKey? d .none >>= _) _ _ _
 exact wpAny_bind (wpAny_pendingKey_other hs (wpAny_pure ⟨_,rfl,q⟩))
section
variable {X:Cx}{pins:List (Addr × Obj)}{σ:St}{H:Hp}{a:Addr}{xs:KVN}
theorem kc {Q:Value→Shared→Prop}(hu:A.units+3<cLine) (I:Inv X pins σ H s) (e:Rd H a (DN X.prog X.w a xs)) (ks:KsIn H xs) (h:∀ s',Inv X pins σ H s'→Q (.bool false) s') :
  wpAny (model X.prog X.w) A (compareOp .In .none (.ref a)) Q E s:=by
 obtain⟨z,hd,vs,rel,o,es,ep,h1,h2,h3,h4,h5,h6⟩:=qG I.hok e ks
 have hk:∀ e∈es.toList,∃ a k,e.key=.ref a∧NIs X.prog X.w s.heap k a:=fun e he=>by
  rw[h4]at he
  obtain⟨x,hx,rfl⟩:=List.mem_map.mp he
  exact⟨x.2.1,x.1,rfl,h5 x hx⟩
 have ty:s.TypeIs (.ref a) "dict":=⟨o,h1,h2.1⟩
 show wpAny _ _ (contains (.ref a) .none >>= _) _ _ _
 exact wpAny_bind (wpAny_contains_slot ty slot_dict_contains (wpAny_call_entry slot_dict_contains ty entry_dict_contains
  (uh (by rw[Around.in1_units];lia) h1 h2 h3 hd hk (wpAny_truthy_bool (wpAny_pure (h _ (I.tok _))))) (args_dict_contains _ _)))
end
def eA (P:Program) (w:World):V→V→Hp→VK→Prop:=fun x y H Q=>∃ a xs,y=.ref a∧NAt P w H a xs∧((∃ b k,x=.ref b∧NKey H k b∧Q (.bl (yw xs k).isSome) H)∨(x=.non∧Q (.bl false) H))
theorem gK {X:Cx}(hu:X.A.units+3<cLine):OpR X (compareOp .In) (eA X.prog X.w):=by
 intro pins s σ H x y v u Q I rx ry ⟨a,xs,ey,n,q⟩
 subst ey
 cases (show u=Value.ref a from ry)
 rcases q with ⟨b,k,ex,kb,q⟩|⟨ex,q⟩
 ·subst ex
  cases (show v=Value.ref b from rx)
  exact cB hu I n.1 n.2 kb fun s3 I3=>⟨.bl (yw xs k).isSome,H,I3,rfl,q⟩
 ·subst ex
  cases (show v=Value.none from rx)
  exact kc hu I n.1 n.2 fun s3 I3=>⟨.bl false,H,I3,rfl,q⟩
end
section
variable {prog:Program}{w:World}{A:Around}{E:Value→Shared→Prop}{s:Shared}{d b:Addr}{K:Type} [DecidableEq K] {knd:HeapKind prog w K}{xs:List (K × Addr × Value)}{k:K}{v:Value}
def mergeN (xs ys:List (K × Addr × Value)):List (K × Addr × Value):=ys.foldl (fun acc y=>storedH acc y.1 y.2.1 y.2.2) xs
theorem nJ (acc:List (K × Addr × Value)) (y:K × Addr × Value):(storedH acc y.1 y.2.1 y.2.2).length≤acc.length+1:=by
 unfold storedH
 split
 ·rw[List.length_map];lia
 ·rw[List.length_append];exact Nat.le_refl _
end
section
variable {prog:Program}{w:World}{A:Around}{E:Value→Shared→Prop}{s:Shared}{d:Addr}{K:Type} [DecidableEq K] {knd:HeapKind prog w K}{xs ys:List (K × Addr × Value)}
end
def xi (xs ys:KVN):KVN:=ys.foldl (fun acc y=>yk acc y.1 y.2.1 y.2.2) xs
theorem pK:∀ {ys:KVN}{us:List (KN × Addr × Value)}{xs:KVN}{vs:List (KN × Addr × Value)},Paired PrN ys us→Paired PrN xs vs→Paired PrN (xi xs ys) (mergeN vs us):=by
 intro ys us xs vs r
 induction r generalizing xs vs with
 | nil=>intro q;exact q
 | @cons p u ps us h t ih =>
  intro q
  have e:=putN_rel q p.1 p.2.1 h.2.2
  rw[show storedH vs p.1 p.2.1 u.2.2=storedH vs u.1 u.2.1 u.2.2 by rw[h.1,h.2.1]]at e
  exact ih e
theorem uI:∀ (ys xs:KVN),(xi xs ys).length≤xs.length+ys.length
 | [],xs=>Nat.le_refl _
 | y::ys,xs=>by
  have h1:=uI ys (yk xs y.1 y.2.1 y.2.2)
  have h2:=wg xs y.1 y.2.1 y.2.2
  show (xi (yk xs y.1 y.2.1 y.2.2) ys).length≤_
  rw[List.length_cons];lia
section
variable {X:Cx}{pins:List (Addr × Obj)}{σ:St}{H:Hp}{s:Shared}{a b:Addr}{xs ys:KVN}{A:Around}{E:Value→Shared→Prop}
end
section
variable {prog:Program}{w:World}{A:Around}{E:Value→Shared→Prop}{s:Shared}{d:Addr}{o:Obj}{es:Array DictEntry}{ep:Nat}
theorem mN {Q:Value→Shared→Prop}(ho:s.heap.get? d=some o) (hx:o.ExactDict) (hd:o.data=.dict es ep) (hs:(d == sysModules)=false)
  (q:Q (.ref s.heap.objs.size) { s with heap:=s.heap.push { cls:=.type "dict_keyiterator",data:=.fields #[.ref d,.int 0 0,.int es.size 0,.int ep 0] } }):wpAny (model prog w) A (pyIter (.ref d)) Q E s:=by
 have ty:s.TypeIs (.ref d) "dict":=⟨o,ho,hx.1⟩
 have nx:=F.slot_dict_keyiterator_next.lookup
 have body:wpAny (model prog w) A.in1 (Builtin.«dict.__iter__» ⟨[.ref d],[]⟩) (fun fin s'=>∃ v,fin=.done (.ret v)∧∃ T' r,s'.TypeIs v T'∧typeLookup (Value.type T') (Str.ofString "__next__")=pure (some r)∧Q v s') E s:=by
  unfold Builtin.«dict.__iter__» Builtin.Dict.dictSlotNone
  refine wpAny_bind (wpAny_bind (wpAny_notOrdered_dict ty (wpAny_bind ?_)))
  show wpAny _ _ (pure ((.ref d,[]):Value × List Value)) _ _ _
  refine wpAny_pure (wpAny_pure (wpAny_bind ?_))
  refine(show wpAny _ _ (pure d) _ _ _ from wpAny_pure (wpAny_bind ?_))
  unfold Builtin.Dict.showsAll
  rw[if_neg (by rw[hs];simp)]
  refine wpAny_pure (wpAny_bind (wpAny_dictEntries ho hd (wpAny_bind (wpAny_dictEpoch ho hd (wpAny_bind ?_)))))
  exact wpAny_newObj_type (wpAny_pure ⟨_,rfl,_,_,⟨_,Heap.get?_push_size _ rfl,rfl⟩,nx,q⟩)
 exact wpAny_pyIter_slot ty F.slot_dict_iter (wpAny_call_entry F.slot_dict_iter ty F.entry_dict_iter body (F.args_dict_iter_1 _))
end
section
variable {prog:Program}{w:World}{A:Around}{E:Value→Shared→Prop}{s:Shared}{d it:Addr}{o:Obj}{es:Array DictEntry}{ep i:Nat}{e:DictEntry}
theorem nu {Q:Value→Shared→Prop}(ho:s.heap.get? d=some o) (hd:o.data=.dict es ep) (hi:s.heap.IsKeyIter it d i es.size ep) (he:es[i]?=some e)
  (q:∀ h',h'.IsKeyIter it d (i+1) es.size ep→(∀ b u,b≠it→s.heap.get? b=some u→h'.get? b=some u)→Q e.key { s with heap:=h' }) :
  wpAny (model prog w) A (Builtin.«dict_keyiterator.__next__» ⟨[.ref it],[]⟩) (fun fin s'=>∃ v,fin=.done (.ret v)∧Q v s') E s:=by
 obtain⟨q1,g1,g2,g3⟩:=id hi
 have ty:s.TypeIs (.ref it) "dict_keyiterator":=⟨q1,g1,g2⟩
 unfold Builtin.«dict_keyiterator.__next__»
 refine wpAny_bind ?_
 show wpAny _ _ (pure (Value.ref it)) _ _ _
 refine wpAny_pure (wpAny_bind (wpAny_bind (wpAny_bind (wpAny_typeNameOfWhole_keyiter ty (wpAny_pure (wpAny_bind (wpAny_fieldsOf g1 g3 ?_)))))))
 show wpAny _ _ (Builtin.Dict_items.addrOf (Value.ref d) >>= _) _ _ _
 refine wpAny_bind (show wpAny _ _ (pure d) _ _ _ from wpAny_pure (wpAny_bind (wpAny_dictEntries ho hd ?_)))
 dsimp only
 rw[if_neg (c:=((es.size:Int) != (es.size:Int))=true) (by simp)]
 refine wpAny_bind (show wpAny _ _ (pure d) _ _ _ from wpAny_pure (wpAny_bind (wpAny_dictEpoch ho hd ?_)))
 rw[if_neg (c:=((ep:Int) != (ep:Int))=true) (by simp)]
 refine wpAny_pure ?_
 dsimp only
 rw[if_neg (c:=(i:Int)<0) (by lia),Int.toNat_natCast,he]
 refine wpAny_bind (wpAny_bind (wpAny_typeNameOfWhole_keyiter ty (wpAny_pure (wpAny_bind (wpAny_isOneOf_keyiter ty ?_)))))
 show wpAny _ _ (setField (.ref it) 1 (rawInt ((i:Int)+1)) >>= _) _ _ _
 refine wpAny_bind (wpAny_setField g1 g3 (by show 1<4;lia) ?_)
 have nd:(q1.mapFields (·.setIfInBounds 1 (rawInt ((i:Int)+1)))).data=.fields #[.ref d,.int ((i+1:Nat):Int) 0,.int es.size 0,.int ep 0]:=Obj.data_mapFields g3 _
 have sm:=Heap.SameBut.update s.heap it (Obj.mapFields (·.setIfInBounds 1 (rawInt ((i:Int)+1))))
 have g1':=Heap.get?_update_self (Obj.mapFields (·.setIfInBounds 1 (rawInt ((i:Int)+1)))) g1 (Obj.isFreed_of_fields nd)
 have hi':(s.heap.update it (Obj.mapFields (·.setIfInBounds 1 (rawInt ((i:Int)+1))))).IsKeyIter it d (i+1) es.size ep:=⟨_,g1',(Obj.cls_mapFields ..).trans g2,nd⟩
 refine wpAny_bind (wpAny_holding (wpAny_bind (wpAny_isOneOf_keyiter ⟨_,g1',(Obj.cls_mapFields ..).trans g2⟩ ?_)))
 exact wpAny_pure (wpAny_pure ⟨_,rfl,q _ hi' fun b u nb hb=>(sm.2 b nb).trans hb⟩)
theorem kY {Q:Option Value→Shared→Prop}(ho:s.heap.get? d=some o) (hd:o.data=.dict es ep) (hi:s.heap.IsKeyIter it d i es.size ep) (he:es[i]?=some e)
  (q:∀ h',h'.IsKeyIter it d (i+1) es.size ep→(∀ b u,b≠it→s.heap.get? b=some u→h'.get? b=some u)→Q (some e.key) { s with heap:=h' }):wpAny (model prog w) A (pyNext (.ref it)) Q E s:=by
 obtain⟨q1,g1,g2,g3⟩:=id hi
 have ty:s.TypeIs (.ref it) "dict_keyiterator":=⟨q1,g1,g2⟩
 unfold pyNext
 exact wpAny_bind (wpAny_attempt (wpAny_callSpecial?_slot ty F.slot_dict_keyiterator_next (wpAny_call_entry F.slot_dict_keyiterator_next ty F.entry_dict_keyiterator_next (nu ho hd hi he fun h' hi' k=>wpAny_pure (q h' hi' k)) (F.args_dict_keyiterator_next_1 _))))
theorem mG {Q:Fin→Shared→Prop}(hh:A.handled=none) (ho:s.heap.get? d=some o) (hd:o.data=.dict es ep) (hi:s.heap.IsKeyIter it d i es.size ep) (he:es[i]?=none)
  (q:∀ h' ev,Heap.ExtBut it s.heap h'→({ s with heap:=h' }:Shared).TypeIs ev "StopIteration"→E ev { s with heap:=h' }) :
  wpAny (model prog w) A (Builtin.«dict_keyiterator.__next__» ⟨[.ref it],[]⟩) Q E s:=by
 obtain⟨q1,g1,g2,g3⟩:=id hi
 have ty:s.TypeIs (.ref it) "dict_keyiterator":=⟨q1,g1,g2⟩
 unfold Builtin.«dict_keyiterator.__next__»
 refine wpAny_bind ?_
 show wpAny _ _ (pure (Value.ref it)) _ _ _
 refine wpAny_pure (wpAny_bind (wpAny_bind (wpAny_bind (wpAny_typeNameOfWhole_keyiter ty (wpAny_pure (wpAny_bind (wpAny_fieldsOf g1 g3 ?_)))))))
 show wpAny _ _ (Builtin.Dict_items.addrOf (Value.ref d) >>= _) _ _ _
 refine wpAny_bind (show wpAny _ _ (pure d) _ _ _ from wpAny_pure (wpAny_bind (wpAny_dictEntries ho hd ?_)))
 dsimp only
 rw[if_neg (c:=((es.size:Int) != (es.size:Int))=true) (by simp)]
 refine wpAny_bind (show wpAny _ _ (pure d) _ _ _ from wpAny_pure (wpAny_bind (wpAny_dictEpoch ho hd ?_)))
 rw[if_neg (c:=((ep:Int) != (ep:Int))=true) (by simp)]
 refine wpAny_pure ?_
 dsimp only
 rw[if_neg (c:=(i:Int)<0) (by lia),Int.toNat_natCast,he]
 refine wpAny_bind (wpAny_bind (wpAny_typeNameOfWhole_keyiter ty (wpAny_pure (wpAny_bind ?_))))
 show wpAny _ _ (setField (.ref it) 0 .none) _ _ _
 refine wpAny_setField g1 g3 (by show 0<4;lia) (wpAny_bind ?_)
 unfold newExc newTuple
 refine wpAny_bind (wpAny_newObj_type ?_ (by show 0≤sizeLine;exact Nat.zero_le _))
 unfold firstArgMember
 refine wpAny_bind (wpAny_bind (wpAny_pure (wpAny_pure (wpAny_newObj_type (wpAny_raiseNew_none hh ?_) ?_))))
 rotate_left
 ·show (_++_:Array Value).size≤sizeLine+2
  rw[Array.size_append]
  show 6+0≤sizeLine+2
  rw[sizeLine_eq];lia
 refine q _ _ (fun b u nb hb=>?_) ⟨_,Heap.get?_push_size _ rfl,rfl⟩
 exact Heap.get?_push_of_some _ (Heap.get?_push_of_some _ (((Heap.SameBut.update s.heap it _).2 b nb).trans hb))
theorem kZ {Q:Option Value→Shared→Prop}(hh:A.handled=none) (ho:s.heap.get? d=some o) (hd:o.data=.dict es ep) (hi:s.heap.IsKeyIter it d i es.size ep) (he:es[i]?=none)
  (q:∀ h',Heap.ExtBut it s.heap h'→Q none { s with heap:=h' }):wpAny (model prog w) A (pyNext (.ref it)) Q E s:=by
 obtain⟨q1,g1,g2,g3⟩:=id hi
 have ty:s.TypeIs (.ref it) "dict_keyiterator":=⟨q1,g1,g2⟩
 unfold pyNext
 refine wpAny_bind (wpAny_attempt (wpAny_callSpecial?_slot ty F.slot_dict_keyiterator_next (wpAny_call_entry F.slot_dict_keyiterator_next ty F.entry_dict_keyiterator_next (mG hh ho hd hi he fun h' ev k te=>?_) (F.args_dict_keyiterator_next_1 _))))
 exact wpAny_bind (wpAny_isInstance te isSubtype_stop (wpAny_pure (q h' k)))
end
section
variable {X:Cx}{pins:List (Addr × Obj)}{σ:St}{H:Hp}{s:Shared}{d:Addr}{o:Obj}{xs:KVN}
end
section
variable {X:Cx}{tg:Expr}
end
section
variable {prog:Program}{w:World}{A:Around}{E:Value→Shared→Prop}{s:Shared}{d it:Addr}{o:Obj}{es:Array DictEntry}{ep i:Nat}{e:DictEntry}{k0 v0:Value}
end
section
variable {X:Cx}
end
end L2
namespace L2
open PySem PySem.Spec PyProof.Rows Own PySem.W
section
variable {prog:Program}{w:World}{d:Addr}{o:Obj}{es:Array DictEntry}{ep:Nat}
theorem lI (hx:o.ExactDict) (hd:o.data=.dict es ep) (hs:(d == sysModules)=false):KdlSrc prog w "dict" d d es.size (fun i v=>∃ e,es[i]?=some e∧v=e.key) (fun h=>h.get? d=some o) where
 type:=fun s ho=>⟨o,ho,hx.1⟩
 there:=fun h ho=>⟨Heap.lt_size ho,Heap.lt_size ho⟩
 keep:=fun h h' ho k=>k d (.inl rfl) _ ho
 notList:=by decide
 notTuple:=by decide
 hint:=fun A E s Q ho q=>by
  have ty:s.TypeIs (.ref d) "dict":=⟨o,ho,hx.1⟩
  show wpAny _ _ (specialOf (.ref d) _ >>= _) _ _ _
  refine wpAny_bind (wpAny_specialOf (T:="dict") ty F.slot_dict_len.lookup ?_)
  show wpAny _ _ (isInstance (.ref d) (.type "dict") >>= _) _ _ _
  refine wpAny_bind (wpAny_isInstance (T:="dict") (b:=true) ty rfl ?_)
  show wpAny _ _ (typeOf (.ref d) >>= _) _ _ _
  exact wpAny_bind (wpAny_typeOf ty (wpAny_pure q))
 iter:=fun A s hh ho=>by
  refine⟨{ cls:=.type "dict_keyiterator",data:=.fields #[.ref d,.int 0 0,.int es.size 0,.int ep 0] },fun i h=>h.IsKeyIter s.heap.objs.size d i es.size ep∧h.get? d=some o,fun E Q q=>mN ho hx hd hs q,?_,⟨_,Heap.get?_push_size _ rfl,rfl,rfl⟩,Heap.get?_push_of_some _ ho⟩
  have nd:d≠s.heap.objs.size:=Nat.ne_of_lt (Heap.lt_size ho)
  refine⟨fun b hb=>List.mem_cons.mpr (.inl (List.mem_singleton.mp hb)),fun i h h' st k=>⟨st.1.at (k _ List.mem_cons_self),k d (List.mem_cons_of_mem _ List.mem_cons_self) _ st.2⟩,fun i s1 Q E il st q=>?_,fun s1 Q E st q=>?_,fun i s1 Q E st q=>wpAny_pyIter_keyiter st.1 q⟩
  ·have ei:es[i]?=some es[i]:=Array.getElem?_eq_getElem il
   exact kY st.2 hd st.1 ei fun h' st' k=>q _ h' s1.toks ⟨_,ei,rfl⟩ ⟨st',k d o nd st.2⟩ fun b u nb hb=>k b u (fun z=>nb (List.mem_singleton.mpr z)) hb
  ·exact kZ hh st.2 hd st.1 (Array.getElem?_eq_none (Nat.le_refl _)) fun h' k=>q h' s1.toks fun b u nb hb=>k b u (fun z=>nb (List.mem_singleton.mpr z)) hb
end
end L2
namespace L2
open PySem PySem.Spec PyProof.Rows Own Ts PySem.W
section
variable {prog:Program}{w:World}{A:Around}{E:Value→Shared→Prop}{s:Shared}
end
section
variable {X:Cx}
theorem jQ {xs:KVN}{ws:List (KN × Addr × Value)}(r:Paired PrN xs ws):Vals (xs.map fun p=>V.ref p.2.1) (ws.map fun q=>Value.ref q.2.1):=by
 induction r with
 | nil=>exact .nil
 | @cons p q ps qs h t ih=>exact .cons (by show Value.ref q.2.1=Value.ref p.2.1;rw[h.2.1]) ih
theorem jO {es:Array DictEntry}{acc:Array Value}(a1:acc.size=es.size) (a2:∀ (j:Nat) (v:Value),acc[j]?=some v→∃ e,es[j]?=some e∧v=e.key):acc.toList=es.toList.map (·.key):=by
 refine List.ext_getElem (by rw[List.length_map,Array.length_toList,Array.length_toList,a1]) fun j j1 j2=>?_
 obtain⟨e,h1,h2⟩:=a2 j acc[j] (Array.getElem?_eq_getElem _)
 rw[List.getElem_map,Array.getElem_toList,Array.getElem_toList,h2]
 rw[Array.getElem?_eq_getElem (by rw[← a1];exact j1)]at h1
 rw[Option.some.inj h1]
end
end L2
namespace L2
open PySem PySem.Spec PyProof.Rows Own
section
variable {prog:Program}{w:World}{A:Around}{R:Result→Shared→Prop}{I S:Addr}{fp wr:List Addr}{n:Nat}{P:Nat→Value→Prop}{St:Nat→Heap→Prop}
end
section
variable {prog:Program}{w:World}{A:Around}{E:Value→Shared→Prop}{s:Shared}
end
section
variable {X:Cx}
def le2 (p q p' q':Int):Prop:=p<p'∨p=p'∧q≤q'
end
section
variable {X:Cx}
end
section
variable {prog:Program}{w:World}{A:Around}{R:Result→Shared→Prop}{I S:Addr}{fp wr:List Addr}{n:Nat}{P:Nat→Value→Prop}{St:Nat→Heap→Prop}
end
section
variable {prog:Program}{w:World}{A:Around}{E:Value→Shared→Prop}{s:Shared}
end
section
variable {X:Cx}{pins:List (Addr × Obj)}{σ:St}{H:Hp}{s:Shared}
end
def eT:List Int→List Int→Ordering
 | [],[]=>.eq
 | [],_::_=>.lt
 | _::_,[]=>.gt
 | a::x,b::y=>(compare a b).then (eT x y)
def eG (x y:List Int):List Int:=if eT y x=.lt then y else x
section
variable {X:Cx}
end
end L2
namespace Bn
open PySem L2 Own
structure Grp where
 many:Int
 lane:Nat
 fork:Nat
def yA (back:Bool) (st:List Int × Nat) (k:Nat) (f:Nat × Nat):List Int × Nat :=
 if st.2=f.1∨st.2=f.2 then (st.1.set k (1-st.1.getD k 0),if (if back then 1-st.1.getD k 0 else st.1.getD k 0)=0 then f.1 else f.2) else st
def yL (back:Bool) (fs:List (Nat × Nat)) (ts:List Int) (lane:Nat):Nat→List Int × Nat
 | 0=>(ts,lane)
 | i+1=>yA back (yL back fs ts lane i) i (fs.getD i (0,0))
def yd (xs:List Int) (i:Nat) (d:Int):List Int:=xs.set i (xs.getD i 0+d)
theorem yW (xs:List Int) (i:Nat) (d:Int):(yd xs i d).length=xs.length:=by simp[yd]
theorem lP {ts:List Int}{k:Nat}(h:∀ t∈ts,t=0∨t=1):∀ t∈ts.set k (1-ts.getD k 0),t=0∨t=1:=fun t ht=>by
 rcases List.mem_or_eq_of_mem_set ht with z|z
 ·exact h t z
 ·by_cases hk:k<ts.length
  ·have:=h _ (L2.xo hk);lia
  ·rw[List.set_eq_of_length_le (by lia)]at ht;exact h t ht
theorem xS {back:Bool}{fs:List (Nat × Nat)}{ts:List Int}{lane:Nat}(h:∀ t∈ts,t=0∨t=1):∀ i,∀ t∈(yL back fs ts lane i).1,t=0∨t=1
 | 0=>h
 | i+1=>by
  have ih:=xS (back:=back) (fs:=fs) (lane:=lane) h i
  show ∀ t∈(yA back (yL back fs ts lane i) i (fs.getD i (0,0))).1,t=0∨t=1
  unfold yA
  split
  ·exact lP ih
  ·exact ih
theorem x4 {back:Bool}{fs:List (Nat × Nat)}{ts:List Int}{lane:Nat}:∀ i,(yL back fs ts lane i).1.length=ts.length
 | 0=>rfl
 | i+1=>by
  have ih:=x4 (back:=back) (fs:=fs) (ts:=ts) (lane:=lane) i
  show (yA back (yL back fs ts lane i) i (fs.getD i (0,0))).1.length=_
  unfold yA
  split
  ·simp only;rw[List.length_set];exact ih
  ·exact ih
theorem xE {back:Bool}{fs:List (Nat × Nat)}{ts:List Int}{lane n:Nat}(ok:∀ f∈fs,f.1<n∧f.2<n∧f.1≠f.2) (hl:lane<n):∀ i,i≤fs.length→(yL back fs ts lane i).2<n
 | 0,_=>hl
 | i+1,hi=>by
  have ih:=xE (back:=back) (ts:=ts) ok hl i (by lia)
  have okf:=ok _ (List.getElem_mem (show i<fs.length by lia))
  have gd:fs.getD i (0,0)=fs[i]:=by rw[List.getD_eq_getElem?_getD,List.getElem?_eq_getElem (show i<fs.length by lia)];rfl
  show (yA back (yL back fs ts lane i) i (fs.getD i (0,0))).2<n
  rw[gd]
  generalize fs[i]=f at *
  unfold yA
  split
  ·simp only
   by_cases z:(if back=true then 1-(yL back fs ts lane i).1.getD i 0 else (yL back fs ts lane i).1.getD i 0)=0
   ·rw[if_pos z];exact okf.1
   ·rw[if_neg z];exact okf.2.1
  ·exact ih
theorem uQ (k:Nat):∀ es:List Nat,(es.map fun (e:Nat)=>(e:Int)).idxOf (k:Int)=es.idxOf k
 | []=>rfl
 | e::es=>by
  rw[List.map_cons,List.idxOf_cons,List.idxOf_cons,uQ k es]
  have:((e:Int) == (k:Int))=(e == k):=by
   rw[Bool.eq_iff_iff,beq_iff_eq];rw[beq_iff_eq];lia
  rw[this]
theorem rU (es:List Nat):zT es=(es.map fun (e:Nat)=>(e:Int)).map V.int:=by unfold zT;rw[List.map_map];rfl
def lL:Sp:=fun vs H Q _=>∃ r fr er ps N,∃ lane:Nat,vs=[.ref r,.int lane]∧Nt.Ok N∧NetAt H r fr er ps N∧lane<N.lanes∧Q (.int (N.ends.idxOf lane:Nat)) H
def RunQ (back:Bool) (vs:List V) (H:Hp) (Q:VK):Prop:=∃ r fr er ps N tr ts,∃ lane:Nat,vs=[.ref r,.ref tr,.int lane]∧Nt.Ok N∧NetAt H r fr er ps N∧H tr=some (.tup (List.map V.int ts))∧ts.length=N.forks.length∧(∀ t∈ts,t=0∨t=1)∧lane<N.lanes ∧
 ∀ p tr' H',Same H H'→H' p=some (.tup [.ref tr',.int (N.ends.idxOf (yL back N.forks ts lane N.forks.length).2:Nat)])→H' tr'=some (.tup ((yL back N.forks ts lane N.forks.length).1.map V.int))→Q (.ref p) H'
def wO (back:Bool):Sp:=fun vs H Q _=>RunQ back vs H Q
def lJ:Sp:=fun vs H Q _=>∃ (us:List V) (back:Bool),vs=us++[.bl back]∧RunQ back us H Q
theorem oE (xs:List Int) (i:Nat) (v:Int) (h:i<xs.length):(xs.map V.int).take i++[V.int v]++(xs.map V.int).drop (i+1)=(xs.set i v).map V.int:=by
 rw[List.set_eq_take_append_cons_drop,if_pos h,List.map_append,List.map_cons,List.map_take,List.map_drop,List.append_assoc];rfl
def part (m:Int) (lane k:Nat):List Grp:=if m=0 then [] else [⟨m,lane,k⟩]
end Bn
namespace L2
open PySem PySem.Spec PyProof.Rows Own
section
variable {prog:Program}{w:World}{A:Around}{E:Value→Shared→Prop}{s:Shared}
end
section
variable {X:Cx}
end
section
variable {X:Cx}
end
section
variable {X:Cx}
end
end L2
namespace Bn
open PySem L2 Own
def big (x y:Int):Int:=if y > x then y else x
def iB (st:List Int × List Int) (f:Nat × Nat):List Int × List Int :=
 ((st.1.set f.1 (1+big (st.1.getD f.1 0) (st.1.getD f.2 0))).set f.2 (1+big (st.1.getD f.1 0) (st.1.getD f.2 0)),st.2++[1+big (st.1.getD f.1 0) (st.1.getD f.2 0)])
def lay (n:Nat) (fs:List (Nat × Nat)):List Int × List Int:=fs.foldl iB (List.replicate n 0,[])
def eH (g f:Nat × Nat):Bool:=decide (g.1=f.1∨g.1=f.2) || decide (g.2=f.1∨g.2=f.2)
def cL (fs:List (Nat × Nat)) (fo:List Int) (f:Nat × Nat) (i:Nat):List Int:=((List.range i).filter fun j=>eH (fs.getD j (0,0)) f).map fun j=>fo.getD j 0
def cD (N:Nt):List Int:=(lay N.lanes N.forks).2
abbrev Fk:=Nat × Nat
def run {σ α:Type}(step:σ→Fk→σ × α):σ→List Fk→σ × List (α × Fk)
 | s,[]=>(s,[])
 | s,f::fs=>((run step (step s f).1 fs).1,((step s f).2,f)::(run step (step s f).1 fs).2)
def rnk (x:Int × Fk):Int:=x.1*1024+x.2.1*32+x.2.2
def ins (x:Int × Fk):List (Int × Fk)→List (Int × Fk)
 | []=>[x]
 | y::l=>if rnk x≤rnk y then x::y::l else y::ins x l
theorem zP {H:Hp}{a:Addr}(_:H a=none) (o:HO):L2.upd H a o a=some o:=zD
theorem Prs.app {H:Hp}:∀ {ps qs:List V}{fs gs:List Fk},Prs H ps fs→Prs H qs gs→Prs H (ps++qs) (fs++gs)
 | [],_,[],_,_,h=>h
 | _::_,_,_::_,_,⟨x,r⟩,h=>⟨x,Prs.app r h⟩
end Bn
namespace L2
open PySem PySem.Spec PyProof.Rows Own
section
variable {X:Cx}
end
end L2
namespace Bn
open PySem L2 Own
end Bn
namespace L2
open PySem PySem.Spec PyProof.Rows Own
section
variable {prog:Program}{w:World}{A:Around}{E:Value→Shared→Prop}{it l:Addr}{items:Array Value}
end
section
variable {X:Cx}
end
end L2
namespace L2
open PySem
end L2
namespace Bn
open PySem L2 Own
section
variable {H0 H H':Hp}{l d lt lg lo:Addr}{qa:List Addr}{ts os:List Int}{gs:List Grp}
end
section
variable {H0 H:Hp}{l d lt lg lo:Addr}{qa:List Addr}{ts os:List Int}{gs:List Grp}
end
end Bn
namespace L2
open PySem Own
section
variable {X:Cx}
end
end L2
namespace L2
open PySem
end L2
namespace L2
open PySem Own PyProof.Rows PySem.Spec
section
variable {X:Cx}
def fH (i j k:Nat) (ta:TA):TS:=fun D σ H=>ta σ H fun vs H1=>∃ u v w,vs=[u,v,w]∧D.nx (((σ.set i (some u)).set j (some v)).set k (some w)) H1
theorem qT {u v w:V}{us:List Value}(r:Vals [u,v,w] us):∃ a b c,us=[a,b,c]∧RelV u a∧RelV v b∧RelV w c:=by
 cases r with
 | cons p r =>
  obtain⟨b,c,rfl,q,t⟩:=Vals.two r
  exact⟨_,b,c,rfl,p,q,t⟩
theorem jg {i j k:Nat}{x y z:Str}{a b c:Expr}{ta:TA}{pos px py pz pt:Pos}{kt k2 pt2} (hc:X.calm=true) (hN:X.N.Nodup) (hi:X.N[i]?=some x) (hj:X.N[j]?=some y) (hk:X.N[k]?=some z) (ij:i≠j) (ik:i≠k) (jk:j≠k)
  (hx:X.env.scope.names.lookup x=some .local) (hy:X.env.scope.names.lookup y=some .local) (hz:X.env.scope.names.lookup z=some .local) (ha:PA X [a,b,c] ta)
  (hw:swappedStores [.Tuple [.Name x px,.Name y py,.Name z pz] kt pt] (.Tuple [a,b,c] k2 pt2) X.env=pure (some [x,y,z]))
  (hs:swapsWithSole [.Tuple [.Name x px,.Name y py,.Name z pz] kt pt] (.Tuple [a,b,c] k2 pt2) pos.line X.env=pure false:=by rfl) :
  PS X (.Assign [.Tuple [.Name x px,.Name y py,.Name z pz] kt pt] (.Tuple [a,b,c] k2 pt2) pos) (fH i j k ta):=fun pins s σ H D I h=>by
 rw[exec_Assign_arm];refine wpAny_bind (wpAny_standAt ?_);rw[hs];refine wpAny_bind (wpAny_pure ?_);rw[if_neg Bool.false_ne_true]
 refine wpAny_bind (PyProof.Rows.Tuple_ (thn (ha _ pins s σ H _ I h) fun us s1 q=>?_))
 obtain⟨vs,H1,I1,r1,u,v,w,rfl,q1⟩:=q
 obtain⟨u1,u2,u3,rfl,rA,rB,rC⟩:=qT r1
 refine wpAny_newObj_type ?_ (by show 3≤sizeLine;decide)
 have J:Inv X pins σ H1 { s1 with heap:=s1.heap.push { cls:=.type "tuple",data:=.seq [u1,u2,u3].toArray } }:=I1.kept (t':=s1.toks) fun _ _ g=>Heap.get?_push_of_some _ g
 rw[hw];refine wpAny_bind (wpAny_pure ?_)
 show wpAny (model X.prog X.w) X.A (do rule "assign.swapped-stores";let items ← unpackItems (.ref s1.heap.objs.size) 3 none;assignInOrder [fun v=>bindName X.env z v,fun v=>bindName X.env y v,fun v=>bindName X.env x v] items.reverse;pure Flow.next) _ _ _
 refine wpAny_bind (wpAny_rule (wpAny_bind (PyProof.Rows.unpackItems_tuple (items:=#[u1,u2,u3]) (I.ok.hd hc) (IsTup.new s1.heap _) fun hp hq=>?_)))
 have J3:=J.kept (h':=hp) (t':=s1.toks) fun b o g=>hq b o (Nat.ne_of_lt (Heap.lt_size g)) g
 show wpAny _ _ (assignInOrder [fun v=>bindName X.env z v,fun v=>bindName X.env y v,fun v=>bindName X.env x v] [u3,u2,u1] >>= fun _=>pure Flow.next) _ _ _
 refine wpAny_bind (assignInOrder_cons (wpAny_bindName (xD J3 hN hk (.inl hz) rC (fun s2 J4=>?_) (.inr hz))))
 refine assignInOrder_cons (wpAny_bindName (xD J4 hN hj (.inl hy) rB (fun s3 J5=>?_) (.inr hy)))
 refine assignInOrder_cons (wpAny_bindName (xD J5 hN hi (.inl hx) rA (fun s4 J6=>assignInOrder_nil (wpAny_pure ?_)) (.inr hx)))
 have eσ:((σ.set k (some w)).set j (some v)).set i (some u)=((σ.set i (some u)).set j (some v)).set k (some w):=by
  rw[List.set_comm _ _ (Ne.symm ij),List.set_comm _ _ (Ne.symm ik),List.set_comm _ _ (Ne.symm jk)]
 rw[eσ]at J6
 exact⟨_,H1,J6,q1⟩
end
end L2
namespace Bn
open PySem L2 Own
abbrev Sn:=List Int × List Grp × List Int
abbrev Sn.none (N:Nt):Sn:=(List.replicate N.forks.length 0,[],List.replicate N.lanes 0)
section
variable {H0 H H':Hp}{l d lt lg lo:Addr}{qa qa':List Addr}{ts os ts' os':List Int}{gs gs':List Grp}
end
end Bn
namespace L2
open PySem PySem.Spec PyProof.Rows
section
variable {P:Program}{w:World}{K:PySem.W.Frag}{mg:Str→Option Value}{base:Heap}{N:List Str}{qual:Str}{scope:Scope}{f:Addr}{cd:Value}{A:Around}{outer:List Env}{s:Shared}{H:Hp}{E:XK}{pins:List (Addr × Obj)}{σ:St}
end
end L2
namespace L2
open PySem PySem.Spec PyProof.Rows Own
abbrev FZ (o:Obj):HO:=.frz o (.ext fun _=>True)
theorem qB {P:Program}{w:World}{H:Hp}{h:Heap}{a:Addr}{o:Obj}(e:h.get? a=some o):ObjOk P w H h a (FZ o):=⟨e,trivial,⟨o,e⟩,fun _ _ _ _=>trivial⟩
structure Lam where
 params:Arguments
 body:Expr
 scope:Scope
 qual:Str
def rz (L:Lam) (cl:List (Str × Addr)) (pm:Value) (c:Addr) (ct:Value):Obj:=PySem.W.kla_obj "<lambda>" L.qual L.params L.body L.scope cl pm c ct
structure LamAt (H:Hp) (f:Addr) (L:Lam) (cl:List (Str × Addr)) (vs:List V):Prop where
 ex:∃ (pm:Value) (c:Addr) (ct:Value) (oc:Obj) (fs:Array Value) (t:Tok),H f=some (FZ (rz L cl pm c ct))∧H c=some (FZ oc)∧oc.data=.fields fs∧fs[1]?=some (.str L.qual t)
 len:cl.length=vs.length
 cell:∀ (i:Nat) x c v,cl[i]?=some (x,c)→vs[i]?=some v→∃ o u,H c=some (FZ o)∧o.data=.cell (some u)∧RelV v u
 nd1:(cl.map (·.1)).Nodup
 nd2:(cl.map (·.2)).Nodup
theorem LamAt.frz {H H':Hp}{f:Addr}{L:Lam}{cl:List (Str × Addr)}{vs:List V}(h:LamAt H f L cl vs) (z:∀ b o u,H b=some (.frz o u)→H' b=some (.frz o u)):LamAt H' f L cl vs:=by
 obtain⟨pm,c,ct,oc,fs,t,h1,h2,h3,h4⟩:=h.ex
 refine⟨⟨pm,c,ct,oc,fs,t,z _ _ _ h1,z _ _ _ h2,h3,h4⟩,h.len,fun i x c v a b=>?_,h.nd1,h.nd2⟩
 obtain⟨o,u,q1,q2,q3⟩:=h.cell i x c v a b
 exact⟨o,u,z _ _ _ q1,q2,q3⟩
def strip (cl:List (Str × Addr)) (H:Hp):Hp:=fun b=>if b∈cl.map (·.2) then none else H b
def back (cl:List (Str × Addr)) (H H':Hp):Hp:=fun b=>if b∈cl.map (·.2) then H b else H' b
theorem xZ {cl:List (Str × Addr)}{H:Hp}{b:Addr}(h:b∈cl.map (·.2)):strip cl H b=none:=if_pos h
theorem zx {cl:List (Str × Addr)}{H:Hp}{b:Addr}(h:b∉cl.map (·.2)):strip cl H b=H b:=if_neg h
theorem sY {cl:List (Str × Addr)}{H H':Hp}{b:Addr}(h:b∈cl.map (·.2)):back cl H H' b=H b:=if_pos h
theorem yu {cl:List (Str × Addr)}{H H':Hp}{b:Addr}(h:b∉cl.map (·.2)):back cl H H' b=H' b:=if_neg h
theorem qU {cl:List (Str × Addr)}{H:Hp}{b:Addr}{o:HO}(h:strip cl H b=some o):b∉cl.map (·.2)∧H b=some o:=by
 by_cases c:b∈cl.map (·.2)
 ·rw[xZ c]at h;cases h
 ·rw[zx c]at h;exact⟨c,h⟩
def CellsFz (cl:List (Str × Addr)) (H:Hp):Prop:=∀ b∈cl.map (·.2),∃ o,H b=some (FZ o)
theorem LamAt.fz {H:Hp}{f:Addr}{L:Lam}{cl:List (Str × Addr)}{vs:List V}(h:LamAt H f L cl vs):CellsFz cl H:=fun b hb=>by
 obtain⟨⟨x,c⟩,hc,rfl⟩:=List.mem_map.mp hb
 obtain⟨i,il,e⟩:=List.mem_iff_getElem.mp hc
 have iv:i<vs.length:=by rw[← h.len];exact il
 obtain⟨o,u,q1,_⟩:=h.cell i x c vs[i] (by rw[List.getElem?_eq_getElem il,e]) (List.getElem?_eq_getElem iv)
 exact⟨o,q1⟩
section
variable {P:Program}{w:World}{H H':Hp}{h h':Heap}{cl:List (Str × Addr)}
theorem tK (x:HOk P w H h) (fz:CellsFz cl H):HOk P w (strip cl H) h:=fun b u e=>by
 obtain⟨nb,e'⟩:=qU e
 have keep:∀ {c:Addr}{o:HO},H c=some o→(∀ q,o≠FZ q)→strip cl H c=some o:=fun {c o} z n=>by
  rw[zx];· exact z
  ·intro hc
   obtain⟨q,hq⟩:=fz c hc
   rw[z]at hq
   exact n q (Option.some.inj hq)
 exact(x b u e').stay (fun c v _ q=>q) (fun c q=>keep q fun z y=>by cases y) fun c xs q=>keep q fun z y=>by cases y
theorem jR {fs:List Addr}(un:Un fs [] (strip cl H) H' h h') (fz:CellsFz cl H) (nf:∀ b∈fs,H b=none) (there:∀ b o,H b=some (FZ o)→h.get? b=some o) (low:∀ b∈cl.map (·.2),H' b=none) (ok:HOk P w H' h'):Un fs [] H (back cl H H') h h'∧HOk P w (back cl H H') h':=by
 have nc:∀ {b:Addr},H b=none→b∉cl.map (·.2):=fun e hb=>by
  obtain⟨o,q⟩:=fz _ hb
  rw[e]at q;cases q
 have kept:∀ b∈cl.map (·.2),∀ o,h.get? b=some o→h'.get? b=some o:=fun b hb o e=>un.keep b o e (xZ hb) (fun z=>nc (nf b z) hb) (by simp)
 have oth:∀ {b:Addr}{o:HO},H b=some o→(∀ q,o≠FZ q)→b∉cl.map (·.2):=fun z n hb=>by
  obtain⟨q,hq⟩:=fz _ hb
  rw[z]at hq
  exact n q (Option.some.inj hq)
 refine⟨⟨fun b o e n x y=>un.keep b o e (by rw[zx (nc n)];exact n) x y,fun b o e n x y=>un.slot b o e (by rw[zx (nc n)];exact n) x y,fun b o e n y=>?_,un.there,fun b xs e=>?_,fun b o u e=>?_,fun b ps e=>?_⟩,fun b u e=>?_⟩
 ·rw[yu (nc n)]
  exact un.free b o e (by rw[zx (nc n)];exact n) y
 ·have nb:=oth e fun q z=>by cases z
  rw[yu nb];exact un.tups b xs (by rw[zx nb];exact e)
 ·by_cases c:b∈cl.map (·.2)
  ·rw[sY c];exact e
  ·rw[yu c];exact un.frzs b o u (by rw[zx c];exact e)
 ·have nb:=oth e fun q z=>by cases z
  rw[yu nb];exact un.tbls b ps (by rw[zx nb];exact e)
 ·by_cases c:b∈cl.map (·.2)
  ·rw[sY c]at e
   obtain⟨o,q⟩:=fz b c
   rw[q]at e
   cases e
   exact qB (kept b c o (there b o q))
  ·rw[yu c]at e
   have old:∀ {x:Addr}{o:HO},H' x=some o→back cl H H' x=some o:=fun {x o} z=>by
    rw[yu];· exact z
    ·intro hx
     rw[low x hx]at z;cases z
   exact(ok b u e).stay (fun x v _ q=>q) (fun x q=>old q) fun x xs q=>old q
end
def pY (L:Lam) (cl:List (Str × Addr)) (Lc f c:Addr):Env:={ scope:=L.scope,locals:=Lc,globals:=mainGlobals,cells:=cl,qual:=L.qual++".<locals>.",func:=some f,code:=.ref c,frame:=some Lc,builtins:=builtinsNs }
def jL (CX:CXT) (P:Program) (w:World) (K:PySem.W.Frag) (mg:Str→Option Value) (base:Heap) (N:List Str) (L:Lam) (cl:List (Str × Addr)) (f c:Addr) (A:Around) (outer:List Env) (s:Shared) (H:Hp) (E:XK):Cx where
 prog:=P
 w:=w
 K:=K
 mg:=mg
 base:=base
 A:=A.deeper (pY L cl s.heap.objs.size f c)
 N:=N
 s₀:=s
 H₀:=strip cl H
 env:=pY L cl s.heap.objs.size f c
 outer:=outer
 stack:=pY L cl s.heap.objs.size f c::outer
 ex:=[]
 calm:=true
 fn:=fun _=>false
 pn:=[]
 xe:=fun e s'=>wpAny (model P w) (A.deeper (pY L cl s.heap.objs.size f c)) (leaving (pY L cl s.heap.objs.size f c) e) (fun _ s''=>CX outer H s E e s'') (fun e' s''=>CX outer H s E e' s'') s'
structure LamScope (ps fr:List Str) (sc:Scope):Prop where
 kind:sc.kind=.function
 co:sc.isCoroutine=false
 gen:sc.isGenerator=false
 nd:(ps++fr).Nodup
 par:∀ x∈ps,sc.names.lookup x=some .local
 fre:∀ x∈fr,sc.names.lookup x=some .free
 noc:∀ y∈sc.names,y.2≠.cell
 all:∀ x,sc.names.lookup x=some .free→x∈fr
section
variable {CX:CXT}{P:Program}{w:World}{K:PySem.W.Frag}{mg:Str→Option Value}{base:Heap}{L:Lam}{cl:List (Str × Addr)}{vals vs:List V}{ps:List Str}{f c:Addr}{A:Around}{outer:List Env}{s:Shared}{H:Hp}{us:List Value}{Q:VK}{E:XK}
theorem oY {cl:List (Str × Addr)}(nd:(cl.map (·.1)).Nodup):∀ {i:Nat}{x:Str}{c:Addr},cl[i]?=some (x,c)→cl.lookup x=some c:=by
 induction cl with
 | nil=>intro i x c h;cases h
 | cons p r ih =>
  intro i x c h
  rw[List.map_cons,List.nodup_cons]at nd
  cases i with
  | zero =>
   cases Option.some.inj h
   rw[List.lookup_cons,beq_self_eq_true]
  | succ i =>
   have m:=List.mem_of_getElem? (show r[i]?=some (x,c) from h)
   rw[List.lookup_cons,show (x == p.1)=false from beq_eq_false_iff_ne.mpr fun z=>nd.1 (List.mem_map.mpr ⟨_,m,z⟩)]
   exact ih nd.2 (show r[i]?=some (x,c) from h)
theorem qy {ps:List Str}{us:List Value}(nd:ps.Nodup) (hl:us.length=ps.length) {i:Nat}{x:Str}{u:Value}(hx:ps[i]?=some x) (hu:us[i]?=some u):(ps.zip us).reverse.lookup x=some u:=by
 have nd':((ps.zip us).reverse.map (·.1)).Nodup:=by
  rw[List.map_reverse,List.map_fst_zip (by lia)]
  exact List.pairwise_reverse.mpr (nd.imp fun h=>h.symm)
 have m:(x,u)∈(ps.zip us).reverse:=List.mem_reverse.mpr (List.mem_of_getElem? (i:=i) (by rw[List.getElem?_zip_eq_some];exact⟨hx,hu⟩))
 generalize (ps.zip us).reverse=l at nd' m
 induction l with
 | nil=>cases m
 | cons p r ih =>
  rw[List.map_cons,List.nodup_cons]at nd'
  rcases List.mem_cons.mp m with e|z
  ·rw[← e,List.lookup_cons,beq_self_eq_true]
  ·rw[List.lookup_cons,show (x == p.1)=false from beq_eq_false_iff_ne.mpr fun y=>nd'.1 (List.mem_map.mpr ⟨_,z,y⟩)]
   exact ih nd'.2 z
theorem iD {h':Heap}{tk:Nat}(S:LamScope ps (cl.map (·.1)) L.scope) (hd:A.handled=none) (e0:Env0 P w K mg base A outer s H) (la:LamAt H f L cl vals) (r:Vals vs us) (hl:vs.length=ps.length)
  (ns:h'.Ns s.heap.objs.size (fun x=>(ps.zip us).reverse.lookup x)) (kp:∀ b o,s.heap.get? b=some o→h'.get? b=some o) :
  Inv (jL CX P w K mg base (ps++cl.map (·.1)) L cl f c A outer s H E) [] ((vs++vals).map some) (strip cl H) { s with heap:=h',toks:=tk }:=by
 have fz:=la.fz
 have ndA:=List.nodup_append.mp S.nd
 have ul:us.length=ps.length:=by rw[← r.length];exact hl
 have mem_cl:∀ {x:Str}{a:Addr},cl.lookup x=some a→(x,a)∈cl:=fun h=>PySem.mem_of_lookup h
 have cellOf:∀ {x:Str}{a:Addr},(x,a)∈cl→∃ (i:Nat) (v:V) (o:Obj) (u:Value),cl[i]?=some (x,a)∧vals[i]?=some v∧H a=some (FZ o)∧o.data=.cell (some u)∧RelV v u∧s.heap.get? a=some o:=fun {x a} m=>by
  obtain⟨i,il,e⟩:=List.mem_iff_getElem.mp m
  have e':cl[i]?=some (x,a):=by rw[List.getElem?_eq_getElem il,e]
  have iv:i<vals.length:=by rw[← la.len];exact il
  obtain⟨o,u,q1,q2,q3⟩:=la.cell i x a vals[i] e' (List.getElem?_eq_getElem iv)
  exact⟨i,_,o,u,e',List.getElem?_eq_getElem iv,q1,q2,q3,(e0.hok a _ q1).1⟩
 refine⟨⟨e0.mod,S.kind,rfl,rfl,Nat.le_refl _,fun y z a h1 h2=>?_,fun y hy=>?_,fun y a q=>(by cases q),fun _=>hd,Around.frames_deeper e0.frames,.inr ⟨rfl,rfl⟩,fun b z=>(List.not_mem_nil z).elim,fun b o e=>⟨(e0.bs b o e).1,?_⟩,e0.bsz,fun b _ _=>List.not_mem_nil,fun b z=>(List.not_mem_nil z).elim,e0.funs,fun b hb=>?_⟩,
  rfl,e0.bare,Un.kept kp,⟨_,ns,fun i y v h1 h2 h3=>?_⟩,fun y a h=>?_,?_,fun y a h=>xZ (List.mem_map.mpr ⟨_,mem_cl h,rfl⟩),fun p hp=>(List.not_mem_nil hp).elim,(tK e0.hok fz).kept kp,?_⟩
 ·-- one cell,one name
  have m1:=mem_cl h1
  have m2:=mem_cl h2
  obtain⟨i,il,ei⟩:=List.mem_iff_getElem.mp m1
  obtain⟨j,jl,ej⟩:=List.mem_iff_getElem.mp m2
  have:i=j:=(List.getElem_inj (h₀:=by rw[List.length_map];exact il) (h₁:=by rw[List.length_map];exact jl) la.nd2).mp (by rw[List.getElem_map,List.getElem_map,ei,ej])
  subst this
  rw[ei]at ej
  exact congrArg Prod.fst ej
 ·have hy:L.scope.names.lookup y=some .cell∨L.scope.names.lookup y=some .free:=hy
  rcases hy with q|q
  ·exact absurd rfl (S.noc _ (PySem.mem_of_lookup q))
  ·obtain⟨p,hp,e⟩:=List.mem_map.mp (S.all y q)
   obtain⟨i,il,ei⟩:=List.mem_iff_getElem.mp hp
   exact⟨p.2,oY la.nd1 (i:=i) (by rw[List.getElem?_eq_getElem il,ei,← e])⟩
 ·show strip cl H b=none
  unfold strip
  split
  ·rfl
  ·exact(e0.bs b o e).2
 ·show strip cl H b=none
  unfold strip
  split
  ·rfl
  ·exact e0.frf b hb
 ·have h2':(vs++vals)[i]?=some v:=by
   rw[List.getElem?_map]at h2
   cases e:(vs++vals)[i]? with
   | none=>rw[e]at h2;cases h2
   | some z=>rw[e]at h2;cases h2;rfl
  replace h1:(ps++cl.map (·.1))[i]?=some y:=h1
  by_cases ci:i<vs.length
  ·rw[List.getElem?_append_left ci]at h2'
   rw[List.getElem?_append_left (by lia)]at h1
   obtain⟨u,hu,rv⟩:=r.get h2'
   exact⟨u,rv,.inl ⟨S.par y (List.mem_of_getElem? h1),qy ndA.1 ul h1 hu⟩⟩
  ·rw[List.getElem?_append_right (by lia)]at h2'
   rw[List.getElem?_append_right (by lia),List.getElem?_map,← hl]at h1
   obtain⟨⟨x,a⟩,e1,rfl⟩:=Option.map_eq_some_iff.mp h1
   obtain⟨o,u,q1,q2,q3⟩:=la.cell _ x a v e1 h2'
   exact⟨u,q3,.inr ⟨.inr (S.fre x (List.mem_map.mpr ⟨_,List.mem_of_getElem? e1,rfl⟩)),a,oY la.nd1 e1,o,kp _ _ (e0.hok a _ q1).1,q2⟩⟩
 ·obtain⟨i,v,o,u,_,_,_,q2,_,q4⟩:=cellOf (mem_cl h)
  exact⟨some u,o,kp _ _ q4,q2⟩
 ·show strip cl H s.heap.objs.size=none
  unfold strip
  split
  ·rfl
  ·exact e0.hok.fresh (Nat.le_refl _)
 ·show ((vs++vals).map some).length=(ps++cl.map (·.1)).length
  rw[List.length_map,List.length_append,List.length_append,List.length_map,hl,la.len]
end
section
variable {X:Cx}{CX:CXT}{k:Nat}{L:Lam}{fr ps:List Str}{sp:List V→List V→Hp→VK→XK→Prop}{E:XK}{x:Str}{i:Nat}{p pos:Pos}{e:Expr}{es:List Expr}{t:TA}
end
theorem qM {sc:Scope}{env:Env}(h:∀ x,(x,NameKind.free)∈sc.names→∃ c,env.cells.lookup x=some c) :
  ∃ cl,closureFor sc env=pure cl∧cl.map (·.1)=((sc.names.filter fun y=>y.2 == .free).map (·.1)).reverse∧∀ p∈cl,env.cells.lookup p.1=some p.2:=by
 unfold closureFor
 have key:∀ (l:List (Str × NameKind)) (acc:List (Str × Addr)),(∀ x,(x,NameKind.free)∈l→∃ c,env.cells.lookup x=some c)→(∀ p∈acc,env.cells.lookup p.1=some p.2) →
   ∃ cl,(forIn l acc fun (y:Str × NameKind) (r:List (Str × Addr))=>(match y with|(name,kind)=>if (kind == NameKind.free)=true then do let a ← cellOf env name;pure (ForInStep.yield ((name,a)::r)) else pure (ForInStep.yield r):Sem (ForInStep (List (Str × Addr)))))=pure cl∧cl.map (·.1)=((l.filter fun y=>y.2 == .free).map (·.1)).reverse++acc.map (·.1)∧∀ p∈cl,env.cells.lookup p.1=some p.2:=by
  intro l
  induction l with
  | nil=>intro acc _ ha;exact⟨acc,rfl,rfl,ha⟩
  | cons y l ih =>
   intro acc hl ha
   obtain⟨x,kd⟩:=y
   rw[List.forIn_cons]
   by_cases c:(kd == NameKind.free)=true
   ·have ek:kd=.free:=by
     cases kd<;>first|rfl|cases c
    subst ek
    obtain⟨a,ea⟩:=hl x (.head _)
    obtain⟨cl,e1,e2,e3⟩:=ih ((x,a)::acc) (fun z hz=>hl z (.tail _ hz)) (fun p hp=>by
     rcases List.mem_cons.mp hp with rfl|q
     ·exact ea
     ·exact ha p q)
    refine⟨cl,?_,?_,e3⟩
    ·have ec:cellOf env x=pure a:=by unfold cellOf;rw[ea]
     simp only[ec,pure_bind]
     exact e1
    ·rw[e2,List.filter_cons,if_pos (show ((x,NameKind.free).2 == NameKind.free)=true from rfl),List.map_cons (l:=List.filter _ l),List.reverse_cons,List.append_assoc];rfl
   ·obtain⟨cl,e1,e2,e3⟩:=ih acc (fun z hz=>hl z (.tail _ hz)) ha
    refine⟨cl,?_,?_,e3⟩
    ·simp only[c,pure_bind]
     exact e1
    ·rw[e2,List.filter_cons,if_neg c]
 obtain⟨cl,e1,e2,e3⟩:=key sc.names [] h (fun p hp=>(List.not_mem_nil hp).elim)
 refine⟨cl,?_,by rw[e2,List.map_nil,List.append_nil],e3⟩
 have e4:=congrArg (fun (m:Sem (List (Str × Addr)))=>m >>= fun r=>pure r) e1
 exact e4.trans (pure_bind _ _)
def TabOk (H:Hp) (qual:Str) (l:List (Pos × Addr)):Prop:=∀ p∈l,∃ (oc:Obj) (fs:Array Value) (t:Tok),H p.2=some (FZ oc)∧oc.data=.fields fs∧fs[1]?=some (.str qual t)
theorem TabOk.frz {H H':Hp}{qual:Str}{l:List (Pos × Addr)}(h:TabOk H qual l) (z:∀ b o u,H b=some (.frz o u)→H' b=some (.frz o u)):TabOk H' qual l:=fun p hp=>by
 obtain⟨oc,fs,t,h1,h2⟩:=h p hp
 exact⟨oc,fs,t,z _ _ _ h1,h2⟩
theorem uc (pos:Pos):∀ l:List (Pos × Addr),codeAmong pos (triples l)=none∨∃ p∈l,codeAmong pos (triples l)=some (.ref p.2)
 | []=>.inl rfl
 | (q,a)::l=>by
  show (if (((q.line:Int) == pos.line && (q.col:Int) == pos.col)=true) then some (Value.ref a) else codeAmong pos (triples l))=none∨∃ p∈(q,a)::l,(if (((q.line:Int) == pos.line && (q.col:Int) == pos.col)=true) then some (Value.ref a) else codeAmong pos (triples l))=some (.ref p.2)
  split
  ·exact .inr ⟨_,.head _,rfl⟩
  ·rcases uc pos l with h|⟨p,hp,h⟩
   ·exact .inl h
   ·exact .inr ⟨p,.tail _ hp,h⟩
theorem wN:∀ l:List (Pos × Addr),TriplesOk (triples l)
 | []=>trivial
 | (q,a)::l=>wN l
structure CodeK (K:PySem.W.Frag) (mg:Str→Option Value) (base:Heap) (c P:Addr):Prop where
 hd:PySem.W.codeHdIn K c P=true
 blt:base.BuiltinsAt mg P
 gP:mainGlobals≠P
structure LamRaw (H:Hp) (f:Addr) (L:Lam) (cl:List (Str × Addr)):Prop where
 ex:∃ (pm:Value) (c:Addr) (ct:Value) (oc:Obj) (fs:Array Value) (t:Tok),H f=some (FZ (rz L cl pm c ct))∧H c=some (FZ oc)∧oc.data=.fields fs∧fs[1]?=some (.str L.qual t)
def CellsOf (env:Env) (cl:List (Str × Addr)):Prop:=∀ p∈cl,env.cells.lookup p.1=some p.2
def dH (env:Env) (P:Addr) (L:Lam) (fr:List Str):TE:=fun _ H Q=>∃ l,H P=some (.tbl (triples l).toArray)∧TabOk H L.qual l ∧
 ∀ f cl l' H',cl.map (·.1)=fr→CellsOf env cl→H f=none→LamRaw H' f L cl→H' P=some (.tbl (triples l').toArray)→TabOk H' L.qual l'→(∀ b o,H b=some o→b≠P→H' b=some o)→Q (.ref f) H'
section
variable {X:Cx}{pins:List (Addr × Obj)}{σ:St}{H:Hp}{s:Shared}{h':Heap}
theorem Inv.tab {P:Addr}{ps more:Array Value}{tk:Nat}(I:Inv X pins σ H s) (hP:H P=some (.tbl ps)) (k:Heap.ExtBut P s.heap h') (new:h'.get? P=some (PySem.W.tabObj (ps++more))):Inv X pins σ (upd H P (.tbl (ps++more))) { s with heap:=h',toks:=tk }:=by
 have ne:∀ {b:Addr},H b=none→b≠P:=fun e z=>by rw[z,hP]at e;cases e
 have oth:∀ {b:Addr}{o:HO},H b=some o→(∀ q,o≠.tbl q)→upd H P (.tbl (ps++more)) b=some o:=fun {b o} e n=>by
  rw[zH];· exact e
  ·intro z
   rw[z,hP]at e
   exact n ps (Option.some.inj e).symm
 refine I.step (g':=s.gens) (d':=s.drawn) (ch:=[]) (fun b hb=>(List.not_mem_nil hb).elim) (fun b o _ _ _ e n=>k b o (ne n) e) (fun b o _ _ _ e n=>⟨o.slots,k b o (ne n) e⟩) (fun b o _ e n=>by rw[zH (ne n)];exact n) (fun b o _ e=>?_) (fun b xs e=>oth e fun q z=>by cases z) (fun b o u e=>oth e fun q z=>by cases z) (fun b qs e=>?_) (fun m hm=>?_) (fun b u e=>?_) I.bare
 ·by_cases c:b=P
  ·subst c;exact⟨_,new⟩
  ·exact⟨o,k b o c e⟩
 ·by_cases c:b=P
  ·subst c
   rw[hP]at e
   cases e
   exact⟨more,zD⟩
  ·exact⟨#[],by rw[zH c,e];simp⟩
 ·obtain⟨o,es,ep,ho,r⟩:=hm
  exact⟨o,es,ep,k _ o (ne I.free) ho,r⟩
 ·by_cases c:b=P
  ·subst c
   rw[zD]at e
   cases e
   exact new
  ·rw[zH c]at e
   refine(I.hok b u e).stay (fun x v hx q=>k x v ?_ q) (fun x q=>oth q fun z y=>by cases y) fun x xs q=>oth q fun z y=>by cases y
   rcases hx with z|z
   ·rw[z];exact c
   ·rintro rfl
    rw[hP]at z;cases z
theorem kC {params:Arguments}{body:Expr}{scope:Scope}{pos:Pos}{c P:Addr}{fr:List Str}(CK:CodeK X.K X.mg X.base c P) (hcode:X.env.code=.ref c) (hdef:defaultsOf params X.env=([],[])) (hfree:∀ x,(x,NameKind.free)∈scope.names→X.env.kindOf x=some .cell∨X.env.kindOf x=some .free) (hfr:((scope.names.filter fun y=>y.2 == .free).map (·.1)).reverse=fr) :
  PE X (.Lambda params body scope pos) (dH X.env P ⟨params,body,scope,X.env.qual++"<lambda>"⟩ fr):=by
 intro pins s σ H Q I h
 obtain⟨l,hP,tok,q⟩:=h
 obtain⟨cl,ecl,efr,hcl⟩:=qM (sc:=scope) (env:=X.env) fun x hx=>I.ok.has x (hfree x hx)
 rw[hfr]at efr
 have hg:s.heap.Ns mainGlobals X.mg:=I.mod.glob.keeps I.bk
 have hb:s.heap.BuiltinsAt X.mg P:=CK.blt.keeps I.bk
 have C:=PySem.W.codeHd_of_K I.kIn CK.hd
 have tP:s.heap.get? P=some (PySem.W.tabObj (triples l).toArray):=I.hok P _ hP
 refine PySem.W.kla_eval hdef ?_
 rcases uc pos l with hn|⟨p,hp,hy⟩
 ·refine PySem.W.kla_makeFunction ecl I.ok.glob hg hcode C tP (by rw[List.toList_toArray];exact wN l) (by rw[List.toList_toArray];exact hn) CK.gP hb fun c' ctv h' tk ex lo hi cr tp=>?_
  obtain⟨c2,oc,fs,t,ec,g1,g2,g3⟩:=cr
  cases ec
  have pl:P<s.heap.objs.size:=Heap.lt_size tP
  have sz:s.heap.objs.size≤h'.objs.size:=Nat.le_trans lo (Nat.le_of_lt hi)
  have cP:c'≠P:=Nat.ne_of_gt (Nat.lt_of_lt_of_le pl lo)
  have fP:h'.objs.size≠P:=Nat.ne_of_gt (Nat.lt_of_lt_of_le pl sz)
  have cf:c'≠h'.objs.size:=Nat.ne_of_lt hi
  have e1:(triples l).toArray++#[rawInt pos.line,rawInt pos.col,.ref c']=(triples (l++[(pos,c')])).toArray:=by
   rw[triples_append];simp
  rw[e1]at tp
  have I1:=I.tab (tk:=tk) (h':=h'.push (rz ⟨params,body,scope,X.env.qual++"<lambda>"⟩ cl ((X.mg "__name__").getD .none) c' ctv)) (more:=#[rawInt pos.line,rawInt pos.col,.ref c']) hP (fun b o n e=>Heap.get?_push_of_some _ (ex b o n e)) (by rw[e1];exact Heap.get?_push_of_some _ tp)
  rw[e1]at I1
  have n1:H c'=none:=I.hok.fresh lo
  have n2:H h'.objs.size=none:=I.hok.fresh sz
  have m1:upd H P (.tbl (triples (l++[(pos,c')])).toArray) c'=none:=by rw[zH cP];exact n1
  have I2:=I1.adopt (o:=FZ oc) (I.fpOk lo m1) (qB (Heap.get?_push_of_some _ g1))
  have m2:upd (upd H P (.tbl (triples (l++[(pos,c')])).toArray)) c' (FZ oc) h'.objs.size=none:=by rw[zH cf.symm,zH fP];exact n2
  have I3:=I2.adopt (o:=FZ (rz ⟨params,body,scope,X.env.qual++"<lambda>"⟩ cl ((X.mg "__name__").getD .none) c' ctv)) (I.fpOk sz m2) (qB (Heap.get?_push_size _ rfl))
  have keep:∀ b o,H b=some o→b≠P→upd (upd (upd H P (.tbl (triples (l++[(pos,c')])).toArray)) c' (FZ oc)) h'.objs.size (FZ (rz ⟨params,body,scope,X.env.qual++"<lambda>"⟩ cl ((X.mg "__name__").getD .none) c' ctv)) b=some o:=fun b o e n=>by
   rw[zH (zG e n2),zH (zG e n1),zH n];exact e
  refine⟨.ref h'.objs.size,_,I3,rfl,q _ cl (l++[(pos,c')]) _ efr hcl n2 ⟨_,c',ctv,oc,fs,t,zD,by rw[zH cf];exact zD,g2,g3⟩ (by rw[zH fP.symm,zH cP.symm];exact zD) (fun p hp=>?_) keep⟩
  rcases List.mem_append.mp hp with was|is
  ·obtain⟨oc',fs',t',o1,o2,o3⟩:=tok p was
   exact⟨oc',fs',t',keep _ _ o1 (yr o1 hP (fun y=>by cases y)),o2,o3⟩
  ·rw[List.mem_singleton.mp is]
   exact⟨oc,fs,t,by rw[zH cf];exact zD,g2,g3⟩
 ·obtain⟨oc,fs,t,o1,o2,o3⟩:=tok p hp
  refine PySem.W.kla_makeFunctionHit ecl I.ok.glob hg hcode C tP (by rw[List.toList_toArray];exact wN l) (by rw[List.toList_toArray];exact hy) hb fun ctv h' tk k sz=>?_
  have kk:∀ b o,s.heap.get? b=some o→(h'.push (rz ⟨params,body,scope,X.env.qual++"<lambda>"⟩ cl ((X.mg "__name__").getD .none) p.2 ctv)).get? b=some o:=fun b o e=>Heap.get?_push_of_some _ (k b o e)
  have fr0:=I.hok.fresh (a:=h'.objs.size) sz
  have I1:=I.laid (a:=h'.objs.size) (o:=FZ (rz ⟨params,body,scope,X.env.qual++"<lambda>"⟩ cl ((X.mg "__name__").getD .none) p.2 ctv)) (t':=tk) kk sz (qB (Heap.get?_push_size _ rfl))
  refine⟨.ref h'.objs.size,_,I1,rfl,q _ cl l _ efr hcl fr0 ⟨_,p.2,ctv,oc,fs,t,zD,by rw[zH (zG o1 fr0)];exact o1,o2,o3⟩ (by rw[zH (zG hP fr0)];exact hP) (tok.frz fun b o u e=>by rw[zH (zG e fr0)];exact e) fun b o e _=>by rw[zH (zG e fr0)];exact e⟩
end
def CellsAt (H:Hp) (cs:List (Str × Addr)) (vals:List V):Prop:=cs.length=vals.length∧∀ (i:Nat) x c v,cs[i]?=some (x,c)→vals[i]?=some v→∃ o u,H c=some (FZ o)∧o.data=.cell (some u)∧RelV v u
theorem CellsAt.fz {H:Hp}{cs:List (Str × Addr)}{vals:List V}(h:CellsAt H cs vals):CellsFz cs H:=fun b hb=>by
 obtain⟨⟨x,c⟩,hc,rfl⟩:=List.mem_map.mp hb
 obtain⟨i,il,e⟩:=List.mem_iff_getElem.mp hc
 have iv:i<vals.length:=by rw[← h.1];exact il
 obtain⟨o,u,q1,_⟩:=h.2 i x c vals[i] (by rw[List.getElem?_eq_getElem il,e]) (List.getElem?_eq_getElem iv)
 exact⟨o,q1⟩
theorem LamRaw.at_ {H:Hp}{f:Addr}{L:Lam}{cl cs:List (Str × Addr)}{vals ws:List V}(r:LamRaw H f L cl) (h:CellsAt H cs vals) (n1:(cl.map (·.1)).Nodup) (n2:(cl.map (·.2)).Nodup) (len:cl.length=ws.length)
  (sub:∀ (i:Nat) x c v,cl[i]?=some (x,c)→ws[i]?=some v→∃ j:Nat,cs[j]?=some (x,c)∧vals[j]?=some v):LamAt H f L cl ws:=by
 refine⟨r.ex,len,fun i x c v a b=>?_,n1,n2⟩
 obtain⟨j,e1,e2⟩:=sub i x c v a b
 exact h.2 j x c v e1 e2
def ir (env:Env) (xs:List (Str × Nat)) (sp:Sp) (E:XK) (t:TA):TE:=fun σ H Q=>t σ H fun vs H1=>∃ vals:List V,vals.length=xs.length∧(∀ (j:Nat) x i v,xs[j]?=some (x,i)→vals[j]?=some v→σ[i]?=some (some v)) ∧
 ∀ cs H2,cs.map (·.1)=xs.map (·.1)→CellsOf env cs→(cs.map (·.2)).Nodup→CellsAt H2 cs vals→(∀ b,b∉cs.map (·.2)→H2 b=H1 b)→(∀ b∈cs.map (·.2),H1 b=none)→sp vs H2 (fun v H3=>Q v (strip cs H3)) E
section
variable {X:Cx}{pins:List (Addr × Obj)}{σ:St}{H:Hp}{s:Shared}
theorem Inv.cells {xs:List (Str × Nat)}{vals:List V}(I:Inv X pins σ H s) (nd:(xs.map (·.1)).Nodup) (hk:∀ p∈xs,X.N[p.2]?=some p.1∧X.env.scope.names.lookup p.1=some .cell∧X.fn p.1=true) (hl:vals.length=xs.length)
  (hσ:∀ (j:Nat) x i v,xs[j]?=some (x,i)→vals[j]?=some v→σ[i]?=some (some v)):∃ cs:List (Str × Addr),cs.map (·.1)=xs.map (·.1)∧CellsOf X.env cs∧(cs.map (·.2)).Nodup∧cs.length=vals.length ∧
   ∀ (j:Nat) x c v,cs[j]?=some (x,c)→vals[j]?=some v→∃ o u,s.heap.get? c=some o∧o.data=.cell (some u)∧RelV v u∧X.s₀.heap.objs.size≤c:=by
 induction xs generalizing vals with
 | nil =>
  cases vals with
  | nil=>exact⟨[],rfl,fun p hp=>(List.not_mem_nil hp).elim,List.nodup_nil,rfl,fun j x c v h=>by cases h⟩
  | cons a b=>cases hl
 | cons p xs ih =>
  cases vals with
  | nil=>cases hl
  | cons v0 vals =>
   rw[List.map_cons,List.nodup_cons]at nd
   obtain⟨cs,c1,c2,c3,c4,c5⟩:=ih (vals:=vals) nd.2 (fun q hq=>hk q (.tail _ hq)) (by simpa using hl) (fun j x i v a b=>hσ (j+1) x i v a b)
   obtain⟨x0,i0⟩:=p
   obtain⟨k1,k2,k3⟩:=hk (x0,i0) (.head _)
   have hv:=hσ 0 x0 i0 v0 rfl rfl
   obtain⟨m,hn,lo⟩:=I.loc
   obtain⟨u,ru,lk⟩:=lo i0 x0 v0 k1 hv (.inr (.inl k2))
   rcases lk with ⟨kk,_⟩|⟨_,c,hc,o,ho,hd⟩
   ·have kk':X.env.scope.names.lookup x0=some .local:=kk
    rw[k2]at kk';cases kk'
   refine⟨(x0,c)::cs,by rw[List.map_cons,List.map_cons,c1],fun q hq=>?_,?_,by rw[List.length_cons,List.length_cons,c4],fun j x c' v a b=>?_⟩
   ·rcases List.mem_cons.mp hq with rfl|z
    ·exact hc
    ·exact c2 q z
   ·rw[List.map_cons,List.nodup_cons]
    refine⟨fun hm=>?_,c3⟩
    obtain⟨q,hq,e⟩:=List.mem_map.mp hm
    have:=I.ok.inj q.1 x0 c (by rw[c2 q hq];exact congrArg some e) hc
    exact nd.1 (by rw[← c1,← this];exact List.mem_map.mpr ⟨q,hq,rfl⟩)
   ·cases j with
    | zero =>
     cases Option.some.inj a
     cases Option.some.inj b
     exact⟨o,u,ho,hd,ru,I.ok.cab x0 c k3 hc⟩
    | succ j=>exact c5 j x c' v a b
variable {CX:CXT}{k:Nat}{f:Addr}{fd:FuncData}{ps:List Str}{sp:Sp}{x:Str}{p pos:Pos}{e:Expr}{es:List Expr}{t:TA}{E:XK}
theorem kF (F:FnOk X.prog X.w X.K X.mg X.base CX0 k f fd ps sp) (hr:Room k X.A) (hg:Gl X x) (hm:X.mg x=some (.ref f)) (hkp:PySem.W.keepIn X.K (.ref f)=true) (hb:Binds X.K fd ps []) (xs:List (Str × Nat)) (nd:(xs.map (·.1)).Nodup)
  (hk:∀ p∈xs,X.N[p.2]?=some p.1∧X.env.scope.names.lookup p.1=some .cell∧X.fn p.1=true) (ha:PA X (e::es) t) (hdb:(x == ("__debug__":Str))=false:=by decide) (he:starEach (e::es) X.env=(false,eval e X.env)::starEach es X.env:=by rfl) (hpl:(backTo pos (starEach es X.env)).any (·.1)=false:=by rfl) :
  PE X (.Call (.Name x p) (e::es) [] pos) (ir X.env xs sp E t):=by
 intro pins s σ H Q I h
 refine wpAny_Call_Name_kw (oa I hg hm ?_ hdb)
 refine PySem.W.callWith_K (h₀:=X.base) I.ok.mod.kin hkp (thn (ha pos pins s σ H _ I h) fun us s1 ⟨vs,H1,I1,r,vals,vl,hσ,q⟩=>⟨I1.kIn,?_⟩) he hpl
 obtain⟨cs,c1,c2,c3,c4,c5⟩:=I1.cells nd hk vl hσ
 have cell:∀ b∈cs.map (·.2),∃ y o u,X.env.cells.lookup y=some b∧s1.heap.get? b=some o∧o.data=.cell (some u)∧X.s₀.heap.objs.size≤b:=fun b hb=>by
  obtain⟨⟨y,c⟩,hc,rfl⟩:=List.mem_map.mp hb
  obtain⟨j,jl,ej⟩:=List.mem_iff_getElem.mp hc
  have jv:j<vals.length:=by rw[← c4];exact jl
  obtain⟨o,u,g1,g2,_,g4⟩:=c5 j y c vals[j] (by rw[List.getElem?_eq_getElem jl,ej]) (List.getElem?_eq_getElem jv)
  exact⟨y,o,u,c2 (y,c) hc,g1,g2,g4⟩
 have free:∀ b∈cs.map (·.2),H1 b=none:=fun b hb=>by
  obtain⟨y,o,u,e1,_⟩:=cell b hb
  exact I1.freeC y b e1
 have nofr:∀ b∈cs.map (·.2),b∉frs X.stack:=fun b hb hf=>by
  obtain⟨y,o,u,e1,_,_,lo⟩:=cell b hb
  rcases List.mem_cons.mp (I1.stkSub b hf) with z|z
  ·exact I1.cne y b e1 z
  ·obtain⟨_,o',ho,_⟩:=I1.ok.funs.mem z
   exact absurd (Nat.lt_of_lt_of_le (Heap.lt_size ho) lo) (Nat.lt_irrefl _)
 let H2:Hp:=fun b=>if b∈cs.map (·.2) then (s1.heap.get? b).map FZ else H1 b
 have in2:∀ {b:Addr}{o:Obj},b∈cs.map (·.2)→s1.heap.get? b=some o→H2 b=some (FZ o):=fun {b o} hb e=>by
  show (if b∈cs.map (·.2) then (s1.heap.get? b).map FZ else H1 b)=_
  rw[if_pos hb,e];rfl
 have out2:∀ b,b∉cs.map (·.2)→H2 b=H1 b:=fun b hb=>if_neg hb
 have old2:∀ {b:Addr}{o:HO},H1 b=some o→H2 b=some o:=fun {b o} e=>by
  rw[out2 b fun hb=>by rw[free b hb]at e;cases e];exact e
 have ca:CellsAt H2 cs vals:=⟨c4,fun i y c v a b=>by
  obtain⟨o,u,g1,g2,g3,_⟩:=c5 i y c v a b
  exact⟨o,u,in2 (List.mem_map.mpr ⟨_,List.mem_of_getElem? a,rfl⟩) g1,g2,g3⟩⟩
 have ok2:HOk X.prog X.w H2 s1.heap:=fun b u e2=>by
  by_cases hb:b∈cs.map (·.2)
  ·obtain⟨y,o,u',_,g1,_⟩:=cell b hb
   rw[in2 hb g1]at e2
   cases e2
   exact qB g1
  ·rw[out2 b hb]at e2
   exact(I1.hok b u e2).stay (fun _ _ _ z=>z) (fun _ z=>old2 z) fun _ _ z=>old2 z
 have e0:=I1.env0
 have e2:Env0 X.prog X.w X.K X.mg X.base X.A X.stack s1 H2:=⟨e0.frames,e0.mod,fun b o z=>⟨(e0.bs b o z).1,?_⟩,e0.bsz,e0.funs,fun b hb=>?_,ok2,e0.bare⟩
 rotate_left
 ·rw[out2 b fun hc=>?_];· exact(e0.bs b o z).2
  ·obtain⟨y,o',u,_,_,_,lo⟩:=cell b hc
   exact absurd (Nat.lt_of_lt_of_le (Heap.lt_size z) (Nat.le_trans I1.ok.bsz lo)) (Nat.lt_irrefl _)
 ·rw[out2 b fun hc=>nofr b hc hb];exact e0.frf b hb
 have z:=q cs H2 c1 c2 c3 ca out2 free
 have ul:us.length=ps.length:=by rw[← r.length];exact F.len _ _ _ _ z
 refine wpAny_call (codeAny_mono (F.run X.A X.stack s1 H2 ⟨us,[]⟩ us vs _ E hr e2 (by have:=hb s1 us I1.kIn (by rw[List.append_nil];exact ul);rwa [List.append_nil]at this) r z) fun rs s' hq=>?_)
 cases rs with
 | error e=>exact hq.elim
 | ok fl =>
  cases fl with
  | next=>exact False.elim hq
  | brk=>exact False.elim hq
  | cont=>exact False.elim hq
  | ret u =>
   obtain⟨v,H3,os,bare,un,hok,rv,qq⟩:=hq
   have fz3:CellsFz cs H3:=fun b hb=>by
    obtain⟨o,w⟩:=ca.fz b hb
    exact⟨o,un.frzs b o _ w⟩
   have same:∀ b∈cs.map (·.2),∀ o,s1.heap.get? b=some o→s'.heap.get? b=some o:=fun b hb o e=>by
    have:=un.frzs b o _ (in2 hb e)
    exact(hok b _ this).1
   refine I1.after ⟨v,strip cs H3,os,bare,⟨fun b o e n x y=>?_,fun b o e n x y=>?_,fun b o e n y=>?_,un.there,fun b ys e=>?_,fun b o w e=>?_,fun b qs e=>?_⟩,tK hok fz3,rv,qq⟩
   ·by_cases hb:b∈cs.map (·.2)
    ·exact same b hb o e
    ·exact un.keep b o e (by rw[out2 b hb];exact n) x y
   ·by_cases hb:b∈cs.map (·.2)
    ·exact⟨o.slots,same b hb o e⟩
    ·exact un.slot b o e (by rw[out2 b hb];exact n) x y
   ·by_cases hb:b∈cs.map (·.2)
    ·exact xZ hb
    ·rw[zx hb];exact un.free b o e (by rw[out2 b hb];exact n) y
   ·have hb:b∉cs.map (·.2):=fun hb=>by rw[free b hb]at e;cases e
    rw[zx hb];exact un.tups b ys (old2 e)
   ·have hb:b∉cs.map (·.2):=fun hb=>by rw[free b hb]at e;cases e
    rw[zx hb];exact un.frzs b o w (old2 e)
   ·have hb:b∉cs.map (·.2):=fun hb=>by rw[free b hb]at e;cases e
    rw[zx hb];exact un.tbls b qs (old2 e)
end
def eI (cl:List (Str × Addr)) (H:Hp) (Q:VK):VK:=fun v H1=>(∀ b∈cl.map (·.2),H1 b=none)→Q v (back cl H H1)
section
variable {CX:CXT}{P:Program}{w:World}{K:PySem.W.Frag}{mg:Str→Option Value}{base:Heap}{L:Lam}{cl:List (Str × Addr)}{vals vs:List V}{ps:List Str}{f c:Addr}{A:Around}{outer:List Env}{s:Shared}{H:Hp}{us:List Value}{Q:VK}{E:XK}
theorem kr {k:Nat}(S:LamScope ps (cl.map (·.1)) L.scope) (hr:Room (k+1) A) (e0:Env0 P w K mg base A outer s H) (la:LamAt H f L cl vals) (r:Vals vs us) (hl:vs.length=ps.length)
  (hb:∀ pm cdv ct,bindArgs (PySem.W.kla_fn "<lambda>" L.qual L.params L.body L.scope cl pm cdv ct) ⟨us,[]⟩=pure (ps.zip us))
  (hbody:∀ c,Room k (A.deeper (pY L cl s.heap.objs.size f c))→∃ t,PE (jL CX P w K mg base (ps++cl.map (·.1)) L cl f c A outer s H E) L.body t∧t ((vs++vals).map some) (strip cl H) (eI cl H Q)) :
  codeAny (model P w) A (.call (.ref f) ⟨us,[]⟩) (CR CX outer P w H s Q E) s:=by
 obtain⟨pm,c,ct,oc,fs,tc,h1,h2,h3,h4⟩:=la.ex
 have lim:s.heap.NoLimit:=e0.mod.nolimit.keeps fun b o e=>(e0.bs b o e).1
 have ul:us.length=ps.length:=by rw[← r.length];exact hl
 refine PySem.W.kla_callFunE hr.depth (e0.hok f _ h1).1 rfl S.co S.gen rfl ⟨c,oc,fs,tc,rfl,(e0.hok c _ h2).1,h3,h4⟩ ?_
 rw[show bindArgs _ _=_ from hb pm (.ref c) ct]
 refine wpAny_pure (wpAny_newFunctionEnv S.noc (fun y hy=>S.par y.1 (List.of_mem_zip hy).1) (fun h' ns sb=>?_) S.kind)
 have kp:∀ b o,s.heap.get? b=some o→h'.get? b=some o:=fun b o e=>(sb.2 b (Nat.ne_of_lt (Heap.lt_size e))).trans (Heap.get?_push_of_some _ e)
 refine⟨lim.keeps kp,PySem.W.kla_codeExpr ?_⟩
 obtain⟨t,ht,hq⟩:=hbody c (hr.deeper _)
 have I:=iD (CX:=CX) (E:=E) (c:=c) (tk:=s.toks+(ps.zip us).length) S hr.hd e0 la r hl ns kp
 refine wpAny_mono (ht [] _ _ _ _ I hq) (fun u s' hs=>?_) fun e s' hs=>hs
 obtain⟨v,H1,J,rv,q⟩:=hs
 have fzl:=la.fz
 have low:∀ b∈cl.map (·.2),H1 b=none:=fun b hb=>by
  obtain⟨o,z⟩:=fzl b hb
  exact J.base.free b o (e0.hok b _ z).1 (xZ hb) List.not_mem_nil
 obtain⟨un,ok⟩:=jR (H':=H1) J.base fzl e0.frf (fun b o z=>(e0.hok b _ z).1) low J.hok
 exact⟨v,_,J.os,J.bare,un,ok,rv,q low⟩
end
abbrev LSpc:=List V→List V→Hp→VK→XK→Prop
structure LamQ (CX:CXT) (P:Program) (w:World) (K:PySem.W.Frag) (mg:Str→Option Value) (base:Heap) (k:Nat) (L:Lam) (fr ps:List Str) (sp:LSpc):Prop where
 S:LamScope ps fr L.scope
 len:∀ vals vs H Q E,sp vals vs H Q E→vs.length=ps.length
 bind:∀ (cl:List (Str × Addr)) (us:List Value),us.length=ps.length→∀ pm cdv ct,bindArgs (PySem.W.kla_fn "<lambda>" L.qual L.params L.body L.scope cl pm cdv ct) ⟨us,[]⟩=pure (ps.zip us)
 body:∀ (cl:List (Str × Addr)) (f c:Addr) (A:Around) (outer:List Env) (s:Shared) (H:Hp) (vals vs:List V) (Q:VK) (E:XK),cl.map (·.1)=fr→Room k (A.deeper (pY L cl s.heap.objs.size f c))→CellsFz cl H→sp vals vs (strip cl H) Q E →
  ∃ t,PE (jL CX P w K mg base (ps++fr) L cl f c A outer s H E) L.body t∧t ((vs++vals).map some) (strip cl H) Q
def fU (L:Lam) (fr:List Str) (sp:LSpc) (E:XK) (i:Nat) (t:TA):TE:=fun σ H Q=>∃ f,σ[i]?=some (some (.ref f))∧(∃ cl pm c ct,H f=some (FZ (rz L cl pm c ct)))∧t σ H fun vs H1=>∃ cl vals,cl.map (·.1)=fr∧LamAt H1 f L cl vals∧sp vals vs (strip cl H1) (eI cl H1 Q) E
section
variable {X:Cx}{CX:CXT}{k:Nat}{L:Lam}{fr ps:List Str}{sp:LSpc}{E:XK}{x:Str}{i:Nat}{p pos:Pos}{e:Expr}{es:List Expr}{t:TA}
theorem oK (F:LamQ CX X.prog X.w X.K X.mg X.base k L fr ps sp) (hr:Room (k+1) X.A) (hN:PE X (.Name x p) (jX i)) (hx:Passes CX X E) (ha:PA X (e::es) t) (he:starEach (e::es) X.env=(false,eval e X.env)::starEach es X.env:=by rfl) (hpl:(backTo pos (starEach es X.env)).any (·.1)=false:=by rfl) :
  PE X (.Call (.Name x p) (e::es) [] pos) (fU L fr sp E i t):=by
 intro pins s σ H Q I h
 obtain⟨f,hf,⟨cl0,pm0,c0,ct0,hf0⟩,q⟩:=h
 refine wpAny_Call_Name_kw (thn (hN pins s σ H (fun v H'=>v=.ref f∧H'=H) I ⟨_,hf,rfl,rfl⟩) fun g s0 ⟨v,H0,I0,rv,ev,eh⟩=>?_)
 subst ev eh
 obtain rfl:g=.ref f:=rv
 refine PySem.W.callWith_F ⟨_,_,_,_,(I0.hok f _ hf0).1⟩ ?_ he hpl
 refine thn (ha pos pins s0 σ H0 _ I0 q) fun us s1 ⟨vs,H1,I1,r,cl,vals,ec,la,z⟩=>?_
 obtain⟨pm,c,ct,oc,fs,tc,h1,h2,h3,h4⟩:=la.ex
 have hl:=F.len _ _ _ _ _ z
 have ul:us.length=ps.length:=by rw[← r.length];exact hl
 have S':LamScope ps (cl.map (·.1)) L.scope:=by rw[ec];exact F.S
 refine⟨⟨_,_,_,_,(I1.hok f _ h1).1⟩,?_⟩
 refine wpAny_call (codeAny_mono (kr (CX:=CX) (E:=E) (Q:=Q) S' hr I1.env0 la r hl (F.bind cl us ul) fun c' hr'=>?_) fun rs s' hq=>?_)
 ·obtain⟨t',ht,hq⟩:=F.body cl f c' X.A X.stack s1 H1 vals vs _ E ec hr' la.fz z
  exact⟨t',by rw[ec];exact ht,hq⟩
 ·cases rs with
  | error e=>exact hx pins σ H1 s1 e s' I1 hq
  | ok fl =>
   cases fl with
   | ret u=>exact I1.after hq
   | next=>exact False.elim hq
   | brk=>exact False.elim hq
   | cont=>exact False.elim hq
end
abbrev LvL:=List (KN × List Int)
def iG (ps:LvL) (k:KN):Option (List Int):=(ps.find? fun x=>decide (x.1=k)).map (·.2)
def eC (ps:LvL) (k:KN) (c:List Int):LvL:=if (iG ps k).isSome then ps.map fun x=>if x.1=k then (x.1,c) else x else ps++[(k,c)]
def pH (c:List Int) (m:Nat):List Int:=Bn.yd c m 1
structure LAcc where
 on:LvL
 fl:List (List Int)
section
variable (step:KN→Nat→Option KN) (seen:LvL)
def go1 (s:KN) (c:List Int) (a:LAcc) (m:Nat):LAcc :=
 match step s m with
 | none=>⟨a.on,a.fl++[pH c m]⟩
 | some t=>if (iG seen t).isSome then a else ⟨eC a.on t (eG (pH c m) ((iG a.on t).getD (pH c m))),a.fl⟩
end
theorem vN {α β:Type}{F G:α→β→Prop}(h:∀ a b,F a b→G a b) {l1:List α}{l2:List β}(p:Paired F l1 l2):Paired G l1 l2:=by
 induction p with
 | nil=>exact .nil
 | cons a _ ih=>exact .cons (h _ _ a) ih
theorem uy:∀ (ys xs:KVN),(ys.map (·.1)).Nodup→(∀ y∈ys,∀ x∈xs,x.1≠y.1)→xi xs ys=xs++ys
 | [],xs,_,_=>by rw[List.append_nil];rfl
 | y::ys,xs,nd,ds=>by
  rw[List.map_cons,List.nodup_cons]at nd
  have e:yk xs y.1 y.2.1 y.2.2=xs++[y]:=by
   unfold yk
   have:yw xs y.1=none:=by
    unfold yw
    rw[Option.map_eq_none_iff,List.find?_eq_none]
    exact fun x hx z=>ds y (.head _) x hx (of_decide_eq_true z)
   rw[this];rfl
  show List.foldl _ (yk xs y.1 y.2.1 y.2.2) ys=_
  rw[e]
  have:=uy ys (xs++[y]) nd.2 fun z hz x hx=>by
   rcases List.mem_append.mp hx with q|q
   ·exact ds z (.tail _ hz) x q
   ·rw[List.mem_singleton.mp q]
    exact fun e=>nd.1 (List.mem_map.mpr ⟨z,hz,e.symm⟩)
  rw[show List.foldl (fun acc y=>yk acc y.1 y.2.1 y.2.2) (xs++[y]) ys=xi (xs++[y]) ys from rfl,this,List.append_assoc];rfl
end L2
namespace L2
open PySem PySem.Spec PyProof.Rows Own Bn
theorem Room.u3 {k:Nat}{A:Around}(r:Room k A):A.units+3<cLine:=by have:=r.un;lia
def Led (lsp:LSpc) (vals:List V) (step:KN→Nat→Option KN) (Ok:KN→Prop) (moves:List Nat) (H:Hp):Prop :=
 ∀ (H1:Hp) (s:KN) (b:Addr) (m:Nat) (Q:VK),Tups H H1→Ok s→m∈moves→NKey H1 s b→(∀ H2,Same H1 H2→step s m=none→Q .non H2)→(∀ H2 b' t,Same H1 H2→step s m=some t→NKey H2 t b'→Q (.ref b') H2)→lsp vals [.ref b,.int (m:Nat)] H1 Q E0
theorem vf {H:Hp}{cl:List (Str × Addr)}(fz:CellsFz cl H):Tups H (strip cl H):=fun a xs e=>by
 rw[zx]
 ·exact e
 ·intro hc
  obtain⟨o,q⟩:=fz a hc
  rw[e]at q;cases q
theorem wx {H H2:Hp}{cl:List (Str × Addr)}(s:Same (strip cl H) H2):Same H (back cl H H2):=fun b o e=>by
 by_cases c:b∈cl.map (·.2)
 ·rw[sY c];exact e
 ·rw[yu c];exact s b o (by rw[zx c];exact e)
theorem nF {H H2:Hp}{cl:List (Str × Addr)}(low:∀ b∈cl.map (·.2),H2 b=none):Tups H2 (back cl H H2):=fun b xs e=>by
 rw[yu]
 ·exact e
 ·intro hc
  rw[low b hc]at e;cases e
def MvAt (K:PySem.W.Frag) (H:Hp) (a:Addr) (xs:List V):Prop:=H a=some (.tup xs)∨∀ H',SqT K H' a xs
theorem MvAt.tups {K:PySem.W.Frag}{H H':Hp}(t:Tups H H') {a:Addr}{xs:List V}(h:MvAt K H a xs):MvAt K H' a xs:=h.imp (t _ _) id
theorem MvAt.sq {K:PySem.W.Frag}{H:Hp}{a:Addr}{xs:List V}(h:MvAt K H a xs):SqT K H a xs:=h.elim SqT.of fun z=>z H
structure Way (K:PySem.W.Frag) (H:Hp) (mv f:Addr) (L:Lam) (fr:List Str) (lsp:LSpc) (cl:List (Str × Addr)) (vals:List V) (step:KN→Nat→Option KN) (Ok:KN→Prop) (moves:List Nat) (n:Nat):Prop where
 mv:MvAt K H mv (moves.map fun m=>V.int (m:Nat))
 fr:cl.map (·.1)=fr
 la:LamAt H f L cl vals
 ld:Led lsp vals step Ok moves H
 lt:∀ m∈moves,m<n
 ok:∀ s m t,Ok s→m∈moves→step s m=some t→Ok t
 n1:n≤1000
section
variable {step:KN→Nat→Option KN}{seen:LvL}{Ok:KN→Prop}{moves:List Nat}
end
section
variable {step:KN→Nat→Option KN}{moves:List Nat}{most m:Nat}{level seen:LvL}{ls:List LvL}
end
end L2
namespace L2
open PySem PySem.Spec PyProof.Rows
abbrev e2 (elt tg iter tg1 iter1:Expr) (ifs:List Expr) (scope:Scope) (pos:Pos):Expr:=.ListComp elt [⟨tg,iter,[],0⟩,⟨tg1,iter1,ifs,0⟩] scope pos
theorem nB (elt tg iter tg1 iter1:Expr) (ifs:List Expr) (scope:Scope) (pos:Pos) (it acc:Value) (env:Env) :
  compTurn (e2 elt tg iter tg1 iter1 ifs scope pos) 0 it acc env=(standAt iter.pos >>= fun _=>pyNext it >>= fun r=>match r with
   | none=>pure (.done .next)
   | some v=>letOwnedTupleGo tg it v >>= fun _=>assign tg env v >>= fun _ =>
    (eval iter1 env >>= fun x=>standAt iter1.pos >>= fun _=>foldedSetIterable iter1 env x >>= fun x=>holding [x] (pyIter x) >>= fun i1=>runOwn (.compStart (e2 elt tg iter tg1 iter1 ifs scope pos) 1 i1 acc env) env >>= fun _ =>
     again (.compLoop (e2 elt tg iter tg1 iter1 ifs scope pos) 0 it acc env))):=by rfl
theorem nA (elt tg iter tg1 iter1:Expr) (scope:Scope) (pos:Pos) (it acc:Value) (env:Env) :
  compTurn (e2 elt tg iter tg1 iter1 [] scope pos) 1 it acc env=(standAt iter1.pos >>= fun _=>pyNext it >>= fun r=>match r with
   | none=>pure (.done .next)
   | some v=>letOwnedTupleGo tg1 it v >>= fun _=>assign tg1 env v >>= fun _ =>
    ((eval elt env >>= fun x=>call (.builtin "list.append") [acc,x] >>= fun _=>pure ()) >>= fun _ =>
     again (.compLoop (e2 elt tg iter tg1 iter1 [] scope pos) 1 it acc env))):=by rfl
theorem qP (elt tg iter tg1 iter1 c:Expr) (scope:Scope) (pos:Pos) (it acc:Value) (env:Env) :
  compTurn (e2 elt tg iter tg1 iter1 [c] scope pos) 1 it acc env=(standAt iter1.pos >>= fun _=>pyNext it >>= fun r=>match r with
   | none=>pure (.done .next)
   | some v=>letOwnedTupleGo tg1 it v >>= fun _=>assign tg1 env v >>= fun _=>(forIn [c] true fun c r=>if r=true then (isTrue c env (eval c env) >>= fun ok=>pure (ForInStep.yield ok)) else pure (ForInStep.yield r)) >>= fun ok =>
    if ok=true then
    ((eval elt env >>= fun x=>call (.builtin "list.append") [acc,x] >>= fun _=>pure ()) >>= fun _ =>
     again (.compLoop (e2 elt tg iter tg1 iter1 [c] scope pos) 1 it acc env)) else again (.compLoop (e2 elt tg iter tg1 iter1 [c] scope pos) 1 it acc env)):=by rfl
section
variable {prog:Program}{w:World}{A:Around}{R:Result→Shared→Prop}{s:Shared}{elt tg iter tg1 iter1:Expr}{scope:Scope}{pos:Pos}{it acc:Value}{env:Env}
theorem qK {ifs:List Expr}
  (h0:codeAny (model prog w) A (.compLoop (e2 elt tg iter tg1 iter1 ifs scope pos) 1 it acc env) R s)
  (h:wpAny (model prog w) A (pyIter it) (fun i2 z=>codeAny (model prog w) A (.compLoop (e2 elt tg iter tg1 iter1 ifs scope pos) 1 i2 acc env) R z) NoX s) :
  codeAny (model prog w) A (.compStart (e2 elt tg iter tg1 iter1 ifs scope pos) 1 it acc env) R s:=by
 refine codeAny_of_tree ?_
 show wpAny _ A ((compStart (e2 elt tg iter tg1 iter1 ifs scope pos) 1 it acc env).onRaise (fun x=>do noteFrame x env;standAt theWindowsPlace)) _ _ s
 refine wpAny_notedAt ?_
 unfold compStart
 refine(show wpAny _ _ (ask >>= _) _ _ s from wpAny_bind (wpAny_askSetting (wpAny_ite ?_)))
 split
 ·first
   | exact wpAny_bind (wpAny_pure (wpAny_pure ⟨rfl,h0⟩))
   | exact wpAny_pure ⟨rfl,h0⟩
 ·apply wpAny_bind;refine wpAny_rule ?_
  first
   | exact wpAny_bind (wpAny_standAt (wpAny_bind (wpAny_mono h (fun it' s' h'=>wpAny_pure ⟨rfl,h'⟩) fun _ _ z=>z.elim)))
   | (show wpAny _ _ (standAt iter1.pos >>= _) _ _ s;exact wpAny_bind (wpAny_standAt (wpAny_bind (wpAny_mono h (fun it' s' h'=>wpAny_pure ⟨rfl,h'⟩) fun _ _ z=>z.elim))))
theorem o8 {o:Option Expr}(J:Nat→Shared→Prop)
  (turn:∀ n s,J n s→Go (model prog w) A tg1 elt o it acc env R (fun z=>∃ m,m<n∧J m z) s) (n:Nat) (h:J n s) :
  codeAny (model prog w) A (.compLoop (.ListComp elt [⟨tg,iter,[],0⟩,⟨tg1,iter1,o.toList,0⟩] scope pos) 1 it acc env) R s:=by
 cases o with
 | none =>
  refine codeAny_loop rfl J (fun n s hI=>?_) n h
  show wpAny _ A ((compTurn (e2 elt tg iter tg1 iter1 [] scope pos) 1 it acc env).onRaise (fun x=>do noteFrame x env;theTreesLotGoes x)) _ _ s
  refine wpAny_noted ?_
  rw[nA]
  refine wpAny_bind (wpAny_standAt (wpAny_bind (wpAny_mono (turn n s hI) (fun r a h1=>?_) fun _ _ z=>z.elim)))
  cases r with
  | none=>exact wpAny_pure h1
  | some v =>
   refine wpAny_bind (wpAny_mono h1 (fun _ b h2=>?_) fun _ _ z=>z.elim)
   refine wpAny_bind (wpAny_mono h2 (fun _ c h3=>?_) fun _ _ z=>z.elim)
   have h3':wpAny (model prog w) A (eval elt env) (fun x e=>wpAny (model prog w) A (call (.builtin "list.append") [acc,x]) (fun _ f=>∃ m,m<n∧J m f) NoX e) NoX c:=h3
   exact wpAny_bind (wpAny_bind (wpAny_mono h3' (fun x d h4=>wpAny_bind (wpAny_mono h4 (fun _ e h5=>wpAny_pure (wpAny_pure ⟨rfl,h5⟩)) fun _ _ z=>z.elim)) fun _ _ z=>z.elim))
 | some t =>
  refine codeAny_loop rfl J (fun n s hI=>?_) n h
  show wpAny _ A ((compTurn (e2 elt tg iter tg1 iter1 [t] scope pos) 1 it acc env).onRaise (fun x=>do noteFrame x env;theTreesLotGoes x)) _ _ s
  refine wpAny_noted ?_
  rw[qP]
  refine wpAny_bind (wpAny_standAt (wpAny_bind (wpAny_mono (turn n s hI) (fun r a h1=>?_) fun _ _ z=>z.elim)))
  cases r with
  | none=>exact wpAny_pure h1
  | some v =>
   refine wpAny_bind (wpAny_mono h1 (fun _ b h2=>?_) fun _ _ z=>z.elim)
   refine wpAny_bind (wpAny_mono h2 (fun _ c h3=>?_) fun _ _ z=>z.elim)
   have h3':wpAny (model prog w) A (isTrue t env (eval t env)) (fun yes d=>if yes=true then wpAny (model prog w) A (eval elt env) (fun x e=>wpAny (model prog w) A (call (.builtin "list.append") [acc,x]) (fun _ f=>∃ m,m<n∧J m f) NoX e) NoX d else ∃ m,m<n∧J m d) NoX c:=h3
   refine wpAny_bind (wpAny_tests_one (wpAny_mono h3' (fun yes d h4=>?_) fun _ _ z=>z.elim))
   cases yes with
   | false=>exact wpAny_pure ⟨rfl,h4⟩
   | true=>exact wpAny_bind (wpAny_bind (wpAny_mono h4 (fun x e h5=>wpAny_bind (wpAny_mono h5 (fun _ f h6=>wpAny_pure (wpAny_pure ⟨rfl,h6⟩)) fun _ _ z=>z.elim)) fun _ _ z=>z.elim))
theorem o9 {ifs:List Expr}(J:Nat→Shared→Prop)
  (turn:∀ n s,J n s→wpAny (model prog w) A (pyNext it) (fun r a=>match r with
   | none=>R (.ok .next) a
   | some v=>wpAny (model prog w) A (letOwnedTupleGo tg it v) (fun _ b=>wpAny (model prog w) A (assign tg env v) (fun _ c=>wpAny (model prog w) A (eval iter1 env) (fun x d=>wpAny (model prog w) A (pyIter x) (fun i1 e =>
     codeAny (model prog w) A (.compStart (e2 elt tg iter tg1 iter1 ifs scope pos) 1 i1 acc env) (fun r f=>match r with|.ok _=>∃ m,m<n∧J m f|.error _=>False) e) NoX d) NoX c) NoX b) NoX a) NoX s) (n:Nat) (h:J n s)
  (hs:∀ x,foldedSetIterable iter1 env x=pure x) :
  codeAny (model prog w) A (.compLoop (e2 elt tg iter tg1 iter1 ifs scope pos) 0 it acc env) R s:=by
 refine codeAny_loop rfl J (fun n s hI=>?_) n h
 show wpAny _ A ((compTurn (e2 elt tg iter tg1 iter1 ifs scope pos) 0 it acc env).onRaise (fun x=>do noteFrame x env;theTreesLotGoes x)) _ _ s
 refine wpAny_noted ?_
 rw[nB]
 refine wpAny_bind (wpAny_standAt (wpAny_bind (wpAny_mono (turn n s hI) (fun r a h1=>?_) fun _ _ z=>z.elim)))
 cases r with
 | none=>exact wpAny_pure h1
 | some v =>
  refine wpAny_bind (wpAny_mono h1 (fun _ b h2=>?_) fun _ _ z=>z.elim)
  refine wpAny_bind (wpAny_mono h2 (fun _ c h3=>?_) fun _ _ z=>z.elim)
  refine wpAny_bind (wpAny_mono h3 (fun x d h4=>?_) fun _ _ z=>z.elim)
  refine wpAny_bind (wpAny_standAt (wpAny_bind (wpAny_of_eq (hs x) (wpAny_bind (wpAny_holding (wpAny_mono h4 (fun i1 e h5=>?_) fun _ _ z=>z.elim))))))
  refine wpAny_bind (wpAny_runOwn (codeAny_mono h5 (fun r f h6=>?_)))
  cases r with
  | ok fl=>exact wpAny_pure ⟨rfl,h6⟩
  | error x=>exact h6.elim
end
def LCW1 (J:It) (g:TG) (tt:TT) (te:TE) (l:Addr) (Q:List V→St→Hp→Prop) (W:Nat→Nat→List V→St→Hp→Prop):Prop :=
 ∀ i m acc σ' H',W i m acc σ' H'→H' l=some (.lst acc) ∧
  ((J.stop i H'∧Q acc σ' H')∨(J.go i H'∧∀ x H2,J.yld i H' x H2→g x σ' H2 fun σ3 H3=>tt σ3 H3 fun b H4 =>
   if b=true then te σ3 H4 fun y H5=>H5 l=some (.lst acc)∧acc.length<sizeLine∧∃ m',m'<m∧W (i+1) m' (acc++[y]) σ3 (upd H5 l (.lst (acc++[y])))
   else ∃ m',m'<m∧W (i+1) m' acc σ3 H4))
def fY (cap:List (Option Nat)) (wi:TI) (g:TG) (wi1:TI) (g1:TG) (tt:TT) (te:TE):TE:=fun σ H Q=>wi σ H fun J H1=>∀ l,H1 l=none →
 ∃ W:Nat→Nat→List V→St→Hp→Prop,(∃ m,W 0 m [] (sU cap σ) (upd H1 l (.lst []))) ∧
  ∀ i m acc σ' H',W i m acc σ' H'→H' l=some (.lst acc)∧((J.stop i H'∧Q (.ref l) H')∨(J.go i H'∧∀ x H2,J.yld i H' x H2→g x σ' H2 fun σ3 H3=>wi1 σ3 H3 fun J1 H4 =>
   ∃ W1:Nat→Nat→List V→St→Hp→Prop,(∃ m1,W1 0 m1 acc σ3 H4)∧LCW1 J1 g1 tt te l (fun ac τ G=>∃ m',m'<m∧W (i+1) m' ac τ G) W1))
theorem kj {X:Cx}{elt tg iter tg1 iter1:Expr}{o:Option Expr}{scope:Scope}{pos ppos:Pos}{wi wi1:TI}{g g1:TG}{tt:TT}{te:TE}{N':List Str}{cap:List (Option Nat)}{use:Option (Value→Sem Unit)}{Q0:Value→Shared→Prop}
  (hc:X.calm=true) (hi:PI X tg iter wi) (ck:CapOk X.N N' X.env.scope scope cap)
  (hg:∀ C s₀ H₀ fp pins,PG (yF X N' scope C s₀ H₀ fp pins) tg g)
  (hi1:∀ C s₀ H₀ fp pins,PI (yF X N' scope C s₀ H₀ fp pins) tg1 iter1 wi1)
  (hg1:∀ C s₀ H₀ fp pins,PG (yF X N' scope C s₀ H₀ fp pins) tg1 g1)
  (ht:∀ C s₀ H₀ fp pins,PTo (yF X N' scope C s₀ H₀ fp pins) o tt)
  (he:∀ C s₀ H₀ fp pins,PE (yF X N' scope C s₀ H₀ fp pins) elt te)
  (hs:∀ x,foldedSetIterable iter X.env x=pure x) (hs1:∀ C x,foldedSetIterable iter1 (compEnvC scope (wI X.env.cells scope.names []) C X.env) x=pure x) {pins:List (Addr × Obj)}{s:Shared}{σ:St}{H:Hp}{Q:VK}(I:Inv X pins σ H s) (h:fY cap wi g wi1 g1 tt te σ H Q)
  (fin:∀ (l C:Addr) (H4:Hp) (s5:Shared) (m:Str→Option Value),Inv X pins σ H4 s5→Q (.ref l) H4→s5.heap.Ns C m→FpOk X pins H4 C→compPost (model X.prog X.w) X.A X.xe use Q0 (.ref l) C (.ok .next) s5) :
  wpAny (model X.prog X.w) X.A (comprehension (.ListComp elt [⟨tg,iter,[],0⟩,⟨tg1,iter1,o.toList,0⟩] scope pos) scope X.env ppos (newList []) false (eval iter X.env) use) Q0 X.xe s:=by
 have hcells:∀ y∈scope.names,y.2=.free→∃ c,X.env.cells.lookup y.1=some c:=fun y hy hf=>I.ok.has y.1 (ck.free y hy hf)
 refine wpAny_comprehension_free (use:=use) rfl hs (wS hcells) ck.kind ck.names (thn (hi pins s σ H _ I h) fun v s1 h1=>thn h1 fun itv s2 h2=>?_)
 obtain⟨it,fp,tn,J,H2,e,I2,T,st2,f2,body⟩:=h2
 subst e
 have hfr2:H2 s2.heap.objs.size=none:=I2.hok.fresh (Nat.le_refl _)
 obtain⟨W,⟨m0,w0⟩,turn⟩:=body s2.heap.objs.size hfr2
 have I3:Inv X pins σ (upd H2 s2.heap.objs.size (.lst [])) { s2 with heap:=s2.heap.push { cls:=.type "list",data:=.seq ([]:List Value).toArray },toks:=s2.toks }:=I2.lnew (its:=[]) (t':=s2.toks) .nil (Nat.zero_le _)
 refine wpAny_newObj_type (wpAny_newFunctionEnv ck.nocell (by intro y hy;simp at hy) (fun h₁ hns₁ hsb₁=>?_) ck.kind)
 dsimp only at hns₁ hsb₁ ⊢
 generalize hl:s2.heap.objs.size=l at *
 generalize hP:s2.heap.push { cls:=.type "list",dict:=none,data:=.seq ([]:List Value).toArray }=P2 at *
 generalize hH3:upd H2 l (.lst [])=H3 at *
 have old:∀ b o,P2.get? b=some o→h₁.get? b=some o:=fun b o e=>hsb₁.extBut b o (Nat.ne_of_lt (Heap.lt_size e)) (Heap.get?_push_of_some _ e)
 have old2:∀ b o,s2.heap.get? b=some o→P2.get? b=some o:=fun b o e=>hP ▸ Heap.get?_push_of_some _ e
 have fpl:∀ b∈fp,b<l:=fun b hb=>by
  obtain⟨o,e,_⟩:=T.obj _ _ st2 b hb
  rw[← hl];exact Heap.lt_size e
 have fp3:∀ b∈fp,H3 b=none:=fun b hb=>by
  rw[← hH3,zH (Nat.ne_of_lt (fpl b hb))];exact(f2 b hb).1
 have hPs:P2.objs.size=l+1:=by rw[← hP,Heap.size_push,hl]
 have subc:∀ x c,(wI X.env.cells scope.names []).lookup x=some c→X.env.cells.lookup x=some c:=fun x c e=>xu _ _ x c hcells (fun _ _ z=>by simp at z) e
 generalize hs3:({ s2 with heap:=P2,toks:=s2.toks }:Shared)=s3 at *
 have hs3h:s3.heap=P2:=by rw[← hs3]
 let Y:=yF X N' scope P2.objs.size s3 H3 fp pins
 have hYok:Y.Ok:=by
  refine⟨I3.ok.mod,ck.kind,I3.ok.glob,I3.ok.blt,by show s3.heap.objs.size≤P2.objs.size;rw[hs3h];exact Nat.le_refl _,fun x y c e1 e2=>I3.ok.inj x y c (subc x c e1) (subc y c e2),fun x hx=>?_,fun x c hx=>absurd (show false=true from hx) Bool.false_ne_true,I3.ok.hd,I3.ok.frames,.inl rfl,fun b hb=>⟨?_,fun x c e=>?_⟩,I3.bs,
   Nat.le_trans I3.ok.bsz I3.sz,fun b o e hb=>?_,fun b hb hz=>?_,I3.stack,I3.stkFree⟩
  ·have hx':scope.names.lookup x=some .free:=by
    rcases hx with hx|hx
    ·rcases yU hx with z|z
     ·exact absurd rfl (ck.nocell _ (xX z))
     ·exact z.2
    ·rcases yU hx with z|z
     ·exact z
     ·exact z.2
   exact yt _ _ x hx'
  ·exact Nat.ne_of_lt (by show b<P2.objs.size;rw[hPs];exact Nat.lt_succ_of_lt (fpl b hb))
  ·exact(f2 b hb).2.2.2.2.1 x c (subc x c e)
  ·rcases (f2 b hb).2.2.2.1 with z|z
   ·exact I3.ok.noex b o e z
   ·exact absurd (Nat.lt_of_lt_of_le (Heap.lt_size e) (Nat.le_trans I3.ok.bsz z)) (Nat.lt_irrefl _)
  ·rcases List.mem_cons.mp (I3.stkSub b hz) with z|z
   ·exact(f2 b hb).2.1 z
   ·exact(f2 b hb).2.2.1 z
 have hYi:Inv Y [] (sU cap σ) H3 { s2 with heap:=h₁,toks:=s2.toks }:=by
  refine⟨hYok,by show s2.os=s3.os;rw[← hs3],I2.bare,by show Un _ _ _ _ s3.heap h₁;rw[hs3h];exact Un.kept old,⟨_,hns₁,fun j x v e1 e2 e3=>?_⟩,fun x c e=>?_,?_,fun x c e=>I3.freeC x c (subc x c e),fun p hp=>?_,fun b o e=>?_,?_⟩
  ·have e1':N'[j]?=some x:=e1
   unfold sU at e2
   rw[List.getElem?_map]at e2
   cases ec:cap[j]? with
   | none=>rw[ec]at e2;cases e2
   | some oc =>
    rw[ec]at e2
    cases oc with
    | none=>cases e2
    | some i =>
     have e2':σ[i]?=some (some v):=by
      cases ei:σ[i]? with
      | none=>simp[ei]at e2
      | some v' =>
       simp[ei]at e2
       rw[e2]
     have hz:(x,some i)∈N'.zip cap:=by
      refine List.mem_of_getElem? (i:=j) ?_
      rw[List.getElem?_zip_eq_some]
      exact⟨e1',ec⟩
     obtain⟨hN,hf,hk⟩:=ck.cap _ hz i rfl
     obtain⟨m,hn,hlo⟩:=I3.loc
     obtain⟨u,r,lk⟩:=hlo i x v hN e2' (by rcases hk with z|z;exact .inr (.inl z);exact .inr (.inr z))
     refine⟨u,r,.inr ⟨?_,?_⟩⟩
     ·exact xT hf
     ·rcases lk with ⟨z,_⟩|⟨_,c,hcx,hcell⟩
      ·have z':X.env.scope.names.lookup x=some .local:=z
       rcases hk with q|q
       ·rw[q]at z';cases z'
       ·rw[q]at z';cases z'
      ·obtain⟨c',hc'⟩:=yt (cells:=X.env.cells) scope.names [] x hf
       have:=subc x c' hc'
       rw[hcx]at this;cases this
       obtain⟨ob,e,d⟩:=hcell
       rw[hs3h]at e
       exact⟨c,hc',ob,old c ob e,d⟩
  ·obtain⟨v,ob,e',d⟩:=I3.cell x c (subc x c e)
   rw[hs3h]at e'
   exact⟨v,ob,old c ob e',d⟩
  ·refine I3.hok.fresh ?_
   rw[hs3h];exact Nat.le_refl _
  ·have hp':p∈X.pn++pins:=(List.mem_append.mp hp).elim (fun z=>z) (fun z=>nomatch z)
   obtain⟨e,n,ne,nf,d⟩:=I3.pin p hp'
   rw[hs3h]at e
   refine⟨old _ _ e,n,Nat.ne_of_lt (Heap.lt_size e),fun z=>?_,d⟩
   rcases List.mem_cons.mp (I3.stkSub _ z) with q|q
   ·exact ne q
   ·exact nf q
  ·have:=I3.hok.kept (h':=h₁) (fun b u q=>old b u (by rw[← hs3h];exact q))
   exact this b o e
  ·show (cap.map _).length=N'.length
   rw[List.length_map,ck.len]
 have stat:∀ {H':Hp},(∀ b∈fp,H' b=none)→∀ b∈fp,FpOk Y [] H' b:=fun {H'} hn b hb=>by
  refine⟨hn b hb,(hYok.exf b hb).1,hYok.exfs b hb,.inl hb,(hYok.exf b hb).2,fun p hp=>?_⟩
  have hp':p∈X.pn++pins:=(List.mem_append.mp hp).elim (fun z=>z) (fun z=>nomatch z)
  exact(f2 b hb).2.2.2.2.2 p hp'
 have st1:tn 0 h₁:=T.keep 0 _ _ st2 fun b hb o e=>old b o (old2 b o e)
 have loop:codeAny (model X.prog X.w) X.A (.compLoop (.ListComp elt [⟨tg,iter,[],0⟩,⟨tg1,iter1,o.toList,0⟩] scope pos) 0 (.ref it) (.ref l) Y.env) (compPost (model X.prog X.w) X.A X.xe use Q0 (.ref l) P2.objs.size) { s2 with heap:=h₁,toks:=s2.toks }:=by
  refine o9 (fun n s'=>∃ i acc σ' H',Inv Y [] σ' H' s'∧tn i s'.heap∧(∀ b∈fp,H' b=none)∧W i n acc σ' H') ?_ m0 ⟨0,[],_,H3,hYi,st1,fp3,w0⟩ (hs1 _)
  rintro n s4 ⟨i,acc,σ4,H4,I4,st4,fr4,w4⟩
  obtain⟨hlst,q4⟩:=turn i n acc σ4 H4 w4
  rcases q4 with ⟨stop,qn⟩|⟨go,step⟩
  ·refine thn (T.done Y rfl rfl rfl hc i [] s4 σ4 H4 Y.xe I4 (stat fr4) st4 stop) fun r s5 ⟨hr,I5⟩=>?_
   subst hr
   obtain⟨m,hn,_⟩:=id I5.loc
   have un:Un (frs X.stack) fp H3 H4 s3.heap s5.heap:=I5.base
   have sz3:s3.heap.objs.size≤P2.objs.size:=by rw[hs3h];exact Nat.le_refl _
   have IX:Inv X pins σ H4 s5:=I3.call' (ch:=fp) I5.os un I5.hok I5.bare fun b hb=>⟨(f2 b hb).2.2.2.1,(f2 b hb).2.1,(f2 b hb).2.2.2.2.1,(f2 b hb).2.2.2.2.2⟩
   exact fin l P2.objs.size H4 s5 m IX qn hn (I3.fpOk sz3 I5.free)
  ·refine thn (T.item Y rfl rfl rfl hc i [] s4 σ4 H4 Y.xe I4 (stat fr4) st4 go) fun r s5 ⟨u,hr,h5⟩=>?_
   subst hr
   refine thn h5 fun _ s6 ⟨x,H6,I6,r6,y6,st6,fr6⟩=>?_
   have I6':=I6.pinned (stat fr6) (T.obj _ _ st6)
   refine thn (hg _ _ _ _ _ _ s6 σ4 H6 x u _ I6' r6 (step x H6 y6)) fun _ s7 ⟨σ7,H7,I7,q7⟩=>?_
   have again:∀ {σ9:St}{H9:Hp}{s9:Shared}{acc9:List V},Inv Y ([]++xU fp s6.heap) σ9 H9 s9→(∃ m',m'<n∧W (i+1) m' acc9 σ9 H9)→∃ m,m<n∧∃ i acc σ' H',Inv Y [] σ' H' s9∧tn i s9.heap∧(∀ b∈fp,H' b=none)∧W i m acc σ' H':=fun {σ9 H9 s9 acc9} I9 ⟨m',hm,w9⟩=>by
    refine⟨m',hm,i+1,acc9,σ9,H9,I9.unpinned,T.keep _ _ _ st6 fun b hb o e=>(I9.pin (b,o) (List.mem_append_right _ (List.mem_append_right _ (yK hb e)))).1,fun b hb=>?_,w9⟩
    obtain⟨o,e,d⟩:=T.obj _ _ st6 b hb
    exact(I9.pin (b,o) (List.mem_append_right _ (List.mem_append_right _ (yK hb e)))).2.1
   generalize ([]++xU fp s6.heap:List (Addr × Obj))=pz at again I7
   refine thn (hi1 _ _ _ _ _ _ s7 σ7 H7 _ I7 q7) fun v1 s8 h8=>thn h8 fun itv1 s9 h9=>?_
   obtain⟨it1,fp1,tn1,J1,H9,e1,I9,T1,st9,f9,W1,⟨m1,w1⟩,turn1⟩:=h9
   subst e1
   have stat1:∀ {H':Hp},(∀ b∈fp1,H' b=none)→∀ b∈fp1,FpOk Y pz H' b:=fun hn b hb=>⟨hn b hb,(f9 b hb).2⟩
   have loop1:codeAny (model X.prog X.w) X.A (.compLoop (.ListComp elt [⟨tg,iter,[],0⟩,⟨tg1,iter1,o.toList,0⟩] scope pos) 1 (.ref it1) (.ref l) Y.env) (fun r z=>match r with|.ok _=>∃ m,m<n∧∃ i acc σ' H',Inv Y [] σ' H' z∧tn i z.heap∧(∀ b∈fp,H' b=none)∧W i m acc σ' H'|.error _=>False) s9:=by
    refine o8 (fun n s'=>∃ i acc σ' H',Inv Y pz σ' H' s'∧tn1 i s'.heap∧(∀ b∈fp1,H' b=none)∧W1 i n acc σ' H') ?_ m1 ⟨0,acc,σ7,H9,I9,st9,fun b hb=>(f9 b hb).1,w1⟩
    rintro k t4 ⟨j,ac,τ4,G4,K4,u4,v4,z4⟩
    obtain⟨glst,p4⟩:=turn1 j k ac τ4 G4 z4
    rcases p4 with ⟨stop1,pn⟩|⟨go1,step1⟩
    ·refine thn (T1.done Y rfl rfl rfl hc j pz t4 τ4 G4 Y.xe K4 (stat1 v4) u4 stop1) fun r t5 ⟨hr,K5⟩=>?_
     subst hr
     exact again K5 pn
    ·refine thn (T1.item Y rfl rfl rfl hc j pz t4 τ4 G4 Y.xe K4 (stat1 v4) u4 go1) fun r t5 ⟨u,hr,h5⟩=>?_
     subst hr
     refine thn h5 fun _ t6 ⟨y,G6,K6,e6,d6,u6,v6⟩=>?_
     have K6':=K6.pinned (stat1 v6) (T1.obj _ _ u6)
     refine thn (hg1 _ _ _ _ _ _ t6 τ4 G6 y u _ K6' e6 (step1 y G6 d6)) fun _ t7 ⟨τ7,G7,K7,p7⟩=>?_
     refine su (ht _ _ _ _ _ _ t7 τ7 G7 _ K7 p7) fun b t8 ⟨G8,K8,p8⟩=>?_
     have again1:∀ {τ9:St}{G9:Hp}{t9:Shared}{ac9:List V},Inv Y (pz++xU fp1 t6.heap) τ9 G9 t9→(∃ m',m'<k∧W1 (j+1) m' ac9 τ9 G9)→∃ m,m<k∧∃ i acc σ' H',Inv Y pz σ' H' t9∧tn1 i t9.heap∧(∀ b∈fp1,H' b=none)∧W1 i m acc σ' H':=fun {τ9 G9 t9 ac9} K9 ⟨m',hm,z9⟩=>by
      refine⟨m',hm,j+1,ac9,τ9,G9,K9.unpinned,T1.keep _ _ _ u6 fun b hb o e=>(K9.pin (b,o) (List.mem_append_right _ (List.mem_append_right _ (yK hb e)))).1,fun b hb=>?_,z9⟩
      obtain⟨o,e,d⟩:=T1.obj _ _ u6 b hb
      exact(K9.pin (b,o) (List.mem_append_right _ (List.mem_append_right _ (yK hb e)))).2.1
     cases b with
     | false =>
      rw[if_neg Bool.false_ne_true]at p8 ⊢
      exact again1 K8 p8
     | true =>
      rw[if_pos rfl]at p8 ⊢
      refine thn (he _ _ _ _ _ _ t8 τ7 G8 _ K8 p8) fun yv t9 ⟨yy,G9,K9,e9,hl9,hz9,p9⟩=>?_
      refine thn (yc (X:=Y) _ t9 τ7 G9 (.ref l) [yy] (.ref l) [yv] (fun _ H'=>H'=upd G9 l (.lst (ac++[yy]))) K9 rfl (.cons e9 .nil) ⟨l,ac,yy,rfl,rfl,hl9,hz9,rfl⟩) fun _ t10 ⟨_,G10,K10,_,e10⟩=>?_
      subst e10
      exact again1 K10 p9
   exact qK loop1 (T1.self X.A 0 _ _ _ st9 loop1)
 exact codeAny_compStart_list loop (T.self X.A 0 _ _ _ st1 loop)
theorem gI {X:Cx}{elt tg iter tg1 iter1:Expr}{o:Option Expr}{scope:Scope}{pos:Pos}{wi wi1:TI}{g g1:TG}{tt:TT}{te:TE}{N':List Str}{cap:List (Option Nat)}
  (hc:X.calm=true) (hi:PI X tg iter wi) (ck:CapOk X.N N' X.env.scope scope cap)
  (hg:∀ C s₀ H₀ fp pins,PG (yF X N' scope C s₀ H₀ fp pins) tg g)
  (hi1:∀ C s₀ H₀ fp pins,PI (yF X N' scope C s₀ H₀ fp pins) tg1 iter1 wi1)
  (hg1:∀ C s₀ H₀ fp pins,PG (yF X N' scope C s₀ H₀ fp pins) tg1 g1)
  (ht:∀ C s₀ H₀ fp pins,PTo (yF X N' scope C s₀ H₀ fp pins) o tt)
  (he:∀ C s₀ H₀ fp pins,PE (yF X N' scope C s₀ H₀ fp pins) elt te)
  (hs:∀ x,foldedSetIterable iter X.env x=pure x:=by intro _;rfl)
  (hs1:∀ C x,foldedSetIterable iter1 (compEnvC scope (wI X.env.cells scope.names []) C X.env) x=pure x:=by intro _ _;rfl) :
  PE X (.ListComp elt [⟨tg,iter,[],0⟩,⟨tg1,iter1,o.toList,0⟩] scope pos) (fY cap wi g wi1 g1 tt te):=by
 intro pins s σ H Q I h
 rw[eval_ListComp]
 exact kj (use:=none) hc hi ck hg hi1 hg1 ht he hs hs1 I h fun l C H4 s5 m I5 q hn f=>⟨m,hn,fun h' sb=>⟨.ref l,H4,I5.gone f sb,rfl,q⟩⟩
end L2
namespace L2
open PySem PySem.Spec PyProof.Rows Own
section
variable {X:Cx}{e e2:Expr}{ta tb:TE}{p kp pos:Pos}
end
section
variable {X:Cx}
end
end L2
namespace Own
open PySem PySem.Spec PyProof.Rows
section
variable {prog:Program}{w:World}{A:Around}{E:Value→Shared→Prop}{s:Shared}{z TI TO i1 i2:Addr}{f1 f2:List Addr}{n1 n2 k:Nat}{P1 P2:Nat→Value→Prop}{S1 S2:Nat→Heap→Prop}{a b:Value}
end
end Own
namespace L2
open PySem PySem.Spec PyProof.Rows Own
section
variable {X:Cx}{tg:Expr}
end
end L2
namespace Bn
open PySem L2 Own
def pw (e:Nat):Int:=((2 ^ e:Nat):Int)
def more (cs xs:List Int) (k:Int):List Int:=(List.range cs.length).map fun i=>cs.getD i 0+k*xs.getD i 0
def gx (n lane:Nat) (m:Int):List Int:=(List.replicate n (0:Int)).set lane m
def yj:Nat→List Nat→List Fk
 | 0,_=>[]
 | m+1,row=>if row.length<2 then [] else (row.take (row.length / 2)).zip row.reverse++yj m (row.take (row.length / 2))++yj m (row.drop (row.length / 2))
def y7 (k:Nat):Nt:=⟨2 ^ k,(List.replicate k (yj k (List.range (2 ^ k)))).flatten,List.range (2 ^ k)⟩
theorem qw:∀ k,k<5→(y7 k).forks.length≤128∧∀ f∈(y7 k).forks,f.1<2 ^ k∧f.2<2 ^ k∧f.1≠f.2:=by decide +kernel
theorem nP {k:Nat}(h:k<5):(y7 k).Ok:=by
 obtain⟨a,b⟩:=qw k h
 refine⟨Nat.one_le_two_pow,?_,a,b,.refl _⟩
 show 2 ^ k≤2 ^ 4
 exact Nat.pow_le_pow_right (show 0<2 by decide) (show k≤4 by lia)
theorem xP:∀ (m:Nat) (row:List Nat),(yj m row).length≤m*row.length
 | 0,_=>Nat.zero_le _
 | m+1,row=>by
  unfold yj
  split
  ·exact Nat.zero_le _
  ·rw[List.length_append,List.length_append,List.length_zip,List.length_take]
   have a:=xP m (row.take (row.length / 2))
   have b:=xP m (row.drop (row.length / 2))
   rw[List.length_take]at a
   rw[List.length_drop]at b
   have c:m*min (row.length / 2) row.length+m*(row.length-row.length / 2)=m*row.length:=by
    rw[← Nat.mul_add];congr 1;lia
   rw[Nat.succ_mul]
   lia
end Bn
namespace L2
open PySem PySem.Spec PyProof.Rows Own
theorem iA {K:PySem.W.Frag}{a:Addr}{zs:List V}{g:TG}{te:TE}{l:Addr}{ac:List V}{σ:St}{H:Hp}{Q:List V→St→Hp→Prop}(Pv:Nat→List V→St→Hp→Prop) (h0:Pv 0 ac σ H) (hl:∀ i acc σ H,Pv i acc σ H→H l=some (.lst acc)∧SqT K H a zs)
  (hs:∀ i x acc σ H,zs[i]?=some x→Pv i acc σ H→g x σ H fun σ3 H3=>te σ3 H3 fun y H5=>H5 l=some (.lst acc)∧acc.length<sizeLine∧Nx zs.length i (Pv (i+1) (acc++[y]) σ3 (upd H5 l (.lst (acc++[y])))))
  (hd:∀ acc σ H,Pv zs.length acc σ H→Q acc σ H):∃ W:Nat→Nat→List V→St→Hp→Prop,(∃ m,W 0 m ac σ H)∧LCW1 (Itt K a) g lB te l Q W:=by
 refine⟨fun i m acc σ H=>m=zs.length-i∧i≤zs.length∧Pv i acc σ H,⟨_,rfl,Nat.zero_le _,h0⟩,?_⟩
 rintro i m acc σ H ⟨rfl,hi,p⟩
 obtain⟨q0,q1⟩:=hl i acc σ H p
 refine⟨q0,?_⟩
 by_cases hlt:i<zs.length
 ·refine .inr ⟨⟨zs,zs[i],q1,List.getElem?_eq_getElem hlt⟩,fun x H2 ⟨e,y⟩=>?_⟩
  subst e
  exact hs i x acc σ _ (y zs q1) p
 ·obtain rfl:i=zs.length:=by lia
  exact .inl ⟨⟨zs,q1,Nat.le_refl _⟩,hd acc σ H p⟩
def yO {α:Type}(xs ys:List α):List α:=(xs.zip ys).flatMap fun p=>[p.1,p.2]
theorem xB {α:Type}:∀ (xs ys:List α),xs.length=ys.length→(yO xs ys).length=2*xs.length
 | [],[],_=>rfl
 | x::xs,y::ys,h=>by
  have h':xs.length=ys.length:=by simpa using h
  have:=xB xs ys h'
  show (yO xs ys).length+2=2*(xs.length+1)
  rw[this];lia
theorem xq {α β:Type}{f g:α→Option β}:∀ (l:List α),(∀ x∈l,f x=g x)→l.filterMap f=l.filterMap g
 | [],_=>rfl
 | x::l,h=>by
  have e:=xq l fun y hy=>h y (List.mem_cons_of_mem _ hy)
  simp only[List.filterMap_cons,h x List.mem_cons_self,e]
def by2 {α:Type}(off:Nat) (xs:List α):List α:=(List.range ((xs.length+1-off) / 2)).filterMap fun k=>xs[off+2*k]?
theorem sW {α:Type}(off:Nat) (ho:off≤1) (xs:List α):(by2 off xs).length=(xs.length+1-off) / 2:=by
 unfold by2
 have e:(List.range ((xs.length+1-off) / 2)).filterMap (fun k=>xs[off+2*k]?)=(List.range ((xs.length+1-off) / 2)).pmap (fun k (h:k<(xs.length+1-off) / 2)=>xs[off+2*k]'(by lia)) (fun k h=>List.mem_range.mp h):=by
  rw[List.pmap_eq_map_attach,← List.filterMap_eq_map]
  conv=>lhs;rw[← List.attach_map_subtype_val (List.range ((xs.length+1-off) / 2)),List.filterMap_map]
  refine xq _ fun k hk=>?_
  have:=List.mem_range.mp k.2
  show xs[off+2*k.1]?=some _
  rw[List.getElem?_eq_getElem (by lia)]
 rw[e,List.length_pmap,List.length_range]
theorem iP {α β:Type}(f:α→β) (off:Nat) (xs:List α):by2 off (xs.map f)=(by2 off xs).map f:=by
 unfold by2
 rw[List.length_map,List.map_filterMap]
 refine xq _ fun k _=>?_
 rw[List.getElem?_map]
theorem o5 {xs:List V}{us:List Value}(r:Vals xs us) (ix:List Nat):Vals (ix.filterMap fun k=>xs[k]?) (ix.filterMap fun k=>us[k]?):=by
 induction ix with
 | nil=>exact .nil
 | cons i ix ih =>
  cases e:xs[i]? with
  | none =>
   have e2:us[i]?=none:=List.getElem?_eq_none_iff.mpr (by rw[← r.length];exact List.getElem?_eq_none_iff.mp e)
   rw[List.filterMap_cons_none e,List.filterMap_cons_none e2];exact ih
  | some x =>
   obtain⟨u,e2,ru⟩:=r.get e
   rw[List.filterMap_cons_some e,List.filterMap_cons_some e2];exact .cons ru ih
theorem lz (items:Array Value):slicePick items none none (some 2)=((List.range ((items.size+1) / 2)).filterMap fun k=>items.toList[2*k]?).toArray:=by
 have b:sliceBounds none none (some 2) items.size=(0,(items.size:Int),2):=rfl
 have c:sliceRange 0 (items.size:Int) 2=(List.range ((items.size+1) / 2)).map fun k=>2*k:=by
  unfold sliceRange
  have h2:(2:Int) > 0:=by decide
  by_cases h:(0:Int)<items.size
  ·have e:(((items.size:Int)-0+2-1) / 2).toNat=(items.size+1) / 2:=by lia
   simp only[h2,if_true,h,e]
   apply List.map_congr_left;intro k _;lia
  ·have e:items.size=0:=by lia
   rw[e];rfl
 unfold slicePick
 rw[b]
 show ((sliceRange 0 (items.size:Int) 2).filterMap (items[·]?)).toArray=_
 rw[c,List.filterMap_map]
 refine congrArg List.toArray (xq _ fun k _=>?_)
 simp
theorem nS (items:Array Value):slicePick items (some 1) none (some 2)=((List.range (items.size / 2)).filterMap fun k=>items.toList[1+2*k]?).toArray:=by
 have b:sliceBounds (some 1) none (some 2) items.size=(max 0 (min 1 (items.size:Int)),(items.size:Int),2):=rfl
 have c:sliceRange (max 0 (min 1 (items.size:Int))) (items.size:Int) 2=(List.range (items.size / 2)).map fun k=>1+2*k:=by
  unfold sliceRange
  have h2:(2:Int) > 0:=by decide
  by_cases h:(1:Int)<items.size
  ·have m:max 0 (min 1 (items.size:Int))=1:=by lia
   rw[m]
   have e:(((items.size:Int)-1+2-1) / 2).toNat=items.size / 2:=by lia
   simp only[h2,if_true,h,e]
   apply List.map_congr_left;intro k _;lia
  ·have e:items.size=0∨items.size=1:=by lia
   rcases e with e|e<;>rw[e]<;>rfl
 unfold slicePick
 rw[b]
 show ((sliceRange (max 0 (min 1 (items.size:Int))) (items.size:Int) 2).filterMap (items[·]?)).toArray=_
 rw[c,List.filterMap_map]
 refine congrArg List.toArray (xq _ fun k _=>?_)
 simp
def dJ (K:PySem.W.Frag) (te:TE) (tl ts:TO):TE:=fun σ H Q=>te σ H fun x H1=>tl σ H1 fun lo H2=>ts σ H2 fun o H3=>o=some 2∧∃ off a xs,((lo=none∧off=0)∨(lo=some 1∧off=1))∧x=.ref a∧SqL K H3 a xs∧∀ p,H3 p=none→Q (.ref p) (upd H3 p (.lst (by2 off xs)))
theorem sL {X:Cx}{e st:Expr}{lo:Option Expr}{te:TE}{tl ts:TO}{p2 pos:Pos}(he:PE X e te) (hl:PO X lo tl) (hs:PO X (some st) ts):PE X (.Subscript e (.Slice lo none (some st) p2) pos) (dJ X.K te tl ts):=by
 intro pins s σ H Q I h
 refine Subscript_ (thn (he pins s σ H _ I h) fun v s1 ⟨x,H1,I1,r1,q1⟩=>wpAny_Slice (thn (hl pins s1 σ H1 _ I1 q1) fun vl s0 ⟨ol,H0,I0,pl,q0⟩=>?_))
 rw[evalPart_none]
 refine wpAny_pure (thn (hs pins s0 σ H0 _ I0 q0) fun vst s2 ⟨o,H2,I2,po,q2⟩=>?_)
 obtain⟨rfl,off,a,xs,hoff,rfl,hq,k⟩:=q2
 cases r1
 have I3:Inv X pins σ H2 { s2 with heap:=s2.heap.push { cls:=.type "slice",data:=.fields #[vl,.none,vst] } }:=I2.kept (t':=s2.toks) fun b ob q=>Heap.get?_push_of_some _ q
 obtain⟨its,r,ht,hz⟩:=I3.list hq
 have hlen:=r.length
 show wpAny (model X.prog X.w) X.A (subscriptTail e (.Slice lo none (some st) p2) (.ref a) (.ref s2.heap.objs.size)) (EP X pins σ Q) X.xe { s2 with heap:=s2.heap.push { cls:=.type "slice",data:=.fields #[vl,.none,vst] } }
 refine tail_any (ops:=[.ref a,.ref s2.heap.objs.size]) ht.isList.typeIs slot_list_getitem.lookup (wpAny_getItem_list_slice ht.isList (Heap.IsSliceOf.new ..) pl .none po (by simp) ?_ (by rw[List.size_toArray]<;>lia)) (by with_unfolding_all rfl)
 have pk:slicePick its.toArray ol none (some 2)=((List.range ((its.length+1-off) / 2)).filterMap fun k=>its[off+2*k]?).toArray:=by
  rcases hoff with ⟨rfl,rfl⟩|⟨rfl,rfl⟩
  ·rw[lz];simp only[List.size_toArray,Nat.sub_zero,Nat.zero_add]
  ·rw[nS];simp only[List.size_toArray,Nat.add_sub_cancel]
 rw[pk]
 have ho1:off≤1:=by rcases hoff with ⟨_,rfl⟩|⟨_,rfl⟩<;>decide
 have vv:Vals (by2 off xs) ((List.range ((its.length+1-off) / 2)).filterMap fun k=>its[off+2*k]?):=by
  have:=o5 r ((List.range ((its.length+1-off) / 2)).map fun k=>off+2*k)
  rw[List.filterMap_map,List.filterMap_map]at this
  unfold by2
  rw[hlen];exact this
 refine⟨.ref _,_,I3.laid (t':=s2.toks) (o:=.lst (by2 off xs)) (fun b ob q=>Heap.get?_push_of_some _ q) (Nat.le_refl _) ⟨by rw[sW off ho1];lia,_,0,vv,?_⟩,rfl,k _ (I3.hok.fresh (Nat.le_refl _))⟩
 exact Heap.get?_push_size _ rfl
end L2
namespace L2
open PySem PySem.Spec PyProof.Rows Own Bn
def Bits (ts:List Int):Prop:=∀ t∈ts,t=0∨t=1
def stK (ts is:List Int):KN:=.inr ts::is.map Sum.inl
def KeysAt (H:Hp) (bs:List Addr) (ks:List KN):Prop:=Paired (fun b k=>NKey H k b) bs ks
theorem KeysAt.tups {H H':Hp}(t:Tups H H') {bs:List Addr}{ks:List KN}(h:KeysAt H bs ks):KeysAt H' bs ks:=vN (fun _ _ z=>z.tups t) h
theorem KeysAt.mem {H:Hp}{bs:List Addr}{ks:List KN}(h:KeysAt H bs ks):∀ b∈bs,∃ k∈ks,NKey H k b:=by
 induction h with
 | nil=>intro b hb;cases hb
 | cons q _ ih =>
  intro b hb
  rcases List.mem_cons.mp hb with rfl|z
  ·exact⟨_,.head _,q⟩
  ·obtain⟨k,hk,e⟩:=ih b z
   exact⟨k,.tail _ hk,e⟩
end L2
namespace L2
open PySem PySem.Spec PyProof.Rows Own
theorem mE {P:Program}{w:World}{K:PySem.W.Frag}{mg mb:Str→Option Value}{CX:CXT}{k:Nat}{fa a:Addr}{fd:FuncData}{x:Str}{sp:Sp}{s₁:Shared}{vs:List Value}{ns:List Int}(ts:List Addr)
  (KX:K.In s₁.heap) (hns:s₁.heap.Ns mainGlobals mg) (hb:s₁.heap.Ns builtinsNs mb) (hbb:∀ x:Str,x≠"__name__"→mb x=bootBuiltins x) (hlim:s₁.heap.NoLimit) (hg:s₁.gens = #[])
  (ha:s₁.heap.get? a=some { cls:=.type "list",data:=.seq vs.toArray }) (hi:IntsAre vs ns) (hl:ns.length≤sizeLine) (hr:Room k callerA)
  (ht:∀ p∈ts,s₁.heap.get? p=some (PySem.W.tabObj #[])∧K.lookup p=none∧∃ c,PySem.W.codeHdIn K c p=true)
  (hbm:∃ bm ob,mg "__builtins__" = some (.ref bm)∧bm≠builtinsNs∧s₁.heap.get? bm=some ob∧ob.cls=.type "module"∧ob.dict=some builtinsNs∧ob.data=.plain)
  (F:∀ base:Heap,K.In base→base.Ns mainGlobals mg→(∀ p∈ts,base.BuiltinsAt mg p)→FnOk P w K mg base CX k fa fd [x] sp) (hbind:∀ (s:Shared) (u:Value),BindsTo s fd ⟨[u],[]⟩ [(x,u)])
  (hsp:∀ H:Hp,SqL K H a (ns.map V.int)→(∀ p∈ts,H p=some (.tbl #[]))→sp [.ref a] H (fun v _=>v=.bl true) fun _ _ _=>False)
  (hCX:∀ H e s',CX [] H s₁ (fun _ _ _=>False) e s'→False) :
  codeAny (model P w) callerA (.call (.ref fa) ⟨[.ref a],[]⟩) (fun r s'=>r=.ok (.ret (.bool true))∧OldK s₁.heap s'.heap∧s'.os=s₁.os∧AllBare s'.gens) s₁:=by
 have rv:=ui hi
 have lenV:=hi.length
 have aT:a∉ts:=fun h=>by
  have:=(ht a h).1
  rw[ha]at this;cases this
 have core:∀ H:Hp,(∀ b,H b=none∨(b=a∧∃ o xs,H b=some (.frz o (.lst xs)))∨(b∈ts∧H b=some (.tbl #[])))→(∀ p∈ts,H p=some (.tbl #[]))→SqL K H a (ns.map V.int)→HOk P w H s₁.heap→(H a≠none→K.lookup a=none) →
   codeAny (model P w) callerA (.call (.ref fa) ⟨[.ref a],[]⟩) (fun r s'=>r=.ok (.ret (.bool true))∧OldK s₁.heap s'.heap∧s'.os=s₁.os∧AllBare s'.gens) s₁:=by
  intro H hO hT hS hok hK
  have base_of:∀ {b:Addr}{o:Obj},s₁.heap.get? b=some o→H b=none→(ug s₁.heap H).get? b=some o:=fun e n=>kz e n
  have noA:∀ {b:Addr}{o:Obj}{es:Array DictEntry}{ep:Nat},s₁.heap.get? b=some o→o.data=.dict es ep→H b=none:=fun {b o es ep} e d=>by
   rcases hO b with z|⟨z,_⟩|⟨z,_⟩
   ·exact z
   ·rw[z,ha]at e
    cases e
    cases (show Data.seq vs.toArray _=Data.dict es ep from d)
   ·rw[(ht b z).1]at e
    cases e
    cases (show Data.fields #[]=Data.dict es ep from d)
  have nsK:∀ {b:Addr}{m:Str→Option Value},s₁.heap.Ns b m→(ug s₁.heap H).Ns b m:=fun {b m} ⟨o,es,ep,e,d,r⟩=>⟨o,es,ep,base_of e (noA e d),d,r⟩
  have hKb:K.In (ug s₁.heap H):=fun b o e=>base_of (KX b o e) (by
   rcases hO b with z|⟨z,y⟩|⟨z,_⟩
   ·exact z
   ·obtain⟨o',xs,q⟩:=y
    rw[z]at e q
    rw[hK (by rw[q];simp)]at e;cases e
   ·rw[(ht b z).2.1]at e;cases e)
  have hM:Mod K mg (ug s₁.heap H):=⟨hKb,nsK hns,⟨mb,nsK hb,hbb⟩,let ⟨mc,h1,h2⟩:=hlim;⟨mc,nsK h1,h2⟩⟩
  have e0:Env0 P w K mg (ug s₁.heap H) callerA [] s₁ H:=⟨rfl,hM,fun b o e=>jz e,Nat.le_of_eq (mQ _ _),trivial,fun b hb=>absurd (show b∈([]:List Addr) from hb) (by simp),hok,.of_eq hg⟩
  have hB:∀ p∈ts,(ug s₁.heap H).BuiltinsAt mg p:=fun p hp=>by
   obtain⟨bm,ob,b1,b2,b3,b4,b5,b6⟩:=hbm
   refine⟨bm,ob,b1,b2,fun z=>?_,fun z=>?_,base_of b3 ?_,b4,b5,b6⟩
   ·obtain⟨og,es,ep,e,d,_⟩:=hns
    rw[← z,b3]at e
    rw[← Option.some.inj e,b6]at d;cases d
   ·have e:=(ht p hp).1
    rw[← z,b3]at e
    rw[Option.some.inj e]at b6;cases b6
   ·rcases hO bm with z|⟨z,_⟩|⟨z,_⟩
    ·exact z
    ·rw[z,ha]at b3
     rw[← Option.some.inj b3]at b6;cases b6
    ·rw[(ht bm z).1]at b3
     rw[← Option.some.inj b3]at b6;cases b6
  refine codeAny_mono ((F _ hKb (nsK hns) hB).run callerA [] s₁ H ⟨[.ref a],[]⟩ [.ref a] [.ref a] _ _ hr e0 (hbind s₁ (.ref a)) (.cons rfl .nil) (hsp H hS hT)) fun r s' h=>?_
  cases r with
  | error e=>exact(hCX H e s' h).elim
  | ok fl =>
   cases fl with
   | next=>exact False.elim h
   | brk=>exact False.elim h
   | cont=>exact False.elim h
   | ret u =>
    obtain⟨v,H',os,bare,un,hok',r',q⟩:=h
    have q':v=.bl true:=q
    subst q'
    obtain rfl:u=Value.bool true:=r'
    have kept:∀ b o,s₁.heap.get? b=some o→b∉ts→s'.heap.get? b=some o:=fun b o e nb=>by
     rcases hO b with z|⟨_,ob,xs,z⟩|⟨z,_⟩
     ·exact un.keep b o e z (fun y=>absurd (show b∈([]:List Addr) from y) (by simp)) (by simp)
     ·have z2:=un.frzs b ob _ z
      obtain⟨e1,_⟩:=hok b _ z
      obtain⟨e2,_⟩:=hok' b _ z2
      rw[e]at e1;cases e1
      exact e2
     ·exact absurd z nb
    have tabs:∀ b∈ts,∃ more,s'.heap.get? b=some (PySem.W.tabObj (#[]++more)):=fun b hb=>by
     obtain⟨more,z⟩:=un.tbls b _ (hT b hb)
     exact⟨more,hok' b _ z⟩
    refine⟨rfl,⟨fun b o e=>?_,fun b o e=>un.there b o e (by simp)⟩,os,bare⟩
    by_cases hb:b∈ts
    ·obtain⟨t1,_,c,t3⟩:=ht b hb
     rw[t1]at e
     cases e
     obtain⟨o2,ws,_,_,_,_,_,_,_,g1,g2,g3,g4,_⟩:=PySem.W.codeHd_of_K KX t3
     obtain⟨more,z⟩:=tabs b hb
     exact .inr (.inl ⟨⟨c,o2,ws,g1,g2,g3,g4⟩,rfl,#[],more,rfl,z⟩)
    ·exact .inl (kept b o e hb)
 have tab:∀ {H:Hp}{p:Addr},p∈ts→ObjOk P w H s₁.heap p (.tbl #[]):=fun hp=>(ht _ hp).1
 cases hk:K.lookup a with
 | some o =>
  have e:=KX a o hk
  rw[ha]at e
  cases e
  refine core (fun b=>if b∈ts then some (.tbl #[]) else none) (fun b=>?_) (fun p hp=>if_pos hp) (.inr ⟨_,vs.toArray,_,hk,rfl,rfl,rfl,by rw[List.size_toArray,lenV];exact hl,by simpa using rv⟩) (fun b u z=>?_) fun z=>absurd (if_neg aT) z
  ·by_cases hb:b∈ts
   ·exact .inr (.inr ⟨hb,if_pos hb⟩)
   ·exact .inl (if_neg hb)
  ·by_cases hb:b∈ts
   ·have z':=(if_pos hb).symm.trans z
    cases z'
    exact tab hb
   ·have z':=(if_neg hb).symm.trans z
    cases z'
 | none =>
  refine core (fun b=>if b∈ts then some (.tbl #[]) else if b=a then some (.frz { cls:=.type "list",data:=.seq vs.toArray } (.lst (ns.map V.int))) else none) (fun b=>?_) (fun p hp=>if_pos hp) (.inl (.inr ⟨{ cls:=.type "list",data:=.seq vs.toArray },(if_neg aT).trans (if_pos rfl)⟩)) (fun b u z=>?_) fun _=>hk
  ·by_cases hb:b∈ts
   ·exact .inr (.inr ⟨hb,if_pos hb⟩)
   ·by_cases ba:b=a
    ·exact .inr (.inl ⟨ba,_,_,(if_neg hb).trans (if_pos ba)⟩)
    ·exact .inl ((if_neg hb).trans (if_neg ba))
  ·by_cases hb:b∈ts
   ·have z':=(if_pos hb).symm.trans z
    cases z'
    exact tab hb
   ·by_cases ba:b=a
    ·have z':=((if_neg hb).trans (if_pos ba)).symm.trans z
     cases z'
     subst ba
     exact⟨ha,by rw[List.length_map];exact hl,vs,_,rv,ha⟩
    ·have z':=((if_neg hb).trans (if_neg ba)).symm.trans z
     cases z'
theorem mt {l:PySem.W.OpenLaw}{n k:Nat}{q:Program}{loose:List Str}{XP:(Str→Option Value)→Heap→Prop}{YP:World→Heap→Prop}{d:DefRec}{K:Params→PySem.W.Frag}{CX:CXT}{sp:PySem.W.Frag→Sp}{x:Str}(ts:List Addr)
  (hn:l.most=some n) (hn2:n≤sizeLine) (hdf:d.params.defaults=[]) (hr:Room k callerA)
  (hY:∀ (w:World) (h:Heap),YP w h→(K w.params).In h∧∀ p∈ts,h.get? p=some (PySem.W.tabObj #[]))
  (F:∀ (w:World) (mg:Str→Option Value) (fa:Addr) (h:Heap),(K w.params).In h→h.Ns mainGlobals mg→mg d.name=some (.ref fa)→(∀ p∈ts,(K w.params).lookup p=none∧∃ c,PySem.W.codeHdIn (K w.params) c p=true) ∧
   ∃ fd:FuncData,(∀ (s:Shared) (u:Value),BindsTo s fd ⟨[u],[]⟩ [(x,u)]) ∧
    ∀ base:Heap,(K w.params).In base→base.Ns mainGlobals mg→(∀ p∈ts,base.BuiltinsAt mg p)→FnOk l.prog w (K w.params) mg base CX k fa fd [x] (sp (K w.params)))
  (hsp:∀ (K:PySem.W.Frag) (H:Hp) (a:Addr) (ns:List Int),ns.length≤n→SqL K H a (ns.map V.int)→(∀ p∈ts,H p=some (.tbl #[]))→sp K [.ref a] H (fun v _=>v=.bl true) fun _ _ _=>False)
  (hCX:∀ (H:Hp) (s:Shared) (e:Value) (s':Shared),CX [] H s (fun _ _ _=>False) e s'→False) :
  PySem.W.WalkO q loose XP YP l.row.toRowW d [] (fun f vs=>PySem.call f vs):=by
 refine Att.attach_call hn hdf fun w s₀ s₁ mg mb fa o pm cd doc a vs ns G Y ho hd hcd hmg hobj hints hlen hg=>?_
 obtain⟨KX,tb⟩:=hY w _ Y
 obtain⟨tk,fd,hb,hF⟩:=F w mg fa _ KX G.T.g hmg
 exact mE ts KX G.T.g G.T.b G.T.builtins G.T.nolimit hg hobj hints (Nat.le_trans hlen hn2) hr (fun p hp=>⟨tb p hp,(tk p hp).1,(tk p hp).2⟩) G.T.bmain hF hb (fun H hS hT=>hsp (K w.params) H a ns hlen hS hT) fun H e s'=>hCX H s₁ e s'
structure FunC (K:PySem.W.Frag) (x qual:Str) (st:Stmt) (f:Addr) (fd:FuncData) (c:Addr):Prop where
 ex:∃ (oc:Value) (od:Option Addr) (kV doc pm:Value) (an:Option Addr) (ct:Value) (osl:Array (Option Value)),
  fd=PySem.W.fnOf x qual (y9 st) (yV st) (zM st) .none kV doc pm an (.ref c) ct∧K.lookup f=some ⟨oc,od,.func fd,osl⟩∧PySem.W.codeIn K (.ref c) qual=true
 kp:PySem.W.keepIn K (.ref f)=true
theorem FunC.ok {P:Program}{w:World}{K:PySem.W.Frag}{mg:Str→Option Value}{base:Heap}{x qual:Str}{st:Stmt}{f c:Addr}{fd:FuncData}{N ps:List Str}{k:Nat}{sp:Sp}(F:FunC K x qual st f fd c) (S:FnScope N ps (zM st)) (len:∀ vs H Q E,sp vs H Q E→vs.length=ps.length)
  (hbody:∀ (A:Around) (outer:List Env) (s:Shared) (H:Hp) (vs:List V) (Q:VK) (E:XK),Room k (A.deeper (envOfC qual (zM st) s.heap.objs.size f (.ref c)))→sp vs H Q E →
   ∃ t,PSs (pZ CX0 P w K mg base N qual (zM st) f (.ref c) A outer s H E).nox (yV st) t∧t { nx:=fun _ H'=>Q .non H',rt:=Q } (wK N vs) H):FnOk P w K mg base CX0 (k+1) f fd ps sp:=by
 obtain⟨oc,od,kV,doc,pm,an,ct,osl,rfl,lk,hcd⟩:=F.ex
 refine ic lk hcd S len fun A outer s H vs Q E hr hsp=>?_
 obtain⟨t,h,q⟩:=hbody A outer s H vs Q E hr hsp
 exact⟨t,h.nox,q⟩
end L2
namespace L2
open PySem PySem.Spec PyProof.Rows Own Bn
def uG (N:Nt) (ts:List Int) (lane:Nat):List Int:=(yL false N.forks ts lane N.forks.length).1
def passE (N:Nt) (ts:List Int) (lane:Nat):Nat:=N.ends.idxOf (yL false N.forks ts lane N.forks.length).2
def ff (N:Nt):KN→Nat→Option KN
 | [.inr ts,.inl r],m=>if ((passE N ts m:Nat):Int)=r then some (stK (uG N ts m) [(r+1)%(N.lanes:Nat)]) else none
 | _,_=>none
theorem nV (N:Nt) (ts:List Int) (lane:Nat):(uG N ts lane).length=ts.length:=x4 _
theorem pF {N:Nt}{ts:List Int}{lane:Nat}(h:Bits ts):Bits (uG N ts lane):=xS h _
def TabQ (q:Str) (Pt:Addr) (H:Hp):Prop:=∃ l,H Pt=some (.tbl (triples l).toArray)∧TabOk H q l
theorem TabQ.keep {q:Str}{Pt:Addr}{H H':Hp}(t:TabQ q Pt H) (k:∀ b o,H b=some o→(∃ ps,o=.tbl ps)∨(∃ u v,o=.frz u v)→H' b=some o):TabQ q Pt H':=by
 obtain⟨l,h1,h2⟩:=t
 exact⟨l,k _ _ h1 (.inl ⟨_,rfl⟩),h2.frz fun b o u e=>k _ _ e (.inr ⟨_,_,rfl⟩)⟩
theorem TabQ.same {q:Str}{Pt:Addr}{H H':Hp}(t:TabQ q Pt H) (s:Same H H'):TabQ q Pt H':=t.keep fun b o e _=>s b o e
theorem TabQ.but {q:Str}{Pt l:Addr}{H H':Hp}{xs:List V}(t:TabQ q Pt H) (b:But l H H') (h:H l=some (.lst xs)):TabQ q Pt H':=t.keep fun c o e z=>b c o e fun y=>by
 rw[y,h]at e
 cases e
 rcases z with ⟨_,z⟩|⟨_,_,z⟩<;>cases z
def vt:Sp:=fun vs H Q _=>∃ r fr er ps N,vs=[.ref r]∧Nt.Ok N∧NetAt H r fr er ps N∧∀ p H',Same H H'→H' p=some (.tup ((List.replicate N.forks.length (0:Int)).map V.int))→Q (.ref p) H'
section
variable {step:KN→Nat→Option KN}{seen:LvL}
end
section
variable {step:KN→Nat→Option KN}{moves:List Nat}{k0:KN}{c0:List Int}{n:Nat}{level seen:LvL}
end
section
variable {step:KN→Nat→Option KN}{moves:List Nat}{k0:KN}{c0:List Int}{most:Nat}
theorem oZ {α:Type} [DecidableEq α]:∀ {l ks:List α},l.Nodup→(∀ x∈l,x∈ks)→l.length≤ks.length
 | [],_,_,_=>Nat.zero_le _
 | a::l,ks,nd,h=>by
  rw[List.nodup_cons]at nd
  have ha:=h a (.head _)
  have:=oZ (l:=l) (ks:=ks.erase a) nd.2 fun x hx=>(List.mem_erase_of_ne fun (z:x=a)=>nd.1 (z ▸ hx)).mpr (h x (.tail _ hx))
  rw[List.length_erase_of_mem ha]at this
  have:0<ks.length:=List.length_pos_of_mem ha
  rw[List.length_cons];lia
end
section
variable {N:Nt}
end
end L2
namespace Own
open PySem PySem.Spec PyProof.Rows
section
variable {prog:Program}{w:World}{A:Around}{E:Value→Shared→Prop}{s:Shared}{z TI TO i1 i2:Addr}{f1 f2:List Addr}{n1 n2:Nat}{P1 P2:Nat→Value→Prop}{S1 S2:Nat→Heap→Prop}{a b:Value}
end
end Own
namespace L2
open PySem PySem.Spec PyProof.Rows Own
end L2
namespace Bn
open PySem L2 Own
theorem uU {α:Type}:∀ (xs:List α) (k:Nat) (h:k<xs.length),(xs[k]::xs.eraseIdx k).Perm xs
 | x::xs,0,_=>.refl _
 | x::xs,k+1,h=>by
  have hk:k<xs.length:=by simpa using h
  have ih:=uU xs k hk
  exact(List.Perm.swap x xs[k] _).trans (ih.cons x)
end Bn
namespace K45
open PySem L2 Own Bn
abbrev qi:Stmt:=top 37
theorem mU (c:Int):c-c / 2=(c+1) / 2:=by lia
section
variable {P:Program}{w:World}{K:PySem.W.Frag}{mg:Str→Option Value}{base:Heap}
theorem lS:FnScope ["_law_net_here","_law_counts","_law_row","_law_a","_law_b","_law_total"] ["_law_net_here","_law_counts"] (zM qi):=⟨rfl,rfl,rfl,by decide +kernel,rfl,by decide +kernel,by decide +kernel⟩
theorem kM {f:Addr}{fd:FuncData}(F:Fun K "_law_ends" "_law_ends" qi f fd) (G:Mgs mg):FnOk P w K mg base CX0 1 f fd ["_law_net_here","_law_counts"] qX:=by
 refine F.ok lS (fun vs H Q E h=>?_) (fun cdv A outer s H vs Q E hr h=>?_)
 ·obtain⟨r,fr,er,ps,N,c,cs,rfl,_⟩:=h
  rfl
 obtain⟨r,fr,er,ps,N,c,cs,rfl,ok,na,hc,cl,k⟩:=h
 refine⟨_,(@zF _ _ _ _ _ (@zi _ _ 2 _ _ _ _ lS.nd rfl (.inr rfl) (@zV _ _ _ _ _ _ _ _ _ yQ (by rfl) G.list (by rfl) (@zA _ _ _ _ _ (@pv _ 1 _ _ (by rfl) (by first|exact Or.inl rfl|exact Or.inr (.inl rfl)|exact Or.inr (.inr rfl)) (by decide) (by decide)) zB (by rfl)) (by decide) (by decide) (by rfl) (by rfl)) (by rfl) (by first|exact .inl rfl|exact .inr rfl|assumption)) (@zF _ _ _ _ _ (@yn _ _ _ _ _ _ _ _ PassesOwn.never rfl (@yX _ _ _ _ (@zY _ _ _ _ _ _ _ yB (@pv _ 0 _ _ (by rfl) (by first|exact Or.inl rfl|exact Or.inr (.inl rfl)|exact Or.inr (.inr rfl)) (by decide) (by decide)) zE (fun _ _=>rfl))) (@yE _ _ _ _ _ _ rfl (@zN _ _ _ _ _ (@zL _ _ 3 _ lS.nd rfl (.inl rfl) (by first|exact .inl rfl|exact .inr rfl|assumption)) (@zN _ _ _ _ _ (@zL _ _ 4 _ lS.nd rfl (.inl rfl) (by first|exact .inl rfl|exact .inr rfl|assumption)) zt (by rfl)) (by rfl)) (by rfl) (by rfl)) (@zF _ _ _ _ _ (@zi _ _ 5 _ _ _ _ lS.nd rfl (.inl rfl) (@zR _ _ _ _ _ _ _ _ yJ (@zY _ _ _ _ _ _ _ zd (@pv _ 2 _ _ (by rfl) (by first|exact Or.inl rfl|exact Or.inr (.inl rfl)|exact Or.inr (.inr rfl)) (by decide) (by decide)) (@pv _ 3 _ _ (by rfl) (by first|exact Or.inl rfl|exact Or.inr (.inl rfl)|exact Or.inr (.inr rfl)) (by decide) (by decide)) (fun _ _=>rfl)) (@zY _ _ _ _ _ _ _ zd (@pv _ 2 _ _ (by rfl) (by first|exact Or.inl rfl|exact Or.inr (.inl rfl)|exact Or.inr (.inr rfl)) (by decide) (by decide)) (@pv _ 4 _ _ (by rfl) (by first|exact Or.inl rfl|exact Or.inr (.inl rfl)|exact Or.inr (.inr rfl)) (by decide) (by decide)) (fun _ _=>rfl))) (by rfl) (by first|exact .inl rfl|exact .inr rfl|assumption)) (@zF _ _ _ _ _ (@yG _ _ _ _ _ _ (@zR _ _ _ _ _ _ _ _ yz (@pv _ 5 _ _ (by rfl) (by first|exact Or.inl rfl|exact Or.inr (.inl rfl)|exact Or.inr (.inr rfl)) (by decide) (by decide)) (@zR _ _ _ _ _ _ _ _ xW (@pv _ 5 _ _ (by rfl) (by first|exact Or.inl rfl|exact Or.inr (.inl rfl)|exact Or.inr (.inr rfl)) (by decide) (by decide)) zE)) (@xV _ _ _ _ _ _ _ (@pv _ 2 _ _ (by rfl) (by first|exact Or.inl rfl|exact Or.inr (.inl rfl)|exact Or.inr (.inr rfl)) (by decide) (by decide)) (@pv _ 3 _ _ (by rfl) (by first|exact Or.inl rfl|exact Or.inr (.inl rfl)|exact Or.inr (.inr rfl)) (by decide) (by decide)) yg (by intro _;rfl)) (by rfl) (by rfl) (by rfl)) (@zK _ _ _ (@yG _ _ _ _ _ _ (@zR _ _ _ _ _ _ _ _ xW (@pv _ 5 _ _ (by rfl) (by first|exact Or.inl rfl|exact Or.inr (.inl rfl)|exact Or.inr (.inr rfl)) (by decide) (by decide)) zE) (@xV _ _ _ _ _ _ _ (@pv _ 2 _ _ (by rfl) (by first|exact Or.inl rfl|exact Or.inr (.inl rfl)|exact Or.inr (.inr rfl)) (by decide) (by decide)) (@pv _ 4 _ _ (by rfl) (by first|exact Or.inl rfl|exact Or.inr (.inl rfl)|exact Or.inr (.inr rfl)) (by decide) (by decide)) yg (by intro _;rfl)) (by rfl) (by rfl) (by rfl))))) (by intro _;rfl)) (@zK _ _ _ (@zU _ _ _ _ (@zV _ _ _ _ _ _ _ _ _ zZ (by rfl) G.tuple (by rfl) (@zA _ _ _ _ _ (@xN _ _ _ _ none _ _ _ _ _ _ ["_law_lane","_law_row"] [none,some 2] rfl (@yX _ _ _ _ (@zY _ _ _ _ _ _ _ yB (@pv _ 0 _ _ (by rfl) (by first|exact Or.inl rfl|exact Or.inr (.inl rfl)|exact Or.inr (.inr rfl)) (by decide) (by decide)) zE (fun _ _=>rfl))) (CapOk.of (by kernel_rfl)) (fun _ _ _ _ _=>(@zL _ _ 0 _ (show (["_law_lane","_law_row"]:List Str).Nodup from by decide +kernel) rfl (.inl rfl) (.inr rfl))) (fun _ _ _ _ _=>yN) (fun _ _ _ _ _=>(@zY _ _ _ _ _ _ (lj K) zd (@pv _ 1 _ _ (by rfl) (by first|exact Or.inl rfl|exact Or.inr (.inl rfl)|exact Or.inr (.inr rfl)) (by decide) (by decide)) (@pv _ 0 _ _ (by rfl) (by first|exact Or.inl rfl|exact Or.inr (.inl rfl)|exact Or.inr (.inr rfl)) (by decide) (by decide)) (fun _ _=>rfl))) (by intro _;rfl)) zB (by rfl)) (by decide) (by decide) (by rfl) (by rfl)))))),?_⟩
 refine⟨_,rfl,c,_,rfl,.inr (SqT.of hc),fun lo hlo=>?_⟩
 have s1:=zC hlo (.lst (cs.map V.int))
 refine⟨_,rfl,r,_,_,_,rfl,rfl,SqT.of (s1 _ _ na.net),rfl,fr,rfl,⟨_,SqT.of (s1 _ _ na.forks)⟩,?_⟩
 refine wo (K:=K) (a:=fr) (xs:=ps) (fun i σ H2=>(∃ v3 v4 v5,σ=[some (.ref r),some (.ref c),some (.ref lo),v3,v4,v5])∧Same H H2∧H2 lo=some (.lst ((vE (N.forks.take i) cs).1.map V.int))) ⟨⟨_,_,_,rfl⟩,s1,zD⟩ (fun i σ H2 _ q=>SqT.of (q.2.1 _ _ na.forks)) ?_ ?_
 ·rintro i p σ H2 hp ⟨⟨v3,v4,v5,rfl⟩,s3,h1⟩
  obtain⟨a,g,rfl,eg,ha⟩:=(na.prs.tups (Tups.of s3)).get hp
  have okg:=ok.fk g (List.mem_of_getElem? eg)
  have fl:(vE (N.forks.take i) cs).1.length=N.lanes:=by rw[qE,cl]
  have fx:=mV eg cs
  generalize vE (N.forks.take i) cs=st at *
  refine⟨a,_,rfl,SqT.of ha,rfl,_,_,rfl,_,_,rfl,rfl,?_⟩
  refine⟨_,rfl,_,rfl,lo,_,_,_,rfl,rfl,SqL.of h1,xY (by lia),_,rfl,_,rfl,lo,_,_,_,rfl,rfl,SqL.of h1,xY (by lia),_,_,rfl,rfl,?_⟩
  refine⟨_,rfl,_,rfl,_,_,rfl,rfl,⟨by decide,by decide⟩,_,_,rfl,rfl,?_⟩
  refine⟨_,rfl,_,rfl,lo,_,_,g.1,rfl,rfl,h1,uO (by rw[List.length_map];lia),?_⟩
  refine⟨_,rfl,_,_,rfl,rfl,⟨by decide,by decide⟩,_,rfl,_,rfl,lo,_,_,g.2,rfl,rfl,zD,uO (by rw[List.length_set,List.length_map];lia),⟨_,_,_,rfl⟩,fun b o e=>?_,?_⟩
  ·rw[zH (zG e hlo),zH (zG e hlo)];exact s3 b o e
  ·rw[zD,fx]
   dsimp only
   rw[mU]
   unfold vK
   rw[wf,wf]
 ·rintro σ H2 ⟨⟨v3,v4,v5,rfl⟩,s3,h1⟩
  have e:N.forks.take ps.length=N.forks:=by rw[na.prs.len];exact List.take_length
  rw[e]at h1
  have fl:(vE N.forks cs).1.length=N.lanes:=by rw[qE,cl]
  have el:N.ends.length=N.lanes:=by rw[ok.en.length_eq,List.length_range]
  have l16:=ok.l16
  refine⟨_,rfl,r,_,_,_,rfl,rfl,SqT.of (s3 _ _ na.net),rfl,er,rfl,⟨_,SqT.of (s3 _ _ na.ends)⟩,fun l hl=>?_⟩
  refine xk (K:=K) (a:=er) (xs:=zT N.ends) (fun i acc σ H4=>(∃ v,σ=[v,some (.ref lo)])∧Same H2 H4∧H4 l=some (.lst acc)∧acc=((N.ends.take i).map fun e=>(vE N.forks cs).1.getD e 0).map V.int) ⟨⟨_,rfl⟩,zC hl _,zD,rfl⟩ (fun i acc σ H4 z=>⟨z.2.2.1,SqT.of (z.2.1 _ _ (s3 _ _ na.ends))⟩) ?_ ?_
  ·rintro i x acc σ H4 hx ⟨⟨v,rfl⟩,s4,h4,e4⟩
   have il:i<N.ends.length:=by have:=(List.getElem?_eq_some_iff.mp hx).1;rwa [zc]at this
   have ex:x=.int N.ends[i]:=by
    unfold zT at hx
    rw[List.getElem?_map,List.getElem?_eq_getElem il]at hx;exact(Option.some.inj hx).symm
   subst ex
   have lane:N.ends[i]<N.lanes:=List.mem_range.mp (ok.en.mem_iff.mp (List.getElem_mem il))
   refine⟨_,rfl,_,rfl,lo,_,_,_,rfl,rfl,SqL.of (s4 _ _ h1),xY (by lia),h4,?_,nx (by rw[zc];exact il) ⟨⟨_,rfl⟩,fun b o e=>?_,zD,?_⟩⟩
   ·rw[e4,List.length_map,List.length_map,List.length_take,sizeLine_eq];lia
   ·rw[zH (zG e hl)];exact s4 b o e
   ·rw[e4,List.take_succ_eq_append_getElem il,List.map_append,List.map_append];rfl
  rintro acc σ H4 ⟨⟨v,rfl⟩,s4,h4,e4⟩
  rw[zc,List.take_length]at e4
  rw[e4]at h4
  exact⟨l,_,rfl,.inl ⟨SqL.of h4,fun p hp=>k p _ ((s3.trans s4).trans (zC hp _)) zD⟩⟩
end
end K45
namespace L2
open PySem
theorem pW {c:TT}{ta tb u:TS}{D:Ends}{σ:St}{H:Hp}(I:St→Hp→Prop) (key:∀ σ H,I σ H→u D σ H) (h:∀ D':Ends,(∀ σ H,I σ H→D'.nx σ H)→D'.rt=D.rt→io c ta tb D' σ H):nH (io c ta tb) u D σ H:=h { D with nx:=u D } key rfl
theorem eV {v:V}{i:Nat}{u:TS}{D:Ends}{σ:St}{H:Hp}(h:u D (σ.set i (some v)) H):nH (ja (tC v) (xp i)) u D σ H:=h
theorem xh {H H':Hp}{x:Addr}(s:Same H H') (h:H' x=none):H x=none:=by
 cases e:H x with
 | none=>rfl
 | some o=>rw[s _ _ e]at h;cases h
def iW (K:PySem.W.Frag):List V→Hp→VK→Prop:=fun xs H Q=>∃ p ys,xs=[V.ref p]∧(SqL K H p ys∨SqT K H p ys)∧Q (V.int ys.length) H
theorem mj {X:Cx}:CallR X (.builtin "len") (iW X.K):=zW
end L2
namespace Bn
open PySem L2 Own
structure Pk3 (H:Hp) (l:Addr):Prop where
 ex:∃ a b c:Int,H l=some (.lst [.int a,.int b,.int c])∧0≤a∧0≤b∧b<2 ^ 31
theorem Pk3.keep {H H':Hp}{l:Addr}(S:Pk3 H l) (s:Same H H'):Pk3 H' l:=by
 obtain⟨a,b,c,h,r⟩:=S.ex
 exact⟨a,b,c,s _ _ h,r⟩
theorem Pk3.lst {H:Hp}{l:Addr}(S:Pk3 H l):∃ xs,H l=some (.lst xs):=by
 obtain⟨a,b,c,h,_⟩:=S.ex
 exact⟨_,h⟩
theorem Pk3.ne {H:Hp}{l p:Addr}(S:Pk3 H l) (h:H p=none):l≠p:=by
 obtain⟨xs,e⟩:=S.lst
 exact zG e h
theorem Pk3.upd {H:Hp}{l p:Addr}{o:HO}(S:Pk3 H l) (h:l≠p):Pk3 (upd H p o) l:=by
 obtain⟨a,b,c,e,r⟩:=S.ex
 exact⟨a,b,c,by rw[zH h];exact e,r⟩
theorem But.tups3 {H H':Hp}{l:Addr}(x:But l H H') (S:Pk3 H l):Tups H H':=fun a xs e=>x a _ e (by
 rintro rfl
 obtain⟨_,z⟩:=S.lst
 rw[z]at e;cases e)
def tU (K:PySem.W.Frag):Sp:=fun vs H Q _=>∃ (a:Addr) (ns:List Int) (k:Int),vs=[.ref a,.int k]∧SqL K H a (ns.map V.int)∧ns.length≤63∧0≤k∧k≤1000∧∀ l H',H l=none→Same H H'→Pk3 H' l→Q (.ref l) H'
def yo:Sp:=fun vs H Q _=>∃ (l:Addr) (m:Int),vs=[.ref l,.int m]∧0<m∧m<1073741824∧Pk3 H l∧∀ (v:Nat) H',(v:Int)<m→Pk3 H' l→But l H H'→Q (.int v) H'
def wb:Sp:=fun vs H Q _=>∃ (l p:Addr) (xs:List V),vs=[.ref l,.ref p]∧H p=some (.lst xs)∧xs.length≤100000∧Pk3 H l∧∀ t ys H',ys.Perm xs→H' t=some (.tup ys)→Pk3 H' l→But l H H'→Q (.ref t) H'
theorem uu {ys:List V}{es:List Nat}(p:ys.Perm (zT es)):∃ ds:List Nat,ys=zT ds∧ds.Perm es:=by
 have key:∀ {ys zs:List V},ys.Perm zs→∀ {es:List Nat},zs=zT es→∃ ds:List Nat,ys=zT ds∧ds.Perm es:=by
  intro ys zs p
  induction p with
  | nil=>intro es e;cases es with
   | nil=>exact⟨[],rfl,.refl _⟩
   | cons a b=>cases e
  | cons b _ ih =>
   intro es e
   cases es with
   | nil=>cases e
   | cons a zs =>
    injection e with e1 e2
    obtain⟨cs,h1,h2⟩:=ih e2
    exact⟨a::cs,by rw[h1,e1];rfl,h2.cons _⟩
  | swap b c l =>
   intro es e
   cases es with
   | nil=>cases e
   | cons a zs=>cases zs with
    | nil=>cases e
    | cons d zs =>
     injection e with e1 e2
     injection e2 with e2 e3
     exact⟨d::a::zs,by rw[e1,e2,e3];rfl,.swap _ _ _⟩
  | trans _ _ ih1 ih2 =>
   intro es e
   obtain⟨cs,h1,h2⟩:=ih2 e
   obtain⟨ds,g1,g2⟩:=ih1 h1
   exact⟨ds,g1,g2.trans h2⟩
 exact key p rfl
end Bn
namespace K45
open PySem L2 Own Bn
abbrev lY:Stmt:=top 24
abbrev lV:Stmt:=top 25
abbrev qh:Stmt:=top 26
section
variable {P:Program}{w:World}{K:PySem.W.Frag}{mg:Str→Option Value}{base:Heap}
theorem scK:FnScope ["_law_left_here","_law_many","_law_digit"] ["_law_left_here","_law_many"] (zM lV):=⟨rfl,rfl,rfl,by decide +kernel,rfl,by decide +kernel,by decide +kernel⟩
theorem jq {f:Addr}{fd:FuncData}(F:Fun K "_law_pick" "_law_pick" lV f fd):FnOk P w K mg base CX0 1 f fd ["_law_left_here","_law_many"] yo:=by
 refine F.ok scK (fun vs H Q E h=>?_) (fun cdv A outer s H vs Q E hr h=>?_)
 ·obtain⟨l,m,rfl,_⟩:=h
  rfl
 obtain⟨l,m,rfl,m0,m1,S,k⟩:=h
 obtain⟨a,b,c,hl,a0,b0,b1⟩:=S.ex
 refine⟨_,(@zF _ _ _ _ _ (@yM _ _ _ _ _ _ _ _ (@zj _ _ _ _ _ _ _ _ oP (@zY _ _ _ _ _ _ _ zd (@pv _ 0 _ _ (by rfl) (by first|exact Or.inl rfl|exact Or.inr (.inl rfl)|exact Or.inr (.inr rfl)) (by decide) (by decide)) zE (fun _ _=>rfl)) zE (zp _)) (@zF _ _ _ _ _ (@zi _ _ 2 _ _ _ _ scK.nd rfl (.inl rfl) (@zR _ _ _ _ _ _ _ _ xK (@zY _ _ _ _ _ _ _ zd (@pv _ 0 _ _ (by rfl) (by first|exact Or.inl rfl|exact Or.inr (.inl rfl)|exact Or.inr (.inr rfl)) (by decide) (by decide)) zE (fun _ _=>rfl)) (@pv _ 1 _ _ (by rfl) (by first|exact Or.inl rfl|exact Or.inr (.inl rfl)|exact Or.inr (.inr rfl)) (by decide) (by decide))) (by rfl) (by first|exact .inl rfl|exact .inr rfl|assumption)) (@zF _ _ _ _ _ (@yG _ _ _ _ _ _ (@zR _ _ _ _ _ _ _ _ xW (@zY _ _ _ _ _ _ _ zd (@pv _ 0 _ _ (by rfl) (by first|exact Or.inl rfl|exact Or.inr (.inl rfl)|exact Or.inr (.inr rfl)) (by decide) (by decide)) zE (fun _ _=>rfl)) (@pv _ 1 _ _ (by rfl) (by first|exact Or.inl rfl|exact Or.inr (.inl rfl)|exact Or.inr (.inr rfl)) (by decide) (by decide))) (@xV _ _ _ _ _ _ _ (@pv _ 0 _ _ (by rfl) (by first|exact Or.inl rfl|exact Or.inr (.inl rfl)|exact Or.inr (.inr rfl)) (by decide) (by decide)) zE yg (by intro _;rfl)) (by rfl) (by rfl) (by rfl)) (@zK _ _ _ (@zU _ _ _ _ (@pv _ 2 _ _ (by rfl) (by first|exact Or.inl rfl|exact Or.inr (.inl rfl)|exact Or.inr (.inr rfl)) (by decide) (by decide)))))) zk) (@zF _ _ _ _ _ (@yG _ _ _ _ _ _ (@zR _ _ _ _ _ _ _ _ yJ (@zY _ _ _ _ _ _ _ zd (@pv _ 0 _ _ (by rfl) (by first|exact Or.inl rfl|exact Or.inr (.inl rfl)|exact Or.inr (.inr rfl)) (by decide) (by decide)) zE (fun _ _=>rfl)) zE) (@xV _ _ _ _ _ _ _ (@pv _ 0 _ _ (by rfl) (by first|exact Or.inl rfl|exact Or.inr (.inl rfl)|exact Or.inr (.inr rfl)) (by decide) (by decide)) zE yg (by intro _;rfl)) (by rfl) (by rfl) (by rfl)) (@zF _ _ _ _ _ (@yG _ _ _ _ _ _ (@zR _ _ _ _ _ _ _ _ xK (@zR _ _ _ _ _ _ _ _ yJ (@zR _ _ _ _ _ _ _ _ yJ (@zR _ _ _ _ _ _ _ _ xJ (@zY _ _ _ _ _ _ _ zd (@pv _ 0 _ _ (by rfl) (by first|exact Or.inl rfl|exact Or.inr (.inl rfl)|exact Or.inr (.inr rfl)) (by decide) (by decide)) zE (fun _ _=>rfl)) zE) zE) (@zY _ _ _ _ _ _ _ zd (@pv _ 0 _ _ (by rfl) (by first|exact Or.inl rfl|exact Or.inr (.inl rfl)|exact Or.inr (.inr rfl)) (by decide) (by decide)) zE (fun _ _=>rfl))) zE) (@xV _ _ _ _ _ _ _ (@pv _ 0 _ _ (by rfl) (by first|exact Or.inl rfl|exact Or.inr (.inl rfl)|exact Or.inr (.inr rfl)) (by decide) (by decide)) zE yg (by intro _;rfl)) (by rfl) (by rfl) (by rfl)) (@zK _ _ _ (@zU _ _ _ _ (@zR _ _ _ _ _ _ _ _ xK (@zR _ _ _ _ _ _ _ _ xW (@zR _ _ _ _ _ _ _ _ xK (@zR _ _ _ _ _ _ _ _ xJ (@zY _ _ _ _ _ _ _ zd (@pv _ 0 _ _ (by rfl) (by first|exact Or.inl rfl|exact Or.inr (.inl rfl)|exact Or.inr (.inr rfl)) (by decide) (by decide)) zE (fun _ _=>rfl)) (@zY _ _ _ _ _ _ _ zd (@pv _ 0 _ _ (by rfl) (by first|exact Or.inl rfl|exact Or.inr (.inl rfl)|exact Or.inr (.inr rfl)) (by decide) (by decide)) zE (fun _ _=>rfl))) zE) zE) (@pv _ 1 _ _ (by rfl) (by first|exact Or.inl rfl|exact Or.inr (.inl rfl)|exact Or.inr (.inr rfl)) (by decide) (by decide)))))))),?_⟩
 have fin:∀ (x:Int) (H':Hp),0≤x→x<m→Pk3 H' l→But l H H'→Q (.int x) H':=fun x H' x0 x1 S' B'=>by
  obtain⟨v,rfl⟩:=Int.eq_ofNat_of_zero_le x0
  exact k v H' x1 S' B'
 refine⟨_,rfl,l,_,_,_,rfl,rfl,SqL.of hl,rfl,_,_,rfl,rfl,_,rfl,vU (fun q=>?_) (fun q=>?_)⟩
 ·refine⟨_,rfl,l,_,_,_,rfl,rfl,SqL.of hl,rfl,_,rfl,_,_,rfl,rfl,m0,?_⟩
  refine⟨_,rfl,l,_,_,_,rfl,rfl,SqL.of hl,rfl,_,rfl,_,_,rfl,rfl,⟨m0,m1⟩,_,rfl,l,_,_,0,rfl,rfl,hl,rfl,_,rfl,?_⟩
  exact fin _ _ (Int.emod_nonneg _ (by lia)) (Int.emod_lt_of_pos _ m0) ⟨a / m,b,c,zD,Int.ediv_nonneg a0 (by lia),b0,b1⟩ fun x o e ne=>by rw[zH ne];exact e
 ·refine⟨_,rfl,l,_,_,_,rfl,rfl,SqL.of hl,rfl,_,_,rfl,rfl,_,rfl,l,_,_,2,rfl,rfl,hl,rfl,?_⟩
  have h1:L2.upd H l (.lst ([V.int a,V.int b,V.int c].set 2 (V.int (c+1)))) l=some (.lst [.int a,.int b,.int (c+1)]):=zD
  have B1:But l H (L2.upd H l (.lst ([V.int a,V.int b,V.int c].set 2 (V.int (c+1))))):=fun x o e ne=>by rw[zH ne];exact e
  show nH _ _ _ _ (L2.upd H l (.lst ([V.int a,V.int b,V.int c].set 2 (V.int (c+1)))))
  generalize L2.upd H l (.lst ([V.int a,V.int b,V.int c].set 2 (V.int (c+1))))=H1 at *
  refine⟨_,rfl,l,_,_,_,rfl,rfl,SqL.of h1,rfl,_,_,rfl,rfl,.inr ⟨by decide,by decide⟩,_,_,rfl,rfl,_,rfl,l,_,_,_,rfl,rfl,SqL.of h1,rfl,_,_,rfl,rfl,_,_,rfl,rfl,(by show (0:Int)<2147483647;decide),_,rfl,l,_,_,1,rfl,rfl,h1,rfl,?_⟩
  have g0:0≤(b*48271+12345+(c+1))%2147483647:=Int.emod_nonneg _ (by decide)
  have g1:(b*48271+12345+(c+1))%2147483647<2147483647:=Int.emod_lt_of_pos _ (by decide)
  generalize hH:L2.upd H1 l (HO.lst ([V.int a,V.int b,V.int (c+1)].set 1 (V.int ((b*48271+12345+(c+1))%2147483647))))=H2
  have h2:H2 l=some (.lst [.int a,.int ((b*48271+12345+(c+1))%2147483647),.int (c+1)]):=by rw[← hH];exact zD
  refine⟨_,rfl,l,_,_,_,rfl,rfl,SqL.of h2,rfl,_,rfl,l,_,_,_,rfl,rfl,SqL.of h2,rfl,_,_,rfl,rfl,.inl ⟨by lia,by lia⟩,_,_,rfl,rfl,(by show (0:Int)<1999999973;decide),_,_,rfl,rfl,⟨by decide,by decide⟩,_,rfl,_,_,rfl,rfl,m0,?_⟩
  exact fin _ _ (Int.emod_nonneg _ (by lia)) (Int.emod_lt_of_pos _ m0) ⟨a,_,_,h2,a0,g0,by lia⟩ fun x o e ne=>by rw[← hH,zH ne];exact B1 x o e ne
theorem scL:FnScope ["_law_script","_law_k","_law_cell","_law_digits"] ["_law_script","_law_k"] (zM lY):=⟨rfl,rfl,rfl,by decide +kernel,rfl,by decide +kernel,by decide +kernel⟩
theorem jx {f:Addr}{fd:FuncData}(F:Fun K "_law_left" "_law_left" lY f fd) (G:Mgs mg):FnOk P w K mg base CX0 1 f fd ["_law_script","_law_k"] (tU K):=by
 refine F.ok scL (fun vs H Q E h=>?_) (fun cdv A outer s H vs Q E hr h=>?_)
 ·obtain⟨a,ns,k,rfl,_⟩:=h
  rfl
 obtain⟨a,ns,k,rfl,hS,h63,k0,k1,q⟩:=h
 refine⟨_,(@zF _ _ _ _ _ (@zi _ _ 2 _ _ _ _ scL.nd rfl (.inl rfl) zE (by rfl) (by first|exact .inl rfl|exact .inr rfl|assumption)) (@zF _ _ _ _ _ (@yM _ _ _ _ _ _ _ _ (@zj _ _ _ _ _ _ _ _ oP (@zQ _ _ _ _ _ _ _ _ _ zW (by rfl) G.len PySem.boot_len (@zA _ _ _ _ _ (@pv _ 0 _ _ (by rfl) (by first|exact Or.inl rfl|exact Or.inr (.inl rfl)|exact Or.inr (.inr rfl)) (by decide) (by decide)) zB (by rfl)) (by decide) (by decide) (by rfl) (by rfl)) zE (zp _)) (@zK _ _ _ (@zi _ _ 2 _ _ _ _ scL.nd rfl (.inl rfl) (@zY _ _ _ _ _ _ _ zd (@pv _ 0 _ _ (by rfl) (by first|exact Or.inl rfl|exact Or.inr (.inl rfl)|exact Or.inr (.inr rfl)) (by decide) (by decide)) (@zR _ _ _ _ _ _ _ _ xK (@pv _ 1 _ _ (by rfl) (by first|exact Or.inl rfl|exact Or.inr (.inl rfl)|exact Or.inr (.inr rfl)) (by decide) (by decide)) (@zQ _ _ _ _ _ _ _ _ _ zW (by rfl) G.len PySem.boot_len (@zA _ _ _ _ _ (@pv _ 0 _ _ (by rfl) (by first|exact Or.inl rfl|exact Or.inr (.inl rfl)|exact Or.inr (.inr rfl)) (by decide) (by decide)) zB (by rfl)) (by decide) (by decide) (by rfl) (by rfl))) (fun _ _=>rfl)) (by rfl) (by first|exact .inl rfl|exact .inr rfl|assumption))) zk) (@zF _ _ _ _ _ (@zi _ _ 3 _ _ _ _ scL.nd rfl (.inl rfl) (@zR _ _ _ _ _ _ _ _ xJ (@zR _ _ _ _ _ _ _ _ xK (@zQ _ _ _ _ _ _ _ _ _ qO (by rfl) G.abs (by rfl) (@zA _ _ _ _ _ (@pv _ 2 _ _ (by rfl) (by first|exact Or.inl rfl|exact Or.inr (.inl rfl)|exact Or.inr (.inr rfl)) (by decide) (by decide)) zB (by rfl)) (by decide) (by decide) (by rfl) (by rfl)) (@zR _ _ _ _ _ _ _ _ pG zE zE)) (@zV _ _ _ _ _ _ _ _ _ wF (by rfl) G.int (by rfl) (@zA _ _ _ _ _ (@y8 _ _ _ _ _ _ _ _ iY (@zQ _ _ _ _ _ _ _ _ _ qO (by rfl) G.abs (by rfl) (@zA _ _ _ _ _ (@pv _ 2 _ _ (by rfl) (by first|exact Or.inl rfl|exact Or.inr (.inl rfl)|exact Or.inr (.inr rfl)) (by decide) (by decide)) zB (by rfl)) (by decide) (by decide) (by rfl) (by rfl)) (@zR _ _ _ _ _ _ _ _ pG zE zE) (zp _)) zB (by rfl)) (by decide) (by decide) (by rfl) (by rfl))) (by rfl) (by first|exact .inl rfl|exact .inr rfl|assumption)) (@zK _ _ _ (@zU _ _ _ _ (@zq _ _ _ _ (@zA _ _ _ _ _ (@pv _ 3 _ _ (by rfl) (by first|exact Or.inl rfl|exact Or.inr (.inl rfl)|exact Or.inr (.inr rfl)) (by decide) (by decide)) (@zA _ _ _ _ _ (@zR _ _ _ _ _ _ _ _ xK (@zR _ _ _ _ _ _ _ _ xJ (@zR _ _ _ _ _ _ _ _ yJ (@zR _ _ _ _ _ _ _ _ yJ (@zR _ _ _ _ _ _ _ _ xK (@pv _ 2 _ _ (by rfl) (by first|exact Or.inl rfl|exact Or.inr (.inl rfl)|exact Or.inr (.inr rfl)) (by decide) (by decide)) zE) (@zR _ _ _ _ _ _ _ _ xJ (@zR _ _ _ _ _ _ _ _ xJ zE (@pv _ 1 _ _ (by rfl) (by first|exact Or.inl rfl|exact Or.inr (.inl rfl)|exact Or.inr (.inr rfl)) (by decide) (by decide))) (@pv _ 1 _ _ (by rfl) (by first|exact Or.inl rfl|exact Or.inr (.inl rfl)|exact Or.inr (.inr rfl)) (by decide) (by decide)))) zE) zE) zE) (@zA _ _ _ _ _ zE zB (by rfl)) (by rfl)) (by rfl)))))))),?_⟩
 have ml:(ns.map V.int).length=ns.length:=List.length_map _
 refine eV ?_
 refine pW (fun σ H1=>H1=H∧∃ x:Int,σ=[some (.ref a),some (.int k),some (.int x),none]) ?_ fun D nxt _=>?_
 ·rintro σ H1 ⟨rfl,x,rfl⟩
  have g0:=Int.emod_nonneg ((x%2305843009213693951+7919*k*k+11)*48271) (show (2147483647:Int)≠0 by decide)
  have g1:=Int.emod_lt_of_pos ((x%2305843009213693951+7919*k*k+11)*48271) (show (0:Int)<2147483647 by decide)
  have d0:∀ b:Bool,(0:Int)≤(if b=true then (1:Int) else 0):=by decide
  have d1:∀ b:Bool,-(2 ^ 64)<(if b=true then (1:Int) else 0)∧(if b=true then (1:Int) else 0)<2 ^ 64:=by decide
  refine⟨_,rfl,_,rfl,_,_,rfl,rfl,⟨by decide,by decide,by decide⟩,_,_,rfl,rfl,(by show (0:Int)<10 ^ 60;decide),?_⟩
  refine⟨_,rfl,_,rfl,_,_,rfl,rfl,⟨by decide,by decide,by decide⟩,_,_,rfl,rfl,.inr ⟨_,rfl,_,_,rfl,rfl,.inr (d1 _),?_⟩⟩
  refine⟨_,rfl,_,rfl,_,_,rfl,rfl,(by show (0:Int)<2305843009213693951;decide),_,rfl,_,_,rfl,rfl,.inl ⟨by decide,by decide⟩,_,rfl,_,_,rfl,rfl,.inr ⟨by lia,by lia⟩,_,_,rfl,rfl,_,_,rfl,rfl,_,_,rfl,rfl,.inr ⟨by decide,by decide⟩,_,_,rfl,rfl,(by show (0:Int)<2147483647;decide),(by show 3≤sizeLine;decide),fun l hl=>?_⟩
  refine q l _ hl (zC hl _) ⟨_,_,_,zD,Int.mul_nonneg (Int.emod_nonneg _ (by decide)) (d0 _),g0,by lia⟩
 refine⟨_,rfl,a,_,rfl,.inl hS,_,_,rfl,rfl,_,rfl,vU (fun z=>?_) (fun z=>?_)⟩
 ·have np:0<ns.length:=by
   have:=of_decide_eq_true z
   rw[ml]at this;lia
  refine⟨_,rfl,_,rfl,_,rfl,a,_,rfl,.inl hS,_,_,rfl,rfl,by rw[ml];lia,?_⟩
  have e0:=Int.emod_nonneg k (show ((ns.length:Nat):Int)≠0 by lia)
  have e1:=Int.emod_lt_of_pos k (show (0:Int)<(ns.length:Nat) by lia)
  rw[ml]
  obtain⟨j,hj⟩:=Int.eq_ofNat_of_zero_le e0
  rw[hj]at e1
  exact⟨a,_,k%(ns.length:Nat),_,rfl,rfl,hS,(by rw[hj];exact xY (by lia)),nxt _ _ ⟨rfl,_,rfl⟩⟩
 ·exact nxt _ _ ⟨rfl,0,rfl⟩
theorem fi:FnScope ["_law_left_here","_law_row","_law_some_here","_law_found"] ["_law_left_here","_law_row"] (zM qh):=⟨rfl,rfl,rfl,by decide +kernel,rfl,by decide +kernel,by decide +kernel⟩
theorem kL {f fK:Addr}{fd dK:FuncData}(F:Fun K "_law_mixed" "_law_mixed" qh f fd) (G:Mgs mg) (UK:Use P w K mg base "_law_pick" ["_law_left_here","_law_many"] 1 yo fK dK):FnOk P w K mg base CX0 2 f fd ["_law_left_here","_law_row"] wb:=by
 refine F.ok fi (fun vs H Q E h=>?_) (fun cdv A outer s H vs Q E hr h=>?_)
 ·obtain⟨l,p,xs,rfl,_⟩:=h
  rfl
 obtain⟨l,p,xs,rfl,hp,xl,S,k⟩:=h
 refine⟨_,(@zF _ _ _ _ _ (@uE _ _ 2 3 _ _ _ _ _ _ _ _ _ _ _ rfl fi.nd rfl rfl (by decide) rfl rfl (@zA _ _ _ _ _ (@zV _ _ _ _ _ _ _ _ _ yQ (by rfl) G.list (by rfl) (@zA _ _ _ _ _ (@pv _ 1 _ _ (by rfl) (by first|exact Or.inl rfl|exact Or.inr (.inl rfl)|exact Or.inr (.inr rfl)) (by decide) (by decide)) zB (by rfl)) (by decide) (by decide) (by rfl) (by rfl)) (@zA _ _ _ _ _ (@zq _ _ _ _ zB) zB (by rfl)) (by rfl)) (by rfl) (by rfl)) (@zF _ _ _ _ _ (@uC _ _ _ _ _ _ PassesOwn.never (@zj _ _ _ _ _ _ _ _ (sN hr.units0) (@pv _ 2 _ _ (by rfl) (by first|exact Or.inl rfl|exact Or.inr (.inl rfl)|exact Or.inr (.inr rfl)) (by decide) (by decide)) (@zq _ _ _ _ zB) (zp _)) (@zK _ _ _ (@xH _ _ _ _ (@wn _ _ _ _ _ _ _ _ _ _ _ _ PySem.F.plainAttrs_list PySem.F.slot_list_append PySem.F.type_list_append yc (@pv _ 3 _ _ (by rfl) (by first|exact Or.inl rfl|exact Or.inr (.inl rfl)|exact Or.inr (.inr rfl)) (by decide) (by decide)) (@zA _ _ _ _ _ (@wn _ _ _ _ _ _ _ _ _ _ _ _ PySem.F.plainAttrs_list PySem.F.slot_list_pop PySem.F.type_list_pop kf (@pv _ 2 _ _ (by rfl) (by first|exact Or.inl rfl|exact Or.inr (.inl rfl)|exact Or.inr (.inr rfl)) (by decide) (by decide)) (@zA _ _ _ _ _ (@zJ _ _ _ _ _ _ _ _ _ _ _ _ _ _ _ _ UK.ok hr (by rfl) UK.m UK.kp UK.b .nil zS (@zA _ _ _ _ _ (@pv _ 0 _ _ (by rfl) (by first|exact Or.inl rfl|exact Or.inr (.inl rfl)|exact Or.inr (.inr rfl)) (by decide) (by decide)) (@zA _ _ _ _ _ (@zQ _ _ _ _ _ _ _ _ _ zW (by rfl) G.len PySem.boot_len (@zA _ _ _ _ _ (@pv _ 2 _ _ (by rfl) (by first|exact Or.inl rfl|exact Or.inr (.inl rfl)|exact Or.inr (.inr rfl)) (by decide) (by decide)) zB (by rfl)) (by decide) (by decide) (by rfl) (by rfl)) zB (by rfl)) (by rfl)) (by decide) (by rfl) (by rfl)) zB (by rfl)) (by rfl) (by rfl) (by rfl) (by rfl) (by rfl)) zB (by rfl)) (by rfl) (by rfl) (by rfl) (by rfl) (by rfl)) (by rfl)))) (@zK _ _ _ (@zU _ _ _ _ (@zV _ _ _ _ _ _ _ _ _ zZ (by rfl) G.tuple (by rfl) (@zA _ _ _ _ _ (@pv _ 3 _ _ (by rfl) (by first|exact Or.inl rfl|exact Or.inr (.inl rfl)|exact Or.inr (.inr rfl)) (by decide) (by decide)) zB (by rfl)) (by decide) (by decide) (by rfl) (by rfl)))))),?_⟩
 refine⟨_,rfl,p,_,rfl,.inl (SqL.of hp),fun lo hlo=>?_⟩
 have s1:=zC hlo (.lst xs)
 have nlo:=S.ne hlo
 refine⟨(by show 0≤sizeLine;decide),fun lt hlt=>?_⟩
 have s2:=zC hlt (.lst [])
 have nlt:=(S.keep s1).ne hlt
 have not:lo≠lt:=zG zD hlt
 have flo:Frs l H lo:=fun b o e _=>zG e hlo
 have flt:Frs l H lt:=fun b o e _=>zG (s1 _ _ e) hlt
 refine⟨_,_,rfl,?_⟩
 refine⟨fun m σ H3=>σ=[some (.ref l),some (.ref p),some (.ref lo),some (.ref lt)]∧Pk3 H3 l∧But l H H3∧∃ us ys,H3 lo=some (.lst us)∧us.length=m∧H3 lt=some (.lst ys)∧(ys++us).Perm xs,
  ⟨_,rfl,(S.keep s1).keep s2,(But.of s1).trans (But.of s2),xs,[],by rw[zH not];exact zD,rfl,zD,.refl _⟩,?_⟩
 rintro m σ H3 ⟨rfl,S3,B3,us,ys,hu,ul,hy,pm⟩
 refine⟨_,rfl,(by show 0≤sizeLine;decide),fun e he=>?_⟩
 have s4:=zC he (.lst [])
 refine⟨lo,e,us,rfl,rfl,SqL.of (s4 _ _ hu),SqL.of zD,_,rfl,?_⟩
 have S4:=S3.keep s4
 have B4:But l H (L2.upd H3 e (.lst [])):=B3.trans (But.of s4)
 have hu4:=s4 _ _ hu
 have hy4:=s4 _ _ hy
 generalize L2.upd H3 e (.lst [])=H4 at *
 have tot:ys.length+us.length=xs.length:=by rw[← List.length_append];exact pm.length_eq
 by_cases un:us=[]
 ·rw[show (!us.isEmpty)=false by rw[un];rfl]
  rw[un,List.append_nil]at pm
  refine zv ⟨_,rfl,lt,_,rfl,.inl ⟨SqL.of hy4,fun t ht=>k t ys _ pm zD (S4.keep (zC ht _)) (B4.trans (But.of (zC ht _)))⟩⟩
 have up:0<us.length:=List.length_pos_iff.mpr un
 rw[show (!us.isEmpty)=true by cases us with
  | nil=>exact absurd rfl un
  | cons a b=>rfl]
 refine yP ⟨_,fun σ' H' hN=>⟨m-1,by lia,hN⟩,?_⟩
 refine⟨_,rfl,.inl ⟨rfl,_,SqL.of hy4⟩,_,rfl,.inl ⟨rfl,_,SqL.of hu4⟩,_,rfl,_,rfl,lo,_,rfl,.inl (SqL.of hu4),l,_,rfl,by lia,by lia,S4,fun kk H5 hk S5 B5=>?_⟩
 have kl:kk<us.length:=by lia
 have hu5:=B5 lo _ hu4 nlo.symm
 have hy5:=B5 lt _ hy4 nlt.symm
 refine⟨lo,_,_,kk,us[kk],rfl,rfl,hu5,by lia,by lia,(sS (uO (xs:=us) (i:=kk) kl)).1,List.getElem?_eq_getElem kl,?_⟩
 have hy6:L2.upd H5 lo (.lst (us.eraseIdx kk)) lt=some (.lst ys):=by rw[zH not.symm];exact hy5
 refine⟨lt,_,_,rfl,rfl,hy6,by rw[sizeLine_eq];lia,rfl,(S5.upd nlo).upd nlt,((B4.trans B5).upd flo).upd flt,us.eraseIdx kk,ys++[us[kk]],by rw[zH not];exact zD,by rw[List.length_eraseIdx,if_pos kl];lia,zD,?_⟩
 refine List.Perm.trans ?_ pm
 rw[List.append_assoc]
 refine List.Perm.append_left ys ?_
 exact uU us kk kl
end
end K45
namespace L2
open PySem PySem.Spec PyProof.Rows Own
theorem FnOk.any {P:Program}{w:World}{K:PySem.W.Frag}{mg:Str→Option Value}{base:Heap}{CX:CXT}{k:Nat}{f:Addr}{fd:FuncData}{ps:List Str}{sp:Nat→Sp}(M:Nat) (F:∀ m,m≤M→FnOk P w K mg base CX k f fd ps (sp m)) :
  FnOk P w K mg base CX k f fd ps (fun vs H Q E=>∃ m,m≤M∧sp m vs H Q E) :=
 ⟨fun vs H Q E ⟨m,hm,q⟩=>(F m hm).len vs H Q E q,fun A outer s H args us vs Q E hr he hb hv ⟨m,hm,q⟩=>(F m hm).run A outer s H args us vs Q E hr he hb hv q⟩
end L2
namespace Bn
open PySem L2 Own
def xC:Nat→List Nat→List Fk × List Nat
 | 0,row=>([],row)
 | m+1,row=>((row.getD 0 0,row.getD (row.length / 2) 0)::((xC m (row.take (row.length / 2))).1++(xC m (row.drop (row.length / 2))).1),yO (xC m (row.take (row.length / 2))).2 (xC m (row.drop (row.length / 2))).2)
def mergeN:Nat→List Nat→List Nat→List Fk × List Nat
 | 0,a,b=>(a.zip b,a++b)
 | m+1,a,b=>((mergeN m (by2 0 a) (by2 1 b)).1++(mergeN m (by2 1 a) (by2 0 b)).1++(mergeN m (by2 0 a) (by2 1 b)).2.zip (mergeN m (by2 1 a) (by2 0 b)).2,yO (mergeN m (by2 0 a) (by2 1 b)).2 (mergeN m (by2 1 a) (by2 0 b)).2)
def yx:Nat→List Nat→List Fk × List Nat
 | 0,row=>([],row)
 | m+1,row=>((yx m (row.take (row.length / 2))).1++(yx m (row.drop (row.length / 2))).1++(mergeN m (yx m (row.take (row.length / 2))).2 (yx m (row.drop (row.length / 2))).2).1,(mergeN m (yx m (row.take (row.length / 2))).2 (yx m (row.drop (row.length / 2))).2).2)
theorem wU {m n:Nat}(h:n=2 ^ (m+1)):n / 2=2 ^ m∧n-n / 2=2 ^ m∧n / 2≤n:=by
 rw[Nat.pow_succ]at h;lia
theorem xn {m:Nat}{row:List Nat}(h:row.length=2 ^ (m+1)):(row.take (row.length / 2)).length=2 ^ m∧(row.drop (row.length / 2)).length=2 ^ m:=by
 obtain⟨a,b,c⟩:=wU h
 rw[List.length_take,List.length_drop]
 exact⟨by rw[Nat.min_eq_left c];exact a,b⟩
theorem wu {α:Type}{m:Nat}{a:List α}(h:a.length=2 ^ (m+1)):(by2 0 a).length=2 ^ m∧(by2 1 a).length=2 ^ m:=by
 rw[sW 0 (by decide),sW 1 (by decide),h,Nat.pow_succ]
 lia
theorem wV:∀ (m:Nat) (row:List Nat),row.length=2 ^ m→(xC m row).2.length=2 ^ m∧(xC m row).1.length+1=2 ^ m
 | 0,row,h=>⟨h,rfl⟩
 | m+1,row,h=>by
  obtain⟨a,b⟩:=xn h
  obtain⟨x1,x2⟩:=wV m _ a
  obtain⟨y1,y2⟩:=wV m _ b
  show (yO _ _).length=_∧(_::(_++_)).length+1=_
  rw[xB _ _ (x1.trans y1.symm),List.length_cons,List.length_append,x1,Nat.pow_succ]
  exact⟨by lia,by lia⟩
theorem xA:∀ (m:Nat) (a b:List Nat),a.length=2 ^ m→b.length=2 ^ m→(mergeN m a b).2.length=2 ^ (m+1)∧(mergeN m a b).1.length=(m+1)*2 ^ m
 | 0,a,b,ha,hb=>by
  show (a++b).length=_∧(a.zip b).length=_
  rw[List.length_append,List.length_zip,ha,hb];exact⟨rfl,rfl⟩
 | m+1,a,b,ha,hb=>by
  obtain⟨a0,a1⟩:=wu ha
  obtain⟨b0,b1⟩:=wu hb
  obtain⟨x1,x2⟩:=xA m _ _ a0 b1
  obtain⟨y1,y2⟩:=xA m _ _ a1 b0
  show (yO _ _).length=_∧(_++_++List.zip _ _).length=_
  rw[xB _ _ (x1.trans y1.symm),List.length_append,List.length_append,List.length_zip,x1,y1,x2,y2,Nat.min_self]
  have e:(m+1)*2 ^ m+(m+1)*2 ^ m=(m+1)*2 ^ (m+1):=by rw[← Nat.two_mul,Nat.pow_succ,Nat.mul_left_comm,Nat.mul_comm 2 (2 ^ m)]
  refine⟨by rw[Nat.pow_succ 2 (m+1),Nat.mul_comm],?_⟩
  rw[e,← Nat.succ_mul]
def wv:Nat→Nat
 | 0=>0
 | m+1=>wv m+wv m+(m+1)*2 ^ m
theorem wY:∀ m,m≤10→wv m≤100000∧(m+1)*2 ^ m≤20000:=by decide +kernel
theorem xx:∀ (m:Nat) (row:List Nat),row.length=2 ^ m→(yx m row).2.length=2 ^ m∧(yx m row).1.length=wv m
 | 0,row,h=>⟨h,rfl⟩
 | m+1,row,h=>by
  obtain⟨a,b⟩:=xn h
  obtain⟨x1,x2⟩:=xx m _ a
  obtain⟨y1,y2⟩:=xx m _ b
  obtain⟨z1,z2⟩:=xA m _ _ x1 y1
  refine⟨z1,?_⟩
  show (List.append (List.append _ _) _).length=wv m+wv m+(m+1)*2 ^ m
  rw[List.append_eq,List.append_eq,List.length_append,List.length_append,z2,x2,y2]
def wW (k:Nat):Nt:=⟨2 ^ k,(xC k (List.range (2 ^ k))).1,(xC k (List.range (2 ^ k))).2⟩
def xQ (k:Nat):Nt:=⟨2 ^ k,(yx k (List.range (2 ^ k))).1,(yx k (List.range (2 ^ k))).2⟩
theorem mz:∀ k,k<5→(wW k).forks.length≤128∧(∀ f∈(wW k).forks,f.1<2 ^ k∧f.2<2 ^ k∧f.1≠f.2)∧(wW k).ends.Perm (List.range (2 ^ k)):=by decide +kernel
theorem nL:∀ k,k<5→(xQ k).forks.length≤128∧(∀ f∈(xQ k).forks,f.1<2 ^ k∧f.2<2 ^ k∧f.1≠f.2)∧(xQ k).ends.Perm (List.range (2 ^ k)):=by decide +kernel
theorem wA {k:Nat}(h:k<5):1≤2 ^ k∧2 ^ k≤16:=⟨Nat.one_le_two_pow,Nat.pow_le_pow_right (show 0<2 by decide) (show k≤4 by lia)⟩
theorem jV {k:Nat}(h:k<5):(wW k).Ok:=let ⟨a,b,c⟩:=mz k h;⟨(wA h).1,(wA h).2,a,b,c⟩
theorem lE {k:Nat}(h:k<5):(xQ k).Ok:=let ⟨a,b,c⟩:=nL k h;⟨(wA h).1,(wA h).2,a,b,c⟩
def Deep (K:PySem.W.Frag) (H:Hp):Nat→V→Prop
 | 0,x=>AnyT K H x
 | n+1,x=>AnyT K H x∧∀ xs,zw H x=some xs→xs.length≤1000∧∀ y∈xs,Deep K H n y
theorem Deep.any {K:PySem.W.Frag}{H:Hp}:∀ {n:Nat}{x:V},Deep K H n x→AnyT K H x
 | 0,_,h=>h
 | _+1,_,h=>h.1
theorem rM {K:PySem.W.Frag}{H H':Hp}{x:V}(s:Same H H') (a:AnyT K H x):zw H' x=zw H x:=by
 cases z:zw H x with
 | some xs =>
  obtain⟨b,rfl,hb⟩:=yI z
  exact zy (s _ _ hb)
 | none =>
  cases y:zw H' x with
  | none=>rfl
  | some ys =>
   obtain⟨b,rfl,hb⟩:=yI y
   obtain⟨T,ty,_⟩:=a
   cases ty with
   | tup h=>rw[zy h]at z;cases z
   | lst h=>rw[s _ _ h]at hb;cases hb
   | frz h=>rw[s _ _ h]at hb;cases hb
   | dK h=>rw[s _ _ h]at hb;cases hb
   | dT h=>rw[s _ _ h]at hb;cases hb
   | ins h=>rw[s _ _ h]at hb;cases hb
def ya (H:Hp) (many b:Int) (x:V):Bool:=match zw H x with
 | some xs=>decide ((xs.length:Int)=many) && xs.all (wT b)
 | none=>false
end Bn
namespace L2
open PySem PySem.Spec PyProof.Rows Own
theorem oi {K:PySem.W.Frag}{b1 b2:Bool}{a1 a2:Addr}{xs ys:List V}(hxy:xs.length=ys.length) {g:TG}{tb:TS}{D:Ends}{σ:St}{H:Hp}(Pv:Nat→St→Hp→Prop) (h0:Pv 0 σ H) (hl:∀ i σ H,i≤xs.length→Pv i σ H→SqB b1 K H a1 xs∧SqB b2 K H a2 ys)
  (hs:∀ i x y T σ H,xs[i]?=some x→ys[i]?=some y→H T=none→Pv i σ H→g (.ref T) σ (upd H T (.tup [x,y])) fun σ2 H2=>tb { D with nx:=Pv (i+1),ct:=Pv (i+1),bk:=D.nx } σ2 H2) (hd:∀ σ H,Pv xs.length σ H→D.nx σ H) :
  ∃ W:Nat→Nat→St→Hp→Prop,(∃ m,W 0 m σ H)∧∀ i m σ H,W i m σ H →
   ((Itz K b1 b2 a1 a2).stop i H∧D.nx σ H)∨((Itz K b1 b2 a1 a2).go i H∧∃ N:St→Hp→Prop,(∀ σ' H',N σ' H'→∃ m',m'<m∧W (i+1) m' σ' H')∧∀ x H',(Itz K b1 b2 a1 a2).yld i H x H'→g x σ H' fun σ2 H2=>tb { D with nx:=N,ct:=N,bk:=D.nx } σ2 H2):=by
 refine⟨fun i m σ H=>m=xs.length-i∧i≤xs.length∧Pv i σ H,⟨_,rfl,Nat.zero_le _,h0⟩,?_⟩
 rintro i m σ H ⟨rfl,hi,p⟩
 obtain⟨q1,q2⟩:=hl i σ H hi p
 by_cases more:i<xs.length
 ·refine .inr ⟨⟨xs,ys,_,_,q1,q2,List.getElem?_eq_getElem more,List.getElem?_eq_getElem (by lia)⟩,Pv (i+1),fun σ' H' p'=>⟨xs.length-(i+1),by lia,rfl,more,p'⟩,fun v H' ⟨x,y,ex,ey,T,hT,e1,e2⟩=>?_⟩
  subst e1 e2
  exact hs i x y T σ H (ex xs q1) (ey ys q2) hT p
 ·obtain rfl:i=xs.length:=by lia
  exact .inl ⟨⟨xs,q1,rfl⟩,hd σ H p⟩
end L2
namespace Bn
open PySem L2 Own
end Bn
namespace K45
open PySem L2 Own Bn
abbrev rK:Stmt:=top 27
def vp (m:Nat):Sp:=fun vs H Q _=>∃ p1 p2 a b,vs=[.ref p1,.ref p2]∧H p1=some (.lst (zT a))∧H p2=some (.lst (zT b))∧a.length=2 ^ m∧b.length=2 ^ m∧m≤8∧∀ c lf le ps H',Same H H'→H lf=none→H' c=some (.tup [.ref lf,.ref le])→H' lf=some (.lst ps)→Prs H' ps (Bn.mergeN m a b).1→H' le=some (.lst (zT (Bn.mergeN m a b).2))→Q (.ref c) H'
theorem pP (row:List Nat) (i:Nat) (h:i≤row.length):xO (zT row) none (some (i:Int))=zT (row.take i):=by
 rw[uV _ _ (by rw[zc];exact h)]
 unfold zT
 rw[List.map_take]
theorem pQ (row:List Nat) (i:Nat) (h:i≤row.length):xO (zT row) (some (i:Int)) none=zT (row.drop i):=by
 rw[uW _ _ (by rw[zc];exact h)]
 unfold zT
 rw[List.map_drop]
theorem oW (off:Nat) (a:List Nat):by2 off (zT a)=zT (by2 off a):=by unfold zT;exact iP _ off a
theorem kh (a b:List Nat):zT a++zT b=zT (a++b):=by unfold zT;exact(List.map_append ..).symm
theorem pR (row:List Nat) (i:Nat) (h:i<row.length):(zT row)[i]?=some (.int ((row.getD i 0:Nat):Int)):=by
 unfold zT
 rw[List.getElem?_map,List.getElem?_eq_getElem h,List.getD_eq_getElem?_getD,List.getElem?_eq_getElem h];rfl
theorem wM:∀ (a b:List Nat) (j:Nat),j<a.length→j<b.length→yO (a.take (j+1)) (b.take (j+1))=yO (a.take j) (b.take j)++[a.getD j 0,b.getD j 0]
 | x::a,y::b,0,_,_=>by rw[List.take_succ_cons,List.take_succ_cons,List.take_zero,List.take_zero];rfl
 | x::a,y::b,j+1,ha,hb=>by
  rw[List.take_succ_cons,List.take_succ_cons,List.take_succ_cons,List.take_succ_cons]
  show x::y::yO (a.take (j+1)) (b.take (j+1))=x::y::(yO (a.take j) (b.take j)++[a.getD j 0,b.getD j 0])
  rw[wM a b j (by simpa using ha) (by simpa using hb)]
theorem sj {a b:List Nat}{j:Nat}(ha:j<a.length) (hb:j<b.length):(a.zip b).take (j+1)=(a.zip b).take j++[(a.getD j 0,b.getD j 0)]:=by
 rw[List.take_succ_eq_append_getElem (by rw[List.length_zip];lia),List.getElem_zip,List.getD_eq_getElem?_getD,List.getElem?_eq_getElem ha,List.getD_eq_getElem?_getD,List.getElem?_eq_getElem hb];rfl
theorem num_at {a:List Nat}{j:Nat}{x:V}(h:(zT a)[j]?=some x):j<a.length∧x=.int ((a.getD j 0:Nat):Int):=by
 have jl:j<a.length:=by rw[← zc a];exact(List.getElem?_eq_some_iff.mp h).1
 rw[pR a j jl]at h
 exact⟨jl,(Option.some.inj h).symm⟩
section
variable {P:Program}{w:World}{K:PySem.W.Frag}{mg:Str→Option Value}{base:Heap}
theorem rF:FnScope ["_law_one","_law_other","_law_forks","_law_first","_law_more_here","_law_second","_law_ends_here","_law_x","_law_y"] ["_law_one","_law_other"] (zM rK):=⟨rfl,rfl,rfl,by decide +kernel,rfl,by decide +kernel,by decide +kernel⟩
theorem rR {f:Addr}{fd:FuncData}(F:Fun K "_law_merger" "_law_merger" rK f fd) (G:Mgs mg) (bS:Binds K fd ["_law_one","_law_other"] []) (mS:mg "_law_merger" = some (.ref f)) (n:Nat)
  (GS:FnOk P w K mg base CX0 n f fd ["_law_one","_law_other"] (fun vs H Q E=>∃ m,n=m+1∧vp m vs H Q E)):FnOk P w K mg base CX0 (n+1) f fd ["_law_one","_law_other"] (vp n):=by
 have UT:Use P w K mg base "_law_merger" ["_law_one","_law_other"] n (fun vs H Q E=>∃ m,n=m+1∧vp m vs H Q E) f fd:=⟨GS,bS,F.kp,mS⟩
 refine F.ok rF (fun vs H Q E h=>?_) (fun cdv A outer s H vs Q E hr h=>?_)
 ·obtain⟨p1,p2,a,b,rfl,_⟩:=h
  rfl
 obtain⟨p1,p2,a,b,rfl,h1,h2,al,bl,n20,k⟩:=h
 refine⟨_,(@zF _ _ _ _ _ (@yM _ _ _ _ _ _ _ _ (@zj _ _ _ _ _ _ _ _ y0 (@zQ _ _ _ _ _ _ _ _ _ zW (by rfl) G.len PySem.boot_len (@zA _ _ _ _ _ (@pv _ 0 _ _ (by rfl) (by first|exact Or.inl rfl|exact Or.inr (.inl rfl)|exact Or.inr (.inr rfl)) (by decide) (by decide)) zB (by rfl)) (by decide) (by decide) (by rfl) (by rfl)) zE (zp _)) (@zK _ _ _ (@zU _ _ _ _ (@zX _ _ _ _ _ (@zA _ _ _ _ _ (@zq _ _ _ _ (@zA _ _ _ _ _ (@zX _ _ _ _ _ (@zA _ _ _ _ _ (@zY _ _ _ _ _ _ _ zd (@pv _ 0 _ _ (by rfl) (by first|exact Or.inl rfl|exact Or.inr (.inl rfl)|exact Or.inr (.inr rfl)) (by decide) (by decide)) zE (fun _ _=>rfl)) (@zA _ _ _ _ _ (@zY _ _ _ _ _ _ _ zd (@pv _ 1 _ _ (by rfl) (by first|exact Or.inl rfl|exact Or.inr (.inl rfl)|exact Or.inr (.inr rfl)) (by decide) (by decide)) zE (fun _ _=>rfl)) zB (by rfl)) (by rfl))) zB (by rfl))) (@zA _ _ _ _ _ (@zq _ _ _ _ (@zA _ _ _ _ _ (@zY _ _ _ _ _ _ _ zd (@pv _ 0 _ _ (by rfl) (by first|exact Or.inl rfl|exact Or.inr (.inl rfl)|exact Or.inr (.inr rfl)) (by decide) (by decide)) zE (fun _ _=>rfl)) (@zA _ _ _ _ _ (@zY _ _ _ _ _ _ _ zd (@pv _ 1 _ _ (by rfl) (by first|exact Or.inl rfl|exact Or.inr (.inl rfl)|exact Or.inr (.inr rfl)) (by decide) (by decide)) zE (fun _ _=>rfl)) zB (by rfl)) (by rfl))) zB (by rfl)) (by rfl))))) zk) (@zF _ _ _ _ _ (@yG _ _ _ _ _ _ (@zJ _ _ _ _ _ _ _ _ _ _ _ _ _ _ _ _ UT.ok hr (by rfl) UT.m UT.kp UT.b .nil zS (@zA _ _ _ _ _ (@sL _ _ _ _ _ _ _ _ _ (@pv _ 0 _ _ (by rfl) (by first|exact Or.inl rfl|exact Or.inr (.inl rfl)|exact Or.inr (.inr rfl)) (by decide) (by decide)) yC (@zo _ _ _ zE)) (@zA _ _ _ _ _ (@sL _ _ _ _ _ _ _ _ _ (@pv _ 1 _ _ (by rfl) (by first|exact Or.inl rfl|exact Or.inr (.inl rfl)|exact Or.inr (.inr rfl)) (by decide) (by decide)) (@zo _ _ _ zE) (@zo _ _ _ zE)) zB (by rfl)) (by rfl)) (by decide) (by rfl) (by rfl)) (@yE _ _ _ _ _ _ rfl (@zN _ _ _ _ _ (@zL _ _ 2 _ rF.nd rfl (.inl rfl) (by first|exact .inl rfl|exact .inr rfl|assumption)) (@zN _ _ _ _ _ (@zL _ _ 3 _ rF.nd rfl (.inl rfl) (by first|exact .inl rfl|exact .inr rfl|assumption)) zt (by rfl)) (by rfl)) (by rfl) (by rfl)) (by rfl) (by rfl) (by rfl)) (@zF _ _ _ _ _ (@yG _ _ _ _ _ _ (@zJ _ _ _ _ _ _ _ _ _ _ _ _ _ _ _ _ UT.ok hr (by rfl) UT.m UT.kp UT.b .nil zS (@zA _ _ _ _ _ (@sL _ _ _ _ _ _ _ _ _ (@pv _ 0 _ _ (by rfl) (by first|exact Or.inl rfl|exact Or.inr (.inl rfl)|exact Or.inr (.inr rfl)) (by decide) (by decide)) (@zo _ _ _ zE) (@zo _ _ _ zE)) (@zA _ _ _ _ _ (@sL _ _ _ _ _ _ _ _ _ (@pv _ 1 _ _ (by rfl) (by first|exact Or.inl rfl|exact Or.inr (.inl rfl)|exact Or.inr (.inr rfl)) (by decide) (by decide)) yC (@zo _ _ _ zE)) zB (by rfl)) (by rfl)) (by decide) (by rfl) (by rfl)) (@yE _ _ _ _ _ _ rfl (@zN _ _ _ _ _ (@zL _ _ 4 _ rF.nd rfl (.inl rfl) (by first|exact .inl rfl|exact .inr rfl|assumption)) (@zN _ _ _ _ _ (@zL _ _ 5 _ rF.nd rfl (.inl rfl) (by first|exact .inl rfl|exact .inr rfl|assumption)) zt (by rfl)) (by rfl)) (by rfl) (by rfl)) (by rfl) (by rfl) (by rfl)) (@zF _ _ _ _ _ (@uE _ _ 2 6 _ _ _ _ _ _ _ _ _ _ _ rfl rF.nd rfl rfl (by decide) rfl rfl (@zA _ _ _ _ _ (@zR _ _ _ _ _ _ _ _ xg (@pv _ 2 _ _ (by rfl) (by first|exact Or.inl rfl|exact Or.inr (.inl rfl)|exact Or.inr (.inr rfl)) (by decide) (by decide)) (@pv _ 4 _ _ (by rfl) (by first|exact Or.inl rfl|exact Or.inr (.inl rfl)|exact Or.inr (.inr rfl)) (by decide) (by decide))) (@zA _ _ _ _ _ (@zq _ _ _ _ zB) zB (by rfl)) (by rfl)) (by rfl) (by rfl)) (@zF _ _ _ _ _ (@yn _ _ _ _ _ _ _ _ PassesOwn.never rfl (@kA _ _ _ _ _ _ _ _ _ true true rfl G.zip (@zA _ _ _ _ _ (@pv _ 3 _ _ (by rfl) (by first|exact Or.inl rfl|exact Or.inr (.inl rfl)|exact Or.inr (.inr rfl)) (by decide) (by decide)) (@zA _ _ _ _ _ (@pv _ 5 _ _ (by rfl) (by first|exact Or.inl rfl|exact Or.inr (.inl rfl)|exact Or.inr (.inr rfl)) (by decide) (by decide)) zB (by rfl)) (by rfl)) (by rfl) (by rfl)) (@yE _ _ _ _ _ _ rfl (@zN _ _ _ _ _ (@zL _ _ 7 _ rF.nd rfl (.inl rfl) (by first|exact .inl rfl|exact .inr rfl|assumption)) (@zN _ _ _ _ _ (@zL _ _ 8 _ rF.nd rfl (.inl rfl) (by first|exact .inl rfl|exact .inr rfl|assumption)) zt (by rfl)) (by rfl)) (by rfl) (by rfl)) (@zF _ _ _ _ _ (@xH _ _ _ _ (@wn _ _ _ _ _ _ _ _ _ _ _ _ PySem.F.plainAttrs_list PySem.F.slot_list_append PySem.F.type_list_append yc (@pv _ 2 _ _ (by rfl) (by first|exact Or.inl rfl|exact Or.inr (.inl rfl)|exact Or.inr (.inr rfl)) (by decide) (by decide)) (@zA _ _ _ _ _ (@zX _ _ _ _ _ (@zA _ _ _ _ _ (@pv _ 7 _ _ (by rfl) (by first|exact Or.inl rfl|exact Or.inr (.inl rfl)|exact Or.inr (.inr rfl)) (by decide) (by decide)) (@zA _ _ _ _ _ (@pv _ 8 _ _ (by rfl) (by first|exact Or.inl rfl|exact Or.inr (.inl rfl)|exact Or.inr (.inr rfl)) (by decide) (by decide)) zB (by rfl)) (by rfl))) zB (by rfl)) (by rfl) (by rfl) (by rfl) (by rfl) (by rfl)) (by rfl)) (@zK _ _ _ (@xH _ _ _ _ (@wn _ _ _ _ _ _ _ _ _ _ _ _ PySem.F.plainAttrs_list PySem.F.slot_list_extend PySem.F.type_list_extend ux (@pv _ 6 _ _ (by rfl) (by first|exact Or.inl rfl|exact Or.inr (.inl rfl)|exact Or.inr (.inr rfl)) (by decide) (by decide)) (@zA _ _ _ _ _ (@zq _ _ _ _ (@zA _ _ _ _ _ (@pv _ 7 _ _ (by rfl) (by first|exact Or.inl rfl|exact Or.inr (.inl rfl)|exact Or.inr (.inr rfl)) (by decide) (by decide)) (@zA _ _ _ _ _ (@pv _ 8 _ _ (by rfl) (by first|exact Or.inl rfl|exact Or.inr (.inl rfl)|exact Or.inr (.inr rfl)) (by decide) (by decide)) zB (by rfl)) (by rfl))) zB (by rfl)) (by rfl) (by rfl) (by rfl) (by rfl) (by rfl)) (by rfl)))) (by intro _;rfl)) (@zK _ _ _ (@zU _ _ _ _ (@zX _ _ _ _ _ (@zA _ _ _ _ _ (@pv _ 2 _ _ (by rfl) (by first|exact Or.inl rfl|exact Or.inr (.inl rfl)|exact Or.inr (.inr rfl)) (by decide) (by decide)) (@zA _ _ _ _ _ (@pv _ 6 _ _ (by rfl) (by first|exact Or.inl rfl|exact Or.inr (.inl rfl)|exact Or.inr (.inr rfl)) (by decide) (by decide)) zB (by rfl)) (by rfl)))))))))),?_⟩
 have na:=zc a
 have nb:=zc b
 have p8:2 ^ n≤2 ^ 8:=Nat.pow_le_pow_right (by decide) n20
 have e8:2 ^ 8=256:=rfl
 refine⟨_,rfl,p1,_,rfl,.inl (SqL.of h1),rfl,_,rfl,?_⟩
 cases n with
 | zero =>
  have al1:a.length=1:=al
  have bl1:b.length=1:=bl
  rw[decide_eq_true (show V.int (((zT a).length:Nat):Int)=V.int 1 by rw[na,al1];rfl)]
  obtain⟨x,rfl⟩:=List.length_eq_one_iff.mp al1
  obtain⟨y,rfl⟩:=List.length_eq_one_iff.mp bl1
  refine yP ⟨_,rfl,p1,_,0,_,rfl,rfl,SqL.of h1,rfl,_,rfl,p2,_,0,_,rfl,rfl,SqL.of h2,rfl,(by show 2≤sizeLine;decide),fun t ht=>⟨(by show 1≤sizeLine;decide),fun lf hf=>?_⟩⟩
  have s1:=zC ht (.tup [.int x,.int y])
  have s2:=zC hf (.lst [.ref t])
  have u2:=s1.trans s2
  refine⟨_,rfl,p1,_,0,_,rfl,rfl,SqL.of (u2 _ _ h1),rfl,_,rfl,p2,_,0,_,rfl,rfl,SqL.of (u2 _ _ h2),rfl,(by show 2≤sizeLine;decide),fun le he=>⟨(by show 2≤sizeLine;decide),fun c hc=>?_⟩⟩
  have s3:=zC he (.lst [.int x,.int y])
  have s4:=zC hc (.tup [.ref lf,.ref le])
  exact k c lf le [.ref t] _ ((u2.trans s3).trans s4) (xh s1 hf) (zP hc _) (s4 _ _ (s3 _ _ (zP hf _))) ⟨⟨t,rfl,s4 _ _ (s3 _ _ (s2 _ _ (zP ht _)))⟩,trivial⟩ (s4 _ _ (zP he _))
 | succ m =>
  obtain⟨a0,a1⟩:=wu al
  obtain⟨b0,b1⟩:=wu bl
  have pw:2 ^ (m+1)=2 ^ m*2:=Nat.pow_succ ..
  have p0:=Nat.one_le_two_pow (n:=m)
  rw[decide_eq_false (show ¬ V.int (((zT a).length:Nat):Int)=V.int 1 by intro z;injection z with z;lia)]
  refine zv ⟨_,rfl,2,rfl,rfl,0,p1,_,.inl ⟨rfl,rfl⟩,rfl,SqL.of h1,fun q1 hq1=>?_⟩
  rw[oW]
  have s1:=zC hq1 (.lst (zT (by2 0 a)))
  refine⟨_,rfl,1,rfl,2,rfl,rfl,1,p2,_,.inr ⟨rfl,rfl⟩,rfl,SqL.of (s1 _ _ h2),fun q2 hq2=>?_⟩
  rw[oW]
  have s2:=zC hq2 (.lst (zT (by2 1 b)))
  refine⟨m,rfl,q1,q2,by2 0 a,by2 1 b,rfl,s2 _ _ (zP hq1 _),zP hq2 _,a0,b1,by lia,fun c3 lf3 le3 ps3 H3 s3 _ hc3 hf3 pr3 he3=>?_⟩
  have u3:=(s1.trans s2).trans s3
  refine⟨c3,_,rfl,SqT.of hc3,rfl,_,_,rfl,_,_,rfl,rfl,?_⟩
  refine⟨_,rfl,1,rfl,2,rfl,rfl,1,p1,_,.inr ⟨rfl,rfl⟩,rfl,SqL.of (u3 _ _ h1),fun q4 hq4=>?_⟩
  rw[oW]
  have s4:=zC hq4 (.lst (zT (by2 1 a)))
  refine⟨_,rfl,2,rfl,rfl,0,p2,_,.inl ⟨rfl,rfl⟩,rfl,SqL.of (s4 _ _ (u3 _ _ h2)),fun q5 hq5=>?_⟩
  rw[oW]
  have s5:=zC hq5 (.lst (zT (by2 0 b)))
  refine⟨m,rfl,q4,q5,by2 1 a,by2 0 b,rfl,s5 _ _ (zP hq4 _),zP hq5 _,a1,b0,by lia,fun c6 lf6 le6 ps6 H6 s6 _ hc6 hf6 pr6 he6=>?_⟩
  have u6:=(s4.trans s5).trans s6
  refine⟨c6,_,rfl,SqT.of hc6,rfl,_,_,rfl,_,_,rfl,rfl,?_⟩
  obtain⟨xl,xf⟩:=xA m _ _ a0 b1
  obtain⟨yl,yf⟩:=xA m _ _ a1 b0
  have bd:=(wY m (by lia)).2
  have pl3:=pr3.len
  have pl6:=pr6.len
  have hu6:=u3.trans u6
  have he3':=u6 _ _ he3
  refine⟨_,rfl,_,rfl,lf3,lf6,_,_,rfl,rfl,u6 _ _ hf3,hf6,by rw[sizeLine_eq];lia,fun l7 hl7=>⟨(by show 0≤sizeLine;decide),fun l8 hl8=>⟨_,_,rfl,?_⟩⟩⟩
  have s7:=zC hl7 (.lst (ps3++ps6))
  have s8:=zC hl8 (.lst [])
  have h78:l7≠l8:=zG (zP hl7 (.lst (ps3++ps6))) hl8
  have prA:=(Prs.app (pr3.tups (Tups.of u6)) pr6).tups (Tups.of (s7.trans s8))
  have hn7:H l7=none:=xh hu6 hl7
  have hn8:H l8=none:=xh (hu6.trans s7) hl8
  generalize hF:(Bn.mergeN m (by2 0 a) (by2 1 b)).2=fst at *
  generalize hS:(Bn.mergeN m (by2 1 a) (by2 0 b)).2=snd at *
  have e3:=s8 _ _ (s7 _ _ he3')
  have e6:=s8 _ _ (s7 _ _ he6)
  have n3:le3≠l7:=zG he3' hl7
  have n6:le6≠l7:=zG he6 hl7
  have n38:le3≠l8:=zG (s7 _ _ he3') hl8
  have n68:le6≠l8:=zG (s7 _ _ he6) hl8
  refine⟨_,rfl,_,rfl,le3,le6,_,_,rfl,SqL.of e3,SqL.of e6,?_⟩
  refine oi (K:=K) (b1:=true) (b2:=true) (a1:=le3) (a2:=le6) (xs:=zT fst) (ys:=zT snd) (by rw[zc,zc,xl,yl]) (fun j σ H7=>(∃ v7 v8,σ=[some (.ref p1),some (.ref p2),some (.ref l7),some (.ref le3),some (.ref lf6),some (.ref le6),some (.ref l8),v7,v8])∧Same H H7∧H7 le3=some (.lst (zT fst))∧H7 le6=some (.lst (zT snd))∧(∃ ps,H7 l7=some (.lst ps)∧Prs H7 ps ((Bn.mergeN m (by2 0 a) (by2 1 b)).1++(Bn.mergeN m (by2 1 a) (by2 0 b)).1++(fst.zip snd).take j))∧H7 l8=some (.lst (zT (yO (fst.take j) (snd.take j))))) ?_ (fun j σ H7 _ z=>⟨SqL.of z.2.2.1,SqL.of z.2.2.2.1⟩) ?_ ?_
  ·refine⟨⟨_,_,rfl⟩,(hu6.trans s7).trans s8,e3,e6,⟨ps3++ps6,s8 _ _ (zP hl7 _),?_⟩,zP hl8 _⟩
   rw[List.take_zero,List.append_nil];exact prA
  ·rintro j x y T σ H7 hx hy hT ⟨⟨v7,v8,rfl⟩,s9,e3,e6,⟨ps,h7,pr7⟩,h8⟩
   obtain⟨j1,rfl⟩:=num_at hx
   obtain⟨j2,rfl⟩:=num_at hy
   have pl:=pr7.len
   rw[List.length_append,List.length_append,List.length_take,List.length_zip]at pl
   have sT:=zC hT (.tup [.int ((fst.getD j 0:Nat):Int),.int ((snd.getD j 0:Nat):Int)])
   refine⟨T,_,rfl,SqT.of zD,rfl,_,_,rfl,_,_,rfl,rfl,?_⟩
   refine⟨_,rfl,.inl ⟨rfl,_,SqL.of (sT _ _ h7)⟩,_,rfl,_,rfl,(by show 2≤sizeLine;decide),fun t ht=>?_⟩
   have st:=zC ht (.tup [.int ((fst.getD j 0:Nat):Int),.int ((snd.getD j 0:Nat):Int)])
   have ut:=sT.trans st
   refine⟨l7,ps,_,rfl,rfl,ut _ _ h7,by rw[sizeLine_eq];lia,?_⟩
   have ht':=zP ht (.tup [.int ((fst.getD j 0:Nat):Int),.int ((snd.getD j 0:Nat):Int)])
   have h7':=ut _ _ h7
   have h8':=ut _ _ h8
   have e3':=ut _ _ e3
   have e6':=ut _ _ e6
   have s9':=s9.trans ut
   have pr7':=pr7.tups (Tups.of ut)
   generalize L2.upd (L2.upd H7 T (.tup [.int ((fst.getD j 0:Nat):Int),.int ((snd.getD j 0:Nat):Int)])) t (.tup [.int ((fst.getD j 0:Nat):Int),.int ((snd.getD j 0:Nat):Int)])=H9 at *
   have tq:=Tups.lst (ys:=ps++[.ref t]) h7'
   have h8q:L2.upd H9 l7 (.lst (ps++[.ref t])) l8=some (.lst (zT (yO (fst.take j) (snd.take j)))):=by rw[zH h78.symm];exact h8'
   refine⟨_,rfl,.inl ⟨rfl,_,SqL.of h8q⟩,_,rfl,_,rfl,(by show 2≤sizeLine;decide),fun q hq=>?_⟩
   have sq:=zC hq (.lst [.int ((fst.getD j 0:Nat):Int),.int ((snd.getD j 0:Nat):Int)])
   have tl:=xB (fst.take j) (snd.take j) (by rw[List.length_take,List.length_take];lia)
   rw[List.length_take]at tl
   refine⟨l8,q,_,_,rfl,rfl,sq _ _ h8q,zP hq _,by rw[zc,sizeLine_eq,tl];show _+2≤_;lia,?_⟩
   have n8:∀ {c:Addr}{o:HO},L2.upd H9 l7 (.lst (ps++[.ref t])) c=some o→c≠l8→L2.upd (L2.upd (L2.upd H9 l7 (.lst (ps++[.ref t]))) q (.lst [.int ((fst.getD j 0:Nat):Int),.int ((snd.getD j 0:Nat):Int)])) l8 (.lst (zT (yO (fst.take j) (snd.take j))++[.int ((fst.getD j 0:Nat):Int),.int ((snd.getD j 0:Nat):Int)])) c=some o:=fun e ne=>by rw[zH ne];exact sq _ _ e
   refine⟨⟨_,_,rfl⟩,fun c o e=>n8 (by rw[zH (zG e hn7)];exact s9' c o e) (zG e hn8),n8 (by rw[zH n3];exact e3') n38,n8 (by rw[zH n6];exact e6') n68,⟨ps++[.ref t],n8 zD h78,?_⟩,?_⟩
   ·rw[sj j1 j2,← List.append_assoc]
    have tz:Tups (L2.upd H9 l7 (.lst (ps++[.ref t]))) _:=fun c xs e=>n8 e (yr e h8q (fun z=>by cases z))
    exact(Prs.add (f:=(fst.getD j 0,snd.getD j 0)) (tq _ _ ht') (pr7'.tups tq)).tups tz
   ·rw[wM fst snd j j1 j2]
    have e:zT (yO (fst.take j) (snd.take j)++[fst.getD j 0,snd.getD j 0])=zT (yO (fst.take j) (snd.take j))++[.int ((fst.getD j 0:Nat):Int),.int ((snd.getD j 0:Nat):Int)]:=by rw[← kh];rfl
    rw[e];exact zD
  ·rintro σ H7 ⟨⟨v7,v8,rfl⟩,s9,e3,e6,⟨ps,h7,pr7⟩,h8⟩
   refine⟨_,rfl,_,rfl,(by show 2≤sizeLine;decide),fun c hc=>?_⟩
   have sc:=zC hc (.tup [.ref l7,.ref l8])
   have eN:Bn.mergeN (m+1) a b=((Bn.mergeN m (by2 0 a) (by2 1 b)).1++(Bn.mergeN m (by2 1 a) (by2 0 b)).1++fst.zip snd,yO fst snd):=by rw[← hF,← hS];rfl
   refine k c l7 l8 ps _ (s9.trans sc) hn7 (zP hc _) (sc _ _ h7) ?_ ?_
   ·rw[eN]
    rw[List.take_of_length_le (by rw[zc,List.length_zip];lia)]at pr7
    exact pr7.tups (Tups.of sc)
   ·rw[eN]
    rw[List.take_of_length_le (by rw[zc];exact Nat.le_refl _),List.take_of_length_le (by rw[zc];lia)]at h8
    exact sc _ _ h8
theorem oS {f:Addr}{fd:FuncData}(F:Fun K "_law_merger" "_law_merger" rK f fd) (G:Mgs mg) (bS:Binds K fd ["_law_one","_law_other"] []) (mS:mg "_law_merger" = some (.ref f)):∀ n:Nat,FnOk P w K mg base CX0 (n+1) f fd ["_law_one","_law_other"] (vp n)
 | 0=>rR F G bS mS 0 ⟨fun vs H Q E ⟨m,h,_⟩=>by lia,fun A outer s H args us vs Q E _ _ _ _ ⟨m,h,_⟩=>by lia⟩
 | m+1=>rR F G bS mS (m+1) ((oS F G bS mS m).imp fun vs H Q E ⟨m',h,q⟩=>by cases h;exact q)
abbrev xa:Sp:=fun vs H Q E=>∃ m,m≤4∧vp m vs H Q E
theorem nh {f:Addr}{fd:FuncData}(F:Fun K "_law_merger" "_law_merger" rK f fd) (G:Mgs mg) (bS:Binds K fd ["_law_one","_law_other"] []) (mS:mg "_law_merger" = some (.ref f)):FnOk P w K mg base CX0 5 f fd ["_law_one","_law_other"] xa :=
 FnOk.any 4 fun m hm=>(oS F G bS mS m).mono (by lia)
end
abbrev lZ:Stmt:=top 32
structure Few (l f:Nat) (N:Nt):Prop where
 ok:N.Ok
 ln:N.lanes≤l
 fk:N.forks.length≤f
def qY:Sp:=fun vs H Q _=>∃ l:Addr,vs=[.ref l]∧Pk3 H l∧∀ r fr er ps N H',Few 6 8 N→NetAt H' r fr er ps N→Pk3 H' l→But l H H'→Q (.ref r) H'
def FkOk (H:Hp) (lanes:Nat) (x:V):Prop:=∃ a g,x=.ref a∧H a=some (.tup [.int ((g:Nat × Nat).1:Nat),.int ((g.2:Nat))])∧g.1<lanes∧g.2<lanes∧g.1≠g.2
theorem FkOk.tups {H H':Hp}(t:Tups H H') {lanes:Nat}{x:V}(h:FkOk H lanes x):FkOk H' lanes x:=by
 obtain⟨a,g,e,h1,h2⟩:=h
 exact⟨a,g,e,t _ _ h1,h2⟩
section
variable {P:Program}{w:World}{K:PySem.W.Frag}{mg:Str→Option Value}{base:Heap}
theorem qe:FnScope ["_law_left_here","_law_lanes","_law_forks","_law_k","_law_a","_law_b","_law_ends_here"] ["_law_left_here"] (zM lZ):=⟨rfl,rfl,rfl,by decide +kernel,rfl,by decide +kernel,by decide +kernel⟩
theorem jy {f fK fX:Addr}{fd dK dX:FuncData}(F:Fun K "_law_any" "_law_any" lZ f fd) (G:Mgs mg) (UK:Use P w K mg base "_law_pick" ["_law_left_here","_law_many"] 1 yo fK dK) (UX:Use P w K mg base "_law_mixed" ["_law_left_here","_law_row"] 2 wb fX dX):FnOk P w K mg base CX0 3 f fd ["_law_left_here"] qY:=by
 refine F.ok qe (fun vs H Q E h=>?_) (fun cdv A outer s H vs Q E hr h=>?_)
 ·obtain⟨l,rfl,_⟩:=h
  rfl
 obtain⟨l,rfl,S,k⟩:=h
 have hr1:Room 1 _:=hr.mono (by decide)
 refine⟨_,(@zF _ _ _ _ _ (@zi _ _ 1 _ _ _ _ qe.nd rfl (.inl rfl) (@zY _ _ _ _ _ _ _ zd (@zq _ _ _ _ (@zA _ _ _ _ _ zE (@zA _ _ _ _ _ zE (@zA _ _ _ _ _ zE (@zA _ _ _ _ _ zE (@zA _ _ _ _ _ zE (@zA _ _ _ _ _ zE (@zA _ _ _ _ _ zE (@zA _ _ _ _ _ zE zB (by rfl)) (by rfl)) (by rfl)) (by rfl)) (by rfl)) (by rfl)) (by rfl)) (by rfl))) (@zJ _ _ _ _ _ _ _ _ _ _ _ _ _ _ _ _ UK.ok hr1 (by rfl) UK.m UK.kp UK.b .nil zS (@zA _ _ _ _ _ (@pv _ 0 _ _ (by rfl) (by first|exact Or.inl rfl|exact Or.inr (.inl rfl)|exact Or.inr (.inr rfl)) (by decide) (by decide)) (@zA _ _ _ _ _ zE zB (by rfl)) (by rfl)) (by decide) (by rfl) (by rfl)) (fun _ _=>rfl)) (by rfl) (by first|exact .inl rfl|exact .inr rfl|assumption)) (@zF _ _ _ _ _ (@zi _ _ 2 _ _ _ _ qe.nd rfl (.inl rfl) (@zq _ _ _ _ zB) (by rfl) (by first|exact .inl rfl|exact .inr rfl|assumption)) (@zF _ _ _ _ _ (@yn _ _ _ _ _ _ _ _ PassesOwn.never rfl (@yb _ _ _ _ _ _ rfl G.range (@zA _ _ _ _ _ (@zR _ _ _ _ _ _ _ _ xJ (@zY _ _ _ _ _ _ _ zd (@zq _ _ _ _ (@zA _ _ _ _ _ zE (@zA _ _ _ _ _ zE (@zA _ _ _ _ _ zE (@zA _ _ _ _ _ zE (@zA _ _ _ _ _ zE (@zA _ _ _ _ _ zE (@zA _ _ _ _ _ zE (@zA _ _ _ _ _ zE zB (by rfl)) (by rfl)) (by rfl)) (by rfl)) (by rfl)) (by rfl)) (by rfl)) (by rfl))) (@zJ _ _ _ _ _ _ _ _ _ _ _ _ _ _ _ _ UK.ok hr1 (by rfl) UK.m UK.kp UK.b .nil zS (@zA _ _ _ _ _ (@pv _ 0 _ _ (by rfl) (by first|exact Or.inl rfl|exact Or.inr (.inl rfl)|exact Or.inr (.inr rfl)) (by decide) (by decide)) (@zA _ _ _ _ _ zE zB (by rfl)) (by rfl)) (by decide) (by rfl) (by rfl)) (fun _ _=>rfl)) (@zV _ _ _ _ _ _ _ _ _ wF (by rfl) G.int (by rfl) (@zA _ _ _ _ _ (@y8 _ _ _ _ _ _ _ _ oP (@pv _ 1 _ _ (by rfl) (by first|exact Or.inl rfl|exact Or.inr (.inl rfl)|exact Or.inr (.inr rfl)) (by decide) (by decide)) zE (zp _)) zB (by rfl)) (by decide) (by decide) (by rfl) (by rfl))) zB (by rfl)) (by rfl)) (@zL _ _ 3 _ qe.nd rfl (.inl rfl) (by first|exact .inl rfl|exact .inr rfl|assumption)) (@zF _ _ _ _ _ (@zi _ _ 4 _ _ _ _ qe.nd rfl (.inl rfl) (@zJ _ _ _ _ _ _ _ _ _ _ _ _ _ _ _ _ UK.ok hr1 (by rfl) UK.m UK.kp UK.b .nil zS (@zA _ _ _ _ _ (@pv _ 0 _ _ (by rfl) (by first|exact Or.inl rfl|exact Or.inr (.inl rfl)|exact Or.inr (.inr rfl)) (by decide) (by decide)) (@zA _ _ _ _ _ (@pv _ 1 _ _ (by rfl) (by first|exact Or.inl rfl|exact Or.inr (.inl rfl)|exact Or.inr (.inr rfl)) (by decide) (by decide)) zB (by rfl)) (by rfl)) (by decide) (by rfl) (by rfl)) (by rfl) (by first|exact .inl rfl|exact .inr rfl|assumption)) (@zF _ _ _ _ _ (@zi _ _ 5 _ _ _ _ qe.nd rfl (.inl rfl) (@zR _ _ _ _ _ _ _ _ xK (@zR _ _ _ _ _ _ _ _ yJ (@zR _ _ _ _ _ _ _ _ yJ (@pv _ 4 _ _ (by rfl) (by first|exact Or.inl rfl|exact Or.inr (.inl rfl)|exact Or.inr (.inr rfl)) (by decide) (by decide)) zE) (@zJ _ _ _ _ _ _ _ _ _ _ _ _ _ _ _ _ UK.ok hr1 (by rfl) UK.m UK.kp UK.b .nil zS (@zA _ _ _ _ _ (@pv _ 0 _ _ (by rfl) (by first|exact Or.inl rfl|exact Or.inr (.inl rfl)|exact Or.inr (.inr rfl)) (by decide) (by decide)) (@zA _ _ _ _ _ (@zR _ _ _ _ _ _ _ _ yz (@pv _ 1 _ _ (by rfl) (by first|exact Or.inl rfl|exact Or.inr (.inl rfl)|exact Or.inr (.inr rfl)) (by decide) (by decide)) zE) zB (by rfl)) (by rfl)) (by decide) (by rfl) (by rfl))) (@pv _ 1 _ _ (by rfl) (by first|exact Or.inl rfl|exact Or.inr (.inl rfl)|exact Or.inr (.inr rfl)) (by decide) (by decide))) (by rfl) (by first|exact .inl rfl|exact .inr rfl|assumption)) (@zK _ _ _ (@xH _ _ _ _ (@wn _ _ _ _ _ _ _ _ _ _ _ _ PySem.F.plainAttrs_list PySem.F.slot_list_append PySem.F.type_list_append yc (@pv _ 2 _ _ (by rfl) (by first|exact Or.inl rfl|exact Or.inr (.inl rfl)|exact Or.inr (.inr rfl)) (by decide) (by decide)) (@zA _ _ _ _ _ (@zY _ _ _ _ _ _ _ zd (@zq _ _ _ _ (@zA _ _ _ _ _ (@zX _ _ _ _ _ (@zA _ _ _ _ _ (@pv _ 4 _ _ (by rfl) (by first|exact Or.inl rfl|exact Or.inr (.inl rfl)|exact Or.inr (.inr rfl)) (by decide) (by decide)) (@zA _ _ _ _ _ (@pv _ 5 _ _ (by rfl) (by first|exact Or.inl rfl|exact Or.inr (.inl rfl)|exact Or.inr (.inr rfl)) (by decide) (by decide)) zB (by rfl)) (by rfl))) (@zA _ _ _ _ _ (@zX _ _ _ _ _ (@zA _ _ _ _ _ (@pv _ 4 _ _ (by rfl) (by first|exact Or.inl rfl|exact Or.inr (.inl rfl)|exact Or.inr (.inr rfl)) (by decide) (by decide)) (@zA _ _ _ _ _ (@pv _ 5 _ _ (by rfl) (by first|exact Or.inl rfl|exact Or.inr (.inl rfl)|exact Or.inr (.inr rfl)) (by decide) (by decide)) zB (by rfl)) (by rfl))) (@zA _ _ _ _ _ (@zY _ _ _ _ _ _ _ zd (@zR _ _ _ _ _ _ _ _ xg (@pv _ 2 _ _ (by rfl) (by first|exact Or.inl rfl|exact Or.inr (.inl rfl)|exact Or.inr (.inr rfl)) (by decide) (by decide)) (@zq _ _ _ _ (@zA _ _ _ _ _ (@zX _ _ _ _ _ (@zA _ _ _ _ _ (@pv _ 4 _ _ (by rfl) (by first|exact Or.inl rfl|exact Or.inr (.inl rfl)|exact Or.inr (.inr rfl)) (by decide) (by decide)) (@zA _ _ _ _ _ (@pv _ 5 _ _ (by rfl) (by first|exact Or.inl rfl|exact Or.inr (.inl rfl)|exact Or.inr (.inr rfl)) (by decide) (by decide)) zB (by rfl)) (by rfl))) zB (by rfl)))) zE (fun _ _=>rfl)) zB (by rfl)) (by rfl)) (by rfl))) (@zJ _ _ _ _ _ _ _ _ _ _ _ _ _ _ _ _ UK.ok hr1 (by rfl) UK.m UK.kp UK.b .nil zS (@zA _ _ _ _ _ (@pv _ 0 _ _ (by rfl) (by first|exact Or.inl rfl|exact Or.inr (.inl rfl)|exact Or.inr (.inr rfl)) (by decide) (by decide)) (@zA _ _ _ _ _ zE zB (by rfl)) (by rfl)) (by decide) (by rfl) (by rfl)) (fun _ _=>rfl)) zB (by rfl)) (by rfl) (by rfl) (by rfl) (by rfl) (by rfl)) (by rfl))))) (by intro _;rfl)) (@zF _ _ _ _ _ (@zi _ _ 6 _ _ _ _ qe.nd rfl (.inl rfl) (@zY _ _ _ _ _ _ _ zd (@zq _ _ _ _ (@zA _ _ _ _ _ (@vA _ _ _ _ _ _ _ rfl (by rfl) G.tuple (by rfl) G.range (@zA _ _ _ _ _ (@pv _ 1 _ _ (by rfl) (by first|exact Or.inl rfl|exact Or.inr (.inl rfl)|exact Or.inr (.inr rfl)) (by decide) (by decide)) zB (by rfl)) (by rfl) (by rfl)) (@zA _ _ _ _ _ (@zJ _ _ _ _ _ _ _ _ _ _ _ _ _ _ _ _ UX.ok hr (by rfl) UX.m UX.kp UX.b .nil zS (@zA _ _ _ _ _ (@pv _ 0 _ _ (by rfl) (by first|exact Or.inl rfl|exact Or.inr (.inl rfl)|exact Or.inr (.inr rfl)) (by decide) (by decide)) (@zA _ _ _ _ _ (@x6 _ _ _ _ _ _ _ rfl (by rfl) G.list (by rfl) G.range (@zA _ _ _ _ _ (@pv _ 1 _ _ (by rfl) (by first|exact Or.inl rfl|exact Or.inr (.inl rfl)|exact Or.inr (.inr rfl)) (by decide) (by decide)) zB (by rfl)) (by rfl) (by rfl)) zB (by rfl)) (by rfl)) (by decide) (by rfl) (by rfl)) zB (by rfl)) (by rfl))) (@zJ _ _ _ _ _ _ _ _ _ _ _ _ _ _ _ _ UK.ok hr1 (by rfl) UK.m UK.kp UK.b .nil zS (@zA _ _ _ _ _ (@pv _ 0 _ _ (by rfl) (by first|exact Or.inl rfl|exact Or.inr (.inl rfl)|exact Or.inr (.inr rfl)) (by decide) (by decide)) (@zA _ _ _ _ _ zE zB (by rfl)) (by rfl)) (by decide) (by rfl) (by rfl)) (fun _ _=>rfl)) (by rfl) (by first|exact .inl rfl|exact .inr rfl|assumption)) (@zK _ _ _ (@zU _ _ _ _ (@zX _ _ _ _ _ (@zA _ _ _ _ _ (@pv _ 1 _ _ (by rfl) (by first|exact Or.inl rfl|exact Or.inr (.inl rfl)|exact Or.inr (.inr rfl)) (by decide) (by decide)) (@zA _ _ _ _ _ (@zV _ _ _ _ _ _ _ _ _ zZ (by rfl) G.tuple (by rfl) (@zA _ _ _ _ _ (@pv _ 2 _ _ (by rfl) (by first|exact Or.inl rfl|exact Or.inr (.inl rfl)|exact Or.inr (.inr rfl)) (by decide) (by decide)) zB (by rfl)) (by decide) (by decide) (by rfl) (by rfl)) (@zA _ _ _ _ _ (@pv _ 6 _ _ (by rfl) (by first|exact Or.inl rfl|exact Or.inr (.inl rfl)|exact Or.inr (.inr rfl)) (by decide) (by decide)) zB (by rfl)) (by rfl)) (by rfl))))))))),?_⟩
 refine⟨(by show 8≤sizeLine;decide),fun t ht=>⟨_,rfl,l,8,rfl,by decide,by decide,S.keep (zC ht _),fun v H1 hv S1 B1=>?_⟩⟩
 obtain⟨lanes,lm,la⟩:=x5 (xs:=[1,2,2,3,4,3,4,6]) (v:=v) (by show v<8;lia)
 have lb:1≤lanes∧lanes≤6:=(show ∀ n∈[1,2,2,3,4,3,4,6],1≤n∧n≤6 by decide) lanes lm
 obtain⟨l1,l6⟩:=lb
 refine⟨t,_,_,_,rfl,rfl,SqL.of (B1 t _ (zP ht _) (S.ne ht).symm),la,?_⟩
 have B1':But l H H1:=(But.of (zC ht _)).trans B1
 clear ht B1 la lm
 refine⟨(by show 0≤sizeLine;decide),fun lf hlf=>?_⟩
 have nlf:=S1.ne hlf
 have sf:=zC hlf (.lst [])
 have flf:Frs l H lf:=B1'.frs hlf
 refine⟨(by show 8≤sizeLine;decide),fun t ht=>⟨_,rfl,l,8,rfl,by decide,by decide,(S1.keep sf).keep (zC ht _),fun v2 H2 hv2 S2 B2=>?_⟩⟩
 obtain⟨many,mm,ma⟩:=x5 (xs:=[0,1,2,3,4,5,6,8]) (v:=v2) (by show v2<8;lia)
 have mb:many≤8:=(show ∀ n∈[0,1,2,3,4,5,6,8],n≤8 by decide) many mm
 refine⟨t,_,_,_,rfl,rfl,SqL.of (B2 t _ (zP ht _) ((S1.keep sf).ne ht).symm),ma,?_⟩
 have hf2:=B2 lf _ (zC ht _ _ _ (zP hlf (.lst []))) nlf.symm
 have B2':But l H H2:=((B1'.trans (But.of sf)).trans (But.of (zC ht _))).trans B2
 clear ht B2 ma mm hlf sf
 refine⟨_,rfl,_,_,rfl,rfl,.inr ⟨_,rfl,_,_,rfl,rfl,.inl ⟨by lia,by lia⟩,?_⟩⟩
 have cb:((many:Int)*(if decide ((1:Int)<lanes)=true then 1 else 0))=((if 1<lanes then many else 0:Nat):Int):=by
  by_cases z:1<lanes
  ·rw[if_pos (decide_eq_true (by lia)),if_pos z];lia
  ·rw[if_neg (by rw[decide_eq_false (by lia)];exact Bool.false_ne_true),if_neg z];lia
 have cl:(if 1<lanes then many else 0)≤8:=by split<;>lia
 refine⟨_,rfl,by rw[cb];lia,by rw[cb];lia,?_⟩
 rw[cb]
 generalize hcnt:(if 1<lanes then many else 0)=cnt at cl
 refine wC (lo:=0) (n:=((cnt:Nat):Int).toNat) (fun i σ H2=>(∃ w3 w4 w5 w6,σ=[some (.ref l),some (.int (lanes:Nat)),some (.ref lf),w3,w4,w5,w6])∧Pk3 H2 l∧But l H H2∧∃ ps fs,H2 lf=some (.lst ps)∧Prs H2 ps fs∧fs.length=i∧∀ f∈fs,f.1<lanes∧f.2<lanes∧f.1≠f.2)
  ⟨⟨_,_,_,_,rfl⟩,S2,B2',[],[],hf2,trivial,rfl,fun f hf=>by simp at hf⟩ ?_ ?_
 ·rintro i σ H2 hi ⟨⟨w3,w4,w5,w6,rfl⟩,S2,B2,ps,fs,h2,p2,fl,fok⟩
  have l2:1<lanes:=by
   by_cases z:1<lanes
   ·exact z
   ·rw[if_neg z]at hcnt;lia
  refine⟨_,rfl,_,rfl,l,lanes,rfl,by lia,by lia,S2,fun one H3 ho S3 B3=>?_⟩
  refine⟨_,rfl,_,_,rfl,rfl,_,rfl,_,rfl,_,_,rfl,rfl,l,_,rfl,by lia,by lia,S3,fun d H4 hd S4 B4=>?_⟩
  refine⟨_,_,rfl,rfl,_,rfl,_,_,rfl,rfl,by lia,?_⟩
  have hone:one<lanes:=by lia
  obtain⟨ok1,ok2⟩:=rO (one:=one) (d:=d) (lanes:=lanes) hone (by lia)
  have ec:((one:Int)+1+d)%lanes=(((one+1+d)%lanes:Nat):Int):=by rw[Int.natCast_emod,Int.natCast_add,Int.natCast_add];rfl
  dsimp only
  rw[ec]
  generalize (one+1+d)%lanes=oth at ok1 ok2
  have h4:=B4 lf _ (B3 lf _ h2 nlf.symm) nlf.symm
  have p4:=p2.tups ((B3.tups3 S2).trans (B4.tups3 S3))
  have B4':But l H H4:=(B2.trans B3).trans B4
  have pl:=p4.len
  refine⟨_,rfl,.inl ⟨rfl,_,SqL.of h4⟩,_,rfl,_,rfl,(by show 2≤sizeLine;decide),fun t1 ht1=>⟨_,rfl,_,rfl,(by show 2≤sizeLine;decide),fun t2 ht2=>?_⟩⟩
  have s1:=zC ht1 (.tup [.int (one:Nat),.int (oth:Nat)])
  have s2:=zC ht2 (.tup [.int (one:Nat),.int (oth:Nat)])
  have u2:=s1.trans s2
  refine⟨_,rfl,_,rfl,_,rfl,(by show 2≤sizeLine;decide),fun t3 ht3=>⟨(by show 1≤sizeLine;decide),fun l3 hl3=>?_⟩⟩
  have s3:=zC ht3 (.tup [.int (one:Nat),.int (oth:Nat)])
  have s4:=zC hl3 (.lst [.ref t3])
  have u4:=(u2.trans s3).trans s4
  refine⟨lf,l3,_,_,rfl,rfl,u4 _ _ h4,zP hl3 _,by rw[sizeLine_eq];show ps.length+1≤_;lia,fun l4 hl4=>?_⟩
  have s5:=zC hl4 (.lst (ps++[.ref t3]))
  have u5:=u4.trans s5
  have k1:FkOk _ lanes (.ref t1):=⟨t1,(one,oth),rfl,s5 _ _ (s4 _ _ (s3 _ _ (s2 _ _ (zP ht1 _)))),hone,ok1,ok2⟩
  have k2:FkOk _ lanes (.ref t2):=⟨t2,(one,oth),rfl,s5 _ _ (s4 _ _ (s3 _ _ (zP ht2 _))),hone,ok1,ok2⟩
  obtain⟨x0,e0,k0⟩:∃ x0,(ps++[V.ref t3])[0]?=some x0∧FkOk (L2.upd (L2.upd (L2.upd (L2.upd (L2.upd H4 t1 (.tup [.int (one:Nat),.int (oth:Nat)])) t2 (.tup [.int (one:Nat),.int (oth:Nat)])) t3 (.tup [.int (one:Nat),.int (oth:Nat)])) l3 (.lst [.ref t3])) l4 (.lst (ps++[.ref t3]))) lanes x0:=by
   cases ps with
   | nil=>exact⟨_,rfl,t3,(one,oth),rfl,s5 _ _ (s4 _ _ (zP ht3 _)),hone,ok1,ok2⟩
   | cons p ps =>
    obtain⟨a,g,e,eg,ha⟩:=p4.get (i:=0) (p:=p) rfl
    exact⟨p,rfl,a,g,e,u5 _ _ ha,fok g (List.mem_of_getElem? eg)⟩
  have h5:=u5 _ _ h4
  have p5:=p4.tups (Tups.of u5)
  have S5:=S4.keep u5
  have B5:=B4'.trans (But.of (l:=l) u5)
  refine⟨l4,_,0,x0,rfl,rfl,SqL.of (zP hl4 _),yD (j:=0) e0,?_⟩
  generalize L2.upd (L2.upd (L2.upd (L2.upd (L2.upd H4 t1 (.tup [.int (one:Nat),.int (oth:Nat)])) t2 (.tup [.int (one:Nat),.int (oth:Nat)])) t3 (.tup [.int (one:Nat),.int (oth:Nat)])) l3 (.lst [.ref t3])) l4 (.lst (ps++[.ref t3]))=H5 at *
  refine⟨(by show 3≤sizeLine;decide),fun l5 hl5=>⟨_,rfl,l,3,rfl,by decide,by decide,S5.keep (zC hl5 _),fun v3 H6 hv3 S6 B6=>?_⟩⟩
  have s6:=zC hl5 (.lst [.ref t1,.ref t2,x0])
  have v33:v3<3:=by lia
  have t6:=(Tups.of s6).trans (B6.tups3 (S5.keep s6))
  obtain⟨x,ex,kx⟩:∃ x,[V.ref t1,V.ref t2,x0][v3]?=some x∧FkOk H6 lanes x:=by
   rcases v3 with _|_|_|v3
   ·exact⟨_,rfl,k1.tups t6⟩
   ·exact⟨_,rfl,k2.tups t6⟩
   ·exact⟨_,rfl,k0.tups t6⟩
   ·lia
  refine⟨l5,_,_,x,rfl,rfl,SqL.of (B6 l5 _ (zP hl5 _) (S5.ne hl5).symm),yD ex,?_⟩
  have h6:=B6 lf _ (s6 _ _ h5) nlf.symm
  have p6:=p5.tups t6
  obtain⟨a,g,rfl,ha,gk⟩:=kx
  refine⟨lf,ps,_,rfl,rfl,h6,by rw[sizeLine_eq];lia,⟨_,_,_,_,rfl⟩,S6.upd nlf,((B5.trans (But.of s6)).trans B6).upd flf,ps++[.ref a],fs++[g],zD,Prs.add (f:=g) (Tups.lst h6 _ _ ha) (p6.tups (Tups.lst h6)),by rw[List.length_append,fl];rfl,fun f hf=>?_⟩
  rcases List.mem_append.mp hf with z|z
  ·exact fok f z
  ·rw[List.mem_singleton.mp z];exact gk
 ·rintro σ H2 ⟨⟨w3,w4,w5,w6,rfl⟩,S2,B2,ps,fs,h2,p2,fl,fok⟩
  have fl8:fs.length≤8:=by rw[fl];lia
  refine⟨_,rfl,lanes,rfl,by lia,fun t1 ht1=>?_⟩
  have s1:=zC ht1 (.tup (zT (List.range lanes)))
  refine⟨_,rfl,_,rfl,lanes,rfl,by lia,fun l2 hl2=>?_⟩
  have s2:=zC hl2 (.lst (zT (List.range lanes)))
  have u2:=s1.trans s2
  refine⟨l,l2,zT (List.range lanes),rfl,zP hl2 _,by rw[zc,List.length_range];lia,S2.keep u2,fun t3 ys H3 py ht3 S3 B3=>?_⟩
  have ht1':=B3 t1 _ (s2 _ _ (zP ht1 _)) (S2.ne ht1).symm
  have h3:=B3 lf _ (u2 _ _ h2) nlf.symm
  have p3:=p2.tups ((Tups.of u2).trans (B3.tups3 (S2.keep u2)))
  have B3':=(B2.trans (But.of u2)).trans B3
  refine⟨(by show 2≤sizeLine;decide),fun l5 hl5=>⟨_,rfl,l,2,rfl,by decide,by decide,S3.keep (zC hl5 _),fun v3 H6 hv3 S6 B6=>?_⟩⟩
  have s6:=zC hl5 (.lst [.ref t1,.ref t3])
  have t6:=(Tups.of s6).trans (B6.tups3 (S3.keep s6))
  obtain⟨x,ex,e,kx,pe⟩:∃ x,[V.ref t1,V.ref t3][v3]?=some (.ref x)∧∃ es:List Nat,H6 x=some (.tup (zT es))∧es.Perm (List.range lanes):=by
   rcases v3 with _|_|v3
   ·exact⟨_,rfl,_,t6 _ _ ht1',.refl _⟩
   ·obtain⟨es,rfl,pe⟩:=uu py
    exact⟨_,rfl,es,t6 _ _ ht3,pe⟩
   ·lia
  refine⟨l5,_,_,.ref x,rfl,rfl,SqL.of (B6 l5 _ (zP hl5 _) (S3.ne hl5).symm),yD ex,?_⟩
  have h6:=B6 lf _ (s6 _ _ h3) nlf.symm
  have p6:=p3.tups t6
  refine⟨_,rfl,_,rfl,lf,_,rfl,.inl ⟨SqL.of h6,fun a ha=>?_⟩⟩
  have s7:=zC ha (.tup ps)
  refine⟨_,rfl,(by show 3≤sizeLine;decide),fun r hr'=>?_⟩
  have s8:=zC hr' (.tup [.int (lanes:Nat),.ref a,.ref x])
  refine k r a x ps ⟨lanes,fs,e⟩ _ ⟨⟨l1,by show lanes≤16;lia,by show fs.length≤128;lia,fok,pe⟩,l6,fl8⟩ ⟨zP hr' _,s8 _ _ (zP ha _),p6.tups (Tups.of (s7.trans s8)),s8 _ _ (s7 _ _ kx)⟩ ((S6.keep s7).keep s8) ((B3'.trans (But.of s6)).trans (B6.trans (But.of (s7.trans s8))))
end
abbrev gD:Stmt:=top 33
def lN:Sp:=fun vs H Q _=>∃ l r fr er ps N lb fb,vs=[.ref l,.ref r]∧Pk3 H l∧Few lb fb N∧fb≤100∧NetAt H r fr er ps N∧∀ r' fr' er' ps' N' H',Few lb (fb+1) N'→N'.lanes=N.lanes→NetAt H' r' fr' er' ps' N'→Pk3 H' l→But l H H'→Q (.ref r') H'
theorem ie (xs:List V) (i j:Nat):xO xs (some (i:Int)) (some (j:Int))=(xs.drop i).take (j-i):=by
 unfold xO
 rw[HT.sIx_nat,HT.sIx_nat]
 by_cases c:i≤xs.length
 ·rw[Nat.min_eq_left c]
  by_cases d:j≤xs.length
  ·rw[Nat.min_eq_left d]
  ·rw[Nat.min_eq_right (by lia),List.take_of_length_le (by rw[List.length_drop];lia),List.take_of_length_le (by rw[List.length_drop];lia)]
 ·rw[List.drop_of_length_le (show xs.length≤i by lia),List.drop_of_length_le (by lia),List.take_nil,List.take_nil]
theorem oz (xs:List V) (i:Nat):xO xs (some (i:Int)) none=xs.drop i:=by
 unfold xO
 rw[HT.sIx_none,HT.sIx_nat]
 by_cases c:i≤xs.length
 ·rw[Nat.min_eq_left c]
  exact List.take_of_length_le (by rw[List.length_drop];exact Nat.le_refl _)
 ·rw[List.drop_of_length_le (show xs.length≤i by lia),List.drop_of_length_le (by lia),List.take_nil]
theorem oy (xs:List V) (i:Nat):xO xs none (some (i:Int))=xs.take i:=by
 unfold xO
 rw[HT.sIx_none,HT.sIx_nat,List.drop_zero,Nat.sub_zero]
 by_cases c:i≤xs.length
 ·rw[Nat.min_eq_left c]
 ·rw[List.take_of_length_le (by lia),List.take_of_length_le (by lia)]
theorem wj {H:Hp}:∀ {ps:List V}{fs:List (Nat × Nat)}(n:Nat),Prs H ps fs→Prs H (ps.take n) (fs.take n)
 | [],[],n,_=>by rw[List.take_nil,List.take_nil];trivial
 | _::_,_::_,0,_=>trivial
 | _::_,_::_,n+1,⟨x,r⟩=>⟨x,wj n r⟩
theorem xF {H:Hp}:∀ {ps:List V}{fs:List (Nat × Nat)}(n:Nat),Prs H ps fs→Prs H (ps.drop n) (fs.drop n)
 | [],[],n,_=>by rw[List.drop_nil,List.drop_nil];trivial
 | _::_,_::_,0,h=>h
 | _::_,_::_,n+1,⟨_,r⟩=>xF n r
def FksOk (lanes:Nat) (gs:List (Nat × Nat)):Prop:=∀ f∈gs,f.1<lanes∧f.2<lanes∧f.1≠f.2
theorem FksOk.app {lanes:Nat}{a b:List (Nat × Nat)}(x:FksOk lanes a) (y:FksOk lanes b):FksOk lanes (a++b):=fun f hf=>(List.mem_append.mp hf).elim (x f) (y f)
theorem FksOk.take {lanes:Nat}{a:List (Nat × Nat)}(x:FksOk lanes a) (n:Nat):FksOk lanes (a.take n):=fun f hf=>x f (List.mem_of_mem_take hf)
theorem FksOk.drop {lanes:Nat}{a:List (Nat × Nat)}(x:FksOk lanes a) (n:Nat):FksOk lanes (a.drop n):=fun f hf=>x f (List.mem_of_mem_drop hf)
section
variable {P:Program}{w:World}{K:PySem.W.Frag}{mg:Str→Option Value}{base:Heap}
theorem qd:FnScope ["_law_left_here","_law_net_here","_law_lanes","_law_forks","_law_ends_here","_law_way","_law_at","_law_k","_law_here","_law_row"] ["_law_left_here","_law_net_here"] (zM gD):=⟨rfl,rfl,rfl,by decide +kernel,rfl,by decide +kernel,by decide +kernel⟩
theorem gT {f fK:Addr}{fd dK:FuncData}(F:Fun K "_law_changed" "_law_changed" gD f fd) (G:Mgs mg) (UK:Use P w K mg base "_law_pick" ["_law_left_here","_law_many"] 1 yo fK dK):FnOk P w K mg base CX0 2 f fd ["_law_left_here","_law_net_here"] lN:=by
 refine F.ok qd (fun vs H Q E h=>?_) (fun cdv A outer s H vs Q E hr h=>?_)
 ·obtain⟨l,r,fr,er,ps,N,lb,fb,rfl,_⟩:=h
  rfl
 obtain⟨l,r,fr,er,ps,N,lb,fb,rfl,S,few,fb1,na,k⟩:=h
 refine⟨_,(@zF _ _ _ _ _ (@yG _ _ _ _ _ _ (@pv _ 1 _ _ (by rfl) (by first|exact Or.inl rfl|exact Or.inr (.inl rfl)|exact Or.inr (.inr rfl)) (by decide) (by decide)) (@yE _ _ _ _ _ _ rfl (@zN _ _ _ _ _ (@zL _ _ 2 _ qd.nd rfl (.inl rfl) (by first|exact .inl rfl|exact .inr rfl|assumption)) (@zN _ _ _ _ _ (@zL _ _ 3 _ qd.nd rfl (.inl rfl) (by first|exact .inl rfl|exact .inr rfl|assumption)) (@zN _ _ _ _ _ (@zL _ _ 4 _ qd.nd rfl (.inl rfl) (by first|exact .inl rfl|exact .inr rfl|assumption)) zt (by rfl)) (by rfl)) (by rfl)) (by rfl) (by rfl)) (by rfl) (by rfl) (by rfl)) (@zF _ _ _ _ _ (jg (i:=5) (j:=6) (k:=7) rfl qd.nd rfl rfl rfl (by decide) (by decide) (by decide) rfl rfl rfl (@zA _ _ _ _ _ (@zJ _ _ _ _ _ _ _ _ _ _ _ _ _ _ _ _ UK.ok hr (by rfl) UK.m UK.kp UK.b .nil zS (@zA _ _ _ _ _ (@pv _ 0 _ _ (by rfl) (by first|exact Or.inl rfl|exact Or.inr (.inl rfl)|exact Or.inr (.inr rfl)) (by decide) (by decide)) (@zA _ _ _ _ _ zE zB (by rfl)) (by rfl)) (by decide) (by rfl) (by rfl)) (@zA _ _ _ _ _ (@zJ _ _ _ _ _ _ _ _ _ _ _ _ _ _ _ _ UK.ok hr (by rfl) UK.m UK.kp UK.b .nil zS (@zA _ _ _ _ _ (@pv _ 0 _ _ (by rfl) (by first|exact Or.inl rfl|exact Or.inr (.inl rfl)|exact Or.inr (.inr rfl)) (by decide) (by decide)) (@zA _ _ _ _ _ (@zR _ _ _ _ _ _ _ _ yJ (@zQ _ _ _ _ _ _ _ _ _ zW (by rfl) G.len PySem.boot_len (@zA _ _ _ _ _ (@pv _ 3 _ _ (by rfl) (by first|exact Or.inl rfl|exact Or.inr (.inl rfl)|exact Or.inr (.inr rfl)) (by decide) (by decide)) zB (by rfl)) (by decide) (by decide) (by rfl) (by rfl)) zE) zB (by rfl)) (by rfl)) (by decide) (by rfl) (by rfl)) (@zA _ _ _ _ _ (@zJ _ _ _ _ _ _ _ _ _ _ _ _ _ _ _ _ UK.ok hr (by rfl) UK.m UK.kp UK.b .nil zS (@zA _ _ _ _ _ (@pv _ 0 _ _ (by rfl) (by first|exact Or.inl rfl|exact Or.inr (.inl rfl)|exact Or.inr (.inr rfl)) (by decide) (by decide)) (@zA _ _ _ _ _ (@pv _ 2 _ _ (by rfl) (by first|exact Or.inl rfl|exact Or.inr (.inl rfl)|exact Or.inr (.inr rfl)) (by decide) (by decide)) zB (by rfl)) (by rfl)) (by decide) (by rfl) (by rfl)) zB (by rfl)) (by rfl)) (by rfl)) (by rfl)) (@zF _ _ _ _ _ (@zi _ _ 8 _ _ _ _ qd.nd rfl (.inl rfl) (@zu _ _ _ _ _ _ _ _ _ _ yR (@pv _ 3 _ _ (by rfl) (by first|exact Or.inl rfl|exact Or.inr (.inl rfl)|exact Or.inr (.inr rfl)) (by decide) (by decide)) (@zo _ _ _ (@pv _ 6 _ _ (by rfl) (by first|exact Or.inl rfl|exact Or.inr (.inl rfl)|exact Or.inr (.inr rfl)) (by decide) (by decide))) (@zo _ _ _ (@zR _ _ _ _ _ _ _ _ yJ (@pv _ 6 _ _ (by rfl) (by first|exact Or.inl rfl|exact Or.inr (.inl rfl)|exact Or.inr (.inr rfl)) (by decide) (by decide)) zE))) (by rfl) (by first|exact .inl rfl|exact .inr rfl|assumption)) (@zF _ _ _ _ _ (@yM _ _ _ _ _ _ _ _ (@zj _ _ _ _ _ _ _ _ y0 (@pv _ 5 _ _ (by rfl) (by first|exact Or.inl rfl|exact Or.inr (.inl rfl)|exact Or.inr (.inr rfl)) (by decide) (by decide)) zE (zp _)) (@zK _ _ _ (@zU _ _ _ _ (@zX _ _ _ _ _ (@zA _ _ _ _ _ (@pv _ 2 _ _ (by rfl) (by first|exact Or.inl rfl|exact Or.inr (.inl rfl)|exact Or.inr (.inr rfl)) (by decide) (by decide)) (@zA _ _ _ _ _ (@zR _ _ _ _ _ _ _ _ yZ (@zR _ _ _ _ _ _ _ _ yZ (@zu _ _ _ _ _ _ _ _ _ _ yR (@pv _ 3 _ _ (by rfl) (by first|exact Or.inl rfl|exact Or.inr (.inl rfl)|exact Or.inr (.inr rfl)) (by decide) (by decide)) yC (@zo _ _ _ (@pv _ 6 _ _ (by rfl) (by first|exact Or.inl rfl|exact Or.inr (.inl rfl)|exact Or.inr (.inr rfl)) (by decide) (by decide)))) (@zV _ _ _ _ _ _ _ _ _ zZ (by rfl) G.tuple (by rfl) (@zA _ _ _ _ _ (@xN _ _ _ _ none _ _ _ (iH K 2 (uT (xp 0) (uT (xp 1) iI))) _ _ ["_law_a","_law_b"] [none,none] rfl (@yX _ _ _ _ (@pv _ 8 _ _ (by rfl) (by first|exact Or.inl rfl|exact Or.inr (.inl rfl)|exact Or.inr (.inr rfl)) (by decide) (by decide))) (CapOk.of (by kernel_rfl)) (fun _ _ _ _ _=>(@yE _ _ _ _ _ _ rfl (@zN _ _ _ _ _ (@zL _ _ 0 _ (show (["_law_a","_law_b"]:List Str).Nodup from by decide +kernel) rfl (.inl rfl) (.inr rfl)) (@zN _ _ _ _ _ (@zL _ _ 1 _ (show (["_law_a","_law_b"]:List Str).Nodup from by decide +kernel) rfl (.inl rfl) (.inr rfl)) zt (by rfl)) (by rfl)) (by rfl) (by rfl))) (fun _ _ _ _ _=>yN) (fun _ _ _ _ _=>(@zX _ _ _ _ _ (@zA _ _ _ _ _ (@pv _ 1 _ _ (by rfl) (by first|exact Or.inl rfl|exact Or.inr (.inl rfl)|exact Or.inr (.inr rfl)) (by decide) (by decide)) (@zA _ _ _ _ _ (@pv _ 0 _ _ (by rfl) (by first|exact Or.inl rfl|exact Or.inr (.inl rfl)|exact Or.inr (.inr rfl)) (by decide) (by decide)) zB (by rfl)) (by rfl)))) (by intro _;rfl)) zB (by rfl)) (by decide) (by decide) (by rfl) (by rfl))) (@zu _ _ _ _ _ _ _ _ _ _ yR (@pv _ 3 _ _ (by rfl) (by first|exact Or.inl rfl|exact Or.inr (.inl rfl)|exact Or.inr (.inr rfl)) (by decide) (by decide)) (@zo _ _ _ (@zR _ _ _ _ _ _ _ _ yJ (@pv _ 6 _ _ (by rfl) (by first|exact Or.inl rfl|exact Or.inr (.inl rfl)|exact Or.inr (.inr rfl)) (by decide) (by decide)) zE)) yC)) (@zA _ _ _ _ _ (@pv _ 4 _ _ (by rfl) (by first|exact Or.inl rfl|exact Or.inr (.inl rfl)|exact Or.inr (.inr rfl)) (by decide) (by decide)) zB (by rfl)) (by rfl)) (by rfl))))) zk) (@zF _ _ _ _ _ (@yM _ _ _ _ _ _ _ _ (@zj _ _ _ _ _ _ _ _ y0 (@pv _ 5 _ _ (by rfl) (by first|exact Or.inl rfl|exact Or.inr (.inl rfl)|exact Or.inr (.inr rfl)) (by decide) (by decide)) zE (zp _)) (@zK _ _ _ (@zU _ _ _ _ (@zX _ _ _ _ _ (@zA _ _ _ _ _ (@pv _ 2 _ _ (by rfl) (by first|exact Or.inl rfl|exact Or.inr (.inl rfl)|exact Or.inr (.inr rfl)) (by decide) (by decide)) (@zA _ _ _ _ _ (@zR _ _ _ _ _ _ _ _ yZ (@zu _ _ _ _ _ _ _ _ _ _ yR (@pv _ 3 _ _ (by rfl) (by first|exact Or.inl rfl|exact Or.inr (.inl rfl)|exact Or.inr (.inr rfl)) (by decide) (by decide)) yC (@zo _ _ _ (@pv _ 6 _ _ (by rfl) (by first|exact Or.inl rfl|exact Or.inr (.inl rfl)|exact Or.inr (.inr rfl)) (by decide) (by decide)))) (@zu _ _ _ _ _ _ _ _ _ _ yR (@pv _ 3 _ _ (by rfl) (by first|exact Or.inl rfl|exact Or.inr (.inl rfl)|exact Or.inr (.inr rfl)) (by decide) (by decide)) (@zo _ _ _ (@zR _ _ _ _ _ _ _ _ yJ (@pv _ 6 _ _ (by rfl) (by first|exact Or.inl rfl|exact Or.inr (.inl rfl)|exact Or.inr (.inr rfl)) (by decide) (by decide)) zE)) yC)) (@zA _ _ _ _ _ (@pv _ 4 _ _ (by rfl) (by first|exact Or.inl rfl|exact Or.inr (.inl rfl)|exact Or.inr (.inr rfl)) (by decide) (by decide)) zB (by rfl)) (by rfl)) (by rfl))))) zk) (@zF _ _ _ _ _ (@yM _ _ _ _ _ _ _ _ (@zj _ _ _ _ _ _ _ _ y0 (@pv _ 5 _ _ (by rfl) (by first|exact Or.inl rfl|exact Or.inr (.inl rfl)|exact Or.inr (.inr rfl)) (by decide) (by decide)) zE (zp _)) (@zK _ _ _ (@zU _ _ _ _ (@zX _ _ _ _ _ (@zA _ _ _ _ _ (@pv _ 2 _ _ (by rfl) (by first|exact Or.inl rfl|exact Or.inr (.inl rfl)|exact Or.inr (.inr rfl)) (by decide) (by decide)) (@zA _ _ _ _ _ (@zR _ _ _ _ _ _ _ _ yZ (@zR _ _ _ _ _ _ _ _ yZ (@zu _ _ _ _ _ _ _ _ _ _ yR (@pv _ 3 _ _ (by rfl) (by first|exact Or.inl rfl|exact Or.inr (.inl rfl)|exact Or.inr (.inr rfl)) (by decide) (by decide)) yC (@zo _ _ _ (@pv _ 6 _ _ (by rfl) (by first|exact Or.inl rfl|exact Or.inr (.inl rfl)|exact Or.inr (.inr rfl)) (by decide) (by decide)))) (@pv _ 8 _ _ (by rfl) (by first|exact Or.inl rfl|exact Or.inr (.inl rfl)|exact Or.inr (.inr rfl)) (by decide) (by decide))) (@zu _ _ _ _ _ _ _ _ _ _ yR (@pv _ 3 _ _ (by rfl) (by first|exact Or.inl rfl|exact Or.inr (.inl rfl)|exact Or.inr (.inr rfl)) (by decide) (by decide)) (@zo _ _ _ (@pv _ 6 _ _ (by rfl) (by first|exact Or.inl rfl|exact Or.inr (.inl rfl)|exact Or.inr (.inr rfl)) (by decide) (by decide))) yC)) (@zA _ _ _ _ _ (@pv _ 4 _ _ (by rfl) (by first|exact Or.inl rfl|exact Or.inr (.inl rfl)|exact Or.inr (.inr rfl)) (by decide) (by decide)) zB (by rfl)) (by rfl)) (by rfl))))) zk) (@zF _ _ _ _ _ (@yM _ _ _ _ _ _ _ _ (@zj _ _ _ _ _ _ _ _ y0 (@pv _ 5 _ _ (by rfl) (by first|exact Or.inl rfl|exact Or.inr (.inl rfl)|exact Or.inr (.inr rfl)) (by decide) (by decide)) zE (zp _)) (@zK _ _ _ (@zU _ _ _ _ (@zX _ _ _ _ _ (@zA _ _ _ _ _ (@pv _ 2 _ _ (by rfl) (by first|exact Or.inl rfl|exact Or.inr (.inl rfl)|exact Or.inr (.inr rfl)) (by decide) (by decide)) (@zA _ _ _ _ _ (@zR _ _ _ _ _ _ _ _ yZ (@zR _ _ _ _ _ _ _ _ yZ (@zR _ _ _ _ _ _ _ _ yZ (@zu _ _ _ _ _ _ _ _ _ _ yR (@pv _ 3 _ _ (by rfl) (by first|exact Or.inl rfl|exact Or.inr (.inl rfl)|exact Or.inr (.inr rfl)) (by decide) (by decide)) yC (@zo _ _ _ (@pv _ 6 _ _ (by rfl) (by first|exact Or.inl rfl|exact Or.inr (.inl rfl)|exact Or.inr (.inr rfl)) (by decide) (by decide)))) (@zu _ _ _ _ _ _ _ _ _ _ yR (@pv _ 3 _ _ (by rfl) (by first|exact Or.inl rfl|exact Or.inr (.inl rfl)|exact Or.inr (.inr rfl)) (by decide) (by decide)) (@zo _ _ _ (@zR _ _ _ _ _ _ _ _ yJ (@pv _ 6 _ _ (by rfl) (by first|exact Or.inl rfl|exact Or.inr (.inl rfl)|exact Or.inr (.inr rfl)) (by decide) (by decide)) zE)) (@zo _ _ _ (@zR _ _ _ _ _ _ _ _ yJ (@pv _ 6 _ _ (by rfl) (by first|exact Or.inl rfl|exact Or.inr (.inl rfl)|exact Or.inr (.inr rfl)) (by decide) (by decide)) zE)))) (@pv _ 8 _ _ (by rfl) (by first|exact Or.inl rfl|exact Or.inr (.inl rfl)|exact Or.inr (.inr rfl)) (by decide) (by decide))) (@zu _ _ _ _ _ _ _ _ _ _ yR (@pv _ 3 _ _ (by rfl) (by first|exact Or.inl rfl|exact Or.inr (.inl rfl)|exact Or.inr (.inr rfl)) (by decide) (by decide)) (@zo _ _ _ (@zR _ _ _ _ _ _ _ _ yJ (@pv _ 6 _ _ (by rfl) (by first|exact Or.inl rfl|exact Or.inr (.inl rfl)|exact Or.inr (.inr rfl)) (by decide) (by decide)) zE)) yC)) (@zA _ _ _ _ _ (@pv _ 4 _ _ (by rfl) (by first|exact Or.inl rfl|exact Or.inr (.inl rfl)|exact Or.inr (.inr rfl)) (by decide) (by decide)) zB (by rfl)) (by rfl)) (by rfl))))) zk) (@zF _ _ _ _ _ (@zi _ _ 9 _ _ _ _ qd.nd rfl (.inl rfl) (@zV _ _ _ _ _ _ _ _ _ yQ (by rfl) G.list (by rfl) (@zA _ _ _ _ _ (@pv _ 4 _ _ (by rfl) (by first|exact Or.inl rfl|exact Or.inr (.inl rfl)|exact Or.inr (.inr rfl)) (by decide) (by decide)) zB (by rfl)) (by decide) (by decide) (by rfl) (by rfl)) (by rfl) (by first|exact .inl rfl|exact .inr rfl|assumption)) (@zF _ _ _ _ _ (@yG _ _ _ _ _ _ (@zX _ _ _ _ _ (@zA _ _ _ _ _ (@zY _ _ _ _ _ _ _ yB (@pv _ 4 _ _ (by rfl) (by first|exact Or.inl rfl|exact Or.inr (.inl rfl)|exact Or.inr (.inr rfl)) (by decide) (by decide)) (@pv _ 7 _ _ (by rfl) (by first|exact Or.inl rfl|exact Or.inr (.inl rfl)|exact Or.inr (.inr rfl)) (by decide) (by decide)) (fun _ _=>rfl)) (@zA _ _ _ _ _ (@zY _ _ _ _ _ _ _ yB (@pv _ 4 _ _ (by rfl) (by first|exact Or.inl rfl|exact Or.inr (.inl rfl)|exact Or.inr (.inr rfl)) (by decide) (by decide)) zE (fun _ _=>rfl)) zB (by rfl)) (by rfl))) (@yE _ _ _ _ _ _ rfl (@zN _ _ _ _ _ (@xV _ _ _ _ _ _ _ (@pv _ 9 _ _ (by rfl) (by first|exact Or.inl rfl|exact Or.inr (.inl rfl)|exact Or.inr (.inr rfl)) (by decide) (by decide)) zE yg (by intro _;rfl)) (@zN _ _ _ _ _ (@xV _ _ _ _ _ _ _ (@pv _ 9 _ _ (by rfl) (by first|exact Or.inl rfl|exact Or.inr (.inl rfl)|exact Or.inr (.inr rfl)) (by decide) (by decide)) (@pv _ 7 _ _ (by rfl) (by first|exact Or.inl rfl|exact Or.inr (.inl rfl)|exact Or.inr (.inr rfl)) (by decide) (by decide)) yg (by intro _;rfl)) zt (by rfl)) (by rfl)) (by rfl) (by rfl)) (by rfl) (by rfl) (by rfl)) (@zK _ _ _ (@zU _ _ _ _ (@zX _ _ _ _ _ (@zA _ _ _ _ _ (@pv _ 2 _ _ (by rfl) (by first|exact Or.inl rfl|exact Or.inr (.inl rfl)|exact Or.inr (.inr rfl)) (by decide) (by decide)) (@zA _ _ _ _ _ (@pv _ 3 _ _ (by rfl) (by first|exact Or.inl rfl|exact Or.inr (.inl rfl)|exact Or.inr (.inr rfl)) (by decide) (by decide)) (@zA _ _ _ _ _ (@zV _ _ _ _ _ _ _ _ _ zZ (by rfl) G.tuple (by rfl) (@zA _ _ _ _ _ (@pv _ 9 _ _ (by rfl) (by first|exact Or.inl rfl|exact Or.inr (.inl rfl)|exact Or.inr (.inr rfl)) (by decide) (by decide)) zB (by rfl)) (by decide) (by decide) (by rfl) (by rfl)) zB (by rfl)) (by rfl)) (by rfl)))))))))))))),?_⟩
 have ok:=few.ok
 have l16:=ok.l16
 have l1:=ok.l1
 have fk:=few.fk
 have pl:=na.prs.len
 refine⟨_,rfl,r,_,rfl,SqT.of na.net,rfl,_,_,rfl,_,_,rfl,_,_,rfl,rfl,?_⟩
 refine⟨_,rfl,l,5,rfl,by decide,by decide,S,fun way H1 hw S1 B1=>?_⟩
 have na1:=na.tups (B1.tups3 S)
 refine⟨_,rfl,_,rfl,fr,ps,rfl,.inr (SqT.of na1.forks),_,_,rfl,rfl,l,_,rfl,by lia,by lia,S1,fun pl2 H2 hp2 S2 B2=>?_⟩
 refine⟨_,rfl,_,rfl,l,_,rfl,by lia,by lia,S2,fun kk H3 hk S3 B3=>⟨_,_,_,rfl,?_⟩⟩
 have na3:=(na1.tups (B2.tups3 S1)).tups (B3.tups3 S2)
 have B':But l H H3:=(B1.trans B2).trans B3
 clear na1 B1 B2 B3 S1 S2
 have p2:pl2≤ps.length:=by lia
 refine⟨_,rfl,_,rfl,_,rfl,_,rfl,_,_,rfl,rfl,_,rfl,fr,ps,rfl,na3.forks,fun hh H4 s4 hh4=>?_⟩
 have e1:((pl2:Nat):Int)+1=((pl2+1:Nat):Int):=rfl
 have e2:((pl2:Nat):Int)+2=((pl2+2:Nat):Int):=rfl
 rw[e1,ie,show pl2+1-pl2=1 by lia]at hh4
 have fko:FksOk N.lanes N.forks:=ok.fk
 have lb1:=few.ln
 have bl:N.forks.length≤100:=by lia
 have fin:∀ (a:Addr) (qs:List V) (gs:List (Nat × Nat)) (H5:Hp),Same H3 H5→H5 a=some (.tup qs)→Prs H5 qs gs→FksOk N.lanes gs→gs.length≤fb+1→∀ q,H5 q=none→Q (.ref q) (L2.upd H5 q (.tup [.int (N.lanes:Nat),.ref a,.ref er])):=fun a qs gs H5 s5 ha pr go gl q hq=>by
  have s6:=zC hq (.tup [.int (N.lanes:Nat),.ref a,.ref er])
  have u:=s5.trans s6
  exact k q a er qs ⟨N.lanes,gs,N.ends⟩ _ ⟨⟨l1,l16,by show gs.length≤128;lia,go,ok.en⟩,lb1,gl⟩ rfl ⟨zP hq _,s6 _ _ ha,pr.tups (Tups.of s6),u _ _ na3.ends⟩ (S3.keep u) (B'.trans (But.of u))
 have pr3:=na3.prs
 have f4:=s4 _ _ na3.forks
 have hl4:((ps.drop pl2).take 1).length≤1:=by rw[List.length_take];lia
 have prh:=wj 1 (xF pl2 pr3)
 have gl1:((N.forks.drop pl2).take 1).length≤1:=by rw[List.length_take];lia
 have pA:=wj pl2 pr3
 have lA:(N.forks.take pl2).length=pl2:=by rw[List.length_take];lia
 have lA':(ps.take pl2).length=pl2:=by rw[List.length_take];lia
 have lD:∀ n,(N.forks.drop n).length=N.forks.length-n:=fun n=>List.length_drop
 have lD':∀ n,(ps.drop n).length=N.forks.length-n:=fun n=>by rw[List.length_drop,pl]
 dsimp only[xp]
 refine⟨_,rfl,rfl,_,rfl,vU (fun _=>?_) (fun _=>?_)⟩
 ·refine⟨_,rfl,_,rfl,_,rfl,_,rfl,fr,ps,rfl,f4,fun p1 H5 s5 h5=>?_⟩
  rw[oy]at h5
  have u5:=s4.trans s5
  have hh5:=s5 _ _ hh4
  have pr5:=prh.tups (Tups.of u5)
  refine⟨_,rfl,hh,rfl,⟨_,SqT.of hh5⟩,fun lc hlc=>?_⟩
  have s6:=zC hlc (.lst [])
  refine xk (K:=K) (a:=hh) (xs:=(ps.drop pl2).take 1) (fun i acc σ H6=>(∃ v0 v1,σ=[v0,v1])∧Same H5 H6∧H6 lc=some (.lst acc)∧acc.length=i∧Prs H6 acc ((((N.forks.drop pl2).take 1).take i).map fun g=>(g.2,g.1))) ⟨⟨_,_,rfl⟩,s6,zP hlc _,rfl,trivial⟩ (fun i acc σ H6 z=>⟨z.2.2.1,SqT.of (z.2.1 _ _ hh5)⟩) ?_ ?_
  ·rintro i x acc σ H6 hx ⟨⟨v0,v1,rfl⟩,s7,h7,al,p7⟩
   obtain⟨a,g,rfl,eg,ha⟩:=(pr5.tups (Tups.of s7)).get hx
   have gi:=(List.getElem?_eq_some_iff.mp eg).1
   refine⟨a,_,rfl,SqT.of ha,rfl,_,_,rfl,_,_,rfl,rfl,?_⟩
   refine⟨_,rfl,_,rfl,(by show 2≤sizeLine;decide),fun t ht=>?_⟩
   have s8:=zC ht (.tup [.int (g.2:Nat),.int (g.1:Nat)])
   have h8:=s8 _ _ h7
   refine⟨h8,by rw[sizeLine_eq];lia,nx (List.getElem?_eq_some_iff.mp hx).1 ⟨⟨_,_,rfl⟩,fun b o e=>?_,zD,by rw[List.length_append,al];rfl,?_⟩⟩
   ·rw[zH (zG e hlc)];exact s8 _ _ (s7 b o e)
   ·rw[← List.take_append_getElem gi,List.map_append,(List.getElem?_eq_some_iff.mp eg).2]
    exact Prs.add (f:=(g.2,g.1)) (Tups.lst h8 _ _ (zP ht _)) ((p7.tups (Tups.of s8)).tups (Tups.lst h8))
  rintro acc σ H6 ⟨⟨v0,v1,rfl⟩,s7,h7,al,p7⟩
  rw[List.take_of_length_le (by rw[prh.len];exact Nat.le_refl _)]at p7
  refine⟨lc,_,rfl,.inl ⟨SqL.of h7,fun t8 ht8=>?_⟩⟩
  have s8:=zC ht8 (.tup acc)
  refine⟨p1,t8,_,_,rfl,rfl,s8 _ _ (s7 _ _ h5),zP ht8 _,by rw[sizeLine_eq];lia,fun p9 H9 s9 h9=>?_⟩
  have u9:=((u5.trans s7).trans s8).trans s9
  refine⟨_,rfl,_,rfl,_,_,rfl,rfl,_,rfl,fr,ps,rfl,u9 _ _ na3.forks,fun p10 H10 s10 h10=>?_⟩
  rw[e1,oz]at h10
  refine⟨p9,p10,_,_,rfl,rfl,s10 _ _ h9,h10,by rw[sizeLine_eq,List.length_append,lD' (pl2+1)];lia,fun p11 H11 s11 h11=>?_⟩
  have u11:=(u9.trans s10).trans s11
  refine⟨_,rfl,(by show 3≤sizeLine;decide),fin p11 _ _ _ u11 h11 (Prs.app (Prs.app (pA.tups (Tups.of u11)) (p7.tups (Tups.of (((s8.trans s9).trans s10).trans s11)))) ((xF (pl2+1) pr3).tups (Tups.of u11))) ?_ ?_⟩
  ·refine((fko.take _).app fun f hf=>?_).app (fko.drop _)
   obtain⟨g,hg,rfl⟩:=List.mem_map.mp hf
   obtain⟨a,b,c⟩:=fko g (List.mem_of_mem_drop (List.mem_of_mem_take hg))
   exact⟨b,a,c.symm⟩
  ·rw[List.length_append,List.length_append,List.length_map,lA,lD];lia
 refine⟨_,rfl,rfl,_,rfl,vU (fun _=>?_) (fun _=>?_)⟩
 ·refine⟨_,rfl,_,rfl,_,rfl,_,rfl,fr,ps,rfl,f4,fun p1 H5 s5 h5=>?_⟩
  rw[oy]at h5
  have u5:=s4.trans s5
  refine⟨_,rfl,_,rfl,_,_,rfl,rfl,_,rfl,fr,ps,rfl,u5 _ _ na3.forks,fun p10 H10 s10 h10=>?_⟩
  rw[e1,oz]at h10
  refine⟨p1,p10,_,_,rfl,rfl,s10 _ _ h5,h10,by rw[sizeLine_eq,lD' (pl2+1)];lia,fun p11 H11 s11 h11=>?_⟩
  have u11:=(u5.trans s10).trans s11
  refine⟨_,rfl,(by show 3≤sizeLine;decide),fin p11 _ _ _ u11 h11 (Prs.app (pA.tups (Tups.of u11)) ((xF (pl2+1) pr3).tups (Tups.of u11))) ((fko.take _).app (fko.drop _)) ?_⟩
  rw[List.length_append,lA,lD];lia
 refine⟨_,rfl,rfl,_,rfl,vU (fun _=>?_) (fun _=>?_)⟩
 ·refine⟨_,rfl,_,rfl,_,rfl,_,rfl,fr,ps,rfl,f4,fun p1 H5 s5 h5=>?_⟩
  rw[oy]at h5
  have u5:=s4.trans s5
  refine⟨_,rfl,p1,hh,_,_,rfl,rfl,h5,s5 _ _ hh4,by rw[sizeLine_eq];lia,fun p9 H9 s9 h9=>?_⟩
  have u9:=u5.trans s9
  refine⟨_,rfl,_,rfl,_,rfl,fr,ps,rfl,u9 _ _ na3.forks,fun p10 H10 s10 h10=>?_⟩
  rw[oz]at h10
  refine⟨p9,p10,_,_,rfl,rfl,s10 _ _ h9,h10,by rw[sizeLine_eq,List.length_append,lD' pl2];lia,fun p11 H11 s11 h11=>?_⟩
  have u11:=(u9.trans s10).trans s11
  refine⟨_,rfl,(by show 3≤sizeLine;decide),fin p11 _ _ _ u11 h11 (Prs.app (Prs.app (pA.tups (Tups.of u11)) (prh.tups (Tups.of u11))) ((xF pl2 pr3).tups (Tups.of u11))) (((fko.take _).app ((fko.drop _).take _)).app (fko.drop _)) ?_⟩
  rw[List.length_append,List.length_append,lA,lD];lia
 refine⟨_,rfl,rfl,_,rfl,vU (fun _=>?_) (fun _=>?_)⟩
 ·refine⟨_,rfl,_,rfl,_,rfl,_,rfl,fr,ps,rfl,f4,fun p1 H5 s5 h5=>?_⟩
  rw[oy]at h5
  have u5:=s4.trans s5
  refine⟨_,rfl,_,rfl,_,_,rfl,rfl,_,rfl,_,rfl,_,_,rfl,rfl,_,rfl,fr,ps,rfl,u5 _ _ na3.forks,fun p6 H6 s6 h6=>?_⟩
  rw[e1,e2,ie,show pl2+2-(pl2+1)=1 by lia]at h6
  have l6:((ps.drop (pl2+1)).take 1).length≤1:=by rw[List.length_take];lia
  have g6:((N.forks.drop (pl2+1)).take 1).length≤1:=by rw[List.length_take];lia
  refine⟨p1,p6,_,_,rfl,rfl,s6 _ _ h5,h6,by rw[sizeLine_eq];lia,fun p7 H7 s7 h7=>?_⟩
  have u7:=(u5.trans s6).trans s7
  refine⟨_,rfl,p7,hh,_,_,rfl,rfl,h7,s7 _ _ (s6 _ _ (s5 _ _ hh4)),by rw[sizeLine_eq,List.length_append];lia,fun p9 H9 s9 h9=>?_⟩
  have u9:=u7.trans s9
  refine⟨_,rfl,_,rfl,_,_,rfl,rfl,_,rfl,fr,ps,rfl,u9 _ _ na3.forks,fun p10 H10 s10 h10=>?_⟩
  rw[e2,oz]at h10
  refine⟨p9,p10,_,_,rfl,rfl,s10 _ _ h9,h10,by rw[sizeLine_eq,List.length_append,List.length_append,lD' (pl2+2)];lia,fun p11 H11 s11 h11=>?_⟩
  have u11:=(u9.trans s10).trans s11
  refine⟨_,rfl,(by show 3≤sizeLine;decide),fin p11 _ _ _ u11 h11 (Prs.app (Prs.app (Prs.app (pA.tups (Tups.of u11)) ((wj 1 (xF (pl2+1) pr3)).tups (Tups.of u11))) (prh.tups (Tups.of u11))) ((xF (pl2+2) pr3).tups (Tups.of u11))) ((((fko.take _).app ((fko.drop _).take _)).app ((fko.drop _).take _)).app (fko.drop _)) ?_⟩
  have c6:((N.forks.drop (pl2+1)).take 1).length=min 1 (N.forks.length-(pl2+1)):=by rw[List.length_take,lD]
  have c7:((N.forks.drop pl2).take 1).length=min 1 (N.forks.length-pl2):=by rw[List.length_take,lD]
  rw[List.length_append,List.length_append,List.length_append,lA,lD,c6,c7];lia
 have he4:=s4 _ _ na3.ends
 have el:N.ends.length=N.lanes:=by rw[ok.en.length_eq,List.length_range]
 have nel:=zc N.ends
 have k1:kk<N.ends.length:=by lia
 refine⟨_,rfl,er,_,rfl,.inr (SqT.of he4),fun lr hlr=>?_⟩
 have s5:=zC hlr (.lst (zT N.ends))
 have he5:=s5 _ _ he4
 have a1:=yD (pR N.ends kk k1)
 have a0:=yD (j:=0) (pR N.ends 0 (by lia))
 refine⟨_,rfl,_,rfl,er,_,_,_,rfl,rfl,SqT.of he5,a1,_,rfl,er,_,0,_,rfl,rfl,SqT.of he5,a0,(by show 2≤sizeLine;decide),fun T hT=>?_⟩
 have s6:=zC hT (.tup [.int ((N.ends.getD kk 0:Nat):Int),.int ((N.ends.getD 0 0:Nat):Int)])
 have h6:=s6 _ _ (zP hlr (.lst (zT N.ends)))
 refine⟨T,_,rfl,SqT.of zD,rfl,_,_,rfl,?_⟩
 have u6:=(s4.trans s5).trans s6
 let d1:List Nat:=N.ends.set 0 (N.ends.getD kk 0)
 let d2:List Nat:=d1.set kk (N.ends.getD 0 0)
 have z1:(zT N.ends).set 0 (.int ((N.ends.getD kk 0:Nat):Int))=zT d1:=List.map_set.symm
 have z2:(zT d1).set kk (.int ((N.ends.getD 0 0:Nat):Int))=zT d2:=List.map_set.symm
 have d1l:(zT d1).length=N.ends.length:=by rw[zc];exact List.length_set
 have pd:d2.Perm N.ends:=by
  have:=List.set_set_perm (as:=N.ends) (i:=0) (j:=kk) (by lia) k1
  have g1:N.ends.getD kk 0=N.ends[kk]:=by rw[List.getD_eq_getElem?_getD,List.getElem?_eq_getElem k1];rfl
  have g0:N.ends.getD 0 0=N.ends[0]:=by rw[List.getD_eq_getElem?_getD,List.getElem?_eq_getElem (by lia)];rfl
  show ((N.ends.set 0 (N.ends.getD kk 0)).set kk (N.ends.getD 0 0)).Perm N.ends
  rw[g1,g0];exact this
 refine⟨_,rfl,lr,_,0,0,rfl,rfl,h6,uO (i:=0) (by lia),?_⟩
 rw[z1]
 have hH1:L2.upd (L2.upd (L2.upd H4 lr (.lst (zT N.ends))) T (.tup [.int ((N.ends.getD kk 0:Nat):Int),.int ((N.ends.getD 0 0:Nat):Int)])) lr (.lst (zT d1)) lr=some (.lst (zT d1)):=zD
 have n3:H3 lr=none:=xh s4 hlr
 have sm:∀ (xs ys:List V),Same H3 (L2.upd (L2.upd (L2.upd (L2.upd H4 lr (.lst (zT N.ends))) T (.tup [.int ((N.ends.getD kk 0:Nat):Int),.int ((N.ends.getD 0 0:Nat):Int)])) lr (.lst xs)) lr (.lst ys)):=fun xs ys b o e=>by
  rw[zH (zG e n3),zH (zG e n3)];exact u6 b o e
 refine⟨_,_,rfl,_,rfl,_,rfl,lr,_,_,kk,rfl,rfl,hH1,by rw[d1l];exact uO k1,?_⟩
 rw[z2]
 refine⟨rfl,_,rfl,_,rfl,_,rfl,lr,_,rfl,.inl ⟨SqL.of zD,fun t ht=>⟨(by show 3≤sizeLine;decide),fun q hq=>?_⟩⟩⟩
 have s7:=zC ht (.tup (zT d2))
 have s8:=zC hq (.tup [.int (N.lanes:Nat),.ref fr,.ref t])
 have u:=((sm (zT d1) (zT d2)).trans s7).trans s8
 exact k q fr t ps ⟨N.lanes,N.forks,d2⟩ _ ⟨⟨l1,l16,ok.fm,ok.fk,pd.trans ok.en⟩,lb1,by show N.forks.length≤fb+1;lia⟩ rfl ⟨zP hq _,u _ _ na3.forks,pr3.tups (Tups.of u),s8 _ _ (zP ht _)⟩ (S3.keep u) (B'.trans (But.of u))
end
abbrev rJ:Stmt:=top 28
def vm (m:Nat):Sp:=fun vs H Q _=>∃ p row,vs=[.ref p]∧H p=some (.lst (zT row))∧row.length=2 ^ m∧m≤4∧∀ c lf le ps H',Same H H'→H' c=some (.tup [.ref lf,.ref le])→H' lf=some (.lst ps)→Prs H' ps (yx m row).1→H' le=some (.lst (zT (yx m row).2))→Q (.ref c) H'
section
variable {P:Program}{w:World}{K:PySem.W.Frag}{mg:Str→Option Value}{base:Heap}
theorem rE:FnScope ["_law_row","_law_half","_law_forks","_law_one","_law_more_here","_law_other","_law_last","_law_ends_here"] ["_law_row"] (zM rJ):=⟨rfl,rfl,rfl,by decide +kernel,rfl,by decide +kernel,by decide +kernel⟩
theorem rQ {f fB:Addr}{fd dB:FuncData}(F:Fun K "_law_stairway" "_law_stairway" rJ f fd) (G:Mgs mg) (UM:Use P w K mg base "_law_merger" ["_law_one","_law_other"] 5 xa fB dB) (bS:Binds K fd ["_law_row"] []) (mS:mg "_law_stairway" = some (.ref f)) (n:Nat)
  (GS:FnOk P w K mg base CX0 (n+5) f fd ["_law_row"] (fun vs H Q E=>∃ m,n=m+1∧vm m vs H Q E)):FnOk P w K mg base CX0 (n+6) f fd ["_law_row"] (vm n):=by
 have UT:Use P w K mg base "_law_stairway" ["_law_row"] (n+5) (fun vs H Q E=>∃ m,n=m+1∧vm m vs H Q E) f fd:=⟨GS,bS,F.kp,mS⟩
 refine F.ok rE (fun vs H Q E h=>?_) (fun cdv A outer s H vs Q E hr h=>?_)
 ·obtain⟨p,row,rfl,_⟩:=h
  rfl
 obtain⟨p,row,rfl,hp,rl,n20,k⟩:=h
 have hr6:Room 5 _:=hr.mono (by lia)
 refine⟨_,(@zF _ _ _ _ _ (@yM _ _ _ _ _ _ _ _ (@zj _ _ _ _ _ _ _ _ y0 (@zQ _ _ _ _ _ _ _ _ _ zW (by rfl) G.len PySem.boot_len (@zA _ _ _ _ _ (@pv _ 0 _ _ (by rfl) (by first|exact Or.inl rfl|exact Or.inr (.inl rfl)|exact Or.inr (.inr rfl)) (by decide) (by decide)) zB (by rfl)) (by decide) (by decide) (by rfl) (by rfl)) zE (zp _)) (@zK _ _ _ (@zU _ _ _ _ (@zX _ _ _ _ _ (@zA _ _ _ _ _ (@zq _ _ _ _ zB) (@zA _ _ _ _ _ (@zV _ _ _ _ _ _ _ _ _ yQ (by rfl) G.list (by rfl) (@zA _ _ _ _ _ (@pv _ 0 _ _ (by rfl) (by first|exact Or.inl rfl|exact Or.inr (.inl rfl)|exact Or.inr (.inr rfl)) (by decide) (by decide)) zB (by rfl)) (by decide) (by decide) (by rfl) (by rfl)) zB (by rfl)) (by rfl))))) zk) (@zF _ _ _ _ _ (@zi _ _ 1 _ _ _ _ rE.nd rfl (.inl rfl) (@zR _ _ _ _ _ _ _ _ xW (@zQ _ _ _ _ _ _ _ _ _ zW (by rfl) G.len PySem.boot_len (@zA _ _ _ _ _ (@pv _ 0 _ _ (by rfl) (by first|exact Or.inl rfl|exact Or.inr (.inl rfl)|exact Or.inr (.inr rfl)) (by decide) (by decide)) zB (by rfl)) (by decide) (by decide) (by rfl) (by rfl)) zE) (by rfl) (by first|exact .inl rfl|exact .inr rfl|assumption)) (@zF _ _ _ _ _ (@yG _ _ _ _ _ _ (@zJ _ _ _ _ _ _ _ _ _ _ _ _ _ _ _ _ UT.ok hr (by rfl) UT.m UT.kp UT.b .nil zS (@zA _ _ _ _ _ (@zu _ _ _ _ _ _ _ _ _ _ xy (@pv _ 0 _ _ (by rfl) (by first|exact Or.inl rfl|exact Or.inr (.inl rfl)|exact Or.inr (.inr rfl)) (by decide) (by decide)) yC (@zo _ _ _ (@pv _ 1 _ _ (by rfl) (by first|exact Or.inl rfl|exact Or.inr (.inl rfl)|exact Or.inr (.inr rfl)) (by decide) (by decide)))) zB (by rfl)) (by decide) (by rfl) (by rfl)) (@yE _ _ _ _ _ _ rfl (@zN _ _ _ _ _ (@zL _ _ 2 _ rE.nd rfl (.inl rfl) (by first|exact .inl rfl|exact .inr rfl|assumption)) (@zN _ _ _ _ _ (@zL _ _ 3 _ rE.nd rfl (.inl rfl) (by first|exact .inl rfl|exact .inr rfl|assumption)) zt (by rfl)) (by rfl)) (by rfl) (by rfl)) (by rfl) (by rfl) (by rfl)) (@zF _ _ _ _ _ (@yG _ _ _ _ _ _ (@zJ _ _ _ _ _ _ _ _ _ _ _ _ _ _ _ _ UT.ok hr (by rfl) UT.m UT.kp UT.b .nil zS (@zA _ _ _ _ _ (@zu _ _ _ _ _ _ _ _ _ _ xy (@pv _ 0 _ _ (by rfl) (by first|exact Or.inl rfl|exact Or.inr (.inl rfl)|exact Or.inr (.inr rfl)) (by decide) (by decide)) (@zo _ _ _ (@pv _ 1 _ _ (by rfl) (by first|exact Or.inl rfl|exact Or.inr (.inl rfl)|exact Or.inr (.inr rfl)) (by decide) (by decide))) yC) zB (by rfl)) (by decide) (by rfl) (by rfl)) (@yE _ _ _ _ _ _ rfl (@zN _ _ _ _ _ (@zL _ _ 4 _ rE.nd rfl (.inl rfl) (by first|exact .inl rfl|exact .inr rfl|assumption)) (@zN _ _ _ _ _ (@zL _ _ 5 _ rE.nd rfl (.inl rfl) (by first|exact .inl rfl|exact .inr rfl|assumption)) zt (by rfl)) (by rfl)) (by rfl) (by rfl)) (by rfl) (by rfl) (by rfl)) (@zF _ _ _ _ _ (@yG _ _ _ _ _ _ (@zJ _ _ _ _ _ _ _ _ _ _ _ _ _ _ _ _ UM.ok hr6 (by rfl) UM.m UM.kp UM.b .nil zS (@zA _ _ _ _ _ (@pv _ 3 _ _ (by rfl) (by first|exact Or.inl rfl|exact Or.inr (.inl rfl)|exact Or.inr (.inr rfl)) (by decide) (by decide)) (@zA _ _ _ _ _ (@pv _ 5 _ _ (by rfl) (by first|exact Or.inl rfl|exact Or.inr (.inl rfl)|exact Or.inr (.inr rfl)) (by decide) (by decide)) zB (by rfl)) (by rfl)) (by decide) (by rfl) (by rfl)) (@yE _ _ _ _ _ _ rfl (@zN _ _ _ _ _ (@zL _ _ 6 _ rE.nd rfl (.inl rfl) (by first|exact .inl rfl|exact .inr rfl|assumption)) (@zN _ _ _ _ _ (@zL _ _ 7 _ rE.nd rfl (.inl rfl) (by first|exact .inl rfl|exact .inr rfl|assumption)) zt (by rfl)) (by rfl)) (by rfl) (by rfl)) (by rfl) (by rfl) (by rfl)) (@zK _ _ _ (@zU _ _ _ _ (@zX _ _ _ _ _ (@zA _ _ _ _ _ (@zR _ _ _ _ _ _ _ _ xg (@zR _ _ _ _ _ _ _ _ xg (@pv _ 2 _ _ (by rfl) (by first|exact Or.inl rfl|exact Or.inr (.inl rfl)|exact Or.inr (.inr rfl)) (by decide) (by decide)) (@pv _ 4 _ _ (by rfl) (by first|exact Or.inl rfl|exact Or.inr (.inl rfl)|exact Or.inr (.inr rfl)) (by decide) (by decide))) (@pv _ 6 _ _ (by rfl) (by first|exact Or.inl rfl|exact Or.inr (.inl rfl)|exact Or.inr (.inr rfl)) (by decide) (by decide))) (@zA _ _ _ _ _ (@pv _ 7 _ _ (by rfl) (by first|exact Or.inl rfl|exact Or.inr (.inl rfl)|exact Or.inr (.inr rfl)) (by decide) (by decide)) zB (by rfl)) (by rfl)))))))))),?_⟩
 have nl:=zc row
 have p8:2 ^ n≤2 ^ 4:=Nat.pow_le_pow_right (by decide) n20
 have e8:2 ^ 4=16:=rfl
 refine⟨_,rfl,p,_,rfl,.inl (SqL.of hp),rfl,_,rfl,?_⟩
 cases n with
 | zero =>
  have rl1:row.length=1:=rl
  rw[decide_eq_true (show V.int (((zT row).length:Nat):Int)=V.int 1 by rw[nl,rl1];rfl)]
  refine yP ⟨(by show 0≤sizeLine;decide),fun l hl=>⟨_,rfl,p,_,rfl,.inl (SqL.of (zC hl _ _ _ hp)),fun le hle=>⟨(by show 2≤sizeLine;decide),fun c hc=>?_⟩⟩⟩
  have s1:=zC hl (.lst [])
  have s2:=zC hle (.lst (zT row))
  have s3:=zC hc (.tup [.ref l,.ref le])
  exact k c l le [] _ ((s1.trans s2).trans s3) (zP hc _) (s3 _ _ (s2 _ _ (zP hl _))) trivial (s3 _ _ (zP hle _))
 | succ m =>
  obtain⟨t1,t2,t3⟩:=wU rl
  obtain⟨la,lb⟩:=xn rl
  have pw:2 ^ (m+1)=2 ^ m*2:=Nat.pow_succ ..
  have p0:=Nat.one_le_two_pow (n:=m)
  rw[decide_eq_false (show ¬ V.int (((zT row).length:Nat):Int)=V.int 1 by intro z;injection z with z;lia)]
  refine zv ⟨_,rfl,p,_,rfl,.inl (SqL.of hp),_,_,rfl,rfl,⟨by decide,by decide⟩,?_⟩
  have eh:(((zT row).length:Nat):Int) / 2=((row.length / 2:Nat):Int):=by rw[nl];lia
  simp only[eh]
  refine⟨_,rfl,_,rfl,_,rfl,p,_,rfl,SqL.of hp,fun p1 hp1=>?_⟩
  rw[pP row _ t3]
  have s1:=zC hp1 (.lst (zT (row.take (row.length / 2))))
  refine⟨m,rfl,p1,row.take (row.length / 2),rfl,zP hp1 _,la,by lia,fun c2 lf2 le2 ps2 H2 s2 hc2 hf2 pr2 he2=>?_⟩
  have u2:=s1.trans s2
  refine⟨c2,_,rfl,SqT.of hc2,rfl,_,_,rfl,_,_,rfl,rfl,?_⟩
  refine⟨_,rfl,_,rfl,_,rfl,p,_,rfl,SqL.of (u2 _ _ hp),fun p3 hp3=>?_⟩
  rw[pQ row _ t3]
  have s3:=zC hp3 (.lst (zT (row.drop (row.length / 2))))
  refine⟨m,rfl,p3,row.drop (row.length / 2),rfl,zP hp3 _,lb,by lia,fun c4 lf4 le4 ps4 H4 s4 hc4 hf4 pr4 he4=>?_⟩
  have u4:=s3.trans s4
  refine⟨c4,_,rfl,SqT.of hc4,rfl,_,_,rfl,_,_,rfl,rfl,?_⟩
  obtain⟨xl,xf⟩:=xx m _ la
  obtain⟨yl,yf⟩:=xx m _ lb
  obtain⟨zl,zf⟩:=xA m _ _ xl yl
  have pl2:=pr2.len
  have pl4:=pr4.len
  obtain⟨bd1,bd2⟩:=wY m (by lia)
  refine⟨_,rfl,_,rfl,m,by lia,le2,le4,_,_,rfl,u4 _ _ he2,he4,xl,yl,by lia,fun c6 lf6 le6 ps6 H6 s6 _ hc6 hf6 pr6 he6=>?_⟩
  refine⟨c6,_,rfl,SqT.of hc6,rfl,_,_,rfl,_,_,rfl,rfl,?_⟩
  have pl6:=pr6.len
  refine⟨_,rfl,_,rfl,lf2,lf4,_,_,rfl,rfl,s6 _ _ (u4 _ _ hf2),s6 _ _ hf4,by rw[sizeLine_eq];lia,fun l7 hl7=>?_⟩
  have s7:=zC hl7 (.lst (ps2++ps4))
  refine⟨_,rfl,l7,lf6,_,_,rfl,rfl,zP hl7 _,s7 _ _ hf6,by rw[sizeLine_eq,List.length_append];lia,fun l8 hl8=>?_⟩
  have s8:=zC hl8 (.lst ((ps2++ps4)++ps6))
  refine⟨_,rfl,(by show 2≤sizeLine;decide),fun c hc=>?_⟩
  have s9:=zC hc (.tup [.ref l8,.ref le6])
  have u9:=(s7.trans s8).trans s9
  refine k c l8 le6 _ _ ((u2.trans u4).trans (s6.trans u9)) (zP hc _) (s9 _ _ (zP hl8 _)) ?_ (u9 _ _ he6)
  refine Prs.tups (Tups.of u9) ?_
  exact Prs.app (Prs.app ((pr2.tups (Tups.of u4)).tups (Tups.of s6)) (pr4.tups (Tups.of s6))) pr6
theorem oR {f fB:Addr}{fd dB:FuncData}(F:Fun K "_law_stairway" "_law_stairway" rJ f fd) (G:Mgs mg) (UM:Use P w K mg base "_law_merger" ["_law_one","_law_other"] 5 xa fB dB) (bS:Binds K fd ["_law_row"] []) (mS:mg "_law_stairway" = some (.ref f)):∀ n:Nat,FnOk P w K mg base CX0 (n+6) f fd ["_law_row"] (vm n)
 | 0=>rQ F G UM bS mS 0 ⟨fun vs H Q E ⟨m,h,_⟩=>by lia,fun A outer s H args us vs Q E _ _ _ _ ⟨m,h,_⟩=>by lia⟩
 | m+1=>rQ F G UM bS mS (m+1) ((oR F G UM bS mS m).imp fun vs H Q E ⟨m',h,q⟩=>by cases h;exact q)
abbrev vn:Sp:=fun vs H Q E=>∃ m,m≤4∧vm m vs H Q E
theorem nX {f fB:Addr}{fd dB:FuncData}(F:Fun K "_law_stairway" "_law_stairway" rJ f fd) (G:Mgs mg) (UM:Use P w K mg base "_law_merger" ["_law_one","_law_other"] 5 xa fB dB) (bS:Binds K fd ["_law_row"] []) (mS:mg "_law_stairway" = some (.ref f)):FnOk P w K mg base CX0 10 f fd ["_law_row"] vn :=
 FnOk.any 4 fun m hm=>(oR F G UM bS mS m).mono (by lia)
end
abbrev rH:Stmt:=top 30
def vh (m:Nat):Sp:=fun vs H Q _=>∃ p row,vs=[.ref p]∧H p=some (.lst (zT row))∧row.length=2 ^ m∧m≤4∧∀ c lf le ps H',Same H H'→H' c=some (.tup [.ref lf,.ref le])→H' lf=some (.lst ps)→Prs H' ps (xC m row).1→H' le=some (.lst (zT (xC m row).2))→Q (.ref c) H'
section
variable {P:Program}{w:World}{K:PySem.W.Frag}{mg:Str→Option Value}{base:Heap}
theorem sA:FnScope ["_law_row","_law_half","_law_forks","_law_one","_law_more_here","_law_other","_law_ends_here","_law_x","_law_y"] ["_law_row"] (zM rH):=⟨rfl,rfl,rfl,by decide +kernel,rfl,by decide +kernel,by decide +kernel⟩
theorem rP {f:Addr}{fd:FuncData}(F:Fun K "_law_tree" "_law_tree" rH f fd) (G:Mgs mg) (bS:Binds K fd ["_law_row"] []) (mS:mg "_law_tree" = some (.ref f)) (n:Nat)
  (GS:FnOk P w K mg base CX0 n f fd ["_law_row"] (fun vs H Q E=>∃ m,n=m+1∧vh m vs H Q E)):FnOk P w K mg base CX0 (n+1) f fd ["_law_row"] (vh n):=by
 have UT:Use P w K mg base "_law_tree" ["_law_row"] n (fun vs H Q E=>∃ m,n=m+1∧vh m vs H Q E) f fd:=⟨GS,bS,F.kp,mS⟩
 refine F.ok sA (fun vs H Q E h=>?_) (fun cdv A outer s H vs Q E hr h=>?_)
 ·obtain⟨p,row,rfl,_⟩:=h
  rfl
 obtain⟨p,row,rfl,hp,rl,n20,k⟩:=h
 refine⟨_,(@zF _ _ _ _ _ (@yM _ _ _ _ _ _ _ _ (@zj _ _ _ _ _ _ _ _ y0 (@zQ _ _ _ _ _ _ _ _ _ zW (by rfl) G.len PySem.boot_len (@zA _ _ _ _ _ (@pv _ 0 _ _ (by rfl) (by first|exact Or.inl rfl|exact Or.inr (.inl rfl)|exact Or.inr (.inr rfl)) (by decide) (by decide)) zB (by rfl)) (by decide) (by decide) (by rfl) (by rfl)) zE (zp _)) (@zK _ _ _ (@zU _ _ _ _ (@zX _ _ _ _ _ (@zA _ _ _ _ _ (@zq _ _ _ _ zB) (@zA _ _ _ _ _ (@zV _ _ _ _ _ _ _ _ _ yQ (by rfl) G.list (by rfl) (@zA _ _ _ _ _ (@pv _ 0 _ _ (by rfl) (by first|exact Or.inl rfl|exact Or.inr (.inl rfl)|exact Or.inr (.inr rfl)) (by decide) (by decide)) zB (by rfl)) (by decide) (by decide) (by rfl) (by rfl)) zB (by rfl)) (by rfl))))) zk) (@zF _ _ _ _ _ (@zi _ _ 1 _ _ _ _ sA.nd rfl (.inl rfl) (@zR _ _ _ _ _ _ _ _ xW (@zQ _ _ _ _ _ _ _ _ _ zW (by rfl) G.len PySem.boot_len (@zA _ _ _ _ _ (@pv _ 0 _ _ (by rfl) (by first|exact Or.inl rfl|exact Or.inr (.inl rfl)|exact Or.inr (.inr rfl)) (by decide) (by decide)) zB (by rfl)) (by decide) (by decide) (by rfl) (by rfl)) zE) (by rfl) (by first|exact .inl rfl|exact .inr rfl|assumption)) (@zF _ _ _ _ _ (@yG _ _ _ _ _ _ (@zJ _ _ _ _ _ _ _ _ _ _ _ _ _ _ _ _ UT.ok hr (by rfl) UT.m UT.kp UT.b .nil zS (@zA _ _ _ _ _ (@zu _ _ _ _ _ _ _ _ _ _ xy (@pv _ 0 _ _ (by rfl) (by first|exact Or.inl rfl|exact Or.inr (.inl rfl)|exact Or.inr (.inr rfl)) (by decide) (by decide)) yC (@zo _ _ _ (@pv _ 1 _ _ (by rfl) (by first|exact Or.inl rfl|exact Or.inr (.inl rfl)|exact Or.inr (.inr rfl)) (by decide) (by decide)))) zB (by rfl)) (by decide) (by rfl) (by rfl)) (@yE _ _ _ _ _ _ rfl (@zN _ _ _ _ _ (@zL _ _ 2 _ sA.nd rfl (.inl rfl) (by first|exact .inl rfl|exact .inr rfl|assumption)) (@zN _ _ _ _ _ (@zL _ _ 3 _ sA.nd rfl (.inl rfl) (by first|exact .inl rfl|exact .inr rfl|assumption)) zt (by rfl)) (by rfl)) (by rfl) (by rfl)) (by rfl) (by rfl) (by rfl)) (@zF _ _ _ _ _ (@yG _ _ _ _ _ _ (@zJ _ _ _ _ _ _ _ _ _ _ _ _ _ _ _ _ UT.ok hr (by rfl) UT.m UT.kp UT.b .nil zS (@zA _ _ _ _ _ (@zu _ _ _ _ _ _ _ _ _ _ xy (@pv _ 0 _ _ (by rfl) (by first|exact Or.inl rfl|exact Or.inr (.inl rfl)|exact Or.inr (.inr rfl)) (by decide) (by decide)) (@zo _ _ _ (@pv _ 1 _ _ (by rfl) (by first|exact Or.inl rfl|exact Or.inr (.inl rfl)|exact Or.inr (.inr rfl)) (by decide) (by decide))) yC) zB (by rfl)) (by decide) (by rfl) (by rfl)) (@yE _ _ _ _ _ _ rfl (@zN _ _ _ _ _ (@zL _ _ 4 _ sA.nd rfl (.inl rfl) (by first|exact .inl rfl|exact .inr rfl|assumption)) (@zN _ _ _ _ _ (@zL _ _ 5 _ sA.nd rfl (.inl rfl) (by first|exact .inl rfl|exact .inr rfl|assumption)) zt (by rfl)) (by rfl)) (by rfl) (by rfl)) (by rfl) (by rfl) (by rfl)) (@zF _ _ _ _ _ (@zi _ _ 6 _ _ _ _ sA.nd rfl (.inl rfl) (@zq _ _ _ _ zB) (by rfl) (by first|exact .inl rfl|exact .inr rfl|assumption)) (@zF _ _ _ _ _ (@yn _ _ _ _ _ _ _ _ PassesOwn.never rfl (@kA _ _ _ _ _ _ _ _ _ true true rfl G.zip (@zA _ _ _ _ _ (@pv _ 3 _ _ (by rfl) (by first|exact Or.inl rfl|exact Or.inr (.inl rfl)|exact Or.inr (.inr rfl)) (by decide) (by decide)) (@zA _ _ _ _ _ (@pv _ 5 _ _ (by rfl) (by first|exact Or.inl rfl|exact Or.inr (.inl rfl)|exact Or.inr (.inr rfl)) (by decide) (by decide)) zB (by rfl)) (by rfl)) (by rfl) (by rfl)) (@yE _ _ _ _ _ _ rfl (@zN _ _ _ _ _ (@zL _ _ 7 _ sA.nd rfl (.inl rfl) (by first|exact .inl rfl|exact .inr rfl|assumption)) (@zN _ _ _ _ _ (@zL _ _ 8 _ sA.nd rfl (.inl rfl) (by first|exact .inl rfl|exact .inr rfl|assumption)) zt (by rfl)) (by rfl)) (by rfl) (by rfl)) (@zK _ _ _ (@xH _ _ _ _ (@wn _ _ _ _ _ _ _ _ _ _ _ _ PySem.F.plainAttrs_list PySem.F.slot_list_extend PySem.F.type_list_extend ux (@pv _ 6 _ _ (by rfl) (by first|exact Or.inl rfl|exact Or.inr (.inl rfl)|exact Or.inr (.inr rfl)) (by decide) (by decide)) (@zA _ _ _ _ _ (@zq _ _ _ _ (@zA _ _ _ _ _ (@pv _ 7 _ _ (by rfl) (by first|exact Or.inl rfl|exact Or.inr (.inl rfl)|exact Or.inr (.inr rfl)) (by decide) (by decide)) (@zA _ _ _ _ _ (@pv _ 8 _ _ (by rfl) (by first|exact Or.inl rfl|exact Or.inr (.inl rfl)|exact Or.inr (.inr rfl)) (by decide) (by decide)) zB (by rfl)) (by rfl))) zB (by rfl)) (by rfl) (by rfl) (by rfl) (by rfl) (by rfl)) (by rfl))) (by intro _;rfl)) (@zK _ _ _ (@zU _ _ _ _ (@zX _ _ _ _ _ (@zA _ _ _ _ _ (@zR _ _ _ _ _ _ _ _ xg (@zR _ _ _ _ _ _ _ _ xg (@zq _ _ _ _ (@zA _ _ _ _ _ (@zX _ _ _ _ _ (@zA _ _ _ _ _ (@zY _ _ _ _ _ _ _ zd (@pv _ 0 _ _ (by rfl) (by first|exact Or.inl rfl|exact Or.inr (.inl rfl)|exact Or.inr (.inr rfl)) (by decide) (by decide)) zE (fun _ _=>rfl)) (@zA _ _ _ _ _ (@zY _ _ _ _ _ _ _ zd (@pv _ 0 _ _ (by rfl) (by first|exact Or.inl rfl|exact Or.inr (.inl rfl)|exact Or.inr (.inr rfl)) (by decide) (by decide)) (@pv _ 1 _ _ (by rfl) (by first|exact Or.inl rfl|exact Or.inr (.inl rfl)|exact Or.inr (.inr rfl)) (by decide) (by decide)) (fun _ _=>rfl)) zB (by rfl)) (by rfl))) zB (by rfl))) (@pv _ 2 _ _ (by rfl) (by first|exact Or.inl rfl|exact Or.inr (.inl rfl)|exact Or.inr (.inr rfl)) (by decide) (by decide))) (@pv _ 4 _ _ (by rfl) (by first|exact Or.inl rfl|exact Or.inr (.inl rfl)|exact Or.inr (.inr rfl)) (by decide) (by decide))) (@zA _ _ _ _ _ (@pv _ 6 _ _ (by rfl) (by first|exact Or.inl rfl|exact Or.inr (.inl rfl)|exact Or.inr (.inr rfl)) (by decide) (by decide)) zB (by rfl)) (by rfl))))))))))),?_⟩
 have nl:=zc row
 have p8:2 ^ n≤2 ^ 4:=Nat.pow_le_pow_right (by decide) n20
 have e8:2 ^ 4=16:=rfl
 refine⟨_,rfl,p,_,rfl,.inl (SqL.of hp),rfl,_,rfl,?_⟩
 cases n with
 | zero =>
  have rl1:row.length=1:=rl
  rw[decide_eq_true (show V.int (((zT row).length:Nat):Int)=V.int 1 by rw[nl,rl1];rfl)]
  refine yP ⟨(by show 0≤sizeLine;decide),fun l hl=>⟨_,rfl,p,_,rfl,.inl (SqL.of (zC hl _ _ _ hp)),fun le hle=>⟨(by show 2≤sizeLine;decide),fun c hc=>?_⟩⟩⟩
  have s1:=zC hl (.lst [])
  have s2:=zC hle (.lst (zT row))
  have s3:=zC hc (.tup [.ref l,.ref le])
  exact k c l le [] _ ((s1.trans s2).trans s3) (zP hc _) (s3 _ _ (s2 _ _ (zP hl _))) trivial (s3 _ _ (zP hle _))
 | succ m =>
  obtain⟨t1,t2,t3⟩:=wU rl
  obtain⟨la,lb⟩:=xn rl
  have pw:2 ^ (m+1)=2 ^ m*2:=Nat.pow_succ ..
  have p0:=Nat.one_le_two_pow (n:=m)
  rw[decide_eq_false (show ¬ V.int (((zT row).length:Nat):Int)=V.int 1 by intro z;injection z with z;lia)]
  refine zv ⟨_,rfl,p,_,rfl,.inl (SqL.of hp),_,_,rfl,rfl,⟨by decide,by decide⟩,?_⟩
  have eh:(((zT row).length:Nat):Int) / 2=((row.length / 2:Nat):Int):=by rw[nl];lia
  simp only[eh]
  refine⟨_,rfl,_,rfl,_,rfl,p,_,rfl,SqL.of hp,fun p1 hp1=>?_⟩
  rw[pP row _ t3]
  have s1:=zC hp1 (.lst (zT (row.take (row.length / 2))))
  refine⟨m,rfl,p1,row.take (row.length / 2),rfl,zP hp1 _,la,by lia,fun c2 lf2 le2 ps2 H2 s2 hc2 hf2 pr2 he2=>?_⟩
  have u2:=s1.trans s2
  refine⟨c2,_,rfl,SqT.of hc2,rfl,_,_,rfl,_,_,rfl,rfl,?_⟩
  refine⟨_,rfl,_,rfl,_,rfl,p,_,rfl,SqL.of (u2 _ _ hp),fun p3 hp3=>?_⟩
  rw[pQ row _ t3]
  have s3:=zC hp3 (.lst (zT (row.drop (row.length / 2))))
  refine⟨m,rfl,p3,row.drop (row.length / 2),rfl,zP hp3 _,lb,by lia,fun c4 lf4 le4 ps4 H4 s4 hc4 hf4 pr4 he4=>?_⟩
  have u4:=s3.trans s4
  refine⟨c4,_,rfl,SqT.of hc4,rfl,_,_,rfl,_,_,rfl,rfl,?_⟩
  have u24:=u2.trans u4
  obtain⟨xl,xf⟩:=wV m _ la
  obtain⟨yl,yf⟩:=wV m _ lb
  have pl2:=pr2.len
  have pl4:=pr4.len
  have he2':=u4 _ _ he2
  have hf2':=u4 _ _ hf2
  have pr2':=pr2.tups (Tups.of u4)
  have hp4:=u24 _ _ hp
  generalize hF:(xC m (row.take (row.length / 2))).2=fst at *
  generalize hS:(xC m (row.drop (row.length / 2))).2=snd at *
  refine⟨(by show 0≤sizeLine;decide),fun l8 hl8=>?_⟩
  have s8:=zC hl8 (.lst [])
  have hn8:H l8=none:=xh u24 hl8
  have n38:le2≠l8:=zG he2' hl8
  have n68:le4≠l8:=zG he4 hl8
  refine⟨_,rfl,_,rfl,le2,le4,_,_,rfl,SqL.of (s8 _ _ he2'),SqL.of (s8 _ _ he4),?_⟩
  refine oi (K:=K) (b1:=true) (b2:=true) (a1:=le2) (a2:=le4) (xs:=zT fst) (ys:=zT snd) (by rw[zc,zc,xl,yl]) (fun j σ H7=>(∃ v7 v8,σ=[some (.ref p),some (.int ((row.length / 2:Nat):Int)),some (.ref lf2),some (.ref le2),some (.ref lf4),some (.ref le4),some (.ref l8),v7,v8])∧Same H4 H7∧H7 l8=some (.lst (zT (yO (fst.take j) (snd.take j))))) ⟨⟨_,_,rfl⟩,s8,zP hl8 _⟩ (fun j σ H7 _ z=>⟨SqL.of (z.2.1 _ _ he2'),SqL.of (z.2.1 _ _ he4)⟩) ?_ ?_
  ·rintro j x y T σ H7 hx hy hT ⟨⟨v7,v8,rfl⟩,s9,h8⟩
   obtain⟨j1,rfl⟩:=num_at hx
   obtain⟨j2,rfl⟩:=num_at hy
   have sT:=zC hT (.tup [.int ((fst.getD j 0:Nat):Int),.int ((snd.getD j 0:Nat):Int)])
   refine⟨T,_,rfl,SqT.of zD,rfl,_,_,rfl,_,_,rfl,rfl,?_⟩
   refine⟨_,rfl,.inl ⟨rfl,_,SqL.of (sT _ _ h8)⟩,_,rfl,_,rfl,(by show 2≤sizeLine;decide),fun q hq=>?_⟩
   have sq:=zC hq (.lst [.int ((fst.getD j 0:Nat):Int),.int ((snd.getD j 0:Nat):Int)])
   have tl:=xB (fst.take j) (snd.take j) (by rw[List.length_take,List.length_take];lia)
   rw[List.length_take]at tl
   refine⟨l8,q,_,_,rfl,rfl,sq _ _ (sT _ _ h8),zP hq _,by rw[zc,sizeLine_eq,tl];show _+2≤_;lia,?_⟩
   refine⟨⟨_,_,rfl⟩,fun c o e=>?_,?_⟩
   ·rw[zH (zG e hl8)];exact sq _ _ (sT _ _ (s9 c o e))
   ·rw[wM fst snd j j1 j2]
    have e:zT (yO (fst.take j) (snd.take j)++[fst.getD j 0,snd.getD j 0])=zT (yO (fst.take j) (snd.take j))++[.int ((fst.getD j 0:Nat):Int),.int ((snd.getD j 0:Nat):Int)]:=by rw[← kh];rfl
    rw[e];exact zD
  ·rintro σ H7 ⟨⟨v7,v8,rfl⟩,s9,h8⟩
   rw[List.take_of_length_le (by rw[zc];exact Nat.le_refl _),List.take_of_length_le (by rw[zc];lia)]at h8
   have hp7:=s9 _ _ hp4
   refine⟨_,rfl,p,_,0,_,rfl,rfl,SqL.of hp7,yD (j:=0) (pR row 0 (by lia)),?_⟩
   refine⟨_,rfl,_,rfl,p,_,_,_,rfl,rfl,SqL.of hp7,yD (pR row (row.length / 2) (by lia)),(by show 2≤sizeLine;decide),fun t ht=>?_⟩
   have s5:=zC ht (.tup [.int ((row.getD 0 0:Nat):Int),.int ((row.getD (row.length / 2) 0:Nat):Int)])
   refine⟨(by show 1≤sizeLine;decide),fun l6 hl6=>?_⟩
   have s6:=zC hl6 (.lst [.ref t])
   refine⟨_,rfl,l6,lf2,_,_,rfl,rfl,zP hl6 _,s6 _ _ (s5 _ _ (s9 _ _ hf2')),by rw[sizeLine_eq];simp only[List.length_cons,List.length_nil];lia,fun l7 hl7=>?_⟩
   have s7:=zC hl7 (.lst ([.ref t]++ps2))
   refine⟨_,rfl,l7,lf4,_,_,rfl,rfl,zP hl7 _,s7 _ _ (s6 _ _ (s5 _ _ (s9 _ _ hf4))),by rw[sizeLine_eq,List.length_append];simp only[List.length_cons,List.length_nil];lia,fun l10 hl10=>?_⟩
   have s10:=zC hl10 (.lst (([.ref t]++ps2)++ps4))
   have u8:=((s5.trans s6).trans s7).trans s10
   refine⟨_,rfl,(by show 2≤sizeLine;decide),fun c hc=>?_⟩
   have s11:=zC hc (.tup [.ref l10,.ref l8])
   have t8:=s10 _ _ (s7 _ _ (s6 _ _ (zP ht (.tup [.int ((row.getD 0 0:Nat):Int),.int ((row.getD (row.length / 2) 0:Nat):Int)]))))
   have eN:xC (m+1) row=((row.getD 0 0,row.getD (row.length / 2) 0)::((xC m (row.take (row.length / 2))).1++(xC m (row.drop (row.length / 2))).1),yO fst snd):=by rw[← hF,← hS];rfl
   refine k c l10 l8 _ _ (u24.trans (s9.trans (u8.trans s11))) (zP hc _) (s11 _ _ (zP hl10 _)) ?_ (by rw[eN];exact s11 _ _ (u8 _ _ h8))
   refine Prs.tups (Tups.of s11) ?_
   rw[List.append_assoc,eN]
   exact Prs.app (ps:=[.ref t]) (fs:=[(row.getD 0 0,row.getD (row.length / 2) 0)]) (show Prs _ [.ref t] [(row.getD 0 0,row.getD (row.length / 2) 0)] from⟨⟨t,rfl,t8⟩,trivial⟩) (Prs.app ((pr2'.tups (Tups.of s9)).tups (Tups.of u8)) ((pr4.tups (Tups.of s9)).tups (Tups.of u8)))
theorem oQ {f:Addr}{fd:FuncData}(F:Fun K "_law_tree" "_law_tree" rH f fd) (G:Mgs mg) (bS:Binds K fd ["_law_row"] []) (mS:mg "_law_tree" = some (.ref f)):∀ n:Nat,FnOk P w K mg base CX0 (n+1) f fd ["_law_row"] (vh n)
 | 0=>rP F G bS mS 0 ⟨fun vs H Q E ⟨m,h,_⟩=>by lia,fun A outer s H args us vs Q E _ _ _ _ ⟨m,h,_⟩=>by lia⟩
 | m+1=>rP F G bS mS (m+1) ((oQ F G bS mS m).imp fun vs H Q E ⟨m',h,q⟩=>by cases h;exact q)
abbrev vk:Sp:=fun vs H Q E=>∃ m,m≤4∧vh m vs H Q E
theorem nW {f:Addr}{fd:FuncData}(F:Fun K "_law_tree" "_law_tree" rH f fd) (G:Mgs mg) (bS:Binds K fd ["_law_row"] []) (mS:mg "_law_tree" = some (.ref f)):FnOk P w K mg base CX0 5 f fd ["_law_row"] vk :=
 FnOk.any 4 fun m hm=>(oQ F G bS mS m).mono (by lia)
end
end K45
namespace Bn
open PySem L2 Own
end Bn
namespace L2
open PySem PySem.Spec PyProof.Rows Own
end L2
namespace Bn
open PySem L2 Own
def gv (k:Nat):Nt:=⟨2 ^ k,yj k (List.range (2 ^ k)),List.range (2 ^ k)⟩
theorem iR:∀ k,k<5→(gv k).forks.length≤32∧∀ f∈(gv k).forks,f.1<2 ^ k∧f.2<2 ^ k∧f.1≠f.2:=by decide +kernel
theorem ly {k:Nat}(h:k<5):2 ^ k≤16:=by
 show 2 ^ k≤2 ^ 4
 exact Nat.pow_le_pow_right (show 0<2 by decide) (show k≤4 by lia)
theorem gu {k:Nat}(h:k<5):(gv k).Ok:=by
 obtain⟨a,b⟩:=iR k h
 exact⟨Nat.one_le_two_pow,ly h,Nat.le_trans a (by decide),b,.refl _⟩
end Bn
namespace K45
open PySem L2 Own Bn
abbrev rL:Stmt:=top 29
def vw (m:Nat):Sp:=fun vs H Q _=>∃ p row,vs=[.ref p]∧H p=some (.lst (zT row))∧row.length=2 ^ m∧m≤4∧∀ l ps H',Same H H'→H' l=some (.lst ps)→Prs H' ps (yj m row)→Q (.ref l) H'
theorem gF (row:List Nat) (j:Nat) (h:j<row.length):row.reverse.getD j 0=row.getD (row.length-1-j) 0:=by
 rw[List.getD_eq_getElem?_getD,List.getElem?_reverse h,List.getD_eq_getElem?_getD]
section
variable {P:Program}{w:World}{K:PySem.W.Frag}{mg:Str→Option Value}{base:Heap}
theorem i4:FnScope ["_law_row","_law_half","_law_forks"] ["_law_row"] (zM rL):=⟨rfl,rfl,rfl,by decide +kernel,rfl,by decide +kernel,by decide +kernel⟩
theorem rS {f:Addr}{fd:FuncData}(F:Fun K "_law_block" "_law_block" rL f fd) (G:Mgs mg) (bS:Binds K fd ["_law_row"] []) (mS:mg "_law_block" = some (.ref f)) (n:Nat)
  (GS:FnOk P w K mg base CX0 n f fd ["_law_row"] (fun vs H Q E=>∃ m,n=m+1∧vw m vs H Q E)):FnOk P w K mg base CX0 (n+1) f fd ["_law_row"] (vw n):=by
 have UB:Use P w K mg base "_law_block" ["_law_row"] n (fun vs H Q E=>∃ m,n=m+1∧vw m vs H Q E) f fd:=⟨GS,bS,F.kp,mS⟩
 refine F.ok i4 (fun vs H Q E h=>?_) (fun cdv A outer s H vs Q E hr h=>?_)
 ·obtain⟨p,row,rfl,_⟩:=h
  rfl
 obtain⟨p,row,rfl,hp,rl,n20,k⟩:=h
 refine⟨_,(@zF _ _ _ _ _ (@yM _ _ _ _ _ _ _ _ (@zj _ _ _ _ _ _ _ _ y0 (@zQ _ _ _ _ _ _ _ _ _ zW (by rfl) G.len PySem.boot_len (@zA _ _ _ _ _ (@pv _ 0 _ _ (by rfl) (by first|exact Or.inl rfl|exact Or.inr (.inl rfl)|exact Or.inr (.inr rfl)) (by decide) (by decide)) zB (by rfl)) (by decide) (by decide) (by rfl) (by rfl)) zE (zp _)) (@zK _ _ _ (@zU _ _ _ _ (@zq _ _ _ _ zB))) zk) (@zF _ _ _ _ _ (@zi _ _ 1 _ _ _ _ i4.nd rfl (.inl rfl) (@zR _ _ _ _ _ _ _ _ xW (@zQ _ _ _ _ _ _ _ _ _ zW (by rfl) G.len PySem.boot_len (@zA _ _ _ _ _ (@pv _ 0 _ _ (by rfl) (by first|exact Or.inl rfl|exact Or.inr (.inl rfl)|exact Or.inr (.inr rfl)) (by decide) (by decide)) zB (by rfl)) (by decide) (by decide) (by rfl) (by rfl)) zE) (by rfl) (by first|exact .inl rfl|exact .inr rfl|assumption)) (@zF _ _ _ _ _ (@uD _ 2 _ _ _ _ none _ _ _ _ _ _ _ _ ["_law_i","_law_row"] [none,some 0] i4.nd rfl rfl rfl (@yb _ _ _ _ _ _ rfl G.range (@zA _ _ _ _ _ (@pv _ 1 _ _ (by rfl) (by first|exact Or.inl rfl|exact Or.inr (.inl rfl)|exact Or.inr (.inr rfl)) (by decide) (by decide)) zB (by rfl)) (by rfl)) (CapOk.of (by kernel_rfl)) (fun _ _ _ _ _=>(@zL _ _ 0 _ (show (["_law_i","_law_row"]:List Str).Nodup from by decide +kernel) rfl (.inl rfl) (.inr rfl))) (fun _ _ _ _ _=>yN) (fun _ _ _ _ _=>(@zX _ _ _ _ _ (@zA _ _ _ _ _ (@zY _ _ _ _ _ _ (lj K) zd (@pv _ 1 _ _ (by rfl) (by first|exact Or.inl rfl|exact Or.inr (.inl rfl)|exact Or.inr (.inr rfl)) (by decide) (by decide)) (@pv _ 0 _ _ (by rfl) (by first|exact Or.inl rfl|exact Or.inr (.inl rfl)|exact Or.inr (.inr rfl)) (by decide) (by decide)) (fun _ _=>rfl)) (@zA _ _ _ _ _ (@zY _ _ _ _ _ _ (lj K) zd (@pv _ 1 _ _ (by rfl) (by first|exact Or.inl rfl|exact Or.inr (.inl rfl)|exact Or.inr (.inr rfl)) (by decide) (by decide)) (@zR _ _ _ _ _ _ _ _ yz (@zR _ _ _ _ _ _ _ _ yz (@zQ _ _ _ _ _ _ _ _ (iW K) mj (by rfl) G.len PySem.boot_len (@zA _ _ _ _ _ (@pv _ 1 _ _ (by rfl) (by first|exact Or.inl rfl|exact Or.inr (.inl rfl)|exact Or.inr (.inr rfl)) (by decide) (by decide)) zB (by rfl)) (by decide) (by decide) (by rfl) (by rfl)) zE) (@pv _ 0 _ _ (by rfl) (by first|exact Or.inl rfl|exact Or.inr (.inl rfl)|exact Or.inr (.inr rfl)) (by decide) (by decide))) (fun _ _=>rfl)) zB (by rfl)) (by rfl)))) (by intro _;rfl) (by with_unfolding_all rfl)) (@zK _ _ _ (@zU _ _ _ _ (@zR _ _ _ _ _ _ _ _ xg (@zR _ _ _ _ _ _ _ _ xg (@pv _ 2 _ _ (by rfl) (by first|exact Or.inl rfl|exact Or.inr (.inl rfl)|exact Or.inr (.inr rfl)) (by decide) (by decide)) (@zJ _ _ _ _ _ _ _ _ _ _ _ _ _ _ _ _ UB.ok hr (by rfl) UB.m UB.kp UB.b .nil zS (@zA _ _ _ _ _ (@zu _ _ _ _ _ _ _ _ _ _ xy (@pv _ 0 _ _ (by rfl) (by first|exact Or.inl rfl|exact Or.inr (.inl rfl)|exact Or.inr (.inr rfl)) (by decide) (by decide)) yC (@zo _ _ _ (@pv _ 1 _ _ (by rfl) (by first|exact Or.inl rfl|exact Or.inr (.inl rfl)|exact Or.inr (.inr rfl)) (by decide) (by decide)))) zB (by rfl)) (by decide) (by rfl) (by rfl))) (@zJ _ _ _ _ _ _ _ _ _ _ _ _ _ _ _ _ UB.ok hr (by rfl) UB.m UB.kp UB.b .nil zS (@zA _ _ _ _ _ (@zu _ _ _ _ _ _ _ _ _ _ xy (@pv _ 0 _ _ (by rfl) (by first|exact Or.inl rfl|exact Or.inr (.inl rfl)|exact Or.inr (.inr rfl)) (by decide) (by decide)) (@zo _ _ _ (@pv _ 1 _ _ (by rfl) (by first|exact Or.inl rfl|exact Or.inr (.inl rfl)|exact Or.inr (.inr rfl)) (by decide) (by decide))) yC) zB (by rfl)) (by decide) (by rfl) (by rfl)))))))),?_⟩
 have nl:=zc row
 have p8:2 ^ n≤2 ^ 4:=Nat.pow_le_pow_right (by decide) n20
 have e8:2 ^ 4=16:=rfl
 refine⟨_,rfl,p,_,rfl,.inl (SqL.of hp),rfl,_,rfl,?_⟩
 cases n with
 | zero =>
  have rl1:row.length=1:=rl
  rw[decide_eq_true (show V.int (((zT row).length:Nat):Int)=V.int 1 by rw[nl,rl1];rfl)]
  exact yP ⟨(by show 0≤sizeLine;decide),fun l hl=>k l [] _ (zC hl _) (zP hl _) trivial⟩
 | succ m =>
  obtain⟨t1,t2,t3⟩:=wU rl
  obtain⟨la,lb⟩:=xn rl
  have pw:2 ^ (m+1)=2 ^ m*2:=Nat.pow_succ ..
  have p0:=Nat.one_le_two_pow (n:=m)
  rw[decide_eq_false (show ¬ V.int (((zT row).length:Nat):Int)=V.int 1 by intro z;injection z with z;lia)]
  refine zv ⟨_,rfl,p,_,rfl,.inl (SqL.of hp),_,_,rfl,rfl,⟨by decide,by decide⟩,?_⟩
  have eh:(((zT row).length:Nat):Int) / 2=((row.length / 2:Nat):Int):=by rw[nl];lia
  simp only[eh]
  refine⟨_,rfl,((row.length / 2:Nat):Int),rfl,by lia,by lia,fun lc hlc=>?_⟩
  refine uL (lo:=0) (n:=((row.length / 2:Nat):Int).toNat) (fun j acc σ H6=>(∃ v0,σ=[v0,some (.ref p)])∧Same H H6∧H6 lc=some (.lst acc)∧acc.length=j∧Prs H6 acc (((row.take (row.length / 2)).zip row.reverse).take j)) ⟨⟨_,rfl⟩,zC hlc _,zD,rfl,trivial⟩ (fun j acc σ H6 z=>z.2.2.1) ?_ ?_
  ·rintro j acc σ H6 hj ⟨⟨v0,rfl⟩,s6,h6,al,pr6⟩
   have jl:j<row.length / 2:=by lia
   have hp6:=s6 _ _ hp
   have e0:(0:Int)+((j:Nat):Int)=((j:Nat):Int):=Int.zero_add _
   refine⟨_,rfl,_,rfl,p,_,_,_,rfl,rfl,SqL.of hp6,(by rw[e0];exact yD (pR row j (by lia))),?_⟩
   refine⟨_,rfl,_,rfl,p,_,rfl,.inl (SqL.of hp6),_,_,rfl,rfl,_,rfl,_,_,rfl,rfl,?_⟩
   have ei:(((zT row).length:Nat):Int)-1-(0+((j:Nat):Int))=((row.length-1-j:Nat):Int):=by rw[nl];lia
   refine⟨p,_,_,_,rfl,rfl,SqL.of hp6,(by rw[ei];exact yD (pR row (row.length-1-j) (by lia))),?_⟩
   rw[← gF row j (by lia)]
   refine⟨(by show 2≤sizeLine;decide),fun t ht=>?_⟩
   have s7:=zC ht (.tup [.int ((row.getD j 0:Nat):Int),.int ((row.reverse.getD j 0:Nat):Int)])
   have h7:=s7 _ _ h6
   refine⟨h7,by rw[sizeLine_eq];lia,nx hj ⟨⟨_,rfl⟩,fun c o e=>?_,zD,by rw[List.length_append,al];rfl,?_⟩⟩
   ·rw[zH (zG e hlc)];exact s7 _ _ (s6 c o e)
   ·rw[sj (by rw[List.length_take];lia) (by rw[List.length_reverse];lia)]
    refine Prs.add (f:=((row.take (row.length / 2)).getD j 0,row.reverse.getD j 0)) ?_ ((pr6.tups (Tups.of s7)).tups (Tups.lst h7))
    rw[Tups.lst h7 _ _ (zP ht _),List.getD_eq_getElem?_getD (l:=row.take _),List.getElem?_take_of_lt jl,← List.getD_eq_getElem?_getD]
  rintro acc σ H6 ⟨⟨v0,rfl⟩,s6,h6,al,pr6⟩
  rw[Int.toNat_natCast]at al pr6
  rw[List.take_of_length_le (by rw[List.length_zip,List.length_take,List.length_reverse];lia)]at pr6
  have hp6:=s6 _ _ hp
  refine⟨_,rfl,_,rfl,_,rfl,_,rfl,p,_,rfl,SqL.of hp6,fun p5 hp5=>?_⟩
  rw[pP row _ t3]
  have s5:=zC hp5 (.lst (zT (row.take (row.length / 2))))
  refine⟨m,rfl,p5,row.take (row.length / 2),rfl,zP hp5 _,la,by lia,fun l6 ps6 H7 s6' h6' pr6'=>?_⟩
  have u6:=s5.trans s6'
  have b6:=xP m (row.take (row.length / 2))
  rw[la]at b6
  have b6':m*2 ^ m≤4*16:=Nat.mul_le_mul (by lia) (by lia)
  have pl6:=pr6'.len
  refine⟨lc,l6,_,_,rfl,rfl,u6 _ _ h6,h6',by rw[sizeLine_eq];lia,fun l7 hl7=>?_⟩
  have s8:=zC hl7 (.lst (acc++ps6))
  have pr8:=(Prs.app (pr6.tups (Tups.of u6)) pr6').tups (Tups.of s8)
  have u8:=s6.trans (u6.trans s8)
  have hp8:=u8 _ _ hp
  have h8:=zP hl7 (.lst (acc++ps6))
  generalize L2.upd H7 l7 _=H8 at s8 pr8 u8 hp8 h8 ⊢
  refine⟨_,rfl,_,rfl,_,rfl,p,_,rfl,SqL.of hp8,fun p9 hp9=>?_⟩
  rw[pQ row _ t3]
  have s9:=zC hp9 (.lst (zT (row.drop (row.length / 2))))
  refine⟨m,rfl,p9,row.drop (row.length / 2),rfl,zP hp9 _,lb,by lia,fun l9 ps9 H9 s9' h9 pr9=>?_⟩
  have u9:=s9.trans s9'
  have b9:=xP m (row.drop (row.length / 2))
  rw[lb]at b9
  have pl9:=pr9.len
  refine⟨l7,l9,_,_,rfl,rfl,u9 _ _ h8,h9,by rw[List.length_append,sizeLine_eq];lia,fun l10 hl10=>?_⟩
  have s10:=zC hl10 (.lst ((acc++ps6)++ps9))
  have pr10:=(Prs.app (pr8.tups (Tups.of u9)) pr9).tups (Tups.of s10)
  refine k l10 _ _ (u8.trans (u9.trans s10)) (zP hl10 _) ?_
  have e:yj (m+1) row=(row.take (row.length / 2)).zip row.reverse++yj m (row.take (row.length / 2))++yj m (row.drop (row.length / 2)):=by
   conv=>lhs;unfold yj
   rw[if_neg (by lia)]
  rw[e];exact pr10
theorem oT {f:Addr}{fd:FuncData}(F:Fun K "_law_block" "_law_block" rL f fd) (G:Mgs mg) (bS:Binds K fd ["_law_row"] []) (mS:mg "_law_block" = some (.ref f)):∀ n:Nat,FnOk P w K mg base CX0 (n+1) f fd ["_law_row"] (vw n)
 | 0=>rS F G bS mS 0 ⟨fun vs H Q E ⟨m,h,_⟩=>by lia,fun A outer s H args us vs Q E _ _ _ _ ⟨m,h,_⟩=>by lia⟩
 | m+1=>rS F G bS mS (m+1) ((oT F G bS mS m).imp fun vs H Q E ⟨m',h,q⟩=>by cases h;exact q)
abbrev wd:Sp:=fun vs H Q E=>∃ m,m≤4∧vw m vs H Q E
theorem nk {f:Addr}{fd:FuncData}(F:Fun K "_law_block" "_law_block" rL f fd) (G:Mgs mg) (bS:Binds K fd ["_law_row"] []) (mS:mg "_law_block" = some (.ref f)):FnOk P w K mg base CX0 5 f fd ["_law_row"] wd :=
 FnOk.any 4 fun m hm=>(oT F G bS mS m).mono (by lia)
end
abbrev lX:Stmt:=top 31
def y3 (way k:Nat):Nt:=if way=0 then xQ k else if way=1 then wW k else y7 k
theorem oV {way k:Nat}(h:k<5):(y3 way k).Ok:=by
 unfold y3
 split
 ·exact lE h
 ·split
  ·exact jV h
  ·exact nP h
theorem pO (way k:Nat):(y3 way k).lanes=2 ^ k:=by
 unfold y3
 split
 ·rfl
 ·split<;>rfl
def tT:Sp:=fun vs H Q _=>∃ way k:Nat,vs=[.int (way:Nat),.int (k:Nat)]∧k<5∧∀ r fr er ps H',Same H H'→NetAt H' r fr er ps (y3 way k)→Q (.ref r) H'
theorem sK {H:Hp}{ps:List V}{fs:List Fk}(h:Prs H ps fs):∀ n:Nat,Prs H (List.replicate n ps).flatten (List.replicate n fs).flatten
 | 0=>trivial
 | n+1=>by
  rw[List.replicate_succ,List.replicate_succ,List.flatten_cons,List.flatten_cons]
  exact Prs.app h (sK h n)
section
variable {P:Program}{w:World}{K:PySem.W.Frag}{mg:Str→Option Value}{base:Heap}
theorem qb:FnScope ["_law_way","_law_k","_law_row","_law_forks","_law_ends_here"] ["_law_way","_law_k"] (zM lX):=⟨rfl,rfl,rfl,by decide +kernel,rfl,by decide +kernel,by decide +kernel⟩
theorem jt {f fB fS fT:Addr}{fd dB dS dT:FuncData}(F:Fun K "_law_made" "_law_made" lX f fd) (G:Mgs mg) (UB:Use P w K mg base "_law_block" ["_law_row"] 5 wd fB dB) (US:Use P w K mg base "_law_stairway" ["_law_row"] 10 vn fS dS) (UT:Use P w K mg base "_law_tree" ["_law_row"] 5 vk fT dT):FnOk P w K mg base CX0 11 f fd ["_law_way","_law_k"] tT:=by
 refine F.ok qb (fun vs H Q E h=>?_) (fun cdv A outer s H vs Q E hr h=>?_)
 ·obtain⟨way,k,rfl,_⟩:=h
  rfl
 obtain⟨way,k,rfl,k5,q⟩:=h
 have hr5:Room 5 _:=hr.mono (by decide)
 refine⟨_,(@zF _ _ _ _ _ (@zi _ _ 2 _ _ _ _ qb.nd rfl (.inl rfl) (@x6 _ _ _ _ _ _ _ rfl (by rfl) G.list (by rfl) G.range (@zA _ _ _ _ _ (@zY _ _ _ _ _ _ _ zd (@zq _ _ _ _ (@zA _ _ _ _ _ zE (@zA _ _ _ _ _ zE (@zA _ _ _ _ _ zE (@zA _ _ _ _ _ zE (@zA _ _ _ _ _ zE zB (by rfl)) (by rfl)) (by rfl)) (by rfl)) (by rfl))) (@pv _ 1 _ _ (by rfl) (by first|exact Or.inl rfl|exact Or.inr (.inl rfl)|exact Or.inr (.inr rfl)) (by decide) (by decide)) (fun _ _=>rfl)) zB (by rfl)) (by rfl) (by rfl)) (by rfl) (by first|exact .inl rfl|exact .inr rfl|assumption)) (@zF _ _ _ _ _ (@uE _ _ 3 4 _ _ _ _ _ _ _ _ _ _ _ rfl qb.nd rfl rfl (by decide) rfl rfl (@zA _ _ _ _ _ (@zR _ _ _ _ _ _ _ _ gJ (@zJ _ _ _ _ _ _ _ _ _ _ _ _ _ _ _ _ UB.ok hr5 (by rfl) UB.m UB.kp UB.b .nil zS (@zA _ _ _ _ _ (@pv _ 2 _ _ (by rfl) (by first|exact Or.inl rfl|exact Or.inr (.inl rfl)|exact Or.inr (.inr rfl)) (by decide) (by decide)) zB (by rfl)) (by decide) (by rfl) (by rfl)) (@pv _ 1 _ _ (by rfl) (by first|exact Or.inl rfl|exact Or.inr (.inl rfl)|exact Or.inr (.inr rfl)) (by decide) (by decide))) (@zA _ _ _ _ _ (@pv _ 2 _ _ (by rfl) (by first|exact Or.inl rfl|exact Or.inr (.inl rfl)|exact Or.inr (.inr rfl)) (by decide) (by decide)) zB (by rfl)) (by rfl)) (by rfl) (by rfl)) (@zF _ _ _ _ _ (@yM _ _ _ _ _ _ _ _ (@zj _ _ _ _ _ _ _ _ y0 (@pv _ 0 _ _ (by rfl) (by first|exact Or.inl rfl|exact Or.inr (.inl rfl)|exact Or.inr (.inr rfl)) (by decide) (by decide)) zE (zp _)) (@zK _ _ _ (@yG _ _ _ _ _ _ (@zJ _ _ _ _ _ _ _ _ _ _ _ _ _ _ _ _ US.ok hr (by rfl) US.m US.kp US.b .nil zS (@zA _ _ _ _ _ (@pv _ 2 _ _ (by rfl) (by first|exact Or.inl rfl|exact Or.inr (.inl rfl)|exact Or.inr (.inr rfl)) (by decide) (by decide)) zB (by rfl)) (by decide) (by rfl) (by rfl)) (@yE _ _ _ _ _ _ rfl (@zN _ _ _ _ _ (@zL _ _ 3 _ qb.nd rfl (.inl rfl) (by first|exact .inl rfl|exact .inr rfl|assumption)) (@zN _ _ _ _ _ (@zL _ _ 4 _ qb.nd rfl (.inl rfl) (by first|exact .inl rfl|exact .inr rfl|assumption)) zt (by rfl)) (by rfl)) (by rfl) (by rfl)) (by rfl) (by rfl) (by rfl))) zk) (@zF _ _ _ _ _ (@yM _ _ _ _ _ _ _ _ (@zj _ _ _ _ _ _ _ _ y0 (@pv _ 0 _ _ (by rfl) (by first|exact Or.inl rfl|exact Or.inr (.inl rfl)|exact Or.inr (.inr rfl)) (by decide) (by decide)) zE (zp _)) (@zK _ _ _ (@yG _ _ _ _ _ _ (@zJ _ _ _ _ _ _ _ _ _ _ _ _ _ _ _ _ UT.ok hr5 (by rfl) UT.m UT.kp UT.b .nil zS (@zA _ _ _ _ _ (@pv _ 2 _ _ (by rfl) (by first|exact Or.inl rfl|exact Or.inr (.inl rfl)|exact Or.inr (.inr rfl)) (by decide) (by decide)) zB (by rfl)) (by decide) (by rfl) (by rfl)) (@yE _ _ _ _ _ _ rfl (@zN _ _ _ _ _ (@zL _ _ 3 _ qb.nd rfl (.inl rfl) (by first|exact .inl rfl|exact .inr rfl|assumption)) (@zN _ _ _ _ _ (@zL _ _ 4 _ qb.nd rfl (.inl rfl) (by first|exact .inl rfl|exact .inr rfl|assumption)) zt (by rfl)) (by rfl)) (by rfl) (by rfl)) (by rfl) (by rfl) (by rfl))) zk) (@zK _ _ _ (@zU _ _ _ _ (@zX _ _ _ _ _ (@zA _ _ _ _ _ (@zQ _ _ _ _ _ _ _ _ _ zW (by rfl) G.len PySem.boot_len (@zA _ _ _ _ _ (@pv _ 2 _ _ (by rfl) (by first|exact Or.inl rfl|exact Or.inr (.inl rfl)|exact Or.inr (.inr rfl)) (by decide) (by decide)) zB (by rfl)) (by decide) (by decide) (by rfl) (by rfl)) (@zA _ _ _ _ _ (@zV _ _ _ _ _ _ _ _ _ zZ (by rfl) G.tuple (by rfl) (@zA _ _ _ _ _ (@pv _ 3 _ _ (by rfl) (by first|exact Or.inl rfl|exact Or.inr (.inl rfl)|exact Or.inr (.inr rfl)) (by decide) (by decide)) zB (by rfl)) (by decide) (by decide) (by rfl) (by rfl)) (@zA _ _ _ _ _ (@zV _ _ _ _ _ _ _ _ _ zZ (by rfl) G.tuple (by rfl) (@zA _ _ _ _ _ (@pv _ 4 _ _ (by rfl) (by first|exact Or.inl rfl|exact Or.inr (.inl rfl)|exact Or.inr (.inr rfl)) (by decide) (by decide)) zB (by rfl)) (by decide) (by decide) (by rfl) (by rfl)) zB (by rfl)) (by rfl)) (by rfl))))))))),?_⟩
 have p16:2 ^ k≤2 ^ 4:=Nat.pow_le_pow_right (by decide) (by lia)
 have e16:2 ^ 4=16:=rfl
 have at_k:atI [V.int 1,V.int 2,V.int 4,V.int 8,V.int 16] ((k:Nat):Int)=some (.int ((2 ^ k:Nat):Int)):=by
  have:∀ k,k<5→atI [V.int 1,V.int 2,V.int 4,V.int 8,V.int 16] ((k:Nat):Int)=some (.int ((2 ^ k:Nat):Int)):=by decide
  exact this k k5
 refine⟨(by show 5≤sizeLine;decide),fun t ht=>?_⟩
 have s0:=zC ht (.lst [.int 1,.int 2,.int 4,.int 8,.int 16])
 refine⟨_,rfl,t,_,_,_,rfl,rfl,SqL.of zD,at_k,?_⟩
 refine⟨2 ^ k,rfl,by lia,fun p hp=>?_⟩
 have s1:=zC hp (.lst (zT (List.range (2 ^ k))))
 have u1:=s0.trans s1
 have hp1:=zP hp (.lst (zT (List.range (2 ^ k))))
 show nH _ _ _ _ (L2.upd _ p (.lst (zT (List.range (2 ^ k)))))
 generalize L2.upd _ p (.lst (zT (List.range (2 ^ k))))=H1 at u1 hp1 ⊢
 clear s0 s1 hp
 refine⟨_,rfl,k,by lia,p,List.range (2 ^ k),rfl,hp1,List.length_range,by lia,fun l ps H2 s2 hl pr=>?_⟩
 have pl:=pr.len
 have bl:=xP k (List.range (2 ^ k))
 rw[List.length_range]at bl
 have b2:k*2 ^ k≤4*2 ^ 4:=Nat.mul_le_mul (by lia) p16
 have b3:ps.length*k≤(4*2 ^ 4)*4:=Nat.mul_le_mul (by lia) (by lia)
 refine⟨_,rfl,l,k,ps,rfl,rfl,hl,by lia,by lia,by rw[Int.toNat_natCast,sizeLine_eq];lia,fun l2 hl2=>?_⟩
 rw[Int.toNat_natCast]
 have s3:=zC hl2 (.lst (List.replicate k ps).flatten)
 refine⟨_,rfl,_,_,rfl,?_⟩
 let I:Nt→St→Hp→Prop:=fun N σ G=>∃ lf le qs,σ=[some (.int (way:Nat)),some (.int (k:Nat)),some (.ref p),some (.ref lf),some (.ref le)]∧Same H G∧G p=some (.lst (zT (List.range (2 ^ k))))∧G lf=some (.lst qs)∧Prs G qs N.forks∧G le=some (.lst (zT N.ends))
 have i0:I (y7 k) [some (.int (way:Nat)),some (.int (k:Nat)),some (.ref p),some (.ref l2),some (.ref p)] (L2.upd H2 l2 (.lst (List.replicate k ps).flatten)):=⟨l2,p,_,rfl,(u1.trans s2).trans s3,s3 _ _ (s2 _ _ hp1),zP hl2 _,(sK pr k).tups (Tups.of s3),s3 _ _ (s2 _ _ hp1)⟩
 dsimp only
 refine pW (I (if way=0 then xQ k else y7 k)) ?_ fun D nxt _=>?_
 ·rintro σ G ⟨lf,le,qs,rfl,sG,hpG,hf,pq,he⟩
  refine pW (I (y3 way k)) ?_ fun D nxt _=>?_
  ·rintro σ G ⟨lf,le,qs,rfl,sG,hpG,hf,pq,he⟩
   refine⟨_,rfl,p,_,rfl,.inl (SqL.of hpG),_,rfl,lf,_,rfl,.inl ⟨SqL.of hf,fun a ha=>?_⟩⟩
   have s4:=zC ha (.tup qs)
   refine⟨_,rfl,le,_,rfl,.inl ⟨SqL.of (s4 _ _ he),fun b hb=>?_⟩⟩
   have s5:=zC hb (.tup (zT (y3 way k).ends))
   refine⟨(by show 3≤sizeLine;decide),fun r hr'=>?_⟩
   rw[zc,List.length_range]
   have s6:=zC hr' (.tup [.int ((2 ^ k:Nat):Int),.ref a,.ref b])
   refine q r a b qs _ (((sG.trans s4).trans s5).trans s6) ⟨?_,s6 _ _ (s5 _ _ (zP ha _)),pq.tups (Tups.of ((s4.trans s5).trans s6)),s6 _ _ (zP hb _)⟩
   rw[pO];exact zP hr' _
  ·refine⟨_,rfl,rfl,_,rfl,?_⟩
   by_cases w1:way=1
   ·rw[decide_eq_true (show V.int ((way:Nat):Int)=V.int 1 by rw[w1];rfl)]
    refine yP ⟨_,rfl,k,by lia,p,List.range (2 ^ k),rfl,hpG,List.length_range,by lia,fun c lf2 le2 ps2 G2 s2 hc hf2 pr2 he2=>?_⟩
    refine⟨c,_,rfl,SqT.of hc,rfl,_,_,rfl,_,_,rfl,rfl,?_⟩
    refine nxt _ _ ⟨lf2,le2,ps2,rfl,sG.trans s2,s2 _ _ hpG,hf2,?_,?_⟩
    ·rw[show y3 way k=wW k from by unfold y3;rw[if_neg (by lia),if_pos w1]];exact pr2
    ·rw[show y3 way k=wW k from by unfold y3;rw[if_neg (by lia),if_pos w1]];exact he2
   ·rw[decide_eq_false (show ¬ V.int ((way:Nat):Int)=V.int 1 by intro z;injection z with z;lia)]
    have e:y3 way k=if way=0 then xQ k else y7 k:=by unfold y3;rw[if_neg w1]
    refine zv (nxt _ _ ⟨lf,le,qs,rfl,sG,hpG,hf,?_,?_⟩)
    ·rw[e];exact pq
    ·rw[e];exact he
 ·obtain⟨lf,le,qs,e,sG,hpG,hf,pq,he⟩:=i0
  refine⟨_,rfl,rfl,_,rfl,?_⟩
  by_cases w0:way=0
  ·rw[decide_eq_true (show V.int ((way:Nat):Int)=V.int 0 by rw[w0];rfl)]
   refine yP ⟨_,rfl,k,by lia,p,List.range (2 ^ k),rfl,hpG,List.length_range,by lia,fun c lf2 le2 ps2 G2 s2 hc hf2 pr2 he2=>?_⟩
   refine⟨c,_,rfl,SqT.of hc,rfl,_,_,rfl,_,_,rfl,rfl,?_⟩
   refine nxt _ _ ⟨lf2,le2,ps2,rfl,sG.trans s2,s2 _ _ hpG,hf2,?_,?_⟩
   ·rw[if_pos w0];exact pr2
   ·rw[if_pos w0];exact he2
  ·rw[decide_eq_false (show ¬ V.int ((way:Nat):Int)=V.int 0 by intro z;injection z with z;lia)]
   refine zv (nxt _ _ ⟨l2,p,_,rfl,(u1.trans s2).trans s3,s3 _ _ (s2 _ _ hp1),zP hl2 _,?_,?_⟩)
   ·rw[if_neg w0];exact(sK pr k).tups (Tups.of s3)
   ·rw[if_neg w0];exact s3 _ _ (s2 _ _ hp1)
end
abbrev lW:Stmt:=top 34
abbrev qg:Stmt:=top 35
def qW:Sp:=fun vs H Q _=>∃ l:Addr,vs=[.ref l]∧Pk3 H l∧∀ r fr er ps N H',Few 6 10 N→NetAt H' r fr er ps N→Pk3 H' l→But l H H'→Q (.ref r) H'
structure Lns (lanes:Nat) (moves:List Nat):Prop where
 ne:moves≠[]
 lt:∀ m∈moves,m<lanes
 up:moves.Pairwise (· < ·)
def tS:Sp:=fun vs H Q _=>∃ l r fr er ps N,vs=[.ref l,.ref r]∧Pk3 H l∧Nt.Ok N∧NetAt H r fr er ps N∧∀ p moves H',Lns N.lanes moves→H' p=some (.tup (zT moves))→Pk3 H' l→But l H H'→Q (.ref p) H'
theorem rm (way:Nat) {k:Nat}(h:k<3):(y3 way k).forks.length≤8∧(y3 way k).lanes≤4:=by
 have s:∀ k,k<3→(xQ k).forks.length≤8∧(xQ k).lanes≤4:=by decide
 have t:∀ k,k<3→(wW k).forks.length≤8∧(wW k).lanes≤4:=by decide
 have r:∀ k,k<3→(y7 k).forks.length≤8∧(y7 k).lanes≤4:=by decide
 unfold y3
 split
 ·exact s k h
 ·split
  ·exact t k h
  ·exact r k h
theorem Lns.all {lanes:Nat}(h:1≤lanes):Lns lanes (List.range lanes):=⟨fun z=>by have:=congrArg List.length z;rw[List.length_range,List.length_nil]at this;lia,fun m hm=>List.mem_range.mp hm,List.pairwise_lt_range⟩
section
variable {P:Program}{w:World}{K:PySem.W.Frag}{mg:Str→Option Value}{base:Heap}
theorem lR:FnScope ["_law_left_here","_law_way","_law_net_here","_law_k"] ["_law_left_here"] (zM lW):=⟨rfl,rfl,rfl,by decide +kernel,rfl,by decide +kernel,by decide +kernel⟩
theorem jr {f fK fA fM fC:Addr}{fd dK dA dM dC:FuncData}(F:Fun K "_law_net" "_law_net" lW f fd) (G:Mgs mg) (UK:Use P w K mg base "_law_pick" ["_law_left_here","_law_many"] 1 yo fK dK) (UA:Use P w K mg base "_law_any" ["_law_left_here"] 3 qY fA dA) (UM:Use P w K mg base "_law_made" ["_law_way","_law_k"] 11 tT fM dM) (UC:Use P w K mg base "_law_changed" ["_law_left_here","_law_net_here"] 2 lN fC dC):FnOk P w K mg base CX0 12 f fd ["_law_left_here"] qW:=by
 refine F.ok lR (fun vs H Q E h=>?_) (fun cdv A outer s H vs Q E hr h=>?_)
 ·obtain⟨l,rfl,_⟩:=h
  rfl
 obtain⟨l,rfl,S,k⟩:=h
 have hr1:Room 1 _:=hr.mono (by decide)
 have hr2:Room 2 _:=hr.mono (by decide)
 have hr3:Room 3 _:=hr.mono (by decide)
 refine⟨_,(@zF _ _ _ _ _ (@zi _ _ 1 _ _ _ _ lR.nd rfl (.inl rfl) (@zJ _ _ _ _ _ _ _ _ _ _ _ _ _ _ _ _ UK.ok hr1 (by rfl) UK.m UK.kp UK.b .nil zS (@zA _ _ _ _ _ (@pv _ 0 _ _ (by rfl) (by first|exact Or.inl rfl|exact Or.inr (.inl rfl)|exact Or.inr (.inr rfl)) (by decide) (by decide)) (@zA _ _ _ _ _ zE zB (by rfl)) (by rfl)) (by decide) (by rfl) (by rfl)) (by rfl) (by first|exact .inl rfl|exact .inr rfl|assumption)) (@zF _ _ _ _ _ (@yM _ _ _ _ _ _ _ _ (@zj _ _ _ _ _ _ _ _ y0 (@pv _ 1 _ _ (by rfl) (by first|exact Or.inl rfl|exact Or.inr (.inl rfl)|exact Or.inr (.inr rfl)) (by decide) (by decide)) zE (zp _)) (@zK _ _ _ (@zU _ _ _ _ (@zJ _ _ _ _ _ _ _ _ _ _ _ _ _ _ _ _ UA.ok hr3 (by rfl) UA.m UA.kp UA.b .nil zS (@zA _ _ _ _ _ (@pv _ 0 _ _ (by rfl) (by first|exact Or.inl rfl|exact Or.inr (.inl rfl)|exact Or.inr (.inr rfl)) (by decide) (by decide)) zB (by rfl)) (by decide) (by rfl) (by rfl)))) zk) (@zF _ _ _ _ _ (@zi _ _ 2 _ _ _ _ lR.nd rfl (.inl rfl) (@zJ _ _ _ _ _ _ _ _ _ _ _ _ _ _ _ _ UM.ok hr (by rfl) UM.m UM.kp UM.b .nil zS (@zA _ _ _ _ _ (@zJ _ _ _ _ _ _ _ _ _ _ _ _ _ _ _ _ UK.ok hr1 (by rfl) UK.m UK.kp UK.b .nil zS (@zA _ _ _ _ _ (@pv _ 0 _ _ (by rfl) (by first|exact Or.inl rfl|exact Or.inr (.inl rfl)|exact Or.inr (.inr rfl)) (by decide) (by decide)) (@zA _ _ _ _ _ zE zB (by rfl)) (by rfl)) (by decide) (by rfl) (by rfl)) (@zA _ _ _ _ _ (@zY _ _ _ _ _ _ _ zd (@zq _ _ _ _ (@zA _ _ _ _ _ zE (@zA _ _ _ _ _ zE (@zA _ _ _ _ _ zE (@zA _ _ _ _ _ zE zB (by rfl)) (by rfl)) (by rfl)) (by rfl))) (@zJ _ _ _ _ _ _ _ _ _ _ _ _ _ _ _ _ UK.ok hr1 (by rfl) UK.m UK.kp UK.b .nil zS (@zA _ _ _ _ _ (@pv _ 0 _ _ (by rfl) (by first|exact Or.inl rfl|exact Or.inr (.inl rfl)|exact Or.inr (.inr rfl)) (by decide) (by decide)) (@zA _ _ _ _ _ zE zB (by rfl)) (by rfl)) (by decide) (by rfl) (by rfl)) (fun _ _=>rfl)) zB (by rfl)) (by rfl)) (by decide) (by rfl) (by rfl)) (by rfl) (by first|exact .inl rfl|exact .inr rfl|assumption)) (@zF _ _ _ _ _ (@yn _ _ _ _ _ _ _ _ PassesOwn.never rfl (@yb _ _ _ _ _ _ rfl G.range (@zA _ _ _ _ _ (@zR _ _ _ _ _ _ _ _ xJ (@zY _ _ _ _ _ _ _ zd (@zq _ _ _ _ (@zA _ _ _ _ _ zE (@zA _ _ _ _ _ zE (@zA _ _ _ _ _ zE (@zA _ _ _ _ _ zE zB (by rfl)) (by rfl)) (by rfl)) (by rfl))) (@pv _ 1 _ _ (by rfl) (by first|exact Or.inl rfl|exact Or.inr (.inl rfl)|exact Or.inr (.inr rfl)) (by decide) (by decide)) (fun _ _=>rfl)) (@zJ _ _ _ _ _ _ _ _ _ _ _ _ _ _ _ _ UK.ok hr1 (by rfl) UK.m UK.kp UK.b .nil zS (@zA _ _ _ _ _ (@pv _ 0 _ _ (by rfl) (by first|exact Or.inl rfl|exact Or.inr (.inl rfl)|exact Or.inr (.inr rfl)) (by decide) (by decide)) (@zA _ _ _ _ _ zE zB (by rfl)) (by rfl)) (by decide) (by rfl) (by rfl))) zB (by rfl)) (by rfl)) (@zL _ _ 3 _ lR.nd rfl (.inl rfl) (by first|exact .inl rfl|exact .inr rfl|assumption)) (@zK _ _ _ (@zi _ _ 2 _ _ _ _ lR.nd rfl (.inl rfl) (@zJ _ _ _ _ _ _ _ _ _ _ _ _ _ _ _ _ UC.ok hr2 (by rfl) UC.m UC.kp UC.b .nil zS (@zA _ _ _ _ _ (@pv _ 0 _ _ (by rfl) (by first|exact Or.inl rfl|exact Or.inr (.inl rfl)|exact Or.inr (.inr rfl)) (by decide) (by decide)) (@zA _ _ _ _ _ (@pv _ 2 _ _ (by rfl) (by first|exact Or.inl rfl|exact Or.inr (.inl rfl)|exact Or.inr (.inr rfl)) (by decide) (by decide)) zB (by rfl)) (by rfl)) (by decide) (by rfl) (by rfl)) (by rfl) (by first|exact .inl rfl|exact .inr rfl|assumption))) (by intro _;rfl)) (@zK _ _ _ (@zU _ _ _ _ (@pv _ 2 _ _ (by rfl) (by first|exact Or.inl rfl|exact Or.inr (.inl rfl)|exact Or.inr (.inr rfl)) (by decide) (by decide)))))))),?_⟩
 refine⟨_,rfl,l,4,rfl,by decide,by decide,S,fun way H1 hw S1 B1=>?_⟩
 refine⟨_,rfl,rfl,_,rfl,vU (fun _=>?_) (fun z=>?_)⟩
 ·exact⟨_,rfl,l,rfl,S1,fun r fr er ps N H2 few na S2 B2=>k r fr er ps N H2 ⟨few.ok,few.ln,by have:=few.fk;lia⟩ na S2 (B1.trans B2)⟩
 refine⟨_,rfl,l,3,rfl,by decide,by decide,S1,fun kd H2 hk S2 B2=>?_⟩
 refine⟨(by show 4≤sizeLine;decide),fun t ht=>⟨_,rfl,l,4,rfl,by decide,by decide,S2.keep (zC ht _),fun v H3 hv S3 B3=>?_⟩⟩
 obtain⟨sz,zm,za⟩:=x5 (xs:=[1,2,2,0]) (v:=v) (by show v<4;lia)
 have zb:sz<3:=(show ∀ n∈[1,2,2,0],n<3 by decide) sz zm
 refine⟨t,_,_,_,rfl,rfl,SqL.of (B3 t _ (zP ht _) (S2.ne ht).symm),za,?_⟩
 have B3':But l H H3:=((B1.trans B2).trans (But.of (zC ht _))).trans B3
 clear ht B3 za zm
 refine⟨kd,sz,rfl,by lia,fun r fr er ps H4 s4 na4=>?_⟩
 obtain⟨m1,m2⟩:=rm kd zb
 have S4:=S3.keep s4
 have B4:=B3'.trans (But.of (l:=l) s4)
 refine⟨(by show 4≤sizeLine;decide),fun t ht=>?_⟩
 have s5:=zC ht (.lst [.int 0,.int 1,.int 1,.int 2])
 obtain⟨tm,mm,ma⟩:=x5 (xs:=[0,1,1,2]) (v:=way) (by show way<4;lia)
 have mb:tm≤2:=(show ∀ n∈[0,1,1,2],n≤2 by decide) tm mm
 refine⟨_,rfl,t,_,_,_,rfl,rfl,SqL.of (zP ht _),ma,?_⟩
 refine⟨_,rfl,l,2,rfl,by decide,by decide,S4.keep s5,fun v2 H5 hv2 S5 B5=>?_⟩
 have na5:=(na4.tups (Tups.of s5)).tups (B5.tups3 (S4.keep s5))
 have B5':=(B4.trans (But.of (l:=l) s5)).trans B5
 have pb:tm*v2≤2:=by
  have:tm*v2≤2*1:=Nat.mul_le_mul mb (by lia)
  lia
 have ec:((tm:Nat):Int)*((v2:Nat):Int)=((tm*v2:Nat):Int):=(Int.natCast_mul _ _).symm
 refine⟨_,_,rfl,rfl,.inl ⟨by lia,by lia⟩,?_⟩
 refine⟨_,rfl,by rw[ec];lia,by rw[ec];lia,?_⟩
 rw[ec]
 generalize tm*v2=cnt at pb
 refine wC (lo:=0) (n:=((cnt:Nat):Int).toNat) (fun i σ H2=>∃ w3 r fr er ps N,σ=[some (.ref l),some (.int (way:Nat)),some (.ref r),w3]∧Pk3 H2 l∧But l H H2∧NetAt H2 r fr er ps N∧Few 6 (8+i) N) ⟨_,r,fr,er,ps,_,rfl,S5,B5',na5,oV (by lia),by lia,by lia⟩ ?_ ?_
 ·rintro i σ H2 hi ⟨w3,r,fr,er,ps,N,rfl,S2,B2,na,few⟩
  refine⟨_,rfl,_,rfl,l,r,fr,er,ps,N,6,8+i,rfl,S2,few,by lia,na,fun r' fr' er' ps' N' H3 few' _ na' S3 B3=>?_⟩
  exact⟨_,r',fr',er',ps',N',rfl,S3,B2.trans B3,na',few'⟩
 ·rintro σ H2 ⟨w3,r,fr,er,ps,N,rfl,S2,B2,na,few⟩
  exact⟨_,rfl,k r fr er ps N H2 ⟨few.ok,few.ln,by have:=few.fk;lia⟩ na S2 B2⟩
theorem fh:FnScope ["_law_left_here","_law_net_here","_law_some_here"] ["_law_left_here","_law_net_here"] (zM qg):=⟨rfl,rfl,rfl,by decide +kernel,rfl,by decide +kernel,by decide +kernel⟩
theorem kK {f fK:Addr}{fd dK:FuncData}(F:Fun K "_law_some" "_law_some" qg f fd) (G:Mgs mg) (UK:Use P w K mg base "_law_pick" ["_law_left_here","_law_many"] 1 yo fK dK):FnOk P w K mg base CX0 2 f fd ["_law_left_here","_law_net_here"] tS:=by
 refine F.ok fh (fun vs H Q E h=>?_) (fun cdv A outer s H vs Q E hr h=>?_)
 ·obtain⟨l,r,fr,er,ps,N,rfl,_⟩:=h
  rfl
 obtain⟨l,r,fr,er,ps,N,rfl,S,ok,na,k⟩:=h
 have l16:=ok.l16
 have l1:=ok.l1
 refine⟨_,(@zF _ _ _ _ _ (@uD _ 2 _ _ _ _ (some _) _ _ _ _ _ _ _ _ ["_law_lane","_law_left_here"] [none,some 0] fh.nd rfl rfl rfl (@yb _ _ _ _ _ _ rfl G.range (@zA _ _ _ _ _ (@zY _ _ _ _ _ _ _ yB (@pv _ 1 _ _ (by rfl) (by first|exact Or.inl rfl|exact Or.inr (.inl rfl)|exact Or.inr (.inr rfl)) (by decide) (by decide)) zE (fun _ _=>rfl)) zB (by rfl)) (by rfl)) (CapOk.of (by kernel_rfl)) (fun _ _ _ _ _=>(@zL _ _ 0 _ (show (["_law_lane","_law_left_here"]:List Str).Nodup from by decide +kernel) rfl (.inl rfl) (.inr rfl))) (fun _ _ _ _ _=>(@jf _ _ _ (@zj _ _ _ _ _ _ _ _ y0 (@zJ _ _ _ _ _ _ _ _ _ _ _ _ _ _ _ _ UK.ok hr (by rfl) UK.m UK.kp UK.b .nil zS (@zA _ _ _ _ _ (@pv _ 1 _ _ (by rfl) (by first|exact Or.inl rfl|exact Or.inr (.inl rfl)|exact Or.inr (.inr rfl)) (by decide) (by decide)) (@zA _ _ _ _ _ zE zB (by rfl)) (by rfl)) (by decide) (by rfl) (by rfl)) zE (zp _)))) (fun _ _ _ _ _=>(@pv _ 0 _ _ (by rfl) (by first|exact Or.inl rfl|exact Or.inr (.inl rfl)|exact Or.inr (.inr rfl)) (by decide) (by decide))) (by intro _;rfl) (by with_unfolding_all rfl)) (@zK _ _ _ (@zU _ _ _ _ (@zY _ _ _ _ _ _ _ zd (@zq _ _ _ _ (@zA _ _ _ _ _ (@vA _ _ _ _ _ _ _ rfl (by rfl) G.tuple (by rfl) G.range (@zA _ _ _ _ _ (@zY _ _ _ _ _ _ _ yB (@pv _ 1 _ _ (by rfl) (by first|exact Or.inl rfl|exact Or.inr (.inl rfl)|exact Or.inr (.inr rfl)) (by decide) (by decide)) zE (fun _ _=>rfl)) zB (by rfl)) (by rfl) (by rfl)) (@zA _ _ _ _ _ (@wk _ _ _ _ _ _ _ _ (@zj _ _ _ _ _ _ _ _ (sN hr.units0) (@pv _ 2 _ _ (by rfl) (by first|exact Or.inl rfl|exact Or.inr (.inl rfl)|exact Or.inr (.inr rfl)) (by decide) (by decide)) (@zq _ _ _ _ zB) (zp _)) (@zV _ _ _ _ _ _ _ _ _ zZ (by rfl) G.tuple (by rfl) (@zA _ _ _ _ _ (@pv _ 2 _ _ (by rfl) (by first|exact Or.inl rfl|exact Or.inr (.inl rfl)|exact Or.inr (.inr rfl)) (by decide) (by decide)) zB (by rfl)) (by decide) (by decide) (by rfl) (by rfl)) (@zX _ _ _ _ _ (@zA _ _ _ _ _ (@zJ _ _ _ _ _ _ _ _ _ _ _ _ _ _ _ _ UK.ok hr (by rfl) UK.m UK.kp UK.b .nil zS (@zA _ _ _ _ _ (@pv _ 0 _ _ (by rfl) (by first|exact Or.inl rfl|exact Or.inr (.inl rfl)|exact Or.inr (.inr rfl)) (by decide) (by decide)) (@zA _ _ _ _ _ (@zY _ _ _ _ _ _ _ yB (@pv _ 1 _ _ (by rfl) (by first|exact Or.inl rfl|exact Or.inr (.inl rfl)|exact Or.inr (.inr rfl)) (by decide) (by decide)) zE (fun _ _=>rfl)) zB (by rfl)) (by rfl)) (by decide) (by rfl) (by rfl)) zB (by rfl)))) zB (by rfl)) (by rfl))) (@zJ _ _ _ _ _ _ _ _ _ _ _ _ _ _ _ _ UK.ok hr (by rfl) UK.m UK.kp UK.b .nil zS (@zA _ _ _ _ _ (@pv _ 0 _ _ (by rfl) (by first|exact Or.inl rfl|exact Or.inr (.inl rfl)|exact Or.inr (.inr rfl)) (by decide) (by decide)) (@zA _ _ _ _ _ zE zB (by rfl)) (by rfl)) (by decide) (by rfl) (by rfl)) (fun _ _=>rfl))))),?_⟩
 refine⟨_,rfl,r,_,_,_,rfl,rfl,SqT.of na.net,rfl,_,rfl,by lia,by lia,fun lc hlc=>?_⟩
 have nlc:=S.ne hlc
 have flc:Frs l H lc:=fun b o e _=>zG e hlc
 refine mD (lo:=0) (n:=((N.lanes:Nat):Int).toNat) (fun i acc σ H2=>(∃ v0,σ=[v0,some (.ref l)])∧Pk3 H2 l∧But l H H2∧H2 lc=some (.lst acc)∧∃ ms:List Nat,acc=zT ms∧ms.length≤i∧(∀ m∈ms,m<i)∧ms.Pairwise (· < ·)) ⟨⟨_,rfl⟩,S.upd nlc,But.of (zC hlc _),zP hlc _,[],rfl,Nat.le_refl _,fun m hm=>(nomatch hm),.nil⟩ (fun i acc σ H2 z=>z.2.2.2.1) ?_ ?_
 ·rintro i acc σ H2 hi ⟨⟨v0,rfl⟩,S2,B2,h2,ms,rfl,ml,mlt,mp⟩
  refine⟨_,rfl,l,2,rfl,by decide,by decide,S2,fun v H3 hv S3 B3=>⟨rfl,_,rfl,?_⟩⟩
  have h3:=B3 lc _ h2 nlc.symm
  have e0:(0:Int)+((i:Nat):Int)=((i:Nat):Int):=Int.zero_add _
  refine vU (fun _=>?_) (fun _=>?_)
  ·refine⟨_,rfl,h3,by rw[zc,sizeLine_eq];lia,nx (by lia) ⟨⟨_,rfl⟩,S3.upd nlc,(B2.trans B3).upd flc,zD,ms++[i],?_,by rw[List.length_append];show _+1≤_;lia,fun m hm=>?_,?_⟩⟩
   ·rw[← kh,e0];rfl
   ·rcases List.mem_append.mp hm with y|y
    ·have:=mlt m y;lia
    ·rw[List.mem_singleton.mp y];lia
   ·refine List.pairwise_append.mpr ⟨mp,List.pairwise_singleton _ _,fun a ha b hb=>?_⟩
    rw[List.mem_singleton.mp hb];exact mlt a ha
  ·exact nx (by lia) ⟨⟨_,rfl⟩,S3,B2.trans B3,h3,ms,rfl,by lia,fun m hm=>by have:=mlt m hm;lia,mp⟩
 rintro acc σ H2 ⟨⟨v0,rfl⟩,S2,B2,h2,ms,rfl,ml,mlt,mp⟩
 rw[Int.toNat_natCast]at ml mlt
 have na2:=na.tups (B2.tups3 S)
 refine⟨_,rfl,r,_,_,_,rfl,rfl,SqT.of na2.net,rfl,N.lanes,rfl,by lia,fun t1 ht1=>?_⟩
 have s1:=zC ht1 (.tup (zT (List.range N.lanes)))
 have h1:=zP ht1 (.tup (zT (List.range N.lanes)))
 have hc1:=s1 _ _ h2
 have S1:=S2.keep s1
 have B1:=B2.trans (But.of (l:=l) s1)
 have na1:=na2.tups (Tups.of s1)
 show iT _ _ _ (L2.upd H2 t1 (.tup (zT (List.range N.lanes)))) _
 generalize L2.upd H2 t1 (.tup (zT (List.range N.lanes)))=H3 at *
 clear h2 s1 S2 B2 na2 ht1
 refine⟨_,rfl,(by show 0≤sizeLine;decide),fun e he=>?_⟩
 have s4:=zC he (.lst [])
 refine⟨lc,e,_,rfl,rfl,SqL.of (s4 _ _ hc1),SqL.of (zP he _),_,rfl,?_⟩
 have hc4:=s4 _ _ hc1
 have h14:=s4 _ _ h1
 have S4:=S1.keep s4
 have B4:=B1.trans (But.of (l:=l) s4)
 have na4:=na1.tups (Tups.of s4)
 generalize L2.upd H3 e (.lst [])=H4 at *
 clear hc1 h1 S1 B1 na1 s4 he
 have fin:∀ (t2:Addr) (moves:List Nat) (H5:Hp),Lns N.lanes moves→H5 t2=some (.tup (zT moves))→H5 t1=some (.tup (zT (List.range N.lanes)))→Pk3 H5 l→But l H H5→∀ l5,H5 l5=none→∀ (v:Nat) (H6:Hp),(v:Int)<2→Pk3 H6 l→But l (L2.upd H5 l5 (.lst [.ref t1,.ref t2])) H6→∃ a xs j x,V.ref l5=.ref a∧V.int (v:Nat)=.int j∧SqL K H6 a xs∧atI xs j=some x∧Q x H6:=fun t2 moves H5 ln h2 h1 S5 B5 l5 hl5 v H6 hv S6 B6=>by
  have s5:=zC hl5 (.lst [.ref t1,.ref t2])
  have t6:=(Tups.of s5).trans (B6.tups3 (S5.keep s5))
  have B':=(B5.trans (But.of (l:=l) s5)).trans B6
  have hx:∃ x,[V.ref t1,V.ref t2][v]?=some x∧Q x H6:=by
   rcases v with _|_|v
   ·exact⟨_,rfl,k t1 _ H6 (Lns.all l1) (t6 _ _ h1) S6 B'⟩
   ·exact⟨_,rfl,k t2 moves H6 ln (t6 _ _ h2) S6 B'⟩
   ·lia
  obtain⟨x,ex,qx⟩:=hx
  exact⟨l5,_,_,x,rfl,rfl,SqL.of (B6 l5 _ (zP hl5 _) (S5.ne hl5).symm),yD ex,qx⟩
 by_cases un:ms=[]
 ·rw[show (!(zT ms).isEmpty)=false by rw[un];rfl]
  refine zv ⟨_,rfl,_,rfl,r,_,_,_,rfl,rfl,SqT.of na4.net,rfl,l,_,rfl,by lia,by lia,S4,fun one H5 ho S5 B5=>⟨(by show 1≤sizeLine;decide),fun t2 ht2=>?_⟩⟩
  have s6:=zC ht2 (.tup [.int (one:Nat)])
  have t5:=B5.tups3 S4
  refine⟨(by show 2≤sizeLine;decide),fun l5 hl5=>⟨_,rfl,l,2,rfl,by decide,by decide,(S5.keep s6).keep (zC hl5 _),fun v H6 hv S6 B6=>?_⟩⟩
  exact fin t2 [one] _ ⟨by simp,fun m hm=>by rw[List.mem_singleton.mp hm];lia,List.pairwise_singleton _ _⟩ (zP ht2 _) (s6 _ _ (t5 _ _ h14)) (S5.keep s6) ((B4.trans B5).trans (But.of s6)) l5 hl5 v H6 hv S6 B6
 ·rw[show (!(zT ms).isEmpty)=true by cases ms with
   | nil=>exact absurd rfl un
   | cons a b=>rfl]
  refine yP ⟨_,rfl,lc,_,rfl,.inl ⟨SqL.of hc4,fun t2 ht2=>?_⟩⟩
  have s6:=zC ht2 (.tup (zT ms))
  refine⟨(by show 2≤sizeLine;decide),fun l5 hl5=>⟨_,rfl,l,2,rfl,by decide,by decide,(S4.keep s6).keep (zC hl5 _),fun v H6 hv S6 B6=>?_⟩⟩
  exact fin t2 ms _ ⟨un,mlt,mp⟩ (zP ht2 _) (s6 _ _ h14) (S4.keep s6) (B4.trans (But.of s6)) l5 hl5 v H6 hv S6 B6
end
end K45
namespace L2
open PySem PySem.Spec PyProof.Rows Own Bn
section
variable {prog:Program}{w:World}{A:Around}{E:Value→Shared→Prop}{s:Shared}{a:Addr}{o:Obj}{es:Array (Int × Value)}{ep:Nat}{t:SetTable}{k:Int}{tk:Tok}
end
end L2
namespace L2
open PySem PySem.Spec PyProof.Rows Own PySem.W
def byT (w:World):Bool:=w.params.followText "set-order"
section
variable {prog:Program}{w:World}{A:Around}{E:Value→Shared→Prop}{s:Shared}{d it:Addr}{o:Obj}{es:Array (Int × Value)}{ep slot i:Nat}{t:SetTable}
end
end L2
namespace L2
open PySem PySem.Spec PyProof.Rows Own Bn
section
variable {N:Nt}{moves fewer:List Nat}{most:Nat}
end
def gU (N:Nt):KN→Nat→KN
 | [.inr ts,.inl r],m=>stK (uG N ts m) [(r+1)%(N.lanes:Nat)]
 | k,_=>k
def cI (ks:List KN) (k:KN):Bool:=ks.any fun x=>decide (x=k)
section
variable (N:Nt) (ks:List KN)
def la1 (s:KN) (c:List Int) (a:LAcc) (m:Nat):LAcc :=
 ⟨if cI ks (gU N s m)=true then a.on else eC a.on (gU N s m) (eG ((iG a.on (gU N s m)).getD (pH c m)) (pH c m)),if ff N s m=none then a.fl++[pH c m] else a.fl⟩
def laS (moves:List Nat) (a:LAcc) (p:KN × List Int):LAcc:=moves.foldl (la1 N ks p.1 p.2) a
end
section
variable {N:Nt}{seen:LvL}
end
end L2
namespace Bn
open PySem L2 Own
section
variable {N:Nt}{ts os:List Int}
end
end Bn
namespace L2
open PySem PySem.Spec PyProof.Rows Own
section
variable {X:Cx}
end
theorem o6 (p:KN × Addr × V) (xs:KVN) (k:KN):yw (p::xs) k=if p.1=k then some p.2.2 else yw xs k:=by
 unfold yw
 rw[List.find?_cons]
 by_cases z:p.1=k
 ·rw[decide_eq_true z,if_pos z];rfl
 ·rw[decide_eq_false z,if_neg z]
theorem nQ (xs:KVN) (k:KN) (b:Addr) (v:V):(yk xs k b v).map (·.1)=if (yw xs k).isSome then xs.map (·.1) else xs.map (·.1)++[k]:=by
 unfold yk
 by_cases z:(yw xs k).isSome=true
 ·rw[if_pos z,if_pos z,List.map_map]
  refine List.map_congr_left fun y _=>?_
  show (if y.1=k then (y.1,y.2.1,v) else y).1=y.1
  split<;>rfl
 ·rw[if_neg z,if_neg z,List.map_append];rfl
theorem yp {xs:KVN}{k:KN}:(yw xs k).isSome=true↔k∈xs.map (·.1):=by
 induction xs with
 | nil=>exact⟨fun h=>(nomatch h),fun h=>(nomatch h)⟩
 | cons p xs ih =>
  rw[o6,List.map_cons,List.mem_cons]
  by_cases z:p.1=k
  ·rw[if_pos z];exact⟨fun _=>.inl z.symm,fun _=>rfl⟩
  ·rw[if_neg z,ih]
   exact⟨.inr,fun h=>h.elim (fun q=>absurd q.symm z) id⟩
theorem KsIn.put {H:Hp}{xs:KVN}{k:KN}{b:Addr}{v:V}(h:KsIn H xs) (hb:NKey H k b):KsIn H (yk xs k b v):=by
 intro x hx
 unfold yk at hx
 split at hx
 ·obtain⟨y,hy,rfl⟩:=List.mem_map.mp hx
  split
  ·exact h y hy
  ·exact h y hy
 ·rcases List.mem_append.mp hx with z|z
  ·exact h x z
  ·rw[List.mem_singleton.mp z];exact hb
end L2
namespace Bn
open PySem PySem.Spec PyProof.Rows L2 Own
end Bn
namespace L2
open PySem PySem.Spec PyProof.Rows Own
section
variable {prog:Program}{w:World}{A:Around}{E:Value→Shared→Prop}
theorem NIs.same {h h':Heap}(t:∀ b o,o.cls=.type "tuple"→h.get? b=some o→h'.get? b=some o) {ks:KN}{a:Addr}(p:NIs prog w h ks a):NIs prog w h' ks a:=by
 have one:∀ {k:KI}{v:Value},NIt prog w h k v→NIt prog w h' k v:=fun {k v} q=>by
  cases k with
  | inl i=>exact q
  | inr xs =>
   obtain⟨b,e,o,its,n,h1,h2,h3⟩:=q
   exact⟨b,e,o,its,n,t b o h2 h1,h2,h3⟩
 have all:∀ {ks:KN}{vs:List Value},NIts prog w h ks vs→NIts prog w h' ks vs:=fun {ks}=>by
  induction ks with
  | nil=>exact fun q=>q
  | cons k ks ih =>
   intro vs q
   obtain⟨v,r,e,q1,q2⟩:=q
   exact⟨v,r,e,one q1,ih q2⟩
 obtain⟨o,its,n,h1,h2,h3,h4⟩:=p
 exact⟨o,its,n,t a o h2 h1,h2,h3,all h4⟩
variable {d it l:Addr}{its:Array Value}{ps:List (KN × Addr × Value)}{res:Value}
def PairsH (P:Program) (w:World) (h:Heap) (its:Array Value) (ps:List (KN × Addr × Value)):Prop :=
 its.size=ps.length∧∀ (i:Nat) (x:Value),its[i]?=some x→∃ t v k b ob m,x=.ref t∧h.get? t=some ob∧ob.cls=.type "tuple"∧ob.data=.seq #[.ref b,v] m∧NIs P w h k b∧ps[i]?=some (k,b,v)
theorem PairsH.same {h h':Heap}(p:PairsH prog w h its ps) (f:∀ b o,o.cls=.type "tuple"→h.get? b=some o→h'.get? b=some o):PairsH prog w h' its ps :=
 ⟨p.1,fun i x e=>let ⟨t,v,k,b,ob,m,e1,e2,e3,e4,e5,e6⟩:=p.2 i x e;⟨t,v,k,b,ob,m,e1,f t ob e3 e2,e3,e4,e5.same f,e6⟩⟩
theorem rN {R:Result→Shared→Prop}(hh:A.handled=none) (hu:A.units+3<cLine):∀ (m i:Nat) (s:Shared) (xs:List (KN × Addr × Value)),i+m=its.size→s.heap.IsListIter it l i→s.heap.IsList l its→s.heap.DictOfH (yT prog w) d xs→PairsH prog w s.heap its ps→it≠d→xs.length+m≤sizeLine →
  (∀ h' tk,h'.DictOfH (yT prog w) d (mergeN xs (ps.drop i))→(∀ b o,b≠d→b≠it→s.heap.get? b=some o→h'.get? b=some o)→R (.ok (.ret res)) { s with heap:=h',toks:=tk }) →
  codeAny (model prog w) A (.builtin "dict.update.loop" ⟨[.ref d,.ref it,rawInt (i:Int),res],[]⟩) R s:=by
 intro m
 induction m with
 | zero =>
  intro i s xs im hit hl hd hp ne hz fin
  refine codeAny_builtin xt ?_
  rw[Around.under_plainId yh]
  show wpAny _ A.in1 (pyNext (Value.ref it) >>= _) _ _ _
  refine wpAny_bind (wpAny_pyNext_list_end (A:=A.in1) hh hit hl (Array.getElem?_eq_none (by lia)) fun h' kk=>?_)
  refine wpAny_bind (wpAny_pure (wpAny_pure (fin h' s.toks ?_ fun b o _ nb e=>kk b o nb e)))
  rw[List.drop_eq_nil_of_le (by rw[← hp.1];lia)]
  obtain⟨o,es,ep,e,c,dd,he,his,hn⟩:=hd
  refine⟨o,es,ep,kk d o (Ne.symm ne) e,c,dd,he,fun x hx=>(his x hx).same fun b o' ct eo=>kk b o' ?_ eo,hn⟩
  rintro rfl
  obtain⟨o2,e2,c2,_⟩:=hit
  rw[eo]at e2
  obtain rfl:=Option.some.inj e2
  rw[ct]at c2;exact absurd (Value.type.inj c2) (by decide)
 | succ m ih =>
  intro i s xs im hit hl hd hp ne hz fin
  obtain⟨x,ex⟩:∃ x,its[i]?=some x:=⟨_,getElem?_pos its i (by lia)⟩
  obtain⟨t,v,k,b,ob,mm,rfl,et,ct,dt,hk,epk⟩:=hp.2 i x ex
  refine codeAny_builtin xt ?_
  rw[Around.under_plainId yh]
  show wpAny _ A.in1 (pyNext (Value.ref it) >>= _) _ _ _
  refine wpAny_bind (wpAny_pyNext_list_item (A:=A.in1) hit hl ex fun h1 hit1 sb1=>?_)
  have ti:∀ {b:Addr}{o:Obj},o.cls=.type "tuple"→s.heap.get? b=some o→b≠it:=fun {b o} c e z=>by
   obtain⟨o2,e2,c2,_⟩:=hit
   rw[z]at e
   rw[e]at e2
   obtain rfl:=Option.some.inj e2
   rw[c]at c2;exact absurd (Value.type.inj c2) (by decide)
  have td:∀ {b:Addr}{o:Obj},o.cls=.type "tuple"→s.heap.get? b=some o→b≠d:=fun {b o} c e z=>by
   obtain⟨o2,es,ep,e2,c2,dd,_⟩:=hd
   rw[z]at e
   rw[e]at e2
   obtain rfl:=Option.some.inj e2
   have q:=c2.1
   rw[c]at q;exact absurd (Value.type.inj q) (by decide)
  have k1:∀ b o,o.cls=.type "tuple"→s.heap.get? b=some o→h1.get? b=some o:=fun b o c e=>(sb1.2 b (ti c e)).trans e
  have et1:=k1 t ob ct et
  have ty:({ s with heap:=h1 }:Shared).TypeIs (.ref t) "tuple":=⟨ob,et1,ct⟩
  have hd1:h1.DictOfH (yT prog w) d xs:=by
   obtain⟨o,es,ep,e,c,dd,he,his,hn⟩:=hd
   exact⟨o,es,ep,(sb1.2 d (Ne.symm ne)).trans e,c,dd,he,fun x hx=>(his x hx).same k1,hn⟩
  refine wpAny_bind (wpAny_holding (wpAny_bind (wpAny_tryCatch ?_)))
  unfold Builtin.Dict.pairItems
  refine wpAny_bind (wpAny_typeOf ty ?_)
  rw[if_pos (by decide)]
  refine wpAny_bind (wpAny_seqItems et1 dt (wpAny_pure ?_))
  refine wpAny_holding (wpAny_dictSet_heap (knd:=yT prog w) (show A.in1.units+2<cLine by rw[Around.in1_units];lia) (hk.same k1) hd1 (fun h2 hd2 sb2=>?_) (by lia))
  refine wpAny_pure ⟨plainId_quiet yh _,?_⟩
  have oth:∀ b o,b≠d→b≠it→s.heap.get? b=some o→h2.get? b=some o:=fun b o b1 b2 e=>(sb2.2 b b1).trans ((sb1.2 b b2).trans e)
  have sl:=nJ xs (k,b,v)
  have hit2:h2.IsListIter it l (i+1):=by
   obtain⟨o,e,r⟩:=hit1
   exact⟨o,(sb2.2 it ne).trans e,r⟩
  have hl2:h2.IsList l its:=by
   obtain⟨o,e,c,r⟩:=hl
   refine⟨o,oth l o (fun z=>?_) (fun z=>?_) e,c,r⟩
   ·obtain⟨o2,es,ep,e2,c2,_⟩:=hd
    rw[← z,e]at e2
    obtain rfl:=Option.some.inj e2
    have q:=c2.1
    rw[c]at q;exact absurd (Value.type.inj q) (by decide)
   ·obtain⟨o2,e2,c2,_⟩:=hit
    rw[← z,e]at e2
    obtain rfl:=Option.some.inj e2
    rw[c]at c2;exact absurd (Value.type.inj c2) (by decide)
  refine ih (i+1) _ (storedH xs k b v) (by lia) hit2 hl2 hd2 (hp.same fun b o c e=>oth b o (td c e) (ti c e) e) ne (by have:(storedH xs k b v).length≤xs.length+1:=sl;lia) fun h' tk d' kk=>fin h' tk ?_ fun b o b1 b2 e=>kk b o b1 b2 (oth b o b1 b2 e)
  have il:i<ps.length:=by rw[← hp.1];lia
  rw[List.drop_eq_getElem_cons il,show ps[i]=(k,b,v) from (List.getElem?_eq_some_iff.mp epk).2]
  exact d'
theorem qI {s:Shared}{n:Nat}{Q:Value→Shared→Prop}(hh:A.handled=none) (hu:A.units+4<cLine) (hl:s.heap.get? l=some { cls:=.type "list",data:=.seq its n }) (hp:PairsH prog w s.heap its ps) (hz:its.size≤sizeLine)
  (h:∀ h' tk,h'.DictOfH (yT prog w) s.heap.objs.size (mergeN [] ps)→(∀ b o,s.heap.get? b=some o→h'.get? b=some o)→Q (.ref s.heap.objs.size) { s with heap:=h',toks:=tk }) :
  wpAny (model prog w) A (call (.type "dict") [.ref l]) Q E s:=by
 refine callType_codes (Q₁:=fun ob s1=>ob=.ref s.heap.objs.size∧s1={ s with heap:=s.heap.push { cls:=.type "dict",data:=.dict #[] } }) F.kt_called_dict (F.kt_typeCall_dict_1 _) F.entry_dict_init (kt_code_dict_new _ ⟨rfl,rfl⟩) ?_
 rintro ob s1 ⟨rfl,rfl⟩
 have nw:(s.heap.push { cls:=.type "dict",data:=.dict #[] }).DictOfH (yT prog w) s.heap.objs.size []:=Heap.DictOfH.new s.heap
 have hl1:=Heap.get?_push_of_some ({ cls:=.type "dict",data:=.dict #[] }:Obj) hl
 have tl:({ s with heap:=s.heap.push { cls:=.type "dict",data:=.dict #[] } }:Shared).TypeIs (.ref l) "list":=⟨_,hl1,rfl⟩
 refine⟨nw.typeIs,F.args_dict_init_2 _ _,?_⟩
 unfold Builtin.«dict.__init__» Builtin.Dict.selfAndRest
 refine wpAny_bind (wpAny_bind (wpAny_notOrdered_dict nw.typeIs (wpAny_pure ?_)))
 show wpAny _ _ (Builtin.Dict.updateFrom "dict.__init__" s.heap.objs.size (Value.ref l) [] Value.none) _ _ _
 unfold Builtin.Dict.updateFrom;refine wpAny_bind (wpAny_typeOf tl ?_)
 rw[if_pos (by decide)]
 refine wpAny_bind (mB hl1 hh fun h2 tk2 kk2=>?_)
 rw[if_pos (by rfl)]
 refine wpAny_bind (wpAny_rule ?_)
 have hl2:=kk2 _ _ hl1
 refine wpAny_bind (wpAny_pyIter_list ⟨_,hl2,rfl,_,rfl⟩ ?_)
 refine wpAny_pure ⟨plainId_quiet yh _,?_⟩
 have kk3:∀ b o,(s.heap.push { cls:=.type "dict",data:=.dict #[] }).get? b=some o→(h2.push ({ cls:=.type "list_iterator",data:=.fields #[.ref l,.int 0 0] }:Obj)).get? b=some o:=fun b o e=>Heap.get?_push_of_some _ (kk2 b o e)
 obtain⟨od,esd,epd,ed,cd,dd,hed,hid,hnd⟩:=nw
 have dl:s.heap.objs.size<h2.objs.size:=Heap.lt_size (kk2 _ _ ed)
 refine rN (A:=A.in1) (R:=wants (fun r s₂=>r=Value.none∧Q (.ref s.heap.objs.size) s₂) E) (it:=h2.objs.size) (ps:=ps) (l:=l) (its:=its) hh (by rw[Around.in1_units];lia) its.size 0 { s with heap:=h2.push { cls:=.type "list_iterator",data:=.fields #[.ref l,.int 0 0] },toks:=tk2 } [] (by lia) ⟨_,Heap.get?_push_size _ rfl,rfl,rfl⟩ ⟨_,Heap.get?_push_of_some _ hl2,rfl,_,rfl⟩ ⟨od,esd,epd,kk3 _ _ ed,cd,dd,hed,fun x hx=>absurd hx List.not_mem_nil,hnd⟩ (hp.same fun b o _ e=>kk3 b o (Heap.get?_push_of_some _ e)) (Nat.ne_of_gt dl) (by rw[List.length_nil];lia) fun h' tk d' kk=>⟨rfl,h h' tk d' fun b o e=>?_⟩
 have bl:=Heap.lt_size e
 exact kk b o (Nat.ne_of_lt bl) (Nat.ne_of_lt (Nat.lt_trans bl dl)) (kk3 b o (Heap.get?_push_of_some _ e))
end
def PrH (H:Hp) (t:V) (p:KN × Addr × V):Prop:=∃ a,t=.ref a∧H a=some (.tup [.ref p.2.1,p.2.2])∧NKey H p.1 p.2.1
section
variable {X:Cx}{pins:List (Addr × Obj)}{σ:St}{H:Hp}{s:Shared}{A:Around}{E:Value→Shared→Prop}
theorem lv (I:Inv X pins σ H s) {ts:List V}{xs:KVN}(p:Paired (PrH H) ts xs):∀ {its:List Value},Vals ts its→∃ ps,Paired PrN xs ps∧its.length=ps.length∧∀ (i:Nat) (x:Value),its[i]?=some x→∃ t v k b ob m,x=.ref t∧s.heap.get? t=some ob∧ob.cls=.type "tuple"∧ob.data=.seq #[.ref b,v] m∧NIs X.prog X.w s.heap k b∧ps[i]?=some (k,b,v):=by
 induction p with
 | nil =>
  intro its r
  cases r
  exact⟨[],.nil,rfl,fun i x e=>by simp at e⟩
 | @cons t q ts xs h _ ih =>
  intro its r
  cases r with
  | cons r rs =>
   obtain⟨ps,rel,len,hp⟩:=ih rs
   obtain⟨a,rfl,ha,hk⟩:=h
   cases r
   obtain⟨its2,g,⟨o,eo,co,m,dm⟩,_⟩:=I.tuple (SqT.of (K:=X.K) ha)
   obtain⟨x,y,rfl,rx,ry⟩:=mw g
   cases rx
   refine⟨(q.1,q.2.1,y)::ps,.cons ⟨rfl,rfl,ry⟩ rel,by simp[len],fun i z e=>?_⟩
   cases i with
   | zero =>
    obtain rfl:Value.ref a=z:=by simpa using e
    exact⟨a,y,q.1,q.2.1,o,m,rfl,eo,co,dm,x8 I.hok hk,rfl⟩
   | succ i=>exact hp i z (by simpa using e)
theorem j3 {l:Addr}{ts:List V}{xs:KVN}{Q:Value→Shared→Prop}(hh:A.handled=none) (hu:A.units+4<cLine) (I:Inv X pins σ H s) (e:H l=some (.lst ts)) (p:Paired (PrH H) ts xs)
  (h:∀ q s',H q=none→Inv X pins σ (upd H q (DN X.prog X.w q (xi [] xs))) s'→Q (.ref q) s'):wpAny (model X.prog X.w) A (call (.type "dict") [.ref l]) Q E s:=by
 obtain⟨z,its,n,r,el⟩:=I.hok _ _ e
 obtain⟨ps,rel,len,hp⟩:=lv I p r
 have pl:=Paired.length p
 refine qI (ps:=ps) hh hu el ⟨by simpa using len,fun i x ex=>hp i x (by simpa using ex)⟩ (by rw[List.size_toArray,← r.length];exact z) fun h' tk dd kk=>?_
 have ml:=uI xs []
 rw[List.length_nil]at ml
 exact h _ _ (I.hok.fresh (Nat.le_refl _)) (I.laid (a:=s.heap.objs.size) (t':=tk) kk (Nat.le_refl _) (dn_new (by lia) (beq_eq_false_iff_ne.mpr (Ne.symm (Nat.ne_of_lt I.big))) (pK rel .nil) dd))
end
section
variable {X:Cx}
theorem pc (hc:X.calm=true) (hu:X.A.units+4<cLine):CallR X (.type "dict") (fun vs H Q=>∃ l ts xs,vs=[.ref l]∧H l=some (.lst ts)∧Paired (PrH H) ts xs∧∀ q,H q=none→Q (.ref q) (upd H q (DN X.prog X.w q (xi [] xs)))):=by
 intro pins s σ H vs us Q I r h
 obtain⟨l,ts,xs,rfl,el,p,q⟩:=h
 obtain⟨u,rfl,rx⟩:=vI r
 obtain rfl:u=Value.ref l:=rx
 exact j3 (I.ok.hd hc) hu I el p fun x s' hx I'=>⟨.ref x,_,I',rfl,q x hx⟩
end
end L2
namespace L2
open PySem PySem.Spec PyProof.Rows Own Bn
theorem n0 {xs ys:KVN}(nd:(ys.map (·.1)).Nodup) (ds:∀ k∈ys.map (·.1),k∉xs.map (·.1)):xi xs ys=xs++ys :=
 uy ys xs nd fun y hy x hx e=>ds y.1 (List.mem_map.mpr ⟨y,hy,rfl⟩) (e ▸ List.mem_map.mpr ⟨x,hx,rfl⟩)
end L2
namespace Bn
open PySem L2 Own
end Bn
namespace L2
open PySem PySem.Spec PyProof.Rows
section
variable {X:Cx}
end
end L2
namespace Bn
open PySem L2 Own
end Bn
namespace L2
open PySem PySem.Spec PyProof.Rows Own Builtin Builtin.Str
section
variable {X:Cx}
end
section
variable {X:Cx}{tg:Expr}
end
end L2
namespace Bn
open PySem PySem.Spec PyProof.Rows PySem.NumText
def txt (n:Int):Str:=Str.ofString (toString n)
def qH (m:Nat):List Nat:=(Nat.toDigits 10 m).map Char.toNat
theorem iM (m:Nat):1≤(qH m).length:=by
 unfold qH
 rw[List.length_map]
 exact toDigits_len_ge 10 m
theorem iL {m k:Nat}(hk:1≤k) (h:m<10 ^ k):(qH m).length≤k:=by
 unfold qH
 rw[List.length_map]
 exact toDigits_len_pow (by decide) hk h
theorem jS (m:Nat):(txt (m:Nat)).cps.toList=qH m:=PySem.W.KIN.signs_num m
theorem jT (m:Nat) (h:1≤m):(txt (-(m:Nat))).cps.toList=45::qH m:=by
 obtain⟨k,rfl⟩:∃ k,m=k+1:=⟨m-1,by lia⟩
 have tn:toString (-((k+1:Nat):Int)) = "-"++toString (((k+1:Nat):Int)):=rfl
 unfold txt
 rw[tn]
 generalize k+1=m
 have:(Str.ofString ("-"++toString ((m:Nat):Int))).cps.toList=(Str.ofString "-").cps.toList++(Str.ofString (toString ((m:Nat):Int))).cps.toList:=by
  rw[signs_ofString,signs_ofString,signs_ofString,String.toList_append,List.map_append]
 rw[this,PySem.W.KIN.signs_num];rfl
open Builtin Builtin.Str
theorem o7 (n:Int):(0≤n∧(txt n).cps.toList=qH n.natAbs)∨(n<0∧(txt n).cps.toList=45::qH n.natAbs):=by
 by_cases h:0≤n
 ·obtain⟨m,rfl⟩:=Int.eq_ofNat_of_zero_le h
  exact .inl ⟨h,jS m⟩
 ·obtain⟨m,rfl⟩:∃ m:Nat,n = -(m:Nat):=⟨n.natAbs,by lia⟩
  refine .inr ⟨by lia,?_⟩
  rw[jT m (by lia),show (-(m:Nat):Int).natAbs=m by lia]
theorem jb (z:Str):z.cps.toList.length=z.length:=by simp[Str.length]
theorem jU {n:Int}(h:n.natAbs<10 ^ 30):1≤(txt n).length∧(txt n).length≤31:=by
 have g:=iM n.natAbs
 have l:=iL (k:=30) (by decide) h
 rw[← jb]
 rcases o7 n with ⟨_,e⟩|⟨_,e⟩
 ·rw[e];lia
 ·rw[e,List.length_cons];lia
end Bn
namespace L2
open PySem PySem.Spec PyProof.Rows Own PySem.NumText
section
variable {X:Cx}
end
end L2
namespace L2
open PySem PySem.Spec PyProof.Rows Own
section
variable {prog:Program}{w:World}{A:Around}{E:Value→Shared→Prop}{l:Addr}{items:Array Value}
end
section
variable {X:Cx}
end
end L2
namespace Bn
open PySem PySem.Spec PyProof.Rows PySem.NumText Builtin Builtin.Str
end Bn
namespace L2
open PySem PySem.Spec PyProof.Rows Own Bn
structure ShB (m:Nat) (d:PyData):Prop where
 sh:d.showable=true
 nd:d.hasDict=false
 le:d.shown.length≤m
theorem ShB.up {m n:Nat}{d:PyData}(h:ShB m d) (l:m≤n):ShB n d:=⟨h.sh,h.nd,Nat.le_trans h.le l⟩
theorem oD {m:Nat}:∀ {ds:List PyData},(∀ e∈ds,ShB m e)→PyData.showableAll ds=true∧PyData.hasDictAll ds=false∧∀ t∈PyData.shownAll ds,t.length≤m
 | [],_=>⟨rfl,rfl,fun t ht=>by cases ht⟩
 | d::ds,h=>by
  have a:=h d List.mem_cons_self
  obtain⟨b1,b2,b3⟩:=oD (ds:=ds) fun e he=>h e (List.mem_cons_of_mem _ he)
  refine⟨?_,?_,fun t ht=>?_⟩
  ·show (d.showable && PyData.showableAll ds)=true
   rw[a.sh,b1];rfl
  ·show (d.hasDict || PyData.hasDictAll ds)=false
   rw[a.nd,b2];rfl
  ·change t∈d.shown::PyData.shownAll ds at ht
   rcases (List.mem_cons.1 ht) with rfl|ht
   ·exact a.le
   ·exact b3 t ht
theorem we:∀ ds:List PyData,(PyData.shownAll ds).length=ds.length
 | []=>rfl
 | d::ds=>by show (d.shown::PyData.shownAll ds).length=_;rw[List.length_cons,we ds];rfl
section
variable {X:Cx}
end
end L2
namespace Bn
open PySem L2 Own
def bd:Nat→Nat
 | 0=>40
 | n+1=>20*(bd n+2)+3
section
variable {N:Nt}{dd:Nat}{σ:St}{Pre:Hp→Prop}
end
section
variable {N:Nt}{dd:Nat}{σ:St}{Pre:Hp→Prop}{D:Ends}{H:Hp}{ta:TA}{n:Nat}
end
section
variable {N:Nt}{dd:Nat}{σ:St}{Pre:Hp→Prop}{D:Ends}{H:Hp}{ta:TA}{n:Nat}
end
end Bn
namespace L2
open PySem PySem.Spec PyProof.Rows Own Bn
section
variable {X:Cx}
theorem uY (hg:X.A.guards=some []) (hu:X.A.units+64<cLine):CallR X (.builtin "repr") (fun xs H Q=>∃ a d,xs=[.ref a]∧DD H 4 (.ref a) d∧ShB 1000000 d∧Q (.str d.shown) H):=by
 rintro pins s σ H xs us Q I r ⟨a,d,rfl,dd,sh,q⟩
 obtain⟨u,rfl,r1⟩:=vI r
 have big:d.shown.length≤sizeLine:=by have:=sh.le;rw[sizeLine_eq];lia
 obtain⟨as,rd⟩:=DD.reads I 4 _ d _ dd r1
 have dp:=dd.ok.2
 obtain rfl:u=Value.ref a:=r1
 exact repr_of_reads' rd sh.sh (fun z=>by rw[sh.nd]at z;cases z) hg (by lia) (fun _ _ e=>e) (fun h' u tk k=>⟨.str d.shown,H,I.kept k,⟨_,rfl⟩,q⟩) big
end
theorem ShB.long {m k:Nat}{ds:List PyData}(h:∀ e∈ds,ShB m e) (l:ds.length≤k):ShB (k*(m+2)+3) (.tuple ds):=by
 obtain⟨a,b,c⟩:=oD h
 refine⟨a,b,?_⟩
 have t:=vJ (PyData.shownAll ds)
 have p:=uF c
 rw[we]at p
 have q:=Nat.mul_le_mul_right (m+2) l
 exact Nat.le_trans t (by lia)
structure MgR (mg:Str→Option Value):Prop where
 repr:mg "repr" = none
end L2
namespace Bn
open PySem L2 Own
inductive Pln where
 | net (N:Nt)|way (w k:Nat)|dbl (p:Pln)|ren (p:Pln) (ns:List Nat)|bes (p q:Pln)|beh (p q:Pln)
def pwr (n:Nat):Nat:=if n=2 then 1 else if n=4 then 2 else if n=8 then 3 else if n=16 then 4 else 0
def eW (w k:Nat):Nat:=if w=0 then 2 ^ k*k*(k+1) / 4 else if w=1 then 2 ^ k*k*k / 2 else 2 ^ k*k / 2
namespace Pln
def lanes:Pln→Nat
 | .net N=>N.lanes
 | .way _ k=>2 ^ k
 | .dbl p=>2*p.lanes
 | .ren p _=>p.lanes
 | .bes p q=>p.lanes+q.lanes
 | .beh p _=>p.lanes
def many:Pln→Nat
 | .net N=>N.forks.length
 | .way w k=>eW w k
 | .dbl p=>2*p.many+p.lanes*pwr (2*p.lanes)
 | .ren p _=>p.many
 | .bes p q=>p.many+q.many
 | .beh p q=>p.many+q.many
def hi:Pln→Nat
 | .net _=>1
 | .way _ _=>1
 | .dbl p=>p.hi+1
 | .ren p _=>p.hi+1
 | .bes p q=>max p.hi q.hi+1
 | .beh p q=>max p.hi q.hi+1
end Pln
inductive Kn where
 | no|stair|merges|halves
 deriving DecidableEq
def Kn.v:Kn→V
 | .no=>.non
 | .stair=>.str "stair"
 | .merges=>.str "merges"
 | .halves=>.str "halves"
def Pln.known:Pln→Kn
 | .net N=>if N.lanes=1 then .stair else .no
 | .way w k=>if w<2 then .stair else if k=1 then .stair else .merges
 | .dbl p=>if p.known=.stair then .stair else .no
 | .ren p _=>if p.known=.merges then .no else p.known
 | .bes p q=>if p.known=.stair∧q.known=.stair∧p.lanes=q.lanes then .halves else .no
 | .beh p q=>if q.known=.stair∨p.known=.halves∧q.known=.merges then .stair else .no
end Bn
namespace Bn
open PySem L2 Own
end Bn
namespace L2
open PySem PySem.Spec PyProof.Rows Own Bn
section
variable {X:Cx}
end
theorem ShB.two {m n:Nat}{a b:PyData}(ha:ShB m a) (hb:ShB n b):ShB (m+n+7) (.tuple [a,b]):=by
 refine⟨?_,?_,?_⟩
 ·show (a.showable && (b.showable && true))=true
  rw[ha.sh,hb.sh];rfl
 ·show (a.hasDict || (b.hasDict || false))=false
  rw[ha.nd,hb.nd];rfl
 ·have t:=vJ [a.shown,b.shown]
  have p:piled [a.shown,b.shown]=a.shown.length+2+(b.shown.length+2+0):=rfl
  have:=ha.le
  have:=hb.le
  exact Nat.le_trans t (by rw[p];lia)
theorem oC {i:Int}(h:i.natAbs≤100000):ShB 40 (.int i):=by
 have lg:i.natAbs.log2<1920:=by
  by_cases z:i.natAbs=0
  ·rw[z];decide
  ·exact(Nat.log2_lt z).mpr (Nat.lt_of_le_of_lt h (Nat.lt_of_lt_of_le (show 100000<2 ^ 20 by decide) (Nat.pow_le_pow_right (by decide) (by decide))))
 refine⟨decide_eq_true lg,rfl,?_⟩
 have:=(jU (n:=i) (Nat.lt_of_le_of_lt h (by decide))).2
 show (txt i).length≤40
 lia
theorem jc {i:Int}(h:i=0∨i=1):ShB 1 (.int i):=by
 refine⟨(oC (by lia)).sh,rfl,?_⟩
 rcases h with rfl|rfl<;>decide
theorem gp {H:Hp}{n:Nat}{b:Addr}{x y:V}{d e:PyData}(h:H b=some (.tup [x,y])) (hx:DD H n x d) (hy:DD H n y e):DD H (n+1) (.ref b) (.tuple [d,e]):=by
 refine DD.tup h rfl fun j u f p q=>?_
 match j,p,q with
 | 0,p,q=>obtain rfl:=Option.some.inj p;obtain rfl:=Option.some.inj q;exact hx
 | 1,p,q=>obtain rfl:=Option.some.inj p;obtain rfl:=Option.some.inj q;exact hy
 | j+2,p,q=>cases p
section
variable {N:Nt}{H:Hp}
end
structure MgSet (mg:Str→Option Value):Prop where
 set:mg "set" = none
end L2
namespace L2
open PySem PySem.Spec PyProof.Rows Own PySem.W
section
variable {prog:Program}{w:World}{A:Around}{E:Value→Shared→Prop}{s:Shared}
abbrev gz:Value:=.type "set"
def yi (w:World):Obj:={ cls:=.type "set",dict:=none,data:=.set #[] 0 (.fresh 0 0 (!byT w)) }
theorem lO (a:Value) {Q:Value→Shared→Prop}(q:Q (.ref s.heap.objs.size) { s with heap:=s.heap.push (yi w) }) :
  codeAny (model prog w) A (.call (.builtin "set.__new__") ⟨[.type "set",a],[]⟩) (wants Q E) s:=by
 refine codeAny_call_builtin F.plain_set_new F.entry_set_new ?_
 rw[F.newCall_set_1]
 refine wpAny_pure ?_
 unfold Builtin.«set.__new__»
 unfold Builtin.Frozenset.newClass
 refine wpAny_bind ?_
 show wpAny _ _ (isType (.type "set") >>= _) _ _ _
 refine wpAny_bind (show wpAny _ _ (pure true) _ _ _ from wpAny_pure ?_)
 show wpAny _ _ (isSubtype (.type "set") (.type "set") >>= _) _ _ _
 rw[show isSubtype (.type "set") (.type "set")=pure true from by rw[isSubtype_type];kernel_rfl]
 refine wpAny_bind (wpAny_pure (wpAny_pure (wpAny_bind ?_)))
 unfold newSet
 unfold setsByText
 exact wpAny_bind (wpAny_bind (wpAny_askSetting (wpAny_pure (wpAny_newObj_type (wpAny_pure q)))))
theorem iO {a:Value}{n:Nat}{Q:String→Shared→Prop}(ty:s.TypeIs a "set") (q:∀ x,Q x s):wpAny (model prog w) A (typeNameOfCut n a) Q E s:=by
 unfold typeNameOfCut
 unfold shownTypeOf
 refine wpAny_bind (wpAny_bind (wpAny_typeOf ty (wpAny_ite_split (fun z=>absurd z (by decide)) fun _=>wpAny_pure ?_)))
 exact(show wpAny _ _ (pure _) _ _ _ from wpAny_pure (q _))
end
section
variable {prog:Program}{w:World}{A:Around}{E:Value→Shared→Prop}{s:Shared}
theorem nM {l d:Addr}{its:Array Value}{R:PySem.Fin→Shared→Prop}(ho:s.heap.get? d=some (yi w)) (hl:SqO false s.heap l its)
  (q:codeAny (model prog w) A (.builtin "set.update.loop" ⟨[.ref d,.ref s.heap.objs.size],[]⟩) (wants (fun _=>R (.done (.ret .none))) E) { s with heap:=s.heap.push { cls:=.type "tuple_iterator",data:=.fields #[.ref l,.int 0 0] } }) :
  wpAny (model prog w) A (Builtin.«set.__init__» ⟨[.ref d,.ref l],[]⟩) R E s:=by
 obtain⟨ol,l1,l2,l3⟩:=(show IsTup s.heap l its from hl)
 have tl:s.TypeIs (.ref l) "tuple":=⟨_,l1,l2⟩
 have ty:s.TypeIs (.ref d) "set":=⟨_,ho,rfl⟩
 unfold Builtin.«set.__init__»
 refine wpAny_bind (show wpAny _ _ (pure ()) _ _ _ from wpAny_pure ?_)
 refine wpAny_bind (iO ty fun x=>(wpAny_bind (show wpAny _ _ (pure ()) _ _ _ from wpAny_pure ?_)))
 refine wpAny_bind (show wpAny _ _ (pure d) _ _ _ from wpAny_pure ?_)
 unfold setUsed
 refine wpAny_bind (wpAny_bind (wpAny_setState_of ho rfl rfl (wpAny_pure ?_)))
 refine wpAny_ite_split (fun z=>absurd z (by simp[SetTable.fill,SetTable.fresh])) fun _=>?_
 refine wpAny_bind ?_
 unfold Builtin.Frozenset.updateFrom Builtin.Frozenset.isAnySet
 apply wpAny_bind
 show wpAny _ _ (isInstance (.ref l) (.type "set") >>= _) _ _ _
 refine wpAny_bind (wpAny_isInstance (b:=false) tl (by rw[isSubtype_type];kernel_rfl) ?_)
 refine(show wpAny _ _ (isInstance (.ref l) (.type "frozenset")) _ _ _ from wpAny_isInstance (b:=false) tl (by rw[isSubtype_type];kernel_rfl) ?_)
 refine wpAny_ite_split (fun z=>absurd z (by decide)) fun _=>?_
 refine wpAny_bind (wpAny_typeOf tl (wpAny_ite_split (fun z=>absurd z (by decide)) fun _=>?_))
 refine wpAny_bind (xI (b:=false) hl (wpAny_bind (wpAny_runValue (codeAny_mono q fun r s1 c=>?_))))
 cases r with
 | error e=>exact c
 | ok fl =>
  cases fl with
  | ret v=>exact wpAny_pure (wpAny_pure c)
  | _=>exact c
theorem nN {l:Addr}{its:Array Value}{Q:Value→Shared→Prop}(hh:A.handled=none) (hl:SqO false s.heap l its)
  (q:codeAny (model prog w) A.in1.in1 (.builtin "set.update.loop" ⟨[.ref s.heap.objs.size,.ref (s.heap.push (yi w)).objs.size],[]⟩) (wants (fun _=>Q (.ref s.heap.objs.size)) E) { s with heap:=(s.heap.push (yi w)).push { cls:=.type "tuple_iterator",data:=.fields #[.ref l,.int 0 0] } }) :
  wpAny (model prog w) A (call gz [.ref l]) Q E s:=by
 apply wpAny_call
 apply codeAny_of_tree
 refine(show wpAny _ _ (callAny (.type "set") _) _ _ _ from wpAny_pure ⟨Code.quiet_builtin _ (by decide +kernel),?_⟩)
 refine codeAny_builtin F.entry_type_call ?_
 rw[Around.under_plain rfl rfl]
 delta Builtin.«type.__call__»
 dsimp only
 refine wpAny_ite_split (fun z=>absurd z (by decide)) fun _=>?_
 refine wpAny_ite_split (fun z=>absurd z (by rw[F.called_set.canCreate];decide)) fun _=>?_
 rw[F.typeCall_set_1]
 refine wpAny_bind (wpAny_pure ?_)
 obtain⟨m1,m2,me⟩:=F.called_set.mro
 rw[me]
 refine wpAny_bind (wpAny_pure (wpAny_ite_split (fun z=>absurd z (by simp)) fun _=>?_))
 rw[F.called_set.made]
 refine wpAny_bind (wpAny_pure (wpAny_bind (wpAny_pure (wpAny_bind (wpAny_holding ?_)))))
 refine wpAny_call (codeAny_mono (lO (E:=E) (Q:=fun ob s1=>ob=.ref s.heap.objs.size∧s1={ s with heap:=s.heap.push (yi w) }) (.ref l) ⟨rfl,rfl⟩) fun r s1 c=>?_)
 cases r with
 | error e=>exact c
 | ok fl =>
  cases fl with
  | ret v =>
   obtain⟨rfl,rfl⟩:=c
   have ho:(s.heap.push (yi w)).get? s.heap.objs.size=some (yi w):=Heap.get?_push_size _ rfl
   have ty:({ s with heap:=s.heap.push (yi w) }:Shared).TypeIs (.ref s.heap.objs.size) "set":=⟨_,ho,rfl⟩
   refine wpAny_bind (wpAny_isInstance (b:=true) ty F.called_set.sub (wpAny_ite_split (fun z=>absurd z (by decide)) fun _=>wpAny_bind (wpAny_holding ?_)))
   refine wpAny_callSpecial?_slot ty F.called_set.init (wpAny_call (codeAny_call_builtin F.called_set.init.plain F.entry_set_init (check_set_init_1 ty ?_)))
   refine wpAny_mono (nM (R:=fun fin s1=>fin=.done (.ret .none)∧Q (.ref s.heap.objs.size) s1) (E:=E) ho (hl.mv fun o e=>Heap.get?_push_of_some _ e) (codeAny_mono q fun r s1 c=>?_)) (fun fin s1 c=>?_) fun e s1 c=>c
   ·cases r with
    | error e=>exact c
    | ok fl =>
     cases fl with
     | ret v=>exact⟨rfl,c⟩
     | _=>exact c
   ·obtain⟨rfl,c2⟩:=c
    exact wpAny_pure c2
  | _=>exact c
end
def PhE (a:Addr) (h:Heap):Prop:=∃ o es ep t,h.get? a=some o∧o.ExactSet∧o.data=.set es ep t∧t.fits es.size=true∧es.size<scanBound
def tSe (a:Addr):HO:=.ext (PhE a)
theorem PhE.ok {P:Program}{w:World}{H:Hp}{h:Heap}{a:Addr}(p:PhE a h):ObjOk P w H h a (tSe a):=by
 obtain⟨o,es,ep,t,h1,h2⟩:=id p
 exact⟨p,⟨o,h1⟩,fun k1 k2 ⟨o,es,ep,t,h1,h2⟩ s=>⟨o,es,ep,t,s o h1,h2⟩⟩
section
variable {X:Cx}
theorem mf (hc:X.calm=true):CallR X (.type "set") (fun vs H Q=>∃ a ns,vs=[.ref a]∧SqT X.K H a (List.map V.int ns)∧ns.length≤1000∧∀ p,H p=none→Q (.ref p) (upd H p (tSe p))):=by
 intro pins s σ H vs us Q I rv h
 obtain⟨a,ns,rfl,hq,l,q⟩:=h
 obtain⟨u,rfl,ru⟩:=rv.one
 cases ru
 obtain⟨its,r,p,_⟩:=I.tuple hq
 have hl:its.length=ns.length:=by rw[← r.length,List.length_map]
 have p':SqO false s.heap a its.toArray:=p
 refine nN (I.ok.hd hc) p' ?_
 generalize hd:s.heap.objs.size=d
 have lt:a<d:=by
  obtain⟨o,n,e,_⟩:=p'.ob
  rw[← hd];exact Heap.lt_size e
 have pd:(s.heap.push (yi X.w)).objs.size=d+1:=by rw[size_push',hd]
 rw[pd]
 have g0:((s.heap.push (yi X.w)).push { cls:=.type "tuple_iterator",data:=.fields #[.ref a,.int 0 0] }).get? (d+1)=some { cls:=.type "tuple_iterator",data:=.fields #[.ref a,.int 0 0] }:=by
  rw[← pd];exact Heap.get?_push_size _ rfl
 have g1:((s.heap.push (yi X.w)).push { cls:=.type "tuple_iterator",data:=.fields #[.ref a,.int 0 0] }).get? d=some (yi X.w):=Heap.get?_push_of_some _ (by rw[← hd];exact Heap.get?_push_size _ rfl)
 have old:∀ b o,s.heap.get? b=some o→((s.heap.push (yi X.w)).push { cls:=.type "tuple_iterator",data:=.fields #[.ref a,.int 0 0] }).get? b=some o:=fun b o e=>Heap.get?_push_of_some _ (Heap.get?_push_of_some _ e)
 generalize (s.heap.push (yi X.w)).push { cls:=.type "tuple_iterator",data:=.fields #[.ref a,.int 0 0] }=h0 at g0 g1 old ⊢
 have W:=(ph (prog:=X.prog) (w:=X.w) (A:=X.A.in1.in1.in1) (show X.A.in1.in1.in1.handled=none from I.ok.hd hc) false (d+1) a (Nat.ne_of_lt (Nat.lt_succ_of_lt lt)) its.toArray).toS
 refine codeAny_set_update_loopS (A:=X.A.in1.in1) W d ?_ (fun i=>ns.getD i 0) (fun i v e=>?_) (by rw[show scanBound=4096 from rfl,List.size_toArray];lia) _ 0 _ rfl (Nat.zero_le _) ⟨⟨_,g0,rfl,rfl⟩,p'.mv fun o e=>old a o e⟩ ?_ fun s' mv so=>?_
 ·intro z
  rcases List.mem_cons.mp z with e|z
  ·exact absurd e (Nat.ne_of_lt (Nat.lt_succ_self d))
  ·rw[List.mem_singleton.mp z]at lt
   exact absurd lt (Nat.lt_irrefl _)
 ·have hv':its[i]?=some v:=by simpa using e
  have hi:=(List.getElem?_eq_some_iff.mp hv').1
  have e2:(List.map V.int ns)[i]?=some (V.int (ns.getD i 0)):=by
   rw[List.getElem?_map,List.getD_eq_getElem?_getD,List.getElem?_eq_getElem (by lia)]
   rfl
  obtain⟨u',e',⟨t,rfl⟩⟩:=r.get e2
  rw[hv']at e'
  exact⟨t,Option.some.inj e'⟩
 ·exact⟨_,#[],0,_,g1,⟨rfl,rfl,rfl⟩,rfl,fun e he=>(nomatch he),fun k=>⟨fun z=>(by cases z),fun ⟨e,he,_⟩=>(nomatch he)⟩,by decide,rfl,rfl⟩
 ·obtain⟨o,es,ep,t,e1,e2,e3,_,_,e4,e5,_⟩:=so
  have bl:∀ b o,s.heap.get? b=some o→b∉[d,d+1]:=fun b o e z=>by
   have z1:b<d:=by rw[← hd];exact Heap.lt_size e
   rcases List.mem_cons.mp z with q|q
   ·exact absurd q (Nat.ne_of_lt z1)
   ·exact absurd (List.mem_singleton.mp q) (Nat.ne_of_lt (Nat.lt_succ_of_lt z1))
  have I1:=I.laid (a:=d) (o:=tSe d) (h':=s'.heap) (t':=s'.toks) (fun b o e=>mv.heap b o (bl b o e) (old b o e)) (by rw[hd];exact Nat.le_refl _) (PhE.ok ⟨o,es,ep,t,e1,e2,e3,e5,e4⟩)
  refine⟨.ref d,_,?_,rfl,q d (I.hok.fresh (by rw[hd];exact Nat.le_refl _))⟩
  have es':s'={ s with heap:=s'.heap,toks:=s'.toks }:=by
   obtain⟨_,g,dr,os,_⟩:=mv
   cases s';cases s
   simp only at g dr os ⊢
   subst g dr os
   rfl
  rw[es'];exact I1
theorem mn:CallR X (.builtin "len") (fun vs H Q=>∃ a,vs=[.ref a]∧H a=some (tSe a)∧∀ n:Nat,Q (.int n) H):=by
 intro pins s σ H vs us Q I rv ⟨a,e,d,q⟩
 subst e
 obtain⟨u,rfl,ru⟩:=rv.one
 cases (show u=Value.ref a from ru)
 obtain⟨⟨o,es,ep,t,h1,h2,h3,h4,h5⟩,_,_⟩:=(show ObjOk X.prog X.w H s.heap a (tSe a) from I.hok a _ d)
 exact call_len_set h1 h2 h3 h4 (by rw[show scanBound=4096 from rfl]at h5;lia) ⟨.int es.size,H,I.tok _,⟨_,rfl⟩,q _⟩
end
end L2
namespace L2
open PySem PySem.Spec PyProof.Rows Own
def DCW (P:Program) (w:World) (J:It) (g:TG) (tk tv:TE) (d:Addr) (Q:VK) (W:Nat→Nat→KVN→St→Hp→Prop):Prop :=
 ∀ i m xs σ' H',W i m xs σ' H'→(J.stop i H'∧Q (.ref d) H')∨(J.go i H'∧∀ x H2,J.yld i H' x H2→g x σ' H2 fun σ3 H3=>tk σ3 H3 fun y H4=>tv σ3 H4 fun v H5=>∃ b k,y=.ref b∧H5 d=some (DN P w d xs)∧KsIn H5 xs∧NKey H5 k b∧xs.length<sizeLine ∧
  ∃ m',m'<m∧W (i+1) m' (yk xs k b v) σ3 (upd H5 d (DN P w d (yk xs k b v))))
def tDC (P:Program) (w:World) (cap:List (Option Nat)) (wi:TI) (g:TG) (tk tv:TE):TE:=fun σ H Q=>wi σ H fun J H1=>∀ d,H1 d=none →
 ∃ W:Nat→Nat→KVN→St→Hp→Prop,(∃ m,W 0 m [] (sU cap σ) (upd H1 d (DN P w d [])))∧DCW P w J g tk tv d Q W
theorem ny {X:Cx}{pins:List (Addr × Obj)}{σ:St}{H:Hp}{s:Shared}{a b:Addr}{xs:KVN}{k:KN}{v:V}{r:Value}{E:Value→Shared→Prop}{Q:Unit→Shared→Prop}(hu:X.A.units+3<cLine) (I:Inv X pins σ H s) (e:H a=some (DN X.prog X.w a xs)) (ks:KsIn H xs) (kb:NKey H k b) (rv:RelV v r) (l:xs.length<sizeLine) (h:∀ s',Inv X pins σ (upd H a (DN X.prog X.w a (yk xs k b v))) s'→Q () s') :
  wpAny (model X.prog X.w) X.A (dictSet a (.ref b) r) Q E s:=by
 obtain⟨z,hd,vs,rel,dd⟩:=qG I.hok (.inl e) ks
 have hz:vs.length≤sizeLine:=by rw[← Paired.length rel];exact z
 have hl:(yk xs k b v).length≤sizeLine:=by have:=wg xs k b v;lia
 refine wpAny_dictSet_heap (knd:=yT X.prog X.w) (k:=k) (hsz:=hz) (show X.A.units+2<cLine by lia) (x8 I.hok kb) dd fun h' dd' hs=>h _ ?_
 exact ow I (by rw[e];exact True.intro) hs (let ⟨q,_,_,hq,_⟩:=dd';⟨q,hq⟩) (dn_new hl hd (putN_rel rel k b rv) dd')
theorem iN {prog:Program}{w:World}{A:Around}{R:Result→Shared→Prop}{s:Shared}{kx vx tg iter:Expr}{scope:Scope}{pos:Pos}{it:Value}{D:Addr}{env:Env}(J:Nat→Shared→Prop)
  (turn:∀ n s,J n s→wpAny (model prog w) A (pyNext it) (fun r a=>match r with
   | none=>R (.ok .next) a
   | some v=>wpAny (model prog w) A (letOwnedTupleGo tg it v) (fun _ b=>wpAny (model prog w) A (assign tg env v) (fun _ c=>wpAny (model prog w) A (eval kx env) (fun x d=>wpAny (model prog w) A (eval vx env) (fun y e=>wpAny (model prog w) A (dictSet D x y) (fun _ z=>∃ m,m<n∧J m z) NoX e) NoX d) NoX c) NoX b) NoX a) NoX s) (n:Nat) (h:J n s) :
  codeAny (model prog w) A (.compLoop (.DictComp kx vx [⟨tg,iter,[],0⟩] scope pos) 0 it (.ref D) env) R s:=by
 refine codeAny_loop rfl J (fun n s hI=>?_) n h
 show wpAny _ A ((compTurn (.DictComp kx vx [⟨tg,iter,[],0⟩] scope pos) 0 it (.ref D) env).onRaise (fun x=>do noteFrame x env;theTreesLotGoes x)) _ _ s
 refine wpAny_noted ?_
 rw[compTurn_dict]
 refine wpAny_bind (wpAny_standAt (wpAny_bind (wpAny_mono (turn n s hI) (fun r a h1=>?_) fun _ _ z=>z.elim)))
 cases r with
 | none=>exact wpAny_pure h1
 | some v =>
  refine wpAny_bind (wpAny_mono h1 (fun _ b h2=>?_) fun _ _ z=>z.elim)
  refine wpAny_bind (wpAny_mono h2 (fun _ c h3=>?_) fun _ _ z=>z.elim)
  dsimp only
  rw[List.forIn_nil]
  refine wpAny_bind (wpAny_pure ?_)
  rw[if_pos rfl]
  refine wpAny_bind (wpAny_bind (wpAny_mono h3 (fun x d h4=>wpAny_bind (wpAny_holding (wpAny_mono h4 (fun y e h5=>wpAny_bind (wpAny_standAt (wpAny_holding (wpAny_mono h5 (fun _ f h6=>?_) fun _ _ z=>z.elim)))) fun _ _ z=>z.elim))) fun _ _ z=>z.elim))
  exact wpAny_pure ⟨rfl,h6⟩
theorem kD {X:Cx}{kx vx tg iter:Expr}{scope:Scope}{pos:Pos}{wi:TI}{g:TG}{tk tv:TE}{N':List Str}{cap:List (Option Nat)}(hu:X.A.units+3<cLine)
  (hc:X.calm=true) (hi:PI X tg iter wi) (ck:CapOk X.N N' X.env.scope scope cap)
  (hg:∀ C s₀ H₀ fp pins,PG (yF X N' scope C s₀ H₀ fp pins) tg g)
  (hk:∀ C s₀ H₀ fp pins,PE (yF X N' scope C s₀ H₀ fp pins) kx tk)
  (hv:∀ C s₀ H₀ fp pins,PE (yF X N' scope C s₀ H₀ fp pins) vx tv)
  (hs:∀ x,foldedSetIterable iter X.env x=pure x:=by intro _;rfl):PE X (.DictComp kx vx [⟨tg,iter,[],0⟩] scope pos) (tDC X.prog X.w cap wi g tk tv):=by
 intro pins s σ H Q I h
 rw[arm_eval_DictComp]
 have hcells:∀ y∈scope.names,y.2=.free→∃ c,X.env.cells.lookup y.1=some c:=fun y hy hf=>I.ok.has y.1 (ck.free y hy hf)
 refine wpAny_comprehension_free (use:=none) rfl hs (wS hcells) ck.kind ck.names (thn (hi pins s σ H _ I h) fun v s1 h1=>thn h1 fun itv s2 h2=>?_)
 obtain⟨it,fp,tn,J,H2,e,I2,T,st2,f2,body⟩:=h2
 subst e
 have hfr2:H2 s2.heap.objs.size=none:=I2.hok.fresh (Nat.le_refl _)
 obtain⟨W,⟨m0,w0⟩,turn⟩:=body s2.heap.objs.size hfr2
 have I3:=I2.laid (a:=s2.heap.objs.size) (o:=DN X.prog X.w s2.heap.objs.size []) (h':=s2.heap.push { cls:=.type "dict",data:=.dict #[] }) (t':=s2.toks) (fun _ _ q=>Heap.get?_push_of_some _ q) (Nat.le_refl _)
  (dn_new (vs:=[]) (Nat.zero_le _) (beq_eq_false_iff_ne.mpr (Nat.ne_of_gt I2.big)) .nil (Heap.DictOfH.new _))
 refine wpAny_newObj_type (wpAny_newFunctionEnv ck.nocell (by intro y hy;simp at hy) (fun h₁ hns₁ hsb₁=>?_) ck.kind)
 dsimp only at hns₁ hsb₁ ⊢
 generalize hl:s2.heap.objs.size=l at *
 generalize hP:s2.heap.push { cls:=.type "dict",dict:=none,data:=.dict #[] }=P2 at *
 generalize hH3:upd H2 l (DN X.prog X.w l [])=H3 at *
 have old:∀ b o,P2.get? b=some o→h₁.get? b=some o:=fun b o e=>hsb₁.extBut b o (Nat.ne_of_lt (Heap.lt_size e)) (Heap.get?_push_of_some _ e)
 have old2:∀ b o,s2.heap.get? b=some o→P2.get? b=some o:=fun b o e=>hP ▸ Heap.get?_push_of_some _ e
 have fpl:∀ b∈fp,b<l:=fun b hb=>by
  obtain⟨o,e,_⟩:=T.obj _ _ st2 b hb
  rw[← hl];exact Heap.lt_size e
 have fp3:∀ b∈fp,H3 b=none:=fun b hb=>by
  rw[← hH3,zH (Nat.ne_of_lt (fpl b hb))];exact(f2 b hb).1
 have hPs:P2.objs.size=l+1:=by rw[← hP,Heap.size_push,hl]
 have subc:∀ x c,(wI X.env.cells scope.names []).lookup x=some c→X.env.cells.lookup x=some c:=fun x c e=>xu _ _ x c hcells (fun _ _ z=>by simp at z) e
 generalize hs3:({ s2 with heap:=P2,toks:=s2.toks }:Shared)=s3 at *
 have hs3h:s3.heap=P2:=by rw[← hs3]
 let Y:=yF X N' scope P2.objs.size s3 H3 fp pins
 have hYok:Y.Ok:=by
  refine⟨I3.ok.mod,ck.kind,I3.ok.glob,I3.ok.blt,by show s3.heap.objs.size≤P2.objs.size;rw[hs3h];exact Nat.le_refl _,fun x y c e1 e2=>I3.ok.inj x y c (subc x c e1) (subc y c e2),fun x hx=>?_,fun x c hx=>absurd (show false=true from hx) Bool.false_ne_true,I3.ok.hd,I3.ok.frames,.inl rfl,fun b hb=>⟨?_,fun x c e=>?_⟩,I3.bs,
   Nat.le_trans I3.ok.bsz I3.sz,fun b o e hb=>?_,fun b hb hz=>?_,I3.stack,I3.stkFree⟩
  ·have hx':scope.names.lookup x=some .free:=by
    rcases hx with hx|hx
    ·rcases yU hx with z|z
     ·exact absurd rfl (ck.nocell _ (xX z))
     ·exact z.2
    ·rcases yU hx with z|z
     ·exact z
     ·exact z.2
   exact yt _ _ x hx'
  ·exact Nat.ne_of_lt (by show b<P2.objs.size;rw[hPs];exact Nat.lt_succ_of_lt (fpl b hb))
  ·exact(f2 b hb).2.2.2.2.1 x c (subc x c e)
  ·rcases (f2 b hb).2.2.2.1 with z|z
   ·exact I3.ok.noex b o e z
   ·exact absurd (Nat.lt_of_lt_of_le (Heap.lt_size e) (Nat.le_trans I3.ok.bsz z)) (Nat.lt_irrefl _)
  ·rcases List.mem_cons.mp (I3.stkSub b hz) with z|z
   ·exact(f2 b hb).2.1 z
   ·exact(f2 b hb).2.2.1 z
 have hYi:Inv Y [] (sU cap σ) H3 { s2 with heap:=h₁,toks:=s2.toks }:=by
  refine⟨hYok,by show s2.os=s3.os;rw[← hs3],I2.bare,by show Un _ _ _ _ s3.heap h₁;rw[hs3h];exact Un.kept old,⟨_,hns₁,fun j x v e1 e2 e3=>?_⟩,fun x c e=>?_,?_,fun x c e=>I3.freeC x c (subc x c e),fun p hp=>?_,fun b o e=>?_,?_⟩
  ·have e1':N'[j]?=some x:=e1
   unfold sU at e2
   rw[List.getElem?_map]at e2
   cases ec:cap[j]? with
   | none=>rw[ec]at e2;cases e2
   | some oc =>
    rw[ec]at e2
    cases oc with
    | none=>cases e2
    | some i =>
     have e2':σ[i]?=some (some v):=by
      cases ei:σ[i]? with
      | none=>simp[ei]at e2
      | some v' =>
       simp[ei]at e2
       rw[e2]
     have hz:(x,some i)∈N'.zip cap:=by
      refine List.mem_of_getElem? (i:=j) ?_
      rw[List.getElem?_zip_eq_some]
      exact⟨e1',ec⟩
     obtain⟨hN,hf,hk⟩:=ck.cap _ hz i rfl
     obtain⟨m,hn,hlo⟩:=I3.loc
     obtain⟨u,r,lk⟩:=hlo i x v hN e2' (by rcases hk with z|z;exact .inr (.inl z);exact .inr (.inr z))
     refine⟨u,r,.inr ⟨?_,?_⟩⟩
     ·exact xT hf
     ·rcases lk with ⟨z,_⟩|⟨_,c,hcx,hcell⟩
      ·have z':X.env.scope.names.lookup x=some .local:=z
       rcases hk with q|q
       ·rw[q]at z';cases z'
       ·rw[q]at z';cases z'
      ·obtain⟨c',hc'⟩:=yt (cells:=X.env.cells) scope.names [] x hf
       have:=subc x c' hc'
       rw[hcx]at this;cases this
       obtain⟨ob,e,d⟩:=hcell
       rw[hs3h]at e
       exact⟨c,hc',ob,old c ob e,d⟩
  ·obtain⟨v,ob,e',d⟩:=I3.cell x c (subc x c e)
   rw[hs3h]at e'
   exact⟨v,ob,old c ob e',d⟩
  ·refine I3.hok.fresh ?_
   rw[hs3h];exact Nat.le_refl _
  ·have hp':p∈X.pn++pins:=(List.mem_append.mp hp).elim (fun z=>z) (fun z=>nomatch z)
   obtain⟨e,n,ne,nf,d⟩:=I3.pin p hp'
   rw[hs3h]at e
   refine⟨old _ _ e,n,Nat.ne_of_lt (Heap.lt_size e),fun z=>?_,d⟩
   rcases List.mem_cons.mp (I3.stkSub _ z) with q|q
   ·exact ne q
   ·exact nf q
  ·have:=I3.hok.kept (h':=h₁) (fun b u q=>old b u (by rw[← hs3h];exact q))
   exact this b o e
  ·show (cap.map _).length=N'.length
   rw[List.length_map,ck.len]
 have stat:∀ {H':Hp},(∀ b∈fp,H' b=none)→∀ b∈fp,FpOk Y [] H' b:=fun {H'} hn b hb=>by
  refine⟨hn b hb,(hYok.exf b hb).1,hYok.exfs b hb,.inl hb,(hYok.exf b hb).2,fun p hp=>?_⟩
  have hp':p∈X.pn++pins:=(List.mem_append.mp hp).elim (fun z=>z) (fun z=>nomatch z)
  exact(f2 b hb).2.2.2.2.2 p hp'
 have st1:tn 0 h₁:=T.keep 0 _ _ st2 fun b hb o e=>old b o (old2 b o e)
 have loop:codeAny (model X.prog X.w) X.A (.compLoop (.DictComp kx vx [⟨tg,iter,[],0⟩] scope pos) 0 (.ref it) (.ref l) Y.env) (compPost (model X.prog X.w) X.A X.xe none (EP X pins σ Q) (.ref l) P2.objs.size) { s2 with heap:=h₁,toks:=s2.toks }:=by
  refine iN (fun n s'=>∃ i acc σ' H',Inv Y [] σ' H' s'∧tn i s'.heap∧(∀ b∈fp,H' b=none)∧W i n acc σ' H') ?_ m0 ⟨0,[],_,H3,hYi,st1,fp3,w0⟩
  rintro n s4 ⟨i,acc,σ4,H4,I4,st4,fr4,w4⟩
  have q4:=turn i n acc σ4 H4 w4
  rcases q4 with ⟨stop,qn⟩|⟨go,step⟩
  ·refine thn (T.done Y rfl rfl rfl hc i [] s4 σ4 H4 Y.xe I4 (stat fr4) st4 stop) fun r s5 ⟨hr,I5⟩=>?_
   subst hr
   obtain⟨m,hn,_⟩:=id I5.loc
   have un:Un (frs X.stack) fp H3 H4 s3.heap s5.heap:=I5.base
   have sz3:s3.heap.objs.size≤P2.objs.size:=by rw[hs3h];exact Nat.le_refl _
   have IX:Inv X pins σ H4 s5:=I3.call' (ch:=fp) I5.os un I5.hok I5.bare fun b hb=>⟨(f2 b hb).2.2.2.1,(f2 b hb).2.1,(f2 b hb).2.2.2.2.1,(f2 b hb).2.2.2.2.2⟩
   exact⟨m,hn,fun h' sb=>⟨.ref l,H4,IX.gone (I3.fpOk sz3 I5.free) sb,rfl,qn⟩⟩
  ·refine thn (T.item Y rfl rfl rfl hc i [] s4 σ4 H4 Y.xe I4 (stat fr4) st4 go) fun r s5 ⟨u,hr,h5⟩=>?_
   subst hr
   refine thn h5 fun _ s6 ⟨x,H6,I6,r6,y6,st6,fr6⟩=>?_
   have I6':=I6.pinned (stat fr6) (T.obj _ _ st6)
   refine thn (hg _ _ _ _ _ _ s6 σ4 H6 x u _ I6' r6 (step x H6 y6)) fun _ s7 ⟨σ7,H7,I7,q7⟩=>?_
   have again:∀ {σ9:St}{H9:Hp}{s9:Shared}{acc9:KVN},Inv Y ([]++xU fp s6.heap) σ9 H9 s9→(∃ m',m'<n∧W (i+1) m' acc9 σ9 H9)→∃ m,m<n∧∃ i acc σ' H',Inv Y [] σ' H' s9∧tn i s9.heap∧(∀ b∈fp,H' b=none)∧W i m acc σ' H':=fun {σ9 H9 s9 acc9} I9 ⟨m',hm,w9⟩=>by
    refine⟨m',hm,i+1,acc9,σ9,H9,I9.unpinned,T.keep _ _ _ st6 fun b hb o e=>(I9.pin (b,o) (List.mem_append_right _ (List.mem_append_right _ (yK hb e)))).1,fun b hb=>?_,w9⟩
    obtain⟨o,e,d⟩:=T.obj _ _ st6 b hb
    exact(I9.pin (b,o) (List.mem_append_right _ (List.mem_append_right _ (yK hb e)))).2.1
   refine thn (hk _ _ _ _ _ _ s7 σ7 H7 _ I7 q7) fun u1 s8 ⟨y,H8,I8,r8,q8⟩=>thn (hv _ _ _ _ _ _ s8 σ7 H8 _ I8 q8) fun u2 s9 ⟨v,H9,I9,r9,b,k,ey,hd9,ks9,kb9,l9,q9⟩=>?_
   subst ey
   cases (show u1=Value.ref b from r8)
   exact ny (X:=Y) hu I9 hd9 ks9 kb9 r9 l9 fun s10 I10=>again I10 q9
 exact codeAny_compStart_dict loop (T.self X.A 0 _ _ _ st1 loop)
end L2
namespace L2
open PySem PySem.Spec PyProof.Rows Own Bn
inductive PlO:HO→Prop
 | tup (xs:List V):PlO (.tup xs)
 | lst (xs:List V):PlO (.lst xs)
 | dK:PlO (.dK [])
def KpN (H H':Hp):Prop:=∀ b o,H b=some o→PlO o→H' b=some o
theorem KpN.same {H H':Hp}(s:Same H H'):KpN H H':=fun b o e _=>s b o e
theorem KpN.trans {H H1 H2:Hp}(x:KpN H H1) (y:KpN H1 H2):KpN H H2:=fun b o e n=>y b o (x b o e n) n
theorem KpN.but {P:Addr}{q:Array Value}{H H':Hp}(b:But P H H') (hP:H P=some (.tbl q)):KpN H H':=fun c o e n=>b c o e (yr e hP fun z=>by subst z;cases n)
theorem KpN.strip {H:Hp}{cl:List (Str × Addr)}(fz:CellsFz cl H):KpN H (strip cl H):=fun b o e n=>by
 rw[zx]
 ·exact e
 ·intro hc
  obtain⟨u,q⟩:=fz b hc
  rw[e]at q
  cases q;cases n
theorem KpN.tups {H H':Hp}(k:KpN H H'):Tups H H':=fun b xs e=>k b _ e (.tup xs)
instance memN (k:KN) (ks:List KN):Decidable (k∈ks):=decidable_of_iff (ks.any (fun x=>decide (x=k))=true) (by simp)
def ddN (ks:List KN) (k:KN):List KN:=if k∈ks then ks else ks++[k]
def ddL (ss:List KN):List KN:=ss.foldl ddN []
theorem qJ (ss:List KN) (s:KN):ddL (ss++[s])=ddN (ddL ss) s:=by unfold ddL;rw[List.foldl_append];rfl
theorem ou (ss:List KN):(∀ x,x∈ddL ss↔x∈ss)∧(ddL ss).length≤ss.length∧((ddL ss).length=ss.length↔ss.Nodup):=by
 rcases List.eq_nil_or_concat ss with rfl|⟨ss,s,rfl⟩
 ·exact⟨fun x=>Iff.rfl,Nat.le_refl _,⟨fun _=>List.nodup_nil,fun _=>rfl⟩⟩
 ·rw[List.concat_eq_append]
  obtain⟨h1,h2,h3⟩:=ou ss
  rw[qJ]
  have nd:(ss++[s]).Nodup↔ss.Nodup∧s∉ss:=by
   rw[List.nodup_append]
   constructor
   ·rintro⟨a,_,c⟩
    exact⟨a,fun z=>c s z s (.head _) rfl⟩
   ·rintro⟨a,c⟩
    exact⟨a,List.nodup_cons.mpr ⟨List.not_mem_nil,List.nodup_nil⟩,fun x hx y hy e=>c (by rw[← List.mem_singleton.mp hy,← e];exact hx)⟩
  unfold ddN
  by_cases c:s∈ddL ss
  ·rw[if_pos c]
   have c':=(h1 s).mp c
   refine⟨fun x=>?_,by rw[List.length_append];show _≤_+1;lia,?_⟩
   ·rw[h1,List.mem_append,List.mem_singleton]
    exact⟨.inl,fun z=>z.elim id fun y=>y ▸ c'⟩
   ·rw[nd,List.length_append]
    exact⟨fun z=>by have:(ddL ss).length=ss.length+1:=z;lia,fun z=>absurd c' z.2⟩
  ·rw[if_neg c]
   have c':s∉ss:=fun z=>c ((h1 s).mpr z)
   refine⟨fun x=>?_,by rw[List.length_append,List.length_append];show _+1≤_+1;lia,?_⟩
   ·rw[List.mem_append,List.mem_append,h1]
   ·rw[nd,List.length_append,List.length_append,← h3]
    exact⟨fun z=>⟨by have:(ddL ss).length+1=ss.length+1:=z;lia,c'⟩,fun z=>by rw[z.1]⟩
termination_by ss.length
decreasing_by rename_i h;rw[h,List.length_concat];exact Nat.lt_succ_self _
def xv (stO:V→Option KN) (xs:List V) (k0:KN) (moves:List Nat) (step:KN→Nat→Option KN):Bool:=match xs.mapM stO with
 | none=>false
 | some ss=>(decide ss.Nodup && decide (k0∈ss)) && ss.all fun s=>moves.all fun m=>match step s m with|none=>false|some t=>decide (t∈ss)
theorem ub {stO:V→Option KN}{xs:List V}{k0:KN}{moves:List Nat}{step:KN→Nat→Option KN}(h:xs.mapM stO=none):xv stO xs k0 moves step=false:=by
 unfold xv;rw[h]
theorem ua {stO:V→Option KN}{xs:List V}{ss:List KN}{k0:KN}{moves:List Nat}{step:KN→Nat→Option KN}(h:xs.mapM stO=some ss):xv stO xs k0 moves step=((decide ss.Nodup && decide (k0∈ss)) && ss.all fun s=>moves.all fun m=>match step s m with|none=>false|some t=>decide (t∈ss)):=by
 unfold xv;rw[h]
theorem tG {α β:Type}{f:α→Option β}{xs:List α}:xs.mapM f=none↔∃ x∈xs,f x=none:=by
 induction xs with
 | nil=>simp
 | cons x xs ih =>
  rw[List.mapM_cons]
  cases e:f x with
  | none=>exact⟨fun _=>⟨x,.head _,e⟩,fun _=>rfl⟩
  | some y =>
   cases g:xs.mapM f with
   | none =>
    obtain⟨z,hz,q⟩:=ih.mp g
    exact⟨fun _=>⟨z,.tail _ hz,q⟩,fun _=>rfl⟩
   | some ys =>
    refine⟨fun z=>(by cases z),fun ⟨z,hz,q⟩=>?_⟩
    rcases List.mem_cons.mp hz with rfl|w
    ·rw[e]at q;cases q
    ·rw[ih.mpr ⟨z,w,q⟩]at g;cases g
theorem uz {α β:Type}{f:α→Option β}:∀ {xs:List α}{ys:List β},xs.mapM f=some ys→xs.length=ys.length∧∀ (i:Nat) x,xs[i]?=some x→∃ y,ys[i]?=some y∧f x=some y
 | [],ys,h=>by
  rw[List.mapM_nil]at h
  cases h
  exact⟨rfl,fun i x e=>by cases e⟩
 | x::xs,ys,h=>by
  rw[List.mapM_cons]at h
  cases e:f x with
  | none=>rw[e]at h;cases h
  | some y =>
   rw[e]at h
   cases g:xs.mapM f with
   | none=>rw[g]at h;cases h
   | some zs =>
    rw[g]at h
    cases h
    obtain⟨h1,h2⟩:=uz g
    refine⟨congrArg (· + 1) h1,fun i u hu=>?_⟩
    cases i with
    | zero=>cases hu;exact⟨y,rfl,e⟩
    | succ i=>exact h2 i u hu
section
variable {K:PySem.W.Frag}{a:Addr}{xs:List V}{g g1:TG}{wi1:TI}{tt:TT}{te tk tv:TE}{l:Addr}{σ:St}{H:Hp}{Q:VK}
theorem j9 (Pv:Nat→List V→St→Hp→Prop) (h0:Pv 0 [] σ H)
  (hl:∀ i acc σ H,Pv i acc σ H→H l=some (.lst acc)∧SqT K H a xs)
  (hs:∀ i acc σ H x,xs[i]?=some x→Pv i acc σ H→g x σ H fun σ3 H3=>wi1 σ3 H3 fun J1 H4 =>
   ∃ W1:Nat→Nat→List V→St→Hp→Prop,(∃ m1,W1 0 m1 acc σ3 H4)∧LCW1 J1 g1 tt te l (fun ac τ G=>Nx xs.length i (Pv (i+1) ac τ G)) W1)
  (hd:∀ acc σ H,Pv xs.length acc σ H→Q (.ref l) H):∃ W:Nat→Nat→List V→St→Hp→Prop,(∃ m,W 0 m [] σ H) ∧
   ∀ i m acc σ' H',W i m acc σ' H'→H' l=some (.lst acc)∧(((Itt K a).stop i H'∧Q (.ref l) H')∨((Itt K a).go i H'∧∀ x H2,(Itt K a).yld i H' x H2→g x σ' H2 fun σ3 H3=>wi1 σ3 H3 fun J1 H4 =>
    ∃ W1:Nat→Nat→List V→St→Hp→Prop,(∃ m1,W1 0 m1 acc σ3 H4)∧LCW1 J1 g1 tt te l (fun ac τ G=>∃ m',m'<m∧W (i+1) m' ac τ G) W1)):=by
 refine⟨fun i m acc σ H=>m=xs.length-i∧i≤xs.length∧Pv i acc σ H,⟨xs.length,by simp,Nat.zero_le _,h0⟩,?_⟩
 rintro i m acc σ H ⟨rfl,hi,p⟩
 obtain⟨q0,q1⟩:=hl i acc σ H p
 refine⟨q0,?_⟩
 by_cases hlt:i<xs.length
 ·refine .inr ⟨⟨xs,xs[i],q1,List.getElem?_eq_getElem hlt⟩,fun x H2 ⟨e,y⟩=>?_⟩
  subst e
  exact hs i acc σ _ x (y xs q1) p
 ·obtain rfl:i=xs.length:=by lia
  exact .inl ⟨⟨xs,q1,Nat.le_refl _⟩,hd acc σ H p⟩
theorem gr {P:Program}{w:World}(Pv:Nat→KVN→St→Hp→Prop) (h0:Pv 0 [] σ H) (hl:∀ i acc σ H,Pv i acc σ H→SqT K H a xs)
  (hs:∀ i x acc σ H,xs[i]?=some x→Pv i acc σ H→g x σ H fun σ3 H3=>tk σ3 H3 fun y H4=>tv σ3 H4 fun v H5=>∃ b k,y=.ref b∧H5 l=some (DN P w l acc)∧KsIn H5 acc∧NKey H5 k b∧acc.length<sizeLine∧Nx xs.length i (Pv (i+1) (yk acc k b v) σ3 (upd H5 l (DN P w l (yk acc k b v)))))
  (hd:∀ acc σ H,Pv xs.length acc σ H→Q (.ref l) H):∃ W:Nat→Nat→KVN→St→Hp→Prop,(∃ m,W 0 m [] σ H)∧DCW P w (Itt K a) g tk tv l Q W:=by
 refine⟨fun i m acc σ H=>m=xs.length-i∧i≤xs.length∧Pv i acc σ H,⟨_,rfl,Nat.zero_le _,h0⟩,?_⟩
 rintro i m acc σ H ⟨rfl,hi,p⟩
 have q1:=hl i acc σ H p
 by_cases hlt:i<xs.length
 ·refine .inr ⟨⟨xs,xs[i],q1,List.getElem?_eq_getElem hlt⟩,fun x H2 ⟨e,y⟩=>?_⟩
  subst e
  exact hs i x acc σ _ (y xs q1) p
 ·obtain rfl:i=xs.length:=by lia
  exact .inl ⟨⟨xs,q1,Nat.le_refl _⟩,hd acc σ H p⟩
end
def vq (P:Program) (w:World) (K:PySem.W.Frag) (LS:Lam) (frS:List Str) (lspS:LSpc) (L:Lam) (fr:List Str) (lsp:LSpc):Sp:=fun vs H Q _=>∃ x fs b0 mv f clS valsS k0 moves cl vals step Ok n stO,
 vs=[x,.ref fs,.ref b0,.ref mv,.ref f]∧clS.map (·.1)=frS∧LamAt H fs LS clS valsS∧NKey H k0 b0∧Way K H mv f L fr lsp cl vals step Ok moves n∧moves.length≤16∧AnyT K H x ∧
 (∀ xs,zw H x=some xs→xs.length≤500000∧∀ y∈xs,(∀ H1 (Q1:VK),KpN H H1→(∀ H2,Same H1 H2→Q1 (.bl (stO y).isSome) H2)→lspS valsS [y] H1 Q1 E0)∧∀ s,stO y=some s→Ok s∧∃ b,y=.ref b∧NKey H s b) ∧
 ∀ H',Same H H'→Q (.bl (match zw H x with|none=>false|some xs=>xv stO xs k0 moves step)) H'
def An (H:Hp) (x:V):Prop:=Flat x∨∃ a,x=.ref a∧((∃ xs,H a=some (.tup xs))∨(∃ xs,H a=some (.lst xs))∨H a=some (.dK []))
theorem An.any {K:PySem.W.Frag}{H:Hp}{x:V}(h:An H x):AnyT K H x:=by
 rcases h with h|⟨a,rfl,⟨xs,h⟩|⟨xs,h⟩|h⟩
 ·exact(Good.flat (D:=fun _=>True) h).any
 ·exact⟨_,.tup h,_,rfl⟩
 ·exact⟨_,.lst h,_,rfl⟩
 ·exact⟨_,.dK h,_,rfl⟩
theorem An.kp {H H':Hp}{x:V}(k:KpN H H') (h:An H x):An H' x:=by
 rcases h with h|⟨a,e,⟨xs,h⟩|⟨xs,h⟩|h⟩
 ·exact .inl h
 ·exact .inr ⟨a,e,.inl ⟨xs,k _ _ h (.tup _)⟩⟩
 ·exact .inr ⟨a,e,.inr (.inl ⟨xs,k _ _ h (.lst _)⟩)⟩
 ·exact .inr ⟨a,e,.inr (.inr (k _ _ h .dK))⟩
theorem An.row {H H':Hp}{x:V}(k:KpN H H') (h:An H x):zw H' x=zw H x:=by
 rcases h with h|⟨a,e,⟨xs,h⟩|⟨xs,h⟩|h⟩
 ·cases x<;>first|rfl|exact h.elim
 ·subst e;rw[zy h,zy (k _ _ h (.tup _))]
 ·subst e
  have h':=k _ _ h (.lst _)
  simp only[zw,h,h']
 ·subst e
  have h':=k _ _ h .dK
  simp only[zw,h,h']
def Dp (H:Hp):Nat→V→Prop
 | 0,x=>An H x
 | n+1,x=>An H x∧∀ xs,zw H x=some xs→xs.length≤1000∧∀ y∈xs,Dp H n y
theorem Dp.an {H:Hp}:∀ {n:Nat}{x:V},Dp H n x→An H x
 | 0,_,h=>h
 | _+1,_,h=>h.1
theorem Dp.deep {K:PySem.W.Frag}{H:Hp}:∀ {n:Nat}{x:V},Dp H n x→Deep K H n x
 | 0,_,h=>h.any
 | _+1,_,h=>⟨h.1.any,fun xs e=>⟨(h.2 xs e).1,fun y hy=>((h.2 xs e).2 y hy).deep⟩⟩
theorem Dp.kp {H H':Hp}(k:KpN H H'):∀ {n:Nat}{x:V},Dp H n x→Dp H' n x
 | 0,_,h=>An.kp k h
 | _+1,_,h=>⟨h.1.kp k,fun xs e=>by
  rw[h.1.row k]at e
  exact⟨(h.2 xs e).1,fun y hy=>((h.2 xs e).2 y hy).kp k⟩⟩
def uH (xs:List Int):Int:=(xs.min?).getD 0
def n4 (xs:List Int):Int:=(xs.max?).getD 0
theorem x9 {xs:List Int}{m:Int}(h:m∈xs) (l:∀ x∈xs,m≤x):uH xs=m:=by
 unfold uH
 rw[List.min?_eq_some_iff.mpr ⟨h,l⟩];rfl
theorem oU {xs:List Int}{m:Int}(h:m∈xs) (l:∀ x∈xs,x≤m):n4 xs=m:=by
 unfold n4
 rw[List.max?_eq_some_iff.mpr ⟨h,l⟩];rfl
theorem vb {xs:List Int}(h:xs≠[]):uH xs∈xs∧∀ x∈xs,uH xs≤x:=by
 cases e:xs.min? with
 | none=>rw[List.min?_eq_none_iff]at e;exact absurd e h
 | some m =>
  obtain⟨a,b⟩:=List.min?_eq_some_iff.mp e
  rw[x9 a b];exact⟨a,b⟩
def vT (hs:List Int):List Int:=hs.map fun h=>h-uH hs
theorem rp (hs:List Int):(vT hs).length=hs.length:=List.length_map _
theorem sO {hs:List Int}(h:hs≠[]):(∀ x∈vT hs,0≤x)∧0∈vT hs:=by
 obtain⟨a,b⟩:=vb h
 refine⟨fun x hx=>?_,List.mem_map.mpr ⟨_,a,by lia⟩⟩
 obtain⟨u,hu,rfl⟩:=List.mem_map.mp hx
 have:=b u hu
 lia
def plK (ts hs:List Int):KN:=[.inr ts,.inr hs]
theorem vM {H:Hp}{ts hs:List Int}{b:Addr}(h:NKey H (plK ts hs) b):∃ t u,H b=some (.tup [.ref t,.ref u])∧H t=some (.tup (ts.map V.int))∧H u=some (.tup (hs.map V.int)):=by
 obtain⟨ys,h1,v,r,e,⟨t,e1,ht⟩,v2,r2,e2,⟨u,e3,hu⟩,e4⟩:=h
 subst e1 e3 e4 e2 e
 exact⟨t,u,h1,ht,hu⟩
theorem xw {H:Hp}{ts hs:List Int}{b t u:Addr}(h1:H b=some (.tup [.ref t,.ref u])) (h2:H t=some (.tup (ts.map V.int))) (h3:H u=some (.tup (hs.map V.int))):NKey H (plK ts hs) b :=
 ⟨_,h1,_,_,rfl,⟨t,rfl,h2⟩,_,_,rfl,⟨u,rfl,h3⟩,rfl⟩
def xM (N:Nt):KN→Nat→Option KN
 | [.inr ts,.inr hs],m=>some (plK (uG N ts m) (vT (yd hs (passE N ts m) 1)))
 | _,_=>none
theorem wX (N:Nt) (ts hs:List Int) (m:Nat):xM N (plK ts hs) m=some (plK (uG N ts m) (vT (yd hs (passE N ts m) 1))):=rfl
def OkR (N:Nt) (k:KN):Prop:=∃ ts hs,k=plK ts hs∧ts.length=N.forks.length∧Bits ts∧hs.length=N.lanes∧(∀ h∈hs,0≤h)∧0∈hs
theorem nn {N:Nt}(ok:Nt.Ok N):OkR N (plK (List.replicate N.forks.length 0) (List.replicate N.lanes 0)) :=
 ⟨_,_,rfl,List.length_replicate,fun t ht=>.inl (List.eq_of_mem_replicate ht),List.length_replicate,fun h hh=>by rw[List.eq_of_mem_replicate hh];exact Int.le_refl _,List.mem_replicate.mpr ⟨by have:=ok.l1;lia,rfl⟩⟩
theorem sx {N:Nt}(ok:Nt.Ok N) {s t:KN}{m:Nat}(h:OkR N s) (e:xM N s m=some t):OkR N t:=by
 obtain⟨ts,hs,rfl,h1,h2,h3,h4,h5⟩:=h
 rw[wX]at e
 cases e
 have l1:=ok.l1
 have ne:yd hs (passE N ts m) 1≠[]:=fun z=>by
  have:=congrArg List.length z
  rw[yW,List.length_nil]at this
  lia
 exact⟨_,_,rfl,(nV _ _ _).trans h1,pF h2,by rw[rp,yW];exact h3,(sO ne).1,(sO ne).2⟩
def ww:Sp:=fun vs H Q _=>∃ r fr er ps N,vs=[.ref r]∧Nt.Ok N∧NetAt H r fr er ps N∧∀ p H',Same H H'→NKey H' (plK (List.replicate N.forks.length 0) (List.replicate N.lanes 0)) p→Q (.ref p) H'
def wZ:Sp:=fun vs H Q _=>∃ r fr er ps N b k,∃ lane:Nat,vs=[.ref r,.ref b,.int (lane:Nat)]∧Nt.Ok N∧NetAt H r fr er ps N∧NKey H k b∧OkR N k∧lane<N.lanes ∧
 ∀ H2 b' t,Same H H2→xM N k lane=some t→NKey H2 t b'→Q (.ref b') H2
def xj:LSpc:=fun vals vs H Q E=>∃ r b,∃ lane:Nat,vals=[.ref r]∧vs=[.ref b,.int (lane:Nat)]∧wZ [.ref r,.ref b,.int (lane:Nat)] H Q E
theorem mC {H:Hp}{r fr er:Addr}{ps:List V}{N:Nt}{moves:List Nat}(ok:Nt.Ok N) (na:NetAt H r fr er ps N) (lt:∀ m∈moves,m<N.lanes):Led xj [.ref r] (xM N) (OkR N) moves H:=fun H1 s b m Q t os mm kb _ q2 =>
 ⟨r,b,m,rfl,rfl,r,fr,er,ps,N,b,s,m,rfl,ok,na.tups t,kb,os,lt m mm,q2⟩
def xG (xs:List V):List Int:=xs.filterMap fun x=>match x with|.int i=>some i|_=>none
theorem vD (is:List Int):xG (is.map V.int)=is:=by
 induction is with
 | nil=>rfl
 | cons i is ih=>show i::xG (is.map V.int)=_;rw[ih]
theorem uP {xs:List V}(h:∀ x∈xs,tR x=true):xs=(xG xs).map V.int:=by
 induction xs with
 | nil=>rfl
 | cons x xs ih =>
  have e:=h x (.head _)
  cases x with
  | int i=>show V.int i::xs=V.int i::(xG xs).map V.int;rw[← ih fun y hy=>h y (.tail _ hy)]
  | _=>cases e
def wH (H:Hp) (x:V):List Int:=xG ((zw H x).getD [])
def yY (H:Hp) (many:Int) (x:V):Bool:=match zw H x with
 | some xs=>decide ((xs.length:Int)=many) && xs.all (y4 0)
 | none=>false
def wR (H:Hp) (nf lanes far:Int) (x:V):Bool:=match zw H x with
 | some [t,h]=>ya H nf 2 t && (yY H lanes h && (decide (uH (wH H h)=0) && decide (n4 (wH H h)≤far)))
 | _=>false
theorem vQ {x:V}{b:Int}(h:y4 b x=true):tR x=true:=by
 cases x with
 | int i=>rfl
 | _=>cases h
theorem sX {x:V}{b:Int}(h:wT b x=true):tR x=true:=by
 cases x with
 | int i=>rfl
 | _=>cases h
def stR (H:Hp) (nf lanes far:Int) (x:V):Option KN:=if wR H nf lanes far x=true then match zw H x with
 | some [t,h]=>some (plK (wH H t) (wH H h))
 | _=>none else none
theorem iw (H:Hp) (nf lanes far:Int) (x:V):(stR H nf lanes far x).isSome=wR H nf lanes far x:=by
 unfold stR
 by_cases c:wR H nf lanes far x=true
 ·rw[if_pos c,c]
  unfold wR at c
  split at c
  ·rfl
  ·cases c
 ·rw[if_neg c,show wR H nf lanes far x=false by simpa using c];rfl
theorem lG {H:Hp}{N:Nt}{far:Int}{x:V}{s:KN}(l1:1≤N.lanes) (h:stR H (N.forks.length:Nat) (N.lanes:Nat) far x=some s):OkR N s∧∃ b,x=.ref b∧NKey H s b:=by
 unfold stR at h
 split at h
 ·rename_i c
  unfold wR at c
  split at c
  ·rename_i t u e
   rw[e]at h
   cases h
   obtain⟨b,rfl,hb⟩:=yI e
   obtain⟨c1,c2⟩:=(Bool.and_eq_true _ _).mp c
   obtain⟨c2,c3⟩:=(Bool.and_eq_true _ _).mp c2
   obtain⟨c3,c4⟩:=(Bool.and_eq_true _ _).mp c3
   unfold ya at c1
   unfold yY at c2
   split at c1
   ·rename_i ts e1
    split at c2
    ·rename_i hs e2
     obtain⟨a1,a2⟩:=(Bool.and_eq_true _ _).mp c1
     obtain⟨b1,b2⟩:=(Bool.and_eq_true _ _).mp c2
     have a3:=uP fun y hy=>sX (List.all_eq_true.mp a2 y hy)
     have b3:=uP fun y hy=>vQ (List.all_eq_true.mp b2 y hy)
     obtain⟨t,rfl,ht⟩:=yI e1
     obtain⟨u,rfl,hu⟩:=yI e2
     have r1:wH H (.ref t)=xG ts:=by unfold wH;rw[e1];rfl
     have r2:wH H (.ref u)=xG hs:=by unfold wH;rw[e2];rfl
     rw[r1,r2]
     rw[r2]at c3
     have la:(xG ts).length=ts.length:=by have:=congrArg List.length a3;rw[List.length_map]at this;exact this.symm
     have lb:(xG hs).length=hs.length:=by have:=congrArg List.length b3;rw[List.length_map]at this;exact this.symm
     have a1':=of_decide_eq_true a1
     have b1':=of_decide_eq_true b1
     refine⟨⟨_,_,rfl,by lia,fun i hi=>?_,by lia,fun i hi=>?_,?_⟩,b,rfl,xw hb (by rw[← a3];exact ht) (by rw[← b3];exact hu)⟩
     ·have:=List.all_eq_true.mp a2 (.int i) (by rw[a3];exact List.mem_map.mpr ⟨i,hi,rfl⟩)
      obtain⟨p,q⟩:=(Bool.and_eq_true _ _).mp (show (decide (0≤i) && decide (i<2))=true from this)
      have p:=of_decide_eq_true p
      have q:=of_decide_eq_true q
      lia
     ·have:=List.all_eq_true.mp b2 (.int i) (by rw[b3];exact List.mem_map.mpr ⟨i,hi,rfl⟩)
      exact of_decide_eq_true (show decide (0≤i)=true from this)
     ·rw[← of_decide_eq_true c3]
      exact(vb fun z=>by rw[z,List.length_nil]at lb;lia).1
    ·cases c2
   ·cases c1
  ·cases c
 ·cases h
theorem qu {H H':Hp}{x:V}{n:Nat}(k:KpN H H') (d:Dp H n x):zw H' x=zw H x:=d.an.row k
theorem j7 {H H':Hp}{nf lanes far:Int}{x:V}(k:KpN H H') (d:Dp H 2 x):wR H' nf lanes far x=wR H nf lanes far x:=by
 unfold wR
 rw[qu k d]
 split
 ·rename_i t h e
  have dt:=(d.2 _ e).2 t (.head _)
  have dh:=(d.2 _ e).2 h (.tail _ (.head _))
  unfold ya yY wH
  rw[qu k dt,qu k dh]
 ·rfl
def vX (K:PySem.W.Frag):Sp:=fun vs H Q _=>∃ r fr er ps N,∃ far:Int,∃ x,vs=[.ref r,.int far,x]∧Nt.Ok N∧NetAt H r fr er ps N∧Deep K H 2 x∧∀ H',Same H H'→Q (.bl (wR H (N.forks.length:Nat) (N.lanes:Nat) far x)) H'
def vo (K:PySem.W.Frag) (q:Str) (Pt:Addr):Sp:=fun vs H Q _=>∃ r fr er ps N sm,∃ moves:List Nat,∃ far:Int,∃ x,vs=[.ref r,.ref sm,.int far,x]∧Nt.Ok N∧NetAt H r fr er ps N∧H sm=some (.tup (zT moves))∧(∀ m∈moves,m<N.lanes)∧moves.length≤16 ∧
 An H x∧(∀ xs,zw H x=some xs→xs.length≤500000∧∀ y∈xs,Dp H 2 y)∧TabQ q Pt H ∧
 ∀ H',But Pt H H'→TabQ q Pt H'→Q (.bl (match zw H x with|none=>false|some xs=>xv (stR H (N.forks.length:Nat) (N.lanes:Nat) far) xs (plK (List.replicate N.forks.length 0) (List.replicate N.lanes 0)) moves (xM N))) H'
end L2
namespace Bn
open PySem L2 Own
def col (N:Nt) (d i j:Nat):Int:=((List.range N.lanes).map fun lane=>(vE (N.forks.take i) (gx N.lanes lane (pw d))).1.getD j 0).sum
end Bn
namespace L2
open PySem PySem.Spec PyProof.Rows Own
end L2
namespace Bn
open PySem L2 Own
section
variable {n s p c u:Addr}
end
end Bn
namespace L2
open PySem
end L2
namespace Bn
open PySem L2 Own
def dl (lane l:Nat):Int:=if l=lane then 1 else 0
def cF (p:Nat × Nat→Bool):Option (Nat × Nat)→Bool
 | some o=>p o
 | none=>false
def cnt (os:List (Option (Nat × Nat))) (p:Nat × Nat→Bool):Int:=(os.countP (cF p):Nat)
end Bn
namespace L2
open PySem
abbrev iV (K:PySem.W.Frag) (b:Bool):List V→Hp→VK→Prop:=fun vs H Q=>∃ a ns,vs=[.ref a]∧SqB b K H a (List.map V.int ns)∧0<ns.length∧∀ M,M∈ns→(∀ x∈ns,M≤x)→Q (.int M) H
end L2
namespace K45
open PySem L2 Own Bn
abbrev qo:Stmt:=top 39
abbrev jd:Stmt:=top 41
def tX:Sp:=fun vs H Q _=>∃ r fr er ps N sm,∃ moves:List Nat,vs=[.ref r,.ref sm]∧Nt.Ok N∧NetAt H r fr er ps N∧H sm=some (.tup (zT moves))∧∀ H' (b:Bool),Same H H'→Q (.bl b) H'
def wP (b:Bool):Sp:=fun vs H Q _=>∃ (c:Addr) (hs:List Int),vs=[.ref c]∧H c=some (match b with|true=>.lst (hs.map V.int)|false=>.tup (hs.map V.int))∧hs≠[]∧hs.length≤1000∧∀ p H',Same H H'→H' p=some (.tup ((vT hs).map V.int))→Q (.ref p) H'
section
variable {P:Program}{w:World}{K:PySem.W.Frag}{mg:Str→Option Value}{base:Heap}
theorem i3:FnScope ["_law_net_here","_law_some_here","_law_lane","_law_counts"] ["_law_net_here","_law_some_here"] (zM qo):=⟨rfl,rfl,rfl,by decide +kernel,rfl,by decide +kernel,by decide +kernel⟩
theorem kS {f fE:Addr}{fd dE:FuncData}(F:Fun K "_law_even" "_law_even" qo f fd) (G:Mgs mg) (GS:MgSet mg) (UE:Use P w K mg base "_law_ends" ["_law_net_here","_law_counts"] 1 qX fE dE):FnOk P w K mg base CX0 2 f fd ["_law_net_here","_law_some_here"] tX:=by
 refine F.ok i3 (fun vs H Q E h=>?_) (fun cdv A outer s H vs Q E hr h=>?_)
 ·obtain⟨r,fr,er,ps,N,sm,moves,rfl,_⟩:=h
  rfl
 obtain⟨r,fr,er,ps,N,sm,moves,rfl,ok,na,hsm,k⟩:=h
 refine⟨_,(@zF _ _ _ _ _ (@yn _ _ _ _ _ _ _ _ PassesOwn.never rfl (@yX _ _ _ _ (@pv _ 1 _ _ (by rfl) (by first|exact Or.inl rfl|exact Or.inr (.inl rfl)|exact Or.inr (.inr rfl)) (by decide) (by decide))) (@zL _ _ 2 _ i3.nd rfl (.inr rfl) (by first|exact .inl rfl|exact .inr rfl|assumption)) (@zF _ _ _ _ _ (@zi _ _ 3 _ _ _ _ i3.nd rfl (.inl rfl) (@zV _ _ _ _ _ _ _ _ _ zZ (by rfl) G.tuple (by rfl) (@zA _ _ _ _ _ (@xN _ _ _ _ none _ _ _ _ _ _ ["_law_one","_law_lane"] [none,some 2] rfl (@yb _ _ _ _ _ _ rfl G.range (@zA _ _ _ _ _ (@zY _ _ _ _ _ _ _ yB (@pv _ 0 _ _ (by rfl) (by first|exact Or.inl rfl|exact Or.inr (.inl rfl)|exact Or.inr (.inr rfl)) (by decide) (by decide)) zE (fun _ _=>rfl)) zB (by rfl)) (by rfl)) (CapOk.of (by kernel_rfl)) (fun _ _ _ _ _=>(@zL _ _ 0 _ (show (["_law_one","_law_lane"]:List Str).Nodup from by decide +kernel) rfl (.inl rfl) (.inr rfl))) (fun _ _ _ _ _=>yN) (fun _ _ _ _ _=>(@zR _ _ _ _ _ _ _ _ xJ (@zR _ _ _ _ _ _ _ _ pG zE zE) (@zV _ _ _ _ _ _ _ _ _ wF (by rfl) G.int (by rfl) (@zA _ _ _ _ _ (@y8 _ _ _ _ _ _ _ _ y0 (@pv _ 0 _ _ (by rfl) (by first|exact Or.inl rfl|exact Or.inr (.inl rfl)|exact Or.inr (.inr rfl)) (by decide) (by decide)) (@pv _ 1 _ _ (by rfl) (by first|exact Or.inl rfl|exact Or.inr (.inl rfl)|exact Or.inr (.inr rfl)) (by decide) (by decide)) (zp _)) zB (by rfl)) (by decide) (by decide) (by rfl) (by rfl)))) (by intro _;rfl)) zB (by rfl)) (by decide) (by decide) (by rfl) (by rfl)) (by rfl) (by first|exact .inl rfl|exact .inr rfl|assumption)) (@zK _ _ _ (@yM _ _ _ _ _ _ _ _ (@zj _ _ _ _ _ _ _ _ oP (@zQ _ _ _ _ _ _ _ _ _ mn (by rfl) G.len PySem.boot_len (@zA _ _ _ _ _ (@zV _ _ _ _ _ _ _ _ _ (mf rfl) (by rfl) GS.set (by rfl) (@zA _ _ _ _ _ (@zJ _ _ _ _ _ _ _ _ _ _ _ _ _ _ _ _ UE.ok hr (by rfl) UE.m UE.kp UE.b .nil zS (@zA _ _ _ _ _ (@pv _ 0 _ _ (by rfl) (by first|exact Or.inl rfl|exact Or.inr (.inl rfl)|exact Or.inr (.inr rfl)) (by decide) (by decide)) (@zA _ _ _ _ _ (@pv _ 3 _ _ (by rfl) (by first|exact Or.inl rfl|exact Or.inr (.inl rfl)|exact Or.inr (.inr rfl)) (by decide) (by decide)) zB (by rfl)) (by rfl)) (by decide) (by rfl) (by rfl)) zB (by rfl)) (by decide) (by decide) (by rfl) (by rfl)) zB (by rfl)) (by decide) (by decide) (by rfl) (by rfl)) zE (zp _)) (@zK _ _ _ (@zU _ _ _ _ yq)) zk))) (by intro _;rfl)) (@zK _ _ _ (@zU _ _ _ _ yq))),?_⟩
 have l16:=ok.l16
 refine⟨_,rfl,sm,rfl,⟨_,SqT.of hsm⟩,?_⟩
 refine wo (K:=K) (a:=sm) (xs:=zT moves) (fun j σ H2=>(∃ v2 v3,σ=[some (.ref r),some (.ref sm),v2,v3])∧Same H H2) ⟨⟨_,_,rfl⟩,Same.refl _⟩ (fun j σ H2 _ z=>SqT.of (z.2 _ _ hsm)) ?_ ?_
 ·rintro j x σ H2 hx ⟨⟨v2,v3,rfl⟩,s2⟩
  unfold zT at hx
  rw[List.getElem?_map]at hx
  obtain⟨m,em,rfl⟩:=Option.map_eq_some_iff.mp hx
  refine⟨_,rfl,r,_,_,_,rfl,rfl,SqT.of (s2 _ _ na.net),rfl,_,rfl,by lia,by lia,fun l hl=>?_⟩
  refine uL (lo:=0) (n:=((N.lanes:Nat):Int).toNat) (fun i acc σ H3=>(∃ v,σ=[v,some (.int (m:Nat))])∧Same H2 H3∧H3 l=some (.lst acc)∧∃ cs:List Int,acc=cs.map V.int∧cs.length=i) ⟨⟨_,rfl⟩,zC hl _,zD,[],rfl,rfl⟩ (fun i acc σ H3 z=>z.2.2.1) ?_ ?_
  ·rintro i acc σ H3 il ⟨⟨v,rfl⟩,s3,h3,cs,rfl,cl⟩
   refine⟨_,_,rfl,rfl,⟨by decide,by decide,by decide⟩,_,rfl,_,rfl,rfl,.inr ⟨_,rfl,_,_,rfl,rfl,.inl ⟨by decide,by decide⟩,h3,by rw[List.length_map,sizeLine_eq];lia,nx il ⟨⟨_,rfl⟩,fun c o e=>?_,zD,cs++[2 ^ Int.toNat 60*(if decide (V.int (0+(i:Nat))=V.int (m:Nat))=true then 1 else 0)],?_,by rw[List.length_append,cl];rfl⟩⟩⟩
   ·rw[zH (zG e hl)];exact s3 c o e
   ·rw[List.map_append];rfl
  ·rintro acc σ H3 ⟨⟨v,rfl⟩,s3,h3,cs,rfl,cl⟩
   refine⟨l,_,rfl,.inl ⟨SqL.of h3,fun p hp=>?_⟩⟩
   have s4:=zC hp (.tup (cs.map V.int))
   have u4:=(s2.trans s3).trans s4
   refine⟨_,rfl,_,rfl,r,fr,er,ps,N,p,cs,rfl,ok,na.tups (Tups.of u4),zD,by rw[cl];lia,fun e H4 s5 h5=>?_⟩
   have el:(jG N cs).length=N.lanes:=by
    unfold jG
    rw[List.length_map,ok.en.length_eq,List.length_range]
   refine⟨e,_,rfl,SqT.of h5,by lia,fun q hq=>⟨q,rfl,zD,fun n=>⟨_,_,rfl,rfl,_,rfl,?_⟩⟩⟩
   have u6:=(u4.trans s5).trans (zC hq (tSe q))
   exact vU (fun _=>k _ false u6) fun _=>⟨⟨_,_,rfl⟩,u6⟩
 ·rintro σ H2 ⟨⟨v2,v3,rfl⟩,s2⟩
  exact k H2 true s2
theorem fj:FnScope ["_law_heights"] ["_law_heights"] (zM jd):=⟨rfl,rfl,rfl,by decide +kernel,rfl,by decide +kernel,by decide +kernel⟩
theorem ju {f:Addr}{fd:FuncData}(F:Fun K "_law_lowered" "_law_lowered" jd f fd) (G:Mgs mg):FnOk P w K mg base CX0 1 f fd ["_law_heights"] (wP false):=by
 refine F.ok fj (fun vs H Q E h=>?_) (fun cdv A outer s H vs Q E hr h=>?_)
 ·obtain⟨c,hs,rfl,_⟩:=h
  rfl
 obtain⟨c,hs,rfl,hc,ne,hl,k⟩:=h
 refine⟨_,(@zK _ _ _ (@zU _ _ _ _ (@zV _ _ _ _ _ _ _ _ _ zZ (by rfl) G.tuple (by rfl) (@zA _ _ _ _ _ (@xN _ _ _ _ none _ _ _ _ _ _ ["_law_height","_law_heights"] [none,some 0] rfl (@yX _ _ _ _ (@pv _ 0 _ _ (by rfl) (by first|exact Or.inl rfl|exact Or.inr (.inl rfl)|exact Or.inr (.inr rfl)) (by decide) (by decide))) (CapOk.of (by kernel_rfl)) (fun _ _ _ _ _=>(@zL _ _ 0 _ (show (["_law_height","_law_heights"]:List Str).Nodup from by decide +kernel) rfl (.inl rfl) (.inr rfl))) (fun _ _ _ _ _=>yN) (fun _ _ _ _ _=>(@zR _ _ _ _ _ _ _ _ yz (@pv _ 0 _ _ (by rfl) (by first|exact Or.inl rfl|exact Or.inr (.inl rfl)|exact Or.inr (.inr rfl)) (by decide) (by decide)) (@zQ _ _ _ _ _ _ _ _ (iV K false) (wE rfl false) (by rfl) G.min (by rfl) (@zA _ _ _ _ _ (@pv _ 1 _ _ (by rfl) (by first|exact Or.inl rfl|exact Or.inr (.inl rfl)|exact Or.inr (.inr rfl)) (by decide) (by decide)) zB (by rfl)) (by decide) (by decide) (by rfl) (by rfl)))) (by intro _;rfl)) zB (by rfl)) (by decide) (by decide) (by rfl) (by rfl)))),?_⟩
 refine⟨_,rfl,c,rfl,⟨_,SqT.of hc⟩,fun l hl0=>?_⟩
 refine xk (K:=K) (a:=c) (xs:=hs.map V.int) (fun i acc σ H3=>(∃ v,σ=[v,some (.ref c)])∧Same H H3∧H3 l=some (.lst acc)∧acc=((hs.take i).map fun h=>h-uH hs).map V.int) ⟨⟨_,rfl⟩,zC hl0 _,zD,rfl⟩ (fun i acc σ H3 q=>⟨q.2.2.1,SqT.of (q.2.1 _ _ hc)⟩) ?_ ?_
 ·rintro i y acc σ H3 hy ⟨⟨v,rfl⟩,s3,h3,rfl⟩
  rw[List.getElem?_map]at hy
  obtain⟨h,eh,rfl⟩:=Option.map_eq_some_iff.mp hy
  have il:=(List.getElem?_eq_some_iff.mp eh).1
  refine⟨_,rfl,_,rfl,c,_,rfl,SqT.of (s3 _ _ hc),List.length_pos_iff.mpr ne,fun M mM lM=>?_⟩
  rw[← x9 mM lM]
  refine⟨_,_,rfl,rfl,h3,?_,nx (by rw[List.length_map];exact il) ⟨⟨_,rfl⟩,fun c o e=>?_,zD,?_⟩⟩
  ·rw[List.length_map,List.length_map,List.length_take,sizeLine_eq];lia
  ·rw[zH (zG e hl0)];exact s3 c o e
  ·rw[List.take_succ_eq_append_getElem il,List.map_append,List.map_append,(List.getElem?_eq_some_iff.mp eh).2];rfl
 ·rintro acc σ H3 ⟨⟨v,rfl⟩,s3,h3,rfl⟩
  rw[List.length_map,List.take_length]at h3
  refine⟨l,_,rfl,.inl ⟨SqL.of h3,fun q hq=>?_⟩⟩
  exact k q _ (s3.trans (zC hq _)) zD
theorem jw {f:Addr}{fd:FuncData}(F:Fun K "_law_lowered" "_law_lowered" jd f fd) (G:Mgs mg):FnOk P w K mg base CX0 1 f fd ["_law_heights"] (wP true):=by
 refine F.ok fj (fun vs H Q E h=>?_) (fun cdv A outer s H vs Q E hr h=>?_)
 ·obtain⟨c,hs,rfl,_⟩:=h
  rfl
 obtain⟨c,hs,rfl,hc,ne,hl,k⟩:=h
 refine⟨_,(@zK _ _ _ (@zU _ _ _ _ (@zV _ _ _ _ _ _ _ _ _ zZ (by rfl) G.tuple (by rfl) (@zA _ _ _ _ _ (@xN _ _ _ _ none _ _ _ _ _ _ ["_law_height","_law_heights"] [none,some 0] rfl (@vY _ _ _ _ (@pv _ 0 _ _ (by rfl) (by first|exact Or.inl rfl|exact Or.inr (.inl rfl)|exact Or.inr (.inr rfl)) (by decide) (by decide))) (CapOk.of (by kernel_rfl)) (fun _ _ _ _ _=>(@zL _ _ 0 _ (show (["_law_height","_law_heights"]:List Str).Nodup from by decide +kernel) rfl (.inl rfl) (.inr rfl))) (fun _ _ _ _ _=>yN) (fun _ _ _ _ _=>(@zR _ _ _ _ _ _ _ _ yz (@pv _ 0 _ _ (by rfl) (by first|exact Or.inl rfl|exact Or.inr (.inl rfl)|exact Or.inr (.inr rfl)) (by decide) (by decide)) (@zQ _ _ _ _ _ _ _ _ (iV K true) (wE rfl true) (by rfl) G.min (by rfl) (@zA _ _ _ _ _ (@pv _ 1 _ _ (by rfl) (by first|exact Or.inl rfl|exact Or.inr (.inl rfl)|exact Or.inr (.inr rfl)) (by decide) (by decide)) zB (by rfl)) (by decide) (by decide) (by rfl) (by rfl)))) (by intro _;rfl)) zB (by rfl)) (by decide) (by decide) (by rfl) (by rfl)))),?_⟩
 refine⟨_,rfl,c,rfl,⟨_,SqL.of hc⟩,fun l hl0=>?_⟩
 refine vc (K:=K) (a:=c) (xs:=hs.map V.int) (fun i acc σ H3=>(∃ v,σ=[v,some (.ref c)])∧Same H H3∧H3 l=some (.lst acc)∧acc=((hs.take i).map fun h=>h-uH hs).map V.int) ⟨⟨_,rfl⟩,zC hl0 _,zD,rfl⟩ (fun i acc σ H3 q=>⟨q.2.2.1,SqL.of (q.2.1 _ _ hc)⟩) ?_ ?_
 ·rintro i y acc σ H3 hy ⟨⟨v,rfl⟩,s3,h3,rfl⟩
  rw[List.getElem?_map]at hy
  obtain⟨h,eh,rfl⟩:=Option.map_eq_some_iff.mp hy
  have il:=(List.getElem?_eq_some_iff.mp eh).1
  refine⟨_,rfl,_,rfl,c,_,rfl,SqL.of (s3 _ _ hc),List.length_pos_iff.mpr ne,fun M mM lM=>?_⟩
  rw[← x9 mM lM]
  refine⟨_,_,rfl,rfl,h3,?_,nx (by rw[List.length_map];exact il) ⟨⟨_,rfl⟩,fun c o e=>?_,zD,?_⟩⟩
  ·rw[List.length_map,List.length_map,List.length_take,sizeLine_eq];lia
  ·rw[zH (zG e hl0)];exact s3 c o e
  ·rw[List.take_succ_eq_append_getElem il,List.map_append,List.map_append,(List.getElem?_eq_some_iff.mp eh).2];rfl
 ·rintro acc σ H3 ⟨⟨v,rfl⟩,s3,h3,rfl⟩
  rw[List.length_map,List.take_length]at h3
  refine⟨l,_,rfl,.inl ⟨SqL.of h3,fun q hq=>?_⟩⟩
  exact k q _ (s3.trans (zC hq _)) zD
end
abbrev gC:Stmt:=top 7
abbrev sD:Stmt:=top 15
abbrev i5:Stmt:=top 16
theorem ky (h a b:Nat):inV (V.int h) [V.int a,V.int b]=decide (h=a∨h=b):=by
 rw[Bool.eq_iff_iff,decide_eq_true_iff]
 simp[inV,eqV]
 lia
section
variable {P:Program}{w:World}{K:PySem.W.Frag}{mg:Str→Option Value}{base:Heap}
theorem scD:FnScope ["net","lane"] ["net","lane"] (zM gC):=⟨rfl,rfl,rfl,by decide +kernel,rfl,by decide +kernel,by decide +kernel⟩
theorem gS {f:Addr}{fd:FuncData}(F:Fun K "end_of" "end_of" gC f fd):FnOk P w K mg base CX0 1 f fd ["net","lane"] lL:=by
 refine F.ok scD (fun vs H Q E h=>?_) (fun cdv A outer s H vs Q E hr h=>?_)
 ·obtain⟨r,fr,er,ps,N,lane,rfl,_⟩:=h
  rfl
 obtain⟨r,fr,er,ps,N,lane,rfl,ok,na,hl,k⟩:=h
 refine⟨_,(@zK _ _ _ (@zU _ _ _ _ (@oJ _ _ _ _ _ _ _ hr.units (@zY _ _ _ _ _ _ _ yB (@pv _ 0 _ _ (by rfl) (by first|exact Or.inl rfl|exact Or.inr (.inl rfl)|exact Or.inr (.inr rfl)) (by decide) (by decide)) zE (fun _ _=>rfl)) (@zA _ _ _ _ _ (@pv _ 1 _ _ (by rfl) (by first|exact Or.inl rfl|exact Or.inr (.inl rfl)|exact Or.inr (.inr rfl)) (by decide) (by decide)) zB (by rfl)) (by rfl) (by rfl) (by rfl) (by rfl)))),?_⟩
 have he:=na.ends
 rw[rU]at he
 refine⟨_,rfl,r,_,_,_,rfl,rfl,SqT.of na.net,rfl,er,_,rfl,he,_,rfl,(lane:Int),rfl,he,?_,?_⟩
 ·exact List.mem_map.mpr ⟨lane,ok.en.mem_iff.mpr (List.mem_range.mpr hl),rfl⟩
 ·rw[uQ];exact k
theorem scR:FnScope ["net","turns","lane","back","behind","here","number","fork","turn"] ["net","turns","lane","back"] (zM i5):=⟨rfl,rfl,rfl,by decide +kernel,rfl,by decide +kernel,by decide +kernel⟩
theorem gM {f fD:Addr}{fd dD:FuncData}(F:Fun K "run_through" "run_through" i5 f fd) (G:Mgs mg) (UD:Use P w K mg base "end_of" ["net","lane"] 1 lL fD dD):FnOk P w K mg base CX0 2 f fd ["net","turns","lane","back"] lJ:=by
 refine F.ok scR (fun vs H Q E h=>?_) (fun cdv A outer s H vs Q E hr h=>?_)
 ·obtain⟨us,back,rfl,r,fr,er,ps,N,tr,ts,lane,rfl,_⟩:=h
  rfl
 obtain⟨us,back,rfl,r,fr,er,ps,N,tr,ts,lane,rfl,ok,na,htr,tl,bits,hl,k⟩:=h
 refine⟨_,(@zF _ _ _ _ _ (@zi _ _ 4 _ _ _ _ scR.nd rfl (.inl rfl) (@zV _ _ _ _ _ _ _ _ _ yQ (by rfl) G.list (by rfl) (@zA _ _ _ _ _ (@pv _ 1 _ _ (by rfl) (by first|exact Or.inl rfl|exact Or.inr (.inl rfl)|exact Or.inr (.inr rfl)) (by decide) (by decide)) zB (by rfl)) (by decide) (by decide) (by rfl) (by rfl)) (by rfl) (by first|exact .inl rfl|exact .inr rfl|assumption)) (@zF _ _ _ _ _ (@zi _ _ 5 _ _ _ _ scR.nd rfl (.inl rfl) (@pv _ 2 _ _ (by rfl) (by first|exact Or.inl rfl|exact Or.inr (.inl rfl)|exact Or.inr (.inr rfl)) (by decide) (by decide)) (by rfl) (by first|exact .inl rfl|exact .inr rfl|assumption)) (@zF _ _ _ _ _ (@yn _ _ _ _ _ _ _ _ PassesOwn.never rfl (@oI _ _ _ _ _ _ _ _ false rfl G.enum (@zA _ _ _ _ _ (@zY _ _ _ _ _ _ _ yB (@pv _ 0 _ _ (by rfl) (by first|exact Or.inl rfl|exact Or.inr (.inl rfl)|exact Or.inr (.inr rfl)) (by decide) (by decide)) zE (fun _ _=>rfl)) zB (by rfl)) (by rfl)) (@yE _ _ _ _ _ _ rfl (@zN _ _ _ _ _ (@zL _ _ 6 _ scR.nd rfl (.inl rfl) (by first|exact .inl rfl|exact .inr rfl|assumption)) (@zN _ _ _ _ _ (@zL _ _ 7 _ scR.nd rfl (.inl rfl) (by first|exact .inl rfl|exact .inr rfl|assumption)) zt (by rfl)) (by rfl)) (by rfl) (by rfl)) (@zK _ _ _ (@yM _ _ _ _ _ _ _ _ (@zj _ _ _ _ _ _ _ _ uw (@pv _ 5 _ _ (by rfl) (by first|exact Or.inl rfl|exact Or.inr (.inl rfl)|exact Or.inr (.inr rfl)) (by decide) (by decide)) (@pv _ 7 _ _ (by rfl) (by first|exact Or.inl rfl|exact Or.inr (.inl rfl)|exact Or.inr (.inr rfl)) (by decide) (by decide)) (by rfl)) (@zF _ _ _ _ _ (@zi _ _ 8 _ _ _ _ scR.nd rfl (.inl rfl) (@zY _ _ _ _ _ _ _ zd (@pv _ 4 _ _ (by rfl) (by first|exact Or.inl rfl|exact Or.inr (.inl rfl)|exact Or.inr (.inr rfl)) (by decide) (by decide)) (@pv _ 6 _ _ (by rfl) (by first|exact Or.inl rfl|exact Or.inr (.inl rfl)|exact Or.inr (.inr rfl)) (by decide) (by decide)) (fun _ _=>rfl)) (by rfl) (by first|exact .inl rfl|exact .inr rfl|assumption)) (@zF _ _ _ _ _ (@yG _ _ _ _ _ _ (@zR _ _ _ _ _ _ _ _ yz zE (@pv _ 8 _ _ (by rfl) (by first|exact Or.inl rfl|exact Or.inr (.inl rfl)|exact Or.inr (.inr rfl)) (by decide) (by decide))) (@xV _ _ _ _ _ _ _ (@pv _ 4 _ _ (by rfl) (by first|exact Or.inl rfl|exact Or.inr (.inl rfl)|exact Or.inr (.inr rfl)) (by decide) (by decide)) (@pv _ 6 _ _ (by rfl) (by first|exact Or.inl rfl|exact Or.inr (.inl rfl)|exact Or.inr (.inr rfl)) (by decide) (by decide)) yg (by intro _;rfl)) (by rfl) (by rfl) (by rfl)) (@zK _ _ _ (@zi _ _ 5 _ _ _ _ scR.nd rfl (.inl rfl) (@zY _ _ _ _ _ _ _ yB (@pv _ 7 _ _ (by rfl) (by first|exact Or.inl rfl|exact Or.inr (.inl rfl)|exact Or.inr (.inr rfl)) (by decide) (by decide)) (@wk _ _ _ _ _ _ _ _ (@w8 _ _ _ (@pv _ 3 _ _ (by rfl) (by first|exact Or.inl rfl|exact Or.inr (.inl rfl)|exact Or.inr (.inr rfl)) (by decide) (by decide)) (by intro _;rfl)) (@zR _ _ _ _ _ _ _ _ yz zE (@pv _ 8 _ _ (by rfl) (by first|exact Or.inl rfl|exact Or.inr (.inl rfl)|exact Or.inr (.inr rfl)) (by decide) (by decide))) (@pv _ 8 _ _ (by rfl) (by first|exact Or.inl rfl|exact Or.inr (.inl rfl)|exact Or.inr (.inr rfl)) (by decide) (by decide))) (fun _ _=>rfl)) (by rfl) (by first|exact .inl rfl|exact .inr rfl|assumption))))) zk)) (by intro _;rfl)) (@zK _ _ _ (@zU _ _ _ _ (@zX _ _ _ _ _ (@zA _ _ _ _ _ (@zV _ _ _ _ _ _ _ _ _ zZ (by rfl) G.tuple (by rfl) (@zA _ _ _ _ _ (@pv _ 4 _ _ (by rfl) (by first|exact Or.inl rfl|exact Or.inr (.inl rfl)|exact Or.inr (.inr rfl)) (by decide) (by decide)) zB (by rfl)) (by decide) (by decide) (by rfl) (by rfl)) (@zA _ _ _ _ _ (@zJ _ _ _ _ _ _ _ _ _ _ _ _ _ _ _ _ UD.ok hr (by rfl) UD.m UD.kp UD.b .nil zS (@zA _ _ _ _ _ (@pv _ 0 _ _ (by rfl) (by first|exact Or.inl rfl|exact Or.inr (.inl rfl)|exact Or.inr (.inr rfl)) (by decide) (by decide)) (@zA _ _ _ _ _ (@pv _ 5 _ _ (by rfl) (by first|exact Or.inl rfl|exact Or.inr (.inl rfl)|exact Or.inr (.inr rfl)) (by decide) (by decide)) zB (by rfl)) (by rfl)) (by decide) (by rfl) (by rfl)) zB (by rfl)) (by rfl)))))))),?_⟩
 refine⟨_,rfl,tr,_,rfl,.inr (SqT.of htr),fun lb hlb=>⟨_,rfl,?_⟩⟩
 have s1:=zC hlb (.lst (ts.map V.int))
 refine⟨_,rfl,r,_,_,_,rfl,rfl,SqT.of (s1 _ _ na.net),rfl,fr,ps,rfl,SqT.of (s1 _ _ na.forks),?_⟩
 refine qD (K:=K) (b:=false) (a:=fr) (xs:=ps) (fun i σ H2=>(∃ v6 v7 v8,σ=[some (.ref r),some (.ref tr),some (.int lane),some (.bl back),some (.ref lb),some (.int (yL back N.forks ts lane i).2),v6,v7,v8])∧Same H H2∧H2 lb=some (.lst ((yL back N.forks ts lane i).1.map V.int)))
  ⟨⟨_,_,_,rfl⟩,s1,zD⟩ (fun i σ H2 _ q=>SqT.of (q.2.1 _ _ na.forks)) ?_ ?_
 ·rintro i x σ H2 T hx hT ⟨⟨v6,v7,v8,rfl⟩,s2,h2⟩
  obtain⟨a,g,rfl,eg,ha⟩:=(na.prs.tups (Tups.of s2)).get hx
  have gi:i<N.forks.length:=(List.getElem?_eq_some_iff.mp eg).1
  have gd:N.forks.getD i (0,0)=g:=by rw[List.getD_eq_getElem?_getD,eg];rfl
  have rs:yL back N.forks ts lane (i+1)=yA back (yL back N.forks ts lane i) i g:=by show yA _ _ _ _=_;rw[gd]
  have rl:=x4 (back:=back) (fs:=N.forks) (ts:=ts) (lane:=lane) i
  have rb:=xS (back:=back) (fs:=N.forks) (lane:=lane) bits i
  generalize yL back N.forks ts lane i=st at *
  have sT:=zC hT (.tup [.int i,.ref a])
  have lT:lb≠T:=zG h2 hT
  refine⟨T,_,rfl,SqT.of zD,rfl,_,_,rfl,_,_,rfl,rfl,?_⟩
  refine⟨_,rfl,_,rfl,a,_,rfl,.inr (SqT.of (sT _ _ ha)),rfl,rfl,_,rfl,?_⟩
  show if (if false=true then !inV (V.int (st.2:Nat)) [V.int (g.1:Nat),V.int (g.2:Nat)] else inV (V.int (st.2:Nat)) [V.int (g.1:Nat),V.int (g.2:Nat)])=true then _ else _
  rw[if_neg Bool.false_ne_true,ky]
  by_cases on:st.2=g.1∨st.2=g.2
  ·rw[decide_eq_true on]
   refine yP ?_
   have rsn:yA back st i g=(st.1.set i (1-st.1.getD i 0),if (if back then 1-st.1.getD i 0 else st.1.getD i 0)=0 then g.1 else g.2):=by unfold yA;rw[if_pos on]
   have il:i<st.1.length:=by lia
   have tb:=rb _ (L2.xo il)
   have hb:=sT _ _ h2
   refine⟨_,rfl,_,rfl,lb,_,_,_,rfl,rfl,SqL.of hb,xY il,?_⟩
   refine⟨_,rfl,_,_,rfl,rfl,_,rfl,_,rfl,lb,_,_,i,rfl,rfl,hb,uO (by rw[List.length_map];exact il),?_⟩
   have ha3:upd (upd H2 T (.tup [.int i,.ref a])) lb (.lst ((st.1.map V.int).set i (.int (1-st.1.getD i 0)))) a=some (.tup [.int g.1,.int g.2]):=by
    rw[zH (by rintro rfl;rw[h2]at ha;cases ha)];exact sT _ _ ha
   have fin:∀ nx:Nat,nx=(yA back st i g).2→(∃ v6 v7 v8,([some (.ref r),some (.ref tr),some (.int lane),some (.bl back),some (.ref lb),some (.int nx),some (.int i),some (.ref a),some (.int (st.1.getD i 0))]:List (Option V))=[some (.ref r),some (.ref tr),some (.int lane),some (.bl back),some (.ref lb),some (.int (yL back N.forks ts lane (i+1)).2),v6,v7,v8]) ∧
     Same H (upd (upd H2 T (.tup [.int i,.ref a])) lb (.lst ((st.1.map V.int).set i (.int (1-st.1.getD i 0)))))∧upd (upd H2 T (.tup [.int i,.ref a])) lb (.lst ((st.1.map V.int).set i (.int (1-st.1.getD i 0)))) lb=some (.lst ((yL back N.forks ts lane (i+1)).1.map V.int)):=fun nx en=>by
    refine⟨⟨_,_,_,by rw[rs,en]⟩,fun b o e=>?_,?_⟩
    ·rw[zH (zG e hlb)];exact sT _ _ (s2 b o e)
    ·rw[zD,rs,rsn,wf]
   cases back with
   | false =>
    rcases tb with z|z
    ·exact⟨_,rfl,_,rfl,_,rfl,zv ⟨_,rfl,a,_,_,_,rfl,rfl,SqT.of ha3,by rw[z];exact yD (j:=0) rfl,fin g.1 (by rw[rsn,z];rfl)⟩⟩
    ·exact⟨_,rfl,_,rfl,_,rfl,zv ⟨_,rfl,a,_,_,_,rfl,rfl,SqT.of ha3,by rw[z];exact yD (j:=1) rfl,fin g.2 (by rw[rsn,z];rfl)⟩⟩
   | true =>
    rcases tb with z|z
    ·exact⟨_,rfl,_,rfl,_,rfl,yP ⟨_,rfl,_,_,rfl,rfl,a,_,_,_,rfl,rfl,SqT.of ha3,by rw[z];exact yD (j:=1) rfl,fin g.2 (by rw[rsn,z];rfl)⟩⟩
    ·exact⟨_,rfl,_,rfl,_,rfl,yP ⟨_,rfl,_,_,rfl,rfl,a,_,_,_,rfl,rfl,SqT.of ha3,by rw[z];exact yD (j:=0) rfl,fin g.1 (by rw[rsn,z];rfl)⟩⟩
  ·rw[decide_eq_false on]
   have rsn:yA back st i g=st:=by unfold yA;rw[if_neg on]
   exact zv ⟨⟨_,_,_,by rw[rs,rsn];rfl⟩,s2.trans sT,by rw[rs,rsn];exact sT _ _ h2⟩
 ·rintro σ H2 ⟨⟨v6,v7,v8,rfl⟩,s2,h2⟩
  have pl:=na.prs.len
  rw[pl]at h2
  have hh:=xE (back:=back) (ts:=ts) ok.fk hl N.forks.length (Nat.le_refl _)
  refine⟨_,rfl,lb,_,rfl,.inl ⟨SqL.of h2,fun t ht=>?_⟩⟩
  have s3:=zC ht (.tup ((yL back N.forks ts lane N.forks.length).1.map V.int))
  refine⟨_,rfl,_,rfl,r,fr,er,ps,N,_,by rw[pl];rfl,ok,na.tups (Tups.of (s2.trans s3)),hh,(by show 2≤sizeLine;decide),fun p hp=>?_⟩
  exact k p t _ ((s2.trans s3).trans (zC hp _)) zD (zC hp _ _ _ zD)
theorem scP:FnScope ["net","turns","lane"] ["net","turns","lane"] (zM sD):=⟨rfl,rfl,rfl,by decide +kernel,rfl,by decide +kernel,by decide +kernel⟩
theorem ng {f fR:Addr}{fd dR:FuncData}(F:Fun K "passed" "passed" sD f fd) (UR:Use P w K mg base "run_through" ["net","turns","lane","back"] 2 lJ fR dR):FnOk P w K mg base CX0 3 f fd ["net","turns","lane"] (wO false):=by
 refine F.ok scP (fun vs H Q E h=>?_) (fun cdv A outer s H vs Q E hr h=>?_)
 ·obtain⟨r,fr,er,ps,N,tr,ts,lane,rfl,_⟩:=h
  rfl
 obtain⟨r,fr,er,ps,N,tr,ts,lane,rfl,q⟩:=h
 refine⟨_,(@zK _ _ _ (@zU _ _ _ _ (@zJ _ _ _ _ _ _ _ _ _ _ _ _ _ _ _ _ UR.ok hr (by rfl) UR.m UR.kp UR.b .nil zS (@zA _ _ _ _ _ (@pv _ 0 _ _ (by rfl) (by first|exact Or.inl rfl|exact Or.inr (.inl rfl)|exact Or.inr (.inr rfl)) (by decide) (by decide)) (@zA _ _ _ _ _ (@pv _ 1 _ _ (by rfl) (by first|exact Or.inl rfl|exact Or.inr (.inl rfl)|exact Or.inr (.inr rfl)) (by decide) (by decide)) (@zA _ _ _ _ _ (@pv _ 2 _ _ (by rfl) (by first|exact Or.inl rfl|exact Or.inr (.inl rfl)|exact Or.inr (.inr rfl)) (by decide) (by decide)) (@zA _ _ _ _ _ yq zB (by rfl)) (by rfl)) (by rfl)) (by rfl)) (by decide) (by rfl) (by rfl)))),?_⟩
 exact⟨_,rfl,_,rfl,_,rfl,[.ref r,.ref tr,.int lane],false,rfl,r,fr,er,ps,N,tr,ts,lane,rfl,q⟩
end
abbrev i7:Stmt:=top 36
abbrev i8:Stmt:=top 38
def pj:Sp:=fun vs H Q _=>∃ a xs,∃ (place:Nat),vs=[.ref a,.int (place:Nat)]∧H a=some (.tup (List.map V.int xs))∧place<xs.length∧xs.length≤1000∧∀ p H',Same H H'→H' p=some (.tup ((pH xs place).map V.int))→Q (.ref p) H'
section
variable {P:Program}{w:World}{K:PySem.W.Frag}{mg:Str→Option Value}{base:Heap}
theorem lQ:FnScope ["_law_net_here","_law_turns","_law_lane","_law_row","_law_k","_law_fork"] ["_law_net_here","_law_turns","_law_lane"] (zM i7):=⟨rfl,rfl,rfl,by decide +kernel,rfl,by decide +kernel,by decide +kernel⟩
theorem gN {f:Addr}{fd:FuncData}(F:Fun K "_law_passed" "_law_passed" i7 f fd) (G:Mgs mg):FnOk P w K mg base CX0 1 f fd ["_law_net_here","_law_turns","_law_lane"] (wO false):=by
 refine F.ok lQ (fun vs H Q E h=>?_) (fun cdv A outer s H vs Q E hr h=>?_)
 ·obtain⟨r,fr,er,ps,N,tr,ts,lane,rfl,_⟩:=h
  rfl
 obtain⟨r,fr,er,ps,N,tr,ts,lane,rfl,ok,na,htr,tl,bits,hl,k⟩:=h
 refine⟨_,(@zF _ _ _ _ _ (@zi _ _ 3 _ _ _ _ lQ.nd rfl (.inl rfl) (@zV _ _ _ _ _ _ _ _ _ yQ (by rfl) G.list (by rfl) (@zA _ _ _ _ _ (@pv _ 1 _ _ (by rfl) (by first|exact Or.inl rfl|exact Or.inr (.inl rfl)|exact Or.inr (.inr rfl)) (by decide) (by decide)) zB (by rfl)) (by decide) (by decide) (by rfl) (by rfl)) (by rfl) (by first|exact .inl rfl|exact .inr rfl|assumption)) (@zF _ _ _ _ _ (@yn _ _ _ _ _ _ _ _ PassesOwn.never rfl (@oI _ _ _ _ _ _ _ _ false rfl G.enum (@zA _ _ _ _ _ (@zY _ _ _ _ _ _ _ yB (@pv _ 0 _ _ (by rfl) (by first|exact Or.inl rfl|exact Or.inr (.inl rfl)|exact Or.inr (.inr rfl)) (by decide) (by decide)) zE (fun _ _=>rfl)) zB (by rfl)) (by rfl)) (@yE _ _ _ _ _ _ rfl (@zN _ _ _ _ _ (@zL _ _ 4 _ lQ.nd rfl (.inl rfl) (by first|exact .inl rfl|exact .inr rfl|assumption)) (@zN _ _ _ _ _ (@zL _ _ 5 _ lQ.nd rfl (.inl rfl) (by first|exact .inl rfl|exact .inr rfl|assumption)) zt (by rfl)) (by rfl)) (by rfl) (by rfl)) (@zK _ _ _ (@yM _ _ _ _ _ _ _ _ (@zj _ _ _ _ _ _ _ _ uw (@pv _ 2 _ _ (by rfl) (by first|exact Or.inl rfl|exact Or.inr (.inl rfl)|exact Or.inr (.inr rfl)) (by decide) (by decide)) (@pv _ 5 _ _ (by rfl) (by first|exact Or.inl rfl|exact Or.inr (.inl rfl)|exact Or.inr (.inr rfl)) (by decide) (by decide)) (by rfl)) (@zF _ _ _ _ _ (@zi _ _ 2 _ _ _ _ lQ.nd rfl (.inl rfl) (@zY _ _ _ _ _ _ _ yB (@pv _ 5 _ _ (by rfl) (by first|exact Or.inl rfl|exact Or.inr (.inl rfl)|exact Or.inr (.inr rfl)) (by decide) (by decide)) (@zY _ _ _ _ _ _ _ zd (@pv _ 3 _ _ (by rfl) (by first|exact Or.inl rfl|exact Or.inr (.inl rfl)|exact Or.inr (.inr rfl)) (by decide) (by decide)) (@pv _ 4 _ _ (by rfl) (by first|exact Or.inl rfl|exact Or.inr (.inl rfl)|exact Or.inr (.inr rfl)) (by decide) (by decide)) (fun _ _=>rfl)) (fun _ _=>rfl)) (by rfl) (by first|exact .inl rfl|exact .inr rfl|assumption)) (@zK _ _ _ (@yG _ _ _ _ _ _ (@zR _ _ _ _ _ _ _ _ yz zE (@zY _ _ _ _ _ _ _ zd (@pv _ 3 _ _ (by rfl) (by first|exact Or.inl rfl|exact Or.inr (.inl rfl)|exact Or.inr (.inr rfl)) (by decide) (by decide)) (@pv _ 4 _ _ (by rfl) (by first|exact Or.inl rfl|exact Or.inr (.inl rfl)|exact Or.inr (.inr rfl)) (by decide) (by decide)) (fun _ _=>rfl))) (@xV _ _ _ _ _ _ _ (@pv _ 3 _ _ (by rfl) (by first|exact Or.inl rfl|exact Or.inr (.inl rfl)|exact Or.inr (.inr rfl)) (by decide) (by decide)) (@pv _ 4 _ _ (by rfl) (by first|exact Or.inl rfl|exact Or.inr (.inl rfl)|exact Or.inr (.inr rfl)) (by decide) (by decide)) yg (by intro _;rfl)) (by rfl) (by rfl) (by rfl)))) zk)) (by intro _;rfl)) (@zK _ _ _ (@zU _ _ _ _ (@zX _ _ _ _ _ (@zA _ _ _ _ _ (@zV _ _ _ _ _ _ _ _ _ zZ (by rfl) G.tuple (by rfl) (@zA _ _ _ _ _ (@pv _ 3 _ _ (by rfl) (by first|exact Or.inl rfl|exact Or.inr (.inl rfl)|exact Or.inr (.inr rfl)) (by decide) (by decide)) zB (by rfl)) (by decide) (by decide) (by rfl) (by rfl)) (@zA _ _ _ _ _ (@oJ _ _ _ _ _ _ _ hr.units (@zY _ _ _ _ _ _ _ yB (@pv _ 0 _ _ (by rfl) (by first|exact Or.inl rfl|exact Or.inr (.inl rfl)|exact Or.inr (.inr rfl)) (by decide) (by decide)) zE (fun _ _=>rfl)) (@zA _ _ _ _ _ (@pv _ 2 _ _ (by rfl) (by first|exact Or.inl rfl|exact Or.inr (.inl rfl)|exact Or.inr (.inr rfl)) (by decide) (by decide)) zB (by rfl)) (by rfl) (by rfl) (by rfl) (by rfl)) zB (by rfl)) (by rfl))))))),?_⟩
 refine⟨_,rfl,tr,_,rfl,.inr (SqT.of htr),fun lb hlb=>?_⟩
 have s1:=zC hlb (.lst (ts.map V.int))
 refine⟨_,rfl,r,_,_,_,rfl,rfl,SqT.of (s1 _ _ na.net),rfl,fr,ps,rfl,SqT.of (s1 _ _ na.forks),?_⟩
 refine qD (K:=K) (b:=false) (a:=fr) (xs:=ps) (fun i σ H2=>(∃ v4 v5,σ=[some (.ref r),some (.ref tr),some (.int (yL false N.forks ts lane i).2),some (.ref lb),v4,v5])∧Same H H2∧H2 lb=some (.lst ((yL false N.forks ts lane i).1.map V.int)))
  ⟨⟨_,_,rfl⟩,s1,zD⟩ (fun i σ H2 _ q=>SqT.of (q.2.1 _ _ na.forks)) ?_ ?_
 ·rintro i x σ H2 T hx hT ⟨⟨v4,v5,rfl⟩,s2,h2⟩
  obtain⟨a,g,rfl,eg,ha⟩:=(na.prs.tups (Tups.of s2)).get hx
  have gi:i<N.forks.length:=(List.getElem?_eq_some_iff.mp eg).1
  have gd:N.forks.getD i (0,0)=g:=by rw[List.getD_eq_getElem?_getD,eg];rfl
  have rs:yL false N.forks ts lane (i+1)=yA false (yL false N.forks ts lane i) i g:=by show yA _ _ _ _=_;rw[gd]
  have rl:=x4 (back:=false) (fs:=N.forks) (ts:=ts) (lane:=lane) i
  have rb:=xS (back:=false) (fs:=N.forks) (lane:=lane) bits i
  generalize yL false N.forks ts lane i=st at *
  have sT:=zC hT (.tup [.int i,.ref a])
  refine⟨T,_,rfl,SqT.of zD,rfl,_,_,rfl,_,_,rfl,rfl,?_⟩
  refine⟨_,rfl,_,rfl,a,_,rfl,.inr (SqT.of (sT _ _ ha)),rfl,rfl,_,rfl,?_⟩
  show if (if false=true then !inV (V.int (st.2:Nat)) [V.int (g.1:Nat),V.int (g.2:Nat)] else inV (V.int (st.2:Nat)) [V.int (g.1:Nat),V.int (g.2:Nat)])=true then _ else _
  rw[if_neg Bool.false_ne_true,ky]
  by_cases on:st.2=g.1∨st.2=g.2
  ·rw[decide_eq_true on]
   refine yP ?_
   have rsn:yA false st i g=(st.1.set i (1-st.1.getD i 0),if st.1.getD i 0=0 then g.1 else g.2):=by unfold yA;rw[if_pos on];rfl
   have il:i<st.1.length:=by lia
   have hb:=sT _ _ h2
   obtain⟨nx',en,ex⟩:∃ nx':Nat,nx'=(yA false st i g).2∧atI [V.int (g.1:Nat),V.int (g.2:Nat)] (st.1.getD i 0)=some (.int (nx':Nat)):=by
    rcases rb _ (L2.xo il) with z|z
    ·exact⟨g.1,by rw[rsn,z];rfl,by rw[z];exact yD (j:=0) rfl⟩
    ·exact⟨g.2,by rw[rsn,z];rfl,by rw[z];exact yD (j:=1) rfl⟩
   refine⟨_,rfl,_,rfl,_,rfl,lb,_,_,_,rfl,rfl,SqL.of hb,xY il,a,_,_,_,rfl,rfl,SqT.of (sT _ _ ha),ex,?_⟩
   refine⟨_,rfl,_,rfl,lb,_,_,_,rfl,rfl,SqL.of hb,xY il,_,_,rfl,rfl,_,rfl,_,rfl,lb,_,_,i,rfl,rfl,hb,uO (by rw[List.length_map];exact il),⟨_,_,by rw[rs,← en];rfl⟩,fun b o e=>?_,?_⟩
   ·rw[zH (zG e hlb)];exact sT _ _ (s2 b o e)
   ·rw[zD,rs,rsn,wf]
  ·rw[decide_eq_false on]
   have rsn:yA false st i g=st:=by unfold yA;rw[if_neg on]
   exact zv ⟨⟨_,_,by rw[rs,rsn];rfl⟩,s2.trans sT,by rw[rs,rsn];exact sT _ _ h2⟩
 ·rintro σ H2 ⟨⟨v4,v5,rfl⟩,s2,h2⟩
  have pl:=na.prs.len
  rw[pl]at h2
  have hh:=xE (back:=false) (ts:=ts) ok.fk hl N.forks.length (Nat.le_refl _)
  refine⟨_,rfl,lb,_,rfl,.inl ⟨SqL.of h2,fun t ht=>?_⟩⟩
  have s3:=zC ht (.tup ((yL false N.forks ts lane N.forks.length).1.map V.int))
  have u3:=s2.trans s3
  have he:=u3 _ _ na.ends
  rw[rU]at he
  refine⟨_,rfl,r,_,_,_,rfl,rfl,SqT.of (u3 _ _ na.net),rfl,er,_,rfl,he,_,rfl,(((yL false N.forks ts lane ps.length).2:Nat):Int),rfl,he,?_,?_⟩
  ·rw[pl];exact List.mem_map.mpr ⟨_,ok.en.mem_iff.mpr (List.mem_range.mpr hh),rfl⟩
  ·rw[uQ,pl]
   exact⟨by show 2≤sizeLine;decide,fun p hp=>k p t _ (u3.trans (zC hp _)) zD (zC hp _ _ _ zD)⟩
theorem da:FnScope ["_law_counts","_law_lane"] ["_law_counts","_law_lane"] (zM i8):=⟨rfl,rfl,rfl,by decide +kernel,rfl,by decide +kernel,by decide +kernel⟩
theorem gO {f:Addr}{fd:FuncData}(F:Fun K "_law_more" "_law_more" i8 f fd):FnOk P w K mg base CX0 1 f fd ["_law_counts","_law_lane"] pj:=by
 refine F.ok da (fun vs H Q E h=>?_) (fun cdv A outer s H vs Q E hr h=>?_)
 ·obtain⟨a,xs,place,rfl,_⟩:=h
  rfl
 obtain⟨a,xs,place,rfl,ha,pl,x3,k⟩:=h
 refine⟨_,(@zK _ _ _ (@zU _ _ _ _ (@zR _ _ _ _ _ _ _ _ yZ (@zR _ _ _ _ _ _ _ _ yZ (@zu _ _ _ _ _ _ _ _ _ _ yR (@pv _ 0 _ _ (by rfl) (by first|exact Or.inl rfl|exact Or.inr (.inl rfl)|exact Or.inr (.inr rfl)) (by decide) (by decide)) yC (@zo _ _ _ (@pv _ 1 _ _ (by rfl) (by first|exact Or.inl rfl|exact Or.inr (.inl rfl)|exact Or.inr (.inr rfl)) (by decide) (by decide)))) (@zX _ _ _ _ _ (@zA _ _ _ _ _ (@zR _ _ _ _ _ _ _ _ yJ (@zY _ _ _ _ _ _ _ yB (@pv _ 0 _ _ (by rfl) (by first|exact Or.inl rfl|exact Or.inr (.inl rfl)|exact Or.inr (.inr rfl)) (by decide) (by decide)) (@pv _ 1 _ _ (by rfl) (by first|exact Or.inl rfl|exact Or.inr (.inl rfl)|exact Or.inr (.inr rfl)) (by decide) (by decide)) (fun _ _=>rfl)) zE) zB (by rfl)))) (@zu _ _ _ _ _ _ _ _ _ _ yR (@pv _ 0 _ _ (by rfl) (by first|exact Or.inl rfl|exact Or.inr (.inl rfl)|exact Or.inr (.inr rfl)) (by decide) (by decide)) (@zo _ _ _ (@zR _ _ _ _ _ _ _ _ yJ (@pv _ 1 _ _ (by rfl) (by first|exact Or.inl rfl|exact Or.inr (.inl rfl)|exact Or.inr (.inr rfl)) (by decide) (by decide)) zE)) yC)))),?_⟩
 have ml:(xs.map V.int).length=xs.length:=List.length_map _
 refine⟨_,rfl,_,rfl,_,rfl,a,_,rfl,ha,fun p1 H1 s1 h1=>?_⟩
 rw[uV _ place (by lia)]at h1
 refine⟨_,rfl,_,rfl,a,_,_,_,rfl,rfl,SqT.of (s1 _ _ ha),xY pl,_,_,rfl,rfl,(by show 1≤sizeLine;decide),fun p2 hp2=>?_⟩
 have s2:=zC hp2 (.tup [.int (xs.getD place 0+1)])
 refine⟨p1,p2,_,_,rfl,rfl,s2 _ _ h1,zD,?_,fun p3 H3 s3 h3=>?_⟩
 ·rw[List.length_take,sizeLine_eq];show _+1≤_;lia
 have u3:=(s1.trans s2).trans s3
 refine⟨_,rfl,_,rfl,_,_,rfl,rfl,_,rfl,a,_,rfl,u3 _ _ ha,fun p4 H4 s4 h4=>?_⟩
 rw[show ((place:Int)+1)=((place+1:Nat):Int) from rfl,uW _ (place+1) (by lia)]at h4
 refine⟨p3,p4,_,_,rfl,rfl,s4 _ _ h3,h4,?_,fun p5 H5 s5 h5=>?_⟩
 ·rw[List.length_append,List.length_take,List.length_drop,sizeLine_eq];show _+1+_≤_;lia
 refine k p5 H5 ((u3.trans s4).trans s5) ?_
 rw[h5]
 exact congrArg (fun z=>some (HO.tup z)) (oE xs place _ pl)
end
end K45
namespace L2
open PySem PySem.Spec PyProof.Rows Own PySem.W
abbrev fw (K:PySem.W.Frag) (b:Bool):List V→Hp→VK→Prop:=fun vs H Q=>∃ a ns,vs=[.ref a]∧SqB b K H a (List.map V.int ns)∧0<ns.length∧∀ M,M∈ns→(∀ x∈ns,x≤M)→Q (.int M) H
theorem uZ {X:Cx}(hc:X.calm=true):CallR X (.type "list") (fun vs H Q=>∃ a xs,vs=[.ref a]∧H a=some (DN X.prog X.w a xs)∧∀ l,H l=none→Q (.ref l) (upd H l (.lst (xs.map fun p=>.ref p.2.1)))):=by
 intro pins s σ H vs us Q I rv h
 obtain⟨a,xs,rfl,hd,q⟩:=h
 obtain⟨u,rfl,ru⟩:=rv.one
 cases ru
 obtain⟨⟨z,hS,ws,r,o,es,ep,h1,h2,h3,h4,h5⟩,_,_⟩:=(show ObjOk X.prog X.w H s.heap a (DN X.prog X.w a xs) from I.hok a _ hd)
 have wl:es.size=xs.length:=by rw[size_of_entries h4,← Paired.length r]
 refine kdl_call (lI h2 h3 hS) (I.ok.hd hc) h1 (by rw[wl];exact z) fun h' tk acc c kk new items=>?_
 obtain⟨a1,a2⟩:=items
 have al:acc.toList=ws.map fun q=>Value.ref q.2.1:=by
  rw[jO a1 a2,h4,List.map_map];rfl
 have vs:Vals (xs.map fun p=>V.ref p.2.1) acc.toList:=by rw[al];exact jQ r
 exact⟨.ref s.heap.objs.size,_,I.laid (t':=tk) (o:=.lst (xs.map fun p=>.ref p.2.1)) kk (Nat.le_refl _) ⟨by rw[List.length_map];exact z,acc.toList,c,vs,new⟩,rfl,q _ (I.hok.fresh (Nat.le_refl _))⟩
theorem jj {X:Cx}(hu:X.A.units<cLine):OpR X (compareOp .Eq) (fun x y H Q=>∃ a b xs,x=.ref a∧y=.ref b∧SqL X.K H a xs∧SqL X.K H b []∧Q (.bl xs.isEmpty) H):=by
 rintro pins s σ H x y v u Q I rx ry ⟨a,b,xs,rfl,rfl,ha,hb,q⟩
 cases rx;cases ry
 obtain⟨its,r,p,_⟩:=I.list ha
 obtain⟨jts,r',p',_⟩:=I.list hb
 cases r'
 have il:=r.length
 cases xs with
 | nil =>
  cases r
  exact SeqAt.RcAt.lists (e:=fun _=>true) p.isList p'.isList rfl hu (fun j h=>absurd h (Nat.not_lt_zero _)) X.prog X.w _ _ ⟨.bl _,H,I,rfl,q⟩
 | cons z zs =>
  exact SeqAt.RcAt.lists_lengths p.isList p'.isList (by rw[List.size_toArray,← il];simp) hu X.prog X.w _ _ ⟨.bl _,H,I,rfl,q⟩
end L2
namespace L2
open PySem PySem.Spec PyProof.Rows Own Bn
def HtB (B:Int) (k:KN):Prop:=∃ ts hs,k=plK ts hs∧∀ h∈hs,h≤B
theorem HtB.up {B C:Int}{k:KN}(h:HtB B k) (l:B≤C):HtB C k:=by
 obtain⟨ts,hs,e,a⟩:=h
 exact⟨ts,hs,e,fun x hx=>Int.le_trans (a x hx) l⟩
def stT (N:Nt) (ts hs:List Int) (m:Nat):KN:=plK (uG N ts m) (vT (yd hs (passE N ts m) 1))
structure Bfs (N:Nt) (moves:List Nat) (k0:KN) (c:Int) (M ks:List KN):Prop where
 nd:M.Nodup
 ok:∀ k,k∈M∨k∈ks→OkR N k∧HtB (c+M.length) k
 fst:k0∈M∨k0∈ks
 cls:∀ k∈M,∀ m∈moves,∃ t,xM N k m=some t∧(t∈M∨t∈ks)
section
variable {N:Nt}{moves:List Nat}{k0 k:KN}{c:Int}{M ks:List KN}{ts hs:List Int}
theorem Bfs.old (h:Bfs N moves k0 c M (ks++[k])) (m:k∈M):Bfs N moves k0 c M ks:=by
 have key:∀ t,t∈M∨t∈ks++[k]→t∈M∨t∈ks:=fun t z=>by
  rcases z with z|z
  ·exact .inl z
  ·rcases List.mem_append.mp z with y|y
   ·exact .inr y
   ·exact .inl (by rw[List.mem_singleton.mp y];exact m)
 refine⟨h.nd,fun t z=>h.ok t (z.imp id fun y=>List.mem_append_left _ y),key _ h.fst,fun q hq m hm=>?_⟩
 obtain⟨t,e,z⟩:=h.cls q hq m hm
 exact⟨t,e,key t z⟩
theorem iu {B:Int}(m:Nat) (ne:hs≠[]) (h0:∀ h∈hs,0≤h) (hb:∀ h∈hs,h≤B):HtB (B+1) (stT N ts hs m):=by
 refine⟨_,_,rfl,fun x hx=>?_⟩
 obtain⟨y,hy,rfl⟩:=List.mem_map.mp (show x∈(yd hs (passE N ts m) 1).map fun h=>h-uH (yd hs (passE N ts m) 1) from hx)
 have ne2:yd hs (passE N ts m) 1≠[]:=fun z=>ne (by
  have:=congrArg List.length z
  rw[yW,List.length_nil]at this
  exact List.length_eq_zero_iff.mp this)
 have all:∀ z∈yd hs (passE N ts m) 1,0≤z∧z≤B+1:=fun z hz=>by
  unfold yd at hz
  rcases List.mem_or_eq_of_mem_set hz with q|q
  ·have:=h0 z q
   have:=hb z q
   lia
  ·subst q
   simp only[List.getD_eq_getElem?_getD]
   cases e:hs[passE N ts m]? with
   | none =>
    obtain⟨a,l,_⟩:=List.exists_cons_of_ne_nil ne
    have:=h0 a (by rw[‹hs=a::l›];exact .head _)
    have:=hb a (by rw[‹hs=a::l›];exact .head _)
    show 0≤(0:Int)+1∧(0:Int)+1≤B+1
    lia
   | some a =>
    have q:=List.mem_of_getElem? e
    have:=h0 a q
    have:=hb a q
    show 0≤a+1∧a+1≤B+1
    lia
 have a1:=all y hy
 have a2:=all _ (vb ne2).1
 lia
theorem Bfs.new (nt:Nt.Ok N) (h:Bfs N moves k0 c M (ks++[plK ts hs])) (m:plK ts hs∉M):Bfs N moves k0 c (M++[plK ts hs]) (ks++moves.map (stT N ts hs)):=by
 have key:∀ t,t∈M∨t∈ks++[plK ts hs]→t∈M++[plK ts hs]∨t∈ks++moves.map (stT N ts hs):=fun t z=>by
  rcases z with z|z
  ·exact .inl (List.mem_append_left _ z)
  ·rcases List.mem_append.mp z with y|y
   ·exact .inr (List.mem_append_left _ y)
   ·exact .inl (List.mem_append_right _ y)
 obtain⟨ok,ht⟩:=h.ok (plK ts hs) (.inr (List.mem_append_right _ (.head _)))
 have len:(M++[plK ts hs]).length=M.length+1:=List.length_append
 refine⟨List.nodup_append.mpr ⟨h.nd,List.nodup_cons.mpr ⟨List.not_mem_nil,List.nodup_nil⟩,fun x hx y hy e=>m (by rw[← List.mem_singleton.mp hy,← e];exact hx)⟩,fun t z=>?_,key _ h.fst,fun q hq n hn=>?_⟩
 ·have old:(t∈M∨t∈ks++[plK ts hs])→OkR N t∧HtB (c+(M++[plK ts hs]).length) t:=fun z=>by
   obtain⟨a,b⟩:=h.ok t z
   exact⟨a,b.up (by rw[len];lia)⟩
  rcases z with z|z
  ·rcases List.mem_append.mp z with y|y
   ·exact old (.inl y)
   ·exact old (.inr (List.mem_append_right _ y))
  ·rcases List.mem_append.mp z with y|y
   ·exact old (.inr (List.mem_append_left _ y))
   ·obtain⟨n,hn,rfl⟩:=List.mem_map.mp y
    refine⟨sx nt ok (wX N ts hs n),?_⟩
    obtain⟨ts',hs',e,_,_,l,h0,hz⟩:=ok
    obtain⟨ts2,hs2,e2,hb⟩:=ht
    cases e
    cases e2
    have:=iu (N:=N) (ts:=ts) (B:=c+M.length) n (fun z=>by rw[z]at hz;cases hz) h0 hb
    exact this.up (by rw[len];lia)
 ·rcases List.mem_append.mp hq with y|y
  ·obtain⟨t,e,z⟩:=h.cls q y n hn
   exact⟨t,e,key t z⟩
  ·rw[List.mem_singleton.mp y]
   exact⟨_,wX N ts hs n,.inr (List.mem_append_right _ (List.mem_map.mpr ⟨n,hn,rfl⟩))⟩
structure ClosedP (N:Nt) (moves:List Nat) (k0:KN) (B:Int) (n:Nat) (ks:List KN):Prop where
 nd:ks.Nodup
 ok:∀ k∈ks,OkR N k∧HtB B k
 fst:k0∈ks
 cls:∀ k∈ks,∀ m∈moves,∃ t,xM N k m=some t∧t∈ks
 few:ks.length≤n
theorem Bfs.done {B:Int}{n:Nat}(h:Bfs N moves k0 c M []) (l:M.length≤n) (b:c+n≤B):ClosedP N moves k0 B n M:=by
 have no:∀ t,t∈M∨t∈([]:List KN)→t∈M:=fun t z=>z.elim id fun y=>(nomatch y)
 refine⟨h.nd,fun k hk=>?_,no _ h.fst,fun k hk m hm=>?_,l⟩
 ·obtain⟨a,e⟩:=h.ok k (.inl hk)
  exact⟨a,e.up (by lia)⟩
 ·obtain⟨t,e,z⟩:=h.cls k hk m hm
  exact⟨t,e,no t z⟩
theorem ClosedP.up {B C:Int}{n n':Nat}(h:ClosedP N moves k0 B n ks) (l:B≤C) (l2:n≤n'):ClosedP N moves k0 C n' ks:=⟨h.nd,fun k hk=>⟨(h.ok k hk).1,(h.ok k hk).2.up l⟩,h.fst,h.cls,Nat.le_trans h.few l2⟩
theorem ClosedP.perm {B:Int}{n:Nat}{js:List KN}(h:ClosedP N moves k0 B n ks) (p:js.Perm ks):ClosedP N moves k0 B n js:=⟨p.nodup_iff.mpr h.nd,fun k hk=>h.ok k (p.mem_iff.mp hk),p.mem_iff.mpr h.fst,fun k hk m hm=>by
 obtain⟨t,e,z⟩:=h.cls k (p.mem_iff.mp hk) m hm
 exact⟨t,e,p.mem_iff.mpr z⟩,by rw[p.length_eq];exact h.few⟩
def vg:KN→Int
 | [.inr _,.inr hs]=>n4 hs
 | _=>0
variable {H:Hp}{b:Addr}{far:Int}
theorem j6 (ok:OkR N k) (h:NKey H k b):wR H (N.forks.length:Nat) (N.lanes:Nat) far (.ref b)=decide (vg k≤far):=by
 obtain⟨ts,hs,rfl,h1,h2,h3,h4,h5⟩:=ok
 obtain⟨t,u,e1,e2,e3⟩:=vM h
 have b1:ya H (N.forks.length:Nat) 2 (.ref t)=true:=by
  unfold ya
  rw[zy e2]
  dsimp only
  rw[List.length_map,h1,decide_eq_true rfl,Bool.true_and]
  refine List.all_eq_true.mpr fun x hx=>?_
  obtain⟨i,hi,rfl⟩:=List.mem_map.mp hx
  rcases h2 i hi with rfl|rfl<;>rfl
 have b2:yY H (N.lanes:Nat) (.ref u)=true:=by
  unfold yY
  rw[zy e3]
  dsimp only
  rw[List.length_map,h3,decide_eq_true rfl,Bool.true_and]
  refine List.all_eq_true.mpr fun x hx=>?_
  obtain⟨i,hi,rfl⟩:=List.mem_map.mp hx
  exact decide_eq_true (h4 i hi)
 have b3:wH H (.ref u)=hs:=by
  unfold wH;rw[zy e3];exact vD hs
 unfold wR
 rw[zy e1]
 dsimp only
 rw[b1,b2,b3,x9 h5 h4,decide_eq_true rfl];rfl
theorem lH (ok:OkR N k) (h:NKey H k b):stR H (N.forks.length:Nat) (N.lanes:Nat) far (.ref b)=if vg k≤far then some k else none:=by
 unfold stR
 rw[j6 ok h]
 by_cases c:vg k≤far
 ·rw[decide_eq_true c,if_pos rfl,if_pos c]
  obtain⟨ts,hs,rfl,_⟩:=ok
  obtain⟨t,u,e1,e2,e3⟩:=vM h
  rw[zy e1]
  dsimp only
  unfold wH
  rw[zy e2,zy e3]
  show some (plK (xG (ts.map V.int)) (xG (hs.map V.int)))=_
  rw[vD,vD]
 ·rw[decide_eq_false c,if_neg Bool.false_ne_true,if_neg c]
theorem j5 {bs:List Addr}(ka:KeysAt H bs ks) (ok:∀ k∈ks,OkR N k) (l:∀ k∈ks,vg k≤far):(bs.map V.ref).mapM (stR H (N.forks.length:Nat) (N.lanes:Nat) far)=some ks:=by
 unfold KeysAt at ka
 induction ka with
 | nil=>rfl
 | @cons b k bs ks q _ ih =>
  rw[List.map_cons,List.mapM_cons,lH (ok k (.head _)) q,if_pos (l k (.head _)),ih (fun j hj=>ok j (.tail _ hj)) fun j hj=>l j (.tail _ hj)]
  rfl
theorem jM {bs:List Addr}{B:Int}{n:Nat}(ka:KeysAt H bs ks) (cl:ClosedP N moves k0 B n ks) (l:∀ k∈ks,vg k≤far):xv (stR H (N.forks.length:Nat) (N.lanes:Nat) far) (bs.map V.ref) k0 moves (xM N)=true:=by
 rw[ua (j5 ka (fun k hk=>(cl.ok k hk).1) l),decide_eq_true cl.nd,decide_eq_true cl.fst,Bool.true_and,Bool.true_and]
 refine List.all_eq_true.mpr fun s hs=>List.all_eq_true.mpr fun m hm=>?_
 obtain⟨t,e,z⟩:=cl.cls s hs m hm
 rw[e]
 exact decide_eq_true z
theorem iQ {bs:List Addr}(ka:KeysAt H bs ks) (ok:∀ k∈ks,OkR N k) {j:KN}(jm:j∈ks) (l:far<vg j):xv (stR H (N.forks.length:Nat) (N.lanes:Nat) far) (bs.map V.ref) k0 moves (xM N)=false:=by
 refine ub (tG.mpr ?_)
 unfold KeysAt at ka
 induction ka with
 | nil=>cases jm
 | @cons b k bs ks q _ ih =>
  rcases List.mem_cons.mp jm with rfl|z
  ·exact⟨.ref b,.head _,by rw[lH (ok j (.head _)) q,if_neg (by lia)]⟩
  ·obtain⟨x,hx,e⟩:=ih (fun i hi=>ok i (.tail _ hi)) z
   exact⟨x,.tail _ hx,e⟩
theorem iZ {xs:KVN}(h:KsIn H xs):KeysAt H (xs.map fun p=>p.2.1) (xs.map (·.1)):=by
 unfold KeysAt
 induction xs with
 | nil=>exact .nil
 | cons x xs ih=>exact .cons (h x (.head _)) (ih fun y hy=>h y (.tail _ hy))
theorem r0 {as bs:List Addr}{js ks:List KN}(h:KeysAt H as js) (g:KeysAt H bs ks):KeysAt H (as++bs) (js++ks):=by
 unfold KeysAt at h
 induction h with
 | nil=>exact g
 | cons a _ ih=>exact .cons a ih
theorem vC {u:Addr}:∀ {vs:List Addr}{ks:List KN},KeysAt H (vs++[u]) ks→∃ k js,ks=js++[k]∧KeysAt H vs js∧NKey H k u
 | [],_,.cons a .nil=>⟨_,[],rfl,.nil,a⟩
 | _::_,_,.cons a b=>by
  obtain⟨k,js,e,c,d⟩:=vC b
  exact⟨k,_::js,by rw[e];rfl,.cons a c,d⟩
theorem nU {ys zs:List V}(p:ys.Perm zs):∀ {bs:List Addr}{ks:List KN},zs=bs.map V.ref→KeysAt H bs ks→∃ bs' ks',ys=bs'.map V.ref∧KeysAt H bs' ks'∧ks'.Perm ks:=by
 induction p with
 | nil=>intro bs ks e h;exact⟨bs,ks,e,h,.refl _⟩
 | @cons x l1 l2 _ ih =>
  intro bs ks e h
  cases h with
  | nil=>cases e
  | @cons b k bs ks a r =>
   injection e with e1 e2
   obtain⟨bs',ks',f1,f2,f3⟩:=ih e2 r
   exact⟨b::bs',k::ks',by rw[e1,f1];rfl,.cons a f2,f3.cons k⟩
 | @swap x y l =>
  intro bs ks e h
  cases h with
  | nil=>cases e
  | cons a r =>
   cases r with
   | nil=>injection e with _ e;cases e
   | cons b r =>
    injection e with e1 e
    injection e with e2 e3
    exact⟨_::_::_,_::_::_,by rw[e1,e2,e3];rfl,.cons b (.cons a r),.swap _ _ _⟩
 | trans _ _ ih1 ih2 =>
  intro bs ks e h
  obtain⟨bs1,ks1,f1,f2,f3⟩:=ih2 e h
  obtain⟨bs2,ks2,g1,g2,g3⟩:=ih1 f1 f2
  exact⟨bs2,ks2,g1,g2,g3.trans f3⟩
theorem kw {bs:List Addr}(h:KeysAt H bs ks) {i:Nat}{b:Addr}(e:bs[i]?=some b):∃ k,ks[i]?=some k∧NKey H k b:=by
 unfold KeysAt at h
 induction h generalizing i b with
 | nil=>cases e
 | cons a _ ih =>
  cases i with
  | zero=>cases e;exact⟨_,rfl,a⟩
  | succ i=>exact ih e
theorem eQ {k:KN}(nt:Nt.Ok N) (ok:OkR N k) (h:NKey H k b):Dp H 2 (.ref b):=by
 obtain⟨ts,hs,rfl,h1,_,h3,_⟩:=ok
 obtain⟨t,u,e1,e2,e3⟩:=vM h
 have fm:=nt.fm
 have l16:=nt.l16
 have one:∀ {a:Addr}{is:List Int},H a=some (.tup (is.map V.int))→is.length≤1000→Dp H 1 (.ref a):=fun {a is} e l=>⟨.inr ⟨a,rfl,.inl ⟨_,e⟩⟩,fun xs z=>by
  rw[zy e]at z
  obtain rfl:=Option.some.inj z
  refine⟨by rw[List.length_map];exact l,fun y hy=>?_⟩
  obtain⟨i,_,rfl⟩:=List.mem_map.mp hy
  exact .inl trivial⟩
 refine⟨.inr ⟨b,rfl,.inl ⟨_,e1⟩⟩,fun xs z=>?_⟩
 rw[zy e1]at z
 obtain rfl:=Option.some.inj z
 refine⟨by show 2≤1000;decide,fun y hy=>?_⟩
 rcases List.mem_cons.mp hy with rfl|z
 ·exact one e2 (by lia)
 ·rw[List.mem_singleton.mp z];exact one e3 (by lia)
def plD:KN→PyData
 | [.inr ts,.inr hs]=>.tuple [.tuple (ts.map PyData.int),.tuple (hs.map PyData.int)]
 | _=>.none
theorem eR (ok:OkR N k) (h:NKey H k b):DD H 2 (.ref b) (plD k):=by
 obtain⟨ts,hs,rfl,_⟩:=ok
 obtain⟨t,u,e1,e2,e3⟩:=vM h
 exact gp e1 (ot e2) (ot e3)
theorem iz {B:Int}(ok:OkR N k) (ht:HtB B k) (b:B≤10000) (f:N.forks.length≤20) (l:N.lanes≤8):ShB 410 (plD k):=by
 obtain⟨ts,hs,rfl,h1,h2,h3,h4,_⟩:=ok
 obtain⟨ts',hs',e,hb⟩:=ht
 cases e
 have a:ShB (20*(1+2)+3) (.tuple (ts.map PyData.int)):=ShB.long (fun e he=>by
  obtain⟨t,ht,rfl⟩:=List.mem_map.mp he
  exact jc (h2 t ht)) (by rw[List.length_map];lia)
 have c:ShB (8*(40+2)+3) (.tuple (hs.map PyData.int)):=ShB.long (fun e he=>by
  obtain⟨t,ht,rfl⟩:=List.mem_map.mp he
  exact oC (by have:=h4 t ht;have:=hb t ht;lia)) (by rw[List.length_map];lia)
 exact(a.two c).up (by decide)
theorem jK {p:Addr}{bs:List Addr}{B:Int}{n:Nat}(h:H p=some (.tup (bs.map V.ref))) (ka:KeysAt H bs ks) (cl:ClosedP N moves k0 B n ks) (b:B≤10000) (f:N.forks.length≤20) (l:N.lanes≤8) (n15:n≤1600):DD H 4 (.ref p) (.tuple (ks.map plD))∧ShB 1000000 (.tuple (ks.map plD)):=by
 have dd:DD H 3 (.ref p) (.tuple (ks.map plD)):=by
  refine DD.tup h (by rw[List.length_map,List.length_map,Paired.length ka]) ?_
  have ok:=fun k hk=>(cl.ok k hk).1
  clear cl h
  unfold KeysAt at ka
  induction ka with
  | nil=>intro j u e p;cases p
  | @cons b k bs ks q _ ih =>
   intro j u e p r
   cases j with
   | zero=>cases Option.some.inj p;cases Option.some.inj r;exact eR (ok k (.head _)) q
   | succ j=>exact ih (fun k hk=>ok k (.tail _ hk)) j u e p r
 refine⟨DD.up (by decide) dd,?_⟩
 have a:ShB (1600*(410+2)+3) (.tuple (ks.map plD)):=ShB.long (fun e he=>by
  obtain⟨k,hk,rfl⟩:=List.mem_map.mp he
  exact iz (cl.ok k hk).1 (cl.ok k hk).2 b f l) (by rw[List.length_map];have:=cl.few;lia)
 exact a.up (by decide)
end
end L2
namespace K45
open PySem L2 Own Bn
abbrev qr:Stmt:=top 42
def k00 (N:Nt):KN:=plK (List.replicate N.forks.length 0) (List.replicate N.lanes 0)
def tf:Sp:=fun vs H Q _=>∃ r fr er ps N sm,∃ (moves:List Nat) (most:Nat),vs=[.ref r,.ref sm,.int (most:Nat)]∧Nt.Ok N∧NetAt H r fr er ps N∧H sm=some (.tup (zT moves))∧(∀ m∈moves,m<N.lanes)∧moves.length≤16∧most≤1000 ∧
 (∀ H',Same H H'→Q .non H')∧∀ p bs ks H',Same H H'→H p=none→H' p=some (.lst (bs.map V.ref))→KeysAt H' bs ks→ClosedP N moves (k00 N) (most:Nat) most ks→Q (.ref p) H'
theorem oh {α:Type}{l:List α}(h:l≠[]):∃ x,l=l.dropLast++[x]:=⟨l.getLast h,(List.dropLast_concat_getLast h).symm⟩
theorem pi {xs:KVN}{k:KN}{b:Addr}{v:V}(h:k∉xs.map (·.1)):yk xs k b v=xs++[(k,b,v)]:=by
 unfold yk
 rw[if_neg fun z=>h (yp.mp z)]
theorem uv {N:Nt}(ok:Nt.Ok N) {ts:List Int}{lane:Nat}(h:lane<N.lanes):passE N ts lane<N.lanes:=by
 have b:=(xE (back:=false) (ts:=ts) ok.fk h N.forks.length (Nat.le_refl _))
 have:=List.idxOf_lt_length_of_mem (ok.en.mem_iff.mpr (List.mem_range.mpr b))
 rw[ok.en.length_eq,List.length_range]at this
 exact this
section
variable {P:Program}{w:World}{K:PySem.W.Frag}{mg:Str→Option Value}{base:Heap}
theorem rG:FnScope ["_law_net_here","_law_some_here","_law_most","_law_first","_law_met","_law_waits","_law_turns","_law_heights","_law_lane","_law_later","_law_end"] ["_law_net_here","_law_some_here","_law_most"] (zM qr):=⟨rfl,rfl,rfl,by decide +kernel,rfl,by decide +kernel,by decide +kernel⟩
theorem kU {f fP fM fL:Addr}{fd dP dM dL:FuncData}(F:Fun K "_law_all_places" "_law_all_places" qr f fd) (G:Mgs mg) (UP:Use P w K mg base "_law_passed" ["_law_net_here","_law_turns","_law_lane"] 1 (wO false) fP dP) (UM:Use P w K mg base "_law_more" ["_law_counts","_law_lane"] 1 pj fM dM) (UL:Use P w K mg base "_law_lowered" ["_law_heights"] 1 (wP false) fL dL):FnOk P w K mg base CX0 2 f fd ["_law_net_here","_law_some_here","_law_most"] tf:=by
 refine F.ok rG (fun vs H Q E h=>?_) (fun cdv A outer s H vs Q E hr h=>?_)
 ·obtain⟨r,fr,er,ps,N,sm,moves,most,rfl,_⟩:=h
  rfl
 obtain⟨r,fr,er,ps,N,sm,moves,most,rfl,ok,na,hsm,mlt,ml,mb,q1,q2⟩:=h
 refine⟨_,(@zF _ _ _ _ _ (@zi _ _ 3 _ _ _ _ rG.nd rfl (.inl rfl) (@zX _ _ _ _ _ (@zA _ _ _ _ _ (@zR _ _ _ _ _ _ _ _ va (@zX _ _ _ _ _ (@zA _ _ _ _ _ zE zB (by rfl))) (@zQ _ _ _ _ _ _ _ _ _ zW (by rfl) G.len PySem.boot_len (@zA _ _ _ _ _ (@zY _ _ _ _ _ _ _ yB (@pv _ 0 _ _ (by rfl) (by first|exact Or.inl rfl|exact Or.inr (.inl rfl)|exact Or.inr (.inr rfl)) (by decide) (by decide)) zE (fun _ _=>rfl)) zB (by rfl)) (by decide) (by decide) (by rfl) (by rfl))) (@zA _ _ _ _ _ (@zR _ _ _ _ _ _ _ _ va (@zX _ _ _ _ _ (@zA _ _ _ _ _ zE zB (by rfl))) (@zY _ _ _ _ _ _ _ yB (@pv _ 0 _ _ (by rfl) (by first|exact Or.inl rfl|exact Or.inr (.inl rfl)|exact Or.inr (.inr rfl)) (by decide) (by decide)) zE (fun _ _=>rfl))) zB (by rfl)) (by rfl))) (by rfl) (by first|exact .inl rfl|exact .inr rfl|assumption)) (@zF _ _ _ _ _ (@uE _ _ 4 5 _ _ _ _ _ _ _ _ _ _ _ rfl rG.nd rfl rfl (by decide) rfl rfl (@zA _ _ _ _ _ jh (@zA _ _ _ _ _ (@zq _ _ _ _ (@zA _ _ _ _ _ (@pv _ 3 _ _ (by rfl) (by first|exact Or.inl rfl|exact Or.inr (.inl rfl)|exact Or.inr (.inr rfl)) (by decide) (by decide)) zB (by rfl))) zB (by rfl)) (by rfl)) (by rfl) (by rfl)) (@zF _ _ _ _ _ (@uC _ _ _ _ _ _ PassesOwn.never (@lq _ _ _ _ _ _ _ (@zj _ _ _ _ _ _ _ _ (sN hr.units0) (@pv _ 5 _ _ (by rfl) (by first|exact Or.inl rfl|exact Or.inr (.inl rfl)|exact Or.inr (.inr rfl)) (by decide) (by decide)) (@zq _ _ _ _ zB) (zp _)) (@oG _ _ _ _ (@zj _ _ _ _ _ _ _ _ oO (@zQ _ _ _ _ _ _ _ _ _ wD (by rfl) G.len PySem.boot_len (@zA _ _ _ _ _ (@pv _ 4 _ _ (by rfl) (by first|exact Or.inl rfl|exact Or.inr (.inl rfl)|exact Or.inr (.inr rfl)) (by decide) (by decide)) zB (by rfl)) (by decide) (by decide) (by rfl) (by rfl)) (@pv _ 2 _ _ (by rfl) (by first|exact Or.inl rfl|exact Or.inr (.inl rfl)|exact Or.inr (.inr rfl)) (by decide) (by decide)) (zp _)))).pt (@zF _ _ _ _ _ (@yG _ _ _ _ _ _ (@kG _ _ _ _ _ _ _ _ _ PySem.F.plainAttrs_list PySem.F.slot_list_pop PySem.F.type_list_pop kg (@pv _ 5 _ _ (by rfl) (by first|exact Or.inl rfl|exact Or.inr (.inl rfl)|exact Or.inr (.inr rfl)) (by decide) (by decide)) (by rfl) (by rfl)) (@yE _ _ _ _ _ _ rfl (@zN _ _ _ _ _ (@zL _ _ 6 _ rG.nd rfl (.inl rfl) (by first|exact .inl rfl|exact .inr rfl|assumption)) (@zN _ _ _ _ _ (@zL _ _ 7 _ rG.nd rfl (.inl rfl) (by first|exact .inl rfl|exact .inr rfl|assumption)) zt (by rfl)) (by rfl)) (by rfl) (by rfl)) (by rfl) (by rfl) (by rfl)) (@zK _ _ _ (@yM _ _ _ _ _ _ _ _ (@pD _ _ _ _ _ _ (vB hr.u3 (@zX _ _ _ _ _ (@zA _ _ _ _ _ (@pv _ 6 _ _ (by rfl) (by first|exact Or.inl rfl|exact Or.inr (.inl rfl)|exact Or.inr (.inr rfl)) (by decide) (by decide)) (@zA _ _ _ _ _ (@pv _ 7 _ _ (by rfl) (by first|exact Or.inl rfl|exact Or.inr (.inl rfl)|exact Or.inr (.inr rfl)) (by decide) (by decide)) zB (by rfl)) (by rfl))) (@pv _ 4 _ _ (by rfl) (by first|exact Or.inl rfl|exact Or.inr (.inl rfl)|exact Or.inr (.inr rfl)) (by decide) (by decide))) (by rfl)) (@zF _ _ _ _ _ (oH hr.u3 (@pv _ 4 _ _ (by rfl) (by first|exact Or.inl rfl|exact Or.inr (.inl rfl)|exact Or.inr (.inr rfl)) (by decide) (by decide)) (@zX _ _ _ _ _ (@zA _ _ _ _ _ (@pv _ 6 _ _ (by rfl) (by first|exact Or.inl rfl|exact Or.inr (.inl rfl)|exact Or.inr (.inr rfl)) (by decide) (by decide)) (@zA _ _ _ _ _ (@pv _ 7 _ _ (by rfl) (by first|exact Or.inl rfl|exact Or.inr (.inl rfl)|exact Or.inr (.inr rfl)) (by decide) (by decide)) zB (by rfl)) (by rfl))) yq (by rfl)) (@zK _ _ _ (@yn _ _ _ _ _ _ _ _ PassesOwn.never rfl (@yX _ _ _ _ (@pv _ 1 _ _ (by rfl) (by first|exact Or.inl rfl|exact Or.inr (.inl rfl)|exact Or.inr (.inr rfl)) (by decide) (by decide))) (@zL _ _ 8 _ rG.nd rfl (.inl rfl) (by first|exact .inl rfl|exact .inr rfl|assumption)) (@zF _ _ _ _ _ (@yG _ _ _ _ _ _ (@zJ _ _ _ _ _ _ _ _ _ _ _ _ _ _ _ _ UP.ok hr (by rfl) UP.m UP.kp UP.b .nil zS (@zA _ _ _ _ _ (@pv _ 0 _ _ (by rfl) (by first|exact Or.inl rfl|exact Or.inr (.inl rfl)|exact Or.inr (.inr rfl)) (by decide) (by decide)) (@zA _ _ _ _ _ (@pv _ 6 _ _ (by rfl) (by first|exact Or.inl rfl|exact Or.inr (.inl rfl)|exact Or.inr (.inr rfl)) (by decide) (by decide)) (@zA _ _ _ _ _ (@pv _ 8 _ _ (by rfl) (by first|exact Or.inl rfl|exact Or.inr (.inl rfl)|exact Or.inr (.inr rfl)) (by decide) (by decide)) zB (by rfl)) (by rfl)) (by rfl)) (by decide) (by rfl) (by rfl)) (@yE _ _ _ _ _ _ rfl (@zN _ _ _ _ _ (@zL _ _ 9 _ rG.nd rfl (.inl rfl) (by first|exact .inl rfl|exact .inr rfl|assumption)) (@zN _ _ _ _ _ (@zL _ _ 10 _ rG.nd rfl (.inl rfl) (by first|exact .inl rfl|exact .inr rfl|assumption)) zt (by rfl)) (by rfl)) (by rfl) (by rfl)) (by rfl) (by rfl) (by rfl)) (@zK _ _ _ (@xH _ _ _ _ (@wn _ _ _ _ _ _ _ _ _ _ _ _ PySem.F.plainAttrs_list PySem.F.slot_list_append PySem.F.type_list_append yc (@pv _ 5 _ _ (by rfl) (by first|exact Or.inl rfl|exact Or.inr (.inl rfl)|exact Or.inr (.inr rfl)) (by decide) (by decide)) (@zA _ _ _ _ _ (@zX _ _ _ _ _ (@zA _ _ _ _ _ (@pv _ 9 _ _ (by rfl) (by first|exact Or.inl rfl|exact Or.inr (.inl rfl)|exact Or.inr (.inr rfl)) (by decide) (by decide)) (@zA _ _ _ _ _ (@zJ _ _ _ _ _ _ _ _ _ _ _ _ _ _ _ _ UL.ok hr (by rfl) UL.m UL.kp UL.b .nil zS (@zA _ _ _ _ _ (@zJ _ _ _ _ _ _ _ _ _ _ _ _ _ _ _ _ UM.ok hr (by rfl) UM.m UM.kp UM.b .nil zS (@zA _ _ _ _ _ (@pv _ 7 _ _ (by rfl) (by first|exact Or.inl rfl|exact Or.inr (.inl rfl)|exact Or.inr (.inr rfl)) (by decide) (by decide)) (@zA _ _ _ _ _ (@pv _ 10 _ _ (by rfl) (by first|exact Or.inl rfl|exact Or.inr (.inl rfl)|exact Or.inr (.inr rfl)) (by decide) (by decide)) zB (by rfl)) (by rfl)) (by decide) (by rfl) (by rfl)) zB (by rfl)) (by decide) (by rfl) (by rfl)) zB (by rfl)) (by rfl))) zB (by rfl)) (by rfl) (by rfl) (by rfl) (by rfl) (by rfl)) (by rfl)))) (by intro _;rfl)))) zk)))) (@zK _ _ _ (@zU _ _ _ _ (@wk _ _ _ _ _ _ _ _ (@zj _ _ _ _ _ _ _ _ oO (@zQ _ _ _ _ _ _ _ _ _ wD (by rfl) G.len PySem.boot_len (@zA _ _ _ _ _ (@pv _ 4 _ _ (by rfl) (by first|exact Or.inl rfl|exact Or.inr (.inl rfl)|exact Or.inr (.inr rfl)) (by decide) (by decide)) zB (by rfl)) (by decide) (by decide) (by rfl) (by rfl)) (@pv _ 2 _ _ (by rfl) (by first|exact Or.inl rfl|exact Or.inr (.inl rfl)|exact Or.inr (.inr rfl)) (by decide) (by decide)) (zp _)) (@zV _ _ _ _ _ _ _ _ _ (uZ rfl) (by rfl) G.list (by rfl) (@zA _ _ _ _ _ (@pv _ 4 _ _ (by rfl) (by first|exact Or.inl rfl|exact Or.inr (.inl rfl)|exact Or.inr (.inr rfl)) (by decide) (by decide)) zB (by rfl)) (by decide) (by decide) (by rfl) (by rfl)) kB)))))),?_⟩
 have l16:=ok.l16
 have fm:=ok.fm
 have pl:=na.prs.len
 refine⟨by show 1≤sizeLine;decide,fun t0 ht0=>?_⟩
 have s1:=zC ht0 (.tup [.int 0])
 refine⟨_,rfl,r,_,_,_,rfl,rfl,SqT.of (s1 _ _ na.net),rfl,fr,ps,rfl,.inr (SqT.of (s1 _ _ na.forks)),t0,_,ps.length,rfl,rfl,zD,by lia,fun t H2 s2 ht=>⟨by show 1≤sizeLine;decide,fun u0 hu0=>?_⟩⟩
 have s3:=zC hu0 (.tup [.int 0])
 have u3:=(s1.trans s2).trans s3
 refine⟨_,rfl,r,_,_,_,rfl,rfl,SqT.of (u3 _ _ na.net),rfl,u0,_,N.lanes,rfl,rfl,zD,by lia,fun u H4 s4 hu=>⟨by show 2≤sizeLine;decide,fun b0 hb0=>?_⟩⟩
 have s5:=zC hb0 (.tup [.ref t,.ref u])
 have k5:NKey (L2.upd H4 b0 (.tup [.ref t,.ref u])) (k00 N) b0:=xw zD (by
  rw[← pl]
  exact s5 _ _ (s4 _ _ (s3 _ _ (by rw[ht];exact congrArg (fun z=>some (HO.tup z)) List.map_replicate.symm)))) (s5 _ _ (by rw[hu];exact congrArg (fun z=>some (HO.tup z)) List.map_replicate.symm))
 have u5:=(u3.trans s4).trans s5
 generalize L2.upd H4 b0 (.tup [.ref t,.ref u])=H5 at *
 clear s5 hb0 s4 hu u3 s3 hu0 s2 ht s1 ht0
 refine fun dm hdm=>⟨_,rfl,by show 1≤sizeLine;decide,fun lw hlw=>⟨_,_,rfl,?_⟩⟩
 have s6:=zC hdm (DN P w dm [])
 have s7:=zC hlw (.lst [.ref b0])
 have n67:dm≠lw:=zG (zP hdm (DN P w dm [])) hlw
 have dmH:H dm=none:=(u5:Same H H5).free hdm
 have lwH:H lw=none:=(u5.trans s6).free hlw
 let Iv:Nat→St→Hp→Prop:=fun m σ H2=>∃ xs us ks v6 v7 v8 v9 v10,σ=[some (.ref r),some (.ref sm),some (.int (most:Nat)),some (.ref b0),some (.ref dm),some (.ref lw),v6,v7,v8,v9,v10]∧Same H H2∧H2 dm=some (DN P w dm xs)∧KsIn H2 xs∧H2 lw=some (.lst (us.map V.ref))∧KeysAt H2 us ks∧Bfs N moves (k00 N) 0 (xs.map (·.1)) ks∧xs.length≤most+1∧us.length≤16*xs.length+1∧m=(most+1-xs.length)*17+us.length
 refine⟨Iv,⟨_,[],[b0],[k00 N],none,none,none,none,none,rfl,((u5.trans s6).trans s7),by rw[zH n67];exact zD,fun x hx=>(nomatch hx),zD,.cons (k5.tups (Tups.of (s6.trans s7))) .nil,⟨List.nodup_nil,fun k z=>?_,.inr (.head _),fun k hk=>(nomatch hk)⟩,Nat.zero_le _,Nat.le_refl _,rfl⟩,?_⟩
 ·rcases z with z|z
  ·cases z
  ·rw[List.mem_singleton.mp z]
   exact⟨nn ok,_,_,rfl,fun h hh=>by rw[List.eq_of_mem_replicate hh];exact Int.le_refl _⟩
 clear s6 s7 k5 u5 hlw hdm
 rintro m σ H2 ⟨xs,us,ks,v6,v7,v8,v9,v10,rfl,s2,hd,kx,hl,ku,bf,xm,ul,em⟩
 have ulk:=Paired.length ku
 refine⟨_,rfl,(by show 0≤sizeLine;decide),fun e he=>?_⟩
 have s3:=zC he (.lst [])
 refine⟨lw,e,us.map V.ref,rfl,rfl,SqL.of (s3 _ _ hl),SqL.of zD,_,rfl,?_⟩
 have hd3:=s3 _ _ hd
 have hl3:=s3 _ _ hl
 have kx3:=kx.tups (Tups.of s3)
 have ku3:=ku.tups (Tups.of s3)
 have u3:=s2.trans s3
 generalize L2.upd H2 e (.lst [])=H3 at *
 clear s3 he hd hl kx ku s2
 have out:us=[]→xs.length≤most→ClosedP N moves (k00 N) (most:Nat) most (xs.map (·.1)):=fun z l=>by
  subst z
  have:ks=[]:=List.length_eq_zero_iff.mp ulk.symm
  subst this
  exact bf.done (by rw[List.length_map];exact l) (by lia)
 have bs2:(xs.map fun p=>V.ref p.2.1)=(xs.map fun p=>p.2.1).map V.ref:=by rw[List.map_map];rfl
 have ka:=iZ kx3
 by_cases un:us=[]
 ·rw[show (!(us.map V.ref).isEmpty)=false by rw[un];rfl]
  refine zv (zv ⟨_,rfl,dm,xs,rfl,.inl hd3,_,rfl,_,_,rfl,rfl,_,rfl,vU (fun z=>⟨_,rfl,dm,xs,rfl,hd3,fun p hp=>?_⟩) (fun z=>q1 _ u3)⟩)
  have s8:=zC hp (.lst (xs.map fun p=>.ref p.2.1))
  exact q2 p _ _ _ (u3.trans s8) (u3.free hp) (by rw[← bs2];exact zD) (ka.tups (Tups.of s8)) (out un (by have:=of_decide_eq_true z;lia))
 rw[show (!(us.map V.ref).isEmpty)=true by cases us with
  | nil=>exact absurd rfl un
  | cons a b=>rfl]
 refine yP ⟨_,rfl,dm,xs,rfl,.inl hd3,_,rfl,_,_,rfl,rfl,_,rfl,?_⟩
 by_cases xl:xs.length≤most
 rotate_left
 ·rw[decide_eq_false (fun z=>xl (by lia))]
  refine zv ⟨_,rfl,dm,xs,rfl,.inl hd3,_,rfl,_,_,rfl,rfl,_,rfl,?_⟩
  rw[decide_eq_false (fun z=>xl (by lia))]
  exact zv (q1 _ u3)
 rw[decide_eq_true (show ((xs.length:Nat):Int)≤(most:Nat) by lia)]
 refine yP ⟨fun σ' H'=>∃ m',m'<m∧Iv m' σ' H',fun σ' H' hN=>hN,?_⟩
 obtain⟨u0,eu⟩:=oh un
 generalize us.dropLast=vs at eu
 subst eu
 rw[List.length_append]at ul em ulk
 change vs.length+1≤_ at ul
 change m=_+(vs.length+1) at em
 obtain⟨k,ks,rfl,kv,ku0⟩:=vC ku3
 obtain⟨ko,_⟩:=bf.ok k (.inr (List.mem_append_right _ (.head _)))
 obtain⟨ts,hs,rfl,tl,bits,hsl,h0,hz⟩:=ko
 obtain⟨t',u',e1,e2,e3⟩:=vM ku0
 rw[List.map_append]at hl3
 refine⟨_,rfl,.inl ⟨rfl,_,SqL.of hl3⟩,lw,_,.ref u0,rfl,rfl,hl3,?_,?_⟩
 ·rw[List.length_append];exact List.getElem?_concat_length
 rw[show (vs.map V.ref++[u0].map V.ref).dropLast=vs.map V.ref from List.dropLast_concat]
 have tq:∀ o,Tups H3 (L2.upd H3 lw (.lst o)):=fun o b ys e=>by rw[zH (yr e hl3 fun z=>by cases z)];exact e
 have n67':dm≠lw:=n67
 have hd4:L2.upd H3 lw (.lst (vs.map V.ref)) dm=some (DN P w dm xs):=by rw[zH n67];exact hd3
 have hl4:L2.upd H3 lw (.lst (vs.map V.ref)) lw=some (.lst (vs.map V.ref)):=zD
 have u4:Same H (L2.upd H3 lw (.lst (vs.map V.ref))):=fun b o e=>by rw[zH (zG e lwH)];exact u3 b o e
 have kx4:=kx3.tups (tq (vs.map V.ref))
 have kv4:=kv.tups (tq (vs.map V.ref))
 have f1:=tq (vs.map V.ref) _ _ e1
 have f2:=tq (vs.map V.ref) _ _ e2
 have f3:=tq (vs.map V.ref) _ _ e3
 generalize L2.upd H3 lw (.lst (vs.map V.ref))=H4 at *
 clear tq hl3 hd3 kx3 kv ku3 u3 e1 e2 e3 ka bs2 out
 refine⟨u0,_,rfl,SqT.of f1,rfl,_,_,rfl,_,_,rfl,rfl,?_⟩
 refine⟨_,rfl,_,rfl,(by show 2≤sizeLine;decide),fun q hq=>?_⟩
 have s5:=zC hq (.tup [.ref t',.ref u'])
 have kq:=xw (H:=L2.upd H4 q (.tup [.ref t',.ref u'])) zD (s5 _ _ f2) (s5 _ _ f3)
 refine⟨_,rfl,dm,q,xs,_,rfl,rfl,⟨.inl (s5 _ _ hd4),kx4.tups (Tups.of s5)⟩,kq,_,rfl,?_⟩
 have hd5:=s5 _ _ hd4
 have hl5:=s5 _ _ hl4
 have kx5:=kx4.tups (Tups.of s5)
 have kv5:=kv4.tups (Tups.of s5)
 have u5:=u4.trans s5
 have g2:=s5 _ _ f2
 have g3:=s5 _ _ f3
 generalize L2.upd H4 q (.tup [.ref t',.ref u'])=H5 at *
 clear s5 hq hd4 hl4 kx4 kv4 u4 f1 f2 f3
 by_cases cm:plK ts hs∈xs.map (·.1)
 ·rw[show (yw xs (plK ts hs)).isSome=true from yp.mpr cm]
  exact zv ⟨_,by rw[em];exact Nat.lt_succ_self _,xs,vs,ks,_,_,_,_,_,rfl,u5,hd5,kx5,hl5,kv5,bf.old cm,xm,by lia,rfl⟩
 rw[show (yw xs (plK ts hs)).isSome=false by
  cases z:(yw xs (plK ts hs)).isSome with
  | false=>rfl
  | true=>exact absurd (yp.mp z) cm]
 refine yP ⟨_,rfl,_,rfl,_,rfl,(by show 2≤sizeLine;decide),fun q2 hq2=>?_⟩
 have s6:=zC hq2 (.tup [.ref t',.ref u'])
 have kq2:=xw (H:=L2.upd H5 q2 (.tup [.ref t',.ref u'])) zD (s6 _ _ g2) (s6 _ _ g3)
 refine⟨dm,q2,xs,_,rfl,rfl,s6 _ _ hd5,kx5.tups (Tups.of s6),kq2,by rw[sizeLine_eq];lia,?_⟩
 rw[pi cm]
 have hd6:=s6 _ _ hd5
 have hl6:=s6 _ _ hl5
 have u6:=u5.trans s6
 have kx6:=kx5.tups (Tups.of s6)
 have kv6:=kv5.tups (Tups.of s6)
 have g2':=s6 _ _ g2
 have g3':=s6 _ _ g3
 generalize L2.upd H5 q2 (.tup [.ref t',.ref u'])=H6 at *
 clear s6 hq2 hd5 hl5 u5 kx5 kv5 g2 g3
 have tq:Tups H6 (L2.upd H6 dm (DN P w dm (xs++[(plK ts hs,q2,.bl true)]))):=fun b ys e=>by rw[zH (yr e hd6 fun z=>by cases z)];exact e
 have hd7:L2.upd H6 dm (DN P w dm (xs++[(plK ts hs,q2,.bl true)])) dm=some (DN P w dm (xs++[(plK ts hs,q2,.bl true)])):=zD
 have hl7:L2.upd H6 dm (DN P w dm (xs++[(plK ts hs,q2,.bl true)])) lw=some (.lst (vs.map V.ref)):=by rw[zH n67.symm];exact hl6
 have u7:Same H (L2.upd H6 dm (DN P w dm (xs++[(plK ts hs,q2,.bl true)]))):=fun b o e=>by rw[zH (zG e dmH)];exact u6 b o e
 have kx7:KsIn (L2.upd H6 dm (DN P w dm (xs++[(plK ts hs,q2,.bl true)]))) (xs++[(plK ts hs,q2,.bl true)]):=fun x hx=>by
  rcases List.mem_append.mp hx with z|z
  ·exact(kx6 x z).tups tq
  ·rw[List.mem_singleton.mp z];exact kq2.tups tq
 have kv7:=kv6.tups tq
 have g27:=tq _ _ g2'
 have g37:=tq _ _ g3'
 dsimp only
 show ip _ _ _ _ _ (L2.upd H6 dm (DN P w dm (xs++[(plK ts hs,q2,.bl true)])))
 generalize L2.upd H6 dm (DN P w dm (xs++[(plK ts hs,q2,.bl true)]))=H7 at *
 clear tq hd6 hl6 u6 kx6 kv6 kq2 g2' g3'
 have bn:=bf.new ok cm
 have ne:hs≠[]:=fun z=>by rw[z]at hz;cases hz
 refine⟨_,rfl,sm,rfl,⟨_,SqT.of (u7 _ _ hsm)⟩,?_⟩
 refine wo (K:=K) (a:=sm) (xs:=zT moves) (fun j σ H8=>∃ v8 v9 v10 nb,σ=[some (.ref r),some (.ref sm),some (.int (most:Nat)),some (.ref b0),some (.ref dm),some (.ref lw),some (.ref t'),some (.ref u'),v8,v9,v10]∧Same H H8∧Tups H7 H8∧H8 dm=some (DN P w dm (xs++[(plK ts hs,q2,.bl true)]))∧H8 lw=some (.lst ((vs++nb).map V.ref))∧KeysAt H8 nb ((moves.take j).map (stT N ts hs))) ⟨_,_,_,[],rfl,u7,Tups.of (Same.refl _),hd7,by rw[List.append_nil];exact hl7,.nil⟩ (fun j σ H8 _ z=>by
  obtain⟨_,_,_,_,_,z,_⟩:=z
  exact SqT.of (z _ _ hsm)) ?_ ?_
 ·rintro j x σ H8 hx ⟨v8,v9,v10,nb,rfl,u8,t8,hd8,hl8,kn⟩
  unfold zT at hx
  rw[List.getElem?_map]at hx
  obtain⟨m',em',rfl⟩:=Option.map_eq_some_iff.mp hx
  have jl:j<moves.length:=(List.getElem?_eq_some_iff.mp em').1
  have lt':=mlt m' (List.mem_of_getElem? em')
  have na8:=na.tups (Tups.of u8)
  have kl:=Paired.length kn
  rw[List.length_map,List.length_take]at kl
  refine⟨_,rfl,_,rfl,_,rfl,r,fr,er,ps,N,t',ts,m',rfl,ok,na8,t8 _ _ g27,tl,bits,lt',fun p tr' H9 s9 hp htr=>?_⟩
  refine⟨p,_,rfl,SqT.of hp,rfl,_,_,rfl,_,_,rfl,rfl,?_⟩
  have pl:=uv (ts:=ts) ok lt'
  have hl9:=s9 _ _ hl8
  refine⟨_,rfl,.inl ⟨rfl,_,SqL.of hl9⟩,_,rfl,_,rfl,_,rfl,u',hs,passE N ts m',rfl,s9 _ _ (t8 _ _ g37),by lia,by lia,fun a Ha sa ha=>?_⟩
  refine⟨a,yd hs (passE N ts m') 1,rfl,ha,fun z=>ne (by
   have:=congrArg List.length z
   rw[yW,List.length_nil]at this
   exact List.length_eq_zero_iff.mp this),by rw[yW];lia,fun b Hb sb hb=>⟨(by show 2≤sizeLine;decide),fun q hq=>?_⟩⟩
  have sq:=zC hq (.tup [.ref tr',.ref b])
  have uq:=((s9.trans sa).trans sb).trans sq
  have kk:NKey (L2.upd Hb q (.tup [.ref tr',.ref b])) (stT N ts hs m') q:=xw zD (sq _ _ (sb _ _ (sa _ _ htr))) (sq _ _ hb)
  have hlq:=uq _ _ hl8
  have hdq:=uq _ _ hd8
  have u9:=u8.trans uq
  have t9:=t8.trans (Tups.of uq)
  have kn9:=kn.tups (Tups.of uq)
  generalize L2.upd Hb q (.tup [.ref tr',.ref b])=H10 at *
  refine⟨lw,_,_,rfl,rfl,hlq,by rw[List.length_map,List.length_append,sizeLine_eq];lia,?_⟩
  have ty:∀ o,Tups H10 (L2.upd H10 lw (.lst o)):=fun o b ys e=>by rw[zH (yr e hlq fun z=>by cases z)];exact e
  refine⟨_,_,_,nb++[q],rfl,fun b o e=>by rw[zH (zG e lwH)];exact u9 b o e,t9.trans (ty _),by rw[zH n67];exact hdq,by rw[← List.append_assoc,List.map_append (l₁:=vs++nb)];exact zD,?_⟩
  rw[← List.take_append_getElem jl,(List.getElem?_eq_some_iff.mp em').2,show (moves.take j++[m']).map (stT N ts hs)=(moves.take j).map (stT N ts hs)++[stT N ts hs m'] from List.map_append]
  exact Paired.snoc (kn9.tups (ty _)) (kk.tups (ty _))
 ·rintro σ H8 ⟨v8,v9,v10,nb,rfl,u8,t8,hd8,hl8,kn⟩
  rw[zc,List.take_length]at kn
  have kl:=Paired.length kn
  rw[List.length_map]at kl
  have lx:(xs++[(plK ts hs,q2,V.bl true)]).length=xs.length+1:=List.length_append
  refine⟨(most+1-(xs.length+1))*17+(vs++nb).length,?_,_,vs++nb,_,_,_,_,_,_,rfl,u8,hd8,kx7.tups t8,hl8,r0 (kv7.tups t8) kn,?_,?_,?_,?_⟩
  ·rw[em,List.length_append];lia
  ·rw[List.map_append];exact bn
  ·rw[lx];lia
  ·rw[lx,List.length_append];lia
  ·rw[lx]
end
abbrev lU:Stmt:=top 43
def qV:Sp:=fun vs H Q _=>∃ l r fr er ps N sm pa,∃ moves:List Nat,∃ bs js,vs=[.ref l,.ref r,.ref sm,.ref pa]∧Pk3 H l∧Nt.Ok N∧NetAt H r fr er ps N∧H sm=some (.tup (zT moves))∧(∀ m∈moves,m<N.lanes)∧moves.length≤16∧H pa=some (.lst (bs.map V.ref))∧KeysAt H bs js∧ClosedP N moves (k00 N) 600 600 js ∧
 ∀ p bs' ks H',H' p=some (.lst (bs'.map V.ref))→KeysAt H' bs' ks→ClosedP N moves (k00 N) 2100 1500 ks→Pk3 H' l→But l H H'→Q (.ref p) H'
def xr:List Addr→List KN→KVN
 | b::bs,k::ks=>(k,b,.bl true)::xr bs ks
 | _,_=>[]
theorem Room.un4 {k:Nat}{A:Around}(r:Room k A):A.units+4<cLine:=by have:=r.un;lia
theorem iK {H:Hp}{bs:List Addr}{ks:List KN}(h:KeysAt H bs ks):(xr bs ks).map (·.1)=ks∧KsIn H (xr bs ks)∧(xr bs ks).length=bs.length∧∀ (i:Nat) b,bs[i]?=some b→∃ k,(xr bs ks)[i]?=some (k,b,.bl true):=by
 unfold KeysAt at h
 induction h with
 | nil=>exact⟨rfl,fun x hx=>(nomatch hx),rfl,fun i b e=>by cases e⟩
 | @cons b k bs ks a _ ih =>
  obtain⟨h1,h2,h3,h4⟩:=ih
  refine⟨congrArg (k::·) h1,fun x hx=>?_,congrArg (· + 1) h3,fun i c e=>?_⟩
  ·rcases List.mem_cons.mp hx with rfl|z
   ·exact a
   ·exact h2 x z
  ·cases i with
   | zero=>cases e;exact⟨k,rfl⟩
   | succ i=>exact h4 i c e
section
variable {P:Program}{w:World}{K:PySem.W.Frag}{mg:Str→Option Value}{base:Heap}
theorem rD:FnScope ["_law_left_here","_law_net_here","_law_some_here","_law_places","_law_heights","_law_waits","_law_met","_law_turns","_law_lane","_law_later","_law_end"] ["_law_left_here","_law_net_here","_law_some_here","_law_places"] (zM lU):=⟨rfl,rfl,rfl,by decide +kernel,rfl,by decide +kernel,by decide +kernel⟩
theorem jp {f fK fP fM fL:Addr}{fd dK dP dM dL:FuncData}(F:Fun K "_law_with" "_law_with" lU f fd) (G:Mgs mg) (GD:MgD mg) (UK:Use P w K mg base "_law_pick" ["_law_left_here","_law_many"] 1 yo fK dK) (UP:Use P w K mg base "_law_passed" ["_law_net_here","_law_turns","_law_lane"] 1 (wO false) fP dP) (UM:Use P w K mg base "_law_more" ["_law_counts","_law_lane"] 1 pj fM dM) (UL:Use P w K mg base "_law_lowered" ["_law_heights"] 1 (wP false) fL dL) (ULL:Use P w K mg base "_law_lowered" ["_law_heights"] 1 (wP true) fL dL):FnOk P w K mg base CX0 2 f fd ["_law_left_here","_law_net_here","_law_some_here","_law_places"] qV:=by
 refine F.ok rD (fun vs H Q E h=>?_) (fun cdv A outer s H vs Q E hr h=>?_)
 ·obtain⟨l,r,fr,er,ps,N,sm,pa,moves,bs,js,rfl,_⟩:=h
  rfl
 obtain⟨l,r,fr,er,ps,N,sm,pa,moves,bs,js,rfl,S,ok,na,hsm,mlt,ml,hpa,kat,cl,q2⟩:=h
 refine⟨_,(@zF _ _ _ _ _ (@zi _ _ 4 _ _ _ _ rD.nd rfl (.inl rfl) (@zJ _ _ _ _ _ _ _ _ _ _ _ _ _ _ _ _ ULL.ok hr (by rfl) ULL.m ULL.kp ULL.b .nil zS (@zA _ _ _ _ _ (@xN _ _ _ _ none _ _ _ _ _ _ ["_law_lane","_law_left_here"] [none,some 0] rfl (@yb _ _ _ _ _ _ rfl G.range (@zA _ _ _ _ _ (@zY _ _ _ _ _ _ _ yB (@pv _ 1 _ _ (by rfl) (by first|exact Or.inl rfl|exact Or.inr (.inl rfl)|exact Or.inr (.inr rfl)) (by decide) (by decide)) zE (fun _ _=>rfl)) zB (by rfl)) (by rfl)) (CapOk.of (by kernel_rfl)) (fun _ _ _ _ _=>(@zL _ _ 0 _ (show (["_law_lane","_law_left_here"]:List Str).Nodup from by decide +kernel) rfl (.inl rfl) (.inr rfl))) (fun _ _ _ _ _=>yN) (fun _ _ _ _ _=>(@zJ _ _ _ _ _ _ _ _ _ _ _ _ _ _ _ _ UK.ok hr (by rfl) UK.m UK.kp UK.b .nil zS (@zA _ _ _ _ _ (@pv _ 1 _ _ (by rfl) (by first|exact Or.inl rfl|exact Or.inr (.inl rfl)|exact Or.inr (.inr rfl)) (by decide) (by decide)) (@zA _ _ _ _ _ zE zB (by rfl)) (by rfl)) (by decide) (by rfl) (by rfl))) (by intro _;rfl)) zB (by rfl)) (by decide) (by rfl) (by rfl)) (by rfl) (by first|exact .inl rfl|exact .inr rfl|assumption)) (@zF _ _ _ _ _ (@uE _ _ 5 6 _ _ _ _ _ _ _ _ _ _ _ rfl rD.nd rfl rfl (by decide) rfl rfl (@zA _ _ _ _ _ (@zq _ _ _ _ (@zA _ _ _ _ _ (@zX _ _ _ _ _ (@zA _ _ _ _ _ (@zV _ _ _ _ _ _ _ _ _ zZ (by rfl) G.tuple (by rfl) (@zA _ _ _ _ _ (@xN _ _ _ _ none _ _ _ _ _ _ ["_law_fork","_law_left_here"] [none,some 0] rfl (@yX _ _ _ _ (@zY _ _ _ _ _ _ _ yB (@pv _ 1 _ _ (by rfl) (by first|exact Or.inl rfl|exact Or.inr (.inl rfl)|exact Or.inr (.inr rfl)) (by decide) (by decide)) zE (fun _ _=>rfl))) (CapOk.of (by kernel_rfl)) (fun _ _ _ _ _=>(@zL _ _ 0 _ (show (["_law_fork","_law_left_here"]:List Str).Nodup from by decide +kernel) rfl (.inl rfl) (.inr rfl))) (fun _ _ _ _ _=>yN) (fun _ _ _ _ _=>(@zJ _ _ _ _ _ _ _ _ _ _ _ _ _ _ _ _ UK.ok hr (by rfl) UK.m UK.kp UK.b .nil zS (@zA _ _ _ _ _ (@pv _ 1 _ _ (by rfl) (by first|exact Or.inl rfl|exact Or.inr (.inl rfl)|exact Or.inr (.inr rfl)) (by decide) (by decide)) (@zA _ _ _ _ _ zE zB (by rfl)) (by rfl)) (by decide) (by rfl) (by rfl))) (by intro _;rfl)) zB (by rfl)) (by decide) (by decide) (by rfl) (by rfl)) (@zA _ _ _ _ _ (@pv _ 4 _ _ (by rfl) (by first|exact Or.inl rfl|exact Or.inr (.inl rfl)|exact Or.inr (.inr rfl)) (by decide) (by decide)) zB (by rfl)) (by rfl))) zB (by rfl))) (@zA _ _ _ _ _ (@zV _ _ _ _ _ _ _ _ _ (pc rfl (Room.un4 hr)) (by rfl) GD.dict (by rfl) (@zA _ _ _ _ _ (@xN _ _ _ _ none _ _ _ _ _ _ ["_law_place"] [none] rfl (@vY _ _ _ _ (@pv _ 3 _ _ (by rfl) (by first|exact Or.inl rfl|exact Or.inr (.inl rfl)|exact Or.inr (.inr rfl)) (by decide) (by decide))) (CapOk.of (by kernel_rfl)) (fun _ _ _ _ _=>(@zL _ _ 0 _ (show (["_law_place"]:List Str).Nodup from by decide +kernel) rfl (.inl rfl) (.inr rfl))) (fun _ _ _ _ _=>yN) (fun _ _ _ _ _=>(@zX _ _ _ _ _ (@zA _ _ _ _ _ (@pv _ 0 _ _ (by rfl) (by first|exact Or.inl rfl|exact Or.inr (.inl rfl)|exact Or.inr (.inr rfl)) (by decide) (by decide)) (@zA _ _ _ _ _ yq zB (by rfl)) (by rfl)))) (by intro _;rfl)) zB (by rfl)) (by decide) (by decide) (by rfl) (by rfl)) zB (by rfl)) (by rfl)) (by rfl) (by rfl)) (@zF _ _ _ _ _ (@uC _ _ _ _ _ _ PassesOwn.never (@lq _ _ _ _ _ _ _ (@zj _ _ _ _ _ _ _ _ (sN hr.units0) (@pv _ 5 _ _ (by rfl) (by first|exact Or.inl rfl|exact Or.inr (.inl rfl)|exact Or.inr (.inr rfl)) (by decide) (by decide)) (@zq _ _ _ _ zB) (zp _)) (@oG _ _ _ _ (@zj _ _ _ _ _ _ _ _ oN (@zQ _ _ _ _ _ _ _ _ _ wD (by rfl) G.len PySem.boot_len (@zA _ _ _ _ _ (@pv _ 6 _ _ (by rfl) (by first|exact Or.inl rfl|exact Or.inr (.inl rfl)|exact Or.inr (.inr rfl)) (by decide) (by decide)) zB (by rfl)) (by decide) (by decide) (by rfl) (by rfl)) zE (zp _)))).pt (@zF _ _ _ _ _ (@yG _ _ _ _ _ _ (@kG _ _ _ _ _ _ _ _ _ PySem.F.plainAttrs_list PySem.F.slot_list_pop PySem.F.type_list_pop kg (@pv _ 5 _ _ (by rfl) (by first|exact Or.inl rfl|exact Or.inr (.inl rfl)|exact Or.inr (.inr rfl)) (by decide) (by decide)) (by rfl) (by rfl)) (@yE _ _ _ _ _ _ rfl (@zN _ _ _ _ _ (@zL _ _ 7 _ rD.nd rfl (.inl rfl) (by first|exact .inl rfl|exact .inr rfl|assumption)) (@zN _ _ _ _ _ (@zL _ _ 4 _ rD.nd rfl (.inl rfl) (by first|exact .inl rfl|exact .inr rfl|assumption)) zt (by rfl)) (by rfl)) (by rfl) (by rfl)) (by rfl) (by rfl) (by rfl)) (@zK _ _ _ (@yM _ _ _ _ _ _ _ _ (@pD _ _ _ _ _ _ (vB hr.u3 (@zX _ _ _ _ _ (@zA _ _ _ _ _ (@pv _ 7 _ _ (by rfl) (by first|exact Or.inl rfl|exact Or.inr (.inl rfl)|exact Or.inr (.inr rfl)) (by decide) (by decide)) (@zA _ _ _ _ _ (@pv _ 4 _ _ (by rfl) (by first|exact Or.inl rfl|exact Or.inr (.inl rfl)|exact Or.inr (.inr rfl)) (by decide) (by decide)) zB (by rfl)) (by rfl))) (@pv _ 6 _ _ (by rfl) (by first|exact Or.inl rfl|exact Or.inr (.inl rfl)|exact Or.inr (.inr rfl)) (by decide) (by decide))) (by rfl)) (@zF _ _ _ _ _ (oH hr.u3 (@pv _ 6 _ _ (by rfl) (by first|exact Or.inl rfl|exact Or.inr (.inl rfl)|exact Or.inr (.inr rfl)) (by decide) (by decide)) (@zX _ _ _ _ _ (@zA _ _ _ _ _ (@pv _ 7 _ _ (by rfl) (by first|exact Or.inl rfl|exact Or.inr (.inl rfl)|exact Or.inr (.inr rfl)) (by decide) (by decide)) (@zA _ _ _ _ _ (@pv _ 4 _ _ (by rfl) (by first|exact Or.inl rfl|exact Or.inr (.inl rfl)|exact Or.inr (.inr rfl)) (by decide) (by decide)) zB (by rfl)) (by rfl))) yq (by rfl)) (@zK _ _ _ (@yn _ _ _ _ _ _ _ _ PassesOwn.never rfl (@yX _ _ _ _ (@pv _ 2 _ _ (by rfl) (by first|exact Or.inl rfl|exact Or.inr (.inl rfl)|exact Or.inr (.inr rfl)) (by decide) (by decide))) (@zL _ _ 8 _ rD.nd rfl (.inl rfl) (by first|exact .inl rfl|exact .inr rfl|assumption)) (@zF _ _ _ _ _ (@yG _ _ _ _ _ _ (@zJ _ _ _ _ _ _ _ _ _ _ _ _ _ _ _ _ UP.ok hr (by rfl) UP.m UP.kp UP.b .nil zS (@zA _ _ _ _ _ (@pv _ 1 _ _ (by rfl) (by first|exact Or.inl rfl|exact Or.inr (.inl rfl)|exact Or.inr (.inr rfl)) (by decide) (by decide)) (@zA _ _ _ _ _ (@pv _ 7 _ _ (by rfl) (by first|exact Or.inl rfl|exact Or.inr (.inl rfl)|exact Or.inr (.inr rfl)) (by decide) (by decide)) (@zA _ _ _ _ _ (@pv _ 8 _ _ (by rfl) (by first|exact Or.inl rfl|exact Or.inr (.inl rfl)|exact Or.inr (.inr rfl)) (by decide) (by decide)) zB (by rfl)) (by rfl)) (by rfl)) (by decide) (by rfl) (by rfl)) (@yE _ _ _ _ _ _ rfl (@zN _ _ _ _ _ (@zL _ _ 9 _ rD.nd rfl (.inl rfl) (by first|exact .inl rfl|exact .inr rfl|assumption)) (@zN _ _ _ _ _ (@zL _ _ 10 _ rD.nd rfl (.inl rfl) (by first|exact .inl rfl|exact .inr rfl|assumption)) zt (by rfl)) (by rfl)) (by rfl) (by rfl)) (by rfl) (by rfl) (by rfl)) (@zK _ _ _ (@xH _ _ _ _ (@wn _ _ _ _ _ _ _ _ _ _ _ _ PySem.F.plainAttrs_list PySem.F.slot_list_append PySem.F.type_list_append yc (@pv _ 5 _ _ (by rfl) (by first|exact Or.inl rfl|exact Or.inr (.inl rfl)|exact Or.inr (.inr rfl)) (by decide) (by decide)) (@zA _ _ _ _ _ (@zX _ _ _ _ _ (@zA _ _ _ _ _ (@pv _ 9 _ _ (by rfl) (by first|exact Or.inl rfl|exact Or.inr (.inl rfl)|exact Or.inr (.inr rfl)) (by decide) (by decide)) (@zA _ _ _ _ _ (@zJ _ _ _ _ _ _ _ _ _ _ _ _ _ _ _ _ UL.ok hr (by rfl) UL.m UL.kp UL.b .nil zS (@zA _ _ _ _ _ (@zJ _ _ _ _ _ _ _ _ _ _ _ _ _ _ _ _ UM.ok hr (by rfl) UM.m UM.kp UM.b .nil zS (@zA _ _ _ _ _ (@pv _ 4 _ _ (by rfl) (by first|exact Or.inl rfl|exact Or.inr (.inl rfl)|exact Or.inr (.inr rfl)) (by decide) (by decide)) (@zA _ _ _ _ _ (@pv _ 10 _ _ (by rfl) (by first|exact Or.inl rfl|exact Or.inr (.inl rfl)|exact Or.inr (.inr rfl)) (by decide) (by decide)) zB (by rfl)) (by rfl)) (by decide) (by rfl) (by rfl)) zB (by rfl)) (by decide) (by rfl) (by rfl)) zB (by rfl)) (by rfl))) zB (by rfl)) (by rfl) (by rfl) (by rfl) (by rfl) (by rfl)) (by rfl)))) (by intro _;rfl)))) zk)))) (@zK _ _ _ (@zU _ _ _ _ (@wk _ _ _ _ _ _ _ _ (@zj _ _ _ _ _ _ _ _ (jj hr.units0) (@pv _ 5 _ _ (by rfl) (by first|exact Or.inl rfl|exact Or.inr (.inl rfl)|exact Or.inr (.inr rfl)) (by decide) (by decide)) (@zq _ _ _ _ zB) (zp _)) (@zV _ _ _ _ _ _ _ _ _ (uZ rfl) (by rfl) G.list (by rfl) (@zA _ _ _ _ _ (@pv _ 6 _ _ (by rfl) (by first|exact Or.inl rfl|exact Or.inr (.inl rfl)|exact Or.inr (.inr rfl)) (by decide) (by decide)) zB (by rfl)) (by decide) (by decide) (by rfl) (by rfl)) (@pv _ 3 _ _ (by rfl) (by first|exact Or.inl rfl|exact Or.inr (.inl rfl)|exact Or.inr (.inr rfl)) (by decide) (by decide)))))))),?_⟩
 have l16:=ok.l16
 have fm:=ok.fm
 have pll:=na.prs.len
 refine⟨_,rfl,r,_,_,_,rfl,rfl,SqT.of na.net,rfl,_,rfl,by lia,by lia,fun l1 hl1=>?_⟩
 have nl1:=S.ne hl1
 refine uL (lo:=0) (n:=((N.lanes:Nat):Int).toNat) (fun i acc σ H3=>(∃ v,σ=[v,some (.ref l)])∧Pk3 H3 l∧But l H H3∧H3 l1=some (.lst acc)∧∃ hs:List Int,acc=hs.map V.int∧hs.length=i∧∀ h∈hs,0≤h∧h≤2) ⟨⟨_,rfl⟩,S.upd nl1,But.of (zC hl1 _),zP hl1 _,[],rfl,rfl,fun h hh=>(nomatch hh)⟩ (fun i acc σ H3 z=>z.2.2.2.1) ?_ ?_
 ·rintro i acc σ H3 il ⟨⟨v,rfl⟩,S3,B3,h3,hs,rfl,hl,hb⟩
  refine⟨_,rfl,l,3,rfl,by decide,by decide,S3,fun d H4 hd S4 B4=>?_⟩
  have h4:=B4 l1 _ h3 nl1.symm
  refine⟨h4,by rw[List.length_map,sizeLine_eq];lia,nx il ⟨⟨_,rfl⟩,S4.upd nl1,(B3.trans B4).upd (fun b o e _=>zG e hl1),zD,hs++[((d:Nat):Int)],by rw[List.map_append];rfl,by rw[List.length_append,hl];rfl,fun h hh=>?_⟩⟩
  rcases List.mem_append.mp hh with z|z
  ·exact hb h z
  ·rw[List.mem_singleton.mp z];lia
 rintro acc σ H3 ⟨⟨v,rfl⟩,S3,B3,h3,hs,rfl,hsl,hb⟩
 have hsl':hs.length=N.lanes:=by rw[hsl];exact Int.toNat_natCast _
 have hsne:hs≠[]:=fun z=>by rw[z]at hsl';have:=ok.l1;change 0=_ at hsl';lia
 refine⟨l1,hs,rfl,h3,hsne,by lia,fun u H4 s4 hu=>?_⟩
 have S4:=S3.keep s4
 have B4:=B3.trans (But.of (l:=l) s4)
 clear S3 B3 h3 hsl hl1 nl1
 have na4:=na.tups (B4.tups3 S)
 refine⟨_,rfl,r,_,_,_,rfl,rfl,SqT.of na4.net,rfl,fr,rfl,⟨_,SqT.of na4.forks⟩,fun l2 hl2=>?_⟩
 have nl2:=S4.ne hl2
 refine xk (K:=K) (a:=fr) (xs:=ps) (fun i acc σ H5=>(∃ v,σ=[v,some (.ref l)])∧Pk3 H5 l∧But l H4 H5∧H5 l2=some (.lst acc)∧∃ ts:List Int,acc=ts.map V.int∧ts.length=i∧Bits ts) ⟨⟨_,rfl⟩,S4.upd nl2,But.of (zC hl2 _),zP hl2 _,[],rfl,rfl,fun h hh=>(nomatch hh)⟩ (fun i acc σ H5 z=>⟨z.2.2.2.1,SqT.of ((na4.tups (z.2.2.1.tups3 S4)).forks)⟩) ?_ ?_
 ·rintro i x acc σ H5 hx ⟨⟨v,rfl⟩,S5,B5,h5,ts,rfl,tl,bits⟩
  have il:=(List.getElem?_eq_some_iff.mp hx).1
  refine⟨_,rfl,l,2,rfl,by decide,by decide,S5,fun d H6 hd S6 B6=>?_⟩
  have h6:=B6 l2 _ h5 nl2.symm
  refine⟨h6,by rw[List.length_map,sizeLine_eq];lia,nx il ⟨⟨_,rfl⟩,S6.upd nl2,(B5.trans B6).upd (fun b o e _=>zG e hl2),zD,ts++[((d:Nat):Int)],by rw[List.map_append];rfl,by rw[List.length_append,tl];rfl,fun h hh=>?_⟩⟩
  rcases List.mem_append.mp hh with z|z
  ·exact bits h z
  ·rw[List.mem_singleton.mp z];lia
 rintro acc σ H5 ⟨⟨v,rfl⟩,S5,B5,h5,ts,rfl,tl,bits⟩
 rw[pll]at tl
 have hu5:=B5.tups3 S4 _ _ hu
 refine⟨l2,_,rfl,.inl ⟨SqL.of h5,fun t ht=>?_⟩⟩
 have s6:=zC ht (.tup (ts.map V.int))
 refine⟨_,rfl,(by show 2≤sizeLine;decide),fun b0 hb0=>⟨(by show 1≤sizeLine;decide),fun lw hlw=>?_⟩⟩
 have s7:=zC hb0 (.tup [.ref t,.ref u])
 have s8:=zC hlw (.lst [.ref b0])
 have u8:=(s6.trans s7).trans s8
 have n8:L2.upd (L2.upd (L2.upd H5 t (.tup (ts.map V.int))) b0 (.tup [.ref t,.ref u])) lw (.lst [.ref b0]) lw=some (.lst [.ref b0]):=zD
 have k8:NKey (L2.upd (L2.upd (L2.upd H5 t (.tup (ts.map V.int))) b0 (.tup [.ref t,.ref u])) lw (.lst [.ref b0])) (plK ts (vT hs)) b0:=xw (s8 _ _ zD) (s8 _ _ (s7 _ _ zD)) (u8 _ _ hu5)
 have S8:=S5.keep u8
 have B8:=(B4.trans B5).trans (But.of (l:=l) u8)
 have nlw:=(S5.keep (s6.trans s7)).ne hlw
 have lwH:∀ o,H lw=some o→False:=fun o e=>by
  have:=((B4.trans B5).trans (But.of (l:=l) (s6.trans s7))) lw o e nlw.symm
  exact absurd (hlw.symm.trans this) (by simp)
 generalize L2.upd (L2.upd (L2.upd H5 t (.tup (ts.map V.int))) b0 (.tup [.ref t,.ref u])) lw (.lst [.ref b0])=H8 at *
 clear s6 s7 s8 u8 hlw hb0 ht S5 B5 h5 hu5 hl2 nl2 S4 B4 na4 hu s4
 have pal:pa≠l:=fun e=>by
  subst e
  obtain⟨a,b,c,q,_⟩:=S.ex
  rw[hpa]at q
  have q':bs.map V.ref=[.int a,.int b,.int c]:=by injection q with q;injection q
  cases bs with
  | nil=>cases q'
  | cons x y=>cases q'
 have hpaB:=B8 _ _ hpa pal
 have na8:=na.tups (B8.tups3 S)
 have hsmB:=B8.tups3 S _ _ hsm
 have ka8:=kat.tups (B8.tups3 S)
 refine⟨_,rfl,pa,rfl,⟨_,SqL.of hpaB⟩,fun l3 hl3=>?_⟩
 obtain⟨en1,en2,en3,en4⟩:=iK ka8
 refine vc (K:=K) (a:=pa) (xs:=bs.map V.ref) (fun i acc σ H9=>(∃ v,σ=[v])∧Same H8 H9∧H9 l3=some (.lst acc)∧acc.length=i∧Paired (PrH H9) acc ((xr bs js).take i)) ⟨⟨_,rfl⟩,zC hl3 _,zP hl3 _,rfl,.nil⟩ (fun i acc σ H9 z=>⟨z.2.2.1,SqL.of (z.2.1 _ _ hpaB)⟩) ?_ ?_
 ·rintro i x acc σ H9 hx ⟨⟨v,rfl⟩,s9,h9,al,pr⟩
  rw[List.getElem?_map]at hx
  obtain⟨b,eb,rfl⟩:=Option.map_eq_some_iff.mp hx
  have il:=(List.getElem?_eq_some_iff.mp eb).1
  obtain⟨k,ek⟩:=en4 i b eb
  refine⟨_,rfl,(by show 2≤sizeLine;decide),fun q hq=>?_⟩
  have sq:=zC hq (.tup [.ref b,.bl true])
  have hq9:=sq _ _ h9
  have cf:=cl.few
  have kl:=Paired.length ka8
  have tq:Tups (L2.upd H9 q (.tup [.ref b,.bl true])) (L2.upd (L2.upd H9 q (.tup [.ref b,.bl true])) l3 (.lst (acc++[.ref q]))):=Tups.lst hq9
  have up:∀ {x:V}{p:KN × Addr × V},PrH H9 x p→PrH (L2.upd (L2.upd H9 q (.tup [.ref b,.bl true])) l3 (.lst (acc++[.ref q]))) x p:=fun ⟨a,e,e1,e2⟩=>⟨a,e,tq _ _ (sq _ _ e1),(e2.tups (Tups.of sq)).tups tq⟩
  refine⟨hq9,by rw[sizeLine_eq];lia,nx (by rw[List.length_map];exact il) ⟨⟨_,rfl⟩,fun c o e=>?_,zD,by rw[List.length_append,al];rfl,?_⟩⟩
  ·rw[zH (zG e hl3)];exact sq _ _ (s9 c o e)
  ·have il2:=(List.getElem?_eq_some_iff.mp ek).1
   rw[← List.take_append_getElem il2,(List.getElem?_eq_some_iff.mp ek).2]
   exact Paired.snoc (vN (fun _ _ z=>up z) pr) ⟨q,rfl,tq _ _ (zP hq _),((en2 _ (List.mem_of_getElem? ek)).tups (Tups.of (s9.trans sq))).tups tq⟩
 rintro acc σ H9 ⟨⟨v,rfl⟩,s9,h9,al,pr⟩
 rw[List.length_map,← en3,List.take_length]at pr
 refine⟨l3,acc,xr bs js,rfl,h9,pr,fun dm hdm=>⟨_,_,rfl,?_⟩⟩
 have cf:=cl.few
 have kl:=Paired.length ka8
 rw[n0 (xs:=[]) (by rw[en1];exact cl.nd) (fun k _ z=>by cases z),List.nil_append]
 have s10:=zC hdm (DN P w dm (xr bs js))
 have u10:=s9.trans s10
 have n67:dm≠lw:=(zG (s9 _ _ n8) hdm).symm
 have hd0:L2.upd H9 dm (DN P w dm (xr bs js)) dm=some (DN P w dm (xr bs js)):=zD
 let HB:Hp:=fun b=>if b=dm∨b=lw then none else L2.upd H9 dm (DN P w dm (xr bs js)) b
 have dmB:HB dm=none:=if_pos (.inl rfl)
 have lwB:HB lw=none:=if_pos (.inr rfl)
 have sB:Same HB (L2.upd H9 dm (DN P w dm (xr bs js))):=fun b o e=>by
  have e':(if b=dm∨b=lw then none else L2.upd H9 dm (DN P w dm (xr bs js)) b)=some o:=e
  by_cases z:b=dm∨b=lw
  ·rw[if_pos z]at e';cases e'
  ·rw[if_neg z]at e';exact e'
 have toB:∀ b o,H8 b=some o→b≠lw→HB b=some o:=fun b o e n=>by
  have nd:b≠dm:=zG (s9 _ _ e) hdm
  show (if b=dm∨b=lw then none else L2.upd H9 dm (DN P w dm (xr bs js)) b)=_
  rw[if_neg (fun z=>z.elim nd n)]
  exact u10 _ _ e
 have tB:Tups H8 HB:=fun b ys e=>toB b _ e (yr e n8 fun z=>by cases z)
 have SB:Pk3 HB l:=by
  obtain⟨a,b,c,q,z⟩:=S8.ex
  exact⟨a,b,c,toB _ _ q nlw,z⟩
 have BB:But l H HB:=fun b o e n=>toB b o (B8 b o e n) (fun z=>lwH o (z ▸ e))
 have naB:=na8.tups tB
 replace hsmB:=tB _ _ hsmB
 replace hpaB:=toB _ _ hpaB (fun z=>lwH _ (z ▸ hpa))
 have kaB:=ka8.tups tB
 have k10:=k8.tups (Tups.of u10)
 have n10:=u10 _ _ n8
 have e10:=en2.tups (Tups.of u10)
 show nH _ _ _ _ (L2.upd H9 dm (DN P w dm (xr bs js)))
 generalize L2.upd H9 dm (DN P w dm (xr bs js))=HX at *
 have lowk:=sO hsne
 have mI:=vb hsne
 let Iv:Nat→St→Hp→Prop:=fun m σ H2=>∃ xs us ks v4 v7 v8 v9 v10,σ=[some (.ref l),some (.ref r),some (.ref sm),some (.ref pa),v4,some (.ref lw),some (.ref dm),v7,v8,v9,v10]∧Same HB H2∧H2 dm=some (DN P w dm xs)∧KsIn H2 xs∧H2 lw=some (.lst (us.map V.ref))∧KeysAt H2 us ks∧Bfs N moves (k00 N) 600 (xs.map (·.1)) ks∧xs.length≤1500∧us.length≤16*xs.length+1∧m=(1500-xs.length)*17+us.length
 refine⟨Iv,⟨_,xr bs js,[b0],[plK ts (vT hs)],_,none,none,none,none,rfl,sB,hd0,e10,n10,.cons k10 .nil,⟨by rw[en1];exact cl.nd,fun k z=>?_,.inl (by rw[en1];exact cl.fst),fun k hk m hm=>?_⟩,by lia,by show 1≤_;lia,rfl⟩,?_⟩
 ·rcases z with z|z
  ·rw[en1]at z
   exact⟨(cl.ok k z).1,(cl.ok k z).2.up (by lia)⟩
  ·rw[List.mem_singleton.mp z]
   refine⟨⟨ts,vT hs,rfl,tl,bits,by rw[rp];exact hsl',lowk.1,lowk.2⟩,ts,vT hs,rfl,fun h hh=>?_⟩
   obtain⟨y,hy,rfl⟩:=List.mem_map.mp (show h∈hs.map fun h=>h-uH hs from hh)
   have:=hb y hy
   have:=hb _ mI.1
   lia
 ·rw[en1]at hk ⊢
  obtain⟨t,e,z⟩:=cl.cls k hk m hm
  exact⟨t,e,.inl z⟩
 clear s10 u10 hdm hd0 toB tB S8 B8 na8 ka8 k8 n8 s9 h9 al pr sB k10 n10 e10 tl bits lowk mI en1 en2 en3 en4 cf kl hb hsne hsl'
 rintro m σ H2 ⟨xs,us,ks,v4,v7,v8,v9,v10,rfl,s2,hd,kx,hl,ku,bf,xm,ul,em⟩
 have ulk:=Paired.length ku
 refine⟨_,rfl,(by show 0≤sizeLine;decide),fun e he=>?_⟩
 have s3:=zC he (.lst [])
 refine⟨lw,e,us.map V.ref,rfl,rfl,SqL.of (s3 _ _ hl),SqL.of zD,_,rfl,?_⟩
 have hd3:=s3 _ _ hd
 have hl3:=s3 _ _ hl
 have kx3:=kx.tups (Tups.of s3)
 have ku3:=ku.tups (Tups.of s3)
 have u3:=s2.trans s3
 generalize L2.upd H2 e (.lst [])=H3 at *
 clear s3 he hd hl kx ku s2
 have bs2:(xs.map fun p=>V.ref p.2.1)=(xs.map fun p=>p.2.1).map V.ref:=by rw[List.map_map];rfl
 have ka:=iZ kx3
 by_cases un:us=[]
 ·rw[show (!(us.map V.ref).isEmpty)=false by rw[un];rfl]
  refine zv (zv ⟨_,rfl,(by show 0≤sizeLine;decide),fun e2 he2=>?_⟩)
  have s8:=zC he2 (.lst [])
  refine⟨lw,e2,us.map V.ref,rfl,rfl,SqL.of (s8 _ _ hl3),SqL.of zD,_,rfl,?_⟩
  rw[show (us.map V.ref).isEmpty=true by rw[un];rfl]
  refine yP ⟨_,rfl,dm,xs,rfl,s8 _ _ hd3,fun p hp=>?_⟩
  have s9:=zC hp (.lst (xs.map fun p=>.ref p.2.1))
  have u9:=(u3.trans s8).trans s9
  subst un
  have ke:ks=[]:=List.length_eq_zero_iff.mp ulk.symm
  subst ke
  exact q2 p _ _ _ (by rw[← bs2];exact zD) (ka.tups (Tups.of (s8.trans s9))) (bf.done (by rw[List.length_map];exact xm) (by decide)) (SB.keep u9) (BB.trans (But.of u9))
 rw[show (!(us.map V.ref).isEmpty)=true by cases us with
  | nil=>exact absurd rfl un
  | cons a b=>rfl]
 refine yP ⟨_,rfl,dm,xs,rfl,.inl hd3,_,_,rfl,rfl,_,rfl,?_⟩
 by_cases xl:xs.length<1500
 rotate_left
 ·rw[decide_eq_false (fun z=>xl (by lia))]
  refine zv ⟨_,rfl,(by show 0≤sizeLine;decide),fun e2 he2=>?_⟩
  have s8:=zC he2 (.lst [])
  refine⟨lw,e2,us.map V.ref,rfl,rfl,SqL.of (s8 _ _ hl3),SqL.of zD,_,rfl,?_⟩
  rw[show (us.map V.ref).isEmpty=false by cases us with
   | nil=>exact absurd rfl un
   | cons a b=>rfl]
  have u9:=u3.trans s8
  exact zv ⟨_,rfl,q2 pa bs js _ (u9 _ _ hpaB) (kaB.tups (Tups.of u9)) (cl.up (by decide) (by decide)) (SB.keep u9) (BB.trans (But.of u9))⟩
 rw[decide_eq_true (show ((xs.length:Nat):Int)<1500 by lia)]
 refine yP ⟨fun σ' H'=>∃ m',m'<m∧Iv m' σ' H',fun σ' H' hN=>hN,?_⟩
 obtain⟨u0,eu⟩:=oh un
 generalize us.dropLast=vs at eu
 subst eu
 rw[List.length_append]at ul em ulk
 change vs.length+1≤_ at ul
 change m=_+(vs.length+1) at em
 obtain⟨k,ks,rfl,kv,ku0⟩:=vC ku3
 obtain⟨ko,_⟩:=bf.ok k (.inr (List.mem_append_right _ (.head _)))
 obtain⟨ts,hs,rfl,tl,bits,hsl,h0,hz⟩:=ko
 obtain⟨t',u',e1,e2,e3⟩:=vM ku0
 rw[List.map_append]at hl3
 refine⟨_,rfl,.inl ⟨rfl,_,SqL.of hl3⟩,lw,_,.ref u0,rfl,rfl,hl3,?_,?_⟩
 ·rw[List.length_append];exact List.getElem?_concat_length
 rw[show (vs.map V.ref++[u0].map V.ref).dropLast=vs.map V.ref from List.dropLast_concat]
 have tq:∀ o,Tups H3 (L2.upd H3 lw (.lst o)):=fun o b ys e=>by rw[zH (yr e hl3 fun z=>by cases z)];exact e
 have n67':dm≠lw:=n67
 have hd4:L2.upd H3 lw (.lst (vs.map V.ref)) dm=some (DN P w dm xs):=by rw[zH n67];exact hd3
 have hl4:L2.upd H3 lw (.lst (vs.map V.ref)) lw=some (.lst (vs.map V.ref)):=zD
 have u4:Same HB (L2.upd H3 lw (.lst (vs.map V.ref))):=fun b o e=>by rw[zH (zG e lwB)];exact u3 b o e
 have kx4:=kx3.tups (tq (vs.map V.ref))
 have kv4:=kv.tups (tq (vs.map V.ref))
 have f1:=tq (vs.map V.ref) _ _ e1
 have f2:=tq (vs.map V.ref) _ _ e2
 have f3:=tq (vs.map V.ref) _ _ e3
 generalize L2.upd H3 lw (.lst (vs.map V.ref))=H4 at *
 clear tq hl3 hd3 kx3 kv ku3 u3 e1 e2 e3 ka bs2
 refine⟨u0,_,rfl,SqT.of f1,rfl,_,_,rfl,_,_,rfl,rfl,?_⟩
 refine⟨_,rfl,_,rfl,(by show 2≤sizeLine;decide),fun q hq=>?_⟩
 have s5:=zC hq (.tup [.ref t',.ref u'])
 have kq:=xw (H:=L2.upd H4 q (.tup [.ref t',.ref u'])) zD (s5 _ _ f2) (s5 _ _ f3)
 refine⟨_,rfl,dm,q,xs,_,rfl,rfl,⟨.inl (s5 _ _ hd4),kx4.tups (Tups.of s5)⟩,kq,_,rfl,?_⟩
 have hd5:=s5 _ _ hd4
 have hl5:=s5 _ _ hl4
 have kx5:=kx4.tups (Tups.of s5)
 have kv5:=kv4.tups (Tups.of s5)
 have u5:=u4.trans s5
 have g2:=s5 _ _ f2
 have g3:=s5 _ _ f3
 generalize L2.upd H4 q (.tup [.ref t',.ref u'])=H5 at *
 clear s5 hq hd4 hl4 kx4 kv4 u4 f1 f2 f3
 by_cases cm:plK ts hs∈xs.map (·.1)
 ·rw[show (yw xs (plK ts hs)).isSome=true from yp.mpr cm]
  exact zv ⟨_,by rw[em];exact Nat.lt_succ_self _,xs,vs,ks,_,_,_,_,_,rfl,u5,hd5,kx5,hl5,kv5,bf.old cm,xm,by lia,rfl⟩
 rw[show (yw xs (plK ts hs)).isSome=false by
  cases z:(yw xs (plK ts hs)).isSome with
  | false=>rfl
  | true=>exact absurd (yp.mp z) cm]
 refine yP ⟨_,rfl,_,rfl,_,rfl,(by show 2≤sizeLine;decide),fun q2 hq2=>?_⟩
 have s6:=zC hq2 (.tup [.ref t',.ref u'])
 have kq2:=xw (H:=L2.upd H5 q2 (.tup [.ref t',.ref u'])) zD (s6 _ _ g2) (s6 _ _ g3)
 refine⟨dm,q2,xs,_,rfl,rfl,s6 _ _ hd5,kx5.tups (Tups.of s6),kq2,by rw[sizeLine_eq];lia,?_⟩
 rw[pi cm]
 have hd6:=s6 _ _ hd5
 have hl6:=s6 _ _ hl5
 have u6:=u5.trans s6
 have kx6:=kx5.tups (Tups.of s6)
 have kv6:=kv5.tups (Tups.of s6)
 have g2':=s6 _ _ g2
 have g3':=s6 _ _ g3
 generalize L2.upd H5 q2 (.tup [.ref t',.ref u'])=H6 at *
 clear s6 hq2 hd5 hl5 u5 kx5 kv5 g2 g3
 have tq:Tups H6 (L2.upd H6 dm (DN P w dm (xs++[(plK ts hs,q2,.bl true)]))):=fun b ys e=>by rw[zH (yr e hd6 fun z=>by cases z)];exact e
 have hd7:L2.upd H6 dm (DN P w dm (xs++[(plK ts hs,q2,.bl true)])) dm=some (DN P w dm (xs++[(plK ts hs,q2,.bl true)])):=zD
 have hl7:L2.upd H6 dm (DN P w dm (xs++[(plK ts hs,q2,.bl true)])) lw=some (.lst (vs.map V.ref)):=by rw[zH n67.symm];exact hl6
 have u7:Same HB (L2.upd H6 dm (DN P w dm (xs++[(plK ts hs,q2,.bl true)]))):=fun b o e=>by rw[zH (zG e dmB)];exact u6 b o e
 have kx7:KsIn (L2.upd H6 dm (DN P w dm (xs++[(plK ts hs,q2,.bl true)]))) (xs++[(plK ts hs,q2,.bl true)]):=fun x hx=>by
  rcases List.mem_append.mp hx with z|z
  ·exact(kx6 x z).tups tq
  ·rw[List.mem_singleton.mp z];exact kq2.tups tq
 have kv7:=kv6.tups tq
 have g27:=tq _ _ g2'
 have g37:=tq _ _ g3'
 dsimp only
 show ip _ _ _ _ _ (L2.upd H6 dm (DN P w dm (xs++[(plK ts hs,q2,.bl true)])))
 generalize L2.upd H6 dm (DN P w dm (xs++[(plK ts hs,q2,.bl true)]))=H7 at *
 clear tq hd6 hl6 u6 kx6 kv6 kq2 g2' g3'
 have bn:=bf.new ok cm
 have ne:hs≠[]:=fun z=>by rw[z]at hz;cases hz
 refine⟨_,rfl,sm,rfl,⟨_,SqT.of (u7 _ _ hsmB)⟩,?_⟩
 refine wo (K:=K) (a:=sm) (xs:=zT moves) (fun j σ H8=>∃ v8 v9 v10 nb,σ=[some (.ref l),some (.ref r),some (.ref sm),some (.ref pa),some (.ref u'),some (.ref lw),some (.ref dm),some (.ref t'),v8,v9,v10]∧Same HB H8∧Tups H7 H8∧H8 dm=some (DN P w dm (xs++[(plK ts hs,q2,.bl true)]))∧H8 lw=some (.lst ((vs++nb).map V.ref))∧KeysAt H8 nb ((moves.take j).map (stT N ts hs))) ⟨_,_,_,[],rfl,u7,Tups.of (Same.refl _),hd7,by rw[List.append_nil];exact hl7,.nil⟩ (fun j σ H8 _ z=>by
  obtain⟨_,_,_,_,_,z,_⟩:=z
  exact SqT.of (z _ _ hsmB)) ?_ ?_
 ·rintro j x σ H8 hx ⟨v8,v9,v10,nb,rfl,u8,t8,hd8,hl8,kn⟩
  unfold zT at hx
  rw[List.getElem?_map]at hx
  obtain⟨m',em',rfl⟩:=Option.map_eq_some_iff.mp hx
  have jl:j<moves.length:=(List.getElem?_eq_some_iff.mp em').1
  have lt':=mlt m' (List.mem_of_getElem? em')
  have na8:=naB.tups (Tups.of u8)
  have kl:=Paired.length kn
  rw[List.length_map,List.length_take]at kl
  refine⟨_,rfl,_,rfl,_,rfl,r,fr,er,ps,N,t',ts,m',rfl,ok,na8,t8 _ _ g27,tl,bits,lt',fun p tr' H9 s9 hp htr=>?_⟩
  refine⟨p,_,rfl,SqT.of hp,rfl,_,_,rfl,_,_,rfl,rfl,?_⟩
  have pl:=uv (ts:=ts) ok lt'
  have hl9:=s9 _ _ hl8
  refine⟨_,rfl,.inl ⟨rfl,_,SqL.of hl9⟩,_,rfl,_,rfl,_,rfl,u',hs,passE N ts m',rfl,s9 _ _ (t8 _ _ g37),by lia,by lia,fun a Ha sa ha=>?_⟩
  refine⟨a,yd hs (passE N ts m') 1,rfl,ha,fun z=>ne (by
   have:=congrArg List.length z
   rw[yW,List.length_nil]at this
   exact List.length_eq_zero_iff.mp this),by rw[yW];lia,fun b Hb sb hb=>⟨(by show 2≤sizeLine;decide),fun q hq=>?_⟩⟩
  have sq:=zC hq (.tup [.ref tr',.ref b])
  have uq:=((s9.trans sa).trans sb).trans sq
  have kk:NKey (L2.upd Hb q (.tup [.ref tr',.ref b])) (stT N ts hs m') q:=xw zD (sq _ _ (sb _ _ (sa _ _ htr))) (sq _ _ hb)
  have hlq:=uq _ _ hl8
  have hdq:=uq _ _ hd8
  have u9:=u8.trans uq
  have t9:=t8.trans (Tups.of uq)
  have kn9:=kn.tups (Tups.of uq)
  generalize L2.upd Hb q (.tup [.ref tr',.ref b])=H10 at *
  refine⟨lw,_,_,rfl,rfl,hlq,by rw[List.length_map,List.length_append,sizeLine_eq];lia,?_⟩
  have ty:∀ o,Tups H10 (L2.upd H10 lw (.lst o)):=fun o b ys e=>by rw[zH (yr e hlq fun z=>by cases z)];exact e
  refine⟨_,_,_,nb++[q],rfl,fun b o e=>by rw[zH (zG e lwB)];exact u9 b o e,t9.trans (ty _),by rw[zH n67];exact hdq,by rw[← List.append_assoc,List.map_append (l₁:=vs++nb)];exact zD,?_⟩
  rw[← List.take_append_getElem jl,(List.getElem?_eq_some_iff.mp em').2,show (moves.take j++[m']).map (stT N ts hs)=(moves.take j).map (stT N ts hs)++[stT N ts hs m'] from List.map_append]
  exact Paired.snoc (kn9.tups (ty _)) (kk.tups (ty _))
 ·rintro σ H8 ⟨v8,v9,v10,nb,rfl,u8,t8,hd8,hl8,kn⟩
  rw[zc,List.take_length]at kn
  have kl:=Paired.length kn
  rw[List.length_map]at kl
  have lx:(xs++[(plK ts hs,q2,V.bl true)]).length=xs.length+1:=List.length_append
  refine⟨(1500-(xs.length+1))*17+(vs++nb).length,?_,_,vs++nb,_,_,_,_,_,_,rfl,u8,hd8,kx7.tups t8,hl8,r0 (kv7.tups t8) kn,?_,?_,?_,?_⟩
  ·rw[em,List.length_append];lia
  ·rw[List.map_append];exact bn
  ·rw[lx];lia
  ·rw[lx,List.length_append];lia
  ·rw[lx]
end
abbrev gB:Stmt:=top 40
def lK:Sp:=fun vs H Q _=>∃ l:Addr,vs=[.ref l]∧Pk3 H l∧∀ r fr er ps N H',Few 8 20 N→NetAt H' r fr er ps N→Pk3 H' l→But l H H'→Q (.ref r) H'
section
variable {P:Program}{w:World}{K:PySem.W.Frag}{mg:Str→Option Value}{base:Heap}
theorem qc:FnScope ["_law_left_here","_law_way","_law_size","_law_forks","_law_k","_law_a","_law_ends_here"] ["_law_left_here"] (zM gB):=⟨rfl,rfl,rfl,by decide +kernel,rfl,by decide +kernel,by decide +kernel⟩
theorem gR {f fK fN fM fB fX:Addr}{fd dK dN dM dB dX:FuncData}(F:Fun K "_law_evened" "_law_evened" gB f fd) (G:Mgs mg) (UK:Use P w K mg base "_law_pick" ["_law_left_here","_law_many"] 1 yo fK dK) (UN:Use P w K mg base "_law_net" ["_law_left_here"] 12 qW fN dN) (UM:Use P w K mg base "_law_made" ["_law_way","_law_k"] 11 tT fM dM) (UB:Use P w K mg base "_law_block" ["_law_row"] 5 wd fB dB) (UX:Use P w K mg base "_law_mixed" ["_law_left_here","_law_row"] 2 wb fX dX):FnOk P w K mg base CX0 13 f fd ["_law_left_here"] lK:=by
 refine F.ok qc (fun vs H Q E h=>?_) (fun cdv A outer s H vs Q E hr h=>?_)
 ·obtain⟨l,rfl,_⟩:=h
  rfl
 obtain⟨l,rfl,S,k⟩:=h
 have hr1:Room 1 _:=hr.mono (by decide)
 have hr2:Room 2 _:=hr.mono (by decide)
 have hr5:Room 5 _:=hr.mono (by decide)
 have hr11:Room 11 _:=hr.mono (by decide)
 refine⟨_,(@zF _ _ _ _ _ (@zi _ _ 1 _ _ _ _ qc.nd rfl (.inl rfl) (@zJ _ _ _ _ _ _ _ _ _ _ _ _ _ _ _ _ UK.ok hr1 (by rfl) UK.m UK.kp UK.b .nil zS (@zA _ _ _ _ _ (@pv _ 0 _ _ (by rfl) (by first|exact Or.inl rfl|exact Or.inr (.inl rfl)|exact Or.inr (.inr rfl)) (by decide) (by decide)) (@zA _ _ _ _ _ zE zB (by rfl)) (by rfl)) (by decide) (by rfl) (by rfl)) (by rfl) (by first|exact .inl rfl|exact .inr rfl|assumption)) (@zF _ _ _ _ _ (@yM _ _ _ _ _ _ _ _ (@zj _ _ _ _ _ _ _ _ y0 (@pv _ 1 _ _ (by rfl) (by first|exact Or.inl rfl|exact Or.inr (.inl rfl)|exact Or.inr (.inr rfl)) (by decide) (by decide)) zE (zp _)) (@zK _ _ _ (@zU _ _ _ _ (@zJ _ _ _ _ _ _ _ _ _ _ _ _ _ _ _ _ UN.ok hr (by rfl) UN.m UN.kp UN.b .nil zS (@zA _ _ _ _ _ (@pv _ 0 _ _ (by rfl) (by first|exact Or.inl rfl|exact Or.inr (.inl rfl)|exact Or.inr (.inr rfl)) (by decide) (by decide)) zB (by rfl)) (by decide) (by rfl) (by rfl)))) zk) (@zF _ _ _ _ _ (@yM _ _ _ _ _ _ _ _ (@zj _ _ _ _ _ _ _ _ oN (@pv _ 1 _ _ (by rfl) (by first|exact Or.inl rfl|exact Or.inr (.inl rfl)|exact Or.inr (.inr rfl)) (by decide) (by decide)) zE (zp _)) (@zK _ _ _ (@zU _ _ _ _ (@zJ _ _ _ _ _ _ _ _ _ _ _ _ _ _ _ _ UM.ok hr11 (by rfl) UM.m UM.kp UM.b .nil zS (@zA _ _ _ _ _ (@zY _ _ _ _ _ _ _ zd (@zq _ _ _ _ (@zA _ _ _ _ _ zE (@zA _ _ _ _ _ zE zB (by rfl)) (by rfl))) (@zJ _ _ _ _ _ _ _ _ _ _ _ _ _ _ _ _ UK.ok hr1 (by rfl) UK.m UK.kp UK.b .nil zS (@zA _ _ _ _ _ (@pv _ 0 _ _ (by rfl) (by first|exact Or.inl rfl|exact Or.inr (.inl rfl)|exact Or.inr (.inr rfl)) (by decide) (by decide)) (@zA _ _ _ _ _ zE zB (by rfl)) (by rfl)) (by decide) (by rfl) (by rfl)) (fun _ _=>rfl)) (@zA _ _ _ _ _ (@zJ _ _ _ _ _ _ _ _ _ _ _ _ _ _ _ _ UK.ok hr1 (by rfl) UK.m UK.kp UK.b .nil zS (@zA _ _ _ _ _ (@pv _ 0 _ _ (by rfl) (by first|exact Or.inl rfl|exact Or.inr (.inl rfl)|exact Or.inr (.inr rfl)) (by decide) (by decide)) (@zA _ _ _ _ _ zE zB (by rfl)) (by rfl)) (by decide) (by rfl) (by rfl)) zB (by rfl)) (by rfl)) (by decide) (by rfl) (by rfl)))) zk) (@zF _ _ _ _ _ (@zi _ _ 2 _ _ _ _ qc.nd rfl (.inl rfl) (@zY _ _ _ _ _ _ _ zd (@zq _ _ _ _ (@zA _ _ _ _ _ zE (@zA _ _ _ _ _ zE (@zA _ _ _ _ _ zE (@zA _ _ _ _ _ zE (@zA _ _ _ _ _ zE zB (by rfl)) (by rfl)) (by rfl)) (by rfl)) (by rfl))) (@zJ _ _ _ _ _ _ _ _ _ _ _ _ _ _ _ _ UK.ok hr1 (by rfl) UK.m UK.kp UK.b .nil zS (@zA _ _ _ _ _ (@pv _ 0 _ _ (by rfl) (by first|exact Or.inl rfl|exact Or.inr (.inl rfl)|exact Or.inr (.inr rfl)) (by decide) (by decide)) (@zA _ _ _ _ _ zE zB (by rfl)) (by rfl)) (by decide) (by rfl) (by rfl)) (fun _ _=>rfl)) (by rfl) (by first|exact .inl rfl|exact .inr rfl|assumption)) (@zF _ _ _ _ _ (@uD _ 3 _ _ _ _ none _ _ _ _ _ (iH K 2 (uT (xp 0) (uT (xp 1) iI))) _ _ ["_law_a","_law_b","_law_left_here"] [none,none,some 0] qc.nd rfl rfl rfl (@vY _ _ _ _ (@zJ _ _ _ _ _ _ _ _ _ _ _ _ _ _ _ _ UB.ok hr5 (by rfl) UB.m UB.kp UB.b .nil zS (@zA _ _ _ _ _ (@x6 _ _ _ _ _ _ _ rfl (by rfl) G.list (by rfl) G.range (@zA _ _ _ _ _ (@pv _ 2 _ _ (by rfl) (by first|exact Or.inl rfl|exact Or.inr (.inl rfl)|exact Or.inr (.inr rfl)) (by decide) (by decide)) zB (by rfl)) (by rfl) (by rfl)) zB (by rfl)) (by decide) (by rfl) (by rfl))) (CapOk.of (by kernel_rfl)) (fun _ _ _ _ _=>(@yE _ _ _ _ _ _ rfl (@zN _ _ _ _ _ (@zL _ _ 0 _ (show (["_law_a","_law_b","_law_left_here"]:List Str).Nodup from by decide +kernel) rfl (.inl rfl) (.inr rfl)) (@zN _ _ _ _ _ (@zL _ _ 1 _ (show (["_law_a","_law_b","_law_left_here"]:List Str).Nodup from by decide +kernel) rfl (.inl rfl) (.inr rfl)) zt (by rfl)) (by rfl)) (by rfl) (by rfl))) (fun _ _ _ _ _=>yN) (fun _ _ _ _ _=>(@zY _ _ _ _ _ _ (lj K) zd (@zq _ _ _ _ (@zA _ _ _ _ _ (@zX _ _ _ _ _ (@zA _ _ _ _ _ (@pv _ 0 _ _ (by rfl) (by first|exact Or.inl rfl|exact Or.inr (.inl rfl)|exact Or.inr (.inr rfl)) (by decide) (by decide)) (@zA _ _ _ _ _ (@pv _ 1 _ _ (by rfl) (by first|exact Or.inl rfl|exact Or.inr (.inl rfl)|exact Or.inr (.inr rfl)) (by decide) (by decide)) zB (by rfl)) (by rfl))) (@zA _ _ _ _ _ (@zX _ _ _ _ _ (@zA _ _ _ _ _ (@pv _ 1 _ _ (by rfl) (by first|exact Or.inl rfl|exact Or.inr (.inl rfl)|exact Or.inr (.inr rfl)) (by decide) (by decide)) (@zA _ _ _ _ _ (@pv _ 0 _ _ (by rfl) (by first|exact Or.inl rfl|exact Or.inr (.inl rfl)|exact Or.inr (.inr rfl)) (by decide) (by decide)) zB (by rfl)) (by rfl))) zB (by rfl)) (by rfl))) (@zJ _ _ _ _ _ _ _ _ _ _ _ _ _ _ _ _ UK.ok hr1 (by rfl) UK.m UK.kp UK.b .nil zS (@zA _ _ _ _ _ (@pv _ 2 _ _ (by rfl) (by first|exact Or.inl rfl|exact Or.inr (.inl rfl)|exact Or.inr (.inr rfl)) (by decide) (by decide)) (@zA _ _ _ _ _ zE zB (by rfl)) (by rfl)) (by decide) (by rfl) (by rfl)) (fun _ _=>rfl))) (by intro _;rfl) (by with_unfolding_all rfl)) (@zF _ _ _ _ _ (@yn _ _ _ _ _ _ _ _ PassesOwn.never rfl (@yb _ _ _ _ _ _ rfl G.range (@zA _ _ _ _ _ (@zR _ _ _ _ _ _ _ _ xJ (@zJ _ _ _ _ _ _ _ _ _ _ _ _ _ _ _ _ UK.ok hr1 (by rfl) UK.m UK.kp UK.b .nil zS (@zA _ _ _ _ _ (@pv _ 0 _ _ (by rfl) (by first|exact Or.inl rfl|exact Or.inr (.inl rfl)|exact Or.inr (.inr rfl)) (by decide) (by decide)) (@zA _ _ _ _ _ zE zB (by rfl)) (by rfl)) (by decide) (by rfl) (by rfl)) (@zV _ _ _ _ _ _ _ _ _ wF (by rfl) G.int (by rfl) (@zA _ _ _ _ _ (@y8 _ _ _ _ _ _ _ _ oN (@pv _ 2 _ _ (by rfl) (by first|exact Or.inl rfl|exact Or.inr (.inl rfl)|exact Or.inr (.inr rfl)) (by decide) (by decide)) zE (zp _)) zB (by rfl)) (by decide) (by decide) (by rfl) (by rfl))) zB (by rfl)) (by rfl)) (@zL _ _ 4 _ qc.nd rfl (.inl rfl) (by first|exact .inl rfl|exact .inr rfl|assumption)) (@zF _ _ _ _ _ (@zi _ _ 5 _ _ _ _ qc.nd rfl (.inl rfl) (@zJ _ _ _ _ _ _ _ _ _ _ _ _ _ _ _ _ UK.ok hr1 (by rfl) UK.m UK.kp UK.b .nil zS (@zA _ _ _ _ _ (@pv _ 0 _ _ (by rfl) (by first|exact Or.inl rfl|exact Or.inr (.inl rfl)|exact Or.inr (.inr rfl)) (by decide) (by decide)) (@zA _ _ _ _ _ (@pv _ 2 _ _ (by rfl) (by first|exact Or.inl rfl|exact Or.inr (.inl rfl)|exact Or.inr (.inr rfl)) (by decide) (by decide)) zB (by rfl)) (by rfl)) (by decide) (by rfl) (by rfl)) (by rfl) (by first|exact .inl rfl|exact .inr rfl|assumption)) (@zK _ _ _ (@xH _ _ _ _ (@wn _ _ _ _ _ _ _ _ _ _ _ _ PySem.F.plainAttrs_list PySem.F.slot_list_append PySem.F.type_list_append yc (@pv _ 3 _ _ (by rfl) (by first|exact Or.inl rfl|exact Or.inr (.inl rfl)|exact Or.inr (.inr rfl)) (by decide) (by decide)) (@zA _ _ _ _ _ (@zX _ _ _ _ _ (@zA _ _ _ _ _ (@pv _ 5 _ _ (by rfl) (by first|exact Or.inl rfl|exact Or.inr (.inl rfl)|exact Or.inr (.inr rfl)) (by decide) (by decide)) (@zA _ _ _ _ _ (@zR _ _ _ _ _ _ _ _ xK (@zR _ _ _ _ _ _ _ _ yJ (@zR _ _ _ _ _ _ _ _ yJ (@pv _ 5 _ _ (by rfl) (by first|exact Or.inl rfl|exact Or.inr (.inl rfl)|exact Or.inr (.inr rfl)) (by decide) (by decide)) zE) (@zJ _ _ _ _ _ _ _ _ _ _ _ _ _ _ _ _ UK.ok hr1 (by rfl) UK.m UK.kp UK.b .nil zS (@zA _ _ _ _ _ (@pv _ 0 _ _ (by rfl) (by first|exact Or.inl rfl|exact Or.inr (.inl rfl)|exact Or.inr (.inr rfl)) (by decide) (by decide)) (@zA _ _ _ _ _ (@zR _ _ _ _ _ _ _ _ yz (@pv _ 2 _ _ (by rfl) (by first|exact Or.inl rfl|exact Or.inr (.inl rfl)|exact Or.inr (.inr rfl)) (by decide) (by decide)) zE) zB (by rfl)) (by rfl)) (by decide) (by rfl) (by rfl))) (@pv _ 2 _ _ (by rfl) (by first|exact Or.inl rfl|exact Or.inr (.inl rfl)|exact Or.inr (.inr rfl)) (by decide) (by decide))) zB (by rfl)) (by rfl))) zB (by rfl)) (by rfl) (by rfl) (by rfl) (by rfl) (by rfl)) (by rfl)))) (by intro _;rfl)) (@zF _ _ _ _ _ (@zi _ _ 6 _ _ _ _ qc.nd rfl (.inl rfl) (@zY _ _ _ _ _ _ _ zd (@zq _ _ _ _ (@zA _ _ _ _ _ (@vA _ _ _ _ _ _ _ rfl (by rfl) G.tuple (by rfl) G.range (@zA _ _ _ _ _ (@pv _ 2 _ _ (by rfl) (by first|exact Or.inl rfl|exact Or.inr (.inl rfl)|exact Or.inr (.inr rfl)) (by decide) (by decide)) zB (by rfl)) (by rfl) (by rfl)) (@zA _ _ _ _ _ (@zJ _ _ _ _ _ _ _ _ _ _ _ _ _ _ _ _ UX.ok hr2 (by rfl) UX.m UX.kp UX.b .nil zS (@zA _ _ _ _ _ (@pv _ 0 _ _ (by rfl) (by first|exact Or.inl rfl|exact Or.inr (.inl rfl)|exact Or.inr (.inr rfl)) (by decide) (by decide)) (@zA _ _ _ _ _ (@x6 _ _ _ _ _ _ _ rfl (by rfl) G.list (by rfl) G.range (@zA _ _ _ _ _ (@pv _ 2 _ _ (by rfl) (by first|exact Or.inl rfl|exact Or.inr (.inl rfl)|exact Or.inr (.inr rfl)) (by decide) (by decide)) zB (by rfl)) (by rfl) (by rfl)) zB (by rfl)) (by rfl)) (by decide) (by rfl) (by rfl)) zB (by rfl)) (by rfl))) (@zJ _ _ _ _ _ _ _ _ _ _ _ _ _ _ _ _ UK.ok hr1 (by rfl) UK.m UK.kp UK.b .nil zS (@zA _ _ _ _ _ (@pv _ 0 _ _ (by rfl) (by first|exact Or.inl rfl|exact Or.inr (.inl rfl)|exact Or.inr (.inr rfl)) (by decide) (by decide)) (@zA _ _ _ _ _ zE zB (by rfl)) (by rfl)) (by decide) (by rfl) (by rfl)) (fun _ _=>rfl)) (by rfl) (by first|exact .inl rfl|exact .inr rfl|assumption)) (@zK _ _ _ (@zU _ _ _ _ (@zX _ _ _ _ _ (@zA _ _ _ _ _ (@pv _ 2 _ _ (by rfl) (by first|exact Or.inl rfl|exact Or.inr (.inl rfl)|exact Or.inr (.inr rfl)) (by decide) (by decide)) (@zA _ _ _ _ _ (@zV _ _ _ _ _ _ _ _ _ zZ (by rfl) G.tuple (by rfl) (@zA _ _ _ _ _ (@pv _ 3 _ _ (by rfl) (by first|exact Or.inl rfl|exact Or.inr (.inl rfl)|exact Or.inr (.inr rfl)) (by decide) (by decide)) zB (by rfl)) (by decide) (by decide) (by rfl) (by rfl)) (@zA _ _ _ _ _ (@pv _ 6 _ _ (by rfl) (by first|exact Or.inl rfl|exact Or.inr (.inl rfl)|exact Or.inr (.inr rfl)) (by decide) (by decide)) zB (by rfl)) (by rfl)) (by rfl)))))))))))),?_⟩
 refine⟨_,rfl,l,8,rfl,by decide,by decide,S,fun way H1 hw S1 B1=>?_⟩
 refine⟨_,rfl,rfl,_,rfl,vU (fun _=>?_) (fun z0=>?_)⟩
 ·exact⟨_,rfl,l,rfl,S1,fun r fr er ps N H2 few na S2 B2=>k r fr er ps N H2 ⟨few.ok,by have:=few.ln;lia,by have:=few.fk;lia⟩ na S2 (B1.trans B2)⟩
 refine⟨_,rfl,_,_,rfl,rfl,_,rfl,vU (fun _=>?_) (fun z1=>?_)⟩
 ·refine⟨by show 2≤sizeLine;decide,fun t ht=>⟨_,rfl,l,2,rfl,by decide,by decide,S1.keep (zC ht _),fun v H2 hv S2 B2=>?_⟩⟩
  obtain⟨wy,wm,wa⟩:=x5 (xs:=[0,2]) (v:=v) (by show v<2;lia)
  refine⟨t,_,_,_,rfl,rfl,SqL.of (B2 t _ (zP ht _) (S1.ne ht).symm),wa,?_⟩
  have B2':But l H H2:=(B1.trans (But.of (zC ht _))).trans B2
  clear ht B2 wa
  refine⟨_,rfl,l,3,rfl,by decide,by decide,S2,fun sz H3 hz S3 B3=>?_⟩
  refine⟨wy,sz,rfl,by lia,fun r fr er ps H4 s4 na4=>?_⟩
  obtain⟨m1,m2⟩:=rm wy (k:=sz) (by lia)
  exact k r fr er ps _ H4 ⟨oV (by lia),by lia,by lia⟩ na4 (S3.keep s4) ((B2'.trans B3).trans (But.of s4))
 refine⟨by show 5≤sizeLine;decide,fun t ht=>⟨_,rfl,l,5,rfl,by decide,by decide,S1.keep (zC ht _),fun v H2 hv S2 B2=>?_⟩⟩
 obtain⟨size,wm,wa⟩:=x5 (xs:=[2,4,4,4,8]) (v:=v) (by show v<5;lia)
 refine⟨t,_,_,_,rfl,rfl,SqL.of (B2 t _ (zP ht _) (S1.ne ht).symm),wa,?_⟩
 have B2':But l H H2:=(B1.trans (But.of (zC ht _))).trans B2
 clear ht B2 wa B1 S1 S
 obtain⟨m,em,m3⟩:∃ m,size=2 ^ m∧1≤m∧m≤3:=by
  have z:∀ n∈[2,4,4,4,8],n=2 ^ 1∨n=2 ^ 2∨n=2 ^ 3:=by decide
  rcases z size wm with e|e|e
  ·exact⟨1,e,by decide,by decide⟩
  ·exact⟨2,e,by decide,by decide⟩
  ·exact⟨3,e,by decide,by decide⟩
 have sz:2≤size∧size≤8:=(show ∀ n∈[2,4,4,4,8],2≤n∧n≤8 by decide) size wm
 refine⟨_,rfl,size,rfl,by lia,fun p hp=>?_⟩
 have s3:=zC hp (.lst (zT (List.range size)))
 refine⟨m,by lia,p,List.range size,rfl,zD,by rw[List.length_range];exact em,by lia,fun lb ps H3 s4 hlb pr=>?_⟩
 have S3:=S2.keep (s3.trans s4)
 have B3:But l H H3:=B2'.trans (But.of (s3.trans s4))
 have okb:=gu (k:=m) (by lia)
 have fb:∀ g∈yj m (List.range size),g.1<size∧g.2<size∧g.1≠g.2:=by
  have:=okb.fk
  rw[em];exact this
 have lnb:(yj m (List.range size)).length≤12:=by
  rw[em]
  have z:∀ m,m<4→(yj m (List.range (2 ^ m))).length≤12:=by decide
  exact z m (by lia)
 clear s3 s4 hp S2 B2' okb wm
 have pl:=pr.len
 refine⟨lb,rfl,⟨_,SqL.of hlb⟩,fun lc hlc=>?_⟩
 have nlc:=S3.ne hlc
 have lne:lb≠l:=fun e=>by
  subst e
  obtain⟨a,b,c,q,_⟩:=S3.ex
  rw[q]at hlb
  cases hlb
  obtain⟨a,g,e,_⟩:=pr.get (i:=0) rfl
  cases e
 have flc:Frs l H lc:=B3.frs hlc
 have flc3:Frs l H3 lc:=fun b o e _=>zG e hlc
 refine vc (K:=K) (a:=lb) (xs:=ps) (fun i acc σ H4=>(∃ v0 v1,σ=[v0,v1,some (.ref l)])∧Pk3 H4 l∧But l H3 H4∧H4 lc=some (.lst acc)∧∃ fs,Prs H4 acc fs∧fs.length=i∧∀ g∈fs,g.1<size∧g.2<size∧g.1≠g.2) ⟨⟨_,_,rfl⟩,S3.upd nlc,But.of (zC hlc _),zP hlc _,[],trivial,rfl,fun g hg=>(nomatch hg)⟩ (fun i acc σ H4 z=>⟨z.2.2.2.1,SqL.of (z.2.2.1 _ _ hlb lne)⟩) ?_ ?_
 ·rintro i x acc σ H4 hx ⟨⟨v0,v1,rfl⟩,S4,B4,h4,fs,p4,fl,fok⟩
  obtain⟨a,g,rfl,eg,ha⟩:=(pr.tups (B4.tups3 S3)).get hx
  have il:=(List.getElem?_eq_some_iff.mp hx).1
  have gk:=fb g (List.mem_of_getElem? eg)
  refine⟨a,_,rfl,SqT.of ha,rfl,_,_,rfl,_,_,rfl,rfl,?_⟩
  refine⟨_,rfl,_,rfl,(by show 2≤sizeLine;decide),fun t1 ht1=>⟨_,rfl,_,rfl,(by show 2≤sizeLine;decide),fun t2 ht2=>⟨(by show 2≤sizeLine;decide),fun l5 hl5=>?_⟩⟩⟩
  have s5:=zC ht1 (.tup [.int (g.1:Nat),.int (g.2:Nat)])
  have s6:=zC ht2 (.tup [.int (g.2:Nat),.int (g.1:Nat)])
  have s7:=zC hl5 (.lst [.ref t1,.ref t2])
  have u7:=(s5.trans s6).trans s7
  have k1:FkOk _ size (.ref t1):=⟨t1,g,rfl,s7 _ _ (s6 _ _ (zP ht1 _)),gk⟩
  have k2:FkOk _ size (.ref t2):=⟨t2,(g.2,g.1),rfl,s7 _ _ (zP ht2 _),gk.2.1,gk.1,gk.2.2.symm⟩
  have h5:=zP hl5 (.lst [.ref t1,.ref t2])
  have S5:=S4.keep u7
  have h57:=u7 _ _ h4
  have p5:=p4.tups (Tups.of u7)
  have B5:=B4.trans (But.of (l:=l) u7)
  have n5:=(S4.keep (s5.trans s6)).ne hl5
  generalize L2.upd (L2.upd (L2.upd H4 t1 (.tup [.int (g.1:Nat),.int (g.2:Nat)])) t2 (.tup [.int (g.2:Nat),.int (g.1:Nat)])) l5 (.lst [.ref t1,.ref t2])=H5 at *
  refine⟨_,rfl,l,2,rfl,by decide,by decide,S5,fun v H6 hv S6 B6=>?_⟩
  have t6:=B6.tups3 S5
  obtain⟨x,ex,kx⟩:∃ x,[V.ref t1,V.ref t2][v]?=some x∧FkOk H6 size x:=by
   rcases v with _|_|v
   ·exact⟨_,rfl,k1.tups t6⟩
   ·exact⟨_,rfl,k2.tups t6⟩
   ·lia
  refine⟨l5,_,_,x,rfl,rfl,SqL.of (B6 l5 _ h5 n5.symm),yD ex,?_⟩
  have h6:=B6 lc _ h57 nlc.symm
  have p6:=p5.tups t6
  obtain⟨a2,g2,rfl,ha2,gk2⟩:=kx
  have al:=p6.len
  refine⟨h6,by rw[sizeLine_eq];lia,nx il ⟨⟨_,_,rfl⟩,S6.upd nlc,(B5.trans B6).upd flc3,zD,fs++[g2],Prs.add (f:=g2) (Tups.lst h6 _ _ ha2) (p6.tups (Tups.lst h6)),by rw[List.length_append,fl];rfl,fun f hf=>?_⟩⟩
  rcases List.mem_append.mp hf with z|z
  ·exact fok f z
  ·rw[List.mem_singleton.mp z];exact gk2
 rintro acc σ H4 ⟨⟨v0,v1,rfl⟩,S4,B4,h4,fs,p4,fl,fok⟩
 have B4':=B3.trans B4
 have fl12:fs.length≤12:=by lia
 clear B4 lne S3 hlb pr B3 flc3
 refine⟨_,rfl,l,4,rfl,by decide,by decide,S4,fun v H5 hv S5 B5=>?_⟩
 have h5:=B5 lc _ h4 nlc.symm
 have p5:=p4.tups (B5.tups3 S4)
 have B5':=B4'.trans B5
 refine⟨_,rfl,_,_,rfl,rfl,.inr ⟨_,rfl,_,_,rfl,rfl,.inl ⟨by lia,by lia⟩,?_⟩⟩
 have cb:((v:Int)*(if decide ((size:Int)<8)=true then 1 else 0))=((if size<8 then v else 0:Nat):Int):=by
  by_cases z:size<8
  ·rw[if_pos (decide_eq_true (by lia)),if_pos z];lia
  ·rw[if_neg (by rw[decide_eq_false (by lia)];exact Bool.false_ne_true),if_neg z];lia
 have cl:(if size<8 then v else 0)≤4:=by split<;>lia
 refine⟨_,rfl,by rw[cb];lia,by rw[cb];lia,?_⟩
 rw[cb]
 generalize hcnt:(if size<8 then v else 0)=cnt at cl
 refine wC (lo:=0) (n:=((cnt:Nat):Int).toNat) (fun i σ H6=>(∃ w4 w5 w6,σ=[some (.ref l),some (.int (way:Nat)),some (.int (size:Nat)),some (.ref lc),w4,w5,w6])∧Pk3 H6 l∧But l H H6∧∃ ps fs,H6 lc=some (.lst ps)∧Prs H6 ps fs∧fs.length≤12+i∧∀ f∈fs,f.1<size∧f.2<size∧f.1≠f.2)
  ⟨⟨_,_,_,rfl⟩,S5,B5',acc,fs,h5,p5,fl12,fok⟩ ?_ ?_
 ·rintro i σ H6 hi ⟨⟨w4,w5,w6,rfl⟩,S6,B6,ps,fs,h6,p6,fl6,fok6⟩
  refine⟨_,rfl,_,rfl,l,size,rfl,by lia,by lia,S6,fun one H7 ho S7 B7=>?_⟩
  refine⟨_,rfl,.inl ⟨rfl,_,SqL.of (B7 lc _ h6 nlc.symm)⟩,_,rfl,_,rfl,_,_,rfl,rfl,_,rfl,_,rfl,_,_,rfl,rfl,l,_,rfl,by lia,by lia,S7,fun d H8 hd S8 B8=>?_⟩
  refine⟨_,_,rfl,rfl,_,rfl,_,_,rfl,rfl,by lia,?_⟩
  have hone:one<size:=by lia
  obtain⟨ok1,ok2⟩:=rO (one:=one) (d:=d) (lanes:=size) hone (by lia)
  have ec:((one:Int)+1+d)%size=(((one+1+d)%size:Nat):Int):=by rw[Int.natCast_emod,Int.natCast_add,Int.natCast_add];rfl
  dsimp only
  rw[ec]
  generalize (one+1+d)%size=oth at ok1 ok2
  refine⟨by show 2≤sizeLine;decide,fun t1 ht1=>?_⟩
  have s9:=zC ht1 (.tup [.int (one:Nat),.int (oth:Nat)])
  have h8:=B8 lc _ (B7 lc _ h6 nlc.symm) nlc.symm
  have h9:=s9 _ _ h8
  have p8:=(p6.tups ((B7.tups3 S6).trans (B8.tups3 S7))).tups (Tups.of s9)
  have pl8:=p8.len
  refine⟨lc,ps,_,rfl,rfl,h9,by rw[sizeLine_eq];lia,⟨_,_,_,rfl⟩,(S8.keep s9).upd nlc,(((B6.trans B7).trans B8).trans (But.of s9)).upd flc,ps++[.ref t1],fs++[(one,oth)],zD,Prs.add (f:=(one,oth)) (Tups.lst h9 _ _ (zP ht1 _)) (p8.tups (Tups.lst h9)),by rw[List.length_append];show _+1≤_;lia,fun f hf=>?_⟩
  rcases List.mem_append.mp hf with z|z
  ·exact fok6 f z
  ·rw[List.mem_singleton.mp z];exact⟨hone,ok1,ok2⟩
 ·rintro σ H2 ⟨⟨w4,w5,w6,rfl⟩,S2,B2,ps,fs,h2,p2,fl2,fok2⟩
  have c4:((cnt:Nat):Int).toNat=cnt:=Int.toNat_natCast _
  rw[c4]at fl2
  refine⟨_,rfl,size,rfl,by lia,fun t1 ht1=>?_⟩
  have s1:=zC ht1 (.tup (zT (List.range size)))
  refine⟨_,rfl,_,rfl,size,rfl,by lia,fun l2 hl2=>?_⟩
  have s2:=zC hl2 (.lst (zT (List.range size)))
  have u2:=s1.trans s2
  refine⟨l,l2,zT (List.range size),rfl,zP hl2 _,by rw[zc,List.length_range];lia,S2.keep u2,fun t3 ys H3 py ht3 S3 B3=>?_⟩
  have ht1':=B3 t1 _ (s2 _ _ (zP ht1 _)) (S2.ne ht1).symm
  have h3:=B3 lc _ (u2 _ _ h2) nlc.symm
  have p3:=p2.tups ((Tups.of u2).trans (B3.tups3 (S2.keep u2)))
  have B3':=(B2.trans (But.of u2)).trans B3
  refine⟨(by show 2≤sizeLine;decide),fun l5 hl5=>⟨_,rfl,l,2,rfl,by decide,by decide,S3.keep (zC hl5 _),fun v3 H6 hv3 S6 B6=>?_⟩⟩
  have s6:=zC hl5 (.lst [.ref t1,.ref t3])
  have t6:=(Tups.of s6).trans (B6.tups3 (S3.keep s6))
  obtain⟨x,ex,e,kx,pe⟩:∃ x,[V.ref t1,V.ref t3][v3]?=some (.ref x)∧∃ es:List Nat,H6 x=some (.tup (zT es))∧es.Perm (List.range size):=by
   rcases v3 with _|_|v3
   ·exact⟨_,rfl,_,t6 _ _ ht1',.refl _⟩
   ·obtain⟨es,rfl,pe⟩:=uu py
    exact⟨_,rfl,es,t6 _ _ ht3,pe⟩
   ·lia
  refine⟨l5,_,_,_,rfl,rfl,SqL.of (B6 l5 _ (zP hl5 _) (S3.ne hl5).symm),yD ex,?_⟩
  have h6:=B6 lc _ (s6 _ _ h3) nlc.symm
  have p6:=p3.tups t6
  have B6':=(B3'.trans (But.of s6)).trans B6
  refine⟨_,rfl,_,rfl,lc,_,rfl,.inl ⟨SqL.of h6,fun t7 ht7=>?_⟩⟩
  have s7:=zC ht7 (.tup ps)
  refine⟨_,rfl,(by show 3≤sizeLine;decide),fun r hr7=>?_⟩
  have s8:=zC hr7 (.tup [.int (size:Nat),.ref t7,.ref x])
  have u8:=s7.trans s8
  exact k r t7 x ps ⟨size,fs,e⟩ _ ⟨⟨by show 1≤size;lia,by show size≤16;lia,by show fs.length≤128;lia,fok2,pe⟩,by show size≤8;lia,by show fs.length≤20;lia⟩ ⟨zP hr7 _,s8 _ _ (zP ht7 _),p6.tups (Tups.of u8),u8 _ _ kx⟩ (S6.keep u8) (B6'.trans (But.of u8))
end
abbrev qf:Stmt:=top 1
abbrev qp:Stmt:=top 2
abbrev qj:Stmt:=top 3
def vW (K:PySem.W.Frag):Sp:=fun vs H Q _=>∃ x,vs=[x]∧AnyT K H x∧Q (.bl (tR x)) H
def tY (K:PySem.W.Frag):Sp:=fun vs H Q _=>∃ x b,vs=[x,.int b]∧AnyT K H x∧Q (.bl (wT b x)) H
def wc (K:PySem.W.Frag):Sp:=fun vs H Q _=>∃ x m,vs=[x,.int m]∧AnyT K H x∧Q (.bl (xb H m x)) H
section
variable {P:Program}{w:World}{K:PySem.W.Frag}{mg:Str→Option Value}{base:Heap}
theorem dc:FnScope ["thing"] ["thing"] (zM qf):=⟨rfl,rfl,rfl,by decide +kernel,rfl,by decide +kernel,by decide +kernel⟩
theorem kJ {f:Addr}{fd:FuncData}(F:Fun K "is_whole" "is_whole" qf f fd) (G:Mgs mg):FnOk P w K mg base CX0 1 f fd ["thing"] (vW K):=by
 refine F.ok dc (fun vs H Q E h=>?_) (fun cdv A outer s H vs Q E hr h=>?_)
 ·obtain⟨x,rfl,_⟩:=h
  rfl
 obtain⟨x,rfl,ax,k⟩:=h
 refine⟨_,(@zK _ _ _ (@zU _ _ _ _ (@xc _ _ _ _ _ _ _ (@zQ _ _ _ _ _ _ _ _ _ wt (by rfl) G.isi (by rfl) (@zA _ _ _ _ _ (@pv _ 0 _ _ (by rfl) (by first|exact Or.inl rfl|exact Or.inr (.inl rfl)|exact Or.inr (.inr rfl)) (by decide) (by decide)) (@zA _ _ _ _ _ (@vZ _ _ (.ty "int") (.type "int") _ (by rfl) G.int (by rfl) rfl (by decide) (by decide)) zB (by rfl)) (by rfl)) (by decide) (by decide) (by rfl) (by rfl)) (@wQ _ _ _ _ _ (@gH _ _ _ _ (@zQ _ _ _ _ _ _ _ _ _ wt (by rfl) G.isi (by rfl) (@zA _ _ _ _ _ (@pv _ 0 _ _ (by rfl) (by first|exact Or.inl rfl|exact Or.inr (.inl rfl)|exact Or.inr (.inr rfl)) (by decide) (by decide)) (@zA _ _ _ _ _ (@vZ _ _ (.ty "bool") (.type "bool") _ (by rfl) G.bool (by rfl) rfl (by decide) (by decide)) zB (by rfl)) (by rfl)) (by decide) (by decide) (by rfl) (by rfl))))))),?_⟩
 obtain⟨t,I⟩:=ax.isi
 refine⟨_,rfl,_,"int",_,_,rfl,I.ty,I.int,_,rfl,?_⟩
 cases x with
 | int i=>exact yP ⟨_,rfl,_,"bool",_,_,rfl,I.ty,I.bool,_,rfl,k⟩
 | bl b=>exact yP ⟨_,rfl,_,"bool",_,_,rfl,I.ty,I.bool,_,rfl,k⟩
 | non=>exact zv k
 | str z=>exact zv k
 | flt z=>exact zv k
 | byt z=>exact zv k
 | ref z=>exact zv k
 | ty z=>exact zv k
theorem df:FnScope ["thing","bound"] ["thing","bound"] (zM qp):=⟨rfl,rfl,rfl,by decide +kernel,rfl,by decide +kernel,by decide +kernel⟩
theorem kT {f fW:Addr}{fd dW:FuncData}(F:Fun K "is_below" "is_below" qp f fd) (G:Mgs mg) (UW:Use P w K mg base "is_whole" ["thing"] 1 (vW K) fW dW):FnOk P w K mg base CX0 2 f fd ["thing","bound"] (tY K):=by
 refine F.ok df (fun vs H Q E h=>?_) (fun cdv A outer s H vs Q E hr h=>?_)
 ·obtain⟨x,b,rfl,_⟩:=h
  rfl
 obtain⟨x,b,rfl,ax,k⟩:=h
 refine⟨_,(@zK _ _ _ (@zU _ _ _ _ (@xc _ _ _ _ _ _ _ (@zJ _ _ _ _ _ _ _ _ _ _ _ _ _ _ _ _ UW.ok hr (by rfl) UW.m UW.kp UW.b .nil zS (@zA _ _ _ _ _ (@pv _ 0 _ _ (by rfl) (by first|exact Or.inl rfl|exact Or.inr (.inl rfl)|exact Or.inr (.inr rfl)) (by decide) (by decide)) zB (by rfl)) (by decide) (by rfl) (by rfl)) (@wQ _ _ _ _ _ (@kE _ _ _ _ _ _ _ _ _ _ _ _ oO oN zE (@pv _ 0 _ _ (by rfl) (by first|exact Or.inl rfl|exact Or.inr (.inl rfl)|exact Or.inr (.inr rfl)) (by decide) (by decide)) (@pv _ 1 _ _ (by rfl) (by first|exact Or.inl rfl|exact Or.inr (.inl rfl)|exact Or.inr (.inr rfl)) (by decide) (by decide)) (by with_unfolding_all rfl)))))),?_⟩
 refine⟨_,rfl,_,rfl,ax,_,rfl,?_⟩
 cases x with
 | int i =>
  refine yP ⟨_,rfl,_,_,rfl,rfl,_,rfl,?_⟩
  have e:wT b (.int i)=(decide (0≤i) && decide (i<b)):=rfl
  rw[e]at k
  by_cases z:(0:Int)≤i
  ·rw[decide_eq_true z]at k ⊢
   exact yP ⟨_,rfl,_,_,rfl,rfl,k⟩
  ·rw[decide_eq_false z]at k ⊢
   exact zv k
 | bl z=>exact zv k
 | non=>exact zv k
 | str z=>exact zv k
 | flt z=>exact zv k
 | byt z=>exact zv k
 | ref z=>exact zv k
 | ty z=>exact zv k
theorem de:FnScope ["thing","many"] ["thing","many"] (zM qj):=⟨rfl,rfl,rfl,by decide +kernel,rfl,by decide +kernel,by decide +kernel⟩
theorem kN {f:Addr}{fd:FuncData}(F:Fun K "is_row" "is_row" qj f fd) (G:Mgs mg):FnOk P w K mg base CX0 1 f fd ["thing","many"] (wc K):=by
 refine F.ok de (fun vs H Q E h=>?_) (fun cdv A outer s H vs Q E hr h=>?_)
 ·obtain⟨x,m,rfl,_⟩:=h
  rfl
 obtain⟨x,m,rfl,ax,k⟩:=h
 refine⟨_,(@zK _ _ _ (@zU _ _ _ _ (@xc _ _ _ _ _ _ _ (@zQ _ _ _ _ _ _ _ _ _ wt (by rfl) G.isi (by rfl) (@zA _ _ _ _ _ (@pv _ 0 _ _ (by rfl) (by first|exact Or.inl rfl|exact Or.inr (.inl rfl)|exact Or.inr (.inr rfl)) (by decide) (by decide)) (@zA _ _ _ _ _ (@vZ _ _ (.ty "tuple") (.type "tuple") _ (by rfl) G.tuple (by rfl) rfl (by decide) (by decide)) zB (by rfl)) (by rfl)) (by decide) (by decide) (by rfl) (by rfl)) (@wQ _ _ _ _ _ (@y8 _ _ _ _ _ _ _ _ y0 (@zQ _ _ _ _ _ _ _ _ _ zW (by rfl) G.len PySem.boot_len (@zA _ _ _ _ _ (@pv _ 0 _ _ (by rfl) (by first|exact Or.inl rfl|exact Or.inr (.inl rfl)|exact Or.inr (.inr rfl)) (by decide) (by decide)) zB (by rfl)) (by decide) (by decide) (by rfl) (by rfl)) (@pv _ 1 _ _ (by rfl) (by first|exact Or.inl rfl|exact Or.inr (.inl rfl)|exact Or.inr (.inr rfl)) (by decide) (by decide)) (zp _)))))),?_⟩
 obtain⟨t,I⟩:=ax.isi
 refine⟨_,rfl,_,"tuple",_,_,rfl,I.ty,I.tup,_,rfl,?_⟩
 cases z:zw H x with
 | none =>
  have e:xb H m x=false:=by unfold xb;rw[z]
  rw[e]at k
  exact zv k
 | some xs =>
  have e:xb H m x=decide ((xs.length:Int)=m):=by unfold xb;rw[z]
  rw[e]at k
  obtain⟨a,rfl,ha⟩:=yI z
  exact yP ⟨_,rfl,a,_,rfl,.inr (SqT.of ha),_,rfl,rfl,by rw[vd];exact k⟩
end
abbrev wz:Stmt:=top 4
abbrev qm:Stmt:=top 5
def tZ (K:PySem.W.Frag):Sp:=fun vs H Q _=>∃ x,∃ many b:Int,vs=[x,.int many,.int b]∧Deep K H 1 x∧∀ H',Same H H'→Q (.bl (ya H many b x)) H'
def tW (K:PySem.W.Frag):Sp:=fun vs H Q _=>∃ x,∃ many:Int,vs=[x,.int many]∧Deep K H 1 x∧∀ H',Same H H'→Q (.bl (yY H many x)) H'
theorem jH {K:PySem.W.Frag}{H H':Hp}(s:Same H H'):∀ {n:Nat}{x:V},Deep K H n x→Deep K H' n x
 | 0,_,h=>AnyT.same s h
 | n+1,x,h=>⟨AnyT.same s h.1,fun xs e=>by
  rw[rM s h.1]at e
  exact⟨(h.2 xs e).1,fun y hy=>jH s ((h.2 xs e).2 y hy)⟩⟩
section
variable {P:Program}{w:World}{K:PySem.W.Frag}{mg:Str→Option Value}{base:Heap}
theorem du:FnScope ["thing","many","bound"] ["thing","many","bound"] (zM wz):=⟨rfl,rfl,rfl,by decide +kernel,rfl,by decide +kernel,by decide +kernel⟩
theorem rT {f fR fB:Addr}{fd dR dB:FuncData}(F:Fun K "are_below" "are_below" wz f fd) (G:Mgs mg) (UR:Use P w K mg base "is_row" ["thing","many"] 1 (wc K) fR dR) (UB:Use P w K mg base "is_below" ["thing","bound"] 2 (tY K) fB dB):FnOk P w K mg base CX0 3 f fd ["thing","many","bound"] (tZ K):=by
 refine F.ok du (fun vs H Q E h=>?_) (fun cdv A outer s H vs Q E hr h=>?_)
 ·obtain⟨x,many,b,rfl,_⟩:=h
  rfl
 obtain⟨x,many,b,rfl,dx,k⟩:=h
 have hr1:Room 1 _:=hr.mono (by decide)
 refine⟨_,(@zK _ _ _ (@zU _ _ _ _ (@xc _ _ _ _ _ _ _ (@zJ _ _ _ _ _ _ _ _ _ _ _ _ _ _ _ _ UR.ok hr1 (by rfl) UR.m UR.kp UR.b .nil zS (@zA _ _ _ _ _ (@pv _ 0 _ _ (by rfl) (by first|exact Or.inl rfl|exact Or.inr (.inl rfl)|exact Or.inr (.inr rfl)) (by decide) (by decide)) (@zA _ _ _ _ _ (@pv _ 1 _ _ (by rfl) (by first|exact Or.inl rfl|exact Or.inr (.inl rfl)|exact Or.inr (.inr rfl)) (by decide) (by decide)) zB (by rfl)) (by rfl)) (by decide) (by rfl) (by rfl)) (@wQ _ _ _ _ _ (@zQ _ _ _ _ _ _ _ _ _ (wG rfl true) (by rfl) G.all (by rfl) (@zA _ _ _ _ _ (@xN _ _ _ _ none _ _ _ _ _ _ ["number","bound"] [none,some 2] rfl (@yX _ _ _ _ (@pv _ 0 _ _ (by rfl) (by first|exact Or.inl rfl|exact Or.inr (.inl rfl)|exact Or.inr (.inr rfl)) (by decide) (by decide))) (CapOk.of (by kernel_rfl)) (fun _ _ _ _ _=>(@zL _ _ 0 _ (show (["number","bound"]:List Str).Nodup from by decide +kernel) rfl (.inl rfl) (.inr rfl))) (fun _ _ _ _ _=>yN) (fun _ _ _ _ _=>(@zJ _ _ _ _ _ _ _ _ _ _ _ _ _ _ _ _ UB.ok hr (by rfl) UB.m UB.kp UB.b .nil zS (@zA _ _ _ _ _ (@pv _ 0 _ _ (by rfl) (by first|exact Or.inl rfl|exact Or.inr (.inl rfl)|exact Or.inr (.inr rfl)) (by decide) (by decide)) (@zA _ _ _ _ _ (@pv _ 1 _ _ (by rfl) (by first|exact Or.inl rfl|exact Or.inr (.inl rfl)|exact Or.inr (.inr rfl)) (by decide) (by decide)) zB (by rfl)) (by rfl)) (by decide) (by rfl) (by rfl))) (by intro _;rfl)) zB (by rfl)) (by decide) (by decide) (by rfl) (by rfl)))))),?_⟩
 refine⟨_,rfl,_,rfl,x,many,rfl,dx.any,_,rfl,?_⟩
 cases z:zw H x with
 | none =>
  have e:xb H many x=false:=by unfold xb;rw[z]
  have e2:ya H many b x=false:=by unfold ya;rw[z]
  rw[e]
  rw[e2]at k
  exact zv (k H (Same.refl H))
 | some xs =>
  have e:xb H many x=decide ((xs.length:Int)=many):=by unfold xb;rw[z]
  have e2:ya H many b x=(decide ((xs.length:Int)=many) && xs.all (wT b)):=by unfold ya;rw[z]
  rw[e]
  rw[e2]at k
  obtain⟨a,rfl,ha⟩:=yI z
  by_cases lm:(xs.length:Int)=many
  ·rw[decide_eq_true lm]at k ⊢
   refine yP ⟨_,rfl,a,rfl,⟨_,SqT.of ha⟩,fun l hl=>?_⟩
   refine xk (K:=K) (a:=a) (xs:=xs) (fun i acc σ H2=>(∃ v,σ=[v,some (.int b)])∧Same H H2∧H2 l=some (.lst acc)∧acc=((xs.take i).map (wT b)).map V.bl) ⟨⟨_,rfl⟩,zC hl _,zD,rfl⟩ (fun i acc σ H2 q=>⟨q.2.2.1,SqT.of (q.2.1 _ _ ha)⟩) ?_ ?_
   ·rintro i y acc σ H2 hy ⟨⟨v,rfl⟩,s2,h2,rfl⟩
    have il:=(List.getElem?_eq_some_iff.mp hy).1
    refine⟨_,rfl,_,rfl,y,b,rfl,AnyT.same s2 (((dx.2 xs z).2 y (List.mem_of_getElem? hy))),?_⟩
    refine⟨h2,?_,nx il ⟨⟨_,rfl⟩,fun c o e=>?_,zD,?_⟩⟩
    ·rw[List.length_map,List.length_map,List.length_take];exact Nat.lt_of_le_of_lt (Nat.min_le_left _ _) (Nat.lt_of_lt_of_le (show i<1000 by have:=(dx.2 xs z).1;lia) (by decide))
    ·rw[zH (zG e hl)];exact s2 c o e
    ·have ye:xs[i]=y:=(List.getElem?_eq_some_iff.mp hy).2
     rw[List.take_succ_eq_append_getElem il,List.map_append,List.map_append,ye];rfl
   ·rintro acc σ H2 ⟨⟨v,rfl⟩,s2,h2,rfl⟩
    rw[List.take_length]at h2
    refine⟨l,xs.map (wT b),rfl,SqL.of h2,?_⟩
    rw[List.all_map]
    exact k H2 s2
  ·rw[decide_eq_false lm]at k ⊢
   exact zv (k H (Same.refl H))
theorem dk:FnScope ["thing","many"] ["thing","many"] (zM qm):=⟨rfl,rfl,rfl,by decide +kernel,rfl,by decide +kernel,by decide +kernel⟩
theorem kR {f fR fW:Addr}{fd dR dW:FuncData}(F:Fun K "are_from_nought" "are_from_nought" qm f fd) (G:Mgs mg) (UR:Use P w K mg base "is_row" ["thing","many"] 1 (wc K) fR dR) (UW:Use P w K mg base "is_whole" ["thing"] 1 (vW K) fW dW):FnOk P w K mg base CX0 2 f fd ["thing","many"] (tW K):=by
 refine F.ok dk (fun vs H Q E h=>?_) (fun cdv A outer s H vs Q E hr h=>?_)
 ·obtain⟨x,many,rfl,_⟩:=h
  rfl
 obtain⟨x,many,rfl,dx,k⟩:=h
 refine⟨_,(@zK _ _ _ (@zU _ _ _ _ (@xc _ _ _ _ _ _ _ (@zJ _ _ _ _ _ _ _ _ _ _ _ _ _ _ _ _ UR.ok hr (by rfl) UR.m UR.kp UR.b .nil zS (@zA _ _ _ _ _ (@pv _ 0 _ _ (by rfl) (by first|exact Or.inl rfl|exact Or.inr (.inl rfl)|exact Or.inr (.inr rfl)) (by decide) (by decide)) (@zA _ _ _ _ _ (@pv _ 1 _ _ (by rfl) (by first|exact Or.inl rfl|exact Or.inr (.inl rfl)|exact Or.inr (.inr rfl)) (by decide) (by decide)) zB (by rfl)) (by rfl)) (by decide) (by rfl) (by rfl)) (@wQ _ _ _ _ _ (@zQ _ _ _ _ _ _ _ _ _ (wG rfl true) (by rfl) G.all (by rfl) (@zA _ _ _ _ _ (@xN _ _ _ _ none _ _ _ _ _ _ ["number"] [none] rfl (@yX _ _ _ _ (@pv _ 0 _ _ (by rfl) (by first|exact Or.inl rfl|exact Or.inr (.inl rfl)|exact Or.inr (.inr rfl)) (by decide) (by decide))) (CapOk.of (by kernel_rfl)) (fun _ _ _ _ _=>(@zL _ _ 0 _ (show (["number"]:List Str).Nodup from by decide +kernel) rfl (.inl rfl) (.inr rfl))) (fun _ _ _ _ _=>yN) (fun _ _ _ _ _=>(@xc _ _ _ _ _ _ _ (@zJ _ _ _ _ _ _ _ _ _ _ _ _ _ _ _ _ UW.ok hr (by rfl) UW.m UW.kp UW.b .nil zS (@zA _ _ _ _ _ (@pv _ 0 _ _ (by rfl) (by first|exact Or.inl rfl|exact Or.inr (.inl rfl)|exact Or.inr (.inr rfl)) (by decide) (by decide)) zB (by rfl)) (by decide) (by rfl) (by rfl)) (@wQ _ _ _ _ _ (@y8 _ _ _ _ _ _ _ _ iY (@pv _ 0 _ _ (by rfl) (by first|exact Or.inl rfl|exact Or.inr (.inl rfl)|exact Or.inr (.inr rfl)) (by decide) (by decide)) zE (zp _))))) (by intro _;rfl)) zB (by rfl)) (by decide) (by decide) (by rfl) (by rfl)))))),?_⟩
 refine⟨_,rfl,_,rfl,x,many,rfl,dx.any,_,rfl,?_⟩
 cases z:zw H x with
 | none =>
  have e:xb H many x=false:=by unfold xb;rw[z]
  have e2:yY H many x=false:=by unfold yY;rw[z]
  rw[e]
  rw[e2]at k
  exact zv (k H (Same.refl H))
 | some xs =>
  have e:xb H many x=decide ((xs.length:Int)=many):=by unfold xb;rw[z]
  have e2:yY H many x=(decide ((xs.length:Int)=many) && xs.all (y4 0)):=by unfold yY;rw[z]
  rw[e]
  rw[e2]at k
  obtain⟨a,rfl,ha⟩:=yI z
  by_cases lm:(xs.length:Int)=many
  ·rw[decide_eq_true lm]at k ⊢
   refine yP ⟨_,rfl,a,rfl,⟨_,SqT.of ha⟩,fun l hl=>?_⟩
   refine xk (K:=K) (a:=a) (xs:=xs) (fun i acc σ H2=>(∃ v,σ=[v])∧Same H H2∧H2 l=some (.lst acc)∧acc=((xs.take i).map (y4 0)).map V.bl) ⟨⟨_,rfl⟩,zC hl _,zD,rfl⟩ (fun i acc σ H2 q=>⟨q.2.2.1,SqT.of (q.2.1 _ _ ha)⟩) ?_ ?_
   ·rintro i y acc σ H2 hy ⟨⟨v,rfl⟩,s2,h2,rfl⟩
    have il:=(List.getElem?_eq_some_iff.mp hy).1
    have fin:H2 l=some (.lst (((xs.take i).map (y4 0)).map V.bl))∧(((xs.take i).map (y4 0)).map V.bl).length<sizeLine∧Nx xs.length i ((∃ v,[some y]=[v])∧Same H (L2.upd H2 l (.lst (((xs.take i).map (y4 0)).map V.bl++[V.bl (y4 0 y)])))∧L2.upd H2 l (.lst (((xs.take i).map (y4 0)).map V.bl++[V.bl (y4 0 y)])) l=some (.lst (((xs.take i).map (y4 0)).map V.bl++[V.bl (y4 0 y)]))∧((xs.take i).map (y4 0)).map V.bl++[V.bl (y4 0 y)]=((xs.take (i+1)).map (y4 0)).map V.bl):=by
     refine⟨h2,?_,nx il ⟨⟨_,rfl⟩,fun c o e=>?_,zD,?_⟩⟩
     ·rw[List.length_map,List.length_map,List.length_take];exact Nat.lt_of_le_of_lt (Nat.min_le_left _ _) (Nat.lt_of_lt_of_le (show i<1000 by have:=(dx.2 xs z).1;lia) (by decide))
     ·rw[zH (zG e hl)];exact s2 c o e
     ·rw[List.take_succ_eq_append_getElem il,List.map_append,List.map_append,(List.getElem?_eq_some_iff.mp hy).2];rfl
    refine⟨_,rfl,_,rfl,AnyT.same s2 ((dx.2 xs z).2 y (List.mem_of_getElem? hy)),_,rfl,?_⟩
    cases y with
    | int i0=>exact yP ⟨_,rfl,_,_,rfl,rfl,fin⟩
    | bl b=>exact zv fin
    | non=>exact zv fin
    | str b=>exact zv fin
    | flt b=>exact zv fin
    | byt b=>exact zv fin
    | ref b=>exact zv fin
    | ty b=>exact zv fin
   ·rintro acc σ H2 ⟨⟨v,rfl⟩,s2,h2,rfl⟩
    rw[List.take_length]at h2
    refine⟨l,xs.map (y4 0),rfl,SqL.of h2,?_⟩
    rw[List.all_map]
    exact k H2 s2
  ·rw[decide_eq_false lm]at k ⊢
   exact zv (k H (Same.refl H))
end
abbrev ql:Stmt:=top 9
abbrev qt:Stmt:=top 10
def tV:Sp:=fun vs H Q _=>∃ a xs,∃ (place:Nat) (v:Int),vs=[.ref a,.int place,.int v]∧H a=some (.tup (List.map V.int xs))∧place<xs.length∧xs.length≤1000∧∀ p H',Same H H'→H' p=some (.tup ((xs.set place v).map V.int))→Q (.ref p) H'
def tu:Sp:=fun vs H Q _=>∃ a xs,∃ (place:Nat) (v:Int),vs=[.ref a,.int place,.int v]∧H a=some (.tup (List.map V.int xs))∧place<xs.length∧xs.length≤1000∧∀ p H',Same H H'→H' p=some (.tup ((xs.set place (xs.getD place 0+v)).map V.int))→Q (.ref p) H'
section
variable {P:Program}{w:World}{K:PySem.W.Frag}{mg:Str→Option Value}{base:Heap}
theorem dg:FnScope ["row","place","value"] ["row","place","value"] (zM ql):=⟨rfl,rfl,rfl,by decide +kernel,rfl,by decide +kernel,by decide +kernel⟩
theorem kQ {f:Addr}{fd:FuncData}(F:Fun K "given_at" "given_at" ql f fd) (G:Mgs mg):FnOk P w K mg base CX0 1 f fd ["row","place","value"] tV:=by
 refine F.ok dg (fun vs H Q E h=>?_) (fun cdv A outer s H vs Q E hr h=>?_)
 ·obtain⟨a,xs,place,v,rfl,_⟩:=h
  rfl
 obtain⟨a,xs,place,v,rfl,ha,pl,xl,k⟩:=h
 refine⟨_,(@zK _ _ _ (@zU _ _ _ _ (@zR _ _ _ _ _ _ _ _ yZ (@zR _ _ _ _ _ _ _ _ yZ (@zu _ _ _ _ _ _ _ _ _ _ yR (@pv _ 0 _ _ (by rfl) (by first|exact Or.inl rfl|exact Or.inr (.inl rfl)|exact Or.inr (.inr rfl)) (by decide) (by decide)) yC (@zo _ _ _ (@pv _ 1 _ _ (by rfl) (by first|exact Or.inl rfl|exact Or.inr (.inl rfl)|exact Or.inr (.inr rfl)) (by decide) (by decide)))) (@zX _ _ _ _ _ (@zA _ _ _ _ _ (@pv _ 2 _ _ (by rfl) (by first|exact Or.inl rfl|exact Or.inr (.inl rfl)|exact Or.inr (.inr rfl)) (by decide) (by decide)) zB (by rfl)))) (@zu _ _ _ _ _ _ _ _ _ _ yR (@pv _ 0 _ _ (by rfl) (by first|exact Or.inl rfl|exact Or.inr (.inl rfl)|exact Or.inr (.inr rfl)) (by decide) (by decide)) (@zo _ _ _ (@zR _ _ _ _ _ _ _ _ yJ (@pv _ 1 _ _ (by rfl) (by first|exact Or.inl rfl|exact Or.inr (.inl rfl)|exact Or.inr (.inr rfl)) (by decide) (by decide)) zE)) yC)))),?_⟩
 have ml:(xs.map V.int).length=xs.length:=List.length_map _
 refine⟨_,rfl,_,rfl,_,rfl,a,_,rfl,ha,fun p1 H1 s1 h1=>?_⟩
 rw[uV _ place (by lia)]at h1
 refine⟨_,rfl,(by show 1≤sizeLine;decide),fun p2 hp2=>?_⟩
 have s2:=zC hp2 (.tup [.int v])
 refine⟨p1,p2,_,_,rfl,rfl,s2 _ _ h1,zD,?_,fun p3 H3 s3 h3=>?_⟩
 ·rw[List.length_take,sizeLine_eq];show _+1≤_;lia
 have u3:=(s1.trans s2).trans s3
 refine⟨_,rfl,_,rfl,_,_,rfl,rfl,_,rfl,a,_,rfl,u3 _ _ ha,fun p4 H4 s4 h4=>?_⟩
 rw[show ((place:Int)+1)=((place+1:Nat):Int) from rfl,uW _ (place+1) (by lia)]at h4
 refine⟨p3,p4,_,_,rfl,rfl,s4 _ _ h3,h4,?_,fun p5 H5 s5 h5=>?_⟩
 ·rw[List.length_append,List.length_take,List.length_drop,sizeLine_eq];show _+1+_≤_;lia
 exact k p5 H5 ((u3.trans s4).trans s5) (by rw[h5,oE xs place v pl])
theorem dq:FnScope ["counts","place","many"] ["counts","place","many"] (zM qt):=⟨rfl,rfl,rfl,by decide +kernel,rfl,by decide +kernel,by decide +kernel⟩
theorem kW {f fG:Addr}{fd dG:FuncData}(F:Fun K "added" "added" qt f fd) (G:Mgs mg) (UG:Use P w K mg base "given_at" ["row","place","value"] 1 tV fG dG):FnOk P w K mg base CX0 2 f fd ["counts","place","many"] tu:=by
 refine F.ok dq (fun vs H Q E h=>?_) (fun cdv A outer s H vs Q E hr h=>?_)
 ·obtain⟨a,xs,place,v,rfl,_⟩:=h
  rfl
 obtain⟨a,xs,place,v,rfl,ha,pl,xl,k⟩:=h
 refine⟨_,(@zK _ _ _ (@zU _ _ _ _ (@zJ _ _ _ _ _ _ _ _ _ _ _ _ _ _ _ _ UG.ok hr (by rfl) UG.m UG.kp UG.b .nil zS (@zA _ _ _ _ _ (@pv _ 0 _ _ (by rfl) (by first|exact Or.inl rfl|exact Or.inr (.inl rfl)|exact Or.inr (.inr rfl)) (by decide) (by decide)) (@zA _ _ _ _ _ (@pv _ 1 _ _ (by rfl) (by first|exact Or.inl rfl|exact Or.inr (.inl rfl)|exact Or.inr (.inr rfl)) (by decide) (by decide)) (@zA _ _ _ _ _ (@zR _ _ _ _ _ _ _ _ yJ (@zY _ _ _ _ _ _ _ yB (@pv _ 0 _ _ (by rfl) (by first|exact Or.inl rfl|exact Or.inr (.inl rfl)|exact Or.inr (.inr rfl)) (by decide) (by decide)) (@pv _ 1 _ _ (by rfl) (by first|exact Or.inl rfl|exact Or.inr (.inl rfl)|exact Or.inr (.inr rfl)) (by decide) (by decide)) (fun _ _=>rfl)) (@pv _ 2 _ _ (by rfl) (by first|exact Or.inl rfl|exact Or.inr (.inl rfl)|exact Or.inr (.inr rfl)) (by decide) (by decide))) zB (by rfl)) (by rfl)) (by rfl)) (by decide) (by rfl) (by rfl)))),?_⟩
 exact⟨_,rfl,_,rfl,_,rfl,_,rfl,a,_,_,_,rfl,rfl,SqT.of ha,xY pl,_,rfl,_,_,rfl,rfl,a,xs,place,_,rfl,ha,pl,xl,k⟩
end
abbrev sF:Stmt:=top 12
abbrev uA:Stmt:=top 18
abbrev sC:Stmt:=top 19
abbrev qk:Stmt:=top 22
theorem rh (n:Nat):List.replicate n (V.int 0)=(List.replicate n (0:Int)).map V.int:=(List.map_replicate).symm
section
variable {P:Program}{w:World}{K:PySem.W.Frag}{mg:Str→Option Value}{base:Heap}
theorem di:FnScope ["net"] ["net"] (zM sF):=⟨rfl,rfl,rfl,by decide +kernel,rfl,by decide +kernel,by decide +kernel⟩
theorem nj {f:Addr}{fd:FuncData}(F:Fun K "first_turns" "first_turns" sF f fd) (G:Mgs mg):FnOk P w K mg base CX0 1 f fd ["net"] vt:=by
 refine F.ok di (fun vs H Q E h=>?_) (fun cdv A outer s H vs Q E hr h=>?_)
 ·obtain⟨r,fr,er,ps,N,rfl,_⟩:=h
  rfl
 obtain⟨r,fr,er,ps,N,rfl,ok,na,k⟩:=h
 refine⟨_,(@zK _ _ _ (@zU _ _ _ _ (@zR _ _ _ _ _ _ _ _ va (@zX _ _ _ _ _ (@zA _ _ _ _ _ zE zB (by rfl))) (@zQ _ _ _ _ _ _ _ _ _ zW (by rfl) G.len PySem.boot_len (@zA _ _ _ _ _ (@zY _ _ _ _ _ _ _ yB (@pv _ 0 _ _ (by rfl) (by first|exact Or.inl rfl|exact Or.inr (.inl rfl)|exact Or.inr (.inr rfl)) (by decide) (by decide)) zE (fun _ _=>rfl)) zB (by rfl)) (by decide) (by decide) (by rfl) (by rfl))))),?_⟩
 refine⟨by show 1≤sizeLine;decide,fun t ht=>?_⟩
 have s1:=zC ht (.tup [.int 0])
 have pl:=na.prs.len
 have fm:=ok.fm
 refine⟨_,rfl,r,_,_,_,rfl,rfl,SqT.of (s1 _ _ na.net),rfl,fr,ps,rfl,.inr (SqT.of (s1 _ _ na.forks)),t,_,ps.length,rfl,rfl,zD,by lia,fun p H' s' h'=>k p H' (s1.trans s') ?_⟩
 rw[h',rh,pl]
theorem dj:FnScope ["net"] ["net"] (zM uA):=⟨rfl,rfl,rfl,by decide +kernel,rfl,by decide +kernel,by decide +kernel⟩
theorem pI {f fT:Addr}{fd dT:FuncData}(F:Fun K "first_place" "first_place" uA f fd) (UT:Use P w K mg base "first_turns" ["net"] 1 vt fT dT):FnOk P w K mg base CX0 2 f fd ["net"] ww:=by
 refine F.ok dj (fun vs H Q E h=>?_) (fun cdv A outer s H vs Q E hr h=>?_)
 ·obtain⟨r,fr,er,ps,N,rfl,_⟩:=h
  rfl
 obtain⟨r,fr,er,ps,N,rfl,ok,na,k⟩:=h
 refine⟨_,(@zK _ _ _ (@zU _ _ _ _ (@zX _ _ _ _ _ (@zA _ _ _ _ _ (@zJ _ _ _ _ _ _ _ _ _ _ _ _ _ _ _ _ UT.ok hr (by rfl) UT.m UT.kp UT.b .nil zS (@zA _ _ _ _ _ (@pv _ 0 _ _ (by rfl) (by first|exact Or.inl rfl|exact Or.inr (.inl rfl)|exact Or.inr (.inr rfl)) (by decide) (by decide)) zB (by rfl)) (by decide) (by rfl) (by rfl)) (@zA _ _ _ _ _ (@zR _ _ _ _ _ _ _ _ va (@zX _ _ _ _ _ (@zA _ _ _ _ _ zE zB (by rfl))) (@zY _ _ _ _ _ _ _ yB (@pv _ 0 _ _ (by rfl) (by first|exact Or.inl rfl|exact Or.inr (.inl rfl)|exact Or.inr (.inr rfl)) (by decide) (by decide)) zE (fun _ _=>rfl))) zB (by rfl)) (by rfl))))),?_⟩
 have l16:=ok.l16
 refine⟨_,rfl,r,fr,er,ps,N,rfl,ok,na,fun t H1 s1 h1=>⟨by show 1≤sizeLine;decide,fun u hu=>?_⟩⟩
 have s2:=zC hu (.tup [.int 0])
 have na2:=(na.tups (Tups.of s1)).tups (Tups.of s2)
 refine⟨_,rfl,r,_,_,_,rfl,rfl,SqT.of na2.net,rfl,u,_,N.lanes,rfl,rfl,zD,by lia,fun p H3 s3 h3=>?_⟩
 refine⟨by show 2≤sizeLine;decide,fun q hq=>?_⟩
 have s4:=zC hq (.tup [.ref t,.ref p])
 rw[rh]at h3
 exact k q _ (((s1.trans s2).trans s3).trans s4) (xw zD (s4 _ _ (s3 _ _ (s2 _ _ h1))) (s4 _ _ h3))
theorem qZ:FnScope ["net","place","lane","turns","heights","onward","end","more","least"] ["net","place","lane"] (zM sC):=⟨rfl,rfl,rfl,by decide +kernel,rfl,by decide +kernel,by decide +kernel⟩
theorem kH {N:Nt}(ok:Nt.Ok N) {ts:List Int}{lane:Nat}(h:lane<N.lanes):passE N ts lane<N.lanes:=by
 have b:=(xE (back:=false) (ts:=ts) ok.fk h N.forks.length (Nat.le_refl _))
 have:=List.idxOf_lt_length_of_mem (ok.en.mem_iff.mpr (List.mem_range.mpr b))
 rw[ok.en.length_eq,List.length_range]at this
 exact this
theorem nZ {f fP fA:Addr}{fd dP dA:FuncData}(F:Fun K "place_behind" "place_behind" sC f fd) (G:Mgs mg) (UP:Use P w K mg base "passed" ["net","turns","lane"] 3 (wO false) fP dP) (UA:Use P w K mg base "added" ["counts","place","many"] 2 tu fA dA):FnOk P w K mg base CX0 4 f fd ["net","place","lane"] wZ:=by
 refine F.ok qZ (fun vs H Q E h=>?_) (fun cdv A outer s H vs Q E hr h=>?_)
 ·obtain⟨r,fr,er,ps,N,b,k,lane,rfl,_⟩:=h
  rfl
 obtain⟨r,fr,er,ps,N,b,k,lane,rfl,ok,na,kb,⟨ts,hs,rfl,tl,bits,hl,h0,hz⟩,ll,q2⟩:=h
 have hr2:Room 2 _:=hr.mono (by decide)
 refine⟨_,(@zF _ _ _ _ _ (@yG _ _ _ _ _ _ (@pv _ 1 _ _ (by rfl) (by first|exact Or.inl rfl|exact Or.inr (.inl rfl)|exact Or.inr (.inr rfl)) (by decide) (by decide)) (@yE _ _ _ _ _ _ rfl (@zN _ _ _ _ _ (@zL _ _ 3 _ qZ.nd rfl (.inl rfl) (by first|exact .inl rfl|exact .inr rfl|assumption)) (@zN _ _ _ _ _ (@zL _ _ 4 _ qZ.nd rfl (.inl rfl) (by first|exact .inl rfl|exact .inr rfl|assumption)) zt (by rfl)) (by rfl)) (by rfl) (by rfl)) (by rfl) (by rfl) (by rfl)) (@zF _ _ _ _ _ (@yG _ _ _ _ _ _ (@zJ _ _ _ _ _ _ _ _ _ _ _ _ _ _ _ _ UP.ok hr (by rfl) UP.m UP.kp UP.b .nil zS (@zA _ _ _ _ _ (@pv _ 0 _ _ (by rfl) (by first|exact Or.inl rfl|exact Or.inr (.inl rfl)|exact Or.inr (.inr rfl)) (by decide) (by decide)) (@zA _ _ _ _ _ (@pv _ 3 _ _ (by rfl) (by first|exact Or.inl rfl|exact Or.inr (.inl rfl)|exact Or.inr (.inr rfl)) (by decide) (by decide)) (@zA _ _ _ _ _ (@pv _ 2 _ _ (by rfl) (by first|exact Or.inl rfl|exact Or.inr (.inl rfl)|exact Or.inr (.inr rfl)) (by decide) (by decide)) zB (by rfl)) (by rfl)) (by rfl)) (by decide) (by rfl) (by rfl)) (@yE _ _ _ _ _ _ rfl (@zN _ _ _ _ _ (@zL _ _ 5 _ qZ.nd rfl (.inl rfl) (by first|exact .inl rfl|exact .inr rfl|assumption)) (@zN _ _ _ _ _ (@zL _ _ 6 _ qZ.nd rfl (.inl rfl) (by first|exact .inl rfl|exact .inr rfl|assumption)) zt (by rfl)) (by rfl)) (by rfl) (by rfl)) (by rfl) (by rfl) (by rfl)) (@zF _ _ _ _ _ (@zi _ _ 7 _ _ _ _ qZ.nd rfl (.inl rfl) (@zJ _ _ _ _ _ _ _ _ _ _ _ _ _ _ _ _ UA.ok hr2 (by rfl) UA.m UA.kp UA.b .nil zS (@zA _ _ _ _ _ (@pv _ 4 _ _ (by rfl) (by first|exact Or.inl rfl|exact Or.inr (.inl rfl)|exact Or.inr (.inr rfl)) (by decide) (by decide)) (@zA _ _ _ _ _ (@pv _ 6 _ _ (by rfl) (by first|exact Or.inl rfl|exact Or.inr (.inl rfl)|exact Or.inr (.inr rfl)) (by decide) (by decide)) (@zA _ _ _ _ _ zE zB (by rfl)) (by rfl)) (by rfl)) (by decide) (by rfl) (by rfl)) (by rfl) (by first|exact .inl rfl|exact .inr rfl|assumption)) (@zF _ _ _ _ _ (@zi _ _ 8 _ _ _ _ qZ.nd rfl (.inr rfl) (@zQ _ _ _ _ _ _ _ _ _ (wE rfl false) (by rfl) G.min (by rfl) (@zA _ _ _ _ _ (@pv _ 7 _ _ (by rfl) (by first|exact Or.inl rfl|exact Or.inr (.inl rfl)|exact Or.inr (.inr rfl)) (by decide) (by decide)) zB (by rfl)) (by decide) (by decide) (by rfl) (by rfl)) (by rfl) (by first|exact .inl rfl|exact .inr rfl|assumption)) (@zK _ _ _ (@zU _ _ _ _ (@zX _ _ _ _ _ (@zA _ _ _ _ _ (@pv _ 5 _ _ (by rfl) (by first|exact Or.inl rfl|exact Or.inr (.inl rfl)|exact Or.inr (.inr rfl)) (by decide) (by decide)) (@zA _ _ _ _ _ (@zV _ _ _ _ _ _ _ _ _ zZ (by rfl) G.tuple (by rfl) (@zA _ _ _ _ _ (@xN _ _ _ _ none _ _ _ _ _ _ ["height","least"] [none,some 8] rfl (@yX _ _ _ _ (@pv _ 7 _ _ (by rfl) (by first|exact Or.inl rfl|exact Or.inr (.inl rfl)|exact Or.inr (.inr rfl)) (by decide) (by decide))) (CapOk.of (by kernel_rfl)) (fun _ _ _ _ _=>(@zL _ _ 0 _ (show (["height","least"]:List Str).Nodup from by decide +kernel) rfl (.inl rfl) (.inr rfl))) (fun _ _ _ _ _=>yN) (fun _ _ _ _ _=>(@zR _ _ _ _ _ _ _ _ yz (@pv _ 0 _ _ (by rfl) (by first|exact Or.inl rfl|exact Or.inr (.inl rfl)|exact Or.inr (.inr rfl)) (by decide) (by decide)) (@pv _ 1 _ _ (by rfl) (by first|exact Or.inl rfl|exact Or.inr (.inl rfl)|exact Or.inr (.inr rfl)) (by decide) (by decide)))) (by intro _;rfl)) zB (by rfl)) (by decide) (by decide) (by rfl) (by rfl)) zB (by rfl)) (by rfl))))))))),?_⟩
 obtain⟨t,u,hb,ht,hu⟩:=vM kb
 have l16:=ok.l16
 refine⟨_,rfl,b,_,rfl,SqT.of hb,rfl,_,_,rfl,_,_,rfl,rfl,?_⟩
 refine⟨_,rfl,_,rfl,_,rfl,r,fr,er,ps,N,t,ts,lane,rfl,ok,na,ht,tl,bits,ll,fun p tr' H1 s1 hp htr=>?_⟩
 refine⟨p,_,rfl,SqT.of hp,rfl,_,_,rfl,_,_,rfl,rfl,?_⟩
 have pl:=kH (ts:=ts) ok ll
 refine⟨_,rfl,_,rfl,u,hs,passE N ts lane,1,rfl,s1 _ _ hu,by lia,by lia,fun m H2 s2 hm=>?_⟩
 have ne:yd hs (passE N ts lane) 1≠[]:=fun z=>by
  have:=congrArg List.length z
  rw[yW,List.length_nil]at this
  lia
 change H2 m=some (.tup ((yd hs (passE N ts lane) 1).map V.int)) at hm
 refine⟨_,rfl,m,_,rfl,SqT.of hm,List.length_pos_iff.mpr ne,fun M mM lM=>?_⟩
 have eM:=x9 mM lM
 refine⟨_,rfl,_,rfl,m,rfl,⟨_,SqT.of hm⟩,fun l hl0=>?_⟩
 have al:(yd hs (passE N ts lane) 1).length=N.lanes:=by rw[yW];exact hl
 refine xk (K:=K) (a:=m) (xs:=(yd hs (passE N ts lane) 1).map V.int) (fun i acc σ H3=>(∃ v,σ=[v,some (.int M)])∧Same H2 H3∧H3 l=some (.lst acc)∧acc=(((yd hs (passE N ts lane) 1).take i).map fun h=>h-M).map V.int) ⟨⟨_,rfl⟩,zC hl0 _,zD,rfl⟩ (fun i acc σ H3 q=>⟨q.2.2.1,SqT.of (q.2.1 _ _ hm)⟩) ?_ ?_
 ·rintro i y acc σ H3 hy ⟨⟨v,rfl⟩,s3,h3,rfl⟩
  rw[List.getElem?_map]at hy
  obtain⟨h,eh,rfl⟩:=Option.map_eq_some_iff.mp hy
  have il:=(List.getElem?_eq_some_iff.mp eh).1
  refine⟨_,rfl,_,rfl,_,_,rfl,rfl,h3,?_,nx (by rw[List.length_map];exact il) ⟨⟨_,rfl⟩,fun c o e=>?_,zD,?_⟩⟩
  ·rw[List.length_map,List.length_map,List.length_take,sizeLine_eq];lia
  ·rw[zH (zG e hl0)];exact s3 c o e
  ·rw[List.take_succ_eq_append_getElem il,List.map_append,List.map_append,(List.getElem?_eq_some_iff.mp eh).2];rfl
 ·rintro acc σ H3 ⟨⟨v,rfl⟩,s3,h3,rfl⟩
  rw[List.length_map,List.take_length,← eM]at h3
  refine⟨l,_,rfl,.inl ⟨SqL.of h3,fun q hq=>⟨by show 2≤sizeLine;decide,fun z hz=>?_⟩⟩⟩
  have s4:=zC hq (.tup ((vT (yd hs (passE N ts lane) 1)).map V.int))
  have s5:=zC hz (.tup [.ref tr',.ref q])
  have u5:=((s2.trans s3).trans s4).trans s5
  exact q2 _ z _ (s1.trans u5) (wX N ts hs lane) (xw zD (u5 _ _ htr) (s5 _ _ zD))
theorem fq:FnScope ["net","far","thing","heights"] ["net","far","thing"] (zM qk):=⟨rfl,rfl,rfl,by decide +kernel,rfl,by decide +kernel,by decide +kernel⟩
theorem kO {f fR fB fN:Addr}{fd dR dB dN:FuncData}(F:Fun K "is_low_place" "is_low_place" qk f fd) (G:Mgs mg) (UR:Use P w K mg base "is_row" ["thing","many"] 1 (wc K) fR dR) (UB:Use P w K mg base "are_below" ["thing","many","bound"] 3 (tZ K) fB dB) (UN:Use P w K mg base "are_from_nought" ["thing","many"] 2 (tW K) fN dN):FnOk P w K mg base CX0 4 f fd ["net","far","thing"] (vX K):=by
 refine F.ok fq (fun vs H Q E h=>?_) (fun cdv A outer s H vs Q E hr h=>?_)
 ·obtain⟨r,fr,er,ps,N,far,x,rfl,_⟩:=h
  rfl
 obtain⟨r,fr,er,ps,N,far,x,rfl,ok,na,dx,k⟩:=h
 have hr1:Room 1 _:=hr.mono (by decide)
 have hr2:Room 2 _:=hr.mono (by decide)
 refine⟨_,(@zF _ _ _ _ _ (@yM _ _ _ _ _ _ _ _ (@oF _ _ _ _ _ _ _ (@sJ _ _ _ _ (@w8 _ _ _ (@zJ _ _ _ _ _ _ _ _ _ _ _ _ _ _ _ _ UR.ok hr1 (by rfl) UR.m UR.kp UR.b .nil zS (@zA _ _ _ _ _ (@pv _ 2 _ _ (by rfl) (by first|exact Or.inl rfl|exact Or.inr (.inl rfl)|exact Or.inr (.inr rfl)) (by decide) (by decide)) (@zA _ _ _ _ _ zE zB (by rfl)) (by rfl)) (by decide) (by rfl) (by rfl)) (by intro _;rfl))) (@sI _ _ _ _ (@sJ _ _ _ _ (@w8 _ _ _ (@zJ _ _ _ _ _ _ _ _ _ _ _ _ _ _ _ _ UB.ok hr (by rfl) UB.m UB.kp UB.b .nil zS (@zA _ _ _ _ _ (@zY _ _ _ _ _ _ _ yB (@pv _ 2 _ _ (by rfl) (by first|exact Or.inl rfl|exact Or.inr (.inl rfl)|exact Or.inr (.inr rfl)) (by decide) (by decide)) zE (fun _ _=>rfl)) (@zA _ _ _ _ _ (@zQ _ _ _ _ _ _ _ _ _ zW (by rfl) G.len PySem.boot_len (@zA _ _ _ _ _ (@zY _ _ _ _ _ _ _ yB (@pv _ 0 _ _ (by rfl) (by first|exact Or.inl rfl|exact Or.inr (.inl rfl)|exact Or.inr (.inr rfl)) (by decide) (by decide)) zE (fun _ _=>rfl)) zB (by rfl)) (by decide) (by decide) (by rfl) (by rfl)) (@zA _ _ _ _ _ zE zB (by rfl)) (by rfl)) (by rfl)) (by decide) (by rfl) (by rfl)) (by intro _;rfl))))).pt (@zK _ _ _ (@zU _ _ _ _ yq)) zk) (@zF _ _ _ _ _ (@zi _ _ 3 _ _ _ _ fq.nd rfl (.inl rfl) (@zY _ _ _ _ _ _ _ yB (@pv _ 2 _ _ (by rfl) (by first|exact Or.inl rfl|exact Or.inr (.inl rfl)|exact Or.inr (.inr rfl)) (by decide) (by decide)) zE (fun _ _=>rfl)) (by rfl) (by first|exact .inl rfl|exact .inr rfl|assumption)) (@zK _ _ _ (@zU _ _ _ _ (@xc _ _ _ _ _ _ _ (@zJ _ _ _ _ _ _ _ _ _ _ _ _ _ _ _ _ UN.ok hr2 (by rfl) UN.m UN.kp UN.b .nil zS (@zA _ _ _ _ _ (@pv _ 3 _ _ (by rfl) (by first|exact Or.inl rfl|exact Or.inr (.inl rfl)|exact Or.inr (.inr rfl)) (by decide) (by decide)) (@zA _ _ _ _ _ (@zY _ _ _ _ _ _ _ yB (@pv _ 0 _ _ (by rfl) (by first|exact Or.inl rfl|exact Or.inr (.inl rfl)|exact Or.inr (.inr rfl)) (by decide) (by decide)) zE (fun _ _=>rfl)) zB (by rfl)) (by rfl)) (by decide) (by rfl) (by rfl)) (@xc _ _ _ _ _ _ _ (@y8 _ _ _ _ _ _ _ _ y0 (@zQ _ _ _ _ _ _ _ _ _ (wE rfl false) (by rfl) G.min (by rfl) (@zA _ _ _ _ _ (@pv _ 3 _ _ (by rfl) (by first|exact Or.inl rfl|exact Or.inr (.inl rfl)|exact Or.inr (.inr rfl)) (by decide) (by decide)) zB (by rfl)) (by decide) (by decide) (by rfl) (by rfl)) zE (zp _)) (@wQ _ _ _ _ _ (@y8 _ _ _ _ _ _ _ _ oO (@zQ _ _ _ _ _ _ _ _ _ (vH rfl false) (by rfl) G.max (by rfl) (@zA _ _ _ _ _ (@pv _ 3 _ _ (by rfl) (by first|exact Or.inl rfl|exact Or.inr (.inl rfl)|exact Or.inr (.inr rfl)) (by decide) (by decide)) zB (by rfl)) (by decide) (by decide) (by rfl) (by rfl)) (@pv _ 1 _ _ (by rfl) (by first|exact Or.inl rfl|exact Or.inr (.inl rfl)|exact Or.inr (.inr rfl)) (by decide) (by decide)) (zp _))))))))),?_⟩
 refine⟨_,rfl,x,2,rfl,dx.any,_,rfl,?_⟩
 have no:xb H 2 x=false→wR H (N.forks.length:Nat) (N.lanes:Nat) far x=false:=fun e=>by
  unfold wR
  split
  ·rename_i t h z
   unfold xb at e;rw[z]at e;cases e
  ·rfl
 cases c:xb H 2 x with
 | false =>
  rw[no c]at k
  exact yP (yP (k H (Same.refl H)))
 | true =>
 refine zv ?_
 obtain⟨t,h,hrw⟩:∃ t h,zw H x=some [t,h]:=by
  unfold xb at c
  split at c
  ·rename_i xs z
   have l:=of_decide_eq_true c
   match xs,l,z with
   | [t,h],_,z=>exact⟨t,h,z⟩
   | [],l,_=>cases l
   | [_],l,_=>cases l
   | _::_::_::_,l,_=>simp at l;lia
  ·cases c
 obtain⟨b,rfl,hb⟩:=yI hrw
 have dt:=(dx.2 _ hrw).2 t (.head _)
 have dh:=(dx.2 _ hrw).2 h (.tail _ (.head _))
 have ev:∀ H',Same H H'→Q (.bl (ya H (N.forks.length:Nat) 2 t && (yY H (N.lanes:Nat) h && (decide (uH (wH H h)=0) && decide (n4 (wH H h)≤far))))) H':=fun H' s=>by
  have:=k H' s
  unfold wR at this
  rw[hrw]at this
  exact this
 refine⟨_,rfl,b,_,_,_,rfl,rfl,SqT.of hb,rfl,?_⟩
 refine⟨_,rfl,r,_,_,_,rfl,rfl,SqT.of na.net,rfl,fr,ps,rfl,.inr (SqT.of na.forks),t,_,2,rfl,dt,fun H1 s1=>⟨_,rfl,?_⟩⟩
 rw[na.prs.len]
 cases c1:ya H (N.forks.length:Nat) 2 t with
 | false =>
  rw[c1]at ev
  exact yP (ev H1 s1)
 | true =>
 rw[c1]at ev
 refine zv ?_
 refine⟨_,rfl,b,_,_,_,rfl,rfl,SqT.of (s1 _ _ hb),rfl,?_⟩
 refine⟨_,rfl,_,rfl,r,_,_,_,rfl,rfl,SqT.of (s1 _ _ na.net),rfl,h,_,rfl,jH s1 dh,fun H2 s2=>?_⟩
 have u2:=s1.trans s2
 have e2:yY H1 (N.lanes:Nat) h=yY H (N.lanes:Nat) h:=by unfold yY;rw[rM s1 dh.any]
 rw[e2]
 refine⟨_,rfl,?_⟩
 cases c2:yY H (N.lanes:Nat) h with
 | false =>
  rw[c2]at ev
  exact zv (ev H2 u2)
 | true =>
 rw[c2]at ev
 refine yP ?_
 obtain⟨hs,z,al⟩:∃ hs,zw H h=some hs∧(hs.length:Int)=(N.lanes:Nat)∧hs=(xG hs).map V.int:=by
  unfold yY at c2
  split at c2
  ·rename_i hs z
   obtain⟨a1,a2⟩:=(Bool.and_eq_true _ _).mp c2
   exact⟨hs,z,of_decide_eq_true a1,uP fun y hy=>vQ (List.all_eq_true.mp a2 y hy)⟩
  ·cases c2
 obtain⟨u,rfl,hu⟩:=yI z
 have ri:wH H (.ref u)=xG hs:=by unfold wH;rw[z];rfl
 rw[ri]at ev
 obtain⟨al,am⟩:=al
 rw[am]at hu
 have il:(xG hs).length=hs.length:=by have:=congrArg List.length am;rw[List.length_map]at this;exact this.symm
 have pos:0<(xG hs).length:=by have:=ok.l1;lia
 refine⟨_,rfl,u,_,rfl,SqT.of (u2 _ _ hu),pos,fun M mM lM=>?_⟩
 rw[x9 mM lM]at ev
 refine⟨rfl,_,rfl,?_⟩
 rw[vd]
 by_cases c3:M=0
 ·rw[decide_eq_true c3]at ev ⊢
  refine yP ⟨_,rfl,u,_,rfl,SqT.of (u2 _ _ hu),pos,fun M2 mM2 lM2=>?_⟩
  rw[oU mM2 lM2]at ev
  exact⟨_,rfl,_,_,rfl,rfl,ev H2 u2⟩
 ·rw[decide_eq_false c3]at ev ⊢
  exact zv (ev H2 u2)
end
abbrev sE:Stmt:=top 13
section
variable {P:Program}{w:World}{K:PySem.W.Frag}{mg:Str→Option Value}{base:Heap}
theorem ft:FnScope ["thing","is_state","first","moves","led","known"] ["thing","is_state","first","moves","led"] (zM sE):=⟨rfl,rfl,rfl,by decide +kernel,rfl,by decide +kernel,by decide +kernel⟩
theorem ni {f:Addr}{fd:FuncData}{SL L:Lam}{frS fr psS lps:List Str}{lspS lsp:LSpc}(F:Fun K "is_book" "is_book" sE f fd) (G:Mgs mg) (LS:LamQ CX0 P w K mg base 4 SL frS psS lspS) (LQ:LamQ CX0 P w K mg base 4 L fr lps lsp):FnOk P w K mg base CX0 6 f fd ["thing","is_state","first","moves","led"] (vq P w K SL frS lspS L fr lsp):=by
 refine F.ok ft (fun vs H Q E h=>?_) (fun cdv A outer s H vs Q E hr h=>?_)
 ·obtain⟨x,fs,b0,mv,f,clS,valsS,k0,moves,cl,vals,step,Ok,n,stO,rfl,_⟩:=h
  rfl
 obtain⟨x,fs,b0,mv,f,clS,valsS,k0,moves,cl,vals,step,Ok,n,stO,rfl,eS,laS,kb0,W,mvl,ax,hx,k⟩:=h
 refine⟨_,(@zF _ _ _ _ _ (@yM _ _ _ _ _ _ _ _ (@oF _ _ _ _ _ _ _ (@sJ _ _ _ _ (@w8 _ _ _ (@zQ _ _ _ _ _ _ _ _ _ wt (by rfl) G.isi (by rfl) (@zA _ _ _ _ _ (@pv _ 0 _ _ (by rfl) (by first|exact Or.inl rfl|exact Or.inr (.inl rfl)|exact Or.inr (.inr rfl)) (by decide) (by decide)) (@zA _ _ _ _ _ (@vZ _ _ (.ty "tuple") (.type "tuple") _ (by rfl) G.tuple (by rfl) rfl (by decide) (by decide)) zB (by rfl)) (by rfl)) (by decide) (by decide) (by rfl) (by rfl)) (by intro _;rfl))) (@sI _ _ _ _ (@sJ _ _ _ _ (@w8 _ _ _ (@zQ _ _ _ _ _ _ _ _ _ (wG rfl true) (by rfl) G.all (by rfl) (@zA _ _ _ _ _ (@xN _ _ _ _ none _ _ _ _ _ _ ["state","is_state"] [none,some 1] rfl (@yX _ _ _ _ (@pv _ 0 _ _ (by rfl) (by first|exact Or.inl rfl|exact Or.inr (.inl rfl)|exact Or.inr (.inr rfl)) (by decide) (by decide))) (CapOk.of (by kernel_rfl)) (fun _ _ _ _ _=>(@zL _ _ 0 _ (show (["state","is_state"]:List Str).Nodup from by decide +kernel) rfl (.inl rfl) (.inr rfl))) (fun _ _ _ _ _=>yN) (fun _ _ _ _ _=>(oK LS hr (@pv _ 1 _ _ (by rfl) (by first|exact Or.inl rfl|exact Or.inr (.inl rfl)|exact Or.inr (.inr rfl)) (by decide) (by decide)) zS (@zA _ _ _ _ _ (@pv _ 0 _ _ (by rfl) (by first|exact Or.inl rfl|exact Or.inr (.inl rfl)|exact Or.inr (.inr rfl)) (by decide) (by decide)) zB (by rfl)))) (by intro _;rfl)) zB (by rfl)) (by decide) (by decide) (by rfl) (by rfl)) (by intro _;rfl))))).pt (@zK _ _ _ (@zU _ _ _ _ yq)) zk) (@zF _ _ _ _ _ (@zi _ _ 5 _ _ _ _ ft.nd rfl (.inr rfl) (kD hr.u3 (N':=["state"]) (cap:=[none]) rfl (@yX _ _ _ _ (@pv _ 0 _ _ (by rfl) (by first|exact Or.inl rfl|exact Or.inr (.inl rfl)|exact Or.inr (.inr rfl)) (by decide) (by decide))) (CapOk.of (by kernel_rfl)) (fun _ _ _ _ _=>(@zL _ _ 0 _ (show (["state"]:List Str).Nodup from by decide +kernel) rfl (.inl rfl) (.inr rfl))) (fun _ _ _ _ _=>(@pv _ 0 _ _ (by rfl) (by first|exact Or.inl rfl|exact Or.inr (.inl rfl)|exact Or.inr (.inr rfl)) (by decide) (by decide))) (fun _ _ _ _ _=>yq)) (by rfl) (by first|exact .inl rfl|exact .inr rfl|assumption)) (@zF _ _ _ _ _ (@yM _ _ _ _ _ _ _ _ (@oF _ _ _ _ _ _ _ (@zj _ _ _ _ _ _ _ _ iX (@zQ _ _ _ _ _ _ _ _ _ wD (by rfl) G.len PySem.boot_len (@zA _ _ _ _ _ (@pv _ 5 _ _ (by rfl) (by first|exact Or.inl rfl|exact Or.inr (.inl rfl)|exact Or.inr (.inr rfl)) (by decide) (by decide)) zB (by rfl)) (by decide) (by decide) (by rfl) (by rfl)) (@zQ _ _ _ _ _ _ _ _ _ zW (by rfl) G.len PySem.boot_len (@zA _ _ _ _ _ (@pv _ 0 _ _ (by rfl) (by first|exact Or.inl rfl|exact Or.inr (.inl rfl)|exact Or.inr (.inr rfl)) (by decide) (by decide)) zB (by rfl)) (by decide) (by decide) (by rfl) (by rfl)) (zp _)) (@sI _ _ _ _ (@pD _ _ _ _ _ _ (vB hr.u3 (@pv _ 2 _ _ (by rfl) (by first|exact Or.inl rfl|exact Or.inr (.inl rfl)|exact Or.inr (.inr rfl)) (by decide) (by decide)) (@pv _ 5 _ _ (by rfl) (by first|exact Or.inl rfl|exact Or.inr (.inl rfl)|exact Or.inr (.inr rfl)) (by decide) (by decide))) (by rfl)))).pt (@zK _ _ _ (@zU _ _ _ _ yq)) zk) (@zK _ _ _ (@zU _ _ _ _ (@zQ _ _ _ _ _ _ _ _ _ (wG rfl true) (by rfl) G.all (by rfl) (@zA _ _ _ _ _ (@gI _ _ _ _ _ _ none _ _ _ (eK K (jX 4)) _ _ _ _ ["state","move","known","led","moves"] [none,none,some 5,some 4,some 3] rfl (@yX _ _ _ _ (@pv _ 0 _ _ (by rfl) (by first|exact Or.inl rfl|exact Or.inr (.inl rfl)|exact Or.inr (.inr rfl)) (by decide) (by decide))) (CapOk.of (by kernel_rfl)) (fun _ _ _ _ _=>(@zL _ _ 0 _ (show (["state","move","known","led","moves"]:List Str).Nodup from by decide +kernel) rfl (.inl rfl) (.inr rfl))) (fun _ _ _ _ _=>(@yX _ _ _ _ (@pv _ 4 _ _ (by rfl) (by first|exact Or.inl rfl|exact Or.inr (.inl rfl)|exact Or.inr (.inr rfl)) (by decide) (by decide)))) (fun _ _ _ _ _=>(@zL _ _ 1 _ (show (["state","move","known","led","moves"]:List Str).Nodup from by decide +kernel) rfl (.inl rfl) (.inr rfl))) (fun _ _ _ _ _=>yN) (fun _ _ _ _ _=>(@y8 _ _ _ _ _ _ _ (eA P w) (gK hr.u3) (oK LQ hr (@pv _ 3 _ _ (by rfl) (by first|exact Or.inl rfl|exact Or.inr (.inl rfl)|exact Or.inr (.inr rfl)) (by decide) (by decide)) zS (@zA _ _ _ _ _ (@pv _ 0 _ _ (by rfl) (by first|exact Or.inl rfl|exact Or.inr (.inl rfl)|exact Or.inr (.inr rfl)) (by decide) (by decide)) (@zA _ _ _ _ _ (@pv _ 1 _ _ (by rfl) (by first|exact Or.inl rfl|exact Or.inr (.inl rfl)|exact Or.inr (.inr rfl)) (by decide) (by decide)) zB (by rfl)) (by rfl))) (@pv _ 2 _ _ (by rfl) (by first|exact Or.inl rfl|exact Or.inr (.inl rfl)|exact Or.inr (.inr rfl)) (by decide) (by decide)) (by rfl))) (by intro _;rfl) (by intro _ _;rfl)) zB (by rfl)) (by decide) (by decide) (by rfl) (by rfl))))))),?_⟩
 obtain⟨t,I⟩:=ax.isi
 refine⟨_,rfl,_,"tuple",_,_,rfl,I.ty,I.tup,_,rfl,?_⟩
 cases hrw:zw H x with
 | none =>
  rw[hrw]at k
  exact yP (yP (k _ (Same.refl _)))
 | some xs =>
 obtain⟨a,rfl,ha⟩:=yI hrw
 rw[hrw]at k
 change ∀ H',Same H H'→Q (.bl (xv stO xs k0 moves step)) H' at k
 obtain⟨xl,hy⟩:=hx xs hrw
 refine zv ?_
 refine⟨_,rfl,a,rfl,⟨_,SqT.of ha⟩,fun l hl=>?_⟩
 have sl:=zC hl (.lst [])
 refine xk (K:=K) (a:=a) (xs:=xs) (fun j acc σ H2=>(∃ v0,σ=[v0,some (.ref fs)])∧Same H H2∧H2 l=some (.lst acc)∧acc=(xs.take j).map fun y=>V.bl (stO y).isSome) ⟨⟨_,rfl⟩,sl,zD,rfl⟩ (fun j acc σ H2 z=>⟨z.2.2.1,SqT.of (z.2.1 _ _ ha)⟩) ?_ ?_
 ·rintro j x acc σ H2 hx ⟨⟨v0,rfl⟩,s2,h2,rfl⟩
  have jl:j<xs.length:=(List.getElem?_eq_some_iff.mp hx).1
  have xm:x∈xs:=List.mem_of_getElem? hx
  have la2:=laS.frz fun b o u e=>s2 _ _ e
  obtain⟨pm,cc,ct,oc,fz,tk,hf0,_⟩:=la2.ex
  refine⟨fs,rfl,⟨_,_,_,_,hf0⟩,_,rfl,clS,valsS,eS,la2,(hy x xm).1 _ _ ((KpN.same s2).trans (KpN.strip la2.fz)) fun H3 s3 low=>?_⟩
  have s4:=wx s3
  generalize back clS H2 H3=H4 at s4 ⊢
  have u4:=s2.trans s4
  refine⟨s4 _ _ h2,by rw[List.length_map,List.length_take,sizeLine_eq];lia,nx jl ⟨⟨_,rfl⟩,fun b o e=>?_,zD,?_⟩⟩
  ·rw[zH (zG e hl)];exact u4 b o e
  ·rw[← List.take_append_getElem jl,List.map_append,(List.getElem?_eq_some_iff.mp hx).2];rfl
 rintro acc σ H2 ⟨⟨v0,rfl⟩,s2,h2,rfl⟩
 rw[List.take_length]at h2
 refine⟨l,xs.map fun y=>(stO y).isSome,rfl,.inl (.inl (by rw[List.map_map];exact h2)),_,rfl,?_⟩
 cases hm:xs.mapM stO with
 | none =>
  obtain⟨y,ym,hy0⟩:=tG.mp hm
  have e:(xs.map fun y=>(stO y).isSome).all id=false:=List.all_eq_false.mpr ⟨false,List.mem_map.mpr ⟨y,ym,by rw[hy0];rfl⟩,by simp⟩
  have z:=k _ s2
  rw[ub hm]at z
  rw[e]
  exact yP z
 | some ss =>
 obtain⟨sl2,hs⟩:=uz hm
 have e:(xs.map fun y=>(stO y).isSome).all id=true:=List.all_eq_true.mpr fun b hb=>by
  obtain⟨y,ym,rfl⟩:=List.mem_map.mp hb
  obtain⟨i,il,ei⟩:=List.mem_iff_getElem.mp ym
  obtain⟨s0,_,e0⟩:=hs i y (by rw[List.getElem?_eq_getElem il,ei])
  rw[e0];rfl
 rw[e]
 refine zv ?_
 have ha2:=s2 _ _ ha
 refine⟨_,rfl,a,rfl,⟨_,SqT.of ha2⟩,fun d hd=>?_⟩
 refine gr (K:=K) (a:=a) (xs:=xs) (fun j acc σ H3=>(∃ v0,σ=[v0])∧Same H2 H3∧H3 d=some (DN P w d acc)∧acc.map (·.1)=ddL (ss.take j)∧KsIn H3 acc∧acc.length≤j) ⟨⟨_,rfl⟩,zC hd _,zD,rfl,fun x hx=>(nomatch hx),Nat.zero_le _⟩ (fun j acc σ H3 z=>SqT.of (z.2.1 _ _ ha2)) ?_ ?_
 ·rintro j x acc σ H3 hx ⟨⟨v0,rfl⟩,s3,h3,ek,ks,al⟩
  have jl:j<xs.length:=(List.getElem?_eq_some_iff.mp hx).1
  obtain⟨s0,es,e0⟩:=hs j x hx
  obtain⟨_,b,rfl,kb⟩:=(hy x (List.mem_of_getElem? hx)).2 s0 e0
  have kb3:=(kb.tups (Tups.of s2)).tups (Tups.of s3)
  have jl2:j<ss.length:=(List.getElem?_eq_some_iff.mp es).1
  have tp:Tups H3 (L2.upd H3 d (DN P w d (yk acc s0 b (.bl true)))):=fun c ys e=>by rw[zH (yr e h3 fun z=>by cases z)];exact e
  refine⟨_,rfl,b,s0,rfl,h3,ks,kb3,by rw[sizeLine_eq];lia,nx jl ⟨⟨_,rfl⟩,fun c o e=>?_,zD,?_,(ks.put kb3).tups tp,?_⟩⟩
  ·rw[zH (zG e hd)];exact s3 c o e
  ·rw[nQ,← List.take_append_getElem jl2,qJ,(List.getElem?_eq_some_iff.mp es).2,← ek]
   unfold ddN
   by_cases c:s0∈acc.map (·.1)
   ·rw[if_pos c,if_pos (yp.mpr c)]
   ·rw[if_neg c,if_neg fun z=>c (yp.mp z)]
  ·have:=wg acc s0 b (.bl true)
   lia
 rintro acc σ H3 ⟨⟨v0,rfl⟩,s3,h3,ek,ks,al⟩
 rw[sl2,List.take_length]at ek
 obtain⟨dm,dl,dn⟩:=ou ss
 rw[← ek]at dm dl dn
 rw[List.length_map]at dl dn
 have u3:=s2.trans s3
 have ha3:=u3 _ _ ha
 have kb3:=kb0.tups (Tups.of u3)
 have z:=k
 rw[ua hm]at z
 refine⟨_,rfl,d,acc,rfl,.inl h3,_,rfl,a,xs,rfl,.inr (SqT.of ha3),rfl,_,rfl,?_⟩
 by_cases nd:ss.Nodup
 rotate_left
 ·rw[show (!decide (V.int (acc.length:Nat)=V.int (xs.length:Nat)))=true from by
   rw[vd,decide_eq_false fun (e:((acc.length:Nat):Int)=(xs.length:Nat))=>nd (dn.mp (by lia))];rfl]
  rw[decide_eq_false nd]at z
  exact yP (yP (z _ u3))
 rw[show (!decide (V.int (acc.length:Nat)=V.int (xs.length:Nat)))=false from by
   rw[vd,decide_eq_true (show ((acc.length:Nat):Int)=(xs.length:Nat) by have:=dn.mpr nd;lia)];rfl]
 refine zv ⟨_,rfl,_,rfl,d,b0,acc,k0,rfl,rfl,⟨.inl h3,ks⟩,kb3,_,rfl,?_⟩
 have vi:∀ t,(yw acc t).isSome=decide (t∈ss):=fun t=>by
  rw[Bool.eq_iff_iff,decide_eq_true_iff,yp,dm]
 rw[vi]
 rw[decide_eq_true nd]at z
 by_cases c0:k0∈ss
 rotate_left
 ·rw[decide_eq_false c0]at z ⊢
  exact yP (z _ u3)
 rw[decide_eq_true c0]at z ⊢
 refine zv ?_
 let T:KN→Nat→Bool:=fun s m=>match step s m with|none=>false|some t=>decide (t∈ss)
 let acO:Nat→List Bool:=fun i=>(ss.take i).flatMap fun s=>moves.map (T s)
 have acl:∀ i,(acO i).length≤i*16:=fun i=>by
  show ((ss.take i).flatMap fun s=>moves.map (T s)).length≤_
  have key:∀ rs:List KN,(rs.flatMap fun s=>moves.map (T s)).length≤rs.length*16:=fun rs=>by
   induction rs with
   | nil=>exact Nat.le_refl _
   | cons r rs ih =>
    rw[List.flatMap_cons,List.length_append,List.length_map,List.length_cons,Nat.add_mul]
    lia
  have:=key (ss.take i)
  rw[List.length_take]at this
  lia
 refine⟨_,rfl,a,rfl,⟨_,SqT.of ha3⟩,fun l2 hl2=>?_⟩
 refine j9 (K:=K) (a:=a) (xs:=xs) (Q:=fun x H1=>fJ (List.set (L2.wK ["thing","is_state","first","moves","led","known"] [V.ref a,V.ref fs,V.ref b0,V.ref mv,V.ref f]) 5 (some (V.ref d))) H1 fun vs H2=>∃ a bs,x::vs=[V.ref a]∧SqB true K H2 a (List.map V.bl bs)∧Q (V.bl (bs.all id)) H2) (fun i ac σ H4=>(∃ v0 v1,σ=[v0,v1,some (.ref d),some (.ref f),some (.ref mv)])∧Same H3 H4∧H4 l2=some (.lst ac)∧ac=(acO i).map V.bl) ⟨⟨_,_,rfl⟩,zC hl2 _,zD,rfl⟩ (fun i ac σ H4 z=>⟨z.2.2.1,SqT.of (z.2.1 _ _ ha3)⟩) ?_ ?_
 ·rintro i ac σ H4 x hx ⟨⟨v0,v1,rfl⟩,s4,h4,rfl⟩
  have il:i<xs.length:=(List.getElem?_eq_some_iff.mp hx).1
  obtain⟨s0,es,e0⟩:=hs i x hx
  obtain⟨ok0,b,rfl,kb⟩:=(hy x (List.mem_of_getElem? hx)).2 s0 e0
  have il2:i<ss.length:=(List.getElem?_eq_some_iff.mp es).1
  have nxt:acO (i+1)=acO i++moves.map (T s0):=by
   show (ss.take (i+1)).flatMap _=_
   rw[← List.take_append_getElem il2,List.flatMap_append,(List.getElem?_eq_some_iff.mp es).2,List.flatMap_singleton]
  have u4:=u3.trans s4
  refine⟨_,rfl,mv,rfl,⟨_,(W.mv.tups (Tups.of u4)).sq⟩,?_⟩
  refine iA (K:=K) (a:=mv) (zs:=moves.map fun m=>V.int (m:Nat)) (fun j ac σ H5=>(∃ v1,σ=[some (.ref b),v1,some (.ref d),some (.ref f),some (.ref mv)])∧Same H3 H5∧H5 l2=some (.lst ac)∧ac=(acO i++(moves.take j).map (T s0)).map V.bl) ⟨⟨_,rfl⟩,s4,h4,by rw[List.take_zero,List.map_nil,List.append_nil]⟩ (fun j ac σ H5 z=>⟨z.2.2.1,(W.mv.tups (Tups.of (u3.trans z.2.1))).sq⟩) ?_ ?_
  ·rintro j x ac σ H5 hx ⟨⟨v1,rfl⟩,s5,h5,rfl⟩
   rw[List.getElem?_map]at hx
   obtain⟨m,em,rfl⟩:=Option.map_eq_some_iff.mp hx
   have jl:j<moves.length:=(List.getElem?_eq_some_iff.mp em).1
   have u5:=u3.trans s5
   have la5:=W.la.frz fun b o u e=>u5 _ _ e
   obtain⟨pm,cc,ct,oc,fz,tk,hf0,_⟩:=la5.ex
   have tj:(moves.take (j+1)).map (T s0)=(moves.take j).map (T s0)++[T s0 m]:=by
    rw[← List.take_append_getElem jl,List.map_append,(List.getElem?_eq_some_iff.mp em).2];rfl
   have fin:∀ (H7:Hp) (q:Bool),Same H5 H7→q=T s0 m→H7 l2=some (.lst ((acO i++(moves.take j).map (T s0)).map V.bl))∧((acO i++(moves.take j).map (T s0)).map V.bl).length<sizeLine∧Nx (moves.map fun m=>V.int (m:Nat)).length j ((∃ v1,[some (V.ref b),some (V.int (m:Nat)),some (.ref d),some (.ref f),some (.ref mv)]=[some (.ref b),v1,some (.ref d),some (.ref f),some (.ref mv)])∧Same H3 (L2.upd H7 l2 (.lst ((acO i++(moves.take j).map (T s0)).map V.bl++[V.bl q])))∧L2.upd H7 l2 (.lst ((acO i++(moves.take j).map (T s0)).map V.bl++[V.bl q])) l2=some (.lst ((acO i++(moves.take j).map (T s0)).map V.bl++[V.bl q]))∧(acO i++(moves.take j).map (T s0)).map V.bl++[V.bl q]=(acO i++(moves.take (j+1)).map (T s0)).map V.bl):=fun H7 q s7 eq=>by
    subst eq
    refine⟨s7 _ _ h5,?_,nx (by rw[List.length_map];exact jl) ⟨⟨_,rfl⟩,fun b o e=>?_,zD,?_⟩⟩
    ·have:=acl i
     rw[List.length_map,List.length_append,List.length_map,List.length_take,sizeLine_eq];lia
    ·rw[zH (zG e hl2)];exact s7 _ _ (s5 b o e)
    ·rw[tj,← List.append_assoc,List.map_append (l₂:=[_])];rfl
   refine⟨f,rfl,⟨_,_,_,_,hf0⟩,_,rfl,_,rfl,cl,vals,W.fr,la5,W.ld _ s0 b m _ ((Tups.of u5).trans (vf la5.fz)) ok0 (List.mem_of_getElem? em) ((kb.tups (Tups.of u5)).tups (vf la5.fz)) (fun H6 s6 e low=>?_) (fun H6 b' t s6 e kt low=>?_)⟩
   ·have s7:=wx s6
    generalize back cl H5 H6=H7 at s7 ⊢
    exact⟨_,rfl,d,acc,rfl,⟨.inl (s7 _ _ (s5 _ _ h3)),ks.tups (Tups.of (s5.trans s7))⟩,.inr ⟨rfl,fin H7 _ s7 (by show false=match step s0 m with|none=>false|some t=>decide (t∈ss);rw[e])⟩⟩
   ·have s7:=wx s6
    have k7:=kt.tups (nF (H:=H5) low)
    generalize back cl H5 H6=H7 at s7 k7 ⊢
    exact⟨_,rfl,d,acc,rfl,⟨.inl (s7 _ _ (s5 _ _ h3)),ks.tups (Tups.of (s5.trans s7))⟩,.inl ⟨b',t,rfl,k7,fin H7 _ s7 (by rw[vi];show _=match step s0 m with|none=>false|some t=>decide (t∈ss);rw[e])⟩⟩
  ·rintro ac σ H5 ⟨⟨v1,rfl⟩,s5,h5,rfl⟩
   rw[List.length_map,List.take_length]at h5 ⊢
   rw[← nxt]at h5 ⊢
   exact nx il ⟨⟨_,_,rfl⟩,s5,h5,rfl⟩
 ·rintro ac σ H4 ⟨⟨v0,v1,rfl⟩,s4,h4,rfl⟩
  rw[sl2]at h4
  refine⟨l2,acO ss.length,rfl,.inl (.inl h4),?_⟩
  have e:(acO ss.length).all id=ss.all fun s=>moves.all fun m=>match step s m with|none=>false|some t=>decide (t∈ss):=by
   show ((ss.take ss.length).flatMap fun s=>moves.map (T s)).all id=_
   rw[List.take_length,List.all_flatMap]
   congr 1
   funext s
   rw[List.all_map];rfl
  rw[e]
  exact z _ (u3.trans s4)
end
abbrev xR:Stmt:=top 21
theorem oX {l:List (Str × NameKind)}{x:Str}{k:NameKind}(h:l.lookup x=some k):(x,k)∈l:=by
 obtain⟨a,c,e,_⟩:=List.lookup_eq_some_iff.mp h
 rw[e]
 exact List.mem_append.mpr (.inr (.head _))
def gX (q:Str):Stmt→Lam
 | .Return (some (.Call _ (_::.Lambda p b s _::_) _ _)) _=>⟨p,b,s,q⟩
 | _=>⟨⟨[],[],none,[],[],none,[]⟩,.Name "" ⟨0,0,0,0⟩,zM xR,q⟩
def gY (q:Str):Stmt→Lam
 | .Return (some (.Call _ (_::_::_::_::.Lambda p b s _::_) _ _)) _=>⟨p,b,s,q⟩
 | _=>⟨⟨[],[],none,[],[],none,[]⟩,.Name "" ⟨0,0,0,0⟩,zM xR,q⟩
def tI (q:Str):Lam:=gX q ((yV xR).getD 0 (.Pass ⟨0,0,0,0⟩))
def uM (q:Str):Lam:=gY q ((yV xR).getD 0 (.Pass ⟨0,0,0,0⟩))
def pS (K:PySem.W.Frag):LSpc:=fun vals vs H Q E=>∃ r,∃ far:Int,∃ x,vals=[.ref r,.int far]∧vs=[x]∧vX K [.ref r,.int far,x] H Q E
section
variable {P:Program}{w:World}{K:PySem.W.Frag}{mg:Str→Option Value}{base:Heap}
theorem dY:LamScope ["place"] ["net","far"] (tI "").scope:=⟨rfl,rfl,rfl,by decide +kernel,by decide +kernel,by decide +kernel,by decide +kernel,fun x hx=>(show ∀ y∈(tI "").scope.names,y.2=.free→y.1∈[("net":Str),"far"] from by decide +kernel) _ (oX hx) rfl⟩
theorem dZ:LamScope ["place","lane"] ["net"] (uM "").scope:=⟨rfl,rfl,rfl,by decide +kernel,by decide +kernel,by decide +kernel,by decide +kernel,fun x hx=>(show ∀ y∈(uM "").scope.names,y.2=.free→y.1∈[("net":Str)] from by decide +kernel) _ (oX hx) rfl⟩
theorem gL {us:List Value}(h:us.length=1):∃ u,us=[u]:=by
 match us,h with
 | [u],_=>exact⟨u,rfl⟩
theorem ig {us:List Value}(h:us.length=2):∃ u v,us=[u,v]:=by
 match us,h with
 | [u,v],_=>exact⟨u,v,rfl⟩
theorem iC (q:Str) {f:Addr}{fd:FuncData}(UB:Use P w K mg base "is_low_place" ["net","far","thing"] 4 (vX K) f fd):LamQ CX0 P w K mg base 4 (tI q) ["net","far"] ["place"] (pS K):=by
 refine⟨dY,fun vals vs H Q E h=>?_,fun cl us hl pm cdv ct=>by obtain⟨u,rfl⟩:=gL hl;rfl,fun cl f' c A outer s H vals vs Q E ec hr fz h=>?_⟩
 ·obtain⟨r,far,x,_,rfl,_⟩:=h
  rfl
 obtain⟨r,far,x,rfl,rfl,h⟩:=h
 refine⟨_,zJ UB.ok hr (by rfl) UB.m UB.kp UB.b .nil zS (zA (pv 1) (zA (pv 2) (zA (pv 0) zB))),?_⟩
 exact⟨_,rfl,_,rfl,_,rfl,h⟩
theorem mH (q:Str) {f:Addr}{fd:FuncData}(UB:Use P w K mg base "place_behind" ["net","place","lane"] 4 wZ f fd):LamQ CX0 P w K mg base 4 (uM q) ["net"] ["place","lane"] xj:=by
 refine⟨dZ,fun vals vs H Q E h=>?_,fun cl us hl pm cdv ct=>by obtain⟨u,v,rfl⟩:=ig hl;rfl,fun cl f' c A outer s H vals vs Q E ec hr fz h=>?_⟩
 ·obtain⟨r,b,lane,_,rfl,_⟩:=h
  rfl
 obtain⟨r,b,lane,rfl,rfl,h⟩:=h
 refine⟨_,zJ UB.ok hr (by rfl) UB.m UB.kp UB.b .nil zS (zA (pv 2) (zA (pv 0) (zA (pv 1) zB))),?_⟩
 exact⟨_,rfl,_,rfl,_,rfl,h⟩
theorem qC {sc:Scope}{l:List Str}{env:Env}(h:(sc.names.filter fun y=>y.2 == .free).map (·.1)=l) (k:∀ x∈l,env.kindOf x=some .cell):∀ x,(x,NameKind.free)∈sc.names→env.kindOf x=some .cell∨env.kindOf x=some .free:=fun x hx =>
 .inl (k x (by rw[← h];exact List.mem_map.mpr ⟨_,List.mem_filter.mpr ⟨hx,rfl⟩,rfl⟩))
theorem jC {sc:Scope}{x0 x1:Str}{env:Env}(h:(sc.names.filter fun y=>y.2 == .free).map (·.1)=[x0,x1]) (k0:env.kindOf x0=some .cell) (k1:env.kindOf x1=some .cell):∀ x,(x,NameKind.free)∈sc.names→env.kindOf x=some .cell∨env.kindOf x=some .free:=qC h fun x hx=>by
 rcases List.mem_cons.mp hx with rfl|z
 ·exact k0
 ·rw[List.mem_singleton.mp z];exact k1
theorem jD {sc:Scope}{x0:Str}{env:Env}(h:(sc.names.filter fun y=>y.2 == .free).map (·.1)=[x0]) (k0:env.kindOf x0=some .cell):∀ x,(x,NameKind.free)∈sc.names→env.kindOf x=some .cell∨env.kindOf x=some .free:=qC h fun x hx=>by
 rw[List.mem_singleton.mp hx];exact k0
theorem gg {X:Cx}{x y:Str}{i j:Nat}(h1:X.N[i]?=some x) (h2:X.env.scope.names.lookup x=some .cell) (h3:X.fn x=true) (g1:X.N[j]?=some y) (g2:X.env.scope.names.lookup y=some .cell) (g3:X.fn y=true):∀ p∈[(x,i),(y,j)],X.N[p.2]?=some p.1∧X.env.scope.names.lookup p.1=some .cell∧X.fn p.1=true:=fun p hp=>by
 rcases List.mem_cons.mp hp with rfl|z
 ·exact⟨h1,h2,h3⟩
 ·rw[List.mem_singleton.mp z];exact⟨g1,g2,g3⟩
theorem kI {cs:List (Str × Addr)}{x:Str}(h:cs.map (·.1)=[x]):∃ c,cs=[(x,c)]:=by
 match cs,h with
 | [(y,c)],h=>exact⟨c,by rw[show y=x from (List.cons.inj h).1]⟩
theorem sr {cs:List (Str × Addr)}{x y:Str}(h:cs.map (·.1)=[x,y]):∃ c d,cs=[(x,c),(y,d)]:=by
 match cs,h with
 | [(a,c),(b,d)],h =>
  injection h with h1 h2
  injection h2 with h2 _
  exact⟨c,d,by rw[show a=x from h1,show b=y from h2]⟩
def qR:Str:=("shows_reach":Str)++(".<locals>.":Str)++("<lambda>":Str)
theorem dU:FnScope ["net","some","far","thing"] ["net","some","far","thing"] (zM xR):=⟨rfl,rfl,rfl,by decide +kernel,rfl,by decide +kernel,by decide +kernel⟩
theorem nY {f fB fF c Pt:Addr}{fd dB dF:FuncData}(F:FunC K "shows_reach" "shows_reach" xR f fd c) (CK:CodeK K mg base c Pt) (UB:Use P w K mg base "is_book" ["thing","is_state","first","moves","led"] 6 (vq P w K (tI qR) ["net","far"] (pS K) (uM qR) ["net"] xj) fB dB) (UF:Use P w K mg base "first_place" ["net"] 2 ww fF dF):FnOk P w K mg base CX0 7 f fd ["net","some","far","thing"] (vo K qR Pt):=by
 refine F.ok dU (fun vs H Q E h=>?_) (fun A outer s H vs Q E hr h=>?_)
 ·obtain⟨r,fr,er,ps,N,sm,moves,far,x,rfl,_⟩:=h
  rfl
 obtain⟨r,fr,er,ps,N,sm,moves,far,x,rfl,ok,na,hsm,mlt,ml,ax,hx,tab,k⟩:=h
 refine⟨_,(@zK _ _ _ (@zU _ _ _ _ (kF (E:=E0) UB.ok hr (by rfl) UB.m UB.kp UB.b [("net",0),("far",2)] (by decide) (gg rfl rfl rfl rfl rfl rfl) (@zA _ _ _ _ _ (@pv _ 3 _ _ (by rfl) (by first|exact Or.inl rfl|exact Or.inr (.inl rfl)|exact Or.inr (.inr rfl)) (by decide) (by decide)) (@zA _ _ _ _ _ (kC (fr:=["net","far"]) CK rfl rfl (jC (x0:="far") (x1:="net") rfl rfl rfl) rfl) (@zA _ _ _ _ _ (@zJ _ _ _ _ _ _ _ _ _ _ _ _ _ _ _ _ UF.ok (hr.mono (by decide)) (by rfl) UF.m UF.kp UF.b .nil zS (@zA _ _ _ _ _ (@pv _ 0 _ _ (by rfl) (by first|exact Or.inl rfl|exact Or.inr (.inl rfl)|exact Or.inr (.inr rfl)) (by decide) (by decide)) zB (by rfl)) (by decide) (by rfl) (by rfl)) (@zA _ _ _ _ _ (@pv _ 1 _ _ (by rfl) (by first|exact Or.inl rfl|exact Or.inr (.inl rfl)|exact Or.inr (.inr rfl)) (by decide) (by decide)) (@zA _ _ _ _ _ (kC (fr:=["net"]) CK rfl rfl (jD (x0:="net") rfl rfl) rfl) zB (by rfl)) (by rfl)) (by rfl)) (by rfl)) (by rfl))))),?_⟩
 have l16:=ok.l16
 obtain⟨l,hP,tok⟩:=id tab
 refine⟨_,rfl,l,hP,tok,fun f1 cl1 l1 H1 ecl1 cof1 hf1 raw1 hP1 tok1 kp1=>?_⟩
 have na1:=na.tups (KpN.tups (KpN.but (fun b o e n=>kp1 b o e n) hP))
 refine⟨_,rfl,r,fr,er,ps,N,rfl,ok,na1,fun b0 H2 s2 k2=>?_⟩
 refine⟨_,rfl,l1,s2 _ _ hP1,tok1.frz (fun b o u e=>s2 _ _ e),fun f2 cl2 l2 H3 ecl2 cof2 hf2 raw2 hP3 tok3 kp3=>?_⟩
 refine⟨[.ref r,.int far],rfl,fun j x i v hx hv=>?_,fun cs H4 ecs cof3 nd ca out fre=>?_⟩
 ·match j,hx,hv with
  | 0,hx,hv=>cases hx;cases hv;rfl
  | 1,hx,hv=>cases hx;cases hv;rfl
  | j+2,hx,hv=>cases hx
 obtain⟨c1,d1,rfl⟩:=sr ecl1
 obtain⟨c2,rfl⟩:=kI ecl2
 obtain⟨c3,d3,rfl⟩:=sr ecs
 have e1:c1=c3:=Option.some.inj ((cof1 _ (.head _)).symm.trans (cof3 _ (.head _)))
 have e2:d1=d3:=Option.some.inj ((cof1 _ (.tail _ (.head _))).symm.trans (cof3 _ (.tail _ (.head _))))
 have e3:c2=c3:=Option.some.inj ((cof2 _ (.head _)).symm.trans (cof3 _ (.head _)))
 subst e1 e2 e3
 have b1:But Pt H H1:=fun b o e n=>kp1 b o e n
 have b3:But Pt H2 H3:=fun b o e n=>kp3 b o e n
 have b03:But Pt H H3:=(b1.trans (But.of s2)).trans b3
 have s34:Same H3 H4:=fun b o e=>by
  rw[out b fun hb=>by rw[fre b hb]at e;cases e];exact e
 have kp04:KpN H H4:=(KpN.but b03 hP).trans (KpN.same s34)
 have na4:=na.tups kp04.tups
 have k24:KpN H2 H4:=(KpN.but b3 (s2 _ _ hP1)).trans (KpN.same s34)
 have f13:∀ b o u,H1 b=some (.frz o u)→H4 b=some (.frz o u):=fun b o u e=>s34 _ _ (kp3 _ _ (s2 _ _ e) (yr (s2 _ _ e) (s2 _ _ hP1) fun z=>by cases z))
 have r1:LamRaw H4 f1 (tI qR) [("net",c2),("far",d1)]:=by
  obtain⟨pm,cd,ct,oc,fs,tk,r1,r2,r3,r4⟩:=raw1.ex
  exact⟨pm,cd,ct,oc,fs,tk,f13 _ _ _ r1,f13 _ _ _ r2,r3,r4⟩
 have r2:LamRaw H4 f2 (uM qR) [("net",c2)]:=by
  obtain⟨pm,cd,ct,oc,fs,tk,r1,r2,r3,r4⟩:=raw2.ex
  exact⟨pm,cd,ct,oc,fs,tk,s34 _ _ r1,s34 _ _ r2,r3,r4⟩
 have la1:=r1.at_ (ws:=[.ref r,.int far]) ca (show [("net":Str),"far"].Nodup from by decide) nd rfl fun i x c v hx hv=>⟨i,hx,hv⟩
 have la2:=r2.at_ (ws:=[.ref r]) ca (show [("net":Str)].Nodup from by decide) (List.nodup_cons.mpr ⟨List.not_mem_nil,List.nodup_nil⟩) rfl fun i x c v hx hv=>by
  cases i with
  | zero=>cases hx;cases hv;exact⟨0,rfl,rfl⟩
  | succ i=>cases hx
 have W:Way K H4 sm f2 (uM qR) ["net"] xj [("net",c2)] [.ref r] (xM N) (OkR N) moves N.lanes:=⟨.inl (kp04.tups _ _ hsm),rfl,la2,mC ok na4 mlt,mlt,fun s m t os _ e=>sx ok os e,by lia⟩
 have ero:=ax.row kp04
 refine⟨x,f1,b0,sm,f2,[("net",c2),("far",d1)],[.ref r,.int far],_,moves,[("net",c2)],[.ref r],xM N,OkR N,N.lanes,stR H (N.forks.length:Nat) (N.lanes:Nat) far,rfl,rfl,la1,k2.tups k24.tups,W,ml,(ax.kp kp04).any,fun xs hxs=>?_,fun H5 s5=>?_⟩
 ·rw[ero]at hxs
  obtain⟨x1,x2⟩:=hx xs hxs
  refine⟨x1,fun y ym=>⟨fun H5 Q1 k5 q=>?_,fun s hs=>?_⟩⟩
  ·have kp5:=kp04.trans k5
   refine⟨r,far,y,rfl,rfl,r,fr,er,ps,N,far,y,rfl,ok,na4.tups k5.tups,((x2 y ym).kp kp5).deep,fun H6 s6=>?_⟩
   rw[j7 kp5 (x2 y ym),← iw]
   exact q H6 s6
  ·obtain⟨o1,b,e,kb⟩:=lG ok.l1 hs
   exact⟨o1,b,e,kb.tups kp04.tups⟩
 rw[ero]
 have fz5:CellsFz [("net",c2),("far",d1)] H5:=fun b hb=>by
  obtain⟨o,z⟩:=ca.fz b hb
  exact⟨o,s5 _ _ z⟩
 have s36:Same H3 (strip [("net",c2),("far",d1)] H5):=fun b o e=>by
  rw[zx fun hb=>by rw[fre b hb]at e;cases e]
  exact s5 _ _ (s34 _ _ e)
 exact k _ (b03.trans (But.of s36)) (TabQ.same ⟨l2,hP3,tok3⟩ s36)
end
end K45
namespace Bn
open PySem L2 Own
end Bn
namespace L2
open PySem PySem.Spec PyProof.Rows Own Bn
section
variable {step:KN→Nat→Option KN}{moves:List Nat}{most:Nat}
end
section
variable {N:Nt}{moves:List Nat}{t:Int}{row:List Int}
variable {n:Nat}{c:List Int}
end
end L2
namespace K45
open PySem L2 Own Bn
abbrev i9:Stmt:=top 44
def oA (K:PySem.W.Frag) (Pt:Addr):Sp:=fun vs H Q _=>∃ (a:Addr) (ns:List Int),vs=[.ref a]∧SqL K H a (ns.map V.int)∧ns.length≤63∧H Pt=some (.tbl #[])∧∀ H',Q (.bl true) H'
def Scr (K:PySem.W.Frag) (a:Addr) (xs:List V) (H:Hp):Prop:=H a=some (.lst xs)∨(∃ o,H a=some (.frz o (.lst xs)))∨∀ H',SqL K H' a xs
theorem Scr.of {K:PySem.W.Frag}{a:Addr}{xs:List V}{H:Hp}(h:SqL K H a xs):Scr K a xs H:=by
 rcases h with (h|h)|h
 ·exact .inl h
 ·exact .inr (.inl h)
 ·exact .inr (.inr fun H'=>.inr h)
theorem Scr.sq {K:PySem.W.Frag}{a:Addr}{xs:List V}{H:Hp}(h:Scr K a xs H):SqL K H a xs:=by
 rcases h with h|h|h
 ·exact .inl (.inl h)
 ·exact .inl (.inr h)
 ·exact h H
theorem Scr.keep {K:PySem.W.Frag}{a:Addr}{xs:List V}{H H':Hp}(h:Scr K a xs H) (k:∀ o,H a=some o→(o=.lst xs∨∃ u,o=.frz u (.lst xs))→(∀ H',SqL K H' a xs)∨H' a=some o):Scr K a xs H':=by
 rcases h with h|⟨o,h⟩|h
 ·rcases k _ h (.inl rfl) with z|z
  ·exact .inr (.inr z)
  ·exact .inl z
 ·rcases k _ h (.inr ⟨o,rfl⟩) with z|z
  ·exact .inr (.inr z)
  ·exact .inr (.inl ⟨o,z⟩)
 ·exact .inr (.inr h)
structure LE (K:PySem.W.Frag) (a l Pt:Addr) (xs:List V) (H:Hp):Prop where
 S:Pk3 H l
 tab:TabQ qR Pt H
 scr:Scr K a xs H
 al:a≠l∨∀ H',SqL K H' a xs
section
variable {K:PySem.W.Frag}{a l Pt:Addr}{xs:List V}{H H':Hp}
theorem LE.same (h:LE K a l Pt xs H) (s:Same H H'):LE K a l Pt xs H':=⟨h.S.keep s,h.tab.same s,h.scr.keep fun o e _=>.inr (s _ _ e),h.al⟩
theorem LE.pick (h:LE K a l Pt xs H) (S':Pk3 H' l) (b:But l H H'):LE K a l Pt xs H':=by
 obtain⟨ys,hl⟩:=h.S.lst
 refine⟨S',h.tab.but b hl,h.scr.keep fun o e _=>?_,h.al⟩
 rcases h.al with z|z
 ·exact .inr (b _ _ e z)
 ·exact .inl z
theorem LE.ver (h:LE K a l Pt xs H) (t:TabQ qR Pt H') (b:But Pt H H'):LE K a l Pt xs H':=by
 obtain⟨ls,hP,_⟩:=h.tab
 obtain⟨x,y,z,hl,r⟩:=h.S.ex
 refine⟨⟨x,y,z,b _ _ hl (yr hl hP fun q=>by cases q),r⟩,t,h.scr.keep fun o e ho=>.inr (b _ _ e fun q=>?_),h.al⟩
 rw[q,hP]at e
 cases e
 rcases ho with ho|⟨u,ho⟩<;>cases ho
theorem sv {q:Str}(t:TabQ q Pt H) (b:But Pt H H'):Tups H H':=fun c ys e=>by
 obtain⟨ls,hP,_⟩:=t
 exact b _ _ e (yr e hP fun q=>by cases q)
end
theorem Lns.len {lanes:Nat}{moves:List Nat}(h:Lns lanes moves):moves.length≤lanes:=by
 have:=oZ (l:=moves) (ks:=List.range lanes) (h.up.imp fun z=>Nat.ne_of_lt z) fun x hx=>List.mem_range.mpr (h.lt x hx)
 rwa [List.length_range]at this
theorem jW {N:Nt}{H:Hp}{k:KN}{b:Addr}(ok:OkR N k) (h:NKey H k b):∃ t u hs,H b=some (.tup [.ref t,.ref u])∧H u=some (.tup (hs.map V.int))∧hs≠[]∧vg k=n4 hs:=by
 obtain⟨ts,hs,rfl,_,_,_,_,h5⟩:=ok
 obtain⟨t,u,e1,_,e3⟩:=vM h
 exact⟨t,u,hs,e1,e3,(fun z=>by rw[z]at h5;exact nomatch h5),rfl⟩
def LP (l Pt:Addr) (H H':Hp):Prop:=∀ b o,H b=some o→b≠l→b≠Pt→H' b=some o
def LotAt (N:Nt) (moves:List Nat) (H:Hp) (x:V):Prop:=∃ c bs ks,x=.ref c∧H c=some (.lst (bs.map V.ref))∧KeysAt H bs ks∧ClosedP N moves (k00 N) 2100 1500 ks
theorem gW {H:Hp}{c l:Addr}{bs:List Addr}(S:Pk3 H l) (h:H c=some (.lst (bs.map V.ref))):c≠l:=fun e=>by
 subst e
 obtain⟨x,y,z,q,_⟩:=S.ex
 rw[h]at q
 cases bs with
 | nil=>cases q
 | cons b bs=>cases q
theorem LP.tups {K:PySem.W.Frag}{a l Pt:Addr}{xs:List V}{H H':Hp}(le:LE K a l Pt xs H) (b:LP l Pt H H'):Tups H H':=fun c ys e=>by
 obtain⟨x,y,z,q,_⟩:=le.S.ex
 obtain⟨ls,q2,_⟩:=le.tab
 exact b _ _ e (yr e q fun z=>by cases z) (yr e q2 fun z=>by cases z)
theorem LotAt.mv {K:PySem.W.Frag}{a l Pt:Addr}{xs:List V}{H H':Hp}{N:Nt}{moves:List Nat}{x:V}(le:LE K a l Pt xs H) (b:LP l Pt H H') (h:LotAt N moves H x):LotAt N moves H' x:=by
 obtain⟨c,bs,ks,e,hc,ka,cl⟩:=h
 obtain⟨ls,q2,_⟩:=le.tab
 exact⟨c,bs,ks,e,b _ _ hc (gW le.S hc) (yr hc q2 fun z=>by cases z),ka.tups (LP.tups le b),cl⟩
theorem LP.of {l Pt:Addr}{H H':Hp}(s:Same H H'):LP l Pt H H':=fun b o e _ _=>s b o e
theorem LP.l {l Pt:Addr}{H H':Hp}(s:But l H H'):LP l Pt H H':=fun b o e n _=>s b o e n
theorem LP.p {l Pt:Addr}{H H':Hp}(s:But Pt H H'):LP l Pt H H':=fun b o e _ n=>s b o e n
theorem LP.trans {l Pt:Addr}{H H1 H2:Hp}(x:LP l Pt H H1) (y:LP l Pt H1 H2):LP l Pt H H2:=fun b o e n m=>y b o (x b o e n m) n m
section
variable {P:Program}{w:World}{K:PySem.W.Frag}{mg:Str→Option Value}{base:Heap}
theorem ue:FnScope ["_law_script","_law_k","_law_left_here","_law_net_here","_law_some_here","_law_places","_law_lot","_law_far","_law_thing","_law_before"] ["_law_script"] (zM i9):=⟨rfl,rfl,rfl,by decide +kernel,rfl,by decide +kernel,by decide +kernel⟩
theorem gQ {f fL fK fE fS fV fA fW fX fR Pt:Addr}{fd dL dK dE dS dV dA dW dX dR:FuncData}(F:Fun K "law" "law" i9 f fd) (G:Mgs mg) (GR:MgR mg) (UL:Use P w K mg base "_law_left" ["_law_script","_law_k"] 1 (tU K) fL dL) (UK:Use P w K mg base "_law_pick" ["_law_left_here","_law_many"] 1 yo fK dK) (UE:Use P w K mg base "_law_evened" ["_law_left_here"] 13 lK fE dE) (US:Use P w K mg base "_law_some" ["_law_left_here","_law_net_here"] 2 tS fS dS)
  (UV:Use P w K mg base "_law_even" ["_law_net_here","_law_some_here"] 2 tX fV dV) (UA:Use P w K mg base "_law_all_places" ["_law_net_here","_law_some_here","_law_most"] 2 tf fA dA) (UW:Use P w K mg base "_law_with" ["_law_left_here","_law_net_here","_law_some_here","_law_places"] 2 qV fW dW) (UX:Use P w K mg base "_law_mixed" ["_law_left_here","_law_row"] 2 wb fX dX) (UR:Use P w K mg base "shows_reach" ["net","some","far","thing"] 7 (vo K qR Pt) fR dR):FnOk P w K mg base CX0 14 f fd ["_law_script"] (oA K Pt):=by
 refine F.ok ue (fun vs H Q E h=>?_) (fun cdv A outer s H vs Q E hr h=>?_)
 ·obtain⟨a,ns,rfl,_⟩:=h
  rfl
 obtain⟨a,ns,rfl,hS,h63,hP0,k⟩:=h
 have tab:TabQ qR Pt H:=⟨[],hP0,fun p hp=>absurd hp List.not_mem_nil⟩
 have hr1:Room 1 _:=hr.mono (by decide)
 have hr2:Room 2 _:=hr.mono (by decide)
 have hr7:Room 7 _:=hr.mono (by decide)
 refine⟨_,(@zF _ _ _ _ _ (@yn _ _ _ _ _ _ _ _ PassesOwn.never rfl (@yb _ _ _ _ _ _ rfl G.range (@zA _ _ _ _ _ (@zQ _ _ _ _ _ _ _ _ _ (mi rfl) (by rfl) G.max (by rfl) (@zA _ _ _ _ _ zE (@zA _ _ _ _ _ (@zQ _ _ _ _ _ _ _ _ _ (mh rfl) (by rfl) G.min (by rfl) (@zA _ _ _ _ _ (@zQ _ _ _ _ _ _ _ _ _ zW (by rfl) G.len PySem.boot_len (@zA _ _ _ _ _ (@pv _ 0 _ _ (by rfl) (by first|exact Or.inl rfl|exact Or.inr (.inl rfl)|exact Or.inr (.inr rfl)) (by decide) (by decide)) zB (by rfl)) (by decide) (by decide) (by rfl) (by rfl)) (@zA _ _ _ _ _ zE zB (by rfl)) (by rfl)) (by decide) (by decide) (by rfl) (by rfl)) zB (by rfl)) (by rfl)) (by decide) (by decide) (by rfl) (by rfl)) zB (by rfl)) (by rfl)) (@zL _ _ 1 _ ue.nd rfl (.inl rfl) (by first|exact .inl rfl|exact .inr rfl|assumption)) (@zF _ _ _ _ _ (@zi _ _ 2 _ _ _ _ ue.nd rfl (.inl rfl) (@zJ _ _ _ _ _ _ _ _ _ _ _ _ _ _ _ _ UL.ok hr1 (by rfl) UL.m UL.kp UL.b .nil zS (@zA _ _ _ _ _ (@pv _ 0 _ _ (by rfl) (by first|exact Or.inl rfl|exact Or.inr (.inl rfl)|exact Or.inr (.inr rfl)) (by decide) (by decide)) (@zA _ _ _ _ _ (@pv _ 1 _ _ (by rfl) (by first|exact Or.inl rfl|exact Or.inr (.inl rfl)|exact Or.inr (.inr rfl)) (by decide) (by decide)) zB (by rfl)) (by rfl)) (by decide) (by rfl) (by rfl)) (by rfl) (by first|exact .inl rfl|exact .inr rfl|assumption)) (@zF _ _ _ _ _ (@zi _ _ 3 _ _ _ _ ue.nd rfl (.inl rfl) (@zJ _ _ _ _ _ _ _ _ _ _ _ _ _ _ _ _ UE.ok hr (by rfl) UE.m UE.kp UE.b .nil zS (@zA _ _ _ _ _ (@pv _ 2 _ _ (by rfl) (by first|exact Or.inl rfl|exact Or.inr (.inl rfl)|exact Or.inr (.inr rfl)) (by decide) (by decide)) zB (by rfl)) (by decide) (by rfl) (by rfl)) (by rfl) (by first|exact .inl rfl|exact .inr rfl|assumption)) (@zF _ _ _ _ _ (@zi _ _ 4 _ _ _ _ ue.nd rfl (.inl rfl) (@zJ _ _ _ _ _ _ _ _ _ _ _ _ _ _ _ _ US.ok hr2 (by rfl) US.m US.kp US.b .nil zS (@zA _ _ _ _ _ (@pv _ 2 _ _ (by rfl) (by first|exact Or.inl rfl|exact Or.inr (.inl rfl)|exact Or.inr (.inr rfl)) (by decide) (by decide)) (@zA _ _ _ _ _ (@pv _ 3 _ _ (by rfl) (by first|exact Or.inl rfl|exact Or.inr (.inl rfl)|exact Or.inr (.inr rfl)) (by decide) (by decide)) zB (by rfl)) (by rfl)) (by decide) (by rfl) (by rfl)) (by rfl) (by first|exact .inl rfl|exact .inr rfl|assumption)) (@zK _ _ _ (@yM _ _ _ _ _ _ _ _ (@w8 _ _ _ (@zJ _ _ _ _ _ _ _ _ _ _ _ _ _ _ _ _ UV.ok hr2 (by rfl) UV.m UV.kp UV.b .nil zS (@zA _ _ _ _ _ (@pv _ 3 _ _ (by rfl) (by first|exact Or.inl rfl|exact Or.inr (.inl rfl)|exact Or.inr (.inr rfl)) (by decide) (by decide)) (@zA _ _ _ _ _ (@pv _ 4 _ _ (by rfl) (by first|exact Or.inl rfl|exact Or.inr (.inl rfl)|exact Or.inr (.inr rfl)) (by decide) (by decide)) zB (by rfl)) (by rfl)) (by decide) (by rfl) (by rfl)) (by intro _;rfl)) (@zF _ _ _ _ _ (@zi _ _ 5 _ _ _ _ ue.nd rfl (.inl rfl) (@zJ _ _ _ _ _ _ _ _ _ _ _ _ _ _ _ _ UA.ok hr2 (by rfl) UA.m UA.kp UA.b .nil zS (@zA _ _ _ _ _ (@pv _ 3 _ _ (by rfl) (by first|exact Or.inl rfl|exact Or.inr (.inl rfl)|exact Or.inr (.inr rfl)) (by decide) (by decide)) (@zA _ _ _ _ _ (@pv _ 4 _ _ (by rfl) (by first|exact Or.inl rfl|exact Or.inr (.inl rfl)|exact Or.inr (.inr rfl)) (by decide) (by decide)) (@zA _ _ _ _ _ zE zB (by rfl)) (by rfl)) (by rfl)) (by decide) (by rfl) (by rfl)) (by rfl) (by first|exact .inl rfl|exact .inr rfl|assumption)) (@zK _ _ _ (@yM _ _ _ _ _ _ _ _ (@zj _ _ _ _ _ _ _ _ ji (@pv _ 5 _ _ (by rfl) (by first|exact Or.inl rfl|exact Or.inr (.inl rfl)|exact Or.inr (.inr rfl)) (by decide) (by decide)) kB (by rfl)) (@zK _ _ _ (@yn _ _ _ _ _ _ _ _ PassesOwn.never rfl (@yX _ _ _ _ (@zX _ _ _ _ _ (@zA _ _ _ _ _ (@pv _ 5 _ _ (by rfl) (by first|exact Or.inl rfl|exact Or.inr (.inl rfl)|exact Or.inr (.inr rfl)) (by decide) (by decide)) (@zA _ _ _ _ _ (@zJ _ _ _ _ _ _ _ _ _ _ _ _ _ _ _ _ UW.ok hr2 (by rfl) UW.m UW.kp UW.b .nil zS (@zA _ _ _ _ _ (@pv _ 2 _ _ (by rfl) (by first|exact Or.inl rfl|exact Or.inr (.inl rfl)|exact Or.inr (.inr rfl)) (by decide) (by decide)) (@zA _ _ _ _ _ (@pv _ 3 _ _ (by rfl) (by first|exact Or.inl rfl|exact Or.inr (.inl rfl)|exact Or.inr (.inr rfl)) (by decide) (by decide)) (@zA _ _ _ _ _ (@pv _ 4 _ _ (by rfl) (by first|exact Or.inl rfl|exact Or.inr (.inl rfl)|exact Or.inr (.inr rfl)) (by decide) (by decide)) (@zA _ _ _ _ _ (@pv _ 5 _ _ (by rfl) (by first|exact Or.inl rfl|exact Or.inr (.inl rfl)|exact Or.inr (.inr rfl)) (by decide) (by decide)) zB (by rfl)) (by rfl)) (by rfl)) (by rfl)) (by decide) (by rfl) (by rfl)) zB (by rfl)) (by rfl)))) (@zL _ _ 6 _ ue.nd rfl (.inl rfl) (by first|exact .inl rfl|exact .inr rfl|assumption)) (@zF _ _ _ _ _ (@zi _ _ 7 _ _ _ _ ue.nd rfl (.inl rfl) (@zQ _ _ _ _ _ _ _ _ _ (vH rfl true) (by rfl) G.max (by rfl) (@zA _ _ _ _ _ (@xN _ _ _ _ none _ _ _ (iH K 2 (uT (xp 0) (uT (xp 1) iI))) _ _ ["_law_turns","_law_heights"] [none,none] rfl (@vY _ _ _ _ (@pv _ 6 _ _ (by rfl) (by first|exact Or.inl rfl|exact Or.inr (.inl rfl)|exact Or.inr (.inr rfl)) (by decide) (by decide))) (CapOk.of (by kernel_rfl)) (fun _ _ _ _ _=>(@yE _ _ _ _ _ _ rfl (@zN _ _ _ _ _ (@zL _ _ 0 _ (show (["_law_turns","_law_heights"]:List Str).Nodup from by decide +kernel) rfl (.inl rfl) (.inr rfl)) (@zN _ _ _ _ _ (@zL _ _ 1 _ (show (["_law_turns","_law_heights"]:List Str).Nodup from by decide +kernel) rfl (.inl rfl) (.inr rfl)) zt (by rfl)) (by rfl)) (by rfl) (by rfl))) (fun _ _ _ _ _=>yN) (fun _ _ _ _ _=>(@zQ _ _ _ _ _ _ _ _ (fw K false) (vH rfl false) (by rfl) G.max (by rfl) (@zA _ _ _ _ _ (@pv _ 1 _ _ (by rfl) (by first|exact Or.inl rfl|exact Or.inr (.inl rfl)|exact Or.inr (.inr rfl)) (by decide) (by decide)) zB (by rfl)) (by decide) (by decide) (by rfl) (by rfl))) (by intro _;rfl)) zB (by rfl)) (by decide) (by decide) (by rfl) (by rfl)) (by rfl) (by first|exact .inl rfl|exact .inr rfl|assumption)) (@zF _ _ _ _ _ (@zi _ _ 8 _ _ _ _ ue.nd rfl (.inl rfl) (@zJ _ _ _ _ _ _ _ _ _ _ _ _ _ _ _ _ UX.ok hr2 (by rfl) UX.m UX.kp UX.b .nil zS (@zA _ _ _ _ _ (@pv _ 2 _ _ (by rfl) (by first|exact Or.inl rfl|exact Or.inr (.inl rfl)|exact Or.inr (.inr rfl)) (by decide) (by decide)) (@zA _ _ _ _ _ (@pv _ 6 _ _ (by rfl) (by first|exact Or.inl rfl|exact Or.inr (.inl rfl)|exact Or.inr (.inr rfl)) (by decide) (by decide)) zB (by rfl)) (by rfl)) (by decide) (by rfl) (by rfl)) (by rfl) (by first|exact .inl rfl|exact .inr rfl|assumption)) (@zF _ _ _ _ _ (@zi _ _ 9 _ _ _ _ ue.nd rfl (.inl rfl) (@zQ _ _ _ _ _ _ _ _ _ (uY hr.gd hr.units) (by rfl) GR.repr (by rfl) (@zA _ _ _ _ _ (@pv _ 8 _ _ (by rfl) (by first|exact Or.inl rfl|exact Or.inr (.inl rfl)|exact Or.inr (.inr rfl)) (by decide) (by decide)) zB (by rfl)) (by decide) (by decide) (by rfl) (by rfl)) (by rfl) (by first|exact .inl rfl|exact .inr rfl|assumption)) (@zF _ _ _ _ _ (@yM _ _ _ _ _ _ _ _ (@oF _ _ _ _ _ _ _ (@zj _ _ _ _ _ _ _ _ sM (@zJ _ _ _ _ _ _ _ _ _ _ _ _ _ _ _ _ UR.ok hr7 (by rfl) UR.m UR.kp UR.b .nil zS (@zA _ _ _ _ _ (@pv _ 3 _ _ (by rfl) (by first|exact Or.inl rfl|exact Or.inr (.inl rfl)|exact Or.inr (.inr rfl)) (by decide) (by decide)) (@zA _ _ _ _ _ (@pv _ 4 _ _ (by rfl) (by first|exact Or.inl rfl|exact Or.inr (.inl rfl)|exact Or.inr (.inr rfl)) (by decide) (by decide)) (@zA _ _ _ _ _ (@pv _ 7 _ _ (by rfl) (by first|exact Or.inl rfl|exact Or.inr (.inl rfl)|exact Or.inr (.inr rfl)) (by decide) (by decide)) (@zA _ _ _ _ _ (@pv _ 8 _ _ (by rfl) (by first|exact Or.inl rfl|exact Or.inr (.inl rfl)|exact Or.inr (.inr rfl)) (by decide) (by decide)) zB (by rfl)) (by rfl)) (by rfl)) (by rfl)) (by decide) (by rfl) (by rfl)) yq (by rfl)) (@sI _ _ _ _ (@zj _ _ _ _ _ _ _ _ iX (@zQ _ _ _ _ _ _ _ _ _ (uY hr.gd hr.units) (by rfl) GR.repr (by rfl) (@zA _ _ _ _ _ (@pv _ 8 _ _ (by rfl) (by first|exact Or.inl rfl|exact Or.inr (.inl rfl)|exact Or.inr (.inr rfl)) (by decide) (by decide)) zB (by rfl)) (by decide) (by decide) (by rfl) (by rfl)) (@pv _ 9 _ _ (by rfl) (by first|exact Or.inl rfl|exact Or.inr (.inl rfl)|exact Or.inr (.inr rfl)) (by decide) (by decide)) (zp _)))).pt (@zK _ _ _ (@zU _ _ _ _ yq)) zk) (@zF _ _ _ _ _ (@yM _ _ _ _ _ _ _ _ (@zj _ _ _ _ _ _ _ _ sM (@zJ _ _ _ _ _ _ _ _ _ _ _ _ _ _ _ _ UR.ok hr7 (by rfl) UR.m UR.kp UR.b .nil zS (@zA _ _ _ _ _ (@pv _ 3 _ _ (by rfl) (by first|exact Or.inl rfl|exact Or.inr (.inl rfl)|exact Or.inr (.inr rfl)) (by decide) (by decide)) (@zA _ _ _ _ _ (@pv _ 4 _ _ (by rfl) (by first|exact Or.inl rfl|exact Or.inr (.inl rfl)|exact Or.inr (.inr rfl)) (by decide) (by decide)) (@zA _ _ _ _ _ (@zR _ _ _ _ _ _ _ _ yJ (@zR _ _ _ _ _ _ _ _ yJ (@pv _ 7 _ _ (by rfl) (by first|exact Or.inl rfl|exact Or.inr (.inl rfl)|exact Or.inr (.inr rfl)) (by decide) (by decide)) zE) (@zJ _ _ _ _ _ _ _ _ _ _ _ _ _ _ _ _ UK.ok hr1 (by rfl) UK.m UK.kp UK.b .nil zS (@zA _ _ _ _ _ (@pv _ 2 _ _ (by rfl) (by first|exact Or.inl rfl|exact Or.inr (.inl rfl)|exact Or.inr (.inr rfl)) (by decide) (by decide)) (@zA _ _ _ _ _ zE zB (by rfl)) (by rfl)) (by decide) (by rfl) (by rfl))) (@zA _ _ _ _ _ (@pv _ 8 _ _ (by rfl) (by first|exact Or.inl rfl|exact Or.inr (.inl rfl)|exact Or.inr (.inr rfl)) (by decide) (by decide)) zB (by rfl)) (by rfl)) (by rfl)) (by rfl)) (by decide) (by rfl) (by rfl)) yq (by rfl)) (@zK _ _ _ (@zU _ _ _ _ yq)) zk) (@zK _ _ _ (@yM _ _ _ _ _ _ _ _ (@zj _ _ _ _ _ _ _ _ sM (@zJ _ _ _ _ _ _ _ _ _ _ _ _ _ _ _ _ UR.ok hr7 (by rfl) UR.m UR.kp UR.b .nil zS (@zA _ _ _ _ _ (@pv _ 3 _ _ (by rfl) (by first|exact Or.inl rfl|exact Or.inr (.inl rfl)|exact Or.inr (.inr rfl)) (by decide) (by decide)) (@zA _ _ _ _ _ (@pv _ 4 _ _ (by rfl) (by first|exact Or.inl rfl|exact Or.inr (.inl rfl)|exact Or.inr (.inr rfl)) (by decide) (by decide)) (@zA _ _ _ _ _ (@zR _ _ _ _ _ _ _ _ yz (@pv _ 7 _ _ (by rfl) (by first|exact Or.inl rfl|exact Or.inr (.inl rfl)|exact Or.inr (.inr rfl)) (by decide) (by decide)) zE) (@zA _ _ _ _ _ (@pv _ 8 _ _ (by rfl) (by first|exact Or.inl rfl|exact Or.inr (.inl rfl)|exact Or.inr (.inr rfl)) (by decide) (by decide)) zB (by rfl)) (by rfl)) (by rfl)) (by rfl)) (by decide) (by rfl) (by rfl)) yq (by rfl)) (@zK _ _ _ (@zU _ _ _ _ yq)) zk))))))) (by intro _;rfl))) zk))) zk))))) (by intro _;rfl)) (@zK _ _ _ (@zU _ _ _ _ yq))),?_⟩
 have ml:(ns.map V.int).length=ns.length:=List.length_map _
 refine⟨_,rfl,a,_,rfl,.inl hS,_,_,rfl,_,_,rfl,?_⟩
 rw[ml]
 have e6:(if (if (4:Int)<(ns.length:Nat) then (4:Int) else (ns.length:Nat)) > 1 then (if (4:Int)<(ns.length:Nat) then (4:Int) else (ns.length:Nat)) else 1)≤4∧(1:Int)≤(if (if (4:Int)<(ns.length:Nat) then (4:Int) else (ns.length:Nat)) > 1 then (if (4:Int)<(ns.length:Nat) then (4:Int) else (ns.length:Nat)) else 1):=by
  split<;>split at *<;>lia
 refine⟨_,rfl,by lia,by lia,?_⟩
 generalize (if (if (4:Int)<(ns.length:Nat) then (4:Int) else (ns.length:Nat)) > 1 then (if (4:Int)<(ns.length:Nat) then (4:Int) else (ns.length:Nat)) else 1)=cnt at e6
 refine wC (lo:=0) (n:=cnt.toNat) (fun i σ H2=>(∃ v1 v2 v3 v4 v5 v6 v7 v8 v9,σ=[some (.ref a),v1,v2,v3,v4,v5,v6,v7,v8,v9])∧Scr K a (ns.map V.int) H2∧TabQ qR Pt H2) ⟨⟨_,_,_,_,_,_,_,_,_,rfl⟩,Scr.of hS,tab⟩ ?_ ?_
 rotate_left
 ·rintro σ H2 ⟨⟨v1,v2,v3,v4,v5,v6,v7,v8,v9,rfl⟩,scr,tab⟩
  exact k _
 rintro i σ H2 hi ⟨⟨v1,v2,v3,v4,v5,v6,v7,v8,v9,rfl⟩,scr,tab⟩
 have i6:i<4:=by lia
 refine⟨_,rfl,_,rfl,a,ns,_,rfl,scr.sq,h63,by lia,by lia,fun l H3 hl s3 S3=>?_⟩
 have le3:LE K a l Pt (ns.map V.int) H3:=⟨S3,tab.same s3,scr.keep fun o e _=>.inr (s3 _ _ e),by
  rcases scr with z|⟨o,z⟩|z
  ·exact .inl (zG z hl)
  ·exact .inl (zG z hl)
  ·exact .inr z⟩
 clear scr tab s3 hl
 refine⟨_,rfl,l,rfl,le3.S,fun rn frn ern psn N H4 few na4 S4 B4=>?_⟩
 have le4:=le3.pick S4 B4
 have ok:=few.ok
 refine⟨_,rfl,_,rfl,l,rn,frn,ern,psn,N,rfl,le4.S,ok,na4,fun p moves H5 ln hp S5 B5=>?_⟩
 have le5:=le4.pick S5 B5
 have na5:=na4.tups (B5.tups3 le4.S)
 have mlen:=ln.len
 have l8:=few.ln
 clear B4 B5 na4 le3 le4 S4
 refine⟨_,rfl,_,rfl,rn,frn,ern,psn,N,p,moves,rfl,ok,na5,hp,fun H6 b s6=>⟨b,rfl,?_⟩⟩
 have le6:=le5.same s6
 have na6:=na5.tups (Tups.of s6)
 have hp6:=s6 _ _ hp
 clear s6 le5 na5 hp S5 S3
 cases b with
 | false=>exact zv ⟨⟨_,_,_,_,_,_,_,_,_,rfl⟩,le6.scr,le6.tab⟩
 | true =>
 refine yP ⟨_,rfl,_,rfl,rn,frn,ern,psn,N,p,moves,600,rfl,ok,na6,hp6,ln.lt,by lia,by decide,fun H7 s7=>?_,fun pp bs ks H7 s7 np hpp ka cl=>?_⟩
 ·have le7:=le6.same s7
  exact⟨_,rfl,rfl,_,rfl,zv ⟨⟨_,_,_,_,_,_,_,_,_,rfl⟩,le7.scr,le7.tab⟩⟩
 have le7:=le6.same s7
 have na7:=na6.tups (Tups.of s7)
 have hp7:=s7 _ _ hp6
 have ppl:pp≠l:=fun e=>by
  obtain⟨x,y,z,q,_⟩:=le6.S.ex
  rw[e,q]at np;cases np
 have ppP:pp≠Pt:=fun e=>by
  obtain⟨ls,q,_⟩:=le6.tab
  rw[e,q]at np;cases np
 refine⟨_,rfl,rfl,_,rfl,yP ?_⟩
 clear le6 na6 hp6 s7 np
 refine⟨_,rfl,_,rfl,_,rfl,_,rfl,_,rfl,l,rn,frn,ern,psn,N,p,pp,moves,bs,ks,rfl,le7.S,ok,na7,hp7,ln.lt,by lia,hpp,ka,cl,fun q bs2 ks2 H8 hq ka2 cl2 S8 B8=>⟨by show 2≤sizeLine;decide,fun T hT=>?_⟩⟩
 have sT:=zC hT (.tup [.ref pp,.ref q])
 have u78:LP l Pt H7 (L2.upd H8 T (.tup [.ref pp,.ref q])):=(LP.l B8).trans (LP.of sT)
 have le9:=(le7.pick S8 B8).same sT
 have t9:=LP.tups le7 u78
 have lots:∀ x∈[V.ref pp,V.ref q],LotAt N moves (L2.upd H8 T (.tup [.ref pp,.ref q])) x:=fun x hx=>by
  rcases List.mem_cons.mp hx with rfl|z
  ·exact LotAt.mv le7 u78 ⟨pp,bs,ks,rfl,hpp,ka,cl.up (by decide) (by decide)⟩
  ·rw[List.mem_singleton.mp z]
   exact⟨q,bs2,ks2,rfl,sT _ _ hq,ka2.tups (Tups.of sT),cl2⟩
 have na9:=na7.tups t9
 have hp9:=t9 _ _ hp7
 refine⟨T,rfl,⟨_,SqT.of zD⟩,?_⟩
 have hT9:L2.upd H8 T (.tup [.ref pp,.ref q]) T=some (.tup [.ref pp,.ref q]):=zD
 show ∃ W:Nat→Nat→St→Hp→Prop,(∃ m,W 0 m _ (L2.upd H8 T (.tup [.ref pp,.ref q])))∧_
 generalize L2.upd H8 T (.tup [.ref pp,.ref q])=H9 at *
 clear sT u78 t9 hT ka2 cl2 S8 B8 hq le7 na7 hp7 hpp ka cl ppl ppP
 refine wo (K:=K) (a:=T) (xs:=[.ref pp,.ref q]) (fun j σ HA=>(∃ v6 v7 v8 v9,σ=[some (.ref a),some (.int (0+(i:Nat))),some (.ref l),some (.ref rn),some (.ref p),some (.ref pp),v6,v7,v8,v9])∧LE K a l Pt (ns.map V.int) HA∧LP l Pt H9 HA) ⟨⟨_,_,_,_,rfl⟩,le9,fun b o e _ _=>e⟩ (fun j σ HA _ z=>SqT.of (LP.tups le9 z.2.2 _ _ hT9)) ?_ ?_
 rotate_left
 ·rintro σ HA ⟨⟨v6,v7,v8,v9,rfl⟩,leA,lp⟩
  exact⟨⟨_,_,_,_,_,_,_,_,_,rfl⟩,leA.scr,leA.tab⟩
 rintro j x σ HA hx ⟨⟨v6,v7,v8,v9,rfl⟩,leA,lp⟩
 obtain⟨c,bs,ks,rfl,hc,ka,cl⟩:=LotAt.mv le9 lp (lots x (List.mem_of_getElem? hx))
 have naA:=na9.tups (LP.tups le9 lp)
 have hpA:=LP.tups le9 lp _ _ hp9
 have kl:=Paired.length ka
 have cf:=cl.few
 refine⟨_,rfl,c,rfl,⟨_,SqL.of hc⟩,fun lf hlf=>?_⟩
 refine vc (K:=K) (a:=c) (xs:=bs.map V.ref) (fun i acc σ HB=>(∃ v0 v1,σ=[v0,v1])∧Same HA HB∧HB lf=some (.lst acc)∧acc=((ks.take i).map vg).map V.int) ⟨⟨_,_,rfl⟩,zC hlf _,zP hlf _,rfl⟩ (fun i acc σ HB z=>⟨z.2.2.1,SqL.of (z.2.1 _ _ hc)⟩) ?_ ?_
 ·rintro i x acc σ HB hx ⟨⟨v0,v1,rfl⟩,sB,hB,rfl⟩
  rw[List.getElem?_map]at hx
  obtain⟨b,eb,rfl⟩:=Option.map_eq_some_iff.mp hx
  have il:=(List.getElem?_eq_some_iff.mp eb).1
  obtain⟨kk,ek,kb⟩:=kw ka eb
  have ik:=(List.getElem?_eq_some_iff.mp ek).1
  obtain⟨t,u,hs,e1,e2,ne,et⟩:=jW (cl.ok kk (List.mem_of_getElem? ek)).1 (kb.tups (Tups.of sB))
  refine⟨b,_,rfl,SqT.of e1,rfl,_,_,rfl,_,_,rfl,rfl,_,rfl,u,hs,rfl,SqT.of e2,List.length_pos_iff.mpr ne,fun M mM lM=>?_⟩
  rw[← oU mM lM,← et]
  refine⟨hB,by rw[List.length_map,List.length_map,List.length_take,sizeLine_eq];lia,nx (by rw[List.length_map];exact il) ⟨⟨_,_,rfl⟩,fun c o e=>?_,zD,?_⟩⟩
  ·rw[zH (zG e hlf)];exact sB c o e
  ·rw[List.take_succ_eq_append_getElem ik,List.map_append,List.map_append,(List.getElem?_eq_some_iff.mp ek).2];rfl
 rintro acc σ HB ⟨⟨v0,v1,rfl⟩,sB,hB,rfl⟩
 rw[List.length_map,kl,List.take_length]at hB
 refine⟨lf,ks.map vg,rfl,SqL.of hB,?_,fun far mF lF=>?_⟩
 ·rw[List.length_map];exact List.length_pos_of_mem cl.fst
 obtain⟨jk,jm,je⟩:=List.mem_map.mp mF
 have lF':∀ k∈ks,vg k≤far:=fun k hk=>lF _ (List.mem_map.mpr ⟨k,hk,rfl⟩)
 have leB:=leA.same sB
 refine⟨_,rfl,_,rfl,l,c,bs.map V.ref,rfl,sB _ _ hc,by rw[List.length_map];lia,leB.S,fun tp ys HC py htp SC BC=>?_⟩
 have leC:=leB.pick SC BC
 have tBC:=BC.tups3 leB.S
 have lpC:LP l Pt H9 HC:=(lp.trans (LP.of sB)).trans (LP.l BC)
 obtain⟨bs',ks',rfl,ka',pk⟩:=nU py rfl ((ka.tups (Tups.of sB)).tups tBC)
 have cl':=cl.perm pk
 have naC:=(naA.tups (Tups.of sB)).tups tBC
 have hpC:=tBC _ _ (sB _ _ hpA)
 have lF2:∀ k∈ks',vg k≤far:=fun k hk=>lF' k (pk.mem_iff.mp hk)
 have jm2:=pk.mem_iff.mpr jm
 clear py tBC ka cl SC BC leB sB hB lF lF' mF leA naA hpA hc hlf lp kl cf
 obtain⟨dd,shb⟩:=jK htp ka' cl' (by decide) few.fk l8 (by decide)
 refine⟨_,rfl,tp,_,rfl,dd,shb,?_⟩
 have an:∀ {HX:Hp},Tups HC HX→An HX (.ref tp)∧(∀ xs,zw HX (.ref tp)=some xs→xs.length≤500000∧∀ y∈xs,Dp HX 2 y)∧zw HX (.ref tp)=some (bs'.map V.ref):=fun {HX} tx=>by
  have h:=tx _ _ htp
  refine⟨.inr ⟨tp,rfl,.inl ⟨_,h⟩⟩,fun xs z=>?_,zy h⟩
  rw[zy h]at z
  obtain rfl:=Option.some.inj z
  have kl:=Paired.length ka'
  have cf:=cl'.few
  refine⟨by rw[List.length_map];lia,fun y hy=>?_⟩
  obtain⟨b,hb,rfl⟩:=List.mem_map.mp hy
  obtain⟨k,hk,kb⟩:=(ka'.tups tx).mem b hb
  exact eQ ok (cl'.ok k hk).1 kb
 have an0:=an (HX:=HC) fun b ys e=>e
 refine⟨_,rfl,_,rfl,_,rfl,_,rfl,rn,frn,ern,psn,N,p,moves,far,.ref tp,rfl,ok,naC,hpC,ln.lt,by lia,an0.1,an0.2.1,leC.tab,fun HD BD tabD=>?_⟩
 have yes:∀ {HX:Hp}{fa:Int},Tups HC HX→far≤fa→xv (stR HX (N.forks.length:Nat) (N.lanes:Nat) fa) (bs'.map V.ref) (plK (List.replicate N.forks.length 0) (List.replicate N.lanes 0)) moves (xM N)=true:=fun tx l=>jM (ka'.tups tx) cl' fun k hk=>Int.le_trans (lF2 k hk) l
 rw[an0.2.2]
 dsimp only
 rw[yes (fun b ys e=>e) (Int.le_refl _)]
 have leD:=leC.ver tabD BD
 have tD:=sv leC.tab BD
 have lpD:=lpC.trans (LP.p BD)
 refine⟨true,true,rfl,rfl,_,rfl,?_⟩
 refine zv ⟨_,rfl,tp,_,rfl,(jK (tD _ _ htp) (ka'.tups tD) cl' (by decide) few.fk l8 (by decide)).1,shb,_,rfl,rfl,_,rfl,?_⟩
 rw[decide_eq_true rfl]
 refine zv ?_
 refine⟨_,rfl,_,rfl,_,rfl,_,_,rfl,rfl,_,rfl,l,9,rfl,by decide,by decide,leD.S,fun v HE hv SE BE=>?_⟩
 have leE:=leD.pick SE BE
 have tE:=tD.trans (BE.tups3 leD.S)
 have anE:=an tE
 refine⟨_,_,rfl,rfl,_,rfl,rn,frn,ern,psn,N,p,moves,far+1+(v:Nat),.ref tp,rfl,ok,naC.tups tE,tE _ _ hpC,ln.lt,by lia,anE.1,anE.2.1,leE.tab,fun HF BF tabF=>?_⟩
 rw[anE.2.2]
 dsimp only
 rw[yes tE (by lia)]
 have leF:=leE.ver tabF BF
 have tF:=tE.trans (sv leE.tab BF)
 have lpF:=(lpD.trans (LP.l BE)).trans (LP.p BF)
 refine⟨true,true,rfl,rfl,_,rfl,zv ?_⟩
 have anF:=an tF
 refine⟨_,rfl,_,rfl,_,rfl,_,_,rfl,rfl,_,rfl,rn,frn,ern,psn,N,p,moves,far-1,.ref tp,rfl,ok,naC.tups tF,tF _ _ hpC,ln.lt,by lia,anF.1,anF.2.1,leF.tab,fun HG BG tabG=>?_⟩
 rw[anF.2.2]
 dsimp only
 have no:xv (stR HF (N.forks.length:Nat) (N.lanes:Nat) (far-1)) (bs'.map V.ref) (plK (List.replicate N.forks.length 0) (List.replicate N.lanes 0)) moves (xM N)=false:=iQ (ka'.tups tF) (fun k hk=>(cl'.ok k hk).1) jm2 (by lia)
 rw[no]
 exact⟨false,false,rfl,rfl,_,rfl,zv ⟨⟨_,_,_,_,rfl⟩,leF.ver tabG BG,lpF.trans (LP.p BG)⟩⟩
end
structure FnAt (K:PySem.W.Frag) (x:Str) (st:Stmt) (f:Addr) (fd:FuncData):Prop where
 ns:PySem.W.nsIn K mainGlobals x=some (some (.ref f))
 fn:Fun K x x st f fd
theorem zz {K:PySem.W.Frag}{x:Str}{st:Stmt}{f:Addr}{oc:Value}{od an:Option Addr}{osl:Array (Option Value)}{kV doc pm cdv ct:Value}(a:PySem.W.nsIn K mainGlobals x=some (some (.ref f)))
  (l:K.lookup f=some ⟨oc,od,.func (PySem.W.fnOf x x (y9 st) (yV st) (zM st) .none kV doc pm an cdv ct),osl⟩) (c:PySem.W.codeIn K cdv x=true) (k:PySem.W.keepIn K (.ref f)=true):FnAt K x st f (PySem.W.fnOf x x (y9 st) (yV st) (zM st) .none kV doc pm an cdv ct):=⟨a,gh l c k⟩
structure FnAtC (K:PySem.W.Frag) (x:Str) (st:Stmt) (f:Addr) (fd:FuncData) (c:Addr):Prop where
 ns:PySem.W.nsIn K mainGlobals x=some (some (.ref f))
 fn:FunC K x x st f fd c
theorem gj {K:PySem.W.Frag}{x:Str}{st:Stmt}{f c:Addr}{oc:Value}{od an:Option Addr}{osl:Array (Option Value)}{kV doc pm ct:Value}(a:PySem.W.nsIn K mainGlobals x=some (some (.ref f)))
  (l:K.lookup f=some ⟨oc,od,.func (PySem.W.fnOf x x (y9 st) (yV st) (zM st) .none kV doc pm an (.ref c) ct),osl⟩) (cd:PySem.W.codeIn K (.ref c) x=true) (k:PySem.W.keepIn K (.ref f)=true):FnAtC K x st f (PySem.W.fnOf x x (y9 st) (yV st) (zM st) .none kV doc pm an (.ref c) ct) c:=⟨a,⟨⟨_,_,_,_,_,_,_,_,rfl,l,cd⟩,k⟩⟩
theorem _root_.L2.FunC.fun {K:PySem.W.Frag}{x qual:Str}{st:Stmt}{f:Addr}{fd:FuncData}{c:Addr}(F:FunC K x qual st f fd c):Fun K x qual st f fd:=by
 obtain⟨oc,od,kV,doc,pm,an,ct,osl,e,l,q⟩:=F.ex
 exact⟨⟨oc,od,kV,doc,pm,an,.ref c,ct,osl,e,l,q⟩,F.kp⟩
theorem md {K:PySem.W.Frag}{c P:Addr}{od:Option Addr}{vs:Array Value}{osl:Array (Option Value)}(l:K.lookup c=some ⟨.type "code",od,.fields vs,osl⟩) (e:PySem.W.codeHdIn [(c,⟨.type "code",od,.fields vs,osl⟩)] c P=true):PySem.W.codeHdIn K c P=true:=by
 have q:List.lookup c [(c,(⟨.type "code",od,.fields vs,osl⟩:Obj))]=some ⟨.type "code",od,.fields vs,osl⟩:=by rw[List.lookup_cons,beq_self_eq_true]
 unfold PySem.W.codeHdIn at e ⊢
 rw[q]at e
 rw[l];exact e
theorem us1 {us:List Value}(h:us.length=1):∃ u0,us=[u0]:=by
 match us,h with
 | [u0],_=>exact⟨u0,rfl⟩
theorem us2 {us:List Value}(h:us.length=2):∃ u0 u1,us=[u0,u1]:=by
 match us,h with
 | [u0,u1],_=>exact⟨u0,u1,rfl⟩
theorem us3 {us:List Value}(h:us.length=3):∃ u0 u1 u2,us=[u0,u1,u2]:=by
 match us,h with
 | [u0,u1,u2],_=>exact⟨u0,u1,u2,rfl⟩
theorem us4 {us:List Value}(h:us.length=4):∃ u0 u1 u2 u3,us=[u0,u1,u2,u3]:=by
 match us,h with
 | [u0,u1,u2,u3],_=>exact⟨u0,u1,u2,u3,rfl⟩
theorem us5 {us:List Value}(h:us.length=5):∃ u0 u1 u2 u3 u4,us=[u0,u1,u2,u3,u4]:=by
 match us,h with
 | [u0,u1,u2,u3,u4],_=>exact⟨u0,u1,u2,u3,u4,rfl⟩
set_option maxHeartbeats 4000001 in
theorem gy {l:PySem.W.OpenLaw}{w:World}{K:PySem.W.Frag}{h:Heap}{mg:Str→Option Value}{fa f1 f2 f3 f4 f5 f6 f7 f8 f9 f10 f11 f12 f13 f14 f15 f16 f17 f18 f19 f20 f21 f22 f23 f24 f25 f26 f27 f28 f29 f30 f31 f32 f33 f34 f35 f36 f37:Addr}{d1 d2 d3 d4 d5 d6 d7 d8 d9 d10 d11 d12 d13 d14 d15 d16 d17 d18 d19 d20 d21 d22 d23 d24 d25 d26 d27 d28 d29 d30 d31 d32 d33 d34 d35 d36 d37:FuncData}(X:K.In h) (G:h.Ns mainGlobals mg) (hfa:mg "law" = some (.ref fa))
  {cLaw Pt:Addr}
  (A1:FnAt K "is_whole" qf f1 d1)
  (A2:FnAt K "is_below" qp f2 d2)
  (A3:FnAt K "is_row" qj f3 d3)
  (A4:FnAt K "are_below" wz f4 d4)
  (A5:FnAt K "are_from_nought" qm f5 d5)
  (A6:FnAt K "end_of" gC f6 d6)
  (A7:FnAt K "run_through" i5 f7 d7)
  (A8:FnAt K "passed" sD f8 d8)
  (A9:FnAt K "given_at" ql f9 d9)
  (A10:FnAt K "added" qt f10 d10)
  (A11:FnAt K "first_turns" sF f11 d11)
  (A12:FnAt K "is_book" sE f12 d12)
  (A13:FnAt K "first_place" uA f13 d13)
  (A14:FnAt K "place_behind" sC f14 d14)
  (A15:FnAt K "is_low_place" qk f15 d15)
  (A16:FnAtC K "shows_reach" xR f16 d16 cLaw)
  (A17:FnAt K "_law_left" lY f17 d17)
  (A18:FnAt K "_law_pick" lV f18 d18)
  (A19:FnAt K "_law_mixed" qh f19 d19)
  (A20:FnAt K "_law_merger" rK f20 d20)
  (A21:FnAt K "_law_stairway" rJ f21 d21)
  (A22:FnAt K "_law_block" rL f22 d22)
  (A23:FnAt K "_law_tree" rH f23 d23)
  (A24:FnAt K "_law_made" lX f24 d24)
  (A25:FnAt K "_law_any" lZ f25 d25)
  (A26:FnAt K "_law_changed" gD f26 d26)
  (A27:FnAt K "_law_net" lW f27 d27)
  (A28:FnAt K "_law_some" qg f28 d28)
  (A29:FnAt K "_law_passed" i7 f29 d29)
  (A30:FnAt K "_law_more" i8 f30 d30)
  (A31:FnAt K "_law_ends" qi f31 d31)
  (A32:FnAt K "_law_even" qo f32 d32)
  (A33:FnAt K "_law_evened" gB f33 d33)
  (A34:FnAt K "_law_lowered" jd f34 d34)
  (A35:FnAt K "_law_all_places" qr f35 d35)
  (A36:FnAt K "_law_with" lU f36 d36)
  (A37:FnAt K "law" i9 f37 d37)
  (z1:PySem.W.nsIn K mainGlobals "len" = some none)
  (z2:PySem.W.nsIn K mainGlobals "range" = some none)
  (z3:PySem.W.nsIn K mainGlobals "tuple" = some none)
  (z4:PySem.W.nsIn K mainGlobals "enumerate" = some none)
  (z5:PySem.W.nsIn K mainGlobals "abs" = some none)
  (z6:PySem.W.nsIn K mainGlobals "zip" = some none)
  (z7:PySem.W.nsIn K mainGlobals "isinstance" = some none)
  (z8:PySem.W.nsIn K mainGlobals "all" = some none)
  (z9:PySem.W.nsIn K mainGlobals "sum" = some none)
  (z10:PySem.W.nsIn K mainGlobals "bool" = some none)
  (z11:PySem.W.nsIn K mainGlobals "int" = some none)
  (z12:PySem.W.nsIn K mainGlobals "str" = some none)
  (z13:PySem.W.nsIn K mainGlobals "max" = some none)
  (z14:PySem.W.nsIn K mainGlobals "min" = some none)
  (z15:PySem.W.nsIn K mainGlobals "sorted" = some none)
  (z16:PySem.W.nsIn K mainGlobals "list" = some none)
  (z17:PySem.W.nsIn K mainGlobals "set" = some none)
  (z18:PySem.W.nsIn K mainGlobals "repr" = some none)
  (z19:PySem.W.nsIn K mainGlobals "dict" = some none)
  (cH:PySem.W.codeHdIn K cLaw Pt=true) (nB4:mainGlobals≠Pt) (kP:K.lookup Pt=none)
  : (K.lookup Pt=none∧∃ c,PySem.W.codeHdIn K c Pt=true)∧∃ fd:FuncData,(∀ (s:Shared) (v:Value),BindsTo s fd ⟨[v],[]⟩ [("_law_script",v)])∧∀ base:Heap,K.In base→base.Ns mainGlobals mg→(∀ p∈[Pt],base.BuiltinsAt mg p)→FnOk l.prog w K mg base CX0 14 fa fd ["_law_script"] (oA K Pt):=by
 have e:=hfa.symm.trans (PySem.W.mg_of X G A37.ns)
 cases e
 have M:Mgs mg:=⟨PySem.W.mg_none_of X G z1,PySem.W.mg_none_of X G z2,PySem.W.mg_none_of X G z3,PySem.W.mg_none_of X G z4,PySem.W.mg_none_of X G z5,PySem.W.mg_none_of X G z6,PySem.W.mg_none_of X G z7,PySem.W.mg_none_of X G z8,PySem.W.mg_none_of X G z9,PySem.W.mg_none_of X G z10,PySem.W.mg_none_of X G z11,PySem.W.mg_none_of X G z12,PySem.W.mg_none_of X G z13,PySem.W.mg_none_of X G z14,PySem.W.mg_none_of X G z15,PySem.W.mg_none_of X G z16⟩
 have M2:MgSet mg:=⟨PySem.W.mg_none_of X G z17⟩
 have M3:MgR mg:=⟨PySem.W.mg_none_of X G z18⟩
 have M4:MgD mg:=⟨PySem.W.mg_none_of X G z19⟩
 have b1:=A1.fn.binds (ps:=["thing"]) fun _ _ _ _ _ _ us hl=>by obtain⟨u0,rfl⟩:=us1 hl;rfl
 have m1:=PySem.W.mg_of X G A1.ns
 have b2:=A2.fn.binds (ps:=["thing","bound"]) fun _ _ _ _ _ _ us hl=>by obtain⟨u0,u1,rfl⟩:=us2 hl;rfl
 have m2:=PySem.W.mg_of X G A2.ns
 have b3:=A3.fn.binds (ps:=["thing","many"]) fun _ _ _ _ _ _ us hl=>by obtain⟨u0,u1,rfl⟩:=us2 hl;rfl
 have m3:=PySem.W.mg_of X G A3.ns
 have b4:=A4.fn.binds (ps:=["thing","many","bound"]) fun _ _ _ _ _ _ us hl=>by obtain⟨u0,u1,u2,rfl⟩:=us3 hl;rfl
 have m4:=PySem.W.mg_of X G A4.ns
 have b5:=A5.fn.binds (ps:=["thing","many"]) fun _ _ _ _ _ _ us hl=>by obtain⟨u0,u1,rfl⟩:=us2 hl;rfl
 have m5:=PySem.W.mg_of X G A5.ns
 have b6:=A6.fn.binds (ps:=["net","lane"]) fun _ _ _ _ _ _ us hl=>by obtain⟨u0,u1,rfl⟩:=us2 hl;rfl
 have m6:=PySem.W.mg_of X G A6.ns
 have b7:=A7.fn.binds (ps:=["net","turns","lane","back"]) fun _ _ _ _ _ _ us hl=>by obtain⟨u0,u1,u2,u3,rfl⟩:=us4 hl;rfl
 have m7:=PySem.W.mg_of X G A7.ns
 have b8:=A8.fn.binds (ps:=["net","turns","lane"]) fun _ _ _ _ _ _ us hl=>by obtain⟨u0,u1,u2,rfl⟩:=us3 hl;rfl
 have m8:=PySem.W.mg_of X G A8.ns
 have b9:=A9.fn.binds (ps:=["row","place","value"]) fun _ _ _ _ _ _ us hl=>by obtain⟨u0,u1,u2,rfl⟩:=us3 hl;rfl
 have m9:=PySem.W.mg_of X G A9.ns
 have b10:=A10.fn.binds (ps:=["counts","place","many"]) fun _ _ _ _ _ _ us hl=>by obtain⟨u0,u1,u2,rfl⟩:=us3 hl;rfl
 have m10:=PySem.W.mg_of X G A10.ns
 have b11:=A11.fn.binds (ps:=["net"]) fun _ _ _ _ _ _ us hl=>by obtain⟨u0,rfl⟩:=us1 hl;rfl
 have m11:=PySem.W.mg_of X G A11.ns
 have b12:=A12.fn.binds (ps:=["thing","is_state","first","moves","led"]) fun _ _ _ _ _ _ us hl=>by obtain⟨u0,u1,u2,u3,u4,rfl⟩:=us5 hl;rfl
 have m12:=PySem.W.mg_of X G A12.ns
 have b13:=A13.fn.binds (ps:=["net"]) fun _ _ _ _ _ _ us hl=>by obtain⟨u0,rfl⟩:=us1 hl;rfl
 have m13:=PySem.W.mg_of X G A13.ns
 have b14:=A14.fn.binds (ps:=["net","place","lane"]) fun _ _ _ _ _ _ us hl=>by obtain⟨u0,u1,u2,rfl⟩:=us3 hl;rfl
 have m14:=PySem.W.mg_of X G A14.ns
 have b15:=A15.fn.binds (ps:=["net","far","thing"]) fun _ _ _ _ _ _ us hl=>by obtain⟨u0,u1,u2,rfl⟩:=us3 hl;rfl
 have m15:=PySem.W.mg_of X G A15.ns
 have b16:=A16.fn.fun.binds (ps:=["net","some","far","thing"]) fun _ _ _ _ _ _ us hl=>by obtain⟨u0,u1,u2,u3,rfl⟩:=us4 hl;rfl
 have m16:=PySem.W.mg_of X G A16.ns
 have b17:=A17.fn.binds (ps:=["_law_script","_law_k"]) fun _ _ _ _ _ _ us hl=>by obtain⟨u0,u1,rfl⟩:=us2 hl;rfl
 have m17:=PySem.W.mg_of X G A17.ns
 have b18:=A18.fn.binds (ps:=["_law_left_here","_law_many"]) fun _ _ _ _ _ _ us hl=>by obtain⟨u0,u1,rfl⟩:=us2 hl;rfl
 have m18:=PySem.W.mg_of X G A18.ns
 have b19:=A19.fn.binds (ps:=["_law_left_here","_law_row"]) fun _ _ _ _ _ _ us hl=>by obtain⟨u0,u1,rfl⟩:=us2 hl;rfl
 have m19:=PySem.W.mg_of X G A19.ns
 have b20:=A20.fn.binds (ps:=["_law_one","_law_other"]) fun _ _ _ _ _ _ us hl=>by obtain⟨u0,u1,rfl⟩:=us2 hl;rfl
 have m20:=PySem.W.mg_of X G A20.ns
 have b21:=A21.fn.binds (ps:=["_law_row"]) fun _ _ _ _ _ _ us hl=>by obtain⟨u0,rfl⟩:=us1 hl;rfl
 have m21:=PySem.W.mg_of X G A21.ns
 have b22:=A22.fn.binds (ps:=["_law_row"]) fun _ _ _ _ _ _ us hl=>by obtain⟨u0,rfl⟩:=us1 hl;rfl
 have m22:=PySem.W.mg_of X G A22.ns
 have b23:=A23.fn.binds (ps:=["_law_row"]) fun _ _ _ _ _ _ us hl=>by obtain⟨u0,rfl⟩:=us1 hl;rfl
 have m23:=PySem.W.mg_of X G A23.ns
 have b24:=A24.fn.binds (ps:=["_law_way","_law_k"]) fun _ _ _ _ _ _ us hl=>by obtain⟨u0,u1,rfl⟩:=us2 hl;rfl
 have m24:=PySem.W.mg_of X G A24.ns
 have b25:=A25.fn.binds (ps:=["_law_left_here"]) fun _ _ _ _ _ _ us hl=>by obtain⟨u0,rfl⟩:=us1 hl;rfl
 have m25:=PySem.W.mg_of X G A25.ns
 have b26:=A26.fn.binds (ps:=["_law_left_here","_law_net_here"]) fun _ _ _ _ _ _ us hl=>by obtain⟨u0,u1,rfl⟩:=us2 hl;rfl
 have m26:=PySem.W.mg_of X G A26.ns
 have b27:=A27.fn.binds (ps:=["_law_left_here"]) fun _ _ _ _ _ _ us hl=>by obtain⟨u0,rfl⟩:=us1 hl;rfl
 have m27:=PySem.W.mg_of X G A27.ns
 have b28:=A28.fn.binds (ps:=["_law_left_here","_law_net_here"]) fun _ _ _ _ _ _ us hl=>by obtain⟨u0,u1,rfl⟩:=us2 hl;rfl
 have m28:=PySem.W.mg_of X G A28.ns
 have b29:=A29.fn.binds (ps:=["_law_net_here","_law_turns","_law_lane"]) fun _ _ _ _ _ _ us hl=>by obtain⟨u0,u1,u2,rfl⟩:=us3 hl;rfl
 have m29:=PySem.W.mg_of X G A29.ns
 have b30:=A30.fn.binds (ps:=["_law_counts","_law_lane"]) fun _ _ _ _ _ _ us hl=>by obtain⟨u0,u1,rfl⟩:=us2 hl;rfl
 have m30:=PySem.W.mg_of X G A30.ns
 have b31:=A31.fn.binds (ps:=["_law_net_here","_law_counts"]) fun _ _ _ _ _ _ us hl=>by obtain⟨u0,u1,rfl⟩:=us2 hl;rfl
 have m31:=PySem.W.mg_of X G A31.ns
 have b32:=A32.fn.binds (ps:=["_law_net_here","_law_some_here"]) fun _ _ _ _ _ _ us hl=>by obtain⟨u0,u1,rfl⟩:=us2 hl;rfl
 have m32:=PySem.W.mg_of X G A32.ns
 have b33:=A33.fn.binds (ps:=["_law_left_here"]) fun _ _ _ _ _ _ us hl=>by obtain⟨u0,rfl⟩:=us1 hl;rfl
 have m33:=PySem.W.mg_of X G A33.ns
 have b34:=A34.fn.binds (ps:=["_law_heights"]) fun _ _ _ _ _ _ us hl=>by obtain⟨u0,rfl⟩:=us1 hl;rfl
 have m34:=PySem.W.mg_of X G A34.ns
 have b35:=A35.fn.binds (ps:=["_law_net_here","_law_some_here","_law_most"]) fun _ _ _ _ _ _ us hl=>by obtain⟨u0,u1,u2,rfl⟩:=us3 hl;rfl
 have m35:=PySem.W.mg_of X G A35.ns
 have b36:=A36.fn.binds (ps:=["_law_left_here","_law_net_here","_law_some_here","_law_places"]) fun _ _ _ _ _ _ us hl=>by obtain⟨u0,u1,u2,u3,rfl⟩:=us4 hl;rfl
 have m36:=PySem.W.mg_of X G A36.ns
 obtain⟨oc,od,kV,doc,pm,an,cdv,ct,osl,ed,_,_⟩:=id A37.fn.ex
 refine⟨⟨kP,cLaw,cH⟩,d37,fun s v=>by rw[ed];exact .of_eq rfl,fun base _ _ bB=>?_⟩
 have CK:CodeK K mg base cLaw Pt:=⟨cH,bB Pt (.head _),nB4⟩
 have U1:Use l.prog w K mg base "is_whole" ["thing"] 1 (vW K) f1 d1:=⟨kJ A1.fn M,b1,A1.fn.kp,m1⟩
 have U2:Use l.prog w K mg base "is_below" ["thing","bound"] 2 (tY K) f2 d2:=⟨kT A2.fn M U1,b2,A2.fn.kp,m2⟩
 have U3:Use l.prog w K mg base "is_row" ["thing","many"] 1 (wc K) f3 d3:=⟨kN A3.fn M,b3,A3.fn.kp,m3⟩
 have U4:Use l.prog w K mg base "are_below" ["thing","many","bound"] 3 (tZ K) f4 d4:=⟨rT A4.fn M U3 U2,b4,A4.fn.kp,m4⟩
 have U5:Use l.prog w K mg base "are_from_nought" ["thing","many"] 2 (tW K) f5 d5:=⟨kR A5.fn M U3 U1,b5,A5.fn.kp,m5⟩
 have U6:Use l.prog w K mg base "end_of" ["net","lane"] 1 lL f6 d6:=⟨gS A6.fn,b6,A6.fn.kp,m6⟩
 have U7:Use l.prog w K mg base "run_through" ["net","turns","lane","back"] 2 lJ f7 d7:=⟨gM A7.fn M U6,b7,A7.fn.kp,m7⟩
 have U8:Use l.prog w K mg base "passed" ["net","turns","lane"] 3 (wO false) f8 d8:=⟨ng A8.fn U7,b8,A8.fn.kp,m8⟩
 have U9:Use l.prog w K mg base "given_at" ["row","place","value"] 1 tV f9 d9:=⟨kQ A9.fn M,b9,A9.fn.kp,m9⟩
 have U10:Use l.prog w K mg base "added" ["counts","place","many"] 2 tu f10 d10:=⟨kW A10.fn M U9,b10,A10.fn.kp,m10⟩
 have U11:Use l.prog w K mg base "first_turns" ["net"] 1 vt f11 d11:=⟨nj A11.fn M,b11,A11.fn.kp,m11⟩
 have U13:Use l.prog w K mg base "first_place" ["net"] 2 ww f13 d13:=⟨pI A13.fn U11,b13,A13.fn.kp,m13⟩
 have U14:Use l.prog w K mg base "place_behind" ["net","place","lane"] 4 wZ f14 d14:=⟨nZ A14.fn M U8 U10,b14,A14.fn.kp,m14⟩
 have U15:Use l.prog w K mg base "is_low_place" ["net","far","thing"] 4 (vX K) f15 d15:=⟨kO A15.fn M U3 U4 U5,b15,A15.fn.kp,m15⟩
 have U12:Use l.prog w K mg base "is_book" ["thing","is_state","first","moves","led"] 6 (vq l.prog w K (tI qR) ["net","far"] (pS K) (uM qR) ["net"] xj) f12 d12:=⟨ni A12.fn M (iC qR U15) (mH qR U14),b12,A12.fn.kp,m12⟩
 have U16:Use l.prog w K mg base "shows_reach" ["net","some","far","thing"] 7 (vo K qR Pt) f16 d16:=⟨nY A16.fn CK U12 U13,b16,A16.fn.kp,m16⟩
 have U17:Use l.prog w K mg base "_law_left" ["_law_script","_law_k"] 1 (tU K) f17 d17:=⟨jx A17.fn M,b17,A17.fn.kp,m17⟩
 have U18:Use l.prog w K mg base "_law_pick" ["_law_left_here","_law_many"] 1 yo f18 d18:=⟨jq A18.fn,b18,A18.fn.kp,m18⟩
 have U19:Use l.prog w K mg base "_law_mixed" ["_law_left_here","_law_row"] 2 wb f19 d19:=⟨kL A19.fn M U18,b19,A19.fn.kp,m19⟩
 have U20:Use l.prog w K mg base "_law_merger" ["_law_one","_law_other"] 5 xa f20 d20:=⟨nh A20.fn M b20 m20,b20,A20.fn.kp,m20⟩
 have U21:Use l.prog w K mg base "_law_stairway" ["_law_row"] 10 vn f21 d21:=⟨nX A21.fn M U20 b21 m21,b21,A21.fn.kp,m21⟩
 have U22:Use l.prog w K mg base "_law_block" ["_law_row"] 5 wd f22 d22:=⟨nk A22.fn M b22 m22,b22,A22.fn.kp,m22⟩
 have U23:Use l.prog w K mg base "_law_tree" ["_law_row"] 5 vk f23 d23:=⟨nW A23.fn M b23 m23,b23,A23.fn.kp,m23⟩
 have U24:Use l.prog w K mg base "_law_made" ["_law_way","_law_k"] 11 tT f24 d24:=⟨jt A24.fn M U22 U21 U23,b24,A24.fn.kp,m24⟩
 have U25:Use l.prog w K mg base "_law_any" ["_law_left_here"] 3 qY f25 d25:=⟨jy A25.fn M U18 U19,b25,A25.fn.kp,m25⟩
 have U26:Use l.prog w K mg base "_law_changed" ["_law_left_here","_law_net_here"] 2 lN f26 d26:=⟨gT A26.fn M U18,b26,A26.fn.kp,m26⟩
 have U27:Use l.prog w K mg base "_law_net" ["_law_left_here"] 12 qW f27 d27:=⟨jr A27.fn M U18 U25 U24 U26,b27,A27.fn.kp,m27⟩
 have U28:Use l.prog w K mg base "_law_some" ["_law_left_here","_law_net_here"] 2 tS f28 d28:=⟨kK A28.fn M U18,b28,A28.fn.kp,m28⟩
 have U29:Use l.prog w K mg base "_law_passed" ["_law_net_here","_law_turns","_law_lane"] 1 (wO false) f29 d29:=⟨gN A29.fn M,b29,A29.fn.kp,m29⟩
 have U30:Use l.prog w K mg base "_law_more" ["_law_counts","_law_lane"] 1 pj f30 d30:=⟨gO A30.fn,b30,A30.fn.kp,m30⟩
 have U31:Use l.prog w K mg base "_law_ends" ["_law_net_here","_law_counts"] 1 qX f31 d31:=⟨kM A31.fn M,b31,A31.fn.kp,m31⟩
 have U32:Use l.prog w K mg base "_law_even" ["_law_net_here","_law_some_here"] 2 tX f32 d32:=⟨kS A32.fn M M2 U31,b32,A32.fn.kp,m32⟩
 have U33:Use l.prog w K mg base "_law_evened" ["_law_left_here"] 13 lK f33 d33:=⟨gR A33.fn M U18 U27 U24 U22 U19,b33,A33.fn.kp,m33⟩
 have U34_T:Use l.prog w K mg base "_law_lowered" ["_law_heights"] 1 (wP false) f34 d34:=⟨ju A34.fn M,b34,A34.fn.kp,m34⟩
 have U34_L:Use l.prog w K mg base "_law_lowered" ["_law_heights"] 1 (wP true) f34 d34:=⟨jw A34.fn M,b34,A34.fn.kp,m34⟩
 have U35:Use l.prog w K mg base "_law_all_places" ["_law_net_here","_law_some_here","_law_most"] 2 tf f35 d35:=⟨kU A35.fn M U29 U30 U34_T,b35,A35.fn.kp,m35⟩
 have U36:Use l.prog w K mg base "_law_with" ["_law_left_here","_law_net_here","_law_some_here","_law_places"] 2 qV f36 d36:=⟨jp A36.fn M M4 U18 U29 U30 U34_T U34_L,b36,A36.fn.kp,m36⟩
 exact gQ A37.fn M M3 U17 U18 U33 U28 U32 U35 U36 U19 U16
theorem eX {l:PySem.W.OpenLaw}{q:Program}{loose:List Str}{XP:(Str→Option Value)→Heap→Prop}{YP:World→Heap→Prop}{d:DefRec}{K:Params→PySem.W.Frag}{Pt:Addr}(hn:l.most=some 63) (hdf:d.params.defaults=[])
  (hY:∀ (w:World) (h:Heap),YP w h→(K w.params).In h∧∀ p∈[Pt],h.get? p=some (PySem.W.tabObj #[]))
  (F:∀ (w:World) (mg:Str→Option Value) (fa:Addr) (h:Heap),(K w.params).In h→h.Ns mainGlobals mg→mg d.name=some (.ref fa)→((K w.params).lookup Pt=none∧∃ c,PySem.W.codeHdIn (K w.params) c Pt=true) ∧
   ∃ fd:FuncData,(∀ (s:Shared) (u:Value),BindsTo s fd ⟨[u],[]⟩ [("_law_script",u)])∧∀ base:Heap,(K w.params).In base→base.Ns mainGlobals mg→(∀ p∈[Pt],base.BuiltinsAt mg p)→FnOk l.prog w (K w.params) mg base CX0 14 fa fd ["_law_script"] (oA (K w.params) Pt)) :
  PySem.W.WalkO q loose XP YP l.row.toRowW d [] (fun f vs=>PySem.call f vs) :=
 L2.mt (n:=63) (k:=14) (x:="_law_script") (CX:=CX0) (sp:=fun K=>oA K Pt) [Pt] hn (by decide) hdf ⟨rfl,by decide,by decide,rfl⟩ hY (fun w mg fa h a b c=>⟨fun p hp=>List.mem_singleton.mp hp ▸ (F w mg fa h a b c).1,(F w mg fa h a b c).2⟩) (fun _ _ a ns hl hS ht=>⟨a,ns,rfl,hS,hl,ht Pt (.head _),fun _=>rfl⟩) fun _ _ _ _ z=>z
end K45
theorem PySem.W.Fast.tw11281463079932853012:True:=trivial
theorem PySem.W.Fast.tw17795720480598355119:True:=trivial
theorem PySem.W.Fast.tw1767637361377261977:True:=trivial
theorem PySem.W.Fast.tw2912761065525022229:True:=trivial
theorem PySem.W.Fast.tw2807595103714001285:True:=trivial
theorem PySem.W.Fast.tw7997799460074398970:True:=trivial
theorem PySem.W.Fast.tw3011521123967656459:True:=trivial
open PySem PySem.W PyProof.Rows
set_option maxRecDepth 100000 in
set_option maxHeartbeats 0 in
theorem PySem.Challenge.cw_stairlanes_k45_places_taken_holds : PySem.Challenge.rw_stairlanes_k45_places_taken.Holds := by
 w_on;o_law;k_head;(case hw=>w_witness2)
 k_fill
 refine K45.eX (l:=PySem.Challenge.rw_stairlanes_k45_places_taken) rfl rfl (fun w h Y=>⟨PySem.W.km_in_of Y,PySem.W.km_tabs_of Y⟩) ?F
 case F =>
  intro w mg fa h KX G hmg
  refine' K45.gy KX G hmg (K45.zz ?a1 ?l1 ?c1 ?k1) (K45.zz ?a2 ?l2 ?c2 ?k2) (K45.zz ?a3 ?l3 ?c3 ?k3) (K45.zz ?a4 ?l4 ?c4 ?k4) (K45.zz ?a5 ?l5 ?c5 ?k5) (K45.zz ?a6 ?l6 ?c6 ?k6) (K45.zz ?a7 ?l7 ?c7 ?k7) (K45.zz ?a8 ?l8 ?c8 ?k8) (K45.zz ?a9 ?l9 ?c9 ?k9) (K45.zz ?a10 ?l10 ?c10 ?k10) (K45.zz ?a11 ?l11 ?c11 ?k11) (K45.zz ?a12 ?l12 ?c12 ?k12) (K45.zz ?a13 ?l13 ?c13 ?k13) (K45.zz ?a14 ?l14 ?c14 ?k14) (K45.zz ?a15 ?l15 ?c15 ?k15) (K45.gj ?a16 ?l16 ?c16 ?k16) (K45.zz ?a17 ?l17 ?c17 ?k17) (K45.zz ?a18 ?l18 ?c18 ?k18) (K45.zz ?a19 ?l19 ?c19 ?k19) (K45.zz ?a20 ?l20 ?c20 ?k20) (K45.zz ?a21 ?l21 ?c21 ?k21) (K45.zz ?a22 ?l22 ?c22 ?k22) (K45.zz ?a23 ?l23 ?c23 ?k23) (K45.zz ?a24 ?l24 ?c24 ?k24) (K45.zz ?a25 ?l25 ?c25 ?k25) (K45.zz ?a26 ?l26 ?c26 ?k26) (K45.zz ?a27 ?l27 ?c27 ?k27) (K45.zz ?a28 ?l28 ?c28 ?k28) (K45.zz ?a29 ?l29 ?c29 ?k29) (K45.zz ?a30 ?l30 ?c30 ?k30) (K45.zz ?a31 ?l31 ?c31 ?k31) (K45.zz ?a32 ?l32 ?c32 ?k32) (K45.zz ?a33 ?l33 ?c33 ?k33) (K45.zz ?a34 ?l34 ?c34 ?k34) (K45.zz ?a35 ?l35 ?c35 ?k35) (K45.zz ?a36 ?l36 ?c36 ?k36) (K45.zz ?a37 ?l37 ?c37 ?k37) ?z1 ?z2 ?z3 ?z4 ?z5 ?z6 ?z7 ?z8 ?z9 ?z10 ?z11 ?z12 ?z13 ?z14 ?z15 ?z16 ?z17 ?z18 ?z19 (K45.md ?lH2 ?eH2) ?nB4 ?kP
  (case a1=>k_is);(case l1=>k_is);(case c1=>k_is);(case k1=>k_is)
  (case a2=>k_is);(case l2=>k_is);(case c2=>k_is);(case k2=>k_is)
  (case a3=>k_is);(case l3=>k_is);(case c3=>k_is);(case k3=>k_is)
  (case a4=>k_is);(case l4=>k_is);(case c4=>k_is);(case k4=>k_is)
  (case a5=>k_is);(case l5=>k_is);(case c5=>k_is);(case k5=>k_is)
  (case a6=>k_is);(case l6=>k_is);(case c6=>k_is);(case k6=>k_is)
  (case a7=>k_is);(case l7=>k_is);(case c7=>k_is);(case k7=>k_is)
  (case a8=>k_is);(case l8=>k_is);(case c8=>k_is);(case k8=>k_is)
  (case a9=>k_is);(case l9=>k_is);(case c9=>k_is);(case k9=>k_is)
  (case a10=>k_is);(case l10=>k_is);(case c10=>k_is);(case k10=>k_is)
  (case a11=>k_is);(case l11=>k_is);(case c11=>k_is);(case k11=>k_is)
  (case a12=>k_is);(case l12=>k_is);(case c12=>k_is);(case k12=>k_is)
  (case a13=>k_is);(case l13=>k_is);(case c13=>k_is);(case k13=>k_is)
  (case a14=>k_is);(case l14=>k_is);(case c14=>k_is);(case k14=>k_is)
  (case a15=>k_is);(case l15=>k_is);(case c15=>k_is);(case k15=>k_is)
  (case a16=>k_is);(case l16=>k_is);(case c16=>k_is);(case k16=>k_is)
  (case a17=>k_is);(case l17=>k_is);(case c17=>k_is);(case k17=>k_is)
  (case a18=>k_is);(case l18=>k_is);(case c18=>k_is);(case k18=>k_is)
  (case a19=>k_is);(case l19=>k_is);(case c19=>k_is);(case k19=>k_is)
  (case a20=>k_is);(case l20=>k_is);(case c20=>k_is);(case k20=>k_is)
  (case a21=>k_is);(case l21=>k_is);(case c21=>k_is);(case k21=>k_is)
  (case a22=>k_is);(case l22=>k_is);(case c22=>k_is);(case k22=>k_is)
  (case a23=>k_is);(case l23=>k_is);(case c23=>k_is);(case k23=>k_is)
  (case a24=>k_is);(case l24=>k_is);(case c24=>k_is);(case k24=>k_is)
  (case a25=>k_is);(case l25=>k_is);(case c25=>k_is);(case k25=>k_is)
  (case a26=>k_is);(case l26=>k_is);(case c26=>k_is);(case k26=>k_is)
  (case a27=>k_is);(case l27=>k_is);(case c27=>k_is);(case k27=>k_is)
  (case a28=>k_is);(case l28=>k_is);(case c28=>k_is);(case k28=>k_is)
  (case a29=>k_is);(case l29=>k_is);(case c29=>k_is);(case k29=>k_is)
  (case a30=>k_is);(case l30=>k_is);(case c30=>k_is);(case k30=>k_is)
  (case a31=>k_is);(case l31=>k_is);(case c31=>k_is);(case k31=>k_is)
  (case a32=>k_is);(case l32=>k_is);(case c32=>k_is);(case k32=>k_is)
  (case a33=>k_is);(case l33=>k_is);(case c33=>k_is);(case k33=>k_is)
  (case a34=>k_is);(case l34=>k_is);(case c34=>k_is);(case k34=>k_is)
  (case a35=>k_is);(case l35=>k_is);(case c35=>k_is);(case k35=>k_is)
  (case a36=>k_is);(case l36=>k_is);(case c36=>k_is);(case k36=>k_is)
  (case a37=>k_is);(case l37=>k_is);(case c37=>k_is);(case k37=>k_is)
  (case z1=>k_is)
  (case z2=>k_is)
  (case z3=>k_is)
  (case z4=>k_is)
  (case z5=>k_is)
  (case z6=>k_is)
  (case z7=>k_is)
  (case z8=>k_is)
  (case z9=>k_is)
  (case z10=>k_is)
  (case z11=>k_is)
  (case z12=>k_is)
  (case z13=>k_is)
  (case z14=>k_is)
  (case z15=>k_is)
  (case z16=>k_is)
  (case z17=>k_is)
  (case z18=>k_is)
  (case z19=>k_is)
  (case lH2=>k_is);(case eH2=>rfl);(case nB4=>decide);(case kP=>rfl)
