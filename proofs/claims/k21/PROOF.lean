import PyProof.Rows.All
import Wide.All
import OpenK.AllK
import Wide.FinOn
import Lean
import PyProof.EqAt
import PyProof.EqKinds
import PyProof.TupleCall
import PyProof.NeKinds
import KE.KIntText
import PyProof.TupleOfStr
import PyProof.ReprRoads
import KE.KSortTup
import KE.KItemsList
import PyProof.NeData
import PyProof.DictKinds
import PyProof.AttrMiss
import PyProof.IsiH_list
import KE.KDictOf
import KE.KDictSum
import PyProof.DictWalks
import PyProof.DictItems
import KE.KDictList
import KE.KEqDict
import KE.KPairComp
import PyProof.DictTruth
import PyProof.MeetsDict
import KE.KLam
import KE.KNestM
import PyProof.Defs
import PyProof.P3In
import PyProof.Rows.SortRev
import PyProof.Rows.Range3
import PySem.Challenge.RW_stairlanes_k21_whole_orders_of_steps
set_option Elab.async false
set_option linter.all false
set_option maxRecDepth 100000
namespace L2
open PySem PySem.Spec PyProof.Rows
abbrev Key:=Sum Int Str
def zdR:Key→Value→Bool
  | .inl k,v=>Value.isInt k v
  | .inr x,v=>Value.isStrOf x v
def keyH (w:World):Key→Int
  | .inl k=>hashInt k
  | .inr x=>hashStr w x
theorem zaF:∀ {k:Key}{v:Value},zdR k v=true→(∃ i t,k=Sum.inl i∧v=Value.int i t)∨(∃ x t,k=Sum.inr x∧v=Value.str x t)
  | .inl i,v,h=>by
    obtain⟨t,e⟩:=Value.isInt_shape (k:=i) (v:=v) h
    exact .inl ⟨i,t,rfl,e⟩
  | .inr x,v,h=>by
    obtain⟨t,e⟩:=Value.isStrOf_shape (x:=x) (v:=v) h
    exact .inr ⟨x,t,rfl,e⟩
theorem zfH (i:Int) (t:Tok):zdR (.inl i) (.int i t)=true:=by simp[zdR,Value.isInt]
theorem zfG (x:Str) (t:Tok):zdR (.inr x) (.str x t)=true:=by simp[zdR,Value.isStrOf]
theorem zjk (a b:Int):decide ((Sum.inl a:Key)=Sum.inl b)=(a == b):=by
  by_cases e:a=b
  · subst e;simp
  · have h:¬(Sum.inl a:Key)=Sum.inl b:=fun q=>e (Sum.inl.inj q)
    rw[decide_eq_false h]
    exact(beq_eq_false_iff_ne.mpr e).symm
theorem zjh (a b:Str):decide ((Sum.inr a:Key)=Sum.inr b)=decide (a=b):=by
  by_cases e:a=b
  · subst e;simp
  · have h:¬(Sum.inr a:Key)=Sum.inr b:=fun q=>e (Sum.inr.inj q)
    rw[decide_eq_false h,decide_eq_false e]
theorem zjj (a:Int) (b:Str):decide ((Sum.inl a:Key)=Sum.inr b)=false:=decide_eq_false (fun q=>nomatch q)
theorem zji (a:Str) (b:Int):decide ((Sum.inr a:Key)=Sum.inl b)=false:=decide_eq_false (fun q=>nomatch q)
def zaE (prog:Program) (w:World):PySem.KeyKind prog w Key where
  is:=zdR
  hash:=keyH w
  inj:=fun v a b ha hb=>by
    rcases zaF ha with ⟨i,t,rfl,rfl⟩|⟨x,t,rfl,rfl⟩
    · rcases zaF hb with ⟨j,u,rfl,e⟩|⟨y,u,rfl,e⟩
      · injection e with e1 _;rw[e1]
      · exact nomatch e
    · rcases zaF hb with ⟨j,u,rfl,e⟩|⟨y,u,rfl,e⟩
      · exact nomatch e
      · injection e with e1 _;rw[e1]
  byValue:=fun k v h=>by
    rcases zaF h with ⟨i,t,rfl,rfl⟩|⟨x,t,rfl,rfl⟩<;>rfl
  pyHash:=fun hv h=>by
    rcases zaF hv with ⟨i,t,rfl,rfl⟩|⟨x,t,rfl,rfl⟩
    · exact wpAny_pyHash_int h
    · exact wpAny_pyHash_str h
  eqBool:=fun hu hv h=>by
    rcases zaF hu with ⟨i,t,rfl,rfl⟩|⟨x,t,rfl,rfl⟩
    · rcases zaF hv with ⟨j,u,rfl,rfl⟩|⟨y,u,rfl,rfl⟩
      · rw[zjk]at h;exact wpAny_eqBool_int h
      · rw[zjj]at h;exact SeqAt.EqAt.int_str i t y u _ _ _ _ h
    · rcases zaF hv with ⟨j,u,rfl,rfl⟩|⟨y,u,rfl,rfl⟩
      · rw[zji]at h;exact SeqAt.EqAt.str_int x t j u _ _ _ _ h
      · rw[zjh]at h;exact wpAny_eqBool_str h
  «strs»:=fun k x t v h=>by
    rcases zaF h with ⟨i,u,rfl,e⟩|⟨y,u,rfl,e⟩
    · exact nomatch e
    · injection e with e1 _
      subst e1
      cases v<;>rfl
theorem zey (prog:Program) (w:World) (k:Key) (v:Value):(zaE prog w).is k v=zdR k v:=rfl
theorem zdN (prog:Program) (w:World) (i:Int) (t:Tok):(zaE prog w).is (.inl i) (.int i t)=true:=zfH i t
theorem zdM (prog:Program) (w:World) (x:Str) (t:Tok):(zaE prog w).is (.inr x) (.str x t)=true:=zfG x t
inductive V where
  | non|bl (b:Bool)|int (i:Int)|str (x:Str)|byt (b:Array UInt8)|flt (b:UInt64)|ref (a:Addr)|ty (n:String)
  deriving DecidableEq
def RelV:V→Value→Prop
  | .non,u=>u=Value.none
  | .bl b,u=>u=Value.bool b
  | .int i,u=>∃ t,u=Value.int i t
  | .str x,u=>∃ t,u=Value.str x t
  | .byt b,u=>∃ t,u=Value.bytes b t
  | .flt b,u=>∃ t,u=Value.float b t
  | .ref a,u=>u=Value.ref a
  | .ty n,u=>u=Value.type n
abbrev Vals:List V→List Value→Prop:=Paired RelV
theorem Vals.length {xs:List V}{us:List Value}(r:Vals xs us):xs.length=us.length:=Paired.length r
theorem Vals.get:∀ {xs:List V}{us:List Value}{i:Nat}{x:V},Vals xs us→xs[i]?=some x→∃ u,us[i]?=some u∧RelV x u
  | _,_,_,_,.nil,e=>by simp at e
  | _,_,0,_,.cons r _,e=>by simp at e;subst e;exact⟨_,rfl,r⟩
  | _,_,i+1,x,.cons _ t,e=>by
    obtain⟨u,h1,h2⟩:=Vals.get (i:=i) (x:=x) t (by simpa using e)
    exact⟨u,by simpa using h1,h2⟩
theorem Vals.set {x:V}{u:Value}(r:RelV x u):∀ {xs:List V}{us:List Value}(i:Nat),Vals xs us→Vals (xs.set i x) (us.set i u)
  | _,_,_,.nil=>.nil
  | _,_,0,.cons _ t=>.cons r t
  | _,_,i+1,.cons q t=>.cons q (Vals.set r i t)
theorem Vals.append:∀ {xs ys:List V}{us ws:List Value},Vals xs us→Vals ys ws→Vals (xs++ys) (us++ws)
  | _,_,_,_,.nil,s=>s
  | _,_,_,_,.cons r t,s=>.cons r (Vals.append t s)
theorem Vals.take:∀ {xs:List V}{us:List Value}(n:Nat),Vals xs us→Vals (xs.take n) (us.take n)
  | _,_,0,_=>.nil
  | _,_,_+1,.nil=>.nil
  | _,_,n+1,.cons r t=>.cons r (Vals.take n t)
theorem Vals.drop:∀ {xs:List V}{us:List Value}(n:Nat),Vals xs us→Vals (xs.drop n) (us.drop n)
  | _,_,0,r=>r
  | _,_,_+1,.nil=>.nil
  | _,_,n+1,.cons _ t=>Vals.drop n t
def RelO:Option V→Option Value→Prop
  | some v,some u=>RelV v u
  | none,none=>True
  | _,_=>False
def KV {κ:Type}:List (κ × V)→List (κ × Value)→Prop:=Paired fun (p:κ × V) (q:κ × Value)=>p.1=q.1∧RelV p.2 q.2
def kV:Key→V
  | .inl i=>.int i
  | .inr x=>.str x
inductive HO where
  | lst (xs:List V)
  | tup (xs:List V)
  | dK (kvs:List (Key × V))|dT (kvs:List (List Key × V))
  | set (S:Int→Bool) (n:Nat)
  | ins (C dx:Addr) (fs:List (Str × V))
  | own (x:Addr)
  | xd (fs:List (Str × V))
  | met (f x:Addr)
  | rng (lo hi:Int)
  | frz (o:Obj) (u:HO)
  | tbl (ps:Array Value)
  | ext (φ:Heap→Prop)
abbrev Hp:=Addr→Option HO
def upd (H:Hp) (a:Addr) (o:HO):Hp:=fun b=>if b=a then some o else H b
theorem zac {H:Hp}{a:Addr}{o:HO}:upd H a o a=some o:=by unfold upd;rw[if_pos rfl]
theorem zaj {H:Hp}{a b:Addr}{o:HO}(h:b≠a):upd H a o b=H b:=by unfold upd;rw[if_neg h]
theorem zjU {H:Hp}{a b:Addr}{o u:HO}(h:H a=some o) (h':H b=some u) (d:o≠u):a≠b:=by
  intro e;subst e;rw[h]at h';exact d (Option.some.inj h')
theorem zai {H:Hp}{a b:Addr}{o:HO}(h:H a=some o) (h':H b=none):a≠b:=by
  intro e;subst e;rw[h]at h';cases h'
def TupX (h:Heap) (a:Addr) (items:Array Value):Prop:=∃ o,h.get? a=some o∧o.cls=.type "tuple"∧∃ n,o.data=.seq items n∧o.dict=none
theorem TupX.tup {h:Heap}{a:Addr}{items:Array Value}(x:TupX h a items):IsTup h a items:=let ⟨o,e,c,n,d,_⟩:=x;⟨o,e,c,n,d⟩
theorem TupX.new (h:Heap) (items:Array Value):TupX (h.push { cls:=.type "tuple",data:=.seq items }) h.objs.size items:=⟨_,Heap.get?_push_size _ rfl,rfl,0,rfl,rfl⟩
section
variable (P:Program) (w:World)
def ObjOk (H:Hp) (h:Heap) (a:Addr):HO→Prop
  | .lst xs=>xs.length≤sizeLine∧∃ (its:List Value) (n:Nat),Vals xs its∧h.get? a=some { cls:=.type "list",data:=.seq its.toArray n }
  | .tup xs=>xs.length≤sizeLine∧∃ its:List Value,Vals xs its∧TupX h a its.toArray
  | .dK kvs=>kvs.length≤sizeLine∧(a == sysModules)=false∧∃ vs,KV kvs vs∧h.DictOf (zaE P w) a vs
  | .dT kvs=>kvs.length≤sizeLine∧(a == sysModules)=false∧∃ xs:List (List Key × Addr × Value),
      Paired (fun (p:List Key × V) (q:List Key × Addr × Value)=>p.1=q.1∧H q.2.1=some (.tup (p.1.map kV))∧RelV p.2 q.2.2) kvs xs ∧
      ∃ o es ep,h.get? a=some o∧o.ExactDict∧o.data=.dict es ep∧es.toList=xs.map (entryOfKey (tupleKind (zaE P w)))∧(xs.map (·.1)).Nodup
  | .set S n=>h.SetOf (intKind P w) a S n
  | .ins C dx fs=>H dx=some (.own a)∧fs.length≤1000∧dx≠a∧h.get? a=some (PySem.W.instObj C dx) ∧
      ∃ mA,h.Ns1 dx mA∧(∀ f,RelO (fs.lookup f) (mA f))∧PySem.Within mA (fs.map (·.1))
  | .own _=>∃ o,h.get? a=some o
  | .xd fs=>∃ mA,h.Ns1 a mA∧∀ f,RelO (fs.lookup f) (mA f)
  | .rng lo hi=>∃ t u v,h.get? a=some { cls:=.type "range",data:=.fields #[.int lo t,.int hi u,.int 1 v] }
  | .frz o u=>h.get? a=some o∧ObjOk H h a u
  | .tbl ps=>h.get? a=some { cls:=.none,data:=.fields ps }
  | .met f x=>h.get? a=some (PySem.W.methodObj (.ref f) (.ref x))
  | .ext φ=>φ h∧(∃ o,h.get? a=some o)∧∀ h1 h2:Heap,φ h1→(∀ o,h1.get? a=some o→h2.get? a=some o)→φ h2
def HOk (H:Hp) (h:Heap):Prop:=∀ a o,H a=some o→ObjOk P w H h a o
end
section
variable {P:Program}{w:World}{H H':Hp}{h h':Heap}{a:Addr}{o:HO}
theorem ObjOk.lt (x:ObjOk P w H h a o):a<h.objs.size:=by
  cases o with
  | lst xs=>obtain⟨_,_,_,_,e⟩:=x;exact Heap.lt_size e
  | tup xs=>obtain⟨_,_,_,p⟩:=x;exact p.tup.lt
  | dK kvs=>obtain⟨_,_,_,_,o,_,_,e,_⟩:=x;exact Heap.lt_size e
  | dT kvs=>obtain⟨_,_,_,_,o,_,_,e,_⟩:=x;exact Heap.lt_size e
  | set S n=>obtain⟨o,_,_,_,e,_⟩:=x;exact Heap.lt_size e
  | ins C dx fs=>obtain⟨_,_,_,e,_⟩:=x;exact Heap.lt_size e
  | own y=>obtain⟨_,e⟩:=x;exact Heap.lt_size e
  | xd fs=>obtain⟨_,⟨_,_,_,e,_⟩,_⟩:=x;exact Heap.lt_size e
  | rng lo hi=>obtain⟨_,_,_,e⟩:=x;exact Heap.lt_size e
  | frz ob u=>obtain⟨e,_⟩:=x;exact Heap.lt_size e
  | tbl ps=>exact Heap.lt_size (show h.get? a=some _ from x)
  | met f y=>exact Heap.lt_size (show h.get? a=some _ from x)
  | ext φ=>obtain⟨_,⟨_,e⟩,_⟩:=x;exact Heap.lt_size e
theorem Paired.mapP {α β:Type}{F G:α→β→Prop}:∀ {l₁:List α}{l₂:List β},Paired F l₁ l₂→(∀ a b,F a b→G a b)→Paired G l₁ l₂
  | _,_,.nil,_=>.nil
  | _,_,.cons r t,f=>.cons (f _ _ r) (Paired.mapP t f)
theorem ObjOk.stay (x:ObjOk P w H h a o) (k:∀ b u,(b=a∨H b=some (.own a))→h.get? b=some u→h'.get? b=some u)
    (ho:∀ b,H b=some (.own a)→H' b=some (.own a)) (ht:∀ b xs,H b=some (.tup xs)→H' b=some (.tup xs)):ObjOk P w H' h' a o:=by
  induction o with
  | lst xs=>obtain⟨z,its,n,r,e⟩:=x;exact⟨z,its,n,r,k _ _ (.inl rfl) e⟩
  | tup xs=>obtain⟨z,its,r,ob,e,c⟩:=x;exact⟨z,its,r,ob,k _ _ (.inl rfl) e,c⟩
  | dK kvs=>obtain⟨z,y,vs,r,ob,es,ep,e,c⟩:=x;exact⟨z,y,vs,r,ob,es,ep,k _ _ (.inl rfl) e,c⟩
  | dT kvs =>
    obtain⟨z,y,xs,r,ob,es,ep,e,c⟩:=x
    exact⟨z,y,xs,Paired.mapP r fun p q z=>⟨z.1,ht _ _ z.2.1,z.2.2⟩,ob,es,ep,k _ _ (.inl rfl) e,c⟩
  | set S n=>obtain⟨ob,es,ep,t,e,c⟩:=x;exact⟨ob,es,ep,t,k _ _ (.inl rfl) e,c⟩
  | ins C dx fs =>
    obtain⟨d,z,ne,e,mA,⟨od,es,ep,e2,c⟩,r⟩:=x
    exact⟨ho _ d,z,ne,k _ _ (.inl rfl) e,mA,⟨od,es,ep,k _ _ (.inr d) e2,c⟩,r⟩
  | own y=>obtain⟨ob,e⟩:=x;exact⟨ob,k _ _ (.inl rfl) e⟩
  | xd fs=>obtain⟨mA,⟨od,es,ep,e,c⟩,r⟩:=x;exact⟨mA,⟨od,es,ep,k _ _ (.inl rfl) e,c⟩,r⟩
  | rng lo hi=>obtain⟨t,u,v,e⟩:=x;exact⟨t,u,v,k _ _ (.inl rfl) e⟩
  | frz ob u ih=>obtain⟨e,q⟩:=x;exact⟨k _ _ (.inl rfl) e,ih q⟩
  | tbl ps =>
    have e:h.get? a=some { cls:=.none,data:=.fields ps }:=x
    show h'.get? a=some { cls:=.none,data:=.fields ps }
    exact k a _ (.inl rfl) e
  | met f y =>
    have e:h.get? a=some (PySem.W.methodObj (.ref f) (.ref y)):=x
    show h'.get? a=some (PySem.W.methodObj (.ref f) (.ref y))
    exact k a _ (.inl rfl) e
  | ext φ=>obtain⟨p,⟨o,e⟩,st⟩:=x;exact⟨st _ _ p fun o q=>k _ _ (.inl rfl) q,⟨o,k _ _ (.inl rfl) e⟩,st⟩
theorem HOk.lt (x:HOk P w H h) (e:H a=some o):a<h.objs.size:=(x a o e).lt
theorem HOk.fresh (x:HOk P w H h) (e:h.objs.size≤a):H a=none:=by
  cases q:H a with
  | none=>rfl
  | some u=>exact absurd (Nat.lt_of_lt_of_le (x.lt q) e) (Nat.lt_irrefl _)
theorem HOk.kept (x:HOk P w H h) (k:∀ b u,h.get? b=some u→h'.get? b=some u):HOk P w H h':=fun a o e =>
  (x a o e).stay (fun b u _ q=>k b u q) (fun _ q=>q) fun _ _ q=>q
theorem HOk.laid (x:HOk P w H h) (k:∀ b u,h.get? b=some u→h'.get? b=some u) (hp:h.objs.size≤a) (new:ObjOk P w (upd H a o) h' a o):HOk P w (upd H a o) h':=fun b u e=>by
  have hn:=x.fresh hp
  by_cases hb:b=a
  · subst hb;rw[zac]at e;cases e;exact new
  · rw[zaj hb]at e
    exact(x b u e).stay (fun c v _ q=>k c v q) (fun c q=>by rw[zaj (zai q hn)];exact q) fun c xs q=>by rw[zaj (zai q hn)];exact q
end
def Rd (H:Hp) (a:Addr) (u:HO):Prop:=H a=some u∨∃ o,H a=some (.frz o u)
theorem Rd.ok {P:Program}{w:World}{H:Hp}{h:Heap}{a:Addr}{u:HO}(r:Rd H a u) (x:HOk P w H h):ObjOk P w H h a u:=by
  rcases r with r|⟨o,r⟩
  · exact x a u r
  · obtain⟨_,q⟩:=x a _ r
    exact q
def Mut:Option HO→Prop
  | some (.lst _)=>True
  | some (.dK _)=>True
  | some (.dT _)=>True
  | some (.set _ _)=>True
  | some (.ins _ _ _)=>True
  | some (.ext _)=>True
  | _=>False
section
variable {P:Program}{w:World}{H:Hp}{h h':Heap}{x e:Addr}{o':HO}
theorem HOk.write (ok:HOk P w H h) (mu:Mut (H x)) (he:e=x∨H e=some (.own x)) (k:∀ b u,b≠e→h.get? b=some u→h'.get? b=some u) (heo:∃ u,h'.get? e=some u)
    (new:ObjOk P w (upd H x o') h' x o'):HOk P w (upd H x o') h':=fun b u q=>by
  have nown:∀ c y,H c=some (.own y)→c≠x:=fun c y r z=>by subst z;rw[r]at mu;exact mu
  have ntup:∀ c xs,H c=some (.tup xs)→c≠x:=fun c xs r z=>by subst z;rw[r]at mu;exact mu
  by_cases hb:b=x
  · subst hb;rw[zac]at q;cases q;exact new
  · rw[zaj hb]at q
    by_cases hbe:b=e
    · have q':H b=some (.own x):=by
        rcases he with z|z
        · exact absurd (hbe.trans z) hb
        · rw[hbe];exact z
      rw[q]at q';cases q'
      obtain⟨v,hv⟩:=heo
      exact⟨v,by rw[hbe];exact hv⟩
    · refine(ok b u q).stay (fun c v hc r=>k c v ?_ r) (fun c r=>by rw[zaj (nown c b r)];exact r) fun c xs r=>by rw[zaj (ntup c xs r)];exact r
      rcases hc with rfl|hc
      · exact hbe
      · rintro rfl
        rcases he with z|z
        · exact nown c b hc z
        · rw[hc]at z;cases z;exact hb rfl
end
structure Un (fs ex:List Addr) (H H':Hp) (h h':Heap):Prop where
  keep:∀ b o,h.get? b=some o→H b=none→b∉fs→b∉ex→h'.get? b=some o
  slot:∀ b o,h.get? b=some o→H b=none→b∈fs→b∉ex→∃ sl,h'.get? b=some { o with slots:=sl }
  free:∀ b o,h.get? b=some o→H b=none→b∉ex→H' b=none
  there:∀ b o,h.get? b=some o→b∉ex→∃ o',h'.get? b=some o'
  tups:∀ b xs,H b=some (.tup xs)→H' b=some (.tup xs)
  frzs:∀ b o u,H b=some (.frz o u)→H' b=some (.frz o u)
  tbls:∀ b ps,H b=some (.tbl ps)→∃ more,H' b=some (.tbl (ps++more))
section
variable {fs fs' ex ex':List Addr}{H H1 H2:Hp}{h h1 h2 h':Heap}{a x e:Addr}{o:HO}
theorem Un.any (u:Un fs ex H H1 h h1) {b:Addr}{ob:Obj}(q:h.get? b=some ob) (n:H b=none) (hx:b∉ex):∃ sl,h1.get? b=some { ob with slots:=sl }:=by
  by_cases hb:b∈fs
  · exact u.slot b ob q n hb hx
  · exact⟨ob.slots,u.keep b ob q n hb hx⟩
theorem Un.kept (k:∀ b u,h.get? b=some u→h'.get? b=some u):Un fs ex H H h h' :=
  ⟨fun b ob q _ _ _=>k b ob q,fun b ob q _ _ _=>⟨ob.slots,k b ob q⟩,fun _ _ _ n _=>n,fun b ob q _=>⟨ob,k b ob q⟩,fun _ _ q=>q,fun _ _ _ q=>q,fun _ ps q=>⟨#[],by rw[q];simp⟩⟩
theorem Un.refl:Un fs ex H H h h:=Un.kept fun _ _ q=>q
theorem Un.laid (k:∀ b u,h.get? b=some u→h'.get? b=some u) (hp:h.objs.size≤a) (hn:H a=none):Un fs ex H (upd H a o) h h' where
  keep:=fun b u q _ _ _=>k b u q
  slot:=fun b u q _ _ _=>⟨u.slots,k b u q⟩
  free:=fun b u q n _=>by rw[zaj (Nat.ne_of_lt (Nat.lt_of_lt_of_le (Heap.lt_size q) hp))];exact n
  there:=fun b u q _=>⟨u,k b u q⟩
  tups:=fun b xs q=>by rw[zaj (zai q hn)];exact q
  frzs:=fun b u xs q=>by rw[zaj (zai q hn)];exact q
  tbls:=fun b ps q=>⟨#[],by rw[zaj (zai q hn),q];simp⟩
theorem Un.write (mu:Mut (H x)) (he:e=x∨H e=some (.own x)) (k:∀ b u,b≠e→h.get? b=some u→h'.get? b=some u) (heo:∃ u,h'.get? e=some u):Un fs ex H (upd H x o) h h':=by
  have hx:∀ b,H b=none→b≠x:=fun b n z=>by subst z;rw[n]at mu;exact mu
  have hb:∀ b,H b=none→b≠e:=fun b n z=>by
    subst z
    rcases he with r|r
    · exact hx b n r
    · rw[n]at r;cases r
  have hm:∀ b u,H b=some u→¬ Mut (some u)→b≠x:=fun b u q nm z=>by subst z;rw[q]at mu;exact nm mu
  refine⟨fun b u q n _ _=>k b u (hb b n) q,fun b u q n _ _=>⟨u.slots,k b u (hb b n) q⟩,fun b u q n _=>by rw[zaj (hx b n)];exact n,fun b u q _=>?_,
    fun b xs q=>by rw[zaj (hm b _ q fun z=>z)];exact q,fun b u xs q=>by rw[zaj (hm b _ q fun z=>z)];exact q,fun b ps q=>⟨#[],by rw[zaj (hm b _ q fun z=>z),q];simp⟩⟩
  by_cases hbe:b=e
  · subst hbe;exact heo
  · exact⟨u,k b u hbe q⟩
end
def trk (h:Heap) (H:Hp):List Addr:=(List.range h.objs.size).filter fun a=>(H a).isSome
def hidT (h:Heap) (H:Hp):Heap:=PySem.W.hideAll h (trk h H)
theorem zfP (h:Heap) (H:Hp):(hidT h H).objs.size=h.objs.size:=PySem.W.hideAll_size _ _
theorem zg1 {h:Heap}{H:Hp}{b:Addr}{o:Obj}(e:h.get? b=some o) (n:H b=none):(hidT h H).get? b=some o :=
  PySem.W.hideAll_get _ e fun hm=>by
    have q:(H b).isSome=true:=(List.mem_filter.mp hm).2
    rw[n]at q;simp at q
theorem zig {h:Heap}{H:Hp}{b:Addr}{o:Obj}(e:(hidT h H).get? b=some o):h.get? b=some o∧H b=none:=by
  have e':h.get? b=some o:=PySem.W.of_hideAll (trk h H) e
  refine⟨e',?_⟩
  cases q:H b with
  | none=>rfl
  | some x =>
    have hm:b∈trk h H:=List.mem_filter.mpr ⟨List.mem_range.mpr (Heap.lt_size e'),by simp[q]⟩
    have z:(hidT h H).get? b=none:=PySem.W.hideAll_none (trk h H) hm
    rw[z]at e;cases e
def ziJ (g h:Heap) (L:Addr):List (Addr × Obj):=(List.range h.objs.size).filterMap fun a=>if a=L∨(g.get? a).isSome=true then none else (h.get? a).map fun o=>(a,o)
def rest (g h:Heap) (L d:Addr):List (Addr × Obj):=(ziJ g h L).filter fun p=>decide (p.1≠d)
structure Mod (K:PySem.W.Frag) (mg:Str→Option Value) (base:Heap):Prop where
  kin:K.In base
  glob:base.Ns mainGlobals mg
  blt:∃ mb,base.Ns builtinsNs mb∧∀ x:Str,x≠"__name__"→mb x=bootBuiltins x
  nolimit:base.NoLimit
structure Cx where
  prog:Program
  w:World
  K:PySem.W.Frag
  mg:Str→Option Value
  base:Heap
  A:Around
  N:List Str
  s₀:Shared
  H₀:Hp
  env:Env
  outer:List Env
  stack:List Env
  ex:List Addr
  fn:Str→Bool
  calm:Bool
  pn:List (Addr × Obj)
  xe:Value→Shared→Prop
def frs (l:List Env):List Addr:=l.filterMap (·.frame)
abbrev Cx.fs (X:Cx):List Addr:=frs X.outer
def Vis (sc:Scope) (x:Str):Prop:=sc.names.lookup x=some .local ∨ sc.names.lookup x=some .cell∨sc.names.lookup x=some .free
def Loc (sc:Scope) (x:Str):Prop:=sc.names.lookup x=some .local ∨ sc.names.lookup x=some .cell
def Look (env:Env) (h:Heap) (m:Str→Option Value) (x:Str) (u:Value):Prop :=
  (env.kindOf x=some .local ∧ m x=some u)∨((env.kindOf x=some .cell∨env.kindOf x=some .free)∧∃ c,env.cells.lookup x=some c∧h.IsCell c (some u))
structure Cx.Ok (X:Cx):Prop where
  mod:Mod X.K X.mg X.base
  kind:X.env.scope.kind=.function
  glob:X.env.globals=mainGlobals
  blt:X.env.builtins=builtinsNs
  above:X.s₀.heap.objs.size≤X.env.locals
  inj:∀ x y c,X.env.cells.lookup x=some c→X.env.cells.lookup y=some c→x=y
  has:∀ x,(X.env.kindOf x=some .cell∨X.env.kindOf x=some .free)→∃ c,X.env.cells.lookup x=some c
  cab:∀ x c,X.fn x=true→X.env.cells.lookup x=some c→X.s₀.heap.objs.size≤c
  hd:X.calm=true→X.A.handled=none
  frames:X.A.frames=some X.stack
  stk:X.stack=X.outer∨(X.stack=X.env::X.outer∧X.env.frame=some X.env.locals)
  exf:∀ b∈X.ex,b≠X.env.locals∧∀ x c,X.env.cells.lookup x=some c→c≠b
  bs:∀ b o,X.base.get? b=some o→X.s₀.heap.get? b=some o∧X.H₀ b=none
  bsz:X.base.objs.size≤X.s₀.heap.objs.size
  noex:∀ b o,X.base.get? b=some o→b∉X.ex
  exfs:∀ b∈X.ex,b∉X.fs
  funs:X.s₀.heap.FunFrames X.base X.outer
  frf:∀ b∈X.fs,X.H₀ b=none
structure Inv (X:Cx) (pins:List (Addr × Obj)) (σ:List (Option V)) (H:Hp) (s:Shared):Prop where
  ok:X.Ok
  os:s.os=X.s₀.os
  bare:AllBare s.gens
  base:Un X.fs X.ex X.H₀ H X.s₀.heap s.heap
  loc:∃ m,s.heap.Ns X.env.locals m∧∀ (i:Nat) (x:Str) (v:V),X.N[i]?=some x→σ[i]?=some (some v)→Vis X.env.scope x→∃ u,RelV v u∧Look X.env s.heap m x u
  cell:∀ x c,X.env.cells.lookup x=some c→∃ v,s.heap.IsCell c v
  free:H X.env.locals=none
  freeC:∀ x c,X.env.cells.lookup x=some c→H c=none
  pin:∀ p∈X.pn++pins,s.heap.get? p.1=some p.2∧H p.1=none∧p.1≠X.env.locals∧p.1∉X.fs∧∀ v,p.2.data≠.cell v
  hok:HOk X.prog X.w H s.heap
  len:σ.length=X.N.length
section
variable {X:Cx}{pins:List (Addr × Obj)}{σ:List (Option V)}{H H':Hp}{s:Shared}{h':Heap}
theorem Cx.Ok.nofr (ok:X.Ok) {b:Addr}{o:Obj}(e:X.base.get? b=some o):b∉X.fs:=fun hb=>by
  have:=(ok.funs.mem hb).1
  rw[e]at this;cases this
theorem Inv.bs (I:Inv X pins σ H s):∀ b o,X.base.get? b=some o→s.heap.get? b=some o∧H b=none:=fun b o e =>
  ⟨I.base.keep b o (I.ok.bs b o e).1 (I.ok.bs b o e).2 (I.ok.nofr e) (I.ok.noex b o e),I.base.free b o (I.ok.bs b o e).1 (I.ok.bs b o e).2 (I.ok.noex b o e)⟩
theorem Inv.bk (I:Inv X pins σ H s):∀ b o,X.base.get? b=some o→s.heap.get? b=some o:=fun b o e=>(I.bs b o e).1
theorem Inv.mod (I:Inv X pins σ H s):Mod X.K X.mg X.base:=I.ok.mod
theorem Inv.kIn (I:Inv X pins σ H s):X.K.In s.heap:=I.ok.mod.kin.keeps I.bk
theorem Inv.lt (I:Inv X pins σ H s):X.env.locals<s.heap.objs.size:=let ⟨_,hn,_⟩:=I.loc;hn.lt
theorem Inv.sz (I:Inv X pins σ H s):X.s₀.heap.objs.size≤s.heap.objs.size:=Nat.le_trans I.ok.above (Nat.le_of_lt I.lt)
theorem Inv.nofs (I:Inv X pins σ H s) {a:Addr}(h:s.heap.objs.size≤a):a∉X.fs:=fun hb=>by
  obtain⟨_,o,ho,_⟩:=I.ok.funs.mem hb
  exact absurd (Nat.lt_of_lt_of_le (Heap.lt_size ho) (Nat.le_trans I.sz h)) (Nat.lt_irrefl _)
theorem Inv.cne (I:Inv X pins σ H s):∀ x c,X.env.cells.lookup x=some c→c≠X.env.locals:=fun x c e z=>by
  obtain⟨v,o,ho,hd⟩:=I.cell x c e
  obtain⟨m,⟨o',es,ep,ho',hd',_⟩,_⟩:=I.loc
  rw[z,ho']at ho;cases ho;rw[hd']at hd;cases hd
theorem Inv.funs (I:Inv X pins σ H s):s.heap.FunFrames X.base X.outer:=by
  have all:∀ (l:List Env),(∀ b∈frs l,b∈X.fs)→X.s₀.heap.FunFrames X.base l→s.heap.FunFrames X.base l:=by
    intro l
    induction l with
    | nil=>intro _ _;trivial
    | cons env r ih =>
      intro hs hl
      obtain⟨hk,⟨L,o,hf,hn,ho,hd⟩,hr⟩:=hl
      have hL:L∈X.fs:=hs L (by unfold frs;rw[List.filterMap_cons,hf];exact List.mem_cons_self)
      obtain⟨sl,e⟩:=I.base.slot L o ho (I.ok.frf L hL) hL fun z=>I.ok.exfs L z hL
      exact⟨hk,⟨L,_,hf,hn,e,hd⟩,ih (fun b hb=>hs b (by unfold frs;rw[List.filterMap_cons,hf];exact List.mem_cons_of_mem _ hb)) hr⟩
  exact all X.outer (fun _ hb=>hb) I.ok.funs
theorem Inv.stack (I:Inv X pins σ H s):s.heap.FunFrames X.base X.stack:=by
  rcases I.ok.stk with e|⟨e,hf⟩
  · rw[e];exact I.funs
  · rw[e]
    obtain⟨m,hn,_⟩:=I.loc
    refine .cons (by rw[I.ok.kind];decide) hf hn ?_ I.funs
    exact Heap.get?_none_of_le (Nat.le_trans I.ok.bsz I.ok.above)
theorem Inv.stkSub (I:Inv X pins σ H s):∀ b∈frs X.stack,b∈X.env.locals::X.fs:=fun b hb=>by
  rcases I.ok.stk with e|⟨e,hf⟩
  · rw[e]at hb;exact List.mem_cons_of_mem _ hb
  · rw[e]at hb
    unfold frs at hb
    rw[List.filterMap_cons,hf]at hb
    exact hb
theorem Inv.stkFree (I:Inv X pins σ H s):∀ b∈frs X.stack,H b=none:=fun b hb=>by
  rcases List.mem_cons.mp (I.stkSub b hb) with e|hb
  · rw[e];exact I.free
  · obtain⟨_,o,ho,_⟩:=I.ok.funs.mem hb
    exact I.base.free b o ho (I.ok.frf b hb) fun z=>I.ok.exfs b z hb
theorem Inv.step {g':Array GenState}{t':Nat}{d':Drawn}{ch:List Addr}(I:Inv X pins σ H s)
    (hch:∀ b∈ch,(b∈X.ex∨X.s₀.heap.objs.size≤b)∧b≠X.env.locals∧(∀ x c,X.env.cells.lookup x=some c→c≠b)∧∀ p∈X.pn++pins,p.1≠b)
    (keep:∀ b o,b≠X.env.locals→b∉X.fs→b∉ch→s.heap.get? b=some o→H b=none→h'.get? b=some o)
    (slot:∀ b o,b≠X.env.locals→b∈X.fs→b∉ch→s.heap.get? b=some o→H b=none→∃ sl,h'.get? b=some { o with slots:=sl }) (free:∀ b o,b∉ch→s.heap.get? b=some o→H b=none→H' b=none)
    (there:∀ b o,b∉ch→s.heap.get? b=some o→∃ o',h'.get? b=some o')
    (tups:∀ b xs,H b=some (.tup xs)→H' b=some (.tup xs)) (frzs:∀ b o u,H b=some (.frz o u)→H' b=some (.frz o u)) (tbls:∀ b ps,H b=some (.tbl ps)→∃ more,H' b=some (.tbl (ps++more)))
    (ns:∀ m,s.heap.Ns X.env.locals m→h'.Ns X.env.locals m) (hok:HOk X.prog X.w H' h') (hg:AllBare g') :
    Inv X pins σ H' { s with heap:=h',gens:=g',drawn:=d',toks:=t' }:=by
  have neL:∀ b o,X.s₀.heap.get? b=some o→b≠X.env.locals:=fun b o e=>Nat.ne_of_lt (Nat.lt_of_lt_of_le (Heap.lt_size e) I.ok.above)
  have neC:∀ b o,X.s₀.heap.get? b=some o→b∉X.ex→b∉ch:=fun b o e hx hb=>by
    rcases (hch b hb).1 with z|z
    · exact hx z
    · exact absurd (Nat.lt_of_lt_of_le (Heap.lt_size e) z) (Nat.lt_irrefl _)
  have cellK:∀ x c,X.env.cells.lookup x=some c→∀ v,s.heap.IsCell c v→h'.IsCell c v:=fun x c e v ⟨o,ho,hd⟩=>by
    have nch:c∉ch:=fun z=>(hch c z).2.2.1 x c e rfl
    by_cases hc:c∈X.fs
    · obtain⟨sl,q⟩:=slot c o (I.cne x c e) hc nch ho (I.freeC x c e)
      exact⟨_,q,hd⟩
    · exact⟨o,keep c o (I.cne x c e) hc nch ho (I.freeC x c e),hd⟩
  refine⟨I.ok,I.os,hg,⟨fun b o e n hb hx=>?_,fun b o e n hb hx=>?_,fun b o e n hx=>?_,fun b o e hx=>?_,fun b xs e=>tups b xs (I.base.tups b xs e),fun b o xs e=>frzs b o xs (I.base.frzs b o xs e),fun b ps e=>?_⟩,?_,fun x c e=>?_,?_,fun x c e=>?_,fun p hp=>?_,hok,I.len⟩
  · exact keep b o (neL b o e) hb (neC b o e hx) (I.base.keep b o e n hb hx) (I.base.free b o e n hx)
  · obtain⟨sl,e1⟩:=I.base.slot b o e n hb hx
    obtain⟨sl',e2⟩:=slot b _ (neL b o e) hb (neC b o e hx) e1 (I.base.free b o e n hx)
    exact⟨sl',e2⟩
  · obtain⟨o',e1⟩:=I.base.there b o e hx
    exact free b o' (neC b o e hx) e1 (I.base.free b o e n hx)
  · obtain⟨o',e1⟩:=I.base.there b o e hx
    exact there b o' (neC b o e hx) e1
  · obtain⟨m1,e1⟩:=I.base.tbls b ps e
    obtain⟨m2,e2⟩:=tbls b _ e1
    exact⟨m1++m2,by rw[e2,Array.append_assoc]⟩
  · obtain⟨m,hn,hl⟩:=I.loc
    refine⟨m,ns m hn,fun i x v e1 e2 e3=>?_⟩
    obtain⟨u,r,l⟩:=hl i x v e1 e2 e3
    refine⟨u,r,?_⟩
    rcases l with l|⟨k,c,e,z⟩
    · exact .inl l
    · exact .inr ⟨k,c,e,cellK x c e _ z⟩
  · obtain⟨v,z⟩:=I.cell x c e
    exact⟨v,cellK x c e v z⟩
  · obtain⟨m,⟨o,_,_,ho,_⟩,_⟩:=I.loc
    exact free _ o (fun z=>(hch _ z).2.1 rfl) ho I.free
  · obtain⟨v,o,ho,hd⟩:=I.cell x c e
    exact free c o (fun z=>(hch c z).2.2.1 x c e rfl) ho (I.freeC x c e)
  · obtain⟨e,n,ne,nf,d⟩:=I.pin p hp
    have nch:p.1∉ch:=fun z=>(hch p.1 z).2.2.2 p hp rfl
    exact⟨keep p.1 p.2 ne nf nch e n,free p.1 p.2 nch e n,ne,nf,d⟩
theorem Inv.un {t':Nat}(I:Inv X pins σ H s) (u:Un X.fs [] H H' s.heap h') (hok:HOk X.prog X.w H' h'):Inv X pins σ H' { s with heap:=h',toks:=t' }:=by
  obtain⟨m,⟨o,es,ep,ho,r⟩,_⟩:=id I.loc
  obtain⟨sl,hL⟩:=u.any ho I.free (by simp)
  exact I.step (g':=s.gens) (d':=s.drawn) (ch:=[]) (fun _ z=>nomatch z) (fun b o _ hb _ e n=>u.keep b o e n hb (by simp)) (fun b o _ hb _ e n=>u.slot b o e n hb (by simp)) (fun b o _ e n=>u.free b o e n (by simp)) (fun b o _ e=>u.there b o e (by simp)) u.tups u.frzs u.tbls (fun m' hm=>by
    obtain⟨o',es',ep',ho',r'⟩:=hm
    rw[ho]at ho';cases ho'
    exact⟨_,es',ep',hL,r'⟩) hok I.bare
theorem Inv.call {g':Array GenState}{t':Nat}{d':Drawn}{ch:List Addr}(I:Inv X pins σ H s) (u:Un (frs X.stack) ch H H' s.heap h') (hok:HOk X.prog X.w H' h') (hg:AllBare g')
    (hch:∀ b∈ch,(b∈X.ex∨X.s₀.heap.objs.size≤b)∧b≠X.env.locals∧(∀ x c,X.env.cells.lookup x=some c→c≠b)∧∀ p∈X.pn++pins,p.1≠b) :
    Inv X pins σ H' { s with heap:=h',gens:=g',drawn:=d',toks:=t' }:=by
  obtain⟨m,⟨o,es,ep,ho,r⟩,_⟩:=id I.loc
  obtain⟨sl,hL⟩:=u.any ho I.free fun z=>(hch _ z).2.1 rfl
  exact I.step (ch:=ch) hch (fun b o hL hb hc e n=>u.keep b o e n (fun z=>(List.mem_cons.mp (I.stkSub b z)).elim hL hb) hc) (fun b o _ _ hc e n=>u.any e n hc) (fun b o hc e n=>u.free b o e n hc) (fun b o hc e=>u.there b o e hc) u.tups u.frzs u.tbls (fun m' hm=>by
    obtain⟨o',es',ep',ho',r'⟩:=hm
    rw[ho]at ho';cases ho'
    exact⟨_,es',ep',hL,r'⟩) hok hg
theorem Inv.turned {t':Nat}{it:Addr}(I:Inv X pins σ H s) (k:∀ b o,b≠it→s.heap.get? b=some o→h'.get? b=some o) (hn:H it=none) (hL:it≠X.env.locals)
    (h1:it∈X.ex∨X.s₀.heap.objs.size≤it) (h2:∀ x c,X.env.cells.lookup x=some c→c≠it) (h3:∀ p∈X.pn++pins,p.1≠it):Inv X pins σ H { s with heap:=h',toks:=t' }:=by
  have nit:∀ b u,H b=some u→b≠it:=fun b u e z=>by rw[z,hn]at e;cases e
  refine I.step (g':=s.gens) (d':=s.drawn) (ch:=[it]) (fun b hb=>?_) (fun b o _ _ hc e _=>k b o (fun z=>hc (by simp[z])) e) (fun b o _ _ hc e _=>⟨o.slots,k b o (fun z=>hc (by simp[z])) e⟩) (fun _ _ _ _ n=>n)
    (fun b o hc e=>⟨o,k b o (fun z=>hc (by simp[z])) e⟩) (fun _ _ e=>e) (fun _ _ _ e=>e) (fun b ps e=>⟨#[],by rw[e];simp⟩) (fun m hm=>?_) (fun b u e=>?_) I.bare
  · have e:b=it:=by simpa using hb
    subst e
    exact⟨h1,hL,h2,h3⟩
  · obtain⟨o,es,ep,ho,r⟩:=hm
    exact⟨o,es,ep,k _ o (Ne.symm hL) ho,r⟩
  · refine(I.hok b u e).stay (fun c v hc q=>k c v ?_ q) (fun _ q=>q) fun _ _ q=>q
    rcases hc with z|z
    · rw[z];exact nit b u e
    · exact nit c _ z
theorem Inv.tok (I:Inv X pins σ H s) (t:Nat):Inv X pins σ H { s with toks:=t }:=I.un (h':=s.heap) (t':=t) Un.refl I.hok
theorem Inv.kept {t':Nat}(I:Inv X pins σ H s) (k:∀ b u,s.heap.get? b=some u→h'.get? b=some u):Inv X pins σ H { s with heap:=h',toks:=t' }:=I.un (Un.kept k) (I.hok.kept k)
theorem Inv.laid {a:Addr}{o:HO}{t':Nat}(I:Inv X pins σ H s) (k:∀ b u,s.heap.get? b=some u→h'.get? b=some u) (hp:s.heap.objs.size≤a) (new:ObjOk X.prog X.w (upd H a o) h' a o) :
    Inv X pins σ (upd H a o) { s with heap:=h',toks:=t' }:=I.un (Un.laid k hp (I.hok.fresh hp)) (I.hok.laid k hp new)
theorem Inv.write {x e:Addr}{o:HO}{t':Nat}(I:Inv X pins σ H s) (mu:Mut (H x)) (he:e=x∨H e=some (.own x)) (k:∀ b u,b≠e→s.heap.get? b=some u→h'.get? b=some u) (heo:∃ u,h'.get? e=some u)
    (new:ObjOk X.prog X.w (upd H x o) h' x o):Inv X pins σ (upd H x o) { s with heap:=h',toks:=t' }:=I.un (Un.write mu he k heo) (I.hok.write mu he k heo new)
theorem Inv.pins_of {pins':List (Addr × Obj)}(I:Inv X pins σ H s) (h:∀ p∈pins',s.heap.get? p.1=some p.2∧H p.1=none∧p.1≠X.env.locals∧p.1∉X.fs∧∀ v,p.2.data≠.cell v):Inv X pins' σ H s :=
  ⟨I.ok,I.os,I.bare,I.base,I.loc,I.cell,I.free,I.freeC,fun p hp=>(List.mem_append.mp hp).elim (fun z=>I.pin p (List.mem_append_left _ z)) (h p),I.hok,I.len⟩
theorem zee {N:List Str}(hN:N.Nodup) {i j:Nat}{x:Str}(a:N[i]?=some x) (b:N[j]?=some x):i=j:=by
  obtain⟨h1,e1⟩:=List.getElem?_eq_some_iff.mp a
  obtain⟨h2,e2⟩:=List.getElem?_eq_some_iff.mp b
  exact(List.getElem_inj hN).mp (e1.trans e2.symm)
theorem zcZ {M:Model}{A:Around}{E:Value→Shared→Prop}{i:Nat}{x:Str}{v:V}{u:Value}{Q:Unit→Shared→Prop}(I:Inv X pins σ H s) (hN:X.N.Nodup) (hi:X.N[i]?=some x) (hx:Loc X.env.scope x) (r:RelV v u)
    (h:∀ s',Inv X pins (σ.set i (some v)) H s'→(∃ a,Heap.SameBut a s.heap s'.heap∧(a=X.env.locals∨X.env.cells.lookup x=some a))→Q () s') (hf:X.fn x=true∨X.env.scope.names.lookup x=some .local:=by first|exact .inl rfl|exact .inr rfl|assumption):wpAny M A (storeName X.env x u) Q E s:=by
  obtain⟨m,hn,hl⟩:=id I.loc
  have hcls:(X.env.scope.kind == .class || (X.env.scope.kind == .module && X.env.locals != X.env.globals))=false:=by rw[I.ok.kind];rfl
  have hiσ:i<σ.length:=by rw[I.len];exact(List.getElem?_eq_some_iff.mp hi).1
  have cne:=I.cne
  have tracked:∀ {a:Addr}{h':Heap},(∃ o,s.heap.get? a=some o∧H a=none)→Heap.SameBut a s.heap h'→HOk X.prog X.w H h':=fun {a h'} ha hs b ob e=>by
    obtain⟨_,_,hfree⟩:=ha
    refine(I.hok b ob e).stay (fun c w' hc q=>(hs.2 c ?_).trans q) (fun _ q=>q) fun _ _ q=>q
    rintro rfl
    rcases hc with rfl|hc
    · rw[hfree]at e;cases e
    · rw[hfree]at hc;cases hc
  rcases hx with hk|hk
  · refine wpAny_storeName_local hk hn (fun h' hn' hs=>?_) hcls
    obtain⟨oL,_,_,hoL,_⟩:=id hn
    refine h _ ⟨I.ok,I.os,I.bare,⟨fun b o e n hb hx=>?_,fun b o e n hb hx=>?_,I.base.free,fun b o e hx=>?_,I.base.tups,I.base.frzs,I.base.tbls⟩,⟨_,hn',fun j y v' e1 e2 e3=>?_⟩,fun y c e=>?_,I.free,I.freeC,fun p hp=>?_,tracked ⟨oL,hoL,I.free⟩ hs,by simpa using I.len⟩ ⟨_,hs,.inl rfl⟩
    · exact(hs.2 b (Nat.ne_of_lt (Nat.lt_of_lt_of_le (Heap.lt_size e) I.ok.above))).trans (I.base.keep b o e n hb hx)
    · obtain⟨sl,e1⟩:=I.base.slot b o e n hb hx
      exact⟨sl,(hs.2 b (Nat.ne_of_lt (Nat.lt_of_lt_of_le (Heap.lt_size e) I.ok.above))).trans e1⟩
    · obtain⟨o',e1⟩:=I.base.there b o e hx
      exact⟨o',(hs.2 b (Nat.ne_of_lt (Nat.lt_of_lt_of_le (Heap.lt_size e) I.ok.above))).trans e1⟩
    · by_cases hj:j=i
      · subst hj
        rw[hi]at e1;cases e1
        rw[List.getElem?_set_self hiσ]at e2
        cases e2
        exact⟨u,r,.inl ⟨hk,by simp⟩⟩
      · rw[List.getElem?_set_ne (Ne.symm hj)]at e2
        obtain⟨u',r',q⟩:=hl j y v' e1 e2 e3
        refine⟨u',r',?_⟩
        rcases q with ⟨k,e⟩|⟨k,c,e,z⟩
        · refine .inl ⟨k,?_⟩
          have:y≠x:=fun e=>hj (zee hN e1 (e ▸ hi))
          simp[this,e]
        · exact .inr ⟨k,c,e,z.sameBut hs (cne y c e)⟩
    · obtain⟨w',z⟩:=I.cell y c e
      exact⟨w',z.sameBut hs (cne y c e)⟩
    · obtain⟨e,n,ne,nf,d⟩:=I.pin p hp
      exact⟨(hs.2 p.1 ne).trans e,n,ne,nf,d⟩
  · have hfn:X.fn x=true:=by
      rcases hf with z|z
      · exact z
      · rw[z]at hk;cases hk
    obtain⟨c,hc⟩:=I.ok.has x (.inl hk)
    obtain⟨w',z⟩:=I.cell x c hc
    refine wpAny_storeName_cell I.ok.kind hk hc z (fun h' hc' hs=>?_)
    obtain⟨oc,hoc,hocd⟩:=id z
    refine h { s with heap:=h' } ⟨I.ok,I.os,I.bare,⟨fun b o e n hb hx=>?_,fun b o e n hb hx=>?_,I.base.free,fun b o e hx=>?_,I.base.tups,I.base.frzs,I.base.tbls⟩,⟨m,hn.sameBut hs (Ne.symm (cne x c hc)),fun j y v' e1 e2 e3=>?_⟩,fun y c' e=>?_,I.free,I.freeC,fun p hp=>?_,tracked ⟨oc,hoc,I.freeC x c hc⟩ hs,by simpa using I.len⟩ ⟨c,hs,.inr hc⟩
    · exact(hs.2 b (Nat.ne_of_lt (Nat.lt_of_lt_of_le (Heap.lt_size e) (I.ok.cab x c hfn hc)))).trans (I.base.keep b o e n hb hx)
    · obtain⟨sl,e1⟩:=I.base.slot b o e n hb hx
      exact⟨sl,(hs.2 b (Nat.ne_of_lt (Nat.lt_of_lt_of_le (Heap.lt_size e) (I.ok.cab x c hfn hc)))).trans e1⟩
    · obtain⟨o',e1⟩:=I.base.there b o e hx
      exact⟨o',(hs.2 b (Nat.ne_of_lt (Nat.lt_of_lt_of_le (Heap.lt_size e) (I.ok.cab x c hfn hc)))).trans e1⟩
    · by_cases hj:j=i
      · subst hj
        rw[hi]at e1;cases e1
        rw[List.getElem?_set_self hiσ]at e2
        cases e2
        exact⟨u,r,.inr ⟨.inl hk,c,hc,hc'⟩⟩
      · rw[List.getElem?_set_ne (Ne.symm hj)]at e2
        obtain⟨u',r',q⟩:=hl j y v' e1 e2 e3
        refine⟨u',r',?_⟩
        rcases q with q|⟨k,c',e,z'⟩
        · exact .inl q
        · refine .inr ⟨k,c',e,z'.sameBut hs ?_⟩
          rintro rfl
          exact hj (zee hN e1 (I.ok.inj _ _ _ e hc ▸ hi))
    · by_cases hcc:c'=c
      · subst hcc;exact⟨_,hc'⟩
      · obtain⟨w2,z2⟩:=I.cell y c' e
        exact⟨w2,z2.sameBut hs hcc⟩
    · obtain⟨e,n,ne,nf,d⟩:=I.pin p hp
      refine⟨(hs.2 p.1 ?_).trans e,n,ne,nf,d⟩
      intro q
      rw[q,hoc]at e
      have q':oc=p.2:=Option.some.inj e
      exact d w' (by rw[← q'];exact hocd)
theorem zbr {M:Model}{A:Around}{E:Value→Shared→Prop}{i:Nat}{x:Str}{v:V}{u:Value}{Q:Unit→Shared→Prop}(I:Inv X pins σ H s) (hN:X.N.Nodup) (hi:X.N[i]?=some x) (hx:Loc X.env.scope x) (r:RelV v u)
    (h:∀ s',Inv X pins (σ.set i (some v)) H s'→Q () s') (hf:X.fn x=true∨X.env.scope.names.lookup x=some .local:=by first|exact .inl rfl|exact .inr rfl|assumption):wpAny M A (storeName X.env x u) Q E s :=
  zcZ I hN hi hx r (fun s' I' _=>h s' I') hf
theorem Inv.call' {s':Shared}{ch:List Addr}(I:Inv X pins σ H s) (ho:s'.os=s.os) (u:Un (frs X.stack) ch H H' s.heap s'.heap) (hok:HOk X.prog X.w H' s'.heap) (hg:AllBare s'.gens)
    (hch:∀ b∈ch,(b∈X.ex∨X.s₀.heap.objs.size≤b)∧b≠X.env.locals∧(∀ x c,X.env.cells.lookup x=some c→c≠b)∧∀ p∈X.pn++pins,p.1≠b):Inv X pins σ H' s':=by
  obtain⟨h',g',d',t',o'⟩:=s'
  have e:o'=s.os:=ho
  subst e
  exact I.call (g':=g') (t':=t') (d':=d') u hok hg hch
end
abbrev XK:=Value→Option Addr→Hp→Prop
abbrev St:=List (Option V)
abbrev VK:=V→Hp→Prop
abbrev TE:=St→Hp→VK→Prop
abbrev TT:=St→Hp→(Bool→Hp→Prop)→Prop
abbrev TA:=St→Hp→(List V→Hp→Prop)→Prop
structure Ends where
  nx:St→Hp→Prop
  rt:VK
  bk:St→Hp→Prop:=fun _ _=>False
  ct:St→Hp→Prop:=fun _ _=>False
abbrev TS:=Ends→St→Hp→Prop
def EP (X:Cx) (pins:List (Addr × Obj)) (σ:St) (Q:VK) (u:Value) (s':Shared):Prop:=∃ v H',Inv X pins σ H' s'∧RelV v u∧Q v H'
def TP (X:Cx) (pins:List (Addr × Obj)) (σ:St) (Q:Bool→Hp→Prop) (b:Bool) (s':Shared):Prop:=∃ H',Inv X pins σ H' s'∧Q b H'
def AP (X:Cx) (pins:List (Addr × Obj)) (σ:St) (Q:List V→Hp→Prop) (us:List Value) (s':Shared):Prop:=∃ vs H',Inv X pins σ H' s'∧Vals vs us∧Q vs H'
def SP (X:Cx) (pins:List (Addr × Obj)) (D:Ends) (f:Flow) (s':Shared):Prop :=
  match f with
  | .next=>∃ σ' H',Inv X pins σ' H' s'∧D.nx σ' H'
  | .brk=>∃ σ' H',Inv X pins σ' H' s'∧D.bk σ' H'
  | .cont=>∃ σ' H',Inv X pins σ' H' s'∧D.ct σ' H'
  | .ret u=>∃ v σ' H',Inv X pins σ' H' s'∧RelV v u∧D.rt v H'
def PE (X:Cx) (e:Expr) (t:TE):Prop :=
  ∀ (pins:List (Addr × Obj)) (s:Shared) (σ:St) (H:Hp) (Q:VK),Inv X pins σ H s→t σ H Q→wpAny (model X.prog X.w) X.A (eval e X.env) (EP X pins σ Q) X.xe s
def PT (X:Cx) (e:Expr) (t:TT):Prop :=
  ∀ (pins:List (Addr × Obj)) (s:Shared) (σ:St) (H:Hp) (Q:Bool→Hp→Prop),Inv X pins σ H s→t σ H Q→wpAny (model X.prog X.w) X.A (isTrue e X.env (eval e X.env)) (TP X pins σ Q) X.xe s
def PW (X:Cx) (e:Expr) (t:TT):Prop :=
  ∀ (whole:Sem Value) (pins:List (Addr × Obj)) (s:Shared) (σ:St) (H:Hp) (Q:Bool→Hp→Prop),Inv X pins σ H s→t σ H Q→wpAny (model X.prog X.w) X.A (isTrue e X.env whole) (TP X pins σ Q) X.xe s
theorem PW.pt {X:Cx}{e:Expr}{t:TT}(h:PW X e t):PT X e t:=h _
def PA (X:Cx) (es:List Expr) (t:TA):Prop :=
  ∀ (pos:Pos) (pins:List (Addr × Obj)) (s:Shared) (σ:St) (H:Hp) (Q:List V→Hp→Prop),Inv X pins σ H s→t σ H Q→wpAny (model X.prog X.w) X.A (spliced (backTo pos (starEach es X.env))) (AP X pins σ Q) X.xe s
def PS (X:Cx) (st:Stmt) (t:TS):Prop :=
  ∀ (pins:List (Addr × Obj)) (s:Shared) (σ:St) (H:Hp) (D:Ends),Inv X pins σ H s→t D σ H→wpAny (model X.prog X.w) X.A (exec st X.env) (SP X pins D) X.xe s
def PSs (X:Cx) (st:List Stmt) (t:TS):Prop :=
  ∀ (pins:List (Addr × Obj)) (s:Shared) (σ:St) (H:Hp) (D:Ends),Inv X pins σ H s→t D σ H→wpAny (model X.prog X.w) X.A (execs st X.env) (SP X pins D) X.xe s
theorem thn {α:Type}{t:Sem α}{Q Q':α→Shared→Prop}{M:Model}{A:Around}{E:Value→Shared→Prop}{s:Shared}(h:wpAny M A t Q E s) (hQ:∀ a s,Q a s→Q' a s):wpAny M A t Q' E s:=wpAny_mono h hQ fun _ _ x=>x
section
variable {X:Cx}
def tVar (i:Nat):TE:=fun σ H Q=>∃ v,σ[i]?=some (some v)∧Q v H
def tC (v:V):TE:=fun _ H Q=>Q v H
theorem zi5 {i:Nat}{x:Str}{pos:Pos}(hN:X.N[i]?=some x) (hv:Vis X.env.scope x) (hd:(x == ("__debug__":Str))=false:=by decide) (hcd:(x == ("__classdict__":Str))=false:=by decide):PE X (.Name x pos) (tVar i):=by
  intro pins s σ H Q I h
  obtain⟨v,e,h⟩:=h
  obtain⟨m,hn,hl⟩:=I.loc
  obtain⟨u,r,l⟩:=hl i x v hN e hv
  have fin:EP X pins σ Q u s:=⟨v,H,I,r,h⟩
  rcases l with ⟨hk,hm⟩|⟨hk,c,hc,hcell⟩
  · exact wpAny_Name (wpAny_loadName_local I.ok.kind hk hn hm fin) hd
  · rcases hk with hk|hk
    · exact wpAny_Name (wpAny_loadName_cell I.ok.kind hk hc hcell fin) hd
    · exact wpAny_Name (wpAny_loadName_free I.ok.kind hk hc hcell fin hcd) hd
theorem zae {i j pos}:PE X (.Constant (.int i) j pos) (tC (.int i)):=fun _ _ _ H _ I h=>wpAny_Constant_int ⟨.int i,H,I.tok _,⟨_,rfl⟩,h⟩
theorem zfi {b j pos}:PE X (.Constant (.bool b) j pos) (tC (.bl b)):=fun _ _ _ H _ I h=>Constant_bool ⟨.bl b,H,I,rfl,h⟩
theorem zax {x j pos}:PE X (.Constant (.str x) j pos) (tC (.str x)):=fun _ _ _ H _ I h=>Calls.Constant_str ⟨.str x,H,I.tok _,⟨_,rfl⟩,h⟩
def Gl (X:Cx) (x:Str):Prop:=X.env.kindOf x=some .globalImplicit
theorem zim {E:Value→Shared→Prop}{pins:List (Addr × Obj)}{s:Shared}{σ:St}{H:Hp}{x:Str}{u:Value}{pos:Pos}{Q:Value→Shared→Prop}(I:Inv X pins σ H s) (hg:Gl X x) (hm:X.mg x=some u) (h:Q u s)
    (hd:(x == ("__debug__":Str))=false:=by decide):wpAny (model X.prog X.w) X.A (eval (.Name x pos) X.env) Q E s :=
  Calls.Name_function_global I.ok.kind hg (Calls.loadGlobal_global (by rw[I.ok.glob];exact I.mod.glob.keeps I.bk) hm h) hd
theorem zbI {E:Value→Shared→Prop}{pins:List (Addr × Obj)}{s:Shared}{σ:St}{H:Hp}{x:Str}{u:Value}{pos:Pos}{Q:Value→Shared→Prop}(I:Inv X pins σ H s) (hg:Gl X x) (hm:X.mg x=none) (hv:bootBuiltins x=some u) (h:Q u s)
    (hn:x≠"__name__":=by decide) (hd:(x == ("__debug__":Str))=false:=by decide):wpAny (model X.prog X.w) X.A (eval (.Name x pos) X.env) Q E s:=by
  obtain⟨mb,h1,h2⟩:=I.mod.blt
  exact Calls.Name_function_global I.ok.kind hg (Calls.loadGlobal_builtin (by rw[I.ok.glob];exact I.mod.glob.keeps I.bk) hm (by rw[I.ok.blt];exact h1.keeps I.bk) ((h2 x hn).trans hv) h) hd
theorem zcH {x:Str}{v:V}{u:Value}{pos:Pos}(hg:Gl X x) (hm:X.mg x=none) (hv:bootBuiltins x=some u) (r:RelV v u) (hn:x≠"__name__":=by decide) (hd:(x == ("__debug__":Str))=false:=by decide):PE X (.Name x pos) (tC v) :=
  fun _ _ _ H _ I h=>zbI I hg hm hv ⟨v,H,I,r,h⟩ hn hd
variable {a b:Expr}{ta tb:TE}{pos:Pos}
def tB (t:TE):TT:=fun σ H Q=>t σ H fun x H1=>∃ c,x=.bl c∧Q c H1
variable {tA tB':TT}{rest:List Expr}
def tAnd (t u:TT):TT:=fun σ H Q=>t σ H fun c H1=>if c=true then u σ H1 Q else Q false H1
def tOr (t u:TT):TT:=fun σ H Q=>t σ H fun c H1=>if c=true then Q true H1 else u σ H1 Q
def tNot (t:TT):TT:=fun σ H Q=>t σ H fun c H1=>Q (!c) H1
theorem zbm (ha:PT X a tA):PW X (.BoolOp .And [a] pos) tA:=by
  intro wh pins s σ H Q I h
  refine isTrue_and (thn (ha pins s σ H Q I h) fun c s1 e=>?_)
  cases c with
  | true=>exact isTrue_and_nil e
  | false=>exact e
theorem zhe (ha:PT X a tA):PW X (.BoolOp .Or [a] pos) tA:=by
  intro wh pins s σ H Q I h
  refine isTrue_or (thn (ha pins s σ H Q I h) fun c s1 e=>?_)
  cases c with
  | false=>exact isTrue_or_nil e
  | true=>exact e
theorem zbW (ha:PT X a tA) (hb:PW X (.BoolOp .And (b::rest) pos) tB'):PW X (.BoolOp .And (a::b::rest) pos) (tAnd tA tB'):=by
  intro wh pins s σ H Q I h
  refine isTrue_and (thn (ha pins s σ H _ I h) fun c s1 ⟨H1,I1,q1⟩=>?_)
  cases c with
  | true=>exact hb wh pins s1 σ H1 Q I1 q1
  | false=>exact⟨H1,I1,q1⟩
theorem zi1 (ha:PT X a tA) (hb:PW X (.BoolOp .Or (b::rest) pos) tB'):PW X (.BoolOp .Or (a::b::rest) pos) (tOr tA tB'):=by
  intro wh pins s σ H Q I h
  refine isTrue_or (thn (ha pins s σ H _ I h) fun c s1 ⟨H1,I1,q1⟩=>?_)
  cases c with
  | true=>exact⟨H1,I1,q1⟩
  | false=>exact hb wh pins s1 σ H1 Q I1 q1
theorem zfc (ha:PT X a tA):PT X (.UnaryOp .Not a pos) (tNot tA):=by
  intro pins s σ H Q I h
  exact isTrue_not (ha pins s σ H (fun c H1=>Q (!c) H1) I h)
def zjK (ta tb:TE):TE:=fun σ H Q=>ta σ H fun x H1=>∃ c,x=.bl c∧if c=true then tb σ H1 Q else Q (.bl false) H1
def zjC (ta:TE):TE:=fun σ H Q=>ta σ H fun x H1=>∃ c,x=.bl c∧Q (.bl (!c)) H1
theorem zbj {op} {t:TE}(h:PE X a t):PE X (.BoolOp op [a] pos) t:=fun pins s σ H Q I hw=>BoolOp_one (h pins s σ H Q I hw)
theorem zbc (ha:PE X a ta) (hb:PE X (.BoolOp .And (b::rest) pos) tb):PE X (.BoolOp .And (a::b::rest) pos) (zjK ta tb):=by
  intro pins s σ H Q I h
  refine BoolOp_and (thn (ha pins s σ H _ I h) fun v s1 ⟨x,H1,I1,r1,q1⟩=>?_)
  obtain⟨c,rfl,q1⟩:=q1
  cases r1
  refine wpAny_truthy_bool ?_
  cases c with
  | true=>exact hb pins s1 σ H1 Q I1 q1
  | false=>exact⟨.bl false,H1,I1,rfl,q1⟩
theorem zi6 (ha:PE X a ta):PE X (.UnaryOp .Not a pos) (zjC ta):=by
  intro pins s σ H Q I h
  refine UnaryOp_ (thn (ha pins s σ H _ I h) fun v s1 ⟨x,H1,I1,r1,q1⟩=>?_)
  obtain⟨c,rfl,q1⟩:=q1
  cases r1
  exact not_of (wpAny_truthy_bool ⟨.bl (!c),H1,I1,rfl,q1⟩)
def tIf (t:TT) (ta tb:TE):TE:=fun σ H Q=>t σ H fun c H1=>if c=true then ta σ H1 Q else tb σ H1 Q
theorem zgw {c:Expr}(hc:PT X c tA) (ha:PE X a ta) (hb:PE X b tb):PE X (.IfExp c a b pos) (tIf tA ta tb):=by
  intro pins s σ H Q I h
  refine wpAny_IfExp (thn (hc pins s σ H _ I h) fun d s1 ⟨H1,I1,q1⟩=>?_)
  cases d with
  | true=>exact ha pins s1 σ H1 Q I1 q1
  | false=>exact hb pins s1 σ H1 Q I1 q1
end
def SqL (K:PySem.W.Frag) (H:Hp) (a:Addr) (xs:List V):Prop :=
  Rd H a (.lst xs) ∨
    ∃ (o:Obj) (its:Array Value) (n:Nat),K.lookup a=some o∧o.cls=.type "list"∧o.dict=none∧o.data=.seq its n∧its.size≤sizeLine∧Vals xs its.toList
def SqT (K:PySem.W.Frag) (H:Hp) (a:Addr) (xs:List V):Prop :=
  Rd H a (.tup xs) ∨
    ∃ (o:Obj) (its:Array Value) (n:Nat),K.lookup a=some o∧o.cls=.type "tuple"∧o.data=.seq its n∧its.size≤sizeLine∧Vals xs its.toList
def absV:Value→Option V
  | .none=>some .non
  | .bool b=>some (.bl b)
  | .int i _=>some (.int i)
  | .str x _=>some (.str x)
  | .bytes b _=>some (.byt b)
  | .float b _=>some (.flt b)
  | .ref a=>some (.ref a)
  | .type n=>some (.ty n)
  | _=>none
theorem RelV.abs {x:V}{u:Value}(r:RelV x u):absV u=some x:=by
  cases x with
  | non=>cases r;rfl
  | bl _=>cases r;rfl
  | int _=>obtain⟨t,rfl⟩:=r;rfl
  | str _=>obtain⟨t,rfl⟩:=r;rfl
  | byt _=>obtain⟨t,rfl⟩:=r;rfl
  | flt _=>obtain⟨t,rfl⟩:=r;rfl
  | ref _=>cases r;rfl
  | ty _=>cases r;rfl
theorem RelV.inj {x y:V}{u:Value}(r:RelV x u) (q:RelV y u):x=y:=Option.some.inj (r.abs.symm.trans q.abs)
theorem Vals.inj:∀ {xs ys:List V}{us:List Value},Vals xs us→Vals ys us→xs=ys
  | _,_,_,.nil,.nil=>rfl
  | _,_,_,.cons r t,.cons r' t'=>by rw[r.inj r',Vals.inj t t']
section
variable {X:Cx}{pins:List (Addr × Obj)}{σ:St}{H:Hp}{s:Shared}{a:Addr}{xs ys:List V}
theorem SqL.of {K:PySem.W.Frag}(h:H a=some (.lst xs)):SqL K H a xs:=.inl (.inl h)
theorem SqT.of {K:PySem.W.Frag}(h:H a=some (.tup xs)):SqT K H a xs:=.inl (.inl h)
theorem Inv.list (I:Inv X pins σ H s) (h:SqL X.K H a xs):∃ its:List Value,Vals xs its∧PlainL s.heap a its.toArray∧xs.length≤sizeLine:=by
  rcases h with h|⟨o,its,n,hk,hc,hd,hs,hz,r⟩
  · obtain⟨z,its,n,r,e⟩:=h.ok I.hok
    exact⟨its,r,⟨_,n,e,rfl,rfl,rfl⟩,z⟩
  · refine⟨its.toList,r,⟨o,n,I.kIn a o hk,hc,hd,by simpa using hs⟩,?_⟩
    have e:=r.length
    simp only[Array.length_toList]at e
    omega
theorem Inv.tuple (I:Inv X pins σ H s) (h:SqT X.K H a xs):∃ its:List Value,Vals xs its∧IsTup s.heap a its.toArray∧xs.length≤sizeLine:=by
  rcases h with h|⟨o,its,n,hk,hc,hs,hz,r⟩
  · obtain⟨z,its,r,p⟩:=h.ok I.hok
    exact⟨its,r,p.tup,z⟩
  · refine⟨its.toList,r,⟨o,I.kIn a o hk,hc,n,by simpa using hs⟩,?_⟩
    have e:=r.length
    simp only[Array.length_toList]at e
    omega
theorem Inv.list_inj (I:Inv X pins σ H s) (h:SqL X.K H a xs) (h':SqL X.K H a ys):xs=ys:=by
  obtain⟨its,r,⟨o,n,e,_,_,d⟩,_⟩:=I.list h
  obtain⟨its',r',⟨o',n',e',_,_,d'⟩,_⟩:=I.list h'
  rw[e]at e';cases e'
  rw[d]at d'
  injection d' with d1 _
  have:its=its':=by simpa using congrArg Array.toList d1
  subst this
  exact r.inj r'
theorem Inv.tuple_inj (I:Inv X pins σ H s) (h:SqT X.K H a xs) (h':SqT X.K H a ys):xs=ys:=by
  obtain⟨its,r,⟨o,e,_,n,d⟩,_⟩:=I.tuple h
  obtain⟨its',r',⟨o',e',_,n',d'⟩,_⟩:=I.tuple h'
  rw[e]at e';cases e'
  rw[d]at d'
  injection d' with d1 _
  have:its=its':=by simpa using congrArg Array.toList d1
  subst this
  exact r.inj r'
end
abbrev Cx.wish (X:Cx) (E:Value→Shared→Prop):Cx:={ X with xe:=E }
abbrev Cx.nox (X:Cx):Cx:=X.wish fun _ _=>False
theorem Cx.Ok.wish {X:Cx}(ok:X.Ok) (E:Value→Shared→Prop):(X.wish E).Ok :=
  ⟨ok.mod,ok.kind,ok.glob,ok.blt,ok.above,ok.inj,ok.has,ok.cab,ok.hd,ok.frames,ok.stk,ok.exf,ok.bs,ok.bsz,ok.noex,ok.exfs,ok.funs,ok.frf⟩
theorem Cx.Ok.unwish {X:Cx}{E:Value→Shared→Prop}(ok:(X.wish E).Ok):X.Ok :=
  ⟨ok.mod,ok.kind,ok.glob,ok.blt,ok.above,ok.inj,ok.has,ok.cab,ok.hd,ok.frames,ok.stk,ok.exf,ok.bs,ok.bsz,ok.noex,ok.exfs,ok.funs,ok.frf⟩
section
variable {X:Cx}{pins:List (Addr × Obj)}{σ:St}{H:Hp}{s:Shared}{E:Value→Shared→Prop}
theorem Inv.wish (I:Inv X pins σ H s) (E:Value→Shared→Prop):Inv (X.wish E) pins σ H s:=⟨I.ok.wish E,I.os,I.bare,I.base,I.loc,I.cell,I.free,I.freeC,I.pin,I.hok,I.len⟩
theorem Inv.unwish (I:Inv (X.wish E) pins σ H s):Inv X pins σ H s:=⟨I.ok.unwish,I.os,I.bare,I.base,I.loc,I.cell,I.free,I.freeC,I.pin,I.hok,I.len⟩
theorem SP.unwish {D:Ends}{f:Flow}{s':Shared}(h:SP (X.wish E) pins D f s'):SP X pins D f s':=by
  cases f with
  | next=>obtain⟨σ',H',I,q⟩:=h;exact⟨σ',H',I.unwish,q⟩
  | brk=>obtain⟨σ',H',I,q⟩:=h;exact⟨σ',H',I.unwish,q⟩
  | cont=>obtain⟨σ',H',I,q⟩:=h;exact⟨σ',H',I.unwish,q⟩
  | ret u=>obtain⟨v,σ',H',I,r,q⟩:=h;exact⟨v,σ',H',I.unwish,r,q⟩
theorem PSs.nox {st:List Stmt}{t:TS}(h:PSs X.nox st t):PSs X st t:=fun pins s σ H D I hw =>
  wpAny_mono (h pins s σ H D (I.wish _) hw) (fun _ _ q=>q.unwish) fun _ _ z=>False.elim z
end
section
variable {X:Cx}{st:Stmt}{rest:List Stmt}{t u:TS}{e:Expr}{te:TE}{pos:Pos}
def ziT:TS:=fun D σ H=>D.nx σ H
def tSeq (t u:TS):TS:=fun D σ H=>t { D with nx:=u D } σ H
theorem zaD:PSs X [] ziT:=fun _ _ σ H _ I h=>wpAny_execs_nil ⟨σ,H,I,h⟩
theorem zaf (h1:PS X st t) (h2:PSs X rest u):PSs X (st::rest) (tSeq t u):=by
  intro pins s σ H D I h
  refine wpAny_execs_cons (thn (h1 pins s σ H { D with nx:=u D } I h) fun f s1 q=>?_)
  cases f with
  | next =>
    obtain⟨σ',H',I',q⟩:=q
    exact h2 pins s1 σ' H' D I' q
  | ret v=>exact q
  | brk=>exact q
  | cont=>exact q
theorem zah (h1:PS X st t):PSs X [st] t:=by
  intro pins s σ H D I h
  refine wpAny_execs_cons (thn (h1 pins s σ H D I h) fun f s1 q=>?_)
  cases f with
  | next=>exact wpAny_execs_nil q
  | ret v=>exact q
  | brk=>exact q
  | cont=>exact q
theorem Inv.quiet {pins:List (Addr × Obj)}{σ:St}{H:Hp}{s:Shared}(I:Inv X pins σ H s):interactive X.env=false:=by simp[interactive,I.ok.kind]
def zjE (te:TE):TS:=fun D σ H=>te σ H fun _ H1=>D.nx σ H1
theorem zba (he:PE X e te) (hs:swapsWith e none pos.line X.env=pure false:=by rfl):PS X (.Expr e pos) (zjE te):=by
  intro pins s σ H D I h
  exact wpAny_Expr_any (thn (he pins s σ H _ I h) fun v s1 ⟨x,H1,I1,r1,q1⟩=>⟨σ,H1,I1,q1⟩) I.quiet hs
def tRet (te:TE):TS:=fun D σ H=>te σ H D.rt
theorem zav (he:PE X e te):PS X (.Return (some e) pos) (tRet te):=by
  intro pins s σ H D I h
  exact wpAny_Return_some (thn (he pins s σ H _ I h) fun v s1 ⟨x,H1,I1,r1,q1⟩=>⟨x,σ,H1,I1,r1,q1⟩)
def zjA:TS:=fun D _ H=>D.rt .non H
theorem zhT:PS X (.Return none pos) zjA:=fun _ _ σ H _ I h=>wpAny_Return_none ⟨.non,σ,H,I,rfl,h⟩
def tIfS (c:TT) (t u:TS):TS:=fun D σ H=>c σ H fun b H1=>if b=true then t D σ H1 else u D σ H1
theorem zaU {c:Expr}{a b:List Stmt}{tc:TT}(hc:PT X c tc) (ha:PSs X a t) (hb:PSs X b u):PS X (.If c a b pos) (tIfS tc t u):=by
  intro pins s σ H D I h
  refine wpAny_If (thn (hc pins s σ H _ I h) fun d s1 ⟨H1,I1,q1⟩=>?_)
  cases d with
  | true=>exact ha pins s1 σ H1 D I1 q1
  | false=>exact hb pins s1 σ H1 D I1 q1
end
abbrev TG:=V→St→Hp→(St→Hp→Prop)→Prop
abbrev TGs:=List V→St→Hp→(St→Hp→Prop)→Prop
def PG (X:Cx) (target:Expr) (t:TG):Prop :=
  ∀ (pins:List (Addr × Obj)) (s:Shared) (σ:St) (H:Hp) (v:V) (u:Value) (Q:St→Hp→Prop),Inv X pins σ H s→RelV v u→t v σ H Q →
    wpAny (model X.prog X.w) X.A (assign target X.env u) (fun _ s'=>∃ σ' H',Inv X pins σ' H' s'∧Q σ' H') X.xe s
def PGs (X:Cx) (ts:List Expr) (t:TGs):Prop :=
  ∀ (pins:List (Addr × Obj)) (s:Shared) (σ:St) (H:Hp) (vs:List V) (us:List Value) (Q:St→Hp→Prop),Inv X pins σ H s→Vals vs us→t vs σ H Q →
    wpAny (model X.prog X.w) X.A (assignInOrder ((assignEach ts X.env).map (·.2)) us) (fun _ s'=>∃ σ' H',Inv X pins σ' H' s'∧Q σ' H') X.xe s
abbrev TSet:=V→V→V→Hp→(Hp→Prop)→Prop
def PSet (X:Cx) (t:TSet):Prop :=
  ∀ (pins:List (Addr × Obj)) (s:Shared) (σ:St) (H:Hp) (o i v:V) (ov iv u:Value) (Q:Hp→Prop),Inv X pins σ H s→RelV o ov→RelV i iv→RelV v u→t o i v H Q →
    wpAny (model X.prog X.w) X.A (setItem ov iv u) (fun _ s'=>∃ H',Inv X pins σ H' s'∧Q H') X.xe s
abbrev TIp:=V→V→Hp→VK→Prop
def PIp (X:Cx) (op:Operator) (t:TIp):Prop :=
  ∀ (pins:List (Addr × Obj)) (s:Shared) (σ:St) (H:Hp) (x y:V) (v u:Value) (Q:VK),Inv X pins σ H s→RelV x v→RelV y u→t x y H Q →
    wpAny (model X.prog X.w) X.A (inplaceOp op v u) (EP X pins σ Q) X.xe s
section
variable {X:Cx}{pos:Pos}
def zb9 (i:Nat):TG:=fun v σ H Q=>Q (σ.set i (some v)) H
theorem zap {i:Nat}{x:Str}(hN:X.N.Nodup) (hi:X.N[i]?=some x) (hx:Loc X.env.scope x) (hf:X.fn x=true∨X.env.scope.names.lookup x=some .local:=by first|exact .inl rfl|exact .inr rfl|assumption):PG X (.Name x pos) (zb9 i):=by
  intro pins s σ H v u Q I r h
  exact wpAny_assign_Name (zbr I hN hi hx r (fun s' I'=>⟨_,H,I',h⟩) hf)
def gNil:TGs:=fun vs σ H Q=>vs=[]∧Q σ H
def zdV (t:TG) (u:TGs):TGs:=fun vs σ H Q=>∃ v r,vs=v::r∧t v σ H fun σ' H'=>u r σ' H' Q
theorem zaM:PGs X [] gNil:=by
  intro pins s σ H vs us Q I r h
  obtain⟨e,h⟩:=h
  subst e
  cases r
  exact assignInOrder_nil ⟨σ,H,I,h⟩
theorem zal {e:Expr}{es:List Expr}{t:TG}{u:TGs}(h1:PG X e t) (h2:PGs X es u)
    (hs:(assignEach (e::es) X.env).map (·.2)=assign e X.env::(assignEach es X.env).map (·.2):=by rfl):PGs X (e::es) (zdV t u):=by
  intro pins s σ H vs us Q I r h
  obtain⟨v,vr,e1,h⟩:=h
  subst e1
  cases r with
  | cons r rr =>
    rw[hs]
    refine assignInOrder_cons (thn (h1 pins s σ H _ _ _ I r h) fun _ s1 ⟨σ1,H1,I1,q1⟩=>?_)
    exact h2 pins s1 σ1 H1 _ _ Q I1 rr q1
def gTup (K:PySem.W.Frag) (n:Nat) (t:TGs):TG:=fun v σ H Q=>∃ a xs,v=.ref a∧SqT K H a xs∧xs.length=n∧t xs σ H Q
theorem zaY {es:List Expr}{k:Nat}{t:TGs}{n:Nat}(hc:X.calm=true) (h:PGs X es t)
    (hn:(assignEach es X.env).length=n:=by rfl) (hst:(assignEach es X.env).findIdx? (·.1)=none:=by rfl):PG X (.Tuple es k pos) (gTup X.K n t):=by
  intro pins s σ H v u Q I r hw
  obtain⟨a,xs,e1,hq,hl,hw⟩:=hw
  subst e1
  cases r
  obtain⟨its,rv,ht,hz⟩:=I.tuple hq
  refine assign_Tuple_tuple (I.ok.hd hc) ht (by simp[hn,← hl,rv.length]) hst fun h' hx=>?_
  have I1:Inv X pins σ H { s with heap:=h' }:=I.kept (t':=s.toks) fun b o e=>hx b o (Nat.ne_of_lt (Heap.lt_size e)) e
  exact h pins _ σ H xs _ Q I1 (by simpa using rv) hw
def gSub (to ti:TE) (t:TSet):TG:=fun v σ H Q=>to σ H fun o H1=>ti σ H1 fun i H2=>t o i v H2 fun H3=>Q σ H3
theorem zc9 {o i:Expr}{to ti:TE}{t:TSet}(ho:PE X o to) (hi:PE X i ti) (hs:PSet X t)
    (ha:∀ v,assign (.Subscript o i pos) X.env v=(do
      let ov ← holding [v] (eval o X.env)
      let iv ← holding [v,ov] (eval i X.env)
      standAt pos
      holding [v,ov,iv] (setItem ov iv v)
      release [v,ov,iv] []):=by intro _;rfl):PG X (.Subscript o i pos) (gSub to ti t):=by
  intro pins s σ H v u Q I r h
  rw[ha]
  refine wpAny_bind (wpAny_holding (thn (ho pins s σ H _ I h) fun ov s1 ⟨x,H1,I1,r1,q1⟩=>?_))
  refine wpAny_bind (wpAny_holding (thn (hi pins s1 σ H1 _ I1 q1) fun iv s2 ⟨y,H2,I2,r2,q2⟩=>?_))
  refine wpAny_bind (wpAny_standAt (wpAny_bind (wpAny_holding (thn (hs pins s2 σ H2 x y v ov iv u _ I2 r1 r2 r q2) fun _ s3 ⟨H3,I3,q3⟩=>?_))))
  exact wpAny_release ⟨σ,H3,I3,q3⟩
def tAsg (te:TE) (g:TG):TS:=fun D σ H=>te σ H fun x H1=>g x σ H1 D.nx
theorem zaR {tg e:Expr}{te:TE}{g:TG}(he:PE X e te) (hg:PG X tg g) (hs:swapsWithSole [tg] e pos.line X.env=pure false:=by rfl) (hw:swappedStores [tg] e X.env=pure none:=by rfl)
    (h1:(assignEach [tg] X.env).map (·.2)=[assign tg X.env]:=by rfl):PS X (.Assign [tg] e pos) (tAsg te g):=by
  intro pins s σ H D I h
  refine wpAny_Assign_stores (thn (he pins s σ H _ I h) fun v s1 ⟨x,H1,I1,r1,q1⟩=>?_) hs hw
  rw[h1]
  exact thn (hg pins s1 σ H1 x v _ I1 r1 q1) fun _ s2 q=>q
theorem zaz {i:Nat}{x:Str}{e:Expr}{te:TE}{pos':Pos}(hN:X.N.Nodup) (hi:X.N[i]?=some x) (hx:Loc X.env.scope x) (he:PE X e te) (hs:swapsWith e (some (.Name x pos')) pos.line X.env=pure false:=by rfl) (hf:X.fn x=true∨X.env.scope.names.lookup x=some .local:=by first|exact .inl rfl|exact .inr rfl|assumption) :
    PS X (.Assign [.Name x pos'] e pos) (tAsg te (zb9 i)):=by
  intro pins s σ H D I h
  refine wpAny_Assign_Name (thn (he pins s σ H _ I h) fun v s1 ⟨y,H1,I1,r1,q1⟩=>?_) hs
  exact zbr I1 hN hi hx r1 (fun s2 I2=>⟨_,H1,I2,q1⟩) hf
def tPar (i j:Nat) (ta:TA):TS:=fun D σ H=>ta σ H fun vs H1=>∃ v w,vs=[v,w]∧D.nx ((σ.set i (some v)).set j (some w)) H1
theorem zi2 {i j:Nat}{x y:Str}{a b:Expr}{ta:TA}{px py pt:Pos}{kt k2 pt2} (hc:X.calm=true) (hN:X.N.Nodup) (hi:X.N[i]?=some x) (hj:X.N[j]?=some y) (hij:i≠j)
    (hx:X.env.scope.names.lookup x=some .local) (hy:X.env.scope.names.lookup y=some .local) (ha:PA X [a,b] ta)
    (hw:swappedStores [.Tuple [.Name x px,.Name y py] kt pt] (.Tuple [a,b] k2 pt2) X.env=pure (some [x,y]))
    (hs:swapsWithSole [.Tuple [.Name x px,.Name y py] kt pt] (.Tuple [a,b] k2 pt2) pos.line X.env=pure false:=by rfl) :
    PS X (.Assign [.Tuple [.Name x px,.Name y py] kt pt] (.Tuple [a,b] k2 pt2) pos) (tPar i j ta):=by
  intro pins s σ H D I h
  rw[exec_Assign_arm]
  refine wpAny_bind (wpAny_standAt ?_)
  rw[hs]
  refine wpAny_bind (wpAny_pure ?_)
  rw[if_neg (by decide)]
  refine wpAny_bind (Tuple_ (thn (ha _ pins s σ H _ I h) fun us s1 ⟨vs,H1,I1,r1,q1⟩=>?_))
  obtain⟨v,w,e1,q1⟩:=q1
  subst e1
  obtain⟨u1,u2,rfl,rv,rw'⟩:∃ u1 u2,us=[u1,u2]∧RelV v u1∧RelV w u2:=by
    cases r1 with
    | cons p q =>
      cases q with
      | cons p' q' =>
        cases q'
        exact⟨_,_,rfl,p,p'⟩
  refine wpAny_newObj_type ?_ (by show 2≤sizeLine;decide)
  have I2:Inv X pins σ H1 { s1 with heap:=s1.heap.push { cls:=.type "tuple",data:=.seq [u1,u2].toArray } }:=I1.kept (t':=s1.toks) fun b o e=>Heap.get?_push_of_some _ e
  rw[hw]
  refine wpAny_bind (wpAny_pure ?_)
  show wpAny (model X.prog X.w) X.A (do rule "assign.swapped-stores";let items ← unpackItems (.ref s1.heap.objs.size) 2 none;assignInOrder [fun v=>bindName X.env y v,fun v=>bindName X.env x v] items.reverse;pure Flow.next) _ _ _
  refine wpAny_bind (wpAny_rule (wpAny_bind (unpackItems_tuple (items:=#[u1,u2]) (I.ok.hd hc) (IsTup.new s1.heap _) fun h' hx'=>?_)))
  have I3:=I2.kept (h':=h') (t':=s1.toks) fun b o e=>hx' b o (Nat.ne_of_lt (Heap.lt_size e)) e
  show wpAny _ _ (assignInOrder [fun v=>bindName X.env y v,fun v=>bindName X.env x v] [u2,u1] >>= fun _=>pure Flow.next) _ _ _
  refine wpAny_bind (assignInOrder_cons (wpAny_bindName (zbr I3 hN hj (.inl hy) rw' (fun s2 I4=>?_) (.inr hy))))
  refine assignInOrder_cons (wpAny_bindName (zbr I4 hN hi (.inl hx) rv (fun s3 I5=>assignInOrder_nil (wpAny_pure ?_)) (.inr hx)))
  rw[List.set_comm _ _ (Ne.symm hij)]at I5
  exact⟨_,H1,I5,q1⟩
def tAug (i:Nat) (te:TE) (ti:TIp):TS:=fun D σ H=>∃ x,σ[i]?=some (some x)∧te σ H fun y H1=>ti x y H1 fun z H2=>D.nx (σ.set i (some z)) H2
theorem zi3 {i:Nat}{x:Str}{e:Expr}{te:TE}{op:Operator}{ti:TIp}{pos':Pos}(hN:X.N.Nodup) (hi:X.N[i]?=some x) (hx:Loc X.env.scope x) (he:PE X e te) (ho:PIp X op ti) (hf:X.fn x=true∨X.env.scope.names.lookup x=some .local:=by first|exact .inl rfl|exact .inr rfl|assumption) :
    PS X (.AugAssign (.Name x pos') op e pos) (tAug i te ti):=by
  intro pins s σ H D I h
  obtain⟨v,e1,h⟩:=h
  obtain⟨m,hn,hl⟩:=I.loc
  have vis:Vis X.env.scope x:=by rcases hx with k|k;exact .inl k;exact .inr (.inl k)
  obtain⟨u,r,l⟩:=hl i x v hi e1 vis
  refine wpAny_AugAssign_Name ?_
  have go:wpAny (model X.prog X.w) X.A (eval e X.env) (fun w s₂=>wpAny (model X.prog X.w) X.A (inplaceOp op u w) (fun r s₃=>wpAny (model X.prog X.w) X.A (storeName X.env x r) (fun _=>SP X pins D .next) X.xe s₃) X.xe s₂) X.xe s:=by
    refine thn (he pins s σ H _ I h) fun w s1 ⟨y,H1,I1,r1,q1⟩=>?_
    refine thn (ho pins s1 σ H1 v y u w _ I1 r r1 q1) fun z s2 ⟨zv,H2,I2,r2,q2⟩=>?_
    exact zbr I2 hN hi hx r2 (fun s3 I3=>⟨_,H2,I3,q2⟩) hf
  rcases l with ⟨hk,hm⟩|⟨hk,c,hc,hcell⟩
  · exact wpAny_loadName_local I.ok.kind hk hn hm go
  · rcases hk with hk|hk
    · exact wpAny_loadName_cell I.ok.kind hk hc hcell go
    · rcases hx with k|k
      · have:X.env.scope.names.lookup x=some .free:=hk
        rw[k]at this;cases this
      · have:X.env.scope.names.lookup x=some .free:=hk
        rw[k]at this;cases this
def zjJ (to ti te:TE) (tget:V→V→Hp→VK→Prop) (tip:TIp) (tset:TSet):TS:=fun D σ H=>to σ H fun o H1=>ti σ H1 fun i H2=>tget o i H2 fun x H3=>te σ H3 fun y H4=>tip x y H4 fun z H5=>tset o i z H5 fun H6=>D.nx σ H6
def PGet (X:Cx) (t:V→V→Hp→VK→Prop):Prop :=
  ∀ (pins:List (Addr × Obj)) (s:Shared) (σ:St) (H:Hp) (o i:V) (ov iv:Value) (Q:VK),Inv X pins σ H s→RelV o ov→RelV i iv→t o i H Q →
    wpAny (model X.prog X.w) X.A (getItem ov iv) (EP X pins σ Q) X.xe s
theorem zhV {o i e:Expr}{to ti te:TE}{tget:V→V→Hp→VK→Prop}{tip:TIp}{tset:TSet}{op:Operator}{tpos:Pos}(ho:PE X o to) (hi:PE X i ti) (hg:PGet X tget) (he:PE X e te) (hp:PIp X op tip) (hs:PSet X tset)
    (ha:∀ ov iv new,augStore i ov iv new=(do holding [new,ov,iv] (setItem ov iv new);release [new,ov,iv] [];pure .next):=by intros;rfl):PS X (.AugAssign (.Subscript o i tpos) op e pos) (zjJ to ti te tget tip tset):=by
  intro pins s σ H D I h
  refine wpAny_AugAssign_SubscriptAny (thn (ho pins s σ H _ I h) fun ov s1 ⟨x1,H1,I1,r1,q1⟩=>?_) ha
  refine thn (hi pins s1 σ H1 _ I1 q1) fun iv s2 ⟨x2,H2,I2,r2,q2⟩=>?_
  refine thn (hg pins s2 σ H2 x1 x2 ov iv _ I2 r1 r2 q2) fun old s3 ⟨x3,H3,I3,r3,q3⟩=>?_
  refine thn (he pins s3 σ H3 _ I3 q3) fun v s4 ⟨x4,H4,I4,r4,q4⟩=>?_
  refine thn (hp pins s4 σ H4 x3 x4 old v _ I4 r3 r4 q4) fun new s5 ⟨x5,H5,I5,r5,q5⟩=>?_
  exact thn (hs pins s5 σ H5 x1 x2 x5 ov iv new _ I5 r1 r2 r5 q5) fun _ s6 ⟨H6,I6,q6⟩=>⟨σ,H6,I6,q6⟩
def ipI (f:Int→Int→Int):TIp:=fun x y H Q=>∃ i j,x=.int i∧y=.int j∧Q (.int (f i j)) H
theorem zhl:PIp X .Add (ipI fun i j=>i+j):=by
  intro pins s σ H x y v u Q I r1 r2 h
  obtain⟨i,j,e1,e2,q⟩:=h
  subst e1;subst e2
  obtain⟨t,rfl⟩:=r1
  obtain⟨t',rfl⟩:=r2
  exact iadd_int ⟨.int _,H,I.tok _,⟨_,rfl⟩,q⟩
end
section
variable {X:Cx}{pos:Pos}
def ziR (c:TT) (tb:TS):TS:=fun D σ H=>∃ W:Nat→St→Hp→Prop,(∃ m,W m σ H)∧∀ m σ H,W m σ H →
  c σ H fun b H1=>if b=true then ∃ N:St→Hp→Prop,(∀ σ' H',N σ' H'→∃ m',m'<m∧W m' σ' H')∧tb { D with nx:=N,ct:=N,bk:=D.nx } σ H1 else D.nx σ H1
theorem zea {c:Expr}{body:List Stmt}{tc:TT}{tb:TS}(hp:PassesOwn (model X.prog X.w) X.A X.env X.xe) (hc:PT X c tc) (hb:PSs X body tb):PS X (.While c body [] pos) (ziR tc tb):=by
  intro pins s σ H D I h
  obtain⟨W,⟨m0,w0⟩,turn⟩:=h
  refine wpAny_While (codeAny_whileLoop (fun n s'=>∃ σ' H',Inv X pins σ' H' s'∧W n σ' H') ?_ m0 ⟨σ,H,I,w0⟩)
  rintro n s1 ⟨σ1,H1,I1,w1⟩
  refine wpAny_passesOwn hp (thn (hc pins s1 σ1 H1 _ I1 (turn n σ1 H1 w1)) fun b s2 ⟨H2,I2,q2⟩=>?_)
  cases b with
  | true =>
    obtain⟨N,hN,q2⟩:=q2
    rw[if_pos rfl]
    refine wpAny_passesOwn hp (thn (hb pins s2 σ1 H2 _ I2 q2) fun f s3 q3=>?_)
    cases f with
    | next =>
      obtain⟨σ3,H3,I3,n3⟩:=q3
      obtain⟨m',hm,w3⟩:=hN σ3 H3 n3
      exact⟨m',hm,σ3,H3,I3,w3⟩
    | cont =>
      obtain⟨σ3,H3,I3,n3⟩:=q3
      obtain⟨m',hm,w3⟩:=hN σ3 H3 n3
      exact⟨m',hm,σ3,H3,I3,w3⟩
    | brk=>exact q3
    | ret v=>exact q3
  | false =>
    rw[if_neg Bool.false_ne_true]
    exact wpAny_execs_nil ⟨σ1,H2,I2,q2⟩
end
structure It where
  go:Nat→Hp→Prop
  yld:Nat→Hp→V→Hp→Prop
  stop:Nat→Hp→Prop
def FpOk (X:Cx) (pins:List (Addr × Obj)) (H:Hp) (b:Addr):Prop :=
  H b=none∧b≠X.env.locals∧b∉X.fs∧(b∈X.ex∨X.s₀.heap.objs.size≤b)∧(∀ x c,X.env.cells.lookup x=some c→c≠b)∧∀ p∈X.pn++pins,p.1≠b
theorem Inv.fpOk {X:Cx}{pins:List (Addr × Obj)}{σ:St}{H H':Hp}{s:Shared}{b:Addr}(I:Inv X pins σ H s) (hb:s.heap.objs.size≤b) (hn:H' b=none):FpOk X pins H' b:=by
  refine⟨hn,Nat.ne_of_gt (Nat.lt_of_lt_of_le I.lt hb),I.nofs hb,.inr (Nat.le_trans I.sz hb),fun x c e z=>?_,fun p hp z=>?_⟩
  · obtain⟨v,q⟩:=I.cell x c e
    exact absurd (Nat.lt_of_lt_of_le q.lt (by rw[z];exact hb)) (Nat.lt_irrefl _)
  · exact absurd (Nat.lt_of_lt_of_le (Heap.lt_size (I.pin p hp).1) (by rw[z];exact hb)) (Nat.lt_irrefl _)
structure Turn (P:Program) (w:World) (K:PySem.W.Frag) (tg:Expr) (J:It) (fp:List Addr) (it:Addr) (tn:Nat→Heap→Prop):Prop where
  mem:it∈fp
  obj:∀ i h,tn i h→∀ b∈fp,∃ o,h.get? b=some o∧∀ v,o.data≠.cell v
  keep:∀ i h h',tn i h→(∀ b∈fp,∀ o,h.get? b=some o→h'.get? b=some o)→tn i h'
  item:∀ (X:Cx),X.prog=P→X.w=w→X.K=K→X.calm=true→∀ (i:Nat) (pins:List (Addr × Obj)) (s:Shared) (σ:St) (H:Hp) (E:Value→Shared→Prop),Inv X pins σ H s→(∀ b∈fp,FpOk X pins H b)→tn i s.heap→J.go i H →
    wpAny (model P w) X.A (pyNext (.ref it)) (fun r s1=>∃ u,r=some u ∧
      wpAny (model P w) X.A (letOwnedTupleGo tg (.ref it) u) (fun _ s2=>∃ x H',Inv X pins σ H' s2∧RelV x u∧J.yld i H x H'∧tn (i+1) s2.heap∧∀ b∈fp,H' b=none) E s1) E s
  done:∀ (X:Cx),X.prog=P→X.w=w→X.K=K→X.calm=true→∀ (i:Nat) (pins:List (Addr × Obj)) (s:Shared) (σ:St) (H:Hp) (E:Value→Shared→Prop),Inv X pins σ H s→(∀ b∈fp,FpOk X pins H b)→tn i s.heap→J.stop i H →
    wpAny (model P w) X.A (pyNext (.ref it)) (fun r s1=>r=none∧Inv X pins σ H s1) E s
  self:∀ (A:Around) (i:Nat) (s:Shared) (Q:Value→Shared→Prop) (E:Value→Shared→Prop),tn i s.heap→Q (.ref it) s→wpAny (model P w) A (pyIter (.ref it)) Q E s
abbrev TI:=St→Hp→(It→Hp→Prop)→Prop
def PIE (X:Cx) (pins:List (Addr × Obj)) (σ:St) (tg:Expr) (R:It→Hp→Prop) (itv:Value) (s2:Shared):Prop :=
  ∃ (it:Addr) (fp:List Addr) (tn:Nat→Heap→Prop) (J:It) (H':Hp),itv=.ref it∧Inv X pins σ H' s2∧Turn X.prog X.w X.K tg J fp it tn∧tn 0 s2.heap∧(∀ b∈fp,FpOk X pins H' b)∧R J H'
def PI (X:Cx) (tg iter:Expr) (wi:TI):Prop :=
  ∀ (pins:List (Addr × Obj)) (s:Shared) (σ:St) (H:Hp) (R:It→Hp→Prop),Inv X pins σ H s→wi σ H R →
    wpAny (model X.prog X.w) X.A (eval iter X.env) (fun v s1=>wpAny (model X.prog X.w) X.A (pyIter v) (PIE X pins σ tg R) X.xe s1) X.xe s
theorem zg2 {M:Model}{A:Around}{E:Value→Shared→Prop}{s:Shared}{tg:Expr}{it:Addr}{u:Value}{o:Obj}{n:String}{vs:Array Value}{Q:Unit→Shared→Prop}(ho:s.heap.get? it=some o) (hc:o.cls=.type n) (hd:o.data=.fields vs)
    (hn:["enumerate","zip","dict_itemiterator","dict_reverseitemiterator","odict_iterator","itertools.zip_longest","itertools.pairwise"].contains n=false) (hQ:Q () s):wpAny M A (letOwnedTupleGo tg (.ref it) u) Q E s:=by
  unfold letOwnedTupleGo
  cases tg<;>first
    | exact wpAny_pure hQ
    | (cases u<;>first
        | exact wpAny_pure hQ
        | (refine wpAny_bind (wpAny_load ho ?_)
           rw[hc,hd]
           show wpAny M A (if (["enumerate","zip","dict_itemiterator","dict_reverseitemiterator","odict_iterator","itertools.zip_longest","itertools.pairwise"].contains n && vs[0]? == some (rawInt _))=true then _ else _) Q E s
           rw[if_neg (by intro h;rw[hn,Bool.false_and]at h;cases h)]
           exact wpAny_pure hQ))
def Itl (K:PySem.W.Frag) (a:Addr):It :=
  ⟨fun i H=>∃ xs x,SqL K H a xs∧xs[i]?=some x,fun i H x H'=>H'=H∧∀ xs,SqL K H a xs→xs[i]?=some x,fun i H=>∃ xs,SqL K H a xs∧xs.length≤i⟩
def Itt (K:PySem.W.Frag) (a:Addr):It :=
  ⟨fun i H=>∃ xs x,SqT K H a xs∧xs[i]?=some x,fun i H x H'=>H'=H∧∀ xs,SqT K H a xs→xs[i]?=some x,fun i H=>∃ xs,SqT K H a xs∧xs.length≤i⟩
def Itr (lo:Int) (n:Nat):It:=⟨fun i _=>i<n,fun i H x H'=>H'=H∧x=.int (lo+i),fun i _=>n≤i⟩
theorem zeH {P:Program}{w:World}{K:PySem.W.Frag}{tg:Expr}(a it:Addr):Turn P w K tg (Itl K a) [it] it (fun i h=>h.IsListIter it a i) where
  mem:=by simp
  obj:=fun i h st b hb=>by
    have e:b=it:=by simpa using hb
    subst e
    obtain⟨o,e,c,d⟩:=st
    exact⟨o,e,fun v z=>by rw[d]at z;cases z⟩
  keep:=fun i h h' st k=>st.at fun o e=>k it (by simp) o e
  item:=by
    intro X hP hw hK hc i pins s σ H E I hf st hg
    subst hP hw hK
    obtain⟨xs,x,hq,hx⟩:=hg
    obtain⟨its,rv,p,hz⟩:=I.list hq
    obtain⟨u,hu,ru⟩:=rv.get hx
    obtain⟨f0,f1,f2,f3,f4,f5⟩:=hf it (by simp)
    refine wpAny_pyNext_list_item st p.isList (x:=u) (by simpa using hu) fun h' st' sb=>?_
    have I1:Inv X pins σ H { s with heap:=h' }:=I.turned (t':=s.toks) (fun b o hb e=>(sb.2 b hb).trans e) f0 f1 f3 f4 f5
    obtain⟨o,e,c,d⟩:=id st'
    exact⟨u,rfl,zg2 (s:={ s with heap:=h' }) e c d (by decide) ⟨x,H,I1,ru,⟨rfl,fun ys hy=>by rw[I.list_inj hy hq];exact hx⟩,st',fun b hb=>(hf b hb).1⟩⟩
  done:=by
    intro X hP hw hK hc i pins s σ H E I hf st hg
    subst hP hw hK
    obtain⟨xs,hq,hx⟩:=hg
    obtain⟨its,rv,p,hz⟩:=I.list hq
    obtain⟨f0,f1,f2,f3,f4,f5⟩:=hf it (by simp)
    have hl:=rv.length
    exact wpAny_pyNext_list_end (I.ok.hd hc) st p.isList (by simp;omega) fun h' eb=>⟨rfl,I.turned (t':=s.toks) (fun b o hb e=>eb b o hb e) f0 f1 f3 f4 f5⟩
  self:=fun _ _ _ _ _ st h=>wpAny_pyIter_listiter st h
theorem zeo {P:Program}{w:World}{K:PySem.W.Frag}{tg:Expr}(a it:Addr):Turn P w K tg (Itt K a) [it] it (fun i h=>h.IsTupleIter it a i) where
  mem:=by simp
  obj:=fun i h st b hb=>by
    have e:b=it:=by simpa using hb
    subst e
    obtain⟨o,e,c,d⟩:=st
    exact⟨o,e,fun v z=>by rw[d]at z;cases z⟩
  keep:=fun i h h' st k=>st.at fun o e=>k it (by simp) o e
  item:=by
    intro X hP hw hK hc i pins s σ H E I hf st hg
    subst hP hw hK
    obtain⟨xs,x,hq,hx⟩:=hg
    obtain⟨its,rv,p,hz⟩:=I.tuple hq
    obtain⟨u,hu,ru⟩:=rv.get hx
    obtain⟨f0,f1,f2,f3,f4,f5⟩:=hf it (by simp)
    refine wpAny_pyNext_tuple_item st (show s.heap.IsTuple a its.toArray from p) (x:=u) (by simpa using hu) fun h' st' sb=>?_
    have I1:Inv X pins σ H { s with heap:=h' }:=I.turned (t':=s.toks) (fun b o hb e=>(sb.2 b hb).trans e) f0 f1 f3 f4 f5
    obtain⟨o,e,c,d⟩:=id st'
    exact⟨u,rfl,zg2 (s:={ s with heap:=h' }) e c d (by decide) ⟨x,H,I1,ru,⟨rfl,fun ys hy=>by rw[I.tuple_inj hy hq];exact hx⟩,st',fun b hb=>(hf b hb).1⟩⟩
  done:=by
    intro X hP hw hK hc i pins s σ H E I hf st hg
    subst hP hw hK
    obtain⟨xs,hq,hx⟩:=hg
    obtain⟨its,rv,p,hz⟩:=I.tuple hq
    obtain⟨f0,f1,f2,f3,f4,f5⟩:=hf it (by simp)
    have hl:=rv.length
    exact wpAny_pyNext_tuple_end (I.ok.hd hc) st (show s.heap.IsTuple a its.toArray from p) (by simp;omega) fun h' eb=>⟨rfl,I.turned (t':=s.toks) (fun b o hb e=>eb b o hb e) f0 f1 f3 f4 f5⟩
  self:=fun _ _ _ _ _ st h=>wpAny_pyIter_tupleiter st h
theorem zep {P:Program}{w:World}{K:PySem.W.Frag}{tg:Expr}(it:Addr) (lo:Int) (n:Nat):Turn P w K tg (Itr lo n) [it] it (fun i h=>IsRangeIter h it (lo+(i:Nat)*1) ((n:Int)-(i:Nat)) 1) where
  mem:=by simp
  obj:=fun i h st b hb=>by
    have e:b=it:=by simpa using hb
    subst e
    exact⟨_,st,fun v z=>by
      have z':Data.fields _=Data.cell v:=z
      cases z'⟩
  keep:=fun i h h' st k=>k it (by simp) _ st
  item:=by
    intro X hP hw hK hc i pins s σ H E I hf st hg
    subst hP hw hK
    obtain⟨f0,f1,f2,f3,f4,f5⟩:=hf it (by simp)
    have W:=Walks.range (prog:=X.prog) (w:=X.w) (I.ok.hd hc) it lo 1 n
    refine W.item i s _ _ hg st fun v h' tk hv st' kk=>?_
    obtain⟨t,rfl⟩:=hv
    have I1:Inv X pins σ H { s with heap:=h',toks:=tk }:=I.turned (fun b o hb e=>kk b o (by simpa using hb) e) f0 f1 f3 f4 f5
    refine⟨_,rfl,zg2 (s:={ s with heap:=h',toks:=tk }) (n:="range_iterator") st' rfl rfl (by decide) ⟨.int (lo+i),H,I1,⟨t,?_⟩,⟨rfl,rfl⟩,st',fun b hb=>(hf b hb).1⟩⟩
    rw[Int.mul_one]
  done:=by
    intro X hP hw hK hc i pins s σ H E I hf st hg
    subst hP hw hK
    obtain⟨f0,f1,f2,f3,f4,f5⟩:=hf it (by simp)
    exact wpAny_pyNext_range_end (I.ok.hd hc) st (by have:n≤i:=hg;omega) fun h' eb=>⟨rfl,I.turned (t':=s.toks) (fun b o hb e=>eb b o hb e) f0 f1 f3 f4 f5⟩
  self:=fun _ _ _ _ _ st h=>wpAny_pyIter_rangeiter st h
section
variable {X:Cx}{tg:Expr}
def zj1 (K:PySem.W.Frag) (tl:TE):TI:=fun σ H R=>tl σ H fun x H1=>∃ a,x=.ref a∧(∃ xs,SqL K H1 a xs)∧R (Itl K a) H1
def iTup (K:PySem.W.Frag) (tl:TE):TI:=fun σ H R=>tl σ H fun x H1=>∃ a,x=.ref a∧(∃ xs,SqT K H1 a xs)∧R (Itt K a) H1
theorem zff {l:Expr}{tl:TE}(hl:PE X l tl):PI X tg l (zj1 X.K tl):=by
  intro pins s σ H R I h
  refine thn (hl pins s σ H _ I h) fun v s1 ⟨x,H1,I1,r1,q1⟩=>?_
  obtain⟨a,e,⟨xs,hq⟩,q⟩:=q1
  subst e
  cases r1
  obtain⟨its,rv,p,hz⟩:=I1.list hq
  refine wpAny_pyIter_list p.isList ?_
  refine⟨s1.heap.objs.size,[s1.heap.objs.size],_,_,H1,rfl,I1.kept (t':=s1.toks) fun b o e=>Heap.get?_push_of_some _ e,zeH a _,⟨_,Heap.get?_push_size _ rfl,rfl,rfl⟩,fun b hb=>?_,q⟩
  have e:b=s1.heap.objs.size:=by simpa using hb
  subst e
  exact I1.fpOk (Nat.le_refl _) (I1.hok.fresh (Nat.le_refl _))
theorem zhf {l:Expr}{tl:TE}(hl:PE X l tl):PI X tg l (iTup X.K tl):=by
  intro pins s σ H R I h
  refine thn (hl pins s σ H _ I h) fun v s1 ⟨x,H1,I1,r1,q1⟩=>?_
  obtain⟨a,e,⟨xs,hq⟩,q⟩:=q1
  subst e
  cases r1
  obtain⟨its,rv,p,hz⟩:=I1.tuple hq
  refine wpAny_pyIter_tuple (show s1.heap.IsTuple a its.toArray from p) ?_
  refine⟨s1.heap.objs.size,[s1.heap.objs.size],_,_,H1,rfl,I1.kept (t':=s1.toks) fun b o e=>Heap.get?_push_of_some _ e,zeo a _,⟨_,Heap.get?_push_size _ rfl,rfl,rfl⟩,fun b hb=>?_,q⟩
  have e:b=s1.heap.objs.size:=by simpa using hb
  subst e
  exact I1.fpOk (Nat.le_refl _) (I1.hok.fresh (Nat.le_refl _))
theorem zd8 {pins:List (Addr × Obj)}{σ:St}{H:Hp}{s:Shared}{R:It→Hp→Prop}{E:Value→Shared→Prop}{lo hi:Int}{t u v:Tok}{tk:Nat}(I:Inv X pins σ H s) (h1:-(2 ^ 62)≤lo) (h2:lo<2 ^ 62) (h3:-(2 ^ 62)≤hi) (h4:hi<2 ^ 62)
    (q:R (Itr lo (hi-lo).toNat) H):wpAny (model X.prog X.w) X.A (pyIter (.ref s.heap.objs.size)) (PIE X pins σ tg R) E { s with heap:=s.heap.push { cls:=.type "range",data:=.fields #[.int lo t,.int hi u,.int 1 v] },toks:=tk }:=by
  refine wpAny_pyIter_range (IsRange.new ..) (small_one h1 h2 h3 h4) ?_
  have I1:Inv X pins σ H { s with heap:=s.heap.push { cls:=.type "range",data:=.fields #[.int lo t,.int hi u,.int 1 v] },toks:=tk }:=I.kept fun b o e=>Heap.get?_push_of_some _ e
  refine⟨(s.heap.push { cls:=.type "range",data:=.fields #[.int lo t,.int hi u,.int 1 v] }).objs.size,[(s.heap.push { cls:=.type "range",data:=.fields #[.int lo t,.int hi u,.int 1 v] }).objs.size],_,_,H,rfl,
    I1.kept (t':=tk) fun b o e=>Heap.get?_push_of_some _ e,zep _ lo (hi-lo).toNat,?_,fun b hb=>?_,q⟩
  · have e1:lo+((0:Nat):Int)*1=lo:=by simp
    have e2:(((hi-lo).toNat:Nat):Int)-((0:Nat):Int)=Builtin.Range.rangeSize lo hi 1:=by rw[rangeSize_one];split<;>omega
    show IsRangeIter _ _ (lo+((0:Nat):Int)*1) ((((hi-lo).toNat:Nat):Int)-((0:Nat):Int)) 1
    rw[e1,e2]
    exact Heap.get?_push_size _ rfl
  · have e:b=(s.heap.push { cls:=.type "range",data:=.fields #[.int lo t,.int hi u,.int 1 v] }).objs.size:=by simpa using hb
    subst e
    exact I1.fpOk (Nat.le_refl _) (I1.hok.fresh (Nat.le_refl _))
def zj0 (ta:TA):TI:=fun σ H R=>ta σ H fun vs H1=>∃ j:Int,vs=[.int j]∧-(2 ^ 62)≤j∧j<2 ^ 62∧R (Itr 0 j.toNat) H1
def zjZ (ta:TA):TI:=fun σ H R=>ta σ H fun vs H1=>∃ i j:Int,vs=[.int i,.int j]∧(-(2 ^ 62)≤i∧i<2 ^ 62∧-(2 ^ 62)≤j∧j<2 ^ 62)∧R (Itr i (j-i).toNat) H1
theorem zbv {a:Expr}{ta:TA}{p pos:Pos}(hg:Gl X "range") (hm:X.mg "range" = none) (ha:PA X [a] ta) (hs:starEach [a] X.env=[(false,eval a X.env)]:=by rfl):PI X tg (.Call (.Name "range" p) [a] [] pos) (zj0 ta):=by
  intro pins s σ H R I h
  refine Call_ (zbI I hg hm boot_range (PyProof.Rows.callWith_type1 (thn (ha pos pins s σ H _ I h) fun us s1 ⟨vs,H1,I1,r1,q1⟩=>?_) hs rfl))
  obtain⟨j,e,q1,q2,q⟩:=q1
  subst e
  cases r1 with
  | cons r rr =>
    cases rr
    obtain⟨t,rfl⟩:=r
    exact call_range_1 (zd8 I1 (by omega) (by omega) q1 q2 (by simpa using q))
theorem zfe {a b:Expr}{ta:TA}{p pos:Pos}(hg:Gl X "range") (hm:X.mg "range" = none) (ha:PA X [a,b] ta) (hs:starEach [a,b] X.env=[(false,eval a X.env),(false,eval b X.env)]:=by rfl) (hs2:starEach [b] X.env=[(false,eval b X.env)]:=by rfl) :
    PI X tg (.Call (.Name "range" p) [a,b] [] pos) (zjZ ta):=by
  intro pins s σ H R I h
  refine Call_ (zbI I hg hm boot_range (PyProof.Rows.callWith_type1 (thn (ha pos pins s σ H _ I h) fun us s1 ⟨vs,H1,I1,r1,q1⟩=>?_) (by rw[hs,hs2]) (by rw[hs2];rfl)))
  obtain⟨i,j,e,⟨q1,q2,q3,q4⟩,q⟩:=q1
  subst e
  cases r1 with
  | cons r rr =>
    cases rr with
    | cons r' rr =>
      cases rr
      obtain⟨t,rfl⟩:=r
      obtain⟨t',rfl⟩:=r'
      exact call_range_2 (zd8 I1 q1 q2 q3 q4 q)
def tFor (wi:TI) (g:TG) (tb:TS):TS:=fun D σ H=>wi σ H fun J H1=>∃ W:Nat→Nat→St→Hp→Prop,(∃ m,W 0 m σ H1)∧∀ i m σ H,W i m σ H →
  (J.stop i H∧D.nx σ H)∨(J.go i H∧∃ N:St→Hp→Prop,(∀ σ' H',N σ' H'→∃ m',m'<m∧W (i+1) m' σ' H')∧∀ x H',J.yld i H x H'→g x σ H' fun σ2 H2=>tb { D with nx:=N,ct:=N,bk:=D.nx } σ2 H2)
def zc8 (fp:List Addr) (h:Heap):List (Addr × Obj):=fp.filterMap fun b=>(h.get? b).map fun o=>(b,o)
theorem zbg {fp:List Addr}{h:Heap}{b:Addr}{o:Obj}(hb:b∈fp) (e:h.get? b=some o):(b,o)∈zc8 fp h:=List.mem_filterMap.mpr ⟨b,hb,by rw[e];rfl⟩
theorem zfp {fp:List Addr}{h:Heap}{p:Addr × Obj}(hp:p∈zc8 fp h):p.1∈fp∧h.get? p.1=some p.2:=by
  obtain⟨b,hb,e⟩:=List.mem_filterMap.mp hp
  cases q:h.get? b with
  | none=>rw[q]at e;cases e
  | some o =>
    rw[q]at e
    have e':(b,o)=p:=Option.some.inj e
    subst e'
    exact⟨hb,q⟩
theorem Inv.pinned {pins:List (Addr × Obj)}{σ:St}{H:Hp}{s:Shared}{fp:List Addr}(I:Inv X pins σ H s) (hf:∀ b∈fp,FpOk X pins H b) (ho:∀ b∈fp,∃ o,s.heap.get? b=some o∧∀ v,o.data≠.cell v):Inv X (pins++zc8 fp s.heap) σ H s :=
  I.pins_of fun p hp=>(List.mem_append.mp hp).elim (fun z=>I.pin p (List.mem_append_right _ z)) fun z=>by
    obtain⟨hb,e⟩:=zfp z
    obtain⟨f0,f1,f2,_⟩:=hf p.1 hb
    obtain⟨o,e',d⟩:=ho p.1 hb
    rw[e]at e';cases e'
    exact⟨e,f0,f1,f2,d⟩
theorem Inv.unpinned {pins pl:List (Addr × Obj)}{σ:St}{H:Hp}{s:Shared}(I:Inv X (pins++pl) σ H s):Inv X pins σ H s:=I.pins_of fun p hp=>I.pin p (List.mem_append_right _ (List.mem_append_left _ hp))
theorem zbG {iter:Expr}{body:List Stmt}{wi:TI}{g:TG}{tb:TS}{pos:Pos}(hp:PassesOwn (model X.prog X.w) X.A X.env X.xe) (hc:X.calm=true) (hi:PI X tg iter wi) (hg:PG X tg g) (hb:PSs X body tb)
    (hs:∀ x,foldedSetIterable iter X.env x=pure x:=by intro _;rfl):PS X (.For tg iter body [] pos) (tFor wi g tb):=by
  intro pins s σ H D I h
  refine wpAny_For (thn (hi pins s σ H _ I h) fun v s1 h1=>thn h1 fun itv s2 h2=>?_) hs
  obtain⟨it,fp,tn,J,H2,e,I2,T,st2,f2,W,⟨m0,w0⟩,turn⟩:=h2
  subst e
  have stat:∀ {H':Hp},(∀ b∈fp,H' b=none)→∀ b∈fp,FpOk X pins H' b:=fun hn b hb=>⟨hn b hb,(f2 b hb).2⟩
  refine codeAny_forLoop_any (fun n s'=>∃ i σ' H',Inv X pins σ' H' s'∧tn i s'.heap∧(∀ b∈fp,H' b=none)∧W i n σ' H') ?_ m0 ⟨0,σ,H2,I2,st2,fun b hb=>(f2 b hb).1,w0⟩
  rintro n s3 ⟨i,σ3,H3,I3,st3,fr3,w3⟩
  rcases turn i n σ3 H3 w3 with ⟨stop,qn⟩|⟨go,N,hN,step⟩
  · refine wpAny_passesOwn hp (thn (T.done X rfl rfl rfl hc i pins s3 σ3 H3 X.xe I3 (stat fr3) st3 stop) fun r s4 ⟨hr,I4⟩=>?_)
    subst hr
    exact wpAny_execs_nil ⟨σ3,H3,I4,qn⟩
  · refine wpAny_passesOwn hp (thn (T.item X rfl rfl rfl hc i pins s3 σ3 H3 X.xe I3 (stat fr3) st3 go) fun r s4 ⟨u,hr,h4⟩=>?_)
    subst hr
    refine wpAny_passesOwn hp (thn h4 fun _ s5 ⟨x,H5,I5,r5,y5,st5,fr5⟩=>?_)
    have I5':=I5.pinned (stat fr5) (T.obj _ _ st5)
    refine wpAny_passesOwn hp (thn (hg _ s5 σ3 H5 x u _ I5' r5 (step x H5 y5)) fun _ s6 ⟨σ6,H6,I6,q6⟩=>?_)
    refine wpAny_passesOwn hp (thn (hb _ s6 σ6 H6 _ I6 q6) fun f s7 q7=>?_)
    have again:∀ {σ7:St}{H7:Hp},Inv X (pins++zc8 fp s5.heap) σ7 H7 s7→N σ7 H7→∃ m,m<n∧∃ i σ' H',Inv X pins σ' H' s7∧tn i s7.heap∧(∀ b∈fp,H' b=none)∧W i m σ' H':=fun {σ7 H7} I7 n7=>by
      obtain⟨m',hm,w7⟩:=hN σ7 H7 n7
      refine⟨m',hm,i+1,σ7,H7,I7.unpinned,T.keep _ _ _ st5 fun b hb o e=>(I7.pin (b,o) (List.mem_append_right _ (List.mem_append_right _ (zbg hb e)))).1,fun b hb=>?_,w7⟩
      obtain⟨o,e,d⟩:=T.obj _ _ st5 b hb
      exact(I7.pin (b,o) (List.mem_append_right _ (List.mem_append_right _ (zbg hb e)))).2.1
    cases f with
    | next=>obtain⟨σ7,H7,I7,n7⟩:=q7;exact again I7 n7
    | cont=>obtain⟨σ7,H7,I7,n7⟩:=q7;exact again I7 n7
    | brk=>obtain⟨σ7,H7,I7,q7⟩:=q7;exact⟨σ7,H7,I7.unpinned,q7⟩
    | ret v=>obtain⟨x7,σ7,H7,I7,r7,q7⟩:=q7;exact⟨x7,σ7,H7,I7.unpinned,r7,q7⟩
end
theorem zg4 {K:PySem.W.Frag}{a:Addr}{xs:List V}{g:TG}{tb:TS}{D:Ends}{σ:St}{H:Hp}(Pv:Nat→St→Hp→Prop) (h0:Pv 0 σ H) (hl:∀ i σ H,i≤xs.length→Pv i σ H→SqL K H a xs)
    (hs:∀ i x σ H,xs[i]?=some x→Pv i σ H→g x σ H fun σ2 H2=>tb { D with nx:=Pv (i+1),ct:=Pv (i+1),bk:=D.nx } σ2 H2) (hd:∀ σ H,Pv xs.length σ H→D.nx σ H) :
    ∃ W:Nat→Nat→St→Hp→Prop,(∃ m,W 0 m σ H)∧∀ i m σ H,W i m σ H →
      ((Itl K a).stop i H∧D.nx σ H)∨((Itl K a).go i H∧∃ N:St→Hp→Prop,(∀ σ' H',N σ' H'→∃ m',m'<m∧W (i+1) m' σ' H')∧∀ x H',(Itl K a).yld i H x H'→g x σ H' fun σ2 H2=>tb { D with nx:=N,ct:=N,bk:=D.nx } σ2 H2):=by
  refine⟨fun i m σ H=>m=xs.length-i∧i≤xs.length∧Pv i σ H,⟨xs.length,by simp,Nat.zero_le _,h0⟩,?_⟩
  rintro i m σ H ⟨rfl,hi,p⟩
  have q:=hl i σ H hi p
  by_cases hlt:i<xs.length
  · refine .inr ⟨⟨xs,xs[i],q,by simp[hlt]⟩,Pv (i+1),fun σ' H' p'=>⟨xs.length-(i+1),by omega,rfl,hlt,p'⟩,fun x H' y=>?_⟩
    obtain⟨e,y⟩:=y
    subst e
    exact hs i x σ _ (y xs q) p
  · have e:i=xs.length:=by omega
    subst e
    exact .inl ⟨⟨xs,q,Nat.le_refl _⟩,hd σ H p⟩
theorem ziw {K:PySem.W.Frag}{a:Addr}{xs:List V}{g:TG}{tb:TS}{D:Ends}{σ:St}{H:Hp}(Pv:Nat→St→Hp→Prop) (h0:Pv 0 σ H) (hl:∀ i σ H,i≤xs.length→Pv i σ H→SqT K H a xs)
    (hs:∀ i x σ H,xs[i]?=some x→Pv i σ H→g x σ H fun σ2 H2=>tb { D with nx:=Pv (i+1),ct:=Pv (i+1),bk:=D.nx } σ2 H2) (hd:∀ σ H,Pv xs.length σ H→D.nx σ H) :
    ∃ W:Nat→Nat→St→Hp→Prop,(∃ m,W 0 m σ H)∧∀ i m σ H,W i m σ H →
      ((Itt K a).stop i H∧D.nx σ H)∨((Itt K a).go i H∧∃ N:St→Hp→Prop,(∀ σ' H',N σ' H'→∃ m',m'<m∧W (i+1) m' σ' H')∧∀ x H',(Itt K a).yld i H x H'→g x σ H' fun σ2 H2=>tb { D with nx:=N,ct:=N,bk:=D.nx } σ2 H2):=by
  refine⟨fun i m σ H=>m=xs.length-i∧i≤xs.length∧Pv i σ H,⟨xs.length,by simp,Nat.zero_le _,h0⟩,?_⟩
  rintro i m σ H ⟨rfl,hi,p⟩
  have q:=hl i σ H hi p
  by_cases hlt:i<xs.length
  · refine .inr ⟨⟨xs,xs[i],q,by simp[hlt]⟩,Pv (i+1),fun σ' H' p'=>⟨xs.length-(i+1),by omega,rfl,hlt,p'⟩,fun x H' y=>?_⟩
    obtain⟨e,y⟩:=y
    subst e
    exact hs i x σ _ (y xs q) p
  · have e:i=xs.length:=by omega
    subst e
    exact .inl ⟨⟨xs,q,Nat.le_refl _⟩,hd σ H p⟩
theorem zbe {lo:Int}{n:Nat}{g:TG}{tb:TS}{D:Ends}{σ:St}{H:Hp}(Pv:Nat→St→Hp→Prop) (h0:Pv 0 σ H)
    (hs:∀ i σ H,i<n→Pv i σ H→g (.int (lo+i)) σ H fun σ2 H2=>tb { D with nx:=Pv (i+1),ct:=Pv (i+1),bk:=D.nx } σ2 H2) (hd:∀ σ H,Pv n σ H→D.nx σ H) :
    ∃ W:Nat→Nat→St→Hp→Prop,(∃ m,W 0 m σ H)∧∀ i m σ H,W i m σ H →
      ((Itr lo n).stop i H∧D.nx σ H)∨((Itr lo n).go i H∧∃ N:St→Hp→Prop,(∀ σ' H',N σ' H'→∃ m',m'<m∧W (i+1) m' σ' H')∧∀ x H',(Itr lo n).yld i H x H'→g x σ H' fun σ2 H2=>tb { D with nx:=N,ct:=N,bk:=D.nx } σ2 H2):=by
  refine⟨fun i m σ H=>m=n-i∧i≤n∧Pv i σ H,⟨n,by simp,Nat.zero_le _,h0⟩,?_⟩
  rintro i m σ H ⟨rfl,hi,p⟩
  by_cases hlt:i<n
  · refine .inr ⟨hlt,Pv (i+1),fun σ' H' p'=>⟨n-(i+1),by omega,rfl,hlt,p'⟩,fun x H' y=>?_⟩
    obtain⟨e,y⟩:=y
    subst e y
    exact hs i σ _ hlt p
  · have e:i=n:=by omega
    subst e
    exact .inl ⟨Nat.le_refl _,hd σ H p⟩
abbrev R2:=V→V→Hp→VK→Prop
def OpR (X:Cx) (f:Value→Value→Sem Value) (r:R2):Prop :=
  ∀ (pins:List (Addr × Obj)) (s:Shared) (σ:St) (H:Hp) (x y:V) (v u:Value) (Q:VK),Inv X pins σ H s→RelV x v→RelV y u→r x y H Q →
    wpAny (model X.prog X.w) X.A (f v u) (EP X pins σ Q) X.xe s
def UnR (X:Cx) (f:Value→Sem Value) (r:V→Hp→VK→Prop):Prop :=
  ∀ (pins:List (Addr × Obj)) (s:Shared) (σ:St) (H:Hp) (x:V) (v:Value) (Q:VK),Inv X pins σ H s→RelV x v→r x H Q →
    wpAny (model X.prog X.w) X.A (f v) (EP X pins σ Q) X.xe s
def CallR (X:Cx) (f:Value) (r:List V→Hp→VK→Prop):Prop :=
  ∀ (pins:List (Addr × Obj)) (s:Shared) (σ:St) (H:Hp) (xs:List V) (us:List Value) (Q:VK),Inv X pins σ H s→Vals xs us→r xs H Q →
    wpAny (model X.prog X.w) X.A (call f us) (EP X pins σ Q) X.xe s
def TruR (X:Cx) (r:V→Hp→(Bool→Hp→Prop)→Prop):Prop :=
  ∀ (pins:List (Addr × Obj)) (s:Shared) (σ:St) (H:Hp) (x:V) (v:Value) (Q:Bool→Hp→Prop),Inv X pins σ H s→RelV x v→r x H Q →
    wpAny (model X.prog X.w) X.A (truthy v) (TP X pins σ Q) X.xe s
def tOp (r:R2) (ta tb:TE):TE:=fun σ H Q=>ta σ H fun x H1=>tb σ H1 fun y H2=>r x y H2 Q
def tUn (r:V→Hp→VK→Prop) (ta:TE):TE:=fun σ H Q=>ta σ H fun x H1=>r x H1 Q
def rI (C:Int→Int→Prop) (g:Int→Int→V):R2:=fun x y H Q=>∃ i j,x=.int i∧y=.int j∧C i j∧Q (g i j) H
def rI0 (g:Int→Int→V):R2:=fun x y H Q=>∃ i j,x=.int i∧y=.int j∧Q (g i j) H
def rU (g:Int→V):V→Hp→VK→Prop:=fun x H Q=>∃ i,x=.int i∧Q (g i) H
section
variable {X:Cx}{a b c:Expr}{ta tb tc:TE}{pos:Pos}
theorem binT (ha:PE X a ta) (hb:PE X b tb) {pins:List (Addr × Obj)}{s:Shared}{σ:St}{H:Hp}{R:V→V→Hp→Prop}(I:Inv X pins σ H s)
    (h:ta σ H fun x H1=>tb σ H1 fun y H2=>R x y H2) {Q:Value→Shared→Prop}{f:Value→Value→Sem Value}
    (hf:∀ v u s2 x y H2,Inv X pins σ H2 s2→RelV x v→RelV y u→R x y H2→wpAny (model X.prog X.w) X.A (f v u) Q X.xe s2) :
    wpAny (model X.prog X.w) X.A (eval a X.env) (fun v s₁=>wpAny (model X.prog X.w) X.A (eval b X.env) (fun u s₂=>wpAny (model X.prog X.w) X.A (f v u) Q X.xe s₂) X.xe s₁) X.xe s:=by
  refine thn (ha pins s σ H _ I h) fun v s1 ⟨x,H1,I1,r1,q1⟩=>?_
  refine thn (hb pins s1 σ H1 _ I1 q1) fun u s2 ⟨y,H2,I2,r2,q2⟩=>?_
  exact hf v u s2 x y H2 I2 r1 r2 q2
theorem zas {op:Operator}{r:R2}(ho:OpR X (binaryOp op) r) (ha:PE X a ta) (hb:PE X b tb):PE X (.BinOp a op b pos) (tOp r ta tb):=by
  intro pins s σ H Q I h
  exact wpAny_BinOp (binT ha hb I h fun v u s2 x y H2 I2 rx ry q=>ho pins s2 σ H2 x y v u Q I2 rx ry q)
theorem zgt {op:UnaryOp}{r:V→Hp→VK→Prop}(ho:UnR X (unaryOp op) r) (ha:PE X a ta):PE X (.UnaryOp op a pos) (tUn r ta):=by
  intro pins s σ H Q I h
  exact UnaryOp_ (thn (ha pins s σ H _ I h) fun v s1 ⟨x,H1,I1,r1,q1⟩=>ho pins s1 σ H1 x v Q I1 r1 q1)
theorem opI {f:Value→Value→Sem Value}{C:Int→Int→Prop}{g:Int→Int→Int}
    (rule:∀ (i j:Int) (t u:Tok) (s:Shared) (Q:Value→Shared→Prop) (E:Value→Shared→Prop),C i j→Q (.int (g i j) s.toks) { s with toks:=s.toks+1 }→wpAny (model X.prog X.w) X.A (f (.int i t) (.int j u)) Q E s) :
    OpR X f (rI C fun i j=>.int (g i j)):=by
  intro pins s σ H x y v u Q I rx ry h
  obtain⟨i,j,rfl,rfl,hc,q⟩:=h
  obtain⟨t,rfl⟩:=rx
  obtain⟨t',rfl⟩:=ry
  exact rule i j t t' s _ _ hc ⟨.int (g i j),H,I.tok _,⟨_,rfl⟩,q⟩
theorem opI0 {f:Value→Value→Sem Value}{g:Int→Int→Int}
    (rule:∀ (i j:Int) (t u:Tok) (s:Shared) (Q:Value→Shared→Prop) (E:Value→Shared→Prop),Q (.int (g i j) s.toks) { s with toks:=s.toks+1 }→wpAny (model X.prog X.w) X.A (f (.int i t) (.int j u)) Q E s) :
    OpR X f (rI0 fun i j=>.int (g i j)):=by
  intro pins s σ H x y v u Q I rx ry h
  obtain⟨i,j,rfl,rfl,q⟩:=h
  obtain⟨t,rfl⟩:=rx
  obtain⟨t',rfl⟩:=ry
  exact rule i j t t' s _ _ ⟨.int (g i j),H,I.tok _,⟨_,rfl⟩,q⟩
theorem opB0 {f:Value→Value→Sem Value}{g:Int→Int→Bool}
    (rule:∀ (i j:Int) (t u:Tok) (s:Shared) (Q:Value→Shared→Prop) (E:Value→Shared→Prop),Q (.bool (g i j)) s→wpAny (model X.prog X.w) X.A (f (.int i t) (.int j u)) Q E s) :
    OpR X f (rI0 fun i j=>.bl (g i j)):=by
  intro pins s σ H x y v u Q I rx ry h
  obtain⟨i,j,rfl,rfl,q⟩:=h
  obtain⟨t,rfl⟩:=rx
  obtain⟨t',rfl⟩:=ry
  exact rule i j t t' s _ _ ⟨.bl (g i j),H,I,rfl,q⟩
def CDiv (i j:Int):Prop:=0<j∧j<1073741824
def CPow (i j:Int):Prop:=0≤j∧j≤1000000∧i.natAbs<2 ^ 64
def CMul (i j:Int):Prop:=(-(2 ^ 64)<i∧i<2 ^ 64)∨(-(2 ^ 64)<j∧j<2 ^ 64)
theorem CMul.ok {i j:Int}(h:CMul i j):IntMulOk i j:=by
  rcases h with ⟨h1,h2⟩|⟨h1,h2⟩
  · exact .of_left (intBits_le_64 h1 h2)
  · exact .of_right (intBits_le_64 h1 h2)
theorem zaB:OpR X (binaryOp .Add) (rI0 fun i j=>.int (i+j)):=opI0 fun _ _ _ _ _ _ _ q=>add_int q
theorem zcd:OpR X (binaryOp .Sub) (rI0 fun i j=>.int (i-j)):=opI0 fun _ _ _ _ _ _ _ q=>sub_int q
theorem zbH:OpR X (binaryOp .Mult) (rI CMul fun i j=>.int (i*j)):=opI fun _ _ _ _ _ _ _ hc q=>mul_int q hc.ok
theorem zcL:OpR X (binaryOp .FloorDiv) (rI CDiv fun i j=>.int (i / j)):=opI fun i j _ _ _ _ _ hc q=>by
  have h1:(0:Int)<j:=hc.1
  have h2:j<1073741824:=hc.2
  exact floordiv_int (by omega) (by rw[Int.fdiv_eq_ediv_of_nonneg i (by omega)];exact q) (.inl (PyProof.noPylong_small (by omega)))
theorem zbd:OpR X (binaryOp .Mod) (rI (fun _ j=>0<j) fun i j=>.int (i%j)):=opI fun i j _ _ _ _ _ hc q=>by
  have h1:(0:Int)<j:=hc
  exact mod_int' (by omega) (by rw[Int.fmod_eq_emod_of_nonneg i (by omega)];exact q)
theorem zhh:OpR X (binaryOp .Pow) (rI CPow fun i j=>.int (i ^ j.toNat)):=opI fun _ _ _ _ _ _ _ hc q=>pow_int_small hc.1 hc.2.1 hc.2.2 q
theorem zi7:OpR X (binaryOp .LShift) (rI CPow fun i j=>.int (i*2 ^ j.toNat)):=opI fun _ _ _ _ _ _ _ hc q=>lshift_int_small hc.1 hc.2.1 hc.2.2 q
theorem unI {f:Value→Sem Value}{g:Int→Int}
    (rule:∀ (i:Int) (t:Tok) (s:Shared) (Q:Value→Shared→Prop) (E:Value→Shared→Prop),Q (.int (g i) s.toks) { s with toks:=s.toks+1 }→wpAny (model X.prog X.w) X.A (f (.int i t)) Q E s) :
    UnR X f (rU fun i=>.int (g i)):=by
  intro pins s σ H x v Q I rx h
  obtain⟨i,rfl,q⟩:=h
  obtain⟨t,rfl⟩:=rx
  exact rule i t s _ _ ⟨.int (g i),H,I.tok _,⟨_,rfl⟩,q⟩
theorem zd0:UnR X (unaryOp .USub) (rU fun i=>.int (-i)):=unI fun _ _ _ _ _ q=>neg_int q
end
def scal:V→V→Bool
  | .non,.non=>true|.non,.int _=>true|.int _,.non=>true|.non,.bl _=>true|.bl _,.non=>true|.non,.str _=>true|.str _,.non=>true
  | .int _,.int _=>true|.bl _,.bl _=>true|.str _,.str _=>true|.byt _,.byt _=>true
  | .int _,.str _=>true|.str _,.int _=>true|.bl _,.str _=>true|.str _,.bl _=>true
  | _,_=>false
def rEq:R2:=fun x y H Q=>scal x y=true∧Q (.bl (decide (x=y))) H
def rNe:R2:=fun x y H Q=>scal x y=true∧Q (.bl (!decide (x=y))) H
theorem zfX {i j:Int}:decide (V.int i=V.int j)=(i == j):=by
  rw[Bool.eq_iff_iff]
  simp
theorem zho {i j:Bool}:decide (V.bl i=V.bl j)=(i == j):=by
  rw[Bool.eq_iff_iff]
  simp
theorem zfW {i j:Str}:decide (V.str i=V.str j)=(i == j):=by
  rw[Bool.eq_iff_iff]
  simp
theorem zfY {i j:Array UInt8}:decide (V.byt i=V.byt j)=(i.toList == j.toList):=by
  rw[Bool.eq_iff_iff]
  cases i
  cases j
  simp
section
variable {X:Cx}{a b c:Expr}{ta tb tc:TE}{pos:Pos}
theorem zaC {pins:List (Addr × Obj)}{σ:St}{H:Hp}{s:Shared}{Q:VK}{k k':Bool}(I:Inv X pins σ H s) (q:Q (.bl k) H) (e:k=k'):EP X pins σ Q (.bool k') s:=by
  subst e
  exact⟨.bl k,H,I,rfl,q⟩
theorem zbK:OpR X (compareOp .Eq) rEq:=by
  intro pins s σ H x y v u Q I rx ry h
  obtain⟨hs,q⟩:=h
  cases x with
  | non =>
    cases rx
    cases y with
    | non=>cases ry;exact PySem.EqNone.eq_none_none (zaC I q (by simp))
    | bl j=>cases ry;exact PySem.EqNone.eq_none_bool (zaC I q (by simp))
    | int j=>obtain⟨t',rfl⟩:=ry;exact PySem.EqNone.eq_none_int (zaC I q (by simp))
    | str j=>obtain⟨t',rfl⟩:=ry;exact PySem.EqNone.eq_none_str (zaC I q (by simp))
    | _=>exact absurd (show false=true from hs) Bool.false_ne_true
  | bl i =>
    cases rx
    cases y with
    | non=>cases ry;exact PySem.EqNone.eq_bool_none (zaC I q (by simp))
    | bl j=>cases ry;exact eq_bool (zaC I q zho)
    | str j=>obtain⟨t',rfl⟩:=ry;exact PySem.EqMixed.eq_bool_str (zaC I q (by simp))
    | _=>exact absurd (show false=true from hs) Bool.false_ne_true
  | int i =>
    obtain⟨t,rfl⟩:=rx
    cases y with
    | non=>cases ry;exact PySem.EqNone.eq_int_none (zaC I q (by simp))
    | int j=>obtain⟨t',rfl⟩:=ry;exact eq_int (zaC I q zfX)
    | str j=>obtain⟨t',rfl⟩:=ry;exact PySem.EqMixed.eq_int_str (zaC I q (by simp))
    | _=>exact absurd (show false=true from hs) Bool.false_ne_true
  | str i =>
    obtain⟨t,rfl⟩:=rx
    cases y with
    | non=>cases ry;exact PySem.EqNone.eq_str_none (zaC I q (by simp))
    | bl j=>cases ry;exact PySem.EqMixed.eq_str_bool (zaC I q (by simp))
    | int j=>obtain⟨t',rfl⟩:=ry;exact PySem.EqMixed.eq_str_int (zaC I q (by simp))
    | str j=>obtain⟨t',rfl⟩:=ry;exact eq_str (zaC I q zfW)
    | _=>exact absurd (show false=true from hs) Bool.false_ne_true
  | byt i =>
    obtain⟨t,rfl⟩:=rx
    cases y with
    | byt j=>obtain⟨t',rfl⟩:=ry;exact PySem.W.eq_bytes (zaC I q zfY)
    | _=>exact absurd (show false=true from hs) Bool.false_ne_true
  | _=>cases y<;>exact absurd (show false=true from hs) Bool.false_ne_true
theorem zcK:OpR X (compareOp .NotEq) rNe:=by
  intro pins s σ H x y v u Q I rx ry h
  obtain⟨hs,q⟩:=h
  cases x with
  | non =>
    cases rx
    cases y with
    | non=>cases ry;exact PySem.EqNone.ne_none_none (zaC I q (by simp))
    | bl j=>cases ry;exact PySem.EqNone.ne_none_bool (zaC I q (by simp))
    | int j=>obtain⟨t',rfl⟩:=ry;exact PySem.EqNone.ne_none_int (zaC I q (by simp))
    | str j=>obtain⟨t',rfl⟩:=ry;exact PySem.EqNone.ne_none_str (zaC I q (by simp))
    | _=>exact absurd (show false=true from hs) Bool.false_ne_true
  | bl i =>
    cases rx
    cases y with
    | non=>cases ry;exact PySem.EqNone.ne_bool_none (zaC I q (by simp))
    | bl j=>cases ry;exact ne_bool (zaC I q (congrArg not zho))
    | str j=>obtain⟨t',rfl⟩:=ry;exact PySem.EqMixed.ne_bool_str (zaC I q (by simp))
    | _=>exact absurd (show false=true from hs) Bool.false_ne_true
  | int i =>
    obtain⟨t,rfl⟩:=rx
    cases y with
    | non=>cases ry;exact PySem.EqNone.ne_int_none (zaC I q (by simp))
    | int j=>obtain⟨t',rfl⟩:=ry;exact ne_int (zaC I q (congrArg not zfX))
    | str j=>obtain⟨t',rfl⟩:=ry;exact PySem.EqMixed.ne_int_str (zaC I q (by simp))
    | _=>exact absurd (show false=true from hs) Bool.false_ne_true
  | str i =>
    obtain⟨t,rfl⟩:=rx
    cases y with
    | non=>cases ry;exact PySem.EqNone.ne_str_none (zaC I q (by simp))
    | bl j=>cases ry;exact PySem.EqMixed.ne_str_bool (zaC I q (by simp))
    | int j=>obtain⟨t',rfl⟩:=ry;exact PySem.EqMixed.ne_str_int (zaC I q (by simp))
    | str j=>obtain⟨t',rfl⟩:=ry;exact ne_str (zaC I q (congrArg not zfW))
    | _=>exact absurd (show false=true from hs) Bool.false_ne_true
  | byt i =>
    obtain⟨t,rfl⟩:=rx
    cases y with
    | byt j=>obtain⟨t',rfl⟩:=ry;exact PySem.W.ne_bytes (zaC I q (congrArg not zfY))
    | _=>exact absurd (show false=true from hs) Bool.false_ne_true
  | _=>cases y<;>exact absurd (show false=true from hs) Bool.false_ne_true
theorem zev:OpR X (compareOp .Lt) (rI0 fun i j=>.bl (decide (i<j))):=opB0 fun _ _ _ _ _ _ _ q=>lt_int q
theorem zjR:OpR X (compareOp .LtE) (rI0 fun i j=>.bl (decide (i≤j))):=opB0 fun _ _ _ _ _ _ _ q=>le_int q
theorem zh2:OpR X (compareOp .Gt) (rI0 fun i j=>.bl (decide (j<i))):=opB0 fun _ _ _ _ _ _ _ q=>gt_int q
theorem zgA:OpR X (compareOp .GtE) (rI0 fun i j=>.bl (decide (j≤i))):=opB0 fun _ _ _ _ _ _ _ q=>ge_int q
theorem zay (b:Expr) {op:CmpOp}(h:op≠.In:=by decide) (h2:op≠.NotIn:=by decide):behindInMarks op b=false:=by
  have e1:(op == CmpOp.In)=false:=by cases op<;>first|rfl|exact absurd rfl h
  have e2:(op == CmpOp.NotIn)=false:=by cases op<;>first|rfl|exact absurd rfl h2
  cases b<;>simp[behindInMarks,e1,e2]
theorem zbb {op:CmpOp}{r:R2}(ho:OpR X (compareOp op) r) (ha:PE X a ta) (hb:PE X b tb) (hm:behindInMarks op b=false):PE X (.Compare a [op] [b] pos) (tOp r ta tb):=by
  intro pins s σ H Q I h
  exact wpAny_Compare1 (binT ha hb I h fun v u s2 x y H2 I2 rx ry q=>ho pins s2 σ H2 x y v u Q I2 rx ry q) hm
def zjz (t:TE):TT:=fun σ H Q=>t σ H fun x H'=>∃ k,x=.bl k∧Q k H'
theorem zau {op:CmpOp}{r:R2}(ho:OpR X (compareOp op) r) (ha:PE X a ta) (hb:PE X b tb) (hm:behindInMarks op b=false):PT X (.Compare a [op] [b] pos) (zjz (tOp r ta tb)):=by
  intro pins s σ H Q I h
  refine wpAny_isTrue_Compare1 (thn (ha pins s σ H _ I h) fun v s1 ⟨x,H1,I1,r1,q1⟩=>thn (hb pins s1 σ H1 _ I1 q1) fun u s2 ⟨y,H2,I2,r2,q2⟩ =>
    thn (ho pins s2 σ H2 x y v u _ I2 r1 r2 q2) fun c s3 ⟨z,H3,I3,r3,k,e,q3⟩=>?_) hm
  subst e
  cases r3
  exact wpAny_truthy_bool ⟨H3,I3,q3⟩
def ziW (r r':R2) (ta tb tc:TE):TE:=fun σ H Q=>ta σ H fun x H1=>tb σ H1 fun y H2=>r x y H2 fun z H3=>∃ k,z=.bl k ∧
  (if k=true then tc σ H3 fun w' H4=>r' y w' H4 Q else Q (.bl false) H3)
theorem zgx {op op':CmpOp}{r r':R2}(ho:OpR X (compareOp op) r) (ho':OpR X (compareOp op') r') (ha:PE X a ta) (hb:PE X b tb) (hc:PE X c tc)
    (hm:lastMarks [op,op'] [b,c]=false:=by with_unfolding_all rfl):PE X (.Compare a [op,op'] [b,c] pos) (ziW r r' ta tb tc):=by
  intro pins s σ H Q I h
  refine Compare_chain (thn (ha pins s σ H _ I h) fun v s1 ⟨x,H1,I1,r1,q1⟩=>chain_link (thn (hb pins s1 σ H1 _ I1 q1) fun u s2 ⟨y,H2,I2,r2,q2⟩ =>
    thn (ho pins s2 σ H2 x y v u _ I2 r1 r2 q2) fun d s3 ⟨z,H3,I3,r3,k,e,q3⟩=>?_)) hm
  subst e
  cases r3
  refine wpAny_truthy_bool ?_
  cases k with
  | false=>exact ite_ff ⟨.bl false,H3,I3,rfl,q3⟩
  | true=>exact ite_tt (chain_last (thn (hc pins s3 σ H3 _ I3 q3) fun w' s4 ⟨z',H4,I4,r4,q4⟩=>ho' pins s4 σ H4 y z' u w' Q I4 r2 r4 q4))
def TruV (K:PySem.W.Frag) (x:V) (H:Hp) (k:Bool):Prop :=
  match x with
  | .non=>k=false
  | .bl b=>k=b
  | .int i=>k=(i != 0)
  | .str y=>y.length≤sizeLine∧k=((y.length:Int) != 0)
  | .byt y=>y.size≤sizeLine∧k=((y.size:Int) != 0)
  | .ref p=>(∃ xs,SqL K H p xs∧k = !xs.isEmpty)∨(∃ xs,SqT K H p xs∧k = !xs.isEmpty)∨∃ kvs,H p=some (.dK kvs)∧k = !kvs.isEmpty
  | _=>False
theorem zeE {κ:Type}{kvs:List (κ × V)}{vs:List (κ × Value)}(r:KV kvs vs):(!vs.isEmpty) = !kvs.isEmpty:=by
  cases r<;>rfl
theorem zci {xs:List V}{its:List Value}(r:Vals xs its):(!its.toArray.isEmpty) = !xs.isEmpty:=by
  cases r<;>simp
theorem zdc:(sizeLine:Nat)<2 ^ 63:=by rw[sizeLine_eq];decide
theorem ziQ:TruR X (fun x H Q=>∃ k,TruV X.K x H k∧Q k H):=by
  intro pins s σ H x v Q I rx h
  obtain⟨k,e,q⟩:=h
  have hl:=zdc
  have hs:sizeLine=16777216:=sizeLine_eq
  cases x with
  | non =>
    cases rx
    have e':k=false:=e
    subst e'
    exact truthy_none ⟨H,I,q⟩
  | bl b =>
    cases rx
    have e':k=b:=e
    subst e'
    exact wpAny_truthy_bool ⟨H,I,q⟩
  | int i =>
    obtain⟨t,rfl⟩:=rx
    have e':k=(i != 0):=e
    subst e'
    exact PySem.P.truthy_int ⟨H,I,q⟩
  | str y =>
    obtain⟨t,rfl⟩:=rx
    obtain⟨hy,e'⟩:y.length≤sizeLine∧k=((y.length:Int) != 0):=e
    subst e'
    exact PySem.P.truthy_str (by omega) ⟨H,I.tok _,q⟩
  | byt y =>
    obtain⟨t,rfl⟩:=rx
    obtain⟨hy,e'⟩:y.size≤sizeLine∧k=((y.size:Int) != 0):=e
    subst e'
    exact PySem.W.truthy_bytes (by omega) ⟨H,I.tok _,q⟩
  | ref p =>
    cases rx
    have e':(∃ xs,SqL X.K H p xs∧k = !xs.isEmpty)∨(∃ xs,SqT X.K H p xs∧k = !xs.isEmpty)∨∃ kvs,H p=some (.dK kvs)∧k = !kvs.isEmpty:=e
    rcases e' with ⟨xs,hx,e'⟩|⟨xs,hx,e'⟩|⟨kvs,hx,e'⟩
    · subst e'
      obtain⟨its,r,pl,hz⟩:=I.list hx
      have hlen:=r.length
      exact wpAny_truthy_list pl.isList (by simp only[List.size_toArray];omega) ⟨H,I.tok _,by rw[zci r];exact q⟩
    · subst e'
      obtain⟨its,r,pl,hz⟩:=I.tuple hx
      have hlen:=r.length
      exact truthy_tuple pl (by simp only[List.size_toArray];omega) ⟨H,I.tok _,by rw[zci r];exact q⟩
    · subst e'
      obtain⟨hz,hS,vs,r,m⟩:kvs.length≤sizeLine∧(p == sysModules)=false∧∃ vs,KV kvs vs∧s.heap.DictOf (zaE X.prog X.w) p vs:=I.hok p _ hx
      have hlen:kvs.length=vs.length:=Paired.length r
      exact wpAny_truthy_dict hS m (by omega) ⟨H,I.tok _,by rw[zeE r];exact q⟩
  | _=>exact(show False from e).elim
theorem zbu (ha:PE X a ta) (he:∀ whole,isTrue a X.env whole=(do let v ← whole;standAt a.pos;holding [v] (truthy v))) :
    PT X a (fun σ H Q=>ta σ H fun x H'=>∃ k,TruV X.K x H' k∧Q k H'):=by
  intro pins s σ H Q I h
  exact isTrue_plain (thn (ha pins s σ H _ I h) fun v s1 ⟨x,H1,I1,r1,q1⟩=>ziQ pins s1 σ H1 x v Q I1 r1 q1) (he _)
theorem zce:OpR X (binaryOp .Add) (fun x y H Q=>∃ i j,x=.str i∧y=.str j∧i.length+j.length≤sizeLine∧Q (.str (i++j)) H):=by
  intro pins s σ H x y v u Q I rx ry h
  obtain⟨i,j,rfl,rfl,hz,q⟩:=h
  obtain⟨t,rfl⟩:=rx
  obtain⟨t',rfl⟩:=ry
  exact add_str (fun t' tk=>⟨.str (i++j),H,I.tok _,⟨_,rfl⟩,q⟩) hz
theorem zen {x:V}{us:List Value}(r:Vals [x] us):∃ u,us=[u]∧RelV x u:=by
  cases r with
  | cons r1 r2=>cases r2;exact⟨_,rfl,r1⟩
theorem ziN {x y:V}{us:List Value}(r:Vals [x,y] us):∃ u w',us=[u,w']∧RelV x u∧RelV y w':=by
  cases r with
  | cons r1 r2 =>
    cases r2 with
    | cons r3 r4=>cases r4;exact⟨_,_,rfl,r1,r3⟩
theorem zcW:CallR X (.builtin "abs") (fun xs H Q=>∃ i,xs=[.int i]∧Q (.int (if i<0 then -i else i)) H):=by
  intro pins s σ H xs us Q I r h
  obtain⟨i,rfl,q⟩:=h
  obtain⟨u,rfl,t,rfl⟩:=zen r
  exact call_abs_int fun u tk=>⟨.int (if i<0 then -i else i),H,I.tok _,⟨_,rfl⟩,q⟩
theorem zdl (hc:X.calm=true):CallR X (.builtin "max") (fun xs H Q=>∃ i j,xs=[.int i,.int j]∧Q (.int (if j > i then j else i)) H):=by
  intro pins s σ H xs us Q I r h
  obtain⟨i,j,rfl,q⟩:=h
  obtain⟨u,w',rfl,⟨t,rfl⟩,⟨t',rfl⟩⟩:=ziN r
  refine max_two_ints (I.ok.hd hc) fun h' tk k=>⟨_,H,I.kept k,?_,q⟩
  by_cases hj:j > i
  · rw[if_pos hj,if_pos hj];exact⟨_,rfl⟩
  · rw[if_neg hj,if_neg hj];exact⟨_,rfl⟩
theorem zf7 (hc:X.calm=true):CallR X (.builtin "min") (fun xs H Q=>∃ i j,xs=[.int i,.int j]∧Q (.int (if j<i then j else i)) H):=by
  intro pins s σ H xs us Q I r h
  obtain⟨i,j,rfl,q⟩:=h
  obtain⟨u,w',rfl,⟨t,rfl⟩,⟨t',rfl⟩⟩:=ziN r
  refine min_two_ints (I.ok.hd hc) fun h' tk k=>⟨_,H,I.kept k,?_,q⟩
  by_cases hj:j<i
  · rw[if_pos hj,if_pos hj];exact⟨_,rfl⟩
  · rw[if_neg hj,if_neg hj];exact⟨_,rfl⟩
theorem zdo:CallR X (.type "int") (fun xs H Q=>(∃ i,xs=[.int i]∧Q (.int i) H)∨∃ k,xs=[.bl k]∧Q (.int (if k then 1 else 0)) H):=by
  intro pins s σ H xs us Q I r h
  rcases h with ⟨i,rfl,q⟩|⟨k,rfl,q⟩
  · obtain⟨u,rfl,t,rfl⟩:=zen r
    exact call_int_int ⟨.int i,H,I,⟨_,rfl⟩,q⟩
  · obtain⟨u,rfl,r1⟩:=zen r
    cases r1
    exact call_int_bool ⟨.int (if k then 1 else 0),H,I.tok _,⟨_,rfl⟩,q⟩
end
structure ObjM (h:Heap) (x dx C:Addr) (mA:Str→Option Value):Prop where
  obj:h.get? x=some (PySem.W.instObj C dx)
  ns:h.Ns1 dx mA
  ne:dx≠x
theorem zfB {h:Heap}{dx:Addr}{mA:Str→Option Value}(n:h.Ns1 dx mA):∃ od,h.get? dx=some od∧∀ name,PySem.W.lookIn name od=some (mA name):=by
  obtain⟨o,es,ep,ho,hd,hk,_,hm⟩:=n
  refine⟨o,ho,fun name=>?_⟩
  have e:=hm name
  unfold nsFind findBy at e
  rw[← Array.find?_toList]at e
  unfold PySem.W.lookIn
  rw[hd]
  dsimp only
  split
  · rename_i y q
    rw[q]at e
    exact congrArg some e
  · rename_i q
    rw[q]at e
    have a:es.toList.any (·.refKey)=false:=by
      rw[List.any_eq_false]
      intro y hy
      obtain⟨z,t,hkey⟩:=hk y (Array.mem_toList_iff.mp hy)
      simp[DictEntry.refKey,hkey]
    have a':¬ es.toList.any (·.refKey)=true:=by rw[a];exact Bool.false_ne_true
    rw[if_neg a']
    exact congrArg some e
theorem ObjM.look {h:Heap}{x dx C:Addr}{mA:Str→Option Value}(I:ObjM h x dx C mA):∃ od,PySem.W.InstAt h x (PySem.W.instObj C dx) C (some od)∧∀ name,PySem.W.lookIn name od=some (mA name) :=
  let ⟨od,ho,hl⟩:=zfB I.ns
  ⟨od,⟨I.obj,rfl,rfl,ho⟩,hl⟩
section
variable {prog:Program}{w:World}{A:Around}{E:Value→Shared→Prop}{s:Shared}{K:PySem.W.Frag}{x dx C f:Addr}{mA:Str→Option Value}{name:Str}{v:Value}
end
theorem RelO.some_of {v:V}{o:Option Value}(r:RelO (some v) o):∃ u,o=some u∧RelV v u:=by
  cases o with
  | none=>exact(show False from r).elim
  | some u=>exact⟨u,rfl,r⟩
section
variable {P:Program}{w:World}{H H':Hp}{h h':Heap}{a C dx:Addr}{fs fs':List (Str × V)}
theorem zis (hok:HOk P w H h) (e:H a=some (.ins C dx fs)):∃ mA,ObjM h a dx C mA∧(∀ f,RelO (fs.lookup f) (mA f))∧PySem.Within mA (fs.map (·.1))∧fs.length≤1000∧H dx=some (.own a):=by
  obtain⟨d,z,ne,ob,mA,n,r,q⟩:=(show ObjOk P w H h a (.ins C dx fs) from hok a _ e)
  exact⟨mA,⟨ob,n,ne⟩,r,q,z,d⟩
end
structure Cls (K:PySem.W.Frag) (C:Addr):Prop where
  pg:PySem.W.plainGet K C Str.empty=true
  hd:PySem.W.hasDictIn K C=true
  po:PySem.W.plainOver K C=true
  sa:PySem.W.findIn K (.ref C) "__setattr__" = some (some (.builtin "object.__setattr__"))
theorem Cls.get {K:PySem.W.Frag}{C:Addr}(c:Cls K C) (f:Str):PySem.W.plainGet K C f=true:=c.pg
section
variable {X:Cx}{pins:List (Addr × Obj)}{σ:St}{H:Hp}{s:Shared}{a C dx:Addr}{fs:List (Str × V)}{f:Str}{v:V}{A:Around}{E:Value→Shared→Prop}
end
section
variable {X:Cx}{o e value:Expr}{f:Str}{pos pos' tpos:Pos}{ta tv:TE}
end
section
variable {X:Cx}{pins:List (Addr × Obj)}{σ:St}{H:Hp}{s:Shared}{A:Around}{E:Value→Shared→Prop}{Q:Value→Shared→Prop}{c:Value}{b:Bool}
inductive TyOf (K:PySem.W.Frag) (H:Hp):V→Value→Prop where
  | non:TyOf K H .non (.type "NoneType")
  | bl (x:Bool):TyOf K H (.bl x) (.type "bool")
  | int (i:Int):TyOf K H (.int i) (.type "int")
  | str (x:Str):TyOf K H (.str x) (.type "str")
  | flt (x:UInt64):TyOf K H (.flt x) (.type "float")
  | lst {a:Addr}{xs:List V}(e:H a=some (.lst xs)):TyOf K H (.ref a) (.type "list")
  | frz {a:Addr}{o:Obj}{xs:List V}(e:H a=some (.frz o (.lst xs))):TyOf K H (.ref a) (.type "list")
  | tup {a:Addr}{xs:List V}(e:H a=some (.tup xs)):TyOf K H (.ref a) (.type "tuple")
  | dK {a:Addr}{kvs:List (Key × V)}(e:H a=some (.dK kvs)):TyOf K H (.ref a) (.type "dict")
  | dT {a:Addr}{kvs:List (List Key × V)}(e:H a=some (.dT kvs)):TyOf K H (.ref a) (.type "dict")
  | ins {a C dx:Addr}{fs:List (Str × V)}(e:H a=some (.ins C dx fs)) (cl:Cls K C) (ha:PySem.W.findIn K (.ref C) "__class__" = some (some (.builtin "object.__class__")))
      (hn:PySem.W.specialIn K (.builtin "object.__class__") "__get__" = some (some (.builtin "getset_descriptor.__get__"))) (htk:PySem.W.takesIn K (.builtin "object.__class__")=some true)
      (hm:PySem.W.mroIn K C (.type "object")=some true):TyOf K H (.ref a) (.ref C)
theorem zfL {x:V}{u t:Value}(I:Inv X pins σ H s) (rx:RelV x u) (ty:TyOf X.K H x t) (e:PySem.W.kitOne X.K t c=some b) (h:∀ tk,Q (.bool b) { s with toks:=tk }) :
    wpAny (model X.prog X.w) A (call (.builtin "isinstance") [u,c]) Q E s:=by
  cases ty with
  | non=>cases (show u=Value.none from rx);exact PySem.W.kia_one PySem.W.kitx_none I.kIn True.intro e (fun z=>nomatch z) h
  | bl y=>cases (show u=Value.bool y from rx);exact PySem.W.kia_one PySem.W.kitx_bool I.kIn True.intro e (fun z=>nomatch z) h
  | int i=>obtain⟨t,q⟩:=(show ∃ t,u=Value.int i t from rx);cases q;exact PySem.W.kia_one PySem.W.kitx_int I.kIn True.intro e (fun z=>nomatch z) h
  | str y=>obtain⟨t,q⟩:=(show ∃ t,u=Value.str y t from rx);cases q;exact PySem.W.kia_one PySem.W.kitx_str I.kIn True.intro e (fun z=>nomatch z) h
  | flt y=>obtain⟨t,q⟩:=(show ∃ t,u=Value.float y t from rx);cases q;exact PySem.W.kia_one PySem.W.kitx_float I.kIn True.intro e (fun z=>nomatch z) h
  | @lst a xs ea =>
    cases (show u=Value.ref a from rx)
    obtain⟨_,_,n,_,h1⟩:=(show ObjOk X.prog X.w H s.heap a (.lst xs) from I.hok a _ ea)
    exact PySem.W.kia_one PySem.W.kitx_list I.kIn ⟨_,h1,rfl⟩ e (fun z=>nomatch z) h
  | @frz a ob xs ea =>
    cases (show u=Value.ref a from rx)
    obtain⟨_,_,_,n,_,h1⟩:=(show ObjOk X.prog X.w H s.heap a (.frz ob (.lst xs)) from I.hok a _ ea)
    exact PySem.W.kia_one PySem.W.kitx_list I.kIn ⟨_,h1,rfl⟩ e (fun z=>nomatch z) h
  | @tup a xs ea =>
    cases (show u=Value.ref a from rx)
    obtain⟨_,_,_,p'⟩:=(show ObjOk X.prog X.w H s.heap a (.tup xs) from I.hok a _ ea)
    have p:=p'.tup
    obtain⟨o,h1,h2,_⟩:=p
    exact PySem.W.kia_one PySem.W.kitx_tuple I.kIn ⟨o,h1,h2⟩ e (fun z=>nomatch z) h
  | @dK a kvs ea =>
    cases (show u=Value.ref a from rx)
    obtain⟨_,_,vs,_,p⟩:=(show ObjOk X.prog X.w H s.heap a (.dK kvs) from I.hok a _ ea)
    obtain⟨o,es,ep,h1,h2,_⟩:=p
    exact PySem.W.kia_one PySem.W.kitx_dict I.kIn ⟨o,h1,h2.1⟩ e (fun z=>nomatch z) h
  | @dT a kvs ea =>
    cases (show u=Value.ref a from rx)
    obtain⟨_,_,xs,_,o,es,ep,h1,h2,_⟩:=(show ObjOk X.prog X.w H s.heap a (.dT kvs) from I.hok a _ ea)
    exact PySem.W.kia_one PySem.W.kitx_dict I.kIn ⟨o,h1,h2.1⟩ e (fun z=>nomatch z) h
  | @ins a C dx fs ea cl ha hn htk hm =>
    cases (show u=Value.ref a from rx)
    obtain⟨mA,O,_⟩:=zis I.hok ea
    obtain⟨od,J,_⟩:=O.look
    exact PySem.W.kia_one (PySem.W.kitx_own (cl.get _) cl.hd ha hn htk hm) I.kIn J e (fun z=>nomatch z) h
end
structure Room (k:Nat) (A:Around):Prop where
  hd:A.handled=none
  dp:A.depth+3*k+5<recursionLimit
  un:A.units+16*k+200<cLine
  gd:A.guards=some []
theorem Room.mono {j k:Nat}{A:Around}(r:Room k A) (h:j≤k):Room j A:=⟨r.hd,by have:=r.dp;omega,by have:=r.un;omega,r.gd⟩
theorem Room.deeper {k:Nat}{A:Around}(r:Room (k+1) A) (env:Env):Room k (A.deeper env) :=
  ⟨r.hd,by have:=r.dp;show A.depth+1+3*k+5<_;omega,by have:=r.un;show A.units+3+16*k+200<_;omega,r.gd⟩
theorem Room.depth {k:Nat}{A:Around}(r:Room k A):A.depth<recursionLimit:=by have:=r.dp;omega
theorem Room.units {k:Nat}{A:Around}(r:Room k A):A.units+64<cLine:=by have:=r.un;omega
theorem Room.units0 {k:Nat}{A:Around}(r:Room k A):A.units<cLine:=by have:=r.un;omega
def tNil:TA:=fun _ H Q=>Q [] H
def zjH (ta:TE) (tr:TA):TA:=fun σ H Q=>ta σ H fun x H1=>tr σ H1 fun xs H2=>Q (x::xs) H2
section
variable {X:Cx}{e:Expr}{es:List Expr}{te:TE}{t:TA}{pos:Pos}
theorem zab:PA X [] tNil:=fun _ _ _ _ H Q I h=>Calls.spliced_nil ⟨[],H,I,.nil,h⟩
theorem zaa (ha:PE X e te) (hr:PA X es t) (hs:starEach (e::es) X.env=(false,eval e X.env)::starEach es X.env:=by rfl):PA X (e::es) (zjH te t):=by
  intro pos pins s σ H Q I h
  rw[hs]
  show wpAny _ _ (spliced ((false,eval e X.env)::backTo pos (starEach es X.env))) _ _ s
  refine Calls.spliced_cons (thn (ha pins s σ H _ I h) fun u s1 ⟨x,H1,I1,r1,q1⟩=>?_)
  exact thn (hr pos pins s1 σ H1 _ I1 q1) fun us s2 ⟨xs,H2,I2,r2,q2⟩=>⟨x::xs,H2,I2,.cons r1 r2,q2⟩
def tTup (t:TA):TE:=fun σ H Q=>t σ H fun xs H1=>xs.length≤sizeLine∧∀ p,H1 p=none→Q (.ref p) (upd H1 p (.tup xs))
def tLst (t:TA):TE:=fun σ H Q=>t σ H fun xs H1=>xs.length≤sizeLine∧∀ p,H1 p=none→Q (.ref p) (upd H1 p (.lst xs))
theorem zaA {x1} (h:PA X es t):PE X (.Tuple es x1 pos) (tTup t):=by
  intro pins s σ H Q I hq
  refine wpAny_Tuple_spliced (thn (h pos pins s σ H _ I hq) fun us s1 ⟨xs,H1,I1,r,z,q⟩=>⟨by rw[← r.length];exact z,?_⟩)
  have hf:H1 s1.heap.objs.size=none:=I1.hok.fresh (Nat.le_refl _)
  refine⟨.ref s1.heap.objs.size,upd H1 s1.heap.objs.size (.tup xs),I1.laid (t':=s1.toks) (fun b u e=>Heap.get?_push_of_some _ e) (Nat.le_refl _) ?_,rfl,q _ hf⟩
  exact⟨z,us,r,TupX.new _ _⟩
theorem zaO (h:PA X es t):PE X (.List es pos) (tLst t):=by
  intro pins s σ H Q I hq
  refine wpAny_List_spliced (thn (h pos pins s σ H _ I hq) fun us s1 ⟨xs,H1,I1,r,z,q⟩=>⟨by rw[← r.length];exact z,?_⟩)
  have hf:H1 s1.heap.objs.size=none:=I1.hok.fresh (Nat.le_refl _)
  refine⟨.ref s1.heap.objs.size,upd H1 s1.heap.objs.size (.lst xs),I1.laid (t':=s1.toks) (fun b u e=>Heap.get?_push_of_some _ e) (Nat.le_refl _) ?_,rfl,q _ hf⟩
  exact⟨z,us,0,r,Heap.get?_push_size _ rfl⟩
end
abbrev Sp:=List V→Hp→VK→XK→Prop
abbrev CXT:=List Env→Hp→Shared→XK→Value→Shared→Prop
structure Env0 (P:Program) (w:World) (K:PySem.W.Frag) (mg:Str→Option Value) (base:Heap) (A:Around) (outer:List Env) (s:Shared) (H:Hp):Prop where
  frames:A.frames=some outer
  mod:Mod K mg base
  bs:∀ b o,base.get? b=some o→s.heap.get? b=some o∧H b=none
  bsz:base.objs.size≤s.heap.objs.size
  funs:s.heap.FunFrames base outer
  frf:∀ b∈frs outer,H b=none
  hok:HOk P w H s.heap
  bare:AllBare s.gens
def CE (outer:List Env) (P:Program) (w:World) (H:Hp) (s:Shared) (Q:VK) (u:Value) (s':Shared):Prop :=
  ∃ v H',s'.os=s.os∧AllBare s'.gens∧Un (frs outer) [] H H' s.heap s'.heap∧HOk P w H' s'.heap∧RelV v u∧Q v H'
def CR (CX:CXT) (outer:List Env) (P:Program) (w:World) (H:Hp) (s:Shared) (Q:VK) (E:XK) (r:Result) (s':Shared):Prop :=
  match r with
  | .ok (.ret u)=>CE outer P w H s Q u s'
  | .ok _=>False
  | .error e=>CX outer H s E e s'
structure FnOk (P:Program) (w:World) (K:PySem.W.Frag) (mg:Str→Option Value) (base:Heap) (CX:CXT) (k:Nat) (f:Addr) (fd:FuncData) (ps:List Str) (sp:Sp):Prop where
  len:∀ vs H Q E,sp vs H Q E→vs.length=ps.length
  run:∀ (A:Around) (outer:List Env) (s:Shared) (H:Hp) (args:Args) (us:List Value) (vs:List V) (Q:VK) (E:XK),Room k A→Env0 P w K mg base A outer s H→BindsTo s fd args (ps.zip us)→Vals vs us→sp vs H Q E →
    codeAny (model P w) A (.call (.ref f) args) (CR CX outer P w H s Q E) s
section
variable {X:Cx}{pins:List (Addr × Obj)}{σ:St}{H:Hp}{s s':Shared}
theorem Inv.env0 (I:Inv X pins σ H s):Env0 X.prog X.w X.K X.mg X.base X.A X.stack s H :=
  ⟨I.ok.frames,I.ok.mod,I.bs,Nat.le_trans I.ok.bsz I.sz,I.stack,I.stkFree,I.hok,I.bare⟩
theorem Inv.after {Q:VK}{u:Value}(I:Inv X pins σ H s) (h:CE X.stack X.prog X.w H s Q u s'):EP X pins σ Q u s':=by
  obtain⟨v,H',os,bare,un,hok,r,q⟩:=h
  obtain⟨hh,g,d,t,os'⟩:=s'
  obtain rfl:os'=s.os:=os
  exact⟨v,H',I.call (h':=hh) (g':=g) (d':=d) (t':=t) (ch:=[]) un hok bare (fun b z=>absurd z (by simp)),r,q⟩
end
def zjI (sp:Sp) (dvs:List V) (E:XK) (t:TA):TE:=fun σ H Q=>t σ H fun vs H1=>sp (vs++dvs) H1 Q E
def Binds (K:PySem.W.Frag) (fd:FuncData) (ps:List Str) (ds:List Value):Prop :=
  ∀ (s:Shared) (us:List Value),K.In s.heap→(us++ds).length=ps.length→BindsTo s fd ⟨us,[]⟩ (ps.zip (us++ds))
theorem Binds.all {K:PySem.W.Frag}{fd:FuncData}{ps:List Str}(h:∀ us:List Value,us.length=ps.length→bindArgs fd ⟨us,[]⟩=pure (ps.zip us)):Binds K fd ps []:=fun s us _ hl=>by
  rw[List.append_nil]at hl ⊢
  exact .of_eq (h us hl)
def Passes (CX:CXT) (X:Cx) (E:XK):Prop:=∀ (pins:List (Addr × Obj)) (σ:St) (H:Hp) (s:Shared) (e:Value) (s':Shared),Inv X pins σ H s→CX X.stack H s E e s'→X.xe e s'
section
variable {X:Cx}{CX:CXT}{k:Nat}{f C:Addr}{fd:FuncData}{ps:List Str}{sp:Sp}{dvs:List V}{ds:List Value}{E:XK}{x m:Str}{p pos apos:Pos}{e o:Expr}{es:List Expr}{ta:TE}{t:TA}
theorem ziZ {pins:List (Addr × Obj)}{σ:St}{H:Hp}{s:Shared}{Q:VK}{us:List Value}{vs:List V}(F:FnOk X.prog X.w X.K X.mg X.base CX k f fd ps sp) (hr:Room k X.A) (hb:Binds X.K fd ps ds) (hd:Vals dvs ds) (hx:Passes CX X E)
    (I:Inv X pins σ H s) (r:Vals vs us) (h:sp (vs++dvs) H Q E):wpAny (model X.prog X.w) X.A (call (.ref f) us) (EP X pins σ Q) X.xe s:=by
  have r2:Vals (vs++dvs) (us++ds):=r.append hd
  have hl:(us++ds).length=ps.length:=by rw[← r2.length];exact F.len _ _ _ _ h
  refine wpAny_call (codeAny_mono (F.run X.A X.stack s H ⟨us,[]⟩ (us++ds) (vs++dvs) Q E hr I.env0 (hb s us I.kIn hl) r2 h) fun r s' hq=>?_)
  cases r with
  | error e=>exact hx pins σ H s e s' I hq
  | ok fl =>
    cases fl with
    | ret u=>exact I.after hq
    | next=>exact False.elim hq
    | brk=>exact False.elim hq
    | cont=>exact False.elim hq
theorem zag (F:FnOk X.prog X.w X.K X.mg X.base CX k f fd ps sp) (hr:Room k X.A) (hg:Gl X x) (hm:X.mg x=some (.ref f)) (hk:PySem.W.keepIn X.K (.ref f)=true) (hb:Binds X.K fd ps ds) (hd:Vals dvs ds) (hx:Passes CX X E)
    (ha:PA X (e::es) t) (hdb:(x == ("__debug__":Str))=false:=by decide) (he:starEach (e::es) X.env=(false,eval e X.env)::starEach es X.env:=by rfl) (hpl:(backTo pos (starEach es X.env)).any (·.1)=false:=by rfl) :
    PE X (.Call (.Name x p) (e::es) [] pos) (zjI sp dvs E t):=by
  intro pins s σ H Q I h
  refine wpAny_Call_Name_kw (zim I hg hm ?_ hdb)
  refine PySem.W.callWith_K (h₀:=X.base) I.ok.mod.kin hk (thn (ha pos pins s σ H _ I h) fun us s1 ⟨vs,H1,I1,r,q⟩=>⟨I1.kIn,?_⟩) he hpl
  exact ziZ F hr hb hd hx I1 r q
end
section
variable {X:Cx}{CX:CXT}{k:Nat}{f C:Addr}{fd:FuncData}{ps ks:List Str}{sp:Sp}{E:XK}{x m:Str}{p pos apos kpos:Pos}{e o:Expr}{es:List Expr}{kws:List Keyword}{te ta:TE}{t tk:TA}{nm:Option Str}
variable {g:List Value→List Value→List Value}{gV:List V→List V→List V}
end
structure FnScope (N P:List Str) (sc:Scope):Prop where
  kind:sc.kind=.function
  co:sc.isCoroutine=false
  gen:sc.isGenerator=false
  nd:N.Nodup
  pre:N.take P.length=P
  par:∀ x∈P,sc.names.lookup x=some .local ∨ sc.names.lookup x=some .cell
  nofree:∀ y∈sc.names,y.2≠.free
theorem zdp {kindOf:Str→Option NameKind}{x:Str}:∀ {binds:List (Str × Value)}{m:Str→Option Value},(∀ v,(x,v)∉binds)→bindL kindOf binds m x=m x
  | [],_,_=>rfl
  | (n,v)::r,m,h=>by
    unfold bindL
    rw[zdp fun w hw=>h w (List.mem_cons_of_mem _ hw)]
    split
    · have:x≠n:=by rintro rfl;exact h v List.mem_cons_self
      simp[this]
    · rfl
theorem zdr {kindOf:Str→Option NameKind}{x:Str}:∀ {binds:List (Str × Value)}{m:Str→Option Value},(∀ v,(x,v)∉binds)→bindC kindOf binds m x=m x
  | [],_,_=>rfl
  | (n,v)::r,m,h=>by
    unfold bindC
    rw[zdr fun w hw=>h w (List.mem_cons_of_mem _ hw)]
    split
    · rfl
    · have:x≠n:=by rintro rfl;exact h v List.mem_cons_self
      simp[this]
theorem zdq {kindOf:Str→Option NameKind}{x:Str}{v:Value}:∀ {P:List Str}{vs:List Value}{i:Nat}{m:Str→Option Value},P.Nodup→P[i]?=some x→vs[i]?=some v→kindOf x=some .local →
    bindL kindOf (P.zip vs) m x=some v
  | [],_,_,_,_,h,_,_=>by simp at h
  | _::_,[],_,_,_,_,h,_=>by simp at h
  | p::P,w::vs,0,m,nd,h1,h2,hk=>by
    simp at h1 h2;subst h1;subst h2
    show bindL kindOf ((p,w)::P.zip vs) m p=_
    unfold bindL
    rw[zdp fun v hv=>(List.nodup_cons.mp nd).1 (List.of_mem_zip hv).1,if_pos hk]
    simp
  | p::P,w::vs,i+1,m,nd,h1,h2,hk=>by
    show bindL kindOf ((p,w)::P.zip vs) m x=_
    unfold bindL
    exact zdq (i:=i) (List.nodup_cons.mp nd).2 (by simpa using h1) (by simpa using h2) hk
theorem zds {kindOf:Str→Option NameKind}{x:Str}{v:Value}:∀ {P:List Str}{vs:List Value}{i:Nat}{m:Str→Option Value},P.Nodup→P[i]?=some x→vs[i]?=some v→kindOf x≠some .local →
    bindC kindOf (P.zip vs) m x=some v
  | [],_,_,_,_,h,_,_=>by simp at h
  | _::_,[],_,_,_,_,h,_=>by simp at h
  | p::P,w::vs,0,m,nd,h1,h2,hk=>by
    simp at h1 h2;subst h1;subst h2
    show bindC kindOf ((p,w)::P.zip vs) m p=_
    unfold bindC
    rw[zdr fun v hv=>(List.nodup_cons.mp nd).1 (List.of_mem_zip hv).1,if_neg hk]
    simp
  | p::P,w::vs,i+1,m,nd,h1,h2,hk=>by
    show bindC kindOf ((p,w)::P.zip vs) m x=_
    unfold bindC
    exact zds (i:=i) (List.nodup_cons.mp nd).2 (by simpa using h1) (by simpa using h2) hk
def zc0 (N:List Str) (vs:List V):St:=vs.map some++List.replicate (N.length-vs.length) none
def cxOf (CX:CXT) (P:Program) (w:World) (K:PySem.W.Frag) (mg:Str→Option Value) (base:Heap) (N:List Str) (qual:Str) (scope:Scope) (f:Addr) (cd:Value) (A:Around) (outer:List Env) (s:Shared) (H:Hp) (E:XK):Cx where
  prog:=P
  w:=w
  K:=K
  mg:=mg
  base:=base
  A:=A.deeper (envOfC qual scope s.heap.objs.size f cd)
  N:=N
  s₀:=s
  H₀:=H
  env:=envOfC qual scope s.heap.objs.size f cd
  outer:=outer
  stack:=envOfC qual scope s.heap.objs.size f cd::outer
  ex:=[]
  calm:=true
  fn:=fun _=>true
  pn:=[]
  xe:=fun e s'=>wpAny (model P w) (A.deeper (envOfC qual scope s.heap.objs.size f cd)) (leaving (envOfC qual scope s.heap.objs.size f cd) e) (fun _ s''=>CX outer H s E e s'') (fun e' s''=>CX outer H s E e' s'') s'
theorem zem {sc:Scope}{n:Nat}{x:Str}(h:sc.names.lookup x=some .cell):∃ c,(cellsFrom n sc.names []).lookup x=some c:=by
  have q:=PySem.W.cellsFrom_some sc.names n [] (.inl h)
  exact Option.isSome_iff_exists.mp q
theorem zfM {CX:CXT}{P:Program}{w:World}{K:PySem.W.Frag}{mg:Str→Option Value}{base:Heap}{N ps:List Str}{qual:Str}{scope:Scope}{f:Addr}{cd:Value}{A:Around}{outer:List Env}{s s1:Shared}{H:Hp}{E:XK}{us:List Value}{vs:List V}
    (S:FnScope N ps scope) (hd:A.handled=none) (e0:Env0 P w K mg base A outer s H) (hl:vs.length=ps.length) (r:Vals vs us)
    (x:InCallC s s.heap.objs.size (bindL (envOfC qual scope s.heap.objs.size f cd).kindOf (ps.zip us) fun _=>none) (cellsFrom (s.heap.objs.size+1) scope.names []) (bindC (envOfC qual scope s.heap.objs.size f cd).kindOf (ps.zip us) fun _=>none) s1) :
    Inv (cxOf CX P w K mg base N qual scope f cd A outer s H E) [] (zc0 N vs) H s1:=by
  have hpl:ps.length≤N.length:=by have:=congrArg List.length S.pre;rw[List.length_take]at this;omega
  obtain⟨h1,tk,rfl,hk⟩:=x.done
  have noA:∀ b:Addr,b∉(cxOf CX P w K mg base N qual scope f cd A outer s H E).ex:=fun b z=>absurd (show b∈([]:List Addr) from z) (by simp)
  refine⟨⟨e0.mod,S.kind,rfl,rfl,Nat.le_refl _,fun y z c h1 h2=>?_,fun y hy=>?_,fun y c _ h=>?_,fun _=>hd,Around.frames_deeper e0.frames,.inr ⟨rfl,rfl⟩,fun b z=>absurd z (noA b),e0.bs,e0.bsz,fun b _ _=>noA b,fun b z=>absurd z (noA b),e0.funs,e0.frf⟩,
    rfl,e0.bare,Un.kept hk,⟨_,x.toInCall.ns,fun i y v h1 h2 h3=>?_⟩,fun y c h=>⟨_,x.cell y c h⟩,e0.hok.fresh (Nat.le_refl _),fun y c h=>?_,fun p hp=>absurd (show p∈([]:List (Addr × Obj)) from hp) (by simp),e0.hok.kept hk,?_⟩
  · exact name_of_addr x.apart (PySem.mem_of_lookup h1) (PySem.mem_of_lookup h2)
  · have hy:scope.names.lookup y=some .cell∨scope.names.lookup y=some .free:=hy
    rcases hy with hy|hy
    · exact zem hy
    · exact absurd rfl (S.nofree _ (PySem.mem_of_lookup hy))
  · exact Nat.le_of_lt (x.above y c (PySem.mem_of_lookup h))
  · have hi:i<vs.length:=by
      unfold zc0 at h2
      by_cases hi:i<vs.length
      · exact hi
      · rw[List.getElem?_append_right (by simpa using hi)]at h2
        rw[List.getElem?_replicate]at h2
        split at h2<;>cases h2
    have ha:vs[i]?=some v:=by
      unfold zc0 at h2
      rw[List.getElem?_append_left (by simpa using hi),List.getElem?_map]at h2
      cases e:vs[i]? with
      | none=>rw[e]at h2;cases h2
      | some a=>rw[e]at h2;cases h2;rfl
    obtain⟨u,hu,rv⟩:=r.get ha
    have hp:ps[i]?=some y:=by
      rw[← S.pre,List.getElem?_take_of_lt (by omega)];exact h1
    have ndP:ps.Nodup:=by rw[← S.pre];exact S.nd.sublist (List.take_sublist _ _)
    refine⟨u,rv,?_⟩
    rcases S.par y (List.mem_of_getElem? hp) with k|k
    · exact .inl ⟨k,zdq ndP hp hu k⟩
    · obtain⟨c,e⟩:=zem (n:=s.heap.objs.size+1) k
      refine .inr ⟨.inl k,c,e,?_⟩
      have q:=x.cell y c e
      rw[zds ndP hp hu (by show scope.names.lookup y≠_;rw[k];decide)]at q
      exact q
  · exact e0.hok.fresh (Nat.le_of_lt (x.above y c (PySem.mem_of_lookup h)))
  · unfold zc0
    show _=N.length
    rw[List.length_append,List.length_map,List.length_replicate]
    omega
theorem zj4 {CX:CXT}{P:Program}{w:World}{K:PySem.W.Frag}{mg:Str→Option Value}{base:Heap}{k:Nat}{f:Addr}{name qual:Str}{params:Arguments}{body:List Stmt}{scope:Scope}{dV kV doc pm cdv ct oc:Value}{an od:Option Addr}
    {osl:Array (Option Value)}{N ps:List Str}{sp:Sp}(lk:K.lookup f=some ⟨oc,od,.func (PySem.W.fnOf name qual params body scope dV kV doc pm an cdv ct),osl⟩) (hcd:PySem.W.codeIn K cdv qual=true) (S:FnScope N ps scope)
    (len:∀ vs H Q E,sp vs H Q E→vs.length=ps.length)
    (hbody:∀ (A:Around) (outer:List Env) (s:Shared) (H:Hp) (vs:List V) (Q:VK) (E:XK),Room k (A.deeper (envOfC qual scope s.heap.objs.size f cdv))→sp vs H Q E →
      ∃ t,PSs (cxOf CX P w K mg base N qual scope f cdv A outer s H E) body t∧t { nx:=fun _ H'=>Q .non H',rt:=Q } (zc0 N vs) H) :
    FnOk P w K mg base CX (k+1) f (PySem.W.fnOf name qual params body scope dV kV doc pm an cdv ct) ps sp:=by
  refine⟨len,fun A outer s H args us vs Q E hr e0 hb r hsp=>?_⟩
  have hl:=len _ _ _ _ hsp
  have KX:K.In s.heap:=e0.mod.kin.keeps fun b o e=>(e0.bs b o e).1
  have lim:s.heap.NoLimit:=e0.mod.nolimit.keeps fun b o e=>(e0.bs b o e).1
  have hkind:∀ y∈ps.zip us,scope.names.lookup y.1=some .local ∨ (scope.names.lookup y.1=some .cell∧((cellsFrom (s.heap.objs.size+1) scope.names []).lookup y.1).isSome=true):=fun ⟨n,v⟩ hy=>by
    rcases S.par n (List.of_mem_zip hy).1 with q|q
    · exact .inl q
    · exact .inr ⟨q,PySem.W.cellsFrom_some _ _ _ (.inl q)⟩
  refine codeAny_call_function hr.depth (KX _ _ lk) rfl S.co S.gen rfl (PySem.W.codeRec_of KX hcd) (hb _ _ _ _ ?_)
  refine wpAny_newFunctionEnv_cells S.kind hkind fun env he s1 x=>?_
  subst he
  refine⟨lim.keeps x.toInCall.keep,codeAny_func ?_⟩
  obtain⟨t,ht,hq⟩:=hbody A outer s H vs Q E (hr.deeper _) hsp
  have I:Inv (cxOf CX P w K mg base N qual scope f cdv A outer s H E) [] (zc0 N vs) H s1:=zfM S hr.hd e0 hl r x
  refine wpAny_mono (ht [] s1 (zc0 N vs) H _ I hq) (fun fl s' hs=>?_) fun e s' hs=>hs
  have fin:∀ {σ':St}{H':Hp}{v:V}{u:Value},Inv (cxOf CX P w K mg base N qual scope f cdv A outer s H E) [] σ' H' s'→RelV v u→Q v H'→CE outer P w H s Q u s' :=
    fun {σ' H' v u} J rv q=>⟨v,H',J.os,J.bare,J.base,J.hok,rv,q⟩
  cases fl with
  | ret u =>
    obtain⟨v,σ',H',J,rv,q⟩:=hs
    exact fin J rv q
  | next =>
    obtain⟨σ',H',J,q⟩:=hs
    exact fin (v:=V.non) (u:=Value.none) J rfl q
  | brk =>
    obtain⟨_,_,_,q⟩:=hs
    exact False.elim q
  | cont =>
    obtain⟨_,_,_,q⟩:=hs
    exact False.elim q
section
variable {X:Cx}{x:Str}{p pos:Pos}{e:Expr}{es:List Expr}{t:TA}{id T:String}{r:List V→Hp→VK→Prop}
def tCB (r:List V→Hp→VK→Prop) (t:TA):TE:=fun σ H Q=>t σ H fun vs H1=>r vs H1 Q
theorem zar (hc:CallR X (.builtin id) r) (hg:Gl X x) (hm:X.mg x=none) (hv:bootBuiltins x=some (.builtin id)) (ha:PA X (e::es) t) (hn:x≠"__name__":=by decide) (hdb:(x == ("__debug__":Str))=false:=by decide)
    (he:starEach (e::es) X.env=(false,eval e X.env)::starEach es X.env:=by rfl) (hpl:(backTo pos (starEach es X.env)).any (·.1)=false:=by rfl):PE X (.Call (.Name x p) (e::es) [] pos) (tCB r t):=by
  intro pins s σ H Q I h
  refine wpAny_Call_Name_kw (zbI I hg hm hv ?_ hn hdb)
  exact PyProof.Rows.callWith_builtin1 (thn (ha pos pins s σ H _ I h) fun us s1 ⟨vs,H1,I1,r1,q1⟩=>hc pins s1 σ H1 vs us Q I1 r1 q1) he hpl
theorem zaI (hc:CallR X (.type T) r) (hg:Gl X x) (hm:X.mg x=none) (hv:bootBuiltins x=some (.type T)) (ha:PA X (e::es) t) (hn:x≠"__name__":=by decide) (hdb:(x == ("__debug__":Str))=false:=by decide)
    (he:starEach (e::es) X.env=(false,eval e X.env)::starEach es X.env:=by rfl) (hpl:(backTo pos (starEach es X.env)).any (·.1)=false:=by rfl):PE X (.Call (.Name x p) (e::es) [] pos) (tCB r t):=by
  intro pins s σ H Q I h
  refine wpAny_Call_Name_kw (zbI I hg hm hv ?_ hn hdb)
  exact PyProof.Rows.callWith_type1 (thn (ha pos pins s σ H _ I h) fun us s1 ⟨vs,H1,I1,r1,q1⟩=>hc pins s1 σ H1 vs us Q I1 r1 q1) he hpl
end
end L2
namespace HT
open PySem PyProof.Rows
section
open PySem.SeqAt
open PySem.AutoSeq1 (wpAny_loadPart')
open PySem.MeetsSeq PySem.MeetsSeq2 PySem.MeetsSeq3
end
section
variable {prog:Program}{w:World}{A:Around}{E:Value→Shared→Prop}{s:Shared}
theorem cat_tup {t b:Addr}{vs ws:List Value}{Q:Value→Shared→Prop}(ht:IsTup s.heap t vs.toArray) (hb:IsTup s.heap b ws.toArray) (hv:vs≠[])
    (h1:ws=[]→Q (.ref t) s) (h2:ws≠[]→Q (.ref s.heap.objs.size) { s with heap:=s.heap.push { cls:=.type "tuple",data:=.seq (vs++ws).toArray } })
    (hsz:vs.length+ws.length≤sizeLine):wpAny (model prog w) A (binaryOp .Add (.ref t) (.ref b)) Q E s:=by
  obtain⟨⟨cls,dd,data,sl⟩,ho,hc,n,hd⟩:=id ht
  obtain⟨⟨cls2,dd2,data2,sl2⟩,ho2,hc2,n2,hd2⟩:=id hb
  simp only at hc hd hc2 hd2
  subst hc hd hc2 hd2
  have e:vs.toArray++ws.toArray=(vs++ws).toArray:=by simp
  by_cases hw:ws=[]
  · exact concat_meets ⟨_,ho,rfl⟩ ⟨_,ho2,rfl⟩ noFill_tuple_add seq_tuple_add PySem.F.slot_tuple_add PySem.F.entry_tuple_add (PySem.F.args_tuple_add_2 _ _)
      (tuple_addW1 t b vs.toArray ws.toArray n n2 dd dd2 sl sl2 (by simpa using hv) (by simp[hw])) ⟨ho,ho2,h1 hw⟩
  · refine concat_meets ⟨_,ho,rfl⟩ ⟨_,ho2,rfl⟩ noFill_tuple_add seq_tuple_add PySem.F.slot_tuple_add PySem.F.entry_tuple_add (PySem.F.args_tuple_add_2 _ _)
      (tuple_addW2 t b vs.toArray ws.toArray n n2 dd dd2 sl sl2 (by simpa using hv) (by simpa using hw) (by rw[List.size_toArray,List.size_toArray];exact hsz)) ⟨ho,ho2,?_⟩
    rw[e]
    exact h2 hw
def sIx (n d:Nat):Option Int→Nat
  | none=>d
  | some v=>if v<0 then (v+(n:Int)).toNat else min v.toNat n
theorem sIx_none (n d:Nat):sIx n d none=d:=rfl
theorem sIx_nat (n d k:Nat):sIx n d (some (k:Int))=min k n:=by
  show (if (k:Int)<0 then ((k:Int)+(n:Int)).toNat else min (k:Int).toNat n)=min k n
  rw[if_neg (by omega),Int.toNat_natCast]
theorem ziY (n d:Nat) (hd:d≤n) (o:Option Int):sIx n d o≤n:=by
  cases o with
  | none=>exact hd
  | some v =>
    show (if v<0 then (v+(n:Int)).toNat else min v.toNat n)≤n
    by_cases hv:v<0
    · rw[if_pos hv];omega
    · rw[if_neg hv];exact Nat.min_le_right _ _
theorem zf6 (v:Int) (n d:Nat):(if v<0 then max (v+(n:Int)) 0 else min v (n:Int))=((sIx n d (some v):Nat):Int):=by
  show (if v<0 then max (v+(n:Int)) 0 else min v (n:Int))=(((if v<0 then (v+(n:Int)).toNat else min v.toNat n):Nat):Int)
  by_cases hv:v<0
  · simp only[if_pos hv];omega
  · simp only[if_neg hv];omega
theorem zeG (lo hi:Option Int) (n:Nat):Builtin.Slice.sliceAdjust lo hi 1 (n:Int)=(((sIx n 0 lo:Nat):Int),((sIx n n hi:Nat):Int)):=by
  have h1:¬((1:Int)<0):=by omega
  unfold Builtin.Slice.sliceAdjust
  simp only[h1,if_false]
  refine Prod.ext ?_ ?_
  · cases lo with
    | none=>rfl
    | some v=>exact zf6 v n 0
  · cases hi with
    | none=>rfl
    | some v=>exact zf6 v n n
theorem zet (i j:Nat):Builtin.Slice.slicePlaces (i:Int) (j:Int) 1=j-i:=by
  unfold Builtin.Slice.slicePlaces
  have h1:(1:Int) > 0:=by omega
  simp only[h1,if_true,Int.ediv_one]
  split<;>omega
theorem zcb {v:Value}{o:Option Int}{Q:Option Int→Shared→Prop}(p:IsPart v o) (h:Q o s):wpAny (model prog w) A (Builtin.Slice.slicePartIndex v) Q E s:=by
  cases p with
  | none=>exact slicePart_none h
  | int i t=>exact slicePart_int h
theorem sliceApplied_gen {sl:Addr}{vl vu:Value}{lo hi:Option Int}{n:Nat}{Q:Int × Int × Nat→Shared→Prop}(hs:s.heap.IsSliceOf sl vl vu .none) (pl:IsPart vl lo) (pu:IsPart vu hi)
    (h:Q (((sIx n 0 lo:Nat):Int),1,sIx n n hi-sIx n 0 lo) s):wpAny (model prog w) A (Builtin.Slice.sliceApplied (.ref sl) (pure (n:Int))) Q E s:=by
  obtain⟨os,hos,hcs,hds⟩:=id hs
  unfold Builtin.Slice.sliceApplied Builtin.Slice.sliceFields
  refine wpAny_bind (wpAny_bind (wpAny_field hos hds (x:=vl) rfl (wpAny_bind (wpAny_field hos hds (x:=vu) rfl (wpAny_bind (wpAny_field hos hds (x:=.none) rfl (wpAny_pure ?_)))))))
  refine wpAny_bind (slicePart_none ?_)
  show wpAny _ _ (if ((1:Int) == 0)=true then _ else _) _ _ s
  rw[if_neg (by decide)]
  refine wpAny_bind (zcb pl (wpAny_bind (zcb pu (wpAny_bind (wpAny_pure ?_)))))
  show wpAny _ _ (match Builtin.Slice.sliceAdjust lo hi 1 (n:Int) with|(lo,hi)=>pure (lo,(1:Int),Builtin.Slice.slicePlaces lo hi 1)) _ _ s
  rw[zeG lo hi n]
  show wpAny _ _ (pure (((sIx n 0 lo:Nat):Int),(1:Int),Builtin.Slice.slicePlaces ((sIx n 0 lo:Nat):Int) ((sIx n n hi:Nat):Int) 1)) _ _ s
  rw[zet]
  exact wpAny_pure h
theorem zgr (xs:Array Value) (i k:Nat):((List.range k).filterMap fun (m:Nat)=>xs[((i:Int)+(m:Int)*1).toNat]?).toArray=((xs.toList.drop i).take k).toArray:=by
  have e:(fun (m:Nat)=>xs[((i:Int)+(m:Int)*1).toNat]?)=fun m=>xs[i+m]?:=by
    funext m
    have:((i:Int)+(m:Int)*1).toNat=i+m:=by omega
    rw[this]
  rw[e]
  have:=pick_run xs i k
  rw[List.filterMap_map]at this
  have e2:((fun x=>xs[x]?)∘fun x=>i+x)=fun m=>xs[i+m]?:=rfl
  rw[e2]at this
  rw[this]
theorem getItem_tuple_cut {t sl:Addr}{items:Array Value}{vl vu:Value}{lo hi:Option Int}{Q:Value→Shared→Prop}(ht:IsTup s.heap t items) (hs:s.heap.IsSliceOf sl vl vu .none) (pl:IsPart vl lo) (pu:IsPart vu hi)
    (hw:¬(sIx items.size 0 lo=0∧sIx items.size items.size hi=items.size))
    (h:Q (.ref s.heap.objs.size) { s with heap:=s.heap.push { cls:=.type "tuple",data:=.seq ((items.toList.drop (sIx items.size 0 lo)).take (sIx items.size items.size hi-sIx items.size 0 lo)).toArray } })
    (hsz:items.size≤sizeLine):wpAny (model prog w) A (getItem (.ref t) (.ref sl)) Q E s:=by
  have htake:sizeOk (.seq ((items.toList.drop (sIx items.size 0 lo)).take (sIx items.size items.size hi-sIx items.size 0 lo)).toArray):=by
    show ((items.toList.drop (sIx items.size 0 lo)).take (sIx items.size items.size hi-sIx items.size 0 lo)).toArray.size≤sizeLine
    rw[List.size_toArray,List.length_take,List.length_drop,Array.length_toList]
    omega
  have hj:sIx items.size items.size hi≤items.size:=ziY _ _ (Nat.le_refl _) hi
  obtain⟨os,hos,hcs,hds⟩:=id hs
  have hTs:s.TypeIs (.ref sl) "slice":=⟨os,hos,hcs⟩
  unfold getItem
  try with_reducible refine wpAny_holding ?_
  first|refine wpAny_bind (wpAny_pure ?_)|skip
  refine wpAny_bind (wpAny_sequenceKey ht.typeIs (by decide) ?_)
  refine wpAny_bind (wpAny_callSpecial?_slot (name:=Str.ofString "__getitem__") ht.typeIs PyProof.Rows.slot_tuple_getitem
    (wpAny_call_entry PyProof.Rows.slot_tuple_getitem ht.typeIs entry_tuple_getitem ?_ (args_tuple_getitem _ _)))
  show wpAny _ _ (Builtin.Tuple.tupleItemsOf (.ref t) >>= _) _ _ s
  refine wpAny_bind (tupleItemsOf_ ht ?_)
  refine wpAny_bind (wpAny_typeOf hTs ?_)
  rw[if_pos (by decide)]
  refine wpAny_bind (sliceApplied_gen hs pl pu ?_)
  have hno:¬((((sIx items.size 0 lo:Nat):Int) == 0 && (1:Int) == 1 && (sIx items.size items.size hi-sIx items.size 0 lo) == items.size)=true):=by
    intro q
    rw[Bool.and_eq_true,Bool.and_eq_true]at q
    have q1:((sIx items.size 0 lo:Nat):Int)=0:=eq_of_beq q.1.1
    have q2:sIx items.size items.size hi-sIx items.size 0 lo=items.size:=eq_of_beq q.2
    exact hw ⟨by omega,by omega⟩
  show wpAny _ _ (if (((sIx items.size 0 lo:Nat):Int) == 0 && (1:Int) == 1 && (sIx items.size items.size hi-sIx items.size 0 lo) == items.size)=true then _ else _) _ _ s
  rw[if_neg hno,zgr]
  first
    | exact wpAny_bind (m:=Builtin.Tuple.tupleExact _) (wpAny_newObj_type (wpAny_pure ⟨_,rfl,wpAny_pure h⟩) htake)
    | exact wpAny_bind (m:=Builtin.Tuple.tupleExact _) (wpAny_newObj_type (wpAny_bind (wpAny_pure (wpAny_pure ⟨_,rfl,wpAny_pure h⟩))) htake)
    | exact wpAny_bind (wpAny_bind (m:=Builtin.Tuple.tupleExact _) (wpAny_newObj_type (wpAny_pure (wpAny_pure ⟨_,rfl,wpAny_pure h⟩)) htake))
    | exact wpAny_bind (wpAny_bind (m:=Builtin.Tuple.tupleExact _) (wpAny_newObj_type (wpAny_pure ⟨_,rfl,wpAny_pure h⟩) htake))
end
end HT
namespace L2
open PySem PySem.Spec PyProof.Rows
abbrev TO:=St→Hp→(Option Int→Hp→Prop)→Prop
def PO (X:Cx) (e:Option Expr) (t:TO):Prop :=
  ∀ (pins:List (Addr × Obj)) (s:Shared) (σ:St) (H:Hp) (Q:Option Int→Hp→Prop),Inv X pins σ H s→t σ H Q →
    wpAny (model X.prog X.w) X.A (evalPart e X.env) (fun u s'=>∃ o H',Inv X pins σ H' s'∧IsPart u o∧Q o H') X.xe s
def zhu:TO:=fun _ H Q=>Q none H
def zjB (t:TE):TO:=fun σ H Q=>t σ H fun x H1=>∃ i,x=.int i∧Q (some i) H1
section
variable {X:Cx}{e:Expr}{te:TE}{lo hi:Option Expr}{tl th:TO}{pos p2:Pos}
theorem zaX:PO X none zhu:=by
  intro pins s σ H Q I h
  rw[evalPart_none]
  exact wpAny_pure ⟨none,H,I,.none,h⟩
theorem zaQ (h:PE X e te):PO X (some e) (zjB te):=by
  intro pins s σ H Q I hw
  rw[evalPart_some]
  refine thn (h pins s σ H _ I hw) fun u s1 ⟨x,H1,I1,r1,q1⟩=>?_
  obtain⟨i,rfl,q⟩:=q1
  obtain⟨t,rfl⟩:=r1
  exact⟨some i,H1,I1,.int i t,q⟩
def SlR (X:Cx) (r:V→Option Int→Option Int→Hp→VK→Prop):Prop :=
  ∀ (pins:List (Addr × Obj)) (s:Shared) (σ:St) (H:Hp) (x:V) (v vl vu:Value) (lo hi:Option Int) (sl:Addr) (Q:VK),Inv X pins σ H s→RelV x v→s.heap.IsSliceOf sl vl vu .none→IsPart vl lo→IsPart vu hi→r x lo hi H Q →
    ∃ T id,typeLookup (.type T) "__getitem__" = pure (some (.builtin id))∧s.TypeIs v T∧wpAny (model X.prog X.w) X.A (getItem v (.ref sl)) (EP X pins σ Q) X.xe s
def tSl (r:V→Option Int→Option Int→Hp→VK→Prop) (te:TE) (tl th:TO):TE:=fun σ H Q=>te σ H fun x H1=>tl σ H1 fun l H2=>th σ H2 fun u H3=>r x l u H3 Q
theorem zaP {r:V→Option Int→Option Int→Hp→VK→Prop}(hr:SlR X r) (he:PE X e te) (hl:PO X lo tl) (hu:PO X hi th):PE X (.Subscript e (.Slice lo hi none p2) pos) (tSl r te tl th):=by
  intro pins s σ H Q I h
  refine Subscript_ (thn (he pins s σ H _ I h) fun v s1 ⟨x,H1,I1,r1,q1⟩=>?_)
  refine wpAny_Slice (thn (hl pins s1 σ H1 _ I1 q1) fun vl s2 ⟨l,H2,I2,pl,q2⟩=>thn (hu pins s2 σ H2 _ I2 q2) fun vu s3 ⟨u,H3,I3,pu,q3⟩=>?_)
  rw[evalPart_none]
  refine wpAny_pure ?_
  have I4:Inv X pins σ H3 { s3 with heap:=s3.heap.push { cls:=.type "slice",data:=.fields #[vl,vu,.none] } }:=I3.kept (t':=s3.toks) fun b ob q=>Heap.get?_push_of_some _ q
  obtain⟨T,id,hT,ht,hg⟩:=hr pins { s3 with heap:=s3.heap.push { cls:=.type "slice",data:=.fields #[vl,vu,.none] } } σ H3 x v vl vu l u s3.heap.objs.size Q I4 r1 (Heap.IsSliceOf.new ..) pl pu q3
  show wpAny (model X.prog X.w) X.A (subscriptTail e (.Slice lo hi none p2) v (.ref s3.heap.objs.size)) (EP X pins σ Q) X.xe { s3 with heap:=s3.heap.push { cls:=.type "slice",data:=.fields #[vl,vu,.none] } }
  exact tail_any (ops:=[.ref s3.heap.objs.size,v]) ht hT hg (by with_unfolding_all rfl)
def cutV (xs:List V) (lo hi:Option Int):List V:=(xs.drop (HT.sIx xs.length 0 lo)).take (HT.sIx xs.length xs.length hi-HT.sIx xs.length 0 lo)
theorem zb6 (xs:List V) (lo hi:Option Int):(cutV xs lo hi).length≤xs.length:=by
  unfold cutV
  rw[List.length_take,List.length_drop]
  omega
def rSlT (K:PySem.W.Frag):V→Option Int→Option Int→Hp→VK→Prop:=fun x lo hi H Q=>∃ a xs,x=.ref a∧SqT K H a xs ∧
  ¬(HT.sIx xs.length 0 lo=0∧HT.sIx xs.length xs.length hi=xs.length)∧∀ p,H p=none→Q (.ref p) (upd H p (.tup (cutV xs lo hi)))
theorem ziX:SlR X (rSlT X.K):=by
  intro pins s σ H x v vl vu lo hi sl Q I rx hs pl pu h
  obtain⟨a,xs,rfl,hx,hw,q⟩:=h
  cases rx
  obtain⟨its,r,ht,hz⟩:=I.tuple hx
  have hlen:its.toArray.size=xs.length:=by rw[List.size_toArray];exact r.length.symm
  refine⟨"tuple",_,PyProof.Rows.slot_tuple_getitem.lookup,ht.typeIs,?_⟩
  refine HT.getItem_tuple_cut ht hs pl pu (by rw[hlen];exact hw) ?_ (by rw[hlen];exact hz)
  rw[hlen]
  refine⟨.ref s.heap.objs.size,_,I.laid (t':=s.toks) (o:=.tup (cutV xs lo hi)) (fun b ob q=>Heap.get?_push_of_some _ q) (Nat.le_refl _) ?_,rfl,q _ (I.hok.fresh (Nat.le_refl _))⟩
  exact⟨Nat.le_trans (zb6 xs lo hi) hz,_,(r.drop (HT.sIx xs.length 0 lo)).take (HT.sIx xs.length xs.length hi-HT.sIx xs.length 0 lo),TupX.new _ _⟩
def zjP (K:PySem.W.Frag):R2:=fun x y H Q=>∃ a b xs ys,x=.ref a∧y=.ref b∧SqT K H a xs∧SqT K H b ys∧xs≠[]∧xs.length+ys.length≤sizeLine ∧
  (ys=[]→Q (.ref a) H)∧(ys≠[]→∀ p,H p=none→Q (.ref p) (upd H p (.tup (xs++ys))))
theorem Vals.nil_iff {xs:List V}{us:List Value}(r:Vals xs us):us=[]↔xs=[]:=by
  cases r with
  | nil=>simp
  | cons _ _=>simp
theorem zh5:OpR X (binaryOp .Add) (zjP X.K):=by
  intro pins s σ H x y v u Q I rx ry h
  obtain⟨a,b,xs,ys,rfl,rfl,ha,hb,hx,hz,q1,q2⟩:=h
  cases rx
  cases ry
  obtain⟨its,r1,p1,_⟩:=I.tuple ha
  obtain⟨its2,r2,p2,_⟩:=I.tuple hb
  refine HT.cat_tup p1 p2 (fun z=>hx (r1.nil_iff.mp z)) (fun z=>⟨.ref a,H,I,rfl,q1 (r2.nil_iff.mp z)⟩) (fun z=>?_) (by rw[← r1.length,← r2.length];exact hz)
  refine⟨.ref s.heap.objs.size,_,I.laid (t':=s.toks) (o:=.tup (xs++ys)) (fun b ob q=>Heap.get?_push_of_some _ q) (Nat.le_refl _) ?_,rfl,q2 (fun w=>z (r2.nil_iff.mpr w)) _ (I.hok.fresh (Nat.le_refl _))⟩
  exact⟨by rw[List.length_append];exact hz,_,r1.append r2,TupX.new _ _⟩
end
def ixN (n:Nat) (i:Int):Option Nat:=if 0≤i then (if i<n then some i.toNat else none) else if -(n:Int)≤i then some (i+n).toNat else none
def atI {α:Type}(xs:List α) (i:Int):Option α:=(ixN xs.length i).bind fun j=>xs[j]?
theorem zbB {n:Nat}{i:Int}{j:Nat}(h:ixN n i=some j):seqIndex? i n=some j∧j<n∧-(n:Int)≤i∧i<n:=by
  unfold ixN at h
  by_cases h0:0≤i
  · rw[if_pos h0]at h
    by_cases h1:i<n
    · rw[if_pos h1]at h
      have e:i.toNat=j:=Option.some.inj h
      exact⟨by rw[seqIndex_of h0 h1,e],by omega,by omega,h1⟩
    · rw[if_neg h1]at h;cases h
  · rw[if_neg h0]at h
    by_cases h1:-(n:Int)≤i
    · rw[if_pos h1]at h
      have e:(i+n).toNat=j:=Option.some.inj h
      exact⟨by rw[seqIndex_neg (by omega) h1,e],by omega,h1,by omega⟩
    · rw[if_neg h1]at h;cases h
theorem zgb {α:Type}{xs:List α}{i:Int}{v:α}(h:atI xs i=some v):∃ j,seqIndex? i xs.length=some j∧xs[j]?=some v∧j<xs.length∧-(xs.length:Int)≤i∧i<xs.length:=by
  unfold atI at h
  cases e:ixN xs.length i with
  | none=>rw[e]at h;cases h
  | some j =>
    rw[e]at h
    obtain⟨h1,h2,h3,h4⟩:=zbB e
    exact⟨j,h1,h,h2,h3,h4⟩
theorem zaJ {α:Type}{xs:List α}{j:Nat}{v:α}(h:xs[j]?=some v):atI xs (j:Int)=some v:=by
  have hj:j<xs.length:=(List.getElem?_eq_some_iff.mp h).1
  have e:ixN xs.length (j:Int)=some j:=by
    unfold ixN
    rw[if_pos (by omega),if_pos (by omega)];simp
  unfold atI;rw[e];exact h
theorem zha {α:Type}(xs:List α) (v:α):atI (xs++[v]) (-1)=some v:=by
  have hl:(xs++[v]).length=xs.length+1:=by simp
  have e:ixN (xs++[v]).length (-1)=some xs.length:=by
    unfold ixN
    rw[hl,if_neg (by decide),if_pos (by omega)]
    congr 1
    omega
  unfold atI
  rw[e]
  show (xs++[v])[xs.length]?=some v
  simp
def PlainIx (b:Expr):Prop:=∀ o i,subscripted b false o i=operate [o,i] (getItem o i)
def IxR (X:Cx) (r:R2):Prop :=
  ∀ (value slice:Expr) (pins:List (Addr × Obj)) (s:Shared) (σ:St) (H:Hp) (x y:V) (v u:Value) (Q:VK),Inv X pins σ H s→RelV x v→RelV y u→r x y H Q →
    subscripted slice false v u=operate [v,u] (getItem v u)→wpAny (model X.prog X.w) X.A (subscriptTail value slice v u) (EP X pins σ Q) X.xe s
def MtR (X:Cx) (id:String) (r:V→List V→Hp→VK→Prop):Prop :=
  ∀ (pins:List (Addr × Obj)) (s:Shared) (σ:St) (H:Hp) (x:V) (xs:List V) (v:Value) (us:List Value) (Q:VK),Inv X pins σ H s→RelV x v→Vals xs us→r x xs H Q →
    wpAny (model X.prog X.w) X.A (call (.builtin id) (v::us)) (EP X pins σ Q) X.xe s
section
variable {X:Cx}{a b:Expr}{ta tb:TE}{pos:Pos}
theorem zaq {r:R2}(hr:IxR X r) (ha:PE X a ta) (hb:PE X b tb) (hs:PlainIx b):PE X (.Subscript a b pos) (tOp r ta tb):=by
  intro pins s σ H Q I h
  exact Subscript_ (binT ha hb I h fun v u s2 x y H2 I2 rx ry q=>hr a b pins s2 σ H2 x y v u Q I2 rx ry q (hs _ _))
def rIxL (K:PySem.W.Frag):R2:=fun x y H Q=>∃ p xs i v,x=.ref p∧y=.int i∧SqL K H p xs∧atI xs i=some v∧Q v H
def rIxT (K:PySem.W.Frag):R2:=fun x y H Q=>∃ p xs i v,x=.ref p∧y=.int i∧SqT K H p xs∧atI xs i=some v∧Q v H
theorem zaK:IxR X (rIxL X.K):=by
  intro value slice pins s σ H x y v u Q I rx ry h hs
  obtain⟨p,xs,i,z,rfl,rfl,hq,he,q⟩:=h
  cases rx
  obtain⟨t,rfl⟩:=ry
  obtain⟨its,r,pl,hz⟩:=I.list hq
  obtain⟨j,h1,h2,h3,h4,h5⟩:=zgb he
  obtain⟨w,ew,rw'⟩:=r.get h2
  have hl:=r.length
  have hn:=zdc
  have fin:EP X pins σ Q w s:=⟨z,H,I,rw',q⟩
  by_cases h0:0≤i
  · have hj:i.toNat=j:=by
      rw[seqIndex_of h0 h5]at h1
      exact Option.some.inj h1
    exact item_listR pl.isList h0 (by omega) (by rw[hj];simpa using ew) fin hs
  · have hj:(i+(its.toArray.size:Int)).toNat=j:=by
      rw[seqIndex_neg (by omega) h4]at h1
      rw[List.size_toArray,← hl]
      exact Option.some.inj h1
    exact subscriptTail_builtinR (x:=w) pl.isList.typeIs slot_list_getitem.lookup
      (wpAny_getItem_list_neg (Q:=fun r s'=>r=w∧EP X pins σ Q r s') pl.isList (by omega) (by rw[List.size_toArray]<;>omega) (by omega) (by rw[hj];simpa using ew) ⟨rfl,fin⟩) hs
theorem zam:IxR X (rIxT X.K):=by
  intro value slice pins s σ H x y v u Q I rx ry h hs
  obtain⟨p,xs,i,z,rfl,rfl,hq,he,q⟩:=h
  cases rx
  obtain⟨t,rfl⟩:=ry
  obtain⟨its,r,pl,hz⟩:=I.tuple hq
  obtain⟨j,h1,h2,h3,h4,h5⟩:=zgb he
  obtain⟨w,ew,rw'⟩:=r.get h2
  have hl:=r.length
  have hn:=zdc
  have fin:EP X pins σ Q w s:=⟨z,H,I,rw',q⟩
  exact subscriptTail_builtinR (x:=w) pl.typeIs slot_tuple_getitem.lookup
    (getItem_tuple (j:=j) (Q:=fun r s'=>r=w∧EP X pins σ Q r s') pl (by omega) (by omega) (by rw[List.size_toArray,← hl];exact h1) (by simpa using ew) ⟨rfl,fin⟩) hs
theorem zeB (its:List Value) (n j:Nat) (u:Value):Obj.mapSeq (·.setIfInBounds j u) { cls:=.type "list",data:=.seq its.toArray n }={ cls:=.type "list",data:=.seq (its.set j u).toArray n }:=by
  simp[Obj.mapSeq]
theorem Inv.lst {pins:List (Addr × Obj)}{σ:St}{H:Hp}{s:Shared}{p:Addr}{xs:List V}(I:Inv X pins σ H s) (h:H p=some (.lst xs)) :
    ∃ (its:List Value) (n:Nat),Vals xs its∧s.heap.get? p=some { cls:=.type "list",data:=.seq its.toArray n }∧xs.length≤sizeLine:=by
  obtain⟨z,its,n,r,e⟩:=I.hok p _ h
  exact⟨its,n,r,e,z⟩
theorem Inv.lstUpd {pins:List (Addr × Obj)}{σ:St}{H:Hp}{s:Shared}{p:Addr}{xs ys:List V}{its its':List Value}{n n':Nat}{f:Obj→Obj}(I:Inv X pins σ H s) (h:H p=some (.lst xs))
    (ho:s.heap.get? p=some { cls:=.type "list",data:=.seq its.toArray n }) (hf:f { cls:=.type "list",data:=.seq its.toArray n }={ cls:=.type "list",data:=.seq its'.toArray n' }) (r:Vals ys its') (hz:ys.length≤sizeLine) (t:Nat) :
    Inv X pins σ (upd H p (.lst ys)) { s with heap:=s.heap.update p f,toks:=t }:=by
  have e:(s.heap.update p f).get? p=some { cls:=.type "list",data:=.seq its'.toArray n' }:=by
    rw[Heap.get?_update_self f ho (by rw[hf]<;>rfl),hf]
  refine I.write (x:=p) (e:=p) (by rw[h];trivial) (.inl rfl) (fun b u hb q=>(Heap.get?_update_other _ _ (Ne.symm hb)).trans q) ⟨_,e⟩ ?_
  exact⟨hz,its',n',r,e⟩
def zjM:V→V→V→Hp→(Hp→Prop)→Prop:=fun o i v H Q=>∃ p xs k j,o=.ref p∧i=.int k∧H p=some (.lst xs)∧ixN xs.length k=some j∧Q (upd H p (.lst (xs.set j v)))
theorem zbf:PSet X zjM:=by
  intro pins s σ H o i v ov iv u Q I ro ri rv h
  obtain⟨p,xs,k,j,rfl,rfl,hp,hj,q⟩:=h
  cases ro
  obtain⟨t,rfl⟩:=ri
  obtain⟨its,n,r,ho,hz⟩:=I.lst hp
  obtain⟨h1,h2,h3,h4⟩:=zbB hj
  have hl:=r.length
  have hn:=zdc
  have I':Inv X pins σ (upd H p (.lst (xs.set j v))) { s with heap:=s.heap.update p (Obj.mapSeq (·.setIfInBounds j u)) } :=
    I.lstUpd hp ho (zeB its n j u) (r.set rv j) (by rw[List.length_set];exact hz) s.toks
  by_cases h0:0≤k
  · have hk:k.toNat=j:=by
      rw[seqIndex_of h0 h4]at h1
      exact Option.some.inj h1
    exact PySem.W.ki_setAt ho h0 (by omega) (by rw[List.size_toArray,← hl];exact h4) (by rw[hk];exact⟨_,I',q⟩)
  · have hk:(k+(its.toArray.size:Int)).toNat=j:=by
      rw[seqIndex_neg (by omega) h3]at h1
      rw[List.size_toArray,← hl]
      exact Option.some.inj h1
    exact PySem.W.ki_setBack ho (by omega) (by rw[List.size_toArray,← hl];exact h3) (by omega) (by rw[hk];exact⟨_,I',q⟩)
theorem zc1 (lo hi:Option Int) (n:Nat):(sliceBounds lo hi none n).1=((HT.sIx n 0 lo:Nat):Int)∧(sliceBounds lo hi none n).2.1=((HT.sIx n n hi:Nat):Int)∧(sliceBounds lo hi none n).2.2=1:=by
  refine⟨?_,?_,rfl⟩
  · cases lo with
    | none=>simp[sliceBounds,HT.sIx]
    | some i =>
      simp only[sliceBounds,HT.sIx,Option.getD_none,show (1:Int) > 0 by decide,if_true]
      by_cases h:i<0
      · simp only[h,if_true]<;>omega
      · simp only[h,if_false]<;>omega
  · cases hi with
    | none=>simp[sliceBounds,HT.sIx]
    | some i =>
      simp only[sliceBounds,HT.sIx,Option.getD_none,show (1:Int) > 0 by decide,if_true]
      by_cases h:i<0
      · simp only[h,if_true]<;>omega
      · simp only[h,if_false]<;>omega
theorem zcA (its:List Value) (lo hi:Option Int):slicePick its.toArray lo hi none=((its.drop (HT.sIx its.length 0 lo)).take (HT.sIx its.length its.length hi-HT.sIx its.length 0 lo)).toArray:=by
  obtain⟨h1,h2,h3⟩:=zc1 lo hi its.toArray.size
  unfold slicePick
  rw[h1,h2,h3]
  simp only[sliceRange_one,pick_run,List.size_toArray]<;>rfl
def rSlL (K:PySem.W.Frag):V→Option Int→Option Int→Hp→VK→Prop:=fun x lo hi H Q=>∃ a xs,x=.ref a∧SqL K H a xs∧∀ p,H p=none→Q (.ref p) (upd H p (.lst (cutV xs lo hi)))
theorem zdF:SlR X (rSlL X.K):=by
  intro pins s σ H x v vl vu lo hi sl Q I rx hs pl pu h
  obtain⟨a,xs,rfl,hx,q⟩:=h
  cases rx
  obtain⟨its,r,ht,hz⟩:=I.list hx
  have hlen:=r.length
  refine⟨"list",_,slot_list_getitem.lookup,ht.isList.typeIs,?_⟩
  refine wpAny_getItem_list_slice ht.isList hs pl pu .none (by simp) ?_ (by rw[List.size_toArray]<;>omega)
  rw[zcA,← hlen]
  refine⟨.ref s.heap.objs.size,_,I.laid (t':=s.toks) (o:=.lst (cutV xs lo hi)) (fun b ob q=>Heap.get?_push_of_some _ q) (Nat.le_refl _) ?_,rfl,q _ (I.hok.fresh (Nat.le_refl _))⟩
  exact⟨Nat.le_trans (zb6 xs lo hi) hz,_,0,(r.drop (HT.sIx xs.length 0 lo)).take (HT.sIx xs.length xs.length hi-HT.sIx xs.length 0 lo),Heap.get?_push_size _ rfl⟩
def zcR:V→Bool
  | .non=>true
  | .bl _=>true
  | .int _=>true
  | .str _=>true
  | _=>false
def eqV:V→V→Bool
  | .non,.non=>true
  | .bl a,.bl b=>a == b
  | .bl a,.int b=>(if a then 1 else 0) == b
  | .int a,.bl b=>a == (if b then 1 else 0)
  | .int a,.int b=>a == b
  | .str a,.str b=>a == b
  | _,_=>false
theorem zfU {A:Around}{s:Shared}{y x:V}{u v:Value}(ry:RelV y u) (rx:RelV x v) (fy:zcR y=true) (fx:zcR x=true):SeqAt.EqAt A s u v (eqV y x):=by
  cases y with
  | non =>
    cases ry
    cases x with
    | non=>cases rx;exact SeqAt.EqAt.same _
    | bl b=>cases rx;exact SeqAt.EqAt.none_bool b
    | int b=>obtain⟨t,rfl⟩:=rx;exact SeqAt.EqAt.none_int b t
    | str b=>obtain⟨t,rfl⟩:=rx;exact SeqAt.EqAt.none_str b t
    | _=>exact absurd (show false=true from fx) Bool.false_ne_true
  | bl a =>
    cases ry
    cases x with
    | non=>cases rx;exact SeqAt.EqAt.bool_none a
    | bl b=>cases rx;exact SeqAt.EqAt.bool_bool a b
    | int b=>obtain⟨t,rfl⟩:=rx;exact SeqAt.EqAt.bool_int a b t
    | str b=>obtain⟨t,rfl⟩:=rx;exact SeqAt.EqAt.bool_str a b t
    | _=>exact absurd (show false=true from fx) Bool.false_ne_true
  | int a =>
    obtain⟨t',rfl⟩:=ry
    cases x with
    | non=>cases rx;exact SeqAt.EqAt.int_none a t'
    | bl b=>cases rx;exact SeqAt.EqAt.int_bool a t' b
    | int b=>obtain⟨t,rfl⟩:=rx;exact SeqAt.EqAt.int_int a t' b t
    | str b=>obtain⟨t,rfl⟩:=rx;exact SeqAt.EqAt.int_str a t' b t
    | _=>exact absurd (show false=true from fx) Bool.false_ne_true
  | str a =>
    obtain⟨t',rfl⟩:=ry
    cases x with
    | non=>cases rx;exact SeqAt.EqAt.str_none a t'
    | bl b=>cases rx;exact SeqAt.EqAt.str_bool a t' b
    | int b=>obtain⟨t,rfl⟩:=rx;exact SeqAt.EqAt.str_int a t' b t
    | str b=>obtain⟨t,rfl⟩:=rx;exact SeqAt.EqAt.str_str a t' b t
    | _=>exact absurd (show false=true from fx) Bool.false_ne_true
  | _=>exact absurd (show false=true from fy) Bool.false_ne_true
def eqU (x:V) (u:Value):Bool:=match u with
  | .none=>eqV .non x
  | .bool b=>eqV (.bl b) x
  | .int i _=>eqV (.int i) x
  | .str z _=>eqV (.str z) x
  | _=>false
theorem zhm {x y:V}{u:Value}(r:RelV y u) (f:zcR y=true):eqU x u=eqV y x:=by
  cases y with
  | non=>cases r;rfl
  | bl b=>cases r;rfl
  | int i=>obtain⟨t,rfl⟩:=r;rfl
  | str z=>obtain⟨t,rfl⟩:=r;rfl
  | _=>exact absurd (show false=true from f) Bool.false_ne_true
theorem zb8 {x:V}:∀ {xs:List V}{us:List Value},Vals xs us→xs.all zcR=true→us.any (eqU x)=xs.any fun y=>eqV y x
  | _,_,.nil,_=>rfl
  | y::xs,u::us,.cons r t,f=>by
    rw[List.all_cons,Bool.and_eq_true]at f
    rw[List.any_cons,List.any_cons,zhm r f.1,zb8 t f.2]
theorem zbx {A:Around}{s:Shared}{x:V}{v:Value}(rx:RelV x v) (fx:zcR x=true):∀ {xs:List V}{us:List Value},Vals xs us→xs.all zcR=true→∀ u∈us,SeqAt.EqAt A s u v (eqU x u)
  | _,_,.nil,_=>fun u hu=>by cases hu
  | y::xs,u::us,.cons r t,f=>fun u' hu=>by
    rw[List.all_cons,Bool.and_eq_true]at f
    rcases List.mem_cons.mp hu with rfl|hu
    · rw[zhm r f.1];exact zfU r rx f.1 fx
    · exact zbx rx fx t f.2 u' hu
def inV (x:V) (xs:List V):Bool:=xs.any fun y=>eqV y x
def rIn (K:PySem.W.Frag) (neg:Bool):R2:=fun x y H Q=>∃ p xs,y=.ref p∧(SqL K H p xs∨SqT K H p xs)∧zcR x=true∧xs.all zcR=true∧Q (.bl (if neg then !inV x xs else inV x xs)) H
theorem zfl:OpR X (compareOp .In) (rIn X.K false):=by
  intro pins s σ H x y v u Q I rx ry h
  obtain⟨p,xs,rfl,hq,fx,fs,q⟩:=h
  cases ry
  rcases hq with hq|hq
  · obtain⟨its,r,pl,hz⟩:=I.list hq
    refine SeqAt.in_listAt (eqU x) pl.isList (fun w hw=>zbx rx fx r fs w (by simpa using hw)) ⟨.bl _,H,I,rfl,?_⟩
    rw[show its.toArray.any (eqU x)=its.any (eqU x) by simp,zb8 r fs]
    exact q
  · obtain⟨its,r,pl,hz⟩:=I.tuple hq
    refine SeqAt.in_tupleAt (eqU x) pl (fun w hw=>zbx rx fx r fs w (by simpa using hw)) ⟨.bl _,H,I,rfl,?_⟩
    rw[show its.toArray.any (eqU x)=its.any (eqU x) by simp,zb8 r fs]
    exact q
theorem zda:OpR X (compareOp .NotIn) (rIn X.K true):=by
  intro pins s σ H x y v u Q I rx ry h
  obtain⟨p,xs,rfl,hq,fx,fs,q⟩:=h
  cases ry
  rcases hq with hq|hq
  · obtain⟨its,r,pl,hz⟩:=I.list hq
    refine SeqAt.notIn_listAt (eqU x) pl.isList (fun w hw=>zbx rx fx r fs w (by simpa using hw)) ⟨.bl _,H,I,rfl,?_⟩
    rw[show its.toArray.any (eqU x)=its.any (eqU x) by simp,zb8 r fs]
    exact q
  · obtain⟨its,r,pl,hz⟩:=I.tuple hq
    refine SeqAt.notIn_tupleAt (eqU x) pl (fun w hw=>zbx rx fx r fs w (by simpa using hw)) ⟨.bl _,H,I,rfl,?_⟩
    rw[show its.toArray.any (eqU x)=its.any (eqU x) by simp,zb8 r fs]
    exact q
theorem zao:CallR X (.builtin "len") (fun xs H Q=>∃ p ys,xs=[.ref p]∧(SqL X.K H p ys∨SqT X.K H p ys)∧Q (.int ys.length) H):=by
  intro pins s σ H xs us Q I r h
  obtain⟨p,ys,rfl,hq,q⟩:=h
  obtain⟨u,rfl,rx⟩:=zen r
  cases rx
  have hn:=zdc
  rcases hq with hq|hq
  · obtain⟨its,r',pl,hz⟩:=I.list hq
    have hlen:=r'.length
    exact Calls.call_len_list pl.isList (by simp only[List.size_toArray]<;>omega) ⟨.int ys.length,H,I.tok _,⟨s.toks+1,by rw[List.size_toArray,hlen]⟩,q⟩
  · obtain⟨its,r',pl,hz⟩:=I.tuple hq
    have hlen:=r'.length
    exact len_tuple pl (by simp only[List.size_toArray]<;>omega) ⟨.int ys.length,H,I.tok _,⟨s.toks+1,by rw[List.size_toArray,hlen]⟩,q⟩
theorem zdm:CallR X (.type "list") (fun xs H Q=>∃ p ys,xs=[.ref p]∧(SqL X.K H p ys∨SqT X.K H p ys)∧∀ l,H l=none→Q (.ref l) (upd H l (.lst ys))):=by
  intro pins s σ H xs us Q I r h
  obtain⟨p,ys,rfl,hq,q⟩:=h
  obtain⟨u,rfl,rx⟩:=zen r
  cases rx
  have fin:∀ (its:List Value),Vals ys its→ys.length≤sizeLine→∀ (h':Heap) (c':Nat),(∀ b o',s.heap.get? b=some o'→h'.get? b=some o') →
      h'.get? s.heap.objs.size=some { cls:=.type "list",dict:=none,data:=.seq its.toArray c',slots:=#[] }→EP X pins σ Q (.ref s.heap.objs.size) { s with heap:=h' }:=fun its r' hz h' c' kp e =>
    ⟨.ref s.heap.objs.size,_,I.laid (t':=s.toks) kp (Nat.le_refl _) (show ObjOk X.prog X.w _ h' _ (.lst ys) from⟨hz,its,c',r',e⟩),rfl,q _ (I.hok.fresh (Nat.le_refl _))⟩
  rcases hq with hq|hq
  · obtain⟨its,r',pl,hz⟩:=I.list hq
    have hlen:=r'.length
    obtain⟨o,ho,hc,n,hd⟩:=pl.isList
    exact call_list_seq p (.inl rfl) ho hc hd (fun h' c' kp e=>fin its r' hz h' c' kp e) (by simp only[List.size_toArray]<;>omega)
  · obtain⟨its,r',pl,hz⟩:=I.tuple hq
    have hlen:=r'.length
    obtain⟨o,ho,hc,n,hd⟩:=pl
    exact call_list_seq p (.inr rfl) ho hc hd (fun h' c' kp e=>fin its r' hz h' c' kp e) (by simp only[List.size_toArray]<;>omega)
theorem zaH:CallR X (.type "tuple") (fun xs H Q=>∃ p ys,xs=[.ref p]∧((SqL X.K H p ys∧∀ l,H l=none→Q (.ref l) (upd H l (.tup ys)))∨(SqT X.K H p ys∧Q (.ref p) H))):=by
  intro pins s σ H xs us Q I r h
  obtain⟨p,ys,rfl,h⟩:=h
  obtain⟨u,rfl,rx⟩:=zen r
  cases rx
  rcases h with ⟨hq,q⟩|⟨hq,q⟩
  · obtain⟨its,r',pl,hz⟩:=I.list hq
    have hlen:=r'.length
    refine call_tuple_list pl.isList (fun h' kp=>?_) (by simp only[List.size_toArray]<;>omega)
    have I1:Inv X pins σ H { s with heap:=h' }:=I.kept (t':=s.toks) kp
    have I2:Inv X pins σ (upd H h'.objs.size (.tup ys)) { s with heap:=h'.push { cls:=.type "tuple",data:=.seq its.toArray } } :=
      I1.laid (t':=s.toks) (fun b o e=>Heap.get?_push_of_some _ e) (Nat.le_refl _) (show ObjOk X.prog X.w _ _ _ (.tup ys) from⟨hz,its,r',TupX.new _ _⟩)
    exact⟨.ref h'.objs.size,_,I2,rfl,q _ (I1.hok.fresh (Nat.le_refl _))⟩
  · obtain⟨its,r',pl,hz⟩:=I.tuple hq
    exact call_tuple_same pl ⟨.ref p,H,I,rfl,q⟩
def tyV (K:PySem.W.Frag) (T:String) (x:V) (H:Hp):Prop:=match x with
  | .str _=>T = "str"
  | .int _=>T = "int"
  | .ref p=>(T = "list"∧∃ xs,SqL K H p xs)∨(T = "tuple"∧∃ o,K.lookup p=some o∧o.cls=.type "tuple"∧o.dict=none) ∨
      (T = "dict"∧((∃ kvs,H p=some (.dK kvs))∨∃ kvs,H p=some (.dT kvs)))∨(T = "set"∧∃ S n,H p=some (.set S n))
  | _=>False
theorem ziO {pins:List (Addr × Obj)}{σ:St}{H:Hp}{s:Shared}{T:String}{x:V}{v:Value}(I:Inv X pins σ H s) (r:RelV x v) (ty:tyV X.K T x H) :
    s.TypeIs v T∧∀ a,v=.ref a→∃ ob,s.heap.get? a=some ob∧ob.dict=none:=by
  cases x with
  | str z =>
    obtain⟨t,rfl⟩:=r
    cases (show T = "str" from ty)
    exact⟨typeIs_str s z t,fun _ e=>nomatch e⟩
  | int i =>
    obtain⟨t,rfl⟩:=r
    cases (show T = "int" from ty)
    exact⟨typeIs_int s i t,fun _ e=>nomatch e⟩
  | ref p =>
    cases r
    rcases ty with ⟨rfl,xs,hq⟩|⟨rfl,o,hk,hc,hd⟩|⟨rfl,hk⟩|⟨rfl,S,n,hk⟩
    · obtain⟨its,_,pl,_⟩:=I.list hq
      refine⟨pl.isList.typeIs,fun a e=>?_⟩
      cases e
      obtain⟨o,n,e,c,hd,_⟩:=pl
      exact⟨o,e,hd⟩
    · refine⟨⟨o,I.kIn p o hk,hc⟩,fun a e=>?_⟩
      cases e
      exact⟨o,I.kIn _ o hk,hd⟩
    · have z:∃ o,s.heap.get? p=some o∧o.ExactDict:=by
        rcases hk with ⟨kvs,hk⟩|⟨kvs,hk⟩
        · obtain⟨_,_,_,_,o,_,_,e,ex,_⟩:=I.hok p _ hk
          exact⟨o,e,ex⟩
        · obtain⟨_,_,_,_,o,_,_,e,ex,_⟩:=I.hok p _ hk
          exact⟨o,e,ex⟩
      obtain⟨o,e,ex⟩:=z
      refine⟨⟨o,e,ex.1⟩,fun a e2=>?_⟩
      cases e2
      exact⟨o,e,ex.2.1⟩
    · obtain⟨o,_,_,_,e,ex,_⟩:=I.hok p _ hk
      refine⟨⟨o,e,ex.1⟩,fun a e2=>?_⟩
      cases e2
      exact⟨o,e,ex.2.1⟩
  | _=>exact False.elim ty
def tBM (K:PySem.W.Frag) (T:String) (r:V→List V→Hp→VK→Prop) (to:TE) (t:TA):TE:=fun σ H Q=>to σ H fun x H1=>tyV K T x H1∧t σ H1 fun xs H2=>r x xs H2 Q
variable {o e:Expr}{es:List Expr}{to:TE}{t:TA}{name:Str}{apos cpos:Pos}{T id:String}{r:V→List V→Hp→VK→Prop}
theorem zcG (pa:PlainAttrs T) (slot:Slot T name id) (hty:typeOf (.builtin id)=pure (.type "method_descriptor")) (hm:MtR X id r) (ho:PE X o to) (ha:PA X (e::es) t)
    (hbase:attributeBase o name X.env (eval o X.env)=eval o X.env:=by rfl)
    (hfew:((backTo cpos (starEach (e::es) X.env)).all (fun x=>!x.1) && (backToKw cpos (keywordEach [] X.env)).all (fun x=>x.1.isSome)
      && decide ((e::es).length+([]:List Keyword).length+(if ([]:List Keyword).isEmpty then 0 else 1)<30))=true:=by rfl)
    (hline:(apos.endLine == cpos.line)=true:=by rfl) (hs:starEach (e::es) X.env=(false,eval e X.env)::starEach es X.env:=by rfl) (hplain:(backTo cpos (starEach es X.env)).any (·.1)=false:=by rfl) :
    PE X (.Call (.Attribute o name apos) (e::es) [] cpos) (tBM X.K T r to t):=by
  intro pins s σ H Q I h
  refine wpAny_Call_method_late hbase hfew hline rfl (thn (ho pins s σ H _ I h) fun v s1 ⟨x,H1,I1,r1,ty,q1⟩=>?_)
  obtain⟨h1,h2⟩:=ziO I1 r1 ty
  refine⟨T,id,pa,slot,hty,h1,h2,?_⟩
  have hA:=ha cpos pins s1 σ H1 _ I1 q1
  rw[hs]at hA ⊢
  refine Calls.callWith_builtin (by show (false || (backTo cpos (starEach es X.env)).any (·.1))=false;rw[hplain]<;>rfl) (Calls.evalArgs_plain ?_)
  exact thn hA fun us s2 ⟨vs,H2,I2,r2,q2⟩=>hm pins s2 σ H2 x vs v us Q I2 r1 r2 q2
end
def MtM (X:Cx) (id:String) (r:V→List V→Hp→VK→Prop):Prop :=
  ∀ (pins:List (Addr × Obj)) (s:Shared) (σ:St) (H:Hp) (x:V) (xs:List V) (v:Value) (us:List Value) (Q:VK),Inv X pins σ H s→RelV x v→Vals xs us→r x xs H Q →
    wpAny (model X.prog X.w) X.A (call (.builtin id) (v::us)) (EP X pins σ Q) X.xe s
theorem Vals.one:∀ {x:V}{us:List Value},Vals [x] us→∃ u,us=[u]∧RelV x u
  | _,_,.cons r .nil=>⟨_,rfl,r⟩
theorem Vals.two:∀ {x y:V}{us:List Value},Vals [x,y] us→∃ u v,us=[u,v]∧RelV x u∧RelV y v
  | _,_,_,.cons r (.cons q .nil)=>⟨_,_,rfl,r,q⟩
theorem Vals.eraseIdx:∀ {xs:List V}{us:List Value}(i:Nat),Vals xs us→Vals (xs.eraseIdx i) (us.eraseIdx i)
  | _,_,_,.nil=>.nil
  | _,_,0,.cons _ t=>t
  | _,_,i+1,.cons r t=>.cons r (Vals.eraseIdx i t)
theorem Vals.rep {xs:List V}{us:List Value}(h:Vals xs us):∀ k:Nat,Vals (List.replicate k xs).flatten (List.replicate k us).flatten
  | 0=>.nil
  | k+1=>by
    rw[List.replicate_succ,List.replicate_succ,List.flatten_cons,List.flatten_cons]
    exact Vals.append h (Vals.rep h k)
theorem zdd {α:Type}:∀ (l:List α) (i:Nat),(l.eraseIdx i).length≤l.length
  | [],_=>Nat.le_refl _
  | _::_,0=>Nat.le_succ _
  | _::r,i+1=>Nat.succ_le_succ (zdd r i)
theorem zdh (its:List Value):∀ (k:Nat) (acc:List Value),
    List.foldl (fun x1 x2=>x1++x2) acc.toArray (List.replicate k its.toArray)=(acc++(List.replicate k its).flatten).toArray
  | 0,acc=>by simp
  | k+1,acc=>by
    have e:acc.toArray++its.toArray=(acc++its).toArray:=by simp
    have e2:(acc++its)++(List.replicate k its).flatten=acc++(List.replicate (k+1) its).flatten:=by
      rw[List.replicate_succ,List.flatten_cons,List.append_assoc]
    rw[← e2,← zdh its k (acc++its),← e,List.replicate_succ,List.foldl_cons]
section
variable {X:Cx}{pins:List (Addr × Obj)}{σ:St}{H:Hp}{s:Shared}{l b:Addr}{xs ys zs:List V}
theorem Inv.lset {its its':List Value}{n:Nat}{f:Array Value→Array Value}{t':Nat}(I:Inv X pins σ H s) (hH:H l=some (.lst xs))
    (e:s.heap.get? l=some { cls:=.type "list",data:=.seq its.toArray n }) (hf:f its.toArray=its'.toArray) (hv:Vals ys its') (hz:ys.length≤sizeLine) :
    Inv X pins σ (upd H l (.lst ys)) { s with heap:=s.heap.update l (Obj.mapSeq f),toks:=t' }:=by
  have q:=PySem.IsL.update e f
  rw[hf]at q
  refine I.write (x:=l) (e:=l) (by rw[hH];exact trivial) (.inl rfl) (fun b' u hb hu=>(Heap.get?_update_other s.heap (Obj.mapSeq f) (Ne.symm hb)).trans hu) ⟨_,q⟩ ?_
  exact⟨hz,its',_,hv,q⟩
theorem Inv.lnew {its:List Value}{t':Nat}(I:Inv X pins σ H s) (hv:Vals ys its) (hz:ys.length≤sizeLine) :
    Inv X pins σ (upd H s.heap.objs.size (.lst ys)) { s with heap:=s.heap.push { cls:=.type "list",data:=.seq its.toArray },toks:=t' } :=
  I.laid (fun _ _ q=>Heap.get?_push_of_some _ q) (Nat.le_refl _) ⟨hz,its,0,hv,Heap.get?_push_size _ rfl⟩
theorem Inv.fresh (I:Inv X pins σ H s):H s.heap.objs.size=none:=I.hok.fresh (Nat.le_refl _)
theorem Inv.lstM (I:Inv X pins σ H s) (hH:H l=some (.lst xs)):xs.length≤sizeLine∧∃ (its:List Value) (n:Nat),Vals xs its∧xs.length=its.length∧s.heap.get? l=some { cls:=.type "list",data:=.seq its.toArray n }:=by
  obtain⟨z,its,n,r,e⟩:=I.hok l _ hH
  exact⟨z,its,n,r,r.length,e⟩
theorem zed {n:Nat}(h:n≤sizeLine):Builtin.List.listTooLong n=false:=by
  unfold Builtin.List.listTooLong
  exact decide_eq_false (by omega)
end
section
variable {X:Cx}
def rAppend:V→List V→Hp→VK→Prop:=fun x vs H Q=>∃ l xs y,x=.ref l∧vs=[y]∧H l=some (.lst xs)∧xs.length<sizeLine∧Q .non (upd H l (.lst (xs++[y])))
theorem zbw:MtM X "list.append" rAppend:=by
  intro pins s σ H x vs v us Q I rx rv h
  obtain⟨l,xs,y,rfl,rfl,hH,hz,q⟩:=h
  cases rx
  obtain⟨u,rfl,ru⟩:=rv.one
  obtain⟨z,its,n,r,hl,e⟩:=I.lstM hH
  refine call_meets F.slot_list_append ⟨_,e,rfl⟩ F.entry_list_append (F.args_list_append_2 _ _) (PySem.list_append l its.toArray n u (by rw[List.size_toArray];omega)) ⟨e,?_⟩
  refine⟨.non,_,I.lset (its':=its++[u]) hH e (by simp) (r.append (.cons ru .nil)) ?_,rfl,q⟩
  rw[List.length_append,List.length_singleton]
  omega
def rExtend:V→List V→Hp→VK→Prop:=fun x vs H Q=>∃ l b xs zs,x=.ref l∧vs=[.ref b]∧H l=some (.lst xs)∧H b=some (.lst zs)∧xs.length+zs.length≤sizeLine∧Q .non (upd H l (.lst (xs++zs)))
theorem zfx:MtM X "list.extend" rExtend:=by
  intro pins s σ H x vs v us Q I rx rv h
  obtain⟨l,b,xs,zs,rfl,rfl,hH,hB,hz,q⟩:=h
  cases rx
  obtain⟨u,rfl,ru⟩:=rv.one
  cases ru
  obtain⟨z,its,n,r,hl,e⟩:=I.lstM hH
  obtain⟨z2,its2,n2,r2,hl2,e2⟩:=I.lstM hB
  have hsz:its.toArray.size+its2.toArray.size≤sizeLine:=by rw[List.size_toArray,List.size_toArray];omega
  have hlong:¬(!its.toArray.isEmpty && Builtin.List.listTooLong (its.toArray.size+its2.toArray.size))=true:=by
    rw[zed hsz,Bool.and_false]
    exact Bool.false_ne_true
  refine call_meets F.slot_list_extend ⟨_,e,rfl⟩ F.entry_list_extend (F.args_list_extend_2 _ _)
    (AutoSeq1.list_extend_list_list_0 l its.toArray n b its2.toArray n2 hlong (by rw[List.size_toArray];omega) (by omega)) ⟨e,e2,?_⟩
  refine⟨.non,_,I.lset (its':=its++its2) hH e (by simp) (r.append r2) ?_,rfl,q⟩
  rw[List.length_append]
  omega
def rPopAt:V→List V→Hp→VK→Prop:=fun x vs H Q=>∃ l xs i k y,x=.ref l∧vs=[.int i]∧H l=some (.lst xs)∧-(2 ^ 63)≤i∧i<2 ^ 63∧seqIndex? i xs.length=some k∧xs[k]?=some y∧Q y (upd H l (.lst (xs.eraseIdx k)))
theorem zbM:MtM X "list.pop" rPopAt:=by
  intro pins s σ H x vs v us Q I rx rv h
  obtain⟨l,xs,i,k,y,rfl,rfl,hH,h1,h2,hk,hy,q⟩:=h
  cases rx
  obtain⟨u,rfl,ru⟩:=rv.one
  obtain⟨t,rfl⟩:=ru
  obtain⟨z,its,n,r,hl,e⟩:=I.lstM hH
  obtain⟨w,hw,rw'⟩:=r.get hy
  refine call_meets F.slot_list_pop ⟨_,e,rfl⟩ F.entry_list_pop (F.args_list_pop_2 _ _)
    (MeetsSeq.list_pop_at l its.toArray n i t k w (fitsIndex_both h1 h2) (by rw[List.size_toArray,← hl];exact hk) (by rw[← Array.getElem?_toList];exact hw) (by rw[List.size_toArray];omega)) ⟨e,?_⟩
  refine⟨y,_,I.lset (its':=its.eraseIdx k) hH e ?_ (r.eraseIdx k) ?_,rw',q⟩
  · show its.toArray.eraseIdxIfInBounds k=(its.eraseIdx k).toArray
    rw[List.eraseIdxIfInBounds_toArray]
  · have:=zdd xs k
    omega
def rCat:R2:=fun x y H Q=>∃ l b xs zs,x=.ref l∧y=.ref b∧H l=some (.lst xs)∧H b=some (.lst zs)∧xs.length+zs.length≤sizeLine∧∀ p,H p=none→Q (.ref p) (upd H p (.lst (xs++zs)))
theorem zi9:OpR X (binaryOp .Add) rCat:=by
  intro pins s σ H x y v u Q I rx ry h
  obtain⟨l,b,xs,zs,rfl,rfl,hH,hB,hz,q⟩:=h
  cases rx
  cases ry
  obtain⟨z,its,n,r,hl,e⟩:=I.lstM hH
  obtain⟨z2,its2,n2,r2,hl2,e2⟩:=I.lstM hB
  refine PySem.P.add_list e e2 ?_ (by rw[List.size_toArray,List.size_toArray];omega)
  have ea:its.toArray++its2.toArray=(its++its2).toArray:=by simp
  rw[ea]
  exact⟨.ref _,_,I.lnew (t':=s.toks) (r.append r2) (by rw[List.length_append];omega),rfl,q _ I.fresh⟩
def rRep:R2:=fun x y H Q=>∃ l k xs,x=.ref l∧y=.int k∧H l=some (.lst xs)∧-(2 ^ 63)≤k∧k<2 ^ 63∧xs.length*k.toNat≤sizeLine ∧
  ∀ p,H p=none→Q (.ref p) (upd H p (.lst (List.replicate k.toNat xs).flatten))
theorem zil {α:Type}(xs:List α) (k:Nat):(List.replicate k xs).flatten.length=k*xs.length:=by
  induction k with
  | zero=>simp
  | succ k ih=>rw[List.replicate_succ,List.flatten_cons,List.length_append,ih,Nat.succ_mul,Nat.add_comm]
theorem zhg:OpR X (binaryOp .Mult) rRep:=by
  intro pins s σ H x y v u Q I rx ry h
  obtain⟨l,k,xs,rfl,rfl,hH,h1,h2,hz,q⟩:=h
  cases rx
  obtain⟨t,rfl⟩:=ry
  obtain⟨z,its,n,r,hl,e⟩:=I.lstM hH
  have hlen:its.toArray.size*k.toNat≤sizeLine:=by rw[List.size_toArray,← hl];exact hz
  have hcap:¬ its.toArray.size*k.toNat > (2 ^ 63-1) / 8:=by
    have:(sizeLine:Nat)≤(2 ^ 63-1) / 8:=by decide
    omega
  have hfit:¬(!Builtin.List.listFitsIndex k)=true:=by
    rw[fitsIndex_both h1 h2]
    exact Bool.false_ne_true
  have hlong:¬ Builtin.List.listTooLong (its.toArray.size*k.toNat)=true:=by
    rw[zed hlen]
    exact Bool.false_ne_true
  have hnew:List.foldl (fun x1 x2=>x1++x2) #[] (List.replicate (if its.toArray.isEmpty=true then 0 else k.toNat) its.toArray)=(List.replicate k.toNat its).flatten.toArray:=by
    have f0:∀ m:Nat,List.foldl (fun x1 x2=>x1++x2) #[] (List.replicate m its.toArray)=(List.replicate m its).flatten.toArray:=fun m=>by
      have:=zdh its m []
      rw[List.nil_append]at this
      exact this
    rw[f0]
    cases its with
    | nil=>simp
    | cons a r'=>rw[if_neg (by simp)]
  refine wpAny_binaryOp_repeat_ref (T:="list") (U:="int") (by decide) ⟨_,e,rfl⟩ (fun s'=>typeIs_int s' k t) noFill_list_mul F.fills_int_mul F.slot_int_rmul repeat_list F.slot_int_index.lookup
    (call_meets F.slot_int_rmul (typeIs_int s k t) F.entry_int_rmul (F.args_int_rmul_2 _ _) (int___rmul___int_list k t l its.toArray n)
      ⟨e,rfl,⟨_,e,rfl⟩,call_meets F.slot_list_mul ⟨_,e,rfl⟩ F.entry_list_mul (F.args_list_mul_2 _ _) (AutoListH.list___mul___list_int_3 l its.toArray n k t hfit hcap hlong) ⟨e,?_⟩⟩)
  rw[hnew]
  exact⟨.ref _,_,I.lnew (t':=s.toks) (r.rep k.toNat) (by rw[zil,Nat.mul_comm];exact hz),rfl,q _ I.fresh⟩
end
section
variable {prog:Program}{w:World}{A:Around}{E:Value→Shared→Prop}{s:Shared}
end
section
variable {X:Cx}
end
end L2
namespace Att
open PySem PySem.W PySem.Calls PyProof.Rows
theorem zbZ {P:Params}{h:Heap}:∀ (ns:List Int) (vs:List Value),WellAll P h vs (ns.map WData.int)→IntsAre vs ns:=by
  intro ns
  induction ns with
  | nil =>
    intro vs w
    rw[List.map_nil]at w
    cases w
    exact .nil
  | cons n ns ih =>
    intro vs w
    rw[List.map_cons]at w
    cases w with
    | cons a b =>
      cases a
      exact .cons _ _ (ih _ b)
theorem zeW {l:OpenLaw}{n:Nat}(hn:l.most=some n) {P:Params}{h:Heap}{args:List WData}{vals:List Value}
    (hpre:l.row.toRowW.claim.pre args=true) (hwl:WellAll P h vals args) :
    ∃ a vs ns,vals=[Value.ref a]∧args=[WData.list (ns.map WData.int)]∧h.get? a=some { cls:=.type "list",data:=.seq vs.toArray }∧IntsAre vs ns∧ns.length≤n:=by
  have hsh:WShape.hasAll [] args [.list .int]=true:=(pre_splitW hpre).1
  have hc:l.pre.holds [] { args:=args }=true:=(pre_splitW hpre).2
  obtain⟨d,r,rfl,h1,h2⟩:=hasAllW_cons hsh
  obtain rfl:=hasAllW_nil h2
  obtain⟨xs,rfl,h3⟩:=hasW_list h1
  obtain⟨ns,rfl⟩:=items_int h3
  have hlen:ns.length≤n:=by
    unfold OpenLaw.pre at hc
    have h4:(WTm.not (.lt (.lit (.int (n:Int))) (.len (.arg 0)))).holds [] { args:=[.list (ns.map .int)] }=true:=by
      have h4:=(holds_andW hc).1
      rw[hn]at h4
      exact h4
    have h5:=condW_of h4 (w_not (w_lt w_lit (w_len_list (w_arg rfl))))
    rw[List.length_map]at h5
    refine Nat.le_of_not_lt fun q=>?_
    have q':(n:Int)<((ns.length:Nat):Int):=by omega
    first
      | (rw[decide_eq_true q']at h5;exact absurd h5 (by decide))
      | (simp at h5;omega)
  cases hwl with
  | cons w1 w2 =>
    cases w2
    cases w1 with
    | list ho hall=>exact⟨_,_,ns,rfl,rfl,ho,zbZ ns _ hall,hlen⟩
theorem zfd (l:OpenLaw) (args:List WData):l.row.toRowW.claim.post args (.bool true) args=true :=
  postW_of (r:=l.row.toRowW) (X:=(true == true))
    (show WShape.has [] (.bool true) .bool=true by first|rfl|decide|simp[WShape.has,WShape.arms,WShape.armsAll])
    (show (WTm.eq .res (.lit (.bool true))).value [] { args:=args,res:=some (.bool true),after:=args }=some (.bool (true == true)) from w_eq_bool (w_res rfl) w_lit) rfl
theorem attach_call {l:OpenLaw}{n:Nat}{q:Program}{loose:List Str}{XP:(Str→Option Value)→Heap→Prop}{YP:World→Heap→Prop}{d:DefRec}
    (hn:l.most=some n) (hdf:d.params.defaults=[])
    (call:∀ (w:World) (s₀ s₁:Shared) (mg mb:Str→Option Value) (fa:Addr) (o:Obj) (pm cd doc:Value) (a:Addr) (vs:List Value) (ns:List Int),
      Ground q loose [] XP w s₀ mg mb s₁.heap→YP w s₁.heap →
      s₁.heap.get? fa=some o→o.data=.func (docDef d.name d.params d.body d.scope pm cd doc)→s₁.heap.CodeRec cd d.name→mg d.name=some (.ref fa) →
      s₁.heap.get? a=some { cls:=.type "list",data:=.seq vs.toArray }→IntsAre vs ns→ns.length≤n→s₁.gens = #[] →
      codeAny (model l.prog w) callerA (.call (.ref fa) ⟨[.ref a],[]⟩) (fun r s'=>r=.ok (.ret (.bool true))∧OldK s₁.heap s'.heap∧s'.os=s₁.os∧AllBare s'.gens) s₁) :
    WalkO q loose XP YP l.row.toRowW d [] (fun f vs=>PySem.call f vs):=by
  intro w s₀ s₁ mg mb G Y fa o pm cd doc dV kV ho hd hcd hD hmg hg args vals as hpre hlay hrd hwl hlo
  obtain rfl:dV=.none:=Dflts.none hD hdf
  obtain rfl:kV=.none:=Dflts.noKw hD
  obtain⟨a,vs,ns,rfl,rfl,hobj,hints,hlen⟩:=zeW hn hpre hwl
  refine enter_call (codeAny_mono (call w s₀ s₁ mg mb fa o pm cd doc a vs ns G Y ho (fd_plain hd) hcd hmg hobj hints hlen hg) fun r s' hq=>?_)
  obtain⟨rfl,h2,h3,h4⟩:=hq
  exact⟨.inl ⟨.bool true,.bool true,[],rfl,fun _=>rfl,.bool true,zfd l _,fun _=>⟨List.Pairwise.nil,fun _ hm=>(nomatch hm)⟩⟩,h2,h3,h4⟩
section
variable {prog:Program}{w:World}{A:Around}{E:Value→Shared→Prop}{s:Shared}{K:Frag}
def zka (h:Heap) (L d:Addr):List (Addr × Obj):=(List.range h.objs.size).filterMap fun a=>if a=L∨a=d then none else (h.get? a).map fun o=>(a,o)
end
end Att
namespace L2
open PySem PySem.Spec PyProof.Rows
theorem zcX:∀ {vs:List Value}{ns:List Int},IntsAre vs ns→Vals (ns.map V.int) vs
  | _,_,.nil=>.nil
  | _,_,.cons n t h=>.cons ⟨t,rfl⟩ (zcX h)
def Only (H:Hp):Prop:=∀ b,H b=none∨∃ o xs,H b=some (.frz o (.lst xs))
theorem zgY {P:Program}{w:World}{K:PySem.W.Frag}{mg mb:Str→Option Value}{CX:CXT}{k:Nat}{fa a:Addr}{fd:FuncData}{x:Str}{sp:Sp}{s₁:Shared}{vs:List Value}{ns:List Int}
    (KX:K.In s₁.heap) (hns:s₁.heap.Ns mainGlobals mg) (hb:s₁.heap.Ns builtinsNs mb) (hbb:∀ x:Str,x≠"__name__"→mb x=bootBuiltins x) (hlim:s₁.heap.NoLimit) (hg:s₁.gens = #[])
    (ha:s₁.heap.get? a=some { cls:=.type "list",data:=.seq vs.toArray }) (hi:IntsAre vs ns) (hl:ns.length≤sizeLine) (hr:Room k callerA)
    (F:∀ base:Heap,K.In base→base.Ns mainGlobals mg→FnOk P w K mg base CX k fa fd [x] sp) (hbind:∀ (s:Shared) (u:Value),BindsTo s fd ⟨[u],[]⟩ [(x,u)])
    (hsp:∀ H:Hp,Only H→SqL K H a (ns.map V.int)→sp [.ref a] H (fun v _=>v=.bl true) fun _ _ _=>False)
    (hCX:∀ H e s',CX [] H s₁ (fun _ _ _=>False) e s'→False) :
    codeAny (model P w) callerA (.call (.ref fa) ⟨[.ref a],[]⟩) (fun r s'=>r=.ok (.ret (.bool true))∧OldK s₁.heap s'.heap∧s'.os=s₁.os∧AllBare s'.gens) s₁:=by
  have rv:=zcX hi
  have lenV:=hi.length
  have core:∀ H:Hp,Only H→SqL K H a (ns.map V.int)→HOk P w H s₁.heap→(∀ b,H b≠none→b=a)→(H a≠none→K.lookup a=none) →
      codeAny (model P w) callerA (.call (.ref fa) ⟨[.ref a],[]⟩) (fun r s'=>r=.ok (.ret (.bool true))∧OldK s₁.heap s'.heap∧s'.os=s₁.os∧AllBare s'.gens) s₁:=by
    intro H hO hS hok hA hK
    have base_of:∀ {b:Addr}{o:Obj},s₁.heap.get? b=some o→H b=none→(hidT s₁.heap H).get? b=some o:=fun e n=>zg1 e n
    have noA:∀ {b:Addr}{o:Obj}{es:Array DictEntry}{ep:Nat},s₁.heap.get? b=some o→o.data=.dict es ep→H b=none:=fun {b o es ep} e d=>by
      cases q:H b with
      | none=>rfl
      | some u =>
        have e':b=a:=hA b (by rw[q];simp)
        subst e'
        rw[ha]at e;cases e
        have d':Data.seq vs.toArray _=Data.dict es ep:=d
        cases d'
    have nsK:∀ {b:Addr}{m:Str→Option Value},s₁.heap.Ns b m→(hidT s₁.heap H).Ns b m:=fun {b m} ⟨o,es,ep,e,d,r⟩=>⟨o,es,ep,base_of e (noA e d),d,r⟩
    have hKb:K.In (hidT s₁.heap H):=fun b o e=>base_of (KX b o e) (by
      cases q:H b with
      | none=>rfl
      | some u =>
        have e':b=a:=hA b (by rw[q];simp)
        subst e'
        rw[hK (by rw[q];simp)]at e;cases e)
    have hM:Mod K mg (hidT s₁.heap H):=⟨hKb,nsK hns,⟨mb,nsK hb,hbb⟩,let ⟨mc,h1,h2⟩:=hlim;⟨mc,nsK h1,h2⟩⟩
    have e0:Env0 P w K mg (hidT s₁.heap H) callerA [] s₁ H:=⟨rfl,hM,fun b o e=>zig e,Nat.le_of_eq (zfP _ _),trivial,fun b hb=>absurd (show b∈([]:List Addr) from hb) (by simp),hok,.of_eq hg⟩
    refine codeAny_mono ((F _ hKb (nsK hns)).run callerA [] s₁ H ⟨[.ref a],[]⟩ [.ref a] [.ref a] _ _ hr e0 (hbind s₁ (.ref a)) (.cons rfl .nil) (hsp H hO hS)) fun r s' h=>?_
    cases r with
    | error e=>exact(hCX H e s' h).elim
    | ok fl =>
      cases fl with
      | next=>exact False.elim h
      | brk=>exact False.elim h
      | cont=>exact False.elim h
      | ret u =>
        obtain⟨v,H',os,bare,un,hok',r',q⟩:=h
        have q':v=.bl true:=q
        subst q'
        obtain rfl:u=Value.bool true:=r'
        refine⟨rfl,OldK.of_keep fun b o e=>?_,os,bare⟩
        cases q:H b with
        | none=>exact un.keep b o e q (by intro z;exact absurd (show b∈([]:List Addr) from z) (by simp)) (by simp)
        | some u =>
          rcases hO b with z|⟨ob,xs,z⟩
          · rw[q]at z;cases z
          · have z2:=un.frzs b ob _ z
            obtain⟨e1,_⟩:=hok b _ z
            obtain⟨e2,_⟩:=hok' b _ z2
            rw[e]at e1;cases e1
            exact e2
  cases hk:K.lookup a with
  | some o =>
    have e:=KX a o hk
    rw[ha]at e
    cases e
    refine core (fun _=>none) (fun _=>.inl rfl) (.inr ⟨_,vs.toArray,_,hk,rfl,rfl,rfl,by rw[List.size_toArray,lenV];exact hl,by simpa using rv⟩) (fun b u z=>by have z':(none:Option HO)=some u:=z;cases z') (fun b z=>absurd rfl z) fun z=>absurd rfl z
  | none =>
    refine core (fun b=>if b=a then some (.frz { cls:=.type "list",data:=.seq vs.toArray } (.lst (ns.map V.int))) else none) (fun b=>?_) (.inl (.inr ⟨{ cls:=.type "list",data:=.seq vs.toArray },if_pos rfl⟩)) (fun b u z=>?_) (fun b z=>?_) fun _=>hk
    · by_cases hb:b=a
      · exact .inr ⟨_,_,if_pos hb⟩
      · exact .inl (if_neg hb)
    · by_cases hb:b=a
      · have z':=(if_pos hb).symm.trans z
        cases z'
        subst hb
        exact⟨ha,by rw[List.length_map];exact hl,vs,_,rv,ha⟩
      · have z':=(if_neg hb).symm.trans z
        cases z'
    · by_cases hb:b=a
      · exact hb
      · exact absurd (if_neg hb) z
abbrev KOf {K:PySem.W.Frag}{h:Heap}(_:K.In h):PySem.W.Frag:=K
theorem zhs {l:PySem.W.OpenLaw}{n k:Nat}{q:Program}{loose:List Str}{XP:(Str→Option Value)→Heap→Prop}{YP:World→Heap→Prop}{d:DefRec}{K:Params→PySem.W.Frag}{CX:World→CXT}{sp:World→Sp}{x:Str}
    (hn:l.most=some n) (hn2:n≤sizeLine) (hdf:d.params.defaults=[]) (hr:Room k callerA)
    (hY:∀ (w:World) (h:Heap),YP w h→(K w.params).In h)
    (F:∀ (w:World) (mg:Str→Option Value) (fa:Addr) (h:Heap),(K w.params).In h→h.Ns mainGlobals mg→mg d.name=some (.ref fa) →
      ∃ fd:FuncData,(∀ (s:Shared) (u:Value),BindsTo s fd ⟨[u],[]⟩ [(x,u)]) ∧
        ∀ base:Heap,(K w.params).In base→base.Ns mainGlobals mg→FnOk l.prog w (K w.params) mg base (CX w) k fa fd [x] (sp w))
    (hsp:∀ (w:World) (H:Hp) (a:Addr) (ns:List Int),ns.length≤n→Only H→SqL (K w.params) H a (ns.map V.int)→sp w [.ref a] H (fun v _=>v=.bl true) fun _ _ _=>False)
    (hCX:∀ (w:World) (H:Hp) (s:Shared) (e:Value) (s':Shared),CX w [] H s (fun _ _ _=>False) e s'→False) :
    PySem.W.WalkO q loose XP YP l.row.toRowW d [] (fun f vs=>PySem.call f vs):=by
  refine Att.attach_call hn hdf fun w s₀ s₁ mg mb fa o pm cd doc a vs ns G Y ho hd hcd hmg hobj hints hlen hg=>?_
  have KX:=hY w _ Y
  obtain⟨fd,hb,hF⟩:=F w mg fa _ KX G.T.g hmg
  exact zgY KX G.T.g G.T.b G.T.builtins G.T.nolimit hg hobj hints (Nat.le_trans hlen hn2) hr hF hb (fun H hO hS=>hsp w H a ns hlen hO hS) fun H e s'=>hCX w H s₁ e s'
theorem zgd {l:PySem.W.OpenLaw}{n k:Nat}{q:Program}{loose:List Str}{XP:(Str→Option Value)→Heap→Prop}{YP:World→Heap→Prop}{d:DefRec}{K:Params→PySem.W.Frag}{CX:CXT}{sp:PySem.W.Frag→Sp}{x:Str}
    (hn:l.most=some n) (hn2:n≤sizeLine) (hdf:d.params.defaults=[]) (hr:Room k callerA)
    (hY:∀ (w:World) (h:Heap),YP w h→(K w.params).In h)
    (F:∀ (w:World) (mg:Str→Option Value) (fa:Addr) (h:Heap),(K w.params).In h→h.Ns mainGlobals mg→mg d.name=some (.ref fa) →
      ∃ fd:FuncData,(∀ (s:Shared) (u:Value),BindsTo s fd ⟨[u],[]⟩ [(x,u)]) ∧
        ∀ base:Heap,(K w.params).In base→base.Ns mainGlobals mg→FnOk l.prog w (K w.params) mg base CX k fa fd [x] (sp (K w.params)))
    (hsp:∀ (K:PySem.W.Frag) (H:Hp) (a:Addr) (ns:List Int),ns.length≤n→Only H→SqL K H a (ns.map V.int)→sp K [.ref a] H (fun v _=>v=.bl true) fun _ _ _=>False)
    (hCX:∀ (H:Hp) (s:Shared) (e:Value) (s':Shared),CX [] H s (fun _ _ _=>False) e s'→False) :
    PySem.W.WalkO q loose XP YP l.row.toRowW d [] (fun f vs=>PySem.call f vs) :=
  zhs (K:=K) (CX:=fun _=>CX) (sp:=fun w=>sp (K w.params)) hn hn2 hdf hr hY F (fun w H a ns h1 h2 h3=>hsp (K w.params) H a ns h1 h2 h3) fun _ H s e s'=>hCX H s e s'
def zbD (s:Stmt):Arguments:=match s with
  | .FunctionDef _ a _ _ _ _ _ _ _ _=>a
  | _=>{ posonlyargs:=[],args:=[],vararg:=none,kwonlyargs:=[],kw_defaults:=[],kwarg:=none,defaults:=[] }
def zbn (s:Stmt):List Stmt:=match s with
  | .FunctionDef _ _ b _ _ _ _ _ _ _=>b
  | _=>[]
def zak (s:Stmt):Scope:=match s with
  | .FunctionDef _ _ _ _ _ _ sc _ _ _=>sc
  | _=>{ kind:=.function,names:=[],isGenerator:=false,isCoroutine:=false }
abbrev CX0:CXT:=fun _ _ _ _ _ _=>False
abbrev E0:XK:=fun _ _ _=>False
theorem zat {X:Cx}:Passes CX0 X E0:=fun _ _ _ _ _ _ _ h=>h.elim
structure Fun (K:PySem.W.Frag) (x qual:Str) (st:Stmt) (f:Addr) (fd:FuncData):Prop where
  ex:∃ (oc:Value) (od:Option Addr) (kV doc pm:Value) (an:Option Addr) (cdv ct:Value) (osl:Array (Option Value)),
    fd=PySem.W.fnOf x qual (zbD st) (zbn st) (zak st) .none kV doc pm an cdv ct∧K.lookup f=some ⟨oc,od,.func fd,osl⟩∧PySem.W.codeIn K cdv qual=true
  kp:PySem.W.keepIn K (.ref f)=true
section
variable {P:Program}{w:World}{K:PySem.W.Frag}{mg:Str→Option Value}{base:Heap}
theorem Fun.ok {x qual:Str}{st:Stmt}{f:Addr}{fd:FuncData}{N ps:List Str}{k:Nat}{sp:Sp}(F:Fun K x qual st f fd) (S:FnScope N ps (zak st)) (len:∀ vs H Q E,sp vs H Q E→vs.length=ps.length)
    (hbody:∀ (cdv:Value) (A:Around) (outer:List Env) (s:Shared) (H:Hp) (vs:List V) (Q:VK) (E:XK),Room k (A.deeper (envOfC qual (zak st) s.heap.objs.size f cdv))→sp vs H Q E →
      ∃ t,PSs (cxOf CX0 P w K mg base N qual (zak st) f cdv A outer s H E).nox (zbn st) t∧t { nx:=fun _ H'=>Q .non H',rt:=Q } (zc0 N vs) H):FnOk P w K mg base CX0 (k+1) f fd ps sp:=by
  obtain⟨oc,od,kV,doc,pm,an,cdv,ct,osl,rfl,lk,hcd⟩:=F.ex
  refine zj4 lk hcd S len fun A outer s H vs Q E hr hsp=>?_
  obtain⟨t,h,q⟩:=hbody cdv A outer s H vs Q E hr hsp
  exact⟨t,h.nox,q⟩
theorem Fun.binds {x qual:Str}{st:Stmt}{f:Addr}{fd:FuncData}{ps:List Str}(F:Fun K x qual st f fd)
    (h:∀ (kV doc pm:Value) (an:Option Addr) (cdv ct:Value) (us:List Value),us.length=ps.length→bindArgs (PySem.W.fnOf x qual (zbD st) (zbn st) (zak st) .none kV doc pm an cdv ct) ⟨us,[]⟩=pure (ps.zip us)):Binds K fd ps []:=by
  obtain⟨oc,od,kV,doc,pm,an,cdv,ct,osl,rfl,lk,hcd⟩:=F.ex
  exact .all (h kV doc pm an cdv ct)
theorem zjp {x qual:Str}{st:Stmt}{f:Addr}{oc:Value}{od an:Option Addr}{osl:Array (Option Value)}{kV doc pm cdv ct:Value}(l:K.lookup f=some ⟨oc,od,.func (PySem.W.fnOf x qual (zbD st) (zbn st) (zak st) .none kV doc pm an cdv ct),osl⟩)
    (c:PySem.W.codeIn K cdv qual=true) (k:PySem.W.keepIn K (.ref f)=true):Fun K x qual st f (PySem.W.fnOf x qual (zbD st) (zbn st) (zak st) .none kV doc pm an cdv ct):=⟨⟨oc,od,kV,doc,pm,an,cdv,ct,osl,rfl,l,c⟩,k⟩
end
section
variable {X:Cx}
theorem pv (i:Nat) {x:Str}{pos:Pos}(hN:X.N[i]?=some x:=by rfl) (hv:Vis X.env.scope x:=by first|exact Or.inl rfl|exact Or.inr (.inl rfl)|exact Or.inr (.inr rfl)) (hd:(x == ("__debug__":Str))=false:=by decide)
    (hcd:(x == ("__classdict__":Str))=false:=by decide):PE X (.Name x pos) (tVar i):=zi5 hN hv hd hcd
end
theorem iteF {A B:Prop}(h:B):if false=true then A else B:=by
  rw[if_neg Bool.false_ne_true]
  exact h
theorem iteT {A B:Prop}(h:A):if true=true then A else B:=by
  rw[if_pos rfl]
  exact h
theorem ite2 {c A B:Prop} [Decidable c] (h1:c→A) (h2:¬ c→B):if c then A else B:=by
  by_cases h:c
  · rw[if_pos h]
    exact h1 h
  · rw[if_neg h]
    exact h2 h
def Same (H H':Hp):Prop:=∀ b o,H b=some o→H' b=some o
theorem Same.refl (H:Hp):Same H H:=fun _ _ h=>h
theorem Same.trans {H H1 H2:Hp}(a:Same H H1) (b:Same H1 H2):Same H H2:=fun c o h=>b c o (a c o h)
end L2
set_option maxHeartbeats 4000001
namespace L2
open PySem PySem.Spec PyProof.Rows
def clOf (cells:List (Str × Addr)):List (Str × NameKind)→List (Str × Addr)→List (Str × Addr)
 | [],cs=>cs
 | (n,k)::r,cs=>if k == .free then clOf cells r ((n,(cells.lookup n).getD 0)::cs) else clOf cells r cs
theorem zcU {env:Env}:∀ (names:List (Str × NameKind)) (cs:List (Str × Addr)),(∀ y∈names,y.2=.free→∃ c,env.cells.lookup y.1=some c) →
  (forIn names cs fun x r=>match x with|(name,kind)=>if (kind == NameKind.free)=true then (do let a ← cellOf env name;pure (ForInStep.yield ((name,a)::r))) else pure (ForInStep.yield r):Sem (List (Str × Addr)))=pure (clOf env.cells names cs)
 | [],cs,_=>rfl
 | (n,k)::r,cs,h=>by
  rw[List.forIn_cons]
  by_cases e:(k == NameKind.free)=true
  ·obtain⟨c,hc⟩:=h (n,k) List.mem_cons_self (by simpa using e)
   have hcell:cellOf env n=pure c:=by
    have hc':env.cells.lookup n=some c:=hc
    unfold cellOf;rw[hc']
   simp only[e,if_true,hcell,pure_bind]
   rw[zcU r _ fun y hy=>h y (List.mem_cons_of_mem _ hy)]
   have hc':env.cells.lookup n=some c:=hc
   show _=pure (if (k == NameKind.free)=true then _ else _)
   rw[if_pos e,hc']
   rfl
  ·have ef:(k == NameKind.free)=false:=by simpa using e
   simp only[ef,Bool.false_eq_true,if_false,pure_bind]
   rw[zcU r _ fun y hy=>h y (List.mem_cons_of_mem _ hy)]
   show _=pure (if (k == NameKind.free)=true then _ else _)
   rw[if_neg e]
theorem zeF {scope:Scope}{env:Env}(h:∀ y∈scope.names,y.2=.free→∃ c,env.cells.lookup y.1=some c):closureFor scope env=pure (clOf env.cells scope.names []):=by
 unfold closureFor
 show (forIn scope.names [] _ >>= fun r=>pure r)=_
 rw[bind_pure]
 exact zcU _ _ h
theorem zcT {cells:List (Str × Addr)}:∀ (names:List (Str × NameKind)) (cs:List (Str × Addr)) (x:Str) (c:Addr),(∀ y∈names,y.2=.free→∃ c,cells.lookup y.1=some c) →
  (∀ x c,cs.lookup x=some c→cells.lookup x=some c)→(clOf cells names cs).lookup x=some c→cells.lookup x=some c
 | [],cs,x,c,_,hs,e=>hs x c e
 | (n,k)::r,cs,x,c,h,hs,e=>by
  unfold clOf at e
  by_cases q:(k == NameKind.free)=true
  ·rw[if_pos q]at e
   obtain⟨c0,hc0⟩:=h (n,k) List.mem_cons_self (by simpa using q)
   refine zcT r _ x c (fun y hy=>h y (List.mem_cons_of_mem _ hy)) (fun x' c' e'=>?_) e
   rw[List.lookup_cons]at e'
   cases hx:x' == n with
   | true =>
    rw[hx]at e'
    have hx':x'=n:=by simpa using hx
    subst hx'
    have hc0':cells.lookup x'=some c0:=hc0
    rw[hc0']at e' ⊢
    exact e'
   | false =>
    rw[hx]at e'
    exact hs x' c' e'
  ·rw[if_neg q]at e
   exact zcT r _ x c (fun y hy=>h y (List.mem_cons_of_mem _ hy)) hs e
theorem zb7 {cells:List (Str × Addr)}:∀ (names:List (Str × NameKind)) (cs:List (Str × Addr)) (x:Str),(∃ c,cs.lookup x=some c)→∃ c,(clOf cells names cs).lookup x=some c
 | [],cs,x,e=>e
 | (n,k)::r,cs,x,e=>by
  unfold clOf
  by_cases q:(k == NameKind.free)=true
  ·rw[if_pos q]
   refine zb7 r _ x ?_
   rw[List.lookup_cons]
   cases hx:x == n with
   | true=>exact⟨_,rfl⟩
   | false=>exact e
  ·rw[if_neg q]
   exact zb7 r _ x e
theorem zbO {cells:List (Str × Addr)}:∀ (names:List (Str × NameKind)) (cs:List (Str × Addr)) (x:Str),names.lookup x=some .free→∃ c,(clOf cells names cs).lookup x=some c
 | [],cs,x,e=>by simp at e
 | (n,k)::r,cs,x,e=>by
  rw[List.lookup_cons]at e
  unfold clOf
  cases hx:x == n with
  | true =>
   rw[hx]at e
   have e':k=.free:=Option.some.inj e
   subst e'
   rw[if_pos (by decide)]
   refine zb7 r _ x ?_
   rw[List.lookup_cons,hx]
   exact⟨_,rfl⟩
  | false =>
   rw[hx]at e
   by_cases q:(k == NameKind.free)=true
   ·rw[if_pos q];exact zbO r _ x e
   ·rw[if_neg q];exact zbO r _ x e
def zhq (env:Env) (p:Str × NameKind):Bool:=p.2 == .free && env.scope.kind == .function && env.kindOf p.1 == some .cell
def zbC (env:Env) (p:Str × NameKind):Str × NameKind:=if zhq env p=true then (p.1,.cell) else p
theorem zb1 (env:Env) (p:Str × NameKind):(zbC env p).1=p.1:=by unfold zbC;split<;>rfl
theorem zb0 (env:Env) (p:Str × NameKind):(zbC env p).2=p.2∨((zbC env p).2=.cell∧p.2=.free):=by
 unfold zbC
 split
 ·rename_i h
  refine .inr ⟨rfl,?_⟩
  unfold zhq at h
  cases e:p.2<;>simp[e]at h<;>rfl
 ·exact .inl rfl
theorem zbt (scope:Scope) (env:Env):(relabel scope env).names=scope.names.map (zbC env):=rfl
theorem zcN {f:Str × NameKind→Str × NameKind}(hf:∀ p,(f p).1=p.1):∀ (l:List (Str × NameKind)) (x:Str),(l.map f).lookup x=none∧l.lookup x=none∨∃ p∈l,(l.map f).lookup x=some (f p).2∧l.lookup x=some p.2
 | [],_=>.inl ⟨rfl,rfl⟩
 | p::r,x=>by
  have e1:((p::r).map f).lookup x=if x == p.1 then some (f p).2 else (r.map f).lookup x:=by
   show List.lookup x (((f p).1,(f p).2)::r.map f)=_
   rw[List.lookup_cons,hf p];cases x == p.1<;>rfl
  have e2:(p::r).lookup x=if x == p.1 then some p.2 else r.lookup x:=by
   show List.lookup x ((p.1,p.2)::r)=_
   rw[List.lookup_cons];cases x == p.1<;>rfl
  rw[e1,e2]
  cases x == p.1
  ·rcases zcN hf r x with z|⟨q,hq,z⟩
   ·exact .inl z
   ·exact .inr ⟨q,List.mem_cons_of_mem _ hq,z⟩
  ·exact .inr ⟨p,List.mem_cons_self,rfl,rfl⟩
theorem zbF {scope:Scope}{env:Env}{x:Str}{k':NameKind}(h:(relabel scope env).names.lookup x=some k'):scope.names.lookup x=some k'∨(k'=.cell∧scope.names.lookup x=some .free):=by
 rw[zbt]at h
 rcases zcN (zb1 env) scope.names x with ⟨z,_⟩|⟨p,_,z,e⟩
 ·rw[z]at h;cases h
 ·rw[z]at h
  obtain rfl:=Option.some.inj h
  rcases zb0 env p with q|⟨q,q'⟩
  ·rw[q];exact .inl e
  ·exact .inr ⟨q,by rw[e,q']⟩
theorem zc3 {scope:Scope}{env:Env}{x:Str}(h:scope.names.lookup x=some .free):(relabel scope env).names.lookup x=some .cell∨(relabel scope env).names.lookup x=some .free:=by
 rw[zbt]
 rcases zcN (zb1 env) scope.names x with ⟨_,z⟩|⟨p,_,z,e⟩
 ·rw[z]at h;cases h
 ·rw[e]at h
  rcases zb0 env p with q|⟨q,_⟩
  ·rw[z,q,h];exact .inr rfl
  ·rw[z,q];exact .inl rfl
def zbk (X:Cx) (N':List Str) (scope:Scope) (C:Addr) (s₀:Shared) (H₀:Hp) (fp:List Addr) (pins:List (Addr × Obj)):Cx :=
 { X with N:=N',s₀:=s₀,H₀:=H₀,env:=compEnvC scope (clOf X.env.cells scope.names []) C X.env,outer:=X.stack,stack:=X.stack,ex:=fp,fn:=fun _=>false,pn:=X.pn++pins,xe:=fun _ _=>False }
def capσ (cap:List (Option Nat)) (σ:St):St:=cap.map fun o=>match o with|some i=>(match σ[i]? with|some v=>v|none=>none)|none=>none
def tst (M:Model) (A:Around) (env:Env) (E:Value→Shared→Prop) (o:Option Expr) (Q:Bool→Shared→Prop) (s:Shared):Prop:=match o with
 | none=>Q true s
 | some c=>wpAny M A (isTrue c env (eval c env)) Q E s
theorem zgj {M:Model}{A:Around}{env:Env}{E:Value→Shared→Prop}{o:Option Expr}{Q Q':Bool→Shared→Prop}{s:Shared}(h:tst M A env E o Q s) (k:∀ b z,Q b z→Q' b z):tst M A env E o Q' s:=by
 cases o with
 | none=>exact k _ _ h
 | some c=>exact thn h k
def PTo (X:Cx) (o:Option Expr) (t:TT):Prop :=
 ∀ (pins:List (Addr × Obj)) (s:Shared) (σ:St) (H:Hp) (Q:Bool→Hp→Prop),Inv X pins σ H s→t σ H Q→tst (model X.prog X.w) X.A X.env X.xe o (TP X pins σ Q) s
def tYes:TT:=fun _ H Q=>Q true H
theorem zhS {X:Cx}:PTo X none tYes:=fun _ _ _ H _ I h=>⟨H,I,h⟩
theorem zcD {X:Cx}{c:Expr}{t:TT}(h:PT X c t):PTo X (some c) t:=fun pins s σ H Q I hw=>h pins s σ H Q I hw
abbrev NoX:Value→Shared→Prop:=fun _ _=>False
def Go (M:Model) (A:Around) (tg elt:Expr) (o:Option Expr) (it acc:Value) (env:Env) (R:Result→Shared→Prop) (onward:Shared→Prop) (s:Shared):Prop :=
 wpAny M A (pyNext it) (fun r a=>match r with
  | none=>R (.ok .next) a
  | some v=>wpAny M A (letOwnedTupleGo tg it v) (fun _ b=>wpAny M A (assign tg env v) (fun _ c=>tst M A env NoX o (fun yes d =>
    if yes=true then wpAny M A (eval elt env) (fun x e=>wpAny M A (call (.builtin "list.append") [acc,x]) (fun _ f=>onward f) NoX e) NoX d else onward d) c) NoX b) NoX a) NoX s
theorem zf5 {prog:Program}{w:World}{A:Around}{R:Result→Shared→Prop}{s:Shared}{elt tg iter:Expr}{o:Option Expr}{scope:Scope}{pos:Pos}{it acc:Value}{env:Env}(J:Nat→Shared→Prop)
  (turn:∀ n s,J n s→Go (model prog w) A tg elt o it acc env R (fun z=>∃ m,m<n∧J m z) s) (n:Nat) (h:J n s) :
  codeAny (model prog w) A (.compLoop (.ListComp elt [⟨tg,iter,o.toList,0⟩] scope pos) 0 it acc env) R s:=by
 cases o with
 | none =>
  refine PySem.W.kcp_loop J (fun n a ha=>wpAny_mono (turn n a ha) (fun r b hb=>?_) fun _ _ z=>z.elim) n h
  cases r with
  | none=>exact hb
  | some v=>exact wpAny_mono hb (fun _ c hc=>wpAny_mono hc (fun _ d hd=>wpAny_mono (show wpAny _ _ _ _ _ d from hd) (fun x e he=>wpAny_mono he (fun _ _ q=>q) fun _ _ z=>z.elim) fun _ _ z=>z.elim) fun _ _ z=>z.elim) fun _ _ z=>z.elim
 | some t =>
  refine PySem.W.kct_loop J (fun n a ha=>wpAny_mono (turn n a ha) (fun r b hb=>?_) fun _ _ z=>z.elim) n h
  cases r with
  | none=>exact hb
  | some v =>
   refine wpAny_mono hb (fun _ c hc=>wpAny_mono hc (fun _ d hd=>wpAny_mono (show wpAny _ _ _ _ _ d from hd) (fun yes e he=>?_) fun _ _ z=>z.elim) fun _ _ z=>z.elim) fun _ _ z=>z.elim
   cases yes
   ·exact he
   ·exact wpAny_mono (show wpAny _ _ _ _ _ e from he) (fun x f hf=>wpAny_mono hf (fun _ _ q=>q) fun _ _ z=>z.elim) fun _ _ z=>z.elim
structure CapOk (N N':List Str) (sc scope:Scope) (cap:List (Option Nat)):Prop where
 kind:scope.kind=.function
 nocell:∀ y∈scope.names,y.2≠.cell
 names:∀ y∈scope.names,y.2=.local → scope.names.lookup y.1=some .local
 free:∀ y∈scope.names,y.2=.free→sc.names.lookup y.1=some .cell∨sc.names.lookup y.1=some .free
 len:cap.length=N'.length
 cap:∀ p∈N'.zip cap,∀ i,p.2=some i→N[i]?=some p.1∧scope.names.lookup p.1=some .free∧(sc.names.lookup p.1=some .cell∨sc.names.lookup p.1=some .free)
theorem zch {α:Type}:∀ {l:List (Str × α)}{x:Str}{a:α},l.lookup x=some a→(x,a)∈l
 | [],_,_,h=>by simp at h
 | (n,k)::r,x,a,h=>by
  rw[List.lookup_cons]at h
  cases hx:x == n with
  | true =>
   rw[hx]at h
   have e:k=a:=Option.some.inj h
   have e2:x=n:=by simpa using hx
   subst e e2
   exact List.mem_cons_self
  | false=>rw[hx]at h;exact List.mem_cons_of_mem _ (zch h)
def LCW (J:It) (g:TG) (tt:TT) (te:TE) (l:Addr) (Q:VK) (W:Nat→Nat→List V→St→Hp→Prop):Prop :=
 ∀ i m acc σ' H',W i m acc σ' H'→H' l=some (.lst acc) ∧
  ((J.stop i H'∧Q (.ref l) H')∨(J.go i H'∧∀ x H2,J.yld i H' x H2→g x σ' H2 fun σ3 H3=>tt σ3 H3 fun b H4 =>
   if b=true then te σ3 H4 fun y H5=>H5 l=some (.lst acc)∧acc.length<sizeLine∧∃ m',m'<m∧W (i+1) m' (acc++[y]) σ3 (upd H5 l (.lst (acc++[y])))
   else ∃ m',m'<m∧W (i+1) m' acc σ3 H4))
def tLC (cap:List (Option Nat)) (wi:TI) (g:TG) (tt:TT) (te:TE):TE:=fun σ H Q=>wi σ H fun J H1=>∀ l,H1 l=none →
 ∃ W:Nat→Nat→List V→St→Hp→Prop,(∃ m,W 0 m [] (capσ cap σ) (upd H1 l (.lst [])))∧LCW J g tt te l Q W
theorem zfD {X:Cx}{elt tg iter:Expr}{o:Option Expr}{scope:Scope}{pos ppos:Pos}{wi:TI}{g:TG}{tt:TT}{te:TE}{N':List Str}{cap:List (Option Nat)}{use:Option (Value→Sem Unit)}{Q0:Value→Shared→Prop}
  (hc:X.calm=true) (hi:PI X tg iter wi) (ck:CapOk X.N N' X.env.scope scope cap)
  (hg:∀ C s₀ H₀ fp pins,PG (zbk X N' scope C s₀ H₀ fp pins) tg g)
  (ht:∀ C s₀ H₀ fp pins,PTo (zbk X N' scope C s₀ H₀ fp pins) o tt)
  (he:∀ C s₀ H₀ fp pins,PE (zbk X N' scope C s₀ H₀ fp pins) elt te)
  (hs:∀ x,foldedSetIterable iter X.env x=pure x) {pins:List (Addr × Obj)}{s:Shared}{σ:St}{H:Hp}{Q:VK}(I:Inv X pins σ H s) (h:tLC cap wi g tt te σ H Q)
  (fin:∀ (l C:Addr) (H4:Hp) (s5:Shared) (m:Str→Option Value),Inv X pins σ H4 s5→Q (.ref l) H4→s5.heap.Ns C m→FpOk X pins H4 C→compPost (model X.prog X.w) X.A X.xe use Q0 (.ref l) C (.ok .next) s5) :
  wpAny (model X.prog X.w) X.A (comprehension (.ListComp elt [⟨tg,iter,o.toList,0⟩] scope pos) scope X.env ppos (newList []) false (eval iter X.env) use) Q0 X.xe s:=by
 have hcells:∀ y∈scope.names,y.2=.free→∃ c,X.env.cells.lookup y.1=some c:=fun y hy hf=>I.ok.has y.1 (ck.free y hy hf)
 refine wpAny_comprehension_free (use:=use) rfl hs (zeF hcells) ck.kind ck.names (thn (hi pins s σ H _ I h) fun v s1 h1=>thn h1 fun itv s2 h2=>?_)
 obtain⟨it,fp,tn,J,H2,e,I2,T,st2,f2,body⟩:=h2
 subst e
 have hfr2:H2 s2.heap.objs.size=none:=I2.hok.fresh (Nat.le_refl _)
 obtain⟨W,⟨m0,w0⟩,turn⟩:=body s2.heap.objs.size hfr2
 have I3:Inv X pins σ (upd H2 s2.heap.objs.size (.lst [])) { s2 with heap:=s2.heap.push { cls:=.type "list",data:=.seq ([]:List Value).toArray },toks:=s2.toks }:=I2.lnew (its:=[]) (t':=s2.toks) .nil (Nat.zero_le _)
 refine wpAny_newObj_type (wpAny_newFunctionEnv ck.nocell (by intro y hy;simp at hy) (fun h₁ hns₁ hsb₁=>?_) ck.kind)
 dsimp only at hns₁ hsb₁ ⊢
 generalize hl:s2.heap.objs.size=l at *
 generalize hP:s2.heap.push { cls:=.type "list",dict:=none,data:=.seq ([]:List Value).toArray }=P2 at *
 generalize hH3:upd H2 l (.lst [])=H3 at *
 have old:∀ b o,P2.get? b=some o→h₁.get? b=some o:=fun b o e=>hsb₁.extBut b o (Nat.ne_of_lt (Heap.lt_size e)) (Heap.get?_push_of_some _ e)
 have old2:∀ b o,s2.heap.get? b=some o→P2.get? b=some o:=fun b o e=>hP ▸ Heap.get?_push_of_some _ e
 have fpl:∀ b∈fp,b<l:=fun b hb=>by
  obtain⟨o,e,_⟩:=T.obj _ _ st2 b hb
  rw[← hl];exact Heap.lt_size e
 have fp3:∀ b∈fp,H3 b=none:=fun b hb=>by
  rw[← hH3,zaj (Nat.ne_of_lt (fpl b hb))];exact(f2 b hb).1
 have hPs:P2.objs.size=l+1:=by rw[← hP,Heap.size_push,hl]
 have subc:∀ x c,(clOf X.env.cells scope.names []).lookup x=some c→X.env.cells.lookup x=some c:=fun x c e=>zcT _ _ x c hcells (fun _ _ z=>by simp at z) e
 generalize hs3:({ s2 with heap:=P2,toks:=s2.toks }:Shared)=s3 at *
 have hs3h:s3.heap=P2:=by rw[← hs3]
 let Y:=zbk X N' scope P2.objs.size s3 H3 fp pins
 have hYok:Y.Ok:=by
  refine⟨I3.ok.mod,ck.kind,I3.ok.glob,I3.ok.blt,by show s3.heap.objs.size≤P2.objs.size;rw[hs3h];exact Nat.le_refl _,fun x y c e1 e2=>I3.ok.inj x y c (subc x c e1) (subc y c e2),fun x hx=>?_,fun x c hx=>absurd (show false=true from hx) Bool.false_ne_true,I3.ok.hd,I3.ok.frames,.inl rfl,fun b hb=>⟨?_,fun x c e=>?_⟩,I3.bs,
   Nat.le_trans I3.ok.bsz I3.sz,fun b o e hb=>?_,fun b hb hz=>?_,I3.stack,I3.stkFree⟩
  ·have hx':scope.names.lookup x=some .free:=by
    rcases hx with hx|hx
    ·rcases zbF hx with z|z
     ·exact absurd rfl (ck.nocell _ (zch z))
     ·exact z.2
    ·rcases zbF hx with z|z
     ·exact z
     ·exact z.2
   exact zbO _ _ x hx'
  ·exact Nat.ne_of_lt (by show b<P2.objs.size;rw[hPs];exact Nat.lt_succ_of_lt (fpl b hb))
  ·exact(f2 b hb).2.2.2.2.1 x c (subc x c e)
  ·rcases (f2 b hb).2.2.2.1 with z|z
   ·exact I3.ok.noex b o e z
   ·exact absurd (Nat.lt_of_lt_of_le (Heap.lt_size e) (Nat.le_trans I3.ok.bsz z)) (Nat.lt_irrefl _)
  ·rcases List.mem_cons.mp (I3.stkSub b hz) with z|z
   ·exact(f2 b hb).2.1 z
   ·exact(f2 b hb).2.2.1 z
 have hYi:Inv Y [] (capσ cap σ) H3 { s2 with heap:=h₁,toks:=s2.toks }:=by
  refine⟨hYok,by show s2.os=s3.os;rw[← hs3],I2.bare,by show Un _ _ _ _ s3.heap h₁;rw[hs3h];exact Un.kept old,⟨_,hns₁,fun j x v e1 e2 e3=>?_⟩,fun x c e=>?_,?_,fun x c e=>I3.freeC x c (subc x c e),fun p hp=>?_,fun b o e=>?_,?_⟩
  ·have e1':N'[j]?=some x:=e1
   unfold capσ at e2
   rw[List.getElem?_map]at e2
   cases ec:cap[j]? with
   | none=>rw[ec]at e2;cases e2
   | some oc =>
    rw[ec]at e2
    cases oc with
    | none=>cases e2
    | some i =>
     have e2':σ[i]?=some (some v):=by
      cases ei:σ[i]? with
      | none=>simp[ei]at e2
      | some v' =>
       simp[ei]at e2
       rw[e2]
     have hz:(x,some i)∈N'.zip cap:=by
      refine List.mem_of_getElem? (i:=j) ?_
      rw[List.getElem?_zip_eq_some]
      exact⟨e1',ec⟩
     obtain⟨hN,hf,hk⟩:=ck.cap _ hz i rfl
     obtain⟨m,hn,hlo⟩:=I3.loc
     obtain⟨u,r,lk⟩:=hlo i x v hN e2' (by rcases hk with z|z;exact .inr (.inl z);exact .inr (.inr z))
     refine⟨u,r,.inr ⟨?_,?_⟩⟩
     ·exact zc3 hf
     ·rcases lk with ⟨z,_⟩|⟨_,c,hcx,hcell⟩
      ·have z':X.env.scope.names.lookup x=some .local:=z
       rcases hk with q|q
       ·rw[q]at z';cases z'
       ·rw[q]at z';cases z'
      ·obtain⟨c',hc'⟩:=zbO (cells:=X.env.cells) scope.names [] x hf
       have:=subc x c' hc'
       rw[hcx]at this;cases this
       obtain⟨ob,e,d⟩:=hcell
       rw[hs3h]at e
       exact⟨c,hc',ob,old c ob e,d⟩
  ·obtain⟨v,ob,e',d⟩:=I3.cell x c (subc x c e)
   rw[hs3h]at e'
   exact⟨v,ob,old c ob e',d⟩
  ·refine I3.hok.fresh ?_
   rw[hs3h];exact Nat.le_refl _
  ·have hp':p∈X.pn++pins:=(List.mem_append.mp hp).elim (fun z=>z) (fun z=>nomatch z)
   obtain⟨e,n,ne,nf,d⟩:=I3.pin p hp'
   rw[hs3h]at e
   refine⟨old _ _ e,n,Nat.ne_of_lt (Heap.lt_size e),fun z=>?_,d⟩
   rcases List.mem_cons.mp (I3.stkSub _ z) with q|q
   ·exact ne q
   ·exact nf q
  ·have:=I3.hok.kept (h':=h₁) (fun b u q=>old b u (by rw[← hs3h];exact q))
   exact this b o e
  ·show (cap.map _).length=N'.length
   rw[List.length_map,ck.len]
 have stat:∀ {H':Hp},(∀ b∈fp,H' b=none)→∀ b∈fp,FpOk Y [] H' b:=fun {H'} hn b hb=>by
  refine⟨hn b hb,(hYok.exf b hb).1,hYok.exfs b hb,.inl hb,(hYok.exf b hb).2,fun p hp=>?_⟩
  have hp':p∈X.pn++pins:=(List.mem_append.mp hp).elim (fun z=>z) (fun z=>nomatch z)
  exact(f2 b hb).2.2.2.2.2 p hp'
 have st1:tn 0 h₁:=T.keep 0 _ _ st2 fun b hb o e=>old b o (old2 b o e)
 have loop:codeAny (model X.prog X.w) X.A (.compLoop (.ListComp elt [⟨tg,iter,o.toList,0⟩] scope pos) 0 (.ref it) (.ref l) Y.env) (compPost (model X.prog X.w) X.A X.xe use Q0 (.ref l) P2.objs.size) { s2 with heap:=h₁,toks:=s2.toks }:=by
  refine zf5 (fun n s'=>∃ i acc σ' H',Inv Y [] σ' H' s'∧tn i s'.heap∧(∀ b∈fp,H' b=none)∧W i n acc σ' H') ?_ m0 ⟨0,[],_,H3,hYi,st1,fp3,w0⟩
  rintro n s4 ⟨i,acc,σ4,H4,I4,st4,fr4,w4⟩
  obtain⟨hlst,q4⟩:=turn i n acc σ4 H4 w4
  rcases q4 with ⟨stop,qn⟩|⟨go,step⟩
  ·refine thn (T.done Y rfl rfl rfl hc i [] s4 σ4 H4 Y.xe I4 (stat fr4) st4 stop) fun r s5 ⟨hr,I5⟩=>?_
   subst hr
   obtain⟨m,hn,_⟩:=id I5.loc
   have un:Un (frs X.stack) fp H3 H4 s3.heap s5.heap:=I5.base
   have sz3:s3.heap.objs.size≤P2.objs.size:=by rw[hs3h];exact Nat.le_refl _
   have IX:Inv X pins σ H4 s5:=I3.call' (ch:=fp) I5.os un I5.hok I5.bare fun b hb=>⟨(f2 b hb).2.2.2.1,(f2 b hb).2.1,(f2 b hb).2.2.2.2.1,(f2 b hb).2.2.2.2.2⟩
   exact fin l P2.objs.size H4 s5 m IX qn hn (I3.fpOk sz3 I5.free)
  ·refine thn (T.item Y rfl rfl rfl hc i [] s4 σ4 H4 Y.xe I4 (stat fr4) st4 go) fun r s5 ⟨u,hr,h5⟩=>?_
   subst hr
   refine thn h5 fun _ s6 ⟨x,H6,I6,r6,y6,st6,fr6⟩=>?_
   have I6':=I6.pinned (stat fr6) (T.obj _ _ st6)
   refine thn (hg _ _ _ _ _ _ s6 σ4 H6 x u _ I6' r6 (step x H6 y6)) fun _ s7 ⟨σ7,H7,I7,q7⟩=>?_
   refine zgj (ht _ _ _ _ _ _ s7 σ7 H7 _ I7 q7) fun b s8 ⟨H8,I8,q8⟩=>?_
   have again:∀ {σ9:St}{H9:Hp}{s9:Shared}{acc9:List V},Inv Y ([]++zc8 fp s6.heap) σ9 H9 s9→(∃ m',m'<n∧W (i+1) m' acc9 σ9 H9)→∃ m,m<n∧∃ i acc σ' H',Inv Y [] σ' H' s9∧tn i s9.heap∧(∀ b∈fp,H' b=none)∧W i m acc σ' H':=fun {σ9 H9 s9 acc9} I9 ⟨m',hm,w9⟩=>by
    refine⟨m',hm,i+1,acc9,σ9,H9,I9.unpinned,T.keep _ _ _ st6 fun b hb o e=>(I9.pin (b,o) (List.mem_append_right _ (List.mem_append_right _ (zbg hb e)))).1,fun b hb=>?_,w9⟩
    obtain⟨o,e,d⟩:=T.obj _ _ st6 b hb
    exact(I9.pin (b,o) (List.mem_append_right _ (List.mem_append_right _ (zbg hb e)))).2.1
   cases b with
   | false =>
    rw[if_neg Bool.false_ne_true]at q8 ⊢
    exact again I8 q8
   | true =>
    rw[if_pos rfl]at q8 ⊢
    refine thn (he _ _ _ _ _ _ s8 σ7 H8 _ I8 q8) fun yv s9 ⟨y,H9,I9,r9,hl9,hz9,q9⟩=>?_
    refine thn (zbw (X:=Y) _ s9 σ7 H9 (.ref l) [y] (.ref l) [yv] (fun _ H'=>H'=upd H9 l (.lst (acc++[y]))) I9 rfl (.cons r9 .nil) ⟨l,acc,y,rfl,rfl,hl9,hz9,rfl⟩) fun _ s10 ⟨_,H10,I10,_,e10⟩=>?_
    subst e10
    exact again I10 q9
 exact codeAny_compStart_list loop (T.self X.A 0 _ _ _ st1 loop)
theorem Inv.gone {X:Cx}{pins:List (Addr × Obj)}{σ:St}{H:Hp}{s:Shared}{C:Addr}{h':Heap}(I:Inv X pins σ H s) (f:FpOk X pins H C) (sb:Heap.SameBut C s.heap h'):Inv X pins σ H { s with heap:=h' } :=
 I.turned (t':=s.toks) (fun b o hb e=>(sb.2 b hb).trans e) f.1 f.2.1 f.2.2.2.1 f.2.2.2.2.1 f.2.2.2.2.2
theorem zgv {X:Cx}{elt tg iter:Expr}{o:Option Expr}{scope:Scope}{pos:Pos}{wi:TI}{g:TG}{tt:TT}{te:TE}{N':List Str}{cap:List (Option Nat)}
  (hc:X.calm=true) (hi:PI X tg iter wi) (ck:CapOk X.N N' X.env.scope scope cap)
  (hg:∀ C s₀ H₀ fp pins,PG (zbk X N' scope C s₀ H₀ fp pins) tg g)
  (ht:∀ C s₀ H₀ fp pins,PTo (zbk X N' scope C s₀ H₀ fp pins) o tt)
  (he:∀ C s₀ H₀ fp pins,PE (zbk X N' scope C s₀ H₀ fp pins) elt te)
  (hs:∀ x,foldedSetIterable iter X.env x=pure x:=by intro _;rfl) :
  PE X (.ListComp elt [⟨tg,iter,o.toList,0⟩] scope pos) (tLC cap wi g tt te):=by
 intro pins s σ H Q I h
 rw[eval_ListComp]
 exact zfD (use:=none) hc hi ck hg ht he hs I h fun l C H4 s5 m I5 q hn f=>⟨m,hn,fun h' sb=>⟨.ref l,H4,I5.gone f sb,rfl,q⟩⟩
theorem zgq {X:Cx}{i:Nat}{y:Str}{elt tg iter:Expr}{o:Option Expr}{scope:Scope}{pos spos py:Pos}{wi:TI}{g:TG}{tt:TT}{te:TE}{N':List Str}{cap:List (Option Nat)}
  (hN:X.N.Nodup) (hi':X.N[i]?=some y) (hy:X.env.scope.names.lookup y=some .local) (hc:X.calm=true) (hi:PI X tg iter wi) (ck:CapOk X.N N' X.env.scope scope cap)
  (hg:∀ C s₀ H₀ fp pins,PG (zbk X N' scope C s₀ H₀ fp pins) tg g)
  (ht:∀ C s₀ H₀ fp pins,PTo (zbk X N' scope C s₀ H₀ fp pins) o tt)
  (he:∀ C s₀ H₀ fp pins,PE (zbk X N' scope C s₀ H₀ fp pins) elt te)
  (hs:∀ x,foldedSetIterable iter X.env x=pure x:=by intro _;rfl)
  (hsw:swapsWith (.ListComp elt [⟨tg,iter,o.toList,0⟩] scope pos) (some (.Name y py)) spos.line X.env=pure true:=by with_unfolding_all rfl) :
  PS X (.Assign [.Name y py] (.ListComp elt [⟨tg,iter,o.toList,0⟩] scope pos) spos) (tAsg (tLC cap wi g tt te) (zb9 i)):=by
 intro pins s σ H D I h
 rw[exec_Assign_Name_used y py _ spos hsw]
 refine wpAny_bind (wpAny_standAt (wpAny_bind (wpAny_bind (thn (zfD (use:=some (assign (.Name y py) X.env)) (Q0:=fun _ z=>SP X pins D .next z) hc hi ck hg ht he hs I h fun l C H4 s5 m I5 q hn f=>?_) fun _ z hz=>wpAny_pure (wpAny_pure hz)))))
 refine wpAny_assign_Name (zcZ (v:=.ref l) I5 hN hi' (.inl hy) rfl (fun s6 I6 ⟨a,sb,ha⟩=>?_) (.inr hy))
 have nC:C≠a:=by
  rcases ha with z|z
  ·rw[z];exact f.2.1
  ·exact fun w=>f.2.2.2.2.1 y a z w.symm
 have hn6:s6.heap.Ns C m:=hn.sameBut sb nC
 exact⟨m,hn6,fun h' sb'=>⟨_,H4,I6.gone f sb',q⟩⟩
end L2
namespace Own
open PySem PySem.Spec PyProof.Rows
section
variable {M:Model}{prog:Program}{w:World}{A:Around}{E:Value→Shared→Prop}{s:Shared}{α:Type}{Q:α→Shared→Prop}
theorem rf {a:Addr}{o:Obj}{vs:Array Value}{x:Value}{f:Value→Sem α}(k:Nat) (ho:s.heap.get? a=some o) (hd:o.data=.fields vs) (hx:vs[k]?=some x) (h:wpAny M A (f x) Q E s) :
  wpAny M A (field (.ref a) k >>= f) Q E s:=wpAny_bind (wpAny_field ho hd hx h)
theorem nx {T id:String}{B:Builtin}{it:Addr}{P:Value→Shared→Prop}(slot:Slot T "__next__" id) (ty:s.TypeIs (.ref it) T) (en:entryFor table id=some B) (ok:argsOk id ⟨[.ref it],[]⟩)
  (h:wpAny (model prog w) A.in1 (B ⟨[.ref it],[]⟩) (fun r s'=>∃ v,r=.done (.ret v)∧P v s') E s):wpAny (model prog w) A (Builtin.SmallTypes.nextOf (.ref it)) P E s:=by
 unfold Builtin.SmallTypes.nextOf;refine wpAny_bind (wpAny_callSpecial?_slot (name:="__next__") ty slot (wpAny_call_entry slot ty en (thn2 h) ok))
where
 thn2 {B':Sem Fin}{P:Value→Shared→Prop}{A':Around}(h:wpAny (model prog w) A' B' (fun r s'=>∃ v,r=.done (.ret v)∧P v s') E s) :
   wpAny (model prog w) A' B' (fun r s'=>∃ v,r=.done (.ret v)∧wpAny (model prog w) A (pure v) P E s') E s :=
  wpAny_mono h (fun _ _ ⟨v,e,q⟩=>⟨v,e,wpAny_pure q⟩) fun _ _ z=>z
end
theorem ends {A:Around}{E:Value→Shared→Prop}{prog:Program}{w:World}{s:Shared}{α:Type}{Q:α→Shared→Prop}(hh:A.handled=none)
  (h:∀ h' x,(∀ b o,s.heap.get? b=some o→h'.get? b=some o)→(∃ o,h'.get? x=some o∧o.cls=.type "StopIteration")→E (.ref x) { s with heap:=h' }) :
  wpAny (model prog w) A (Builtin.SmallTypes.stopIteration:Sem α) Q E s:=by
 unfold Builtin.SmallTypes.stopIteration newExc newTuple
 refine wpAny_bind (wpAny_bind (wpAny_newObj_type ?_ (by size_fits)))
 refine wpAny_bind (wpAny_of_eq (a:=Value.none) (by rfl) (wpAny_newObj_type (wpAny_raiseNew_none hh (h _ _ (fun b o e=>?_) ⟨_,Heap.get?_push_size _ rfl,rfl⟩)) (by size_fits)))
 exact Heap.get?_push_of_some _ (Heap.get?_push_of_some _ e)
def cN:Bool→String
 | true=>"list_iterator"
 | false=>"tuple_iterator"
abbrev RIt (b:Bool) (h:Heap) (it a:Addr) (i:Int):Prop:=h.get? it=some { cls:=.type (cN b),dict:=none,data:=.fields #[.ref a,.int i 0],slots:=#[] }
def SqO:Bool→Heap→Addr→Array Value→Prop
 | true,h,a,xs=>h.IsList a xs
 | false,h,a,xs=>h.IsTuple a xs
theorem SqO.ob {b:Bool}{h:Heap}{a:Addr}{xs:Array Value}(x:SqO b h a xs):∃ o n,h.get? a=some o∧o.data=.seq xs n:=by
 cases b<;>(obtain⟨o,e,_,n,d⟩:=x;exact⟨o,n,e,d⟩)
theorem SqO.mv {b:Bool}{h h':Heap}{a:Addr}{xs:Array Value}(x:SqO b h a xs) (k:∀ o,h.get? a=some o→h'.get? a=some o):SqO b h' a xs:=by
 cases b<;>(obtain⟨o,e,r⟩:=x;exact⟨o,k o e,r⟩)
theorem SqO.ne {b b':Bool}{h:Heap}{a it a':Addr}{i:Int}{xs:Array Value}(x:SqO b h a xs) (y:RIt b' h it a' i):a≠it:=fun z=>by
 obtain⟨o,n,e,d⟩:=x.ob
 rw[z,y]at e;cases e;cases d
section
variable {prog:Program}{w:World}{A:Around}{E:Value→Shared→Prop}{s:Shared}
theorem ty {b:Bool}{it a:Addr}{i:Int}(y:RIt b s.heap it a i):s.TypeIs (.ref it) (cN b):=⟨_,y,rfl⟩
theorem zdJ {b:Bool}{it a:Addr}{i:Nat}{xs:Array Value}{x:Value}{P:Value→Shared→Prop}{B:Builtin}(hB:B=match b with|true=>Builtin.«list_iterator.__next__»|false=>Builtin.«tuple_iterator.__next__»)
  (y:RIt b s.heap it a i) (sq:SqO b s.heap a xs) (hx:xs[i]?=some x) (h:∀ h',RIt b h' it a (i+1)→Heap.SameBut it s.heap h'→P x { s with heap:=h' }) :
  wpAny (model prog w) A (B ⟨[.ref it],[]⟩) (fun r s'=>∃ v,r=.done (.ret v)∧P v s') E s:=by
 obtain⟨o,n,e,d⟩:=sq.ob
 have fin:wpAny (model prog w) A (match xs[(i:Int).toNat]? with
   | some x=>(do setField (.ref it) 1 (rawInt ((i:Int)+1));ret x:Sem Fin)
   | none=>Builtin.SmallTypes.stopIteration) (fun r s'=>∃ v,r=.done (.ret v)∧P v s') E s:=by
  rw[Int.toNat_natCast,hx]
  exact wpAny_bind (wpAny_setField_rec y (show 1<2 by decide) fun h' y' sb=>wpAny_pure ⟨x,rfl,h h' y' sb⟩)
 rw[Int.toNat_natCast,hx]at fin
 subst hB
 cases b <;>
 ·refine rf 0 y rfl rfl (PyIte (show ¬((Value.ref a == Value.none)=true) from Bool.false_ne_true) (rf 1 y rfl rfl (wpAny_bind (wpAny_seqItems e d ?_))))
  simp only[Int.toNat_natCast,hx];exact fin
where
 PyIte {c:Prop} [Decidable c] {α:Type}{a b:Sem α}{M:Model}{A:Around}{Q:α→Shared→Prop}{E:Value→Shared→Prop}{s:Shared}(hc:¬ c) (h:wpAny M A b Q E s):wpAny M A (if c then a else b) Q E s:=by
  rw[if_neg hc];exact h
theorem zc2 {b:Bool}{it a:Addr}{i:Nat}{xs:Array Value}{Q:Fin→Shared→Prop}{B:Builtin}(hB:B=match b with|true=>Builtin.«list_iterator.__next__»|false=>Builtin.«tuple_iterator.__next__»)
  (hh:A.handled=none) (y:RIt b s.heap it a i) (sq:SqO b s.heap a xs) (hx:xs[i]?=none)
  (h:∀ h' x,(∀ c o,c≠it→s.heap.get? c=some o→h'.get? c=some o)→(∃ o,h'.get? x=some o∧o.cls=.type "StopIteration")→E (.ref x) { s with heap:=h' }) :
  wpAny (model prog w) A (B ⟨[.ref it],[]⟩) Q E s:=by
 obtain⟨o,n,e,d⟩:=sq.ob
 subst hB
 cases b <;>
 ·refine rf 0 y rfl rfl (zdJ.PyIte (show ¬((Value.ref a == Value.none)=true) from Bool.false_ne_true) (rf 1 y rfl rfl (wpAny_bind (wpAny_seqItems e d ?_))))
  simp only[Int.toNat_natCast,hx];refine wpAny_bind (wpAny_rule (wpAny_bind (wpAny_setField_rec y (show 0<2 by decide) fun h1 _ sb=>?_)))
  exact ends hh fun h2 x k z=>h h2 x (fun c o hc q=>k c o ((sb.2 c hc).trans q)) z
theorem zii {b:Bool}{it a:Addr}{i:Nat}{xs:Array Value}{x:Value}{P:Value→Shared→Prop}(y:RIt b s.heap it a i) (sq:SqO b s.heap a xs) (hx:xs[i]?=some x)
  (h:∀ h',RIt b h' it a (i+1)→Heap.SameBut it s.heap h'→P x { s with heap:=h' }):wpAny (model prog w) A (Builtin.SmallTypes.nextOf (.ref it)) P E s:=by
 cases b
 ·exact nx F.slot_tuple_iterator_next (ty y) F.entry_tuple_iterator_next (F.args_tuple_iterator_next_1 _) (zdJ (b:=false) rfl y sq hx h)
 ·exact nx slot_listiter_next (ty y) entry_listiter_next (args_listiter_next _) (zdJ (b:=true) rfl y sq hx h)
theorem zfs {b:Bool}{it a:Addr}{i:Nat}{xs:Array Value}{P:Value→Shared→Prop}(hh:A.handled=none) (y:RIt b s.heap it a i) (sq:SqO b s.heap a xs) (hx:xs[i]?=none)
  (h:∀ h' x,(∀ c o,c≠it→s.heap.get? c=some o→h'.get? c=some o)→(∃ o,h'.get? x=some o∧o.cls=.type "StopIteration")→E (.ref x) { s with heap:=h' }) :
  wpAny (model prog w) A (Builtin.SmallTypes.nextOf (.ref it)) P E s:=by
 have inner:A.in1.handled=none:=hh
 cases b
 ·exact nx F.slot_tuple_iterator_next (ty y) F.entry_tuple_iterator_next (F.args_tuple_iterator_next_1 _) (zc2 (b:=false) rfl inner y sq hx h)
 ·exact nx slot_listiter_next (ty y) entry_listiter_next (args_listiter_next _) (zc2 (b:=true) rfl inner y sq hx h)
theorem zfJ {b:Bool}{a:Addr}{xs:Array Value}{P:Value→Shared→Prop}(sq:SqO b s.heap a xs)
  (h:P (.ref s.heap.objs.size) { s with heap:=s.heap.push { cls:=.type (cN b),data:=.fields #[.ref a,.int 0 0] } }):wpAny (model prog w) A (pyIter (.ref a)) P E s:=by
 cases b
 ·exact wpAny_pyIter_tuple sq h
 ·exact wpAny_pyIter_list sq h
end
theorem draws {prog:Program}{w:World}{A:Around}(hh:A.handled=none) (b:Bool) (it a:Addr) (xs:Array Value) (hne:a≠it) :
  Draws prog w A it [it,a] xs.size (fun i v=>xs[i]?=some v) (fun i h=>RIt b h it a i∧SqO b h a xs) :=
 ⟨fun _ _ st=>⟨_,st.1⟩,fun _ _ _ st k=>⟨k it List.mem_cons_self _ st.1,st.2.mv fun o e=>k a (List.mem_cons_of_mem _ List.mem_cons_self) o e⟩,
  fun i s Q E hi st k=>zii st.1 st.2 (Array.getElem?_eq_getElem hi) fun h' y sb=>k _ h' s.toks (Array.getElem?_eq_getElem hi) ⟨y,st.2.mv fun o e=>(sb.2 a hne).trans e⟩ sb,
  fun s Q E st k=>zfs hh st.1 st.2 (by simp) fun h' x kk z=>k h' x (fun c o hc q=>kk c o hc q) z⟩
theorem zg6 (b:Bool) (a:Addr) (o:Obj) (xs:Array Value) :
  Meets (Builtin.«enumerate.__new__» ⟨[.type "enumerate",.ref a],[]⟩) (fun _ R s=>s.heap.get? a=some o∧SqO b s.heap a xs ∧
   R (.ok (.ret (.ref (s.heap.push { cls:=.type (cN b),data:=.fields #[.ref a,.int 0 0] }).objs.size)))
    { s with heap:=(s.heap.push { cls:=.type (cN b),data:=.fields #[.ref a,.int 0 0] }).push { cls:=.type "enumerate",data:=.fields #[.none,.bool false,.ref s.heap.objs.size,rawInt 0,.none,.none] } }) :=
 .of_wp fun prog w A R s h=>by
  obtain⟨hp,g,d,tk,os⟩:=s;obtain⟨ho,sq,h⟩:=h
  have sub:=sub_enumerate
  have sq':SqO b (Shared.heap ⟨hp,g,d,tk,os⟩) a xs:=sq
  wp_walk using AutoSeq1.wpAny_loadPart' ho;refine wpAny_stack_any fun st=>wpAny_pure ?_
  split
  case h_1 c _ _ _ _ _ =>
   cases (c == Value.type "enumerate")<;>(wp_walk using AutoSeq1.wpAny_loadPart' ho,zfJ sq';exact⟨_,rfl,h⟩)
  all_goals (wp_walk using AutoSeq1.wpAny_loadPart' ho,zfJ sq';exact⟨_,rfl,h⟩)
theorem zf8 {prog:Program}{w:World}{A:Around}{E:Value→Shared→Prop}{s:Shared}{b:Bool}{a:Addr}{xs:Array Value}{P:Value→Shared→Prop}(sq:SqO b s.heap a xs)
  (h:∀ h' e it,s.heap.objs.size≤e→s.heap.objs.size≤it→e≠it→IsEnum h' e it 0 .none→RIt b h' it a 0→(∀ c o,s.heap.get? c=some o→h'.get? c=some o)→P (.ref e) { s with heap:=h' }) :
  wpAny (model prog w) A (call (.type "enumerate") [.ref a]) P E s:=by
 obtain⟨o,n,ho,_⟩:=sq.ob
 refine callType_new F.called_enumerate (by decide) (F.typeCall_enumerate_1 _) (F.newCall_enumerate_1 _) (fun obj=>F.args_object_init_2 obj _) F.entry_enumerate_new (zg6 b a o xs) ⟨ho,sq,⟨_,Heap.get?_push_size _ rfl,rfl⟩,?_⟩
 refine h _ _ _ ?_ (Nat.le_refl _) ?_ (Heap.get?_push_size _ rfl) (Heap.get?_push_of_some _ (Heap.get?_push_size _ rfl)) fun c o e=>Heap.get?_push_of_some _ (Heap.get?_push_of_some _ e)
 ·rw[Heap.size_push];exact Nat.le_succ _
 ·rw[Heap.size_push];exact Nat.succ_ne_self _
section
variable {prog:Program}{w:World}{A:Around}{E:Value→Shared→Prop}{s:Shared}{z TI TO i1 i2:Addr}{f1 f2:List Addr}{n1 n2 k:Nat}{P1 P2:Nat→Value→Prop}{S1 S2:Nat→Heap→Prop}{a b:Value}
end
section
variable {prog:Program}{w:World}{A:Around}{E:Value→Shared→Prop}{s:Shared}{z TI TO i1 i2:Addr}{f1 f2:List Addr}{n1 n2 k:Nat}{P1 P2:Nat→Value→Prop}{S1 S2:Nat→Heap→Prop}{a b:Value}
end
end Own
namespace L2
open PySem PySem.Spec PyProof.Rows Own
section
variable {X:Cx}{pins:List (Addr × Obj)}{σ:St}{H:Hp}{s:Shared}{h':Heap}
theorem Inv.spunN {fp:List Addr}{T:Addr}{o:HO}{t':Nat}(I:Inv X pins σ H s) (k:∀ b o,b∉fp→s.heap.get? b=some o→h'.get? b=some o) (hf:∀ b∈fp,FpOk X pins H b) (hT:s.heap.objs.size≤T)
  (new:ObjOk X.prog X.w (upd H T o) h' T o):Inv X pins σ (upd H T o) { s with heap:=h',toks:=t' }:=by
 have hn:H T=none:=I.hok.fresh hT
 have neT:∀ b u,s.heap.get? b=some u→b≠T:=fun b u e=>Nat.ne_of_lt (Nat.lt_of_lt_of_le (Heap.lt_size e) hT)
 have nfp:∀ b u,H b=some u→b∉fp:=fun b u e hb=>by rw[(hf b hb).1]at e;cases e
 refine I.step (g':=s.gens) (d':=s.drawn) (ch:=fp) (fun b hb=>?_) (fun b o _ _ hc e _=>k b o hc e) (fun b o _ _ hc e _=>⟨o.slots,k b o hc e⟩) (fun b o _ e n=>by rw[zaj (neT b o e)];exact n)
  (fun b o hc e=>⟨o,k b o hc e⟩) (fun b xs e=>by rw[zaj (zai e hn)];exact e) (fun b o u e=>by rw[zaj (zai e hn)];exact e) (fun b ps e=>⟨#[],by rw[zaj (zai e hn),e];simp⟩) (fun m hm=>?_) (fun b u e=>?_) I.bare
 ·obtain⟨f0,f1,f2,f3,f4,f5⟩:=hf b hb
  exact⟨f3,f1,f4,f5⟩
 ·obtain⟨o,es,ep,ho,r⟩:=hm
  exact⟨o,es,ep,k _ o (fun hb=>(hf _ hb).2.1 rfl) ho,r⟩
 ·by_cases hb:b=T
  ·subst hb;rw[zac]at e;cases e;exact new
  ·rw[zaj hb]at e
   refine(I.hok b u e).stay (fun c v hc q=>k c v ?_ q) (fun c q=>by rw[zaj (zai q hn)];exact q) fun c xs q=>by rw[zaj (zai q hn)];exact q
   rcases hc with z|z
   ·rw[z];exact nfp b u e
   ·exact nfp c _ z
theorem Inv.spun {fp:List Addr}{t':Nat}(I:Inv X pins σ H s) (k:∀ b o,b∉fp→s.heap.get? b=some o→h'.get? b=some o) (hf:∀ b∈fp,FpOk X pins H b):Inv X pins σ H { s with heap:=h',toks:=t' }:=by
 have nfp:∀ b u,H b=some u→b∉fp:=fun b u e hb=>by rw[(hf b hb).1]at e;cases e
 refine I.step (g':=s.gens) (d':=s.drawn) (ch:=fp) (fun b hb=>?_) (fun b o _ _ hc e _=>k b o hc e) (fun b o _ _ hc e _=>⟨o.slots,k b o hc e⟩) (fun b o _ e n=>n)
  (fun b o hc e=>⟨o,k b o hc e⟩) (fun b xs e=>e) (fun b o u e=>e) (fun b ps e=>⟨#[],by rw[e];simp⟩) (fun m hm=>?_) (fun b u e=>?_) I.bare
 ·obtain⟨f0,f1,f2,f3,f4,f5⟩:=hf b hb
  exact⟨f3,f1,f4,f5⟩
 ·obtain⟨o,es,ep,ho,r⟩:=hm
  exact⟨o,es,ep,k _ o (fun hb=>(hf _ hb).2.1 rfl) ho,r⟩
 ·refine(I.hok b u e).stay (fun c v hc q=>k c v ?_ q) (fun c q=>q) fun c xs q=>q
  rcases hc with z|z
  ·rw[z];exact nfp b u e
  ·exact nfp c _ z
end
def SqB:Bool→PySem.W.Frag→Hp→Addr→List V→Prop
 | true,K,H,a,xs=>SqL K H a xs
 | false,K,H,a,xs=>SqT K H a xs
section
variable {X:Cx}{pins:List (Addr × Obj)}{σ:St}{H:Hp}{s:Shared}{a c:Addr}{xs ys:List V}{b:Bool}
theorem Inv.sq (I:Inv X pins σ H s) (h:SqB b X.K H a xs):∃ its:List Value,Vals xs its∧SqO b s.heap a its.toArray:=by
 cases b
 ·obtain⟨its,r,p,z⟩:=I.tuple h
  exact⟨its,r,p⟩
 ·obtain⟨its,r,p,z⟩:=I.list h
  exact⟨its,r,p.isList⟩
theorem Inv.sq_inj (I:Inv X pins σ H s) (h:SqB b X.K H a xs) (h':SqB b X.K H a ys):xs=ys:=by
 cases b
 ·exact I.tuple_inj h h'
 ·exact I.list_inj h h'
theorem Inv.sq_ne (I:Inv X pins σ H s) (h:SqB b X.K H a xs) (f:FpOk X pins H c):c≠a:=by
 rintro rfl
 have inK:∀ o,X.K.lookup c=some o→False:=fun o e=>by
  have e1:=I.ok.mod.kin c o e
  rcases f.2.2.2.1 with z|z
  ·exact I.ok.noex c o e1 z
  ·exact absurd (Nat.lt_of_lt_of_le (Heap.lt_size e1) (Nat.le_trans I.ok.bsz z)) (Nat.lt_irrefl _)
 cases b <;>
 ·rcases h with (h|⟨o,h⟩)|⟨o,_,_,e,_⟩
  ·rw[f.1]at h;cases h
  ·rw[f.1]at h;cases h
  ·exact inK o e
end
def Pr (v u:V) (H:Hp) (x:V) (H':Hp):Prop:=∃ T,H T=none∧x=.ref T∧H'=upd H T (.tup [v,u])
theorem zh1 {P:Program}{w:World}{H:Hp}{h:Heap}{T:Addr}{v u:V}{a b:Value}(e:IsPair h T a b) (rv:RelV v a) (ru:RelV u b):ObjOk P w (upd H T (.tup [v,u])) h T (.tup [v,u]) :=
 ⟨show 2≤sizeLine by decide,[a,b],.cons rv (.cons ru .nil),⟨_,e,rfl,_,rfl,rfl⟩⟩
def Ite (K:PySem.W.Frag) (b:Bool) (a:Addr):It :=
 ⟨fun i H=>∃ xs x,SqB b K H a xs∧xs[i]?=some x,fun i H x H'=>∃ y,(∀ xs,SqB b K H a xs→xs[i]?=some y)∧Pr (.int i) y H x H',fun i H=>∃ xs,SqB b K H a xs∧xs.length=i⟩
theorem zeI {P:Program}{w:World}{K:PySem.W.Frag}{es:List Expr}{k1} {p1:Pos}(b:Bool) (a e it:Addr) (hne:e≠it):Turn P w K (.Tuple es k1 p1) (Ite K b a) [e,it] e (fun i h=>(∃ old,IsEnum h e it i old)∧RIt b h it a i) where
 mem:=List.mem_cons_self
 obj:=fun i h ⟨⟨old,he⟩,hi⟩ c hc=>by
  rcases List.mem_cons.mp hc with q|q
  ·rw[q];exact⟨_,he,fun v z=>by cases z⟩
  ·rw[List.mem_singleton.mp q];exact⟨_,hi,fun v z=>by cases z⟩
 keep:=fun i h h' ⟨⟨old,he⟩,hi⟩ kk=>⟨⟨old,kk e (by simp) _ he⟩,kk it (by simp) _ hi⟩
 item:=by
  intro X hP hw hK hc i pins s σ H E I hf ⟨⟨old,he⟩,hi⟩ ⟨xs,x,hq,hx⟩
  subst hP hw hK
  obtain⟨its,rv,p⟩:=I.sq hq
  obtain⟨u,hu,ru⟩:=rv.get hx
  have hlt:i<its.toArray.size:=by simpa using (List.getElem?_eq_some_iff.mp hu).1
  refine wpAny_pyNext_enum_itemD (draws (prog:=X.prog) (w:=X.w) (A:=X.A.in1) (I.ok.hd hc) b it a its.toArray (p.ne hi)) he ⟨hi,p⟩ hlt hne (by simp[hne,I.sq_ne hq (hf e (by simp))]) fun v h1 tk hv ho hs hT _ hk=>?_
  obtain rfl:u=v:=Option.some.inj (hu.symm.trans (by simpa using hv))
  refine⟨_,rfl,wpAny_letOwnedTupleGo_enum ho fun h2 he2 s2=>?_⟩
  have nT:s.heap.objs.size≠e:=Nat.ne_of_gt (Heap.lt_size he)
  have nI:s.heap.objs.size≠it:=Nat.ne_of_gt (Heap.lt_size hi)
  refine⟨.ref s.heap.objs.size,_,I.spunN (fp:=[e,it]) (fun c o hm q=>?_) hf (Nat.le_refl _) (zh1 (v:=.int i) (u:=x) ((s2.2 _ nT).trans hT) ⟨tk,rfl⟩ ru),rfl,⟨x,fun ys hy=>by rw[I.sq_inj hy hq];exact hx,_,I.fresh,rfl,rfl⟩,⟨⟨_,he2⟩,(s2.2 it (Ne.symm hne)).trans hs.1⟩,fun c hm=>?_⟩
  ·have c1:c≠e:=fun z=>hm (by simp[z])
   exact(s2.2 c c1).trans (hk c o c1 (fun z=>hm (by simp[z])) q)
  ·rw[zaj,(hf c hm).1]
   rintro rfl
   rcases List.mem_cons.mp hm with z|z
   ·exact nT z
   ·exact nI (List.mem_singleton.mp z)
 done:=by
  intro X hP hw hK hc i pins s σ H E I hf ⟨⟨old,he⟩,hi⟩ ⟨xs,hq,hx⟩
  subst hP hw hK
  obtain⟨its,rv,p⟩:=I.sq hq
  have hz:i=its.toArray.size:=by rw[List.size_toArray,← rv.length,hx]
  refine wpAny_pyNext_enum_endD (draws (prog:=X.prog) (w:=X.w) (A:=X.A.in1) (I.ok.hd hc) b it a its.toArray (p.ne hi)) he ⟨by rw[← hz];exact hi,p⟩ fun h' eb=>⟨rfl,I.spun (t':=s.toks) (fp:=[e,it]) (fun c o hm q=>eb c o (fun z=>hm (by simp[z])) q) hf⟩
 self:=fun _ _ _ _ _ ⟨⟨_,he⟩,_⟩ h=>wpAny_pyIter_enum he h
def zj2 (K:PySem.W.Frag) (b:Bool) (ta:TA):TI:=fun σ H R=>ta σ H fun vs H1=>∃ a xs,vs=[.ref a]∧SqB b K H1 a xs∧R (Ite K b a) H1
theorem zdK {X:Cx}{a:Expr}{ta:TA}{p pos p1:Pos}{es:List Expr}{k1} (b:Bool) (hg:Gl X "enumerate") (hm:X.mg "enumerate" = none) (ha:PA X [a] ta) (hs:starEach [a] X.env=[(false,eval a X.env)]:=by rfl) :
  PI X (.Tuple es k1 p1) (.Call (.Name "enumerate" p) [a] [] pos) (zj2 X.K b ta):=by
 intro pins s σ H R I h
 refine Call_ (zbI I hg hm (u:=.type "enumerate") (by rfl) (PyProof.Rows.callWith_type1 (thn (ha pos pins s σ H _ I h) fun us s1 ⟨vs,H1,I1,r1,q1⟩=>?_) hs rfl))
 obtain⟨a',xs,rfl,hq,q⟩:=q1
 obtain⟨u,rfl,ru⟩:=r1.one
 cases ru
 obtain⟨its,rv,pl⟩:=I1.sq hq
 refine zf8 pl fun h' e it l1 l2 ne he hi hk=>wpAny_pyIter_enum he ⟨_,[e,it],_,_,H1,rfl,I1.kept (t':=s1.toks) hk,zeI b a' e it ne,⟨⟨_,he⟩,hi⟩,fun c hc=>?_,q⟩
 have hc':s1.heap.objs.size≤c:=by
  rcases List.mem_cons.mp hc with z|z
  ·rw[z];exact l1
  ·rw[List.mem_singleton.mp z];exact l2
 exact I1.fpOk hc' (I1.hok.fresh hc')
section
variable {X:Cx}
theorem zbP:CallR X (.builtin "isinstance") (fun vs H Q=>∃ x T t k,vs=[x,.ty T]∧TyOf X.K H x t∧PySem.W.kitOne X.K t (.type T)=some k∧Q (.bl k) H):=by
 intro pins s σ H vs us Q I rv h
 obtain⟨x,T,t,k,rfl,ht,hk,q⟩:=h
 obtain⟨u,v,rfl,ru,rv'⟩:=rv.two
 cases (show v=Value.type T from rv')
 exact zfL I ru ht hk fun tk=>⟨.bl k,H,I.tok tk,rfl,q⟩
theorem zjw (ns ms:List Int):((List.range (min (ns.map V.int).length (ms.map V.int).length)).all (fun j=>eqV ((ns.map V.int).getD j .non) ((ms.map V.int).getD j .non)) && (ns.map V.int).length == (ms.map V.int).length)=decide (ns=ms):=by
 rw[Bool.eq_iff_iff,Bool.and_eq_true,List.all_eq_true,decide_eq_true_iff,beq_iff_eq,List.length_map,List.length_map]
 have at':∀ (l:List Int) (j:Nat) (h:j<l.length),(l.map V.int).getD j .non=.int l[j]:=fun l j h=>by
  rw[List.getD_eq_getElem?_getD,List.getElem?_map,List.getElem?_eq_getElem h];rfl
 constructor
 ·rintro⟨h,e⟩
  refine List.ext_getElem e fun j h1 h2=>?_
  have:=h j (List.mem_range.mpr (by lia))
  rw[at' ns j h1,at' ms j h2]at this
  simpa [eqV] using this
 ·rintro rfl
  refine⟨fun j hj=>?_,rfl⟩
  have hj':j<ns.length:=by have:=List.mem_range.mp hj;lia
  rw[at' ns j hj']
  simp[eqV]
theorem zdi (ns:List Int):(ns.map V.int).all zcR=true:=by
 rw[List.all_map,List.all_eq_true];intro _ _;rfl
end
example (K:PySem.W.Frag):PySem.W.kitOne K (.type "int") (.type "tuple")=some false:=by rfl
example (K:PySem.W.Frag):PySem.W.kitOne K (.type "int") (.type "bool")=some false:=by first|rfl|decide|(with_unfolding_all rfl)
theorem zad {H:Hp}{p:Addr}(h:H p=none) (o:HO):Same H (upd H p o):=fun b u q=>by rw[zaj (zai q h)];exact q
def capB (N N':List Str) (sc scope:Scope) (cap:List (Option Nat)):Bool :=
 decide (scope.kind=.function) && (scope.names.all fun y=>decide (y.2≠.cell) && (decide (y.2≠.local) || decide (scope.names.lookup y.1=some .local)) &&
  (decide (y.2≠.free) || (decide (sc.names.lookup y.1=some .cell) || decide (sc.names.lookup y.1=some .free)))) && decide (cap.length=N'.length) &&
 ((N'.zip cap).all fun p=>match p.2 with
  | none=>true
  | some i=>decide (N[i]?=some p.1) && (decide (scope.names.lookup p.1=some .free) && (decide (sc.names.lookup p.1=some .cell) || decide (sc.names.lookup p.1=some .free))))
theorem CapOk.of {N N':List Str}{sc scope:Scope}{cap:List (Option Nat)}(h:capB N N' sc scope cap=true):CapOk N N' sc scope cap:=by
 unfold capB at h
 simp only[Bool.and_eq_true,List.all_eq_true,Bool.or_eq_true,decide_eq_true_eq]at h
 obtain⟨⟨⟨h1,h2⟩,h3⟩,h4⟩:=h;refine⟨h1,fun y hy=>(h2 y hy).1.1,fun y hy e=>?_,fun y hy e=>?_,h3,fun p hp i e=>?_⟩
 ·rcases (h2 y hy).1.2 with z|z
  ·exact absurd e z
  ·exact z
 ·rcases (h2 y hy).2 with z|z
  ·exact absurd e z
  ·exact z
 ·have q:=h4 p hp
  rw[e]at q
  simp only[Bool.and_eq_true,Bool.or_eq_true,decide_eq_true_eq]at q
  exact q
def Nx (n i:Nat) (p:Prop):Prop:=∃ m',m'<n-i∧m'=n-(i+1)∧i+1≤n∧p
theorem nx {n i:Nat}{p:Prop}(h:i<n) (q:p):Nx n i p:=⟨n-(i+1),by lia,rfl,h,q⟩
theorem zg5 {K:PySem.W.Frag}{b:Bool}{a:Addr}{xs:List V}{g:TG}{tb:TS}{D:Ends}{σ:St}{H:Hp}(Pv:Nat→St→Hp→Prop) (h0:Pv 0 σ H) (hl:∀ i σ H,i≤xs.length→Pv i σ H→SqB b K H a xs)
  (hs:∀ i x σ H T,xs[i]?=some x→H T=none→Pv i σ H→g (.ref T) σ (upd H T (.tup [.int i,x])) fun σ2 H2=>tb { D with nx:=Pv (i+1),ct:=Pv (i+1),bk:=D.nx } σ2 H2) (hd:∀ σ H,Pv xs.length σ H→D.nx σ H) :
  ∃ W:Nat→Nat→St→Hp→Prop,(∃ m,W 0 m σ H)∧∀ i m σ H,W i m σ H →
   ((Ite K b a).stop i H∧D.nx σ H)∨((Ite K b a).go i H∧∃ N:St→Hp→Prop,(∀ σ' H',N σ' H'→∃ m',m'<m∧W (i+1) m' σ' H')∧∀ x H',(Ite K b a).yld i H x H'→g x σ H' fun σ2 H2=>tb { D with nx:=N,ct:=N,bk:=D.nx } σ2 H2):=by
 refine⟨fun i m σ H=>m=xs.length-i∧i≤xs.length∧Pv i σ H,⟨xs.length,by simp,Nat.zero_le _,h0⟩,?_⟩
 rintro i m σ H ⟨rfl,hi,p⟩
 have q:=hl i σ H hi p
 by_cases hlt:i<xs.length
 ·refine .inr ⟨⟨xs,xs[i],q,List.getElem?_eq_getElem hlt⟩,Pv (i+1),fun σ' H' p'=>⟨xs.length-(i+1),by lia,rfl,hlt,p'⟩,fun x H' ⟨y,ey,T,hT,e1,e2⟩=>?_⟩
  subst e1 e2
  exact hs i y σ H T (ey xs q) hT p
 ·have e:i=xs.length:=by lia
  subst e
  exact .inl ⟨⟨xs,q,rfl⟩,hd σ H p⟩
section
variable {X:Cx}
end
end L2
namespace Own
open PySem PySem.Spec PyProof.Rows
section
variable {prog:Program}{w:World}{A:Around}{E:Value→Shared→Prop}{s:Shared}
theorem SqO.cl {b:Bool}{a:Addr}{xs:Array Value}(x:SqO b s.heap a xs):s.TypeIs (.ref a) (if b then "list" else "tuple"):=by
 cases b<;>(obtain⟨o,e,c,_⟩:=x;exact⟨o,e,c⟩)
theorem zjo {b:Bool}{a:Addr}{vs:List Value}{Q:List Value→Shared→Prop}(sq:SqO b s.heap a vs.toArray) (hz:vs.length≤sizeLine)
  (h:∀ h',s.heap.objs.size≤h'.objs.size→(∀ c o,s.heap.get? c=some o→h'.get? c=some o)→Q vs { s with heap:=h' }):wpAny (model prog w) A (collect (.ref a)) Q E s:=by
 obtain⟨o,n,e,d⟩:=sq.ob
 have new:(s.heap.push (seqObj "list" #[] 0)).get? s.heap.objs.size=some (seqObj "list" #[] 0):=Heap.get?_push_size _ rfl
 have e':(s.heap.push (seqObj "list" #[] 0)).get? a=some o:=Heap.get?_push_of_some _ e
 have old:∀ c u,s.heap.get? c=some u→((s.heap.push (seqObj "list" #[] 0)).update s.heap.objs.size (Obj.mapSeq (·++vs.toArray))).get? c=some u:=fun c u q=>by
  rw[Heap.get?_update_other _ _ (Nat.ne_of_gt (Heap.lt_size q))];exact Heap.get?_push_of_some _ q
 have sq':SqO b (s.heap.push (seqObj "list" #[] 0)) a vs.toArray:=sq.mv fun o q=>Heap.get?_push_of_some _ q
 have short:((#[]:Array Value)++vs.toArray).size≤sizeLine+1:=by simp;lia
 unfold collect
 refine wpAny_bind (wpAny_runValue (codeAny_builtin entry_proto_collect' (wpAny_bind (wpAny_newList (wpAny_pure ⟨Code.quiet_builtin _ (by decide +kernel),codeAny_builtin entry_list_iadd' ?_⟩)))))
 show wpAny _ _ (Builtin.List.listExtendWith (.ref s.heap.objs.size) (.ref a) (.ref s.heap.objs.size)) _ _ ({ s with heap:=s.heap.push (seqObj "list" #[] 0) }:Shared)
 unfold Builtin.List.listExtendWith;have tyr:Shared.TypeIs ({ s with heap:=s.heap.push (seqObj "list" #[] 0) }:Shared) (.ref a) (if b then "list" else "tuple"):=SqO.cl sq'
 refine wpAny_bind (wpAny_typeOf tyr ?_)
 have yes:(Builtin.List.listSameRef (.ref s.heap.objs.size) (.ref a) || Value.type (if b then "list" else "tuple") == Value.type "list" || Value.type (if b then "list" else "tuple") == Value.type "tuple")=true:=by
  have c:∀ b:Bool,(Value.type (if b then "list" else "tuple") == Value.type "list" || Value.type (if b then "list" else "tuple") == Value.type "tuple")=true:=by decide
  rw[Bool.or_assoc,c b,Bool.or_true]
 rw[if_pos yes]
 refine wpAny_bind (listItems_at e' d (wpAny_bind (listItems_at new rfl ?_)))
 rw[if_neg (by simp)]
 refine wpAny_bind (listUpdate_at new rfl (wpAny_pure ?_) (Nat.zero_le _) short)
 refine wpAny_bind (wpAny_load (get?_update_seq new _) ?_)
 have all:((#[]:Array Value)++vs.toArray).toList=vs:=by simp
 have fin:wpAny (model prog w) A (pure ((#[]:Array Value)++vs.toArray).toList) Q E { s with heap:=(s.heap.push (seqObj "list" #[] 0)).update s.heap.objs.size (Obj.mapSeq (·++vs.toArray)) }:=by
  rw[all];exact wpAny_pure (h _ (by rw[Heap.size_update,size_push'];exact Nat.le_succ _) old)
 exact fin
end
end Own
namespace L2
open PySem PySem.Spec PyProof.Rows Own
section
variable {X:Cx}
end
section
variable {X:Cx}
end
theorem zio {K:PySem.W.Frag}{a:Addr}{xs:List V}{g:TG}{te:TE}{l:Addr}{σ:St}{H:Hp}{Q:VK}(Pv:Nat→List V→St→Hp→Prop) (h0:Pv 0 [] σ H) (hl:∀ i acc σ H,Pv i acc σ H→H l=some (.lst acc)∧SqL K H a xs)
  (hs:∀ i x acc σ H,xs[i]?=some x→Pv i acc σ H→g x σ H fun σ3 H3=>te σ3 H3 fun y H5=>H5 l=some (.lst acc)∧acc.length<sizeLine∧Nx xs.length i (Pv (i+1) (acc++[y]) σ3 (upd H5 l (.lst (acc++[y])))))
  (hd:∀ acc σ H,Pv xs.length acc σ H→Q (.ref l) H):∃ W:Nat→Nat→List V→St→Hp→Prop,(∃ m,W 0 m [] σ H)∧LCW (Itl K a) g tYes te l Q W:=by
 refine⟨fun i m acc σ H=>m=xs.length-i∧i≤xs.length∧Pv i acc σ H,⟨_,rfl,Nat.zero_le _,h0⟩,?_⟩
 rintro i m acc σ H ⟨rfl,hi,p⟩
 obtain⟨q0,q1⟩:=hl i acc σ H p
 refine⟨q0,?_⟩
 by_cases hlt:i<xs.length
 ·refine .inr ⟨⟨xs,xs[i],q1,List.getElem?_eq_getElem hlt⟩,fun x H2 ⟨e,y⟩=>?_⟩
  subst e
  exact hs i x acc σ _ (y xs q1) p
 ·obtain rfl:i=xs.length:=by lia
  exact .inl ⟨⟨xs,q1,Nat.le_refl _⟩,hd acc σ H p⟩
end L2
namespace L2
open PySem PySem.Spec PyProof.Rows PySem.Calls PySem.NumText Own
theorem zdP {M:Model}{K:PySem.W.Frag}{h:Heap}(X:K.In h) (e:PySem.W.nsIn K cStatics "sys.int_max_str_digits" = some none):PySem.W.Looks M h Builtin.intMaxStrDigits 4300:=by
 show PySem.W.Looks M h (nsGet cStatics "sys.int_max_str_digits" >>= _) 4300
 exact(PySem.W.looks_nsIn X e).andThen .now
theorem zhr {M:Model}{A:Around}{E:Value→Shared→Prop}{s:Shared}{Q:Value→Shared→Prop}{v:Value}{text:List Nat}{n:Int}
  (hl:PySem.W.Looks M s.heap Builtin.intMaxStrDigits 4300) (hs:¬(text.takeWhile (· != 0)).length≤640) (hr:(int_private% "readNumeral") 4300 10 (text.takeWhile (· != 0))=(int_private% "Numeral.value") n)
  (ha:((text.takeWhile (· != 0)).length == text.length)=true) (h:Q (.int n s.toks) { s with toks:=s.toks+1 }):wpAny M A ((int_private% "intFromText") v text 10) Q E s:=by
 cases s
 repeat (any_goals (first|assumption|(with_reducible refine wpAny_ite_false (decide_eq_false hs) ?_)|((with_reducible show wpAny _ _ Builtin.intMaxStrDigits _ _ _);refine PySem.W.Looks.at hl ?_)|wp_step))
 all_goals (try (rw[hr];dsimp only))
 repeat (any_goals (first|assumption|(with_reducible refine wpAny_ite_true (by rw[ha];rfl) ?_)|wp_step))
theorem zeA {K:PySem.W.Frag}{x:Str}{u:Tok}{n:Int}(e:PySem.W.nsIn K cStatics "sys.int_max_str_digits" = some none) (hl:x.length≤4300) (h6:¬(numSeenOf x).length≤640) (hn:intText? x=some n) :
  Meets (Builtin.«int.__new__» ⟨[.type "int",.str x u],[]⟩) (fun _ R s=>K.In s.heap∧R (.ok (.ret (.int n s.toks))) { s with toks:=s.toks+1 }) :=
 .of_wp fun prog w A R s h=>by
  cases s with
  | mk hp gs dr tk os =>
  obtain⟨KX,h⟩:=h
  have kinds:=And.intro PySem.W.KIN.str_int (And.intro PySem.W.KIN.str_idx PySem.W.KIN.str_trunc)
  obtain⟨k1,k2,k3⟩:=kinds
  have k4:=F.conv_sub_int;have k5:=F.madeHere_int
  have ofText:typeOf (.str x u)=pure (.type "str"):=rfl
  have lk:PySem.W.Looks (model prog w) hp Builtin.intMaxStrDigits 4300:=zdP KX e
  have rd:(int_private% "readNumeral") 4300 10 (numSeenOf x)=(int_private% "Numeral.value") n∧((numSeenOf x).length == (numTextOf x).length)=true:=by
   rcases read4300 x (Nat.le_trans hl (by decide)) with ⟨m,g1,g2,g3⟩|⟨g1,_⟩
   ·rw[hn]at g1;cases g1;exact⟨g3,g2⟩
   ·rw[hn]at g1;cases g1
  have all4:=PySem.W.KIN.Hid.mk (And.intro lk (And.intro h6 rd))
  clear lk h6 rd hl hn e KX
  repeat (any_goals (first|assumption|((with_reducible show wpAny _ _ ((int_private% "intFromText") _ _ _) _ _ _);refine zhr all4.out.1 all4.out.2.1 all4.out.2.2.1 all4.out.2.2.2 ?_)|wp_step))
  all_goals (first|exact Exists.intro _ (And.intro rfl h)|skip)
section
variable {X:Cx}
theorem zdn (e:PySem.W.nsIn X.K cStatics "sys.int_max_str_digits" = some none):CallR X (.type "int") (fun vs H Q=>∃ x:Str,vs=[.str x]∧AllDigits x.cps.toList∧640<x.length∧x.length≤4300∧Q (.int (digitsVal x.cps.toList:Nat)) H):=by
 intro pins s σ H vs us Q I rv h
 obtain⟨x,rfl,hd,h6,h43,q⟩:=h
 obtain⟨u,rfl,t,rfl⟩:=rv.one
 have xl:x.cps.toList.length=x.length:=by simp[Str.length]
 have ne:x.cps.toList≠[]:=fun z=>by rw[z]at xl;simp at xl;lia
 have hn:=intText_digits hd ne h43
 have seen:(numSeenOf x).length=x.length:=by
  rcases read4300 x (Nat.le_trans h43 (by decide)) with ⟨m,g1,g2,g3⟩|⟨g1,_⟩
  ·have a128:x.cps.all (· < 128)=true:=by
    rw[← Array.all_toList];refine List.all_eq_true.mpr fun c hc=>?_
    have:=(hd c hc).2
    exact decide_eq_true (show c<128 by lia)
   have g2':=eq_of_beq g2
   rw[g2']
   show (if x.cps.all (· < 128)=true then x.cps.toList else _).length=_
   rw[if_pos a128,xl]
  ·rw[hn]at g1;cases g1
 exact call_int_1 (zeA (K:=X.K) e h43 (by lia) hn) ⟨I.kIn,(typeIs_int _ _ _),.int _,H,I.tok _,⟨_,rfl⟩,q⟩
theorem zfj:OpR X (binaryOp .Mult) (fun x y H Q=>∃ (c:Nat) (n:Int),x=.str ⟨#[c]⟩∧y=.int n∧0≤n∧n≤100000∧∀ z:Str,z.cps.toList=List.replicate n.toNat c→Q (.str z) H):=by
 intro pins s σ H x y v u Q I rx ry h
 obtain⟨c,n,rfl,rfl,n0,n1,q⟩:=h
 obtain⟨t,rfl⟩:=rx
 obtain⟨t',rfl⟩:=ry
 have one:(⟨#[c]⟩:Str).length=1:=rfl
 refine PySem.P.mul_str (by rw[decide_eq_false (by lia),decide_eq_false (by lia)];rfl) (fun a b=>?_) (fun a b=>?_) ?_
 ·rw[one]
  have:(1:Int)≤(2 ^ 63-1) / n:=by
   rw[Int.le_ediv_iff_mul_le (by lia)];lia
  lia
 ·rw[one]
  exact decide_eq_false (by have:=sizeLine_eq;lia)
 ·by_cases a:n<1
  ·rw[if_pos a]
   have e:n=0:=by lia
   subst e
   exact⟨by decide,.str _,H,I.tok _,⟨_,rfl⟩,q _ rfl⟩
  ·rw[if_neg a]
   by_cases b:n=1
   ·subst b
    rw[if_pos (show ((1:Int) == 1 || (⟨#[c]⟩:Str).length == 0)=true from rfl)]
    exact⟨.str _,H,I,⟨_,rfl⟩,q _ rfl⟩
   ·have nb:¬(n == 1 || (⟨#[c]⟩:Str).length == 0)=true:=by simp[b,one]
    rw[if_neg nb]
    have lst:∀ (k:Nat) (acc:Array Nat),((List.replicate k #[c]).foldl (·++·) acc).toList=acc.toList++List.replicate k c:=fun k=>by
     induction k with
     | zero=>intro acc;simp
     | succ k ih=>intro acc;rw[List.replicate_succ,List.foldl_cons,ih,List.replicate_succ];simp
    have l0:=lst n.toNat #[]
    refine⟨?_,.str _,H,I.tok _,⟨_,rfl⟩,q _ (by rw[l0];rfl)⟩
    have ln:=congrArg List.length l0
    simp only[Array.length_toList,List.length_append,List.length_replicate]at ln
    show (Array.size _)≤sizeLine
    rw[ln]
    have:=sizeLine_eq
    simp
    lia
end
end L2
namespace L2
open PySem PySem.Spec PyProof.Rows Own
section
variable {prog:Program}{w:World}{A:Around}{E:Value→Shared→Prop}{s:Shared}
end
def upTo (n:Nat):List V:=(List.range n).map fun (i:Nat)=>V.int i
theorem zco {acc:Array Value}{n:Nat}(h:ItemsOf (fun i v=>∃ t,v=Value.int (0+i*1) t) acc n):Vals (upTo n) acc.toList:=by
 obtain⟨h1,h2⟩:=h
 have go:∀ (l:List Value) (k:Nat),(∀ (j:Nat) (v:Value),l[j]?=some v→∃ t,v=Value.int ((k+j:Nat):Int) t)→Vals ((List.range l.length).map fun (i:Nat)=>V.int ((k+i:Nat):Int)) l:=by
  intro l
  induction l with
  | nil=>intro k _;exact .nil
  | cons x l ih =>
   intro k hx
   rw[List.length_cons,List.range_succ_eq_map,List.map_cons,List.map_map]
   refine .cons (by obtain⟨t,e⟩:=hx 0 x rfl;exact⟨t,e⟩) ?_
   have:=ih (k+1) fun j v hj=>by
    obtain⟨t,e⟩:=hx (j+1) v (by simpa using hj)
    exact⟨t,by rw[e];congr 1;lia⟩
   refine cast (congrArg (fun z=>Vals z l) (List.map_congr_left fun i _=>?_)) this
   show V.int ((k+1+i:Nat):Int)=V.int ((k+(i+1):Nat):Int)
   congr 2;lia
 have:=go acc.toList 0 fun j v hj=>by
  obtain⟨t,e⟩:=h2 j v (by simpa using hj)
  exact⟨t,by rw[e];congr 1;lia⟩
 rw[Array.length_toList,h1]at this
 unfold upTo
 refine cast (congrArg (fun z=>Vals z acc.toList) (List.map_congr_left fun i _=>?_)) this
 show V.int ((0+i:Nat):Int)=V.int (i:Int)
 rw[Nat.zero_add]
theorem zgh (n:Nat):(upTo n).length=n:=by simp[upTo]
section
variable {X:Cx}
def ziS (b:Bool) (ta:TA):TE:=fun σ H Q=>ta σ H fun vs H1=>∃ j:Nat,vs=[.int j]∧j≤100000∧∀ l,H1 l=none→Q (.ref l) (upd H1 l (if b=true then .lst (upTo j) else .tup (upTo j)))
theorem zgn {j:Nat}(h:j≤100000):Builtin.Range.small 0 (j:Int) 1=true:=small_one (by lia) (by lia) (by lia) (by lia)
theorem zhC {j:Nat}:Builtin.Range.rangeSize 0 (j:Int) 1=((j:Nat):Int):=by rw[rangeSize_one];split<;>lia
theorem zfh {a:Expr}{ta:TA}{p p2 pos pos2:Pos}(hc:X.calm=true) (hgl:Gl X "list") (hml:X.mg "list" = none) (hgr:Gl X "range") (hmr:X.mg "range" = none) (ha:PA X [a] ta) (hs:starEach [a] X.env=[(false,eval a X.env)]:=by rfl)
  (hs2:starEach [.Call (.Name "range" p2) [a] [] pos2] X.env=[(false,eval (.Call (.Name "range" p2) [a] [] pos2) X.env)]:=by rfl):PE X (.Call (.Name "list" p) [.Call (.Name "range" p2) [a] [] pos2] [] pos) (ziS true ta):=by
 intro pins s σ H Q I h
 refine wpAny_Call_Name_kw (zbI I hgl hml (u:=.type "list") (by rfl) (PyProof.Rows.callWith_type1 ?_ hs2 rfl))
 rw[hs2]
 refine Calls.spliced_cons (Call_ (zbI I hgr hmr boot_range (PyProof.Rows.callWith_type1 (thn (ha pos2 pins s σ H _ I h) fun us s1 ⟨vs,H1,I1,r1,q1⟩=>?_) hs rfl)))
 obtain⟨j,rfl,hj,q⟩:=q1
 obtain⟨u,rfl,t,rfl⟩:=r1.one
 refine call_range_1 (Calls.spliced_nil ?_)
 refine call_list_range (n:=j) (I1.ok.hd hc) (IsRange.new ..) (zgn hj) zhC (Nat.le_trans hj (by decide)) fun h' tk acc' c' kk e it=>?_
 have k2:∀ b o,s1.heap.get? b=some o→h'.get? b=some o:=fun b o z=>kk b o (Heap.get?_push_of_some _ z)
 refine⟨.ref _,_,I1.laid (t':=tk) (o:=.lst (upTo j)) k2 ?_ ⟨by rw[zgh];exact Nat.le_trans hj (by decide),acc'.toList,c',zco it,by simpa using e⟩,rfl,q _ (I1.hok.fresh ?_)⟩
 all_goals (show s1.heap.objs.size≤(s1.heap.push _).objs.size;rw[Heap.size_push];exact Nat.le_succ _)
def insF (i:Nat) (y:Value):Array Value→Array Value:=fun xs=>(xs.extract 0 (if (i:Int)<0 then ((i:Int)+(xs.size:Int)).toNat else min (i:Int).toNat xs.size)).push y++xs.extract (if (i:Int)<0 then ((i:Int)+(xs.size:Int)).toNat else min (i:Int).toNat xs.size)
theorem zfO (l:Addr) (its:List Value) (n i:Nat) (t:Tok) (y:Value) (h:i≤its.length) (hz:its.length<100000):Meets (Builtin.«list.insert» ⟨[.ref l,.int i t,y],[]⟩) (fun _ R s=>s.heap.get? l=some { cls:=.type "list",data:=.seq its.toArray n } ∧
  R (.ok (.ret .none)) { s with heap:=s.heap.update l (Obj.mapSeq (insF i y)),toks:=s.toks }):=by
 have fi:¬(!Builtin.List.listFitsIndex (i:Int))=true:=by rw[fitsIndex_both (by lia) (by lia)];exact Bool.false_ne_true
 have h2:its.toArray.size≤sizeLine:=by rw[List.size_toArray,sizeLine_eq];lia
 exact @AutoSeq1.list_insert_list_int_val_1 l its.toArray n (i:Int) t y fi h2
theorem zit (its:List Value) (i:Nat) (y:Value) (h:i≤its.length):insF i y its.toArray=(its.take i++y::its.drop i).toArray:=by
 unfold insF
 have k1:(if (i:Int)<0 then ((i:Int)+(its.toArray.size:Int)).toNat else min (i:Int).toNat its.toArray.size)=i:=by
  rw[if_neg (by lia),Int.toNat_natCast,List.size_toArray];lia
 rw[k1]
 apply Array.ext'
 simp
 rw[List.take_of_length_le];simp
def rInsert:V→List V→Hp→VK→Prop:=fun x vs H Q=>∃ l xs y,∃ i:Nat,x=.ref l∧vs=[.int i,y]∧H l=some (.lst xs)∧i≤xs.length∧xs.length<100000∧Q .non (upd H l (.lst (xs.take i++y::xs.drop i)))
theorem zfw:MtM X "list.insert" rInsert:=by
 intro pins s σ H x vs v us Q I rx rv h
 obtain⟨l,xs,y,i,rfl,rfl,hH,hi,hz,q⟩:=h
 cases rx
 obtain⟨u1,u2,rfl,⟨t,rfl⟩,r2⟩:=rv.two
 obtain⟨z,its,n,r,hl,e⟩:=I.lstM hH
 refine call_meets F.slot_list_insert ⟨_,e,rfl⟩ F.entry_list_insert (F.args_list_insert_3 _ _ _) (@zfO l its n i t u2 (by lia) (by lia)) ⟨e,?_⟩
 refine⟨.non,_,I.lset (its':=its.take i++u2::its.drop i) hH e (zit its i u2 (by lia)) ((r.take i).append (.cons r2 (r.drop i))) ?_,rfl,q⟩
 rw[List.length_append,List.length_cons,List.length_take,List.length_drop,sizeLine_eq];lia
theorem zfk (hu:X.A.units<cLine):OpR X (compareOp .NotEq) (fun x y H Q=>∃ a b xs,x=.ref a∧y=.ref b∧SqL X.K H a xs∧SqL X.K H b []∧Q (.bl (!xs.isEmpty)) H):=by
 intro pins s σ H x y v u Q I rx ry h
 obtain⟨a,b,xs,rfl,rfl,ha,hb,q⟩:=h
 cases rx;cases ry
 obtain⟨its,r1,p1,_⟩:=I.list ha
 obtain⟨jts,r2,p2,_⟩:=I.list hb
 cases r2
 have l1:=r1.length
 cases xs with
 | nil =>
  cases r1
  exact SeqAt.RcNeAt.lists (e:=fun _=>true) p1.isList p2.isList rfl hu (fun j h=>absurd h (Nat.not_lt_zero _)) X.prog X.w _ _ ⟨.bl _,H,I,rfl,q⟩
 | cons z zs =>
  exact SeqAt.RcNeAt.lists_lengths p1.isList p2.isList (by rw[List.size_toArray,← l1];simp) hu X.prog X.w _ _ ⟨.bl _,H,I,rfl,q⟩
end
section
variable {prog:Program}{w:World}{A:Around}{E:Value→Shared→Prop}{s:Shared}
theorem zdu {sl:Addr}{t:Tok}{Q:Int × Int × Nat→Shared→Prop}(hs:s.heap.IsSliceOf sl .none .none (.int (-1) t)) (h:Q (1,-1,2) s):wpAny (model prog w) A (Builtin.Slice.sliceApplied (.ref sl) (pure (2:Int))) Q E s:=by
 obtain⟨os,hos,hcs,hds⟩:=id hs
 unfold Builtin.Slice.sliceApplied Builtin.Slice.sliceFields
 refine wpAny_bind (wpAny_bind (wpAny_field hos hds (x:=.none) rfl (wpAny_bind (wpAny_field hos hds (x:=.none) rfl (wpAny_bind (wpAny_field hos hds (x:=.int (-1) t) rfl (wpAny_pure ?_)))))))
 refine wpAny_bind (slicePart_int ?_)
 show wpAny _ _ (if ((-1:Int) == 0)=true then _ else _) _ _ s
 rw[if_neg (by decide)]
 refine wpAny_bind (slicePart_none (wpAny_bind (slicePart_none (wpAny_bind (wpAny_pure ?_)))))
 show wpAny _ _ (match Builtin.Slice.sliceAdjust none none (-1) (2:Int) with|(lo,hi)=>pure (lo,(-1:Int),Builtin.Slice.slicePlaces lo hi (-1))) _ _ s
 have e:Builtin.Slice.sliceAdjust none none (-1) (2:Int)=(1,-1):=by decide
 rw[e]
 have e2:Builtin.Slice.slicePlaces (1:Int) (-1) (-1)=2:=by decide
 show wpAny _ _ (pure ((1:Int),(-1:Int),Builtin.Slice.slicePlaces (1:Int) (-1) (-1))) _ _ s
 rw[e2]
 exact wpAny_pure h
theorem zdg {t sl:Addr}{x y:Value}{tk:Tok}{Q:Value→Shared→Prop}(ht:IsTup s.heap t #[x,y]) (hs:s.heap.IsSliceOf sl .none .none (.int (-1) tk)) (h:Q (.ref s.heap.objs.size) { s with heap:=s.heap.push { cls:=.type "tuple",data:=.seq #[y,x] } }) :
  wpAny (model prog w) A (getItem (.ref t) (.ref sl)) Q E s:=by
 obtain⟨os,hos,hcs,hds⟩:=id hs
 have hTs:s.TypeIs (.ref sl) "slice":=⟨os,hos,hcs⟩
 unfold getItem
 try with_reducible refine wpAny_holding ?_
 first|refine wpAny_bind (wpAny_pure ?_)|skip
 refine wpAny_bind (wpAny_sequenceKey ht.typeIs (by decide) (wpAny_bind (wpAny_callSpecial?_slot (name:=Str.ofString "__getitem__") ht.typeIs PyProof.Rows.slot_tuple_getitem (wpAny_call_entry PyProof.Rows.slot_tuple_getitem ht.typeIs PyProof.Rows.entry_tuple_getitem ?_ (PyProof.Rows.args_tuple_getitem _ _)))))
 show wpAny _ _ (Builtin.Tuple.tupleItemsOf (.ref t) >>= _) _ _ s
 refine wpAny_bind (tupleItemsOf_ ht (wpAny_bind (wpAny_typeOf hTs ?_)))
 rw[if_pos (by decide)]
 refine wpAny_bind (zdu hs ?_)
 show wpAny _ _ (if ((1:Int) == 0 && (-1:Int) == 1 && (2:Nat) == 2)=true then _ else _) _ _ s
 rw[if_neg (by decide)]
 have pk:((List.range 2).filterMap fun (k:Nat)=>(#[x,y]:Array Value)[((1:Int)+(k:Int)*(-1)).toNat]?).toArray = #[y,x]:=rfl
 rw[pk]
 first
  | exact wpAny_bind (m:=Builtin.Tuple.tupleExact _) (wpAny_newObj_type (wpAny_pure ⟨_,rfl,wpAny_pure h⟩) (by show 2≤sizeLine;decide))
  | exact wpAny_bind (m:=Builtin.Tuple.tupleExact _) (wpAny_newObj_type (wpAny_bind (wpAny_pure (wpAny_pure ⟨_,rfl,wpAny_pure h⟩))) (by show 2≤sizeLine;decide))
  | exact wpAny_bind (wpAny_bind (m:=Builtin.Tuple.tupleExact _) (wpAny_newObj_type (wpAny_pure (wpAny_pure ⟨_,rfl,wpAny_pure h⟩)) (by show 2≤sizeLine;decide)))
  | exact wpAny_bind (wpAny_bind (m:=Builtin.Tuple.tupleExact _) (wpAny_newObj_type (wpAny_pure ⟨_,rfl,wpAny_pure h⟩) (by show 2≤sizeLine;decide)))
end
section
variable {X:Cx}
end
theorem zez (l:Addr) (o:Obj) (items:Array Value) (n:Nat) (x:Value) (j:Nat) (hc:o.cls=.type "tuple") (hd:o.data=.seq items n) (e:Nat→Bool) (h0:∀ i,i<j→e i=false) (h1:e j=true) (hj:j<items.size) :
  Meets (Builtin.«tuple.index» ⟨[.ref l,x],[]⟩) (fun A R s=>s.heap.get? l=some o∧(∀ i (h:i<items.size),SeqAt.EqAt A.in1 s items[i] x (e i))∧R (.ok (.ret (.int j s.toks))) { s with toks:=s.toks+1 }) :=
 .of_wp fun prog w A R s h=>by
  cases s with
  | mk hp gs dr tk os =>
  obtain⟨hl,he,h⟩:=h
  unfold Builtin.«tuple.index»
  simp only[Std.Legacy.Range.forIn_eq_forIn_range']
  wp_walk using wpAny_seqItems hl hd,wpAny_forIn_list _ (fun rest b s'=>s'=⟨hp,gs,dr,tk,os⟩∧b.1=none∧∃ i,i≤j∧rest=List.range' i (items.size-i)) _
  case turn =>
   rintro i rest b s' ⟨rfl,hb,i',hi,hz⟩
   have hs:items.size-i'=(items.size-(i'+1))+1:=by lia
   rw[hs,List.range'_succ]at hz
   injection hz with e1 e2
   subst e1
   have il:i<items.size:=by lia
   have hg:items[i]?=some items[i]:=by simp[il]
   simp only[hg]
   refine wpAny_bind (he i il prog w _ _ ?_)
   by_cases q:i=j
   ·subst q;rw[h1];wp_walk;exact⟨_,rfl,h⟩
   ·rw[h0 i (by lia)];wp_walk;exact⟨rfl,rfl,i+1,by lia,e2⟩
  case fin =>
   rintro b s' ⟨rfl,hb,i',hi,hz⟩
   have:=congrArg List.length hz
   simp at this
   lia
  case h=>exact⟨rfl,rfl,0,Nat.zero_le _,by simp[Std.Legacy.Range.size]⟩
section
variable {X:Cx}
theorem zcj:∀ {ns:List Int}{k:Int}{i:Nat},i<ns.idxOf k→(ns.getD i 0 == k)=false
 | [],k,i,h=>by simp at h
 | n::ns,k,i,h=>by
  rw[List.idxOf_cons]at h
  cases e:n == k with
  | true=>rw[e]at h;simp at h
  | false =>
   rw[e]at h
   simp only[cond_false]at h
   cases i with
   | zero=>exact e
   | succ i=>exact zcj (ns:=ns) (i:=i) (by lia)
def zjy (to:TE) (t:TA):TE:=fun σ H Q=>to σ H fun x H1=>∃ a ns,x=.ref a∧H1 a=some (.tup (List.map V.int ns))∧t σ H1 fun vs H2=>∃ k:Int,vs=[.int k]∧H2 a=some (.tup (List.map V.int ns))∧k∈ns∧Q (.int (ns.idxOf k:Nat)) H2
theorem zfg {o e:Expr}{to:TE}{t:TA}{apos cpos:Pos}(hu:X.A.units+64<cLine) (ho:PE X o to) (ha:PA X [e] t)
  (hbase:attributeBase o "index" X.env (eval o X.env)=eval o X.env:=by rfl)
  (hfew:((backTo cpos (starEach [e] X.env)).all (fun x=>!x.1) && (backToKw cpos (keywordEach [] X.env)).all (fun x=>x.1.isSome) && decide ([e].length+([]:List Keyword).length+(if ([]:List Keyword).isEmpty then 0 else 1)<30))=true:=by rfl)
  (hline:(apos.endLine == cpos.line)=true:=by rfl) (hs:starEach [e] X.env=(false,eval e X.env)::starEach [] X.env:=by rfl):PE X (.Call (.Attribute o "index" apos) [e] [] cpos) (zjy to t):=by
 intro pins s σ H Q I h
 refine wpAny_Call_method_late hbase hfew hline rfl (thn (ho pins s σ H _ I h) fun v s1 ⟨x,H1,I1,r1,a,ns,ex,hx,q1⟩=>?_)
 subst ex
 cases r1
 obtain⟨_,its,_,⟨ob,eo,c1,n1,d1,nd⟩⟩:=(show ObjOk X.prog X.w H1 s1.heap a (.tup (List.map V.int ns)) from I1.hok a _ hx)
 refine⟨"tuple","tuple.index",PySem.F.plainAttrs_tuple,PySem.F.slot_tuple_index,PySem.F.type_tuple_index,⟨ob,eo,c1⟩,fun a' e'=>by cases e';exact⟨ob,eo,nd⟩,?_⟩
 have hA:=ha cpos pins s1 σ H1 _ I1 q1
 rw[hs]at hA ⊢
 refine Calls.callWith_builtin rfl (Calls.evalArgs_plain ?_)
 refine thn hA fun us s2 ⟨vs,H2,I2,r2,k,ev,hx2,km,q⟩=>?_
 subst ev
 obtain⟨u,rfl,tk,rfl⟩:=r2.one
 obtain⟨_,jts,rj,⟨ob2,eo2,c2,n2,d2,nd2⟩⟩:=(show ObjOk X.prog X.w H2 s2.heap a (.tup (List.map V.int ns)) from I2.hok a _ hx2)
 have hlen:jts.toArray.size=ns.length:=by rw[List.size_toArray,← rj.length,List.length_map]
 have hj:=List.idxOf_lt_length_of_mem km
 refine call_meets PySem.F.slot_tuple_index ⟨ob2,eo2,c2⟩ PySem.F.entry_tuple_index (PySem.F.args_tuple_index_2 _ _)
  (zez a ob2 jts.toArray n2 (.int k tk) (ns.idxOf k) c2 d2 (fun i=>ns.getD i 0 == k) (fun i hi=>?_) ?_ (by rw[hlen];exact hj)) ⟨eo2,fun i hi=>?_,?_⟩
 ·exact zcj hi
 ·rw[List.getD_eq_getElem?_getD,List.getElem?_eq_getElem hj]
  simp
 ·have hi':i<ns.length:=by rw[← hlen];exact hi
  obtain⟨w1,e1,t1,rfl⟩:=rj.get (show (List.map V.int ns)[i]?=some (V.int (ns.getD i 0)) by rw[List.getElem?_map,List.getD_eq_getElem?_getD,List.getElem?_eq_getElem hi'];rfl)
  have g1:jts.toArray[i]=.int (ns.getD i 0) t1:=by simpa using (List.getElem?_eq_some_iff.mp e1).2
  rw[g1]
  exact(MeetsSeq.EqGives.int _ _ _ _).at _ _
 ·exact⟨.int _,H2,I2.tok _,⟨_,rfl⟩,q⟩
end
section
variable {X:Cx}
end
end L2
namespace Bn
open PySem L2 Own
def Tups (H H':Hp):Prop:=∀ a xs,H a=some (.tup xs)→H' a=some (.tup xs)
theorem Tups.trans {H H1 H2:Hp}(x:Tups H H1) (y:Tups H1 H2):Tups H H2:=fun a xs e=>y a xs (x a xs e)
theorem Tups.of {H H':Hp}(s:Same H H'):Tups H H':=fun a _ e=>s a _ e
theorem Tups.lst {H:Hp}{l:Addr}{xs ys:List V}(h:H l=some (.lst xs)):Tups H (upd H l (.lst ys)):=fun a zs e=>by
 rw[zaj (by rintro rfl;rw[h]at e;cases e)];exact e
def But (l:Addr) (H H':Hp):Prop:=∀ b o,H b=some o→b≠l→H' b=some o
theorem But.trans {l:Addr}{H H1 H2:Hp}(x:But l H H1) (y:But l H1 H2):But l H H2:=fun b o e n=>y b o (x b o e n) n
theorem But.of {l:Addr}{H H1:Hp}(x:Same H H1):But l H H1:=fun b o e _=>x b o e
structure PkAt (H:Hp) (l:Addr):Prop where
 ex:∃ a b:Int,H l=some (.lst [.int a,.int b])∧0≤a∧0≤b∧b<2 ^ 31
theorem PkAt.keep {H H':Hp}{l:Addr}(S:PkAt H l) (s:Same H H'):PkAt H' l:=by
 obtain⟨a,b,h,r⟩:=S.ex
 exact⟨a,b,s _ _ h,r⟩
theorem PkAt.ne {H:Hp}{l p:Addr}(S:PkAt H l) (h:H p=none):l≠p:=by
 obtain⟨a,b,e,_⟩:=S.ex
 exact zai e h
theorem PkAt.upd {H:Hp}{l p:Addr}{o:HO}(S:PkAt H l) (h:l≠p):PkAt (upd H p o) l:=by
 obtain⟨a,b,e,r⟩:=S.ex
 exact⟨a,b,by rw[zaj h];exact e,r⟩
theorem But.tups {H H':Hp}{l:Addr}(x:But l H H') (S:PkAt H l):Tups H H':=fun a xs e=>x a _ e (by
 rintro rfl
 obtain⟨_,_,z,_⟩:=S.ex
 rw[z]at e;cases e)
def Prs (H:Hp):List V→List (Nat × Nat)→Prop
 | [],[]=>True
 | p::ps,f::fs=>(∃ a,p=.ref a∧H a=some (.tup [.int f.1,.int f.2]))∧Prs H ps fs
 | _,_=>False
theorem Prs.tups {H H':Hp}(t:Tups H H'):∀ {ps:List V}{fs:List (Nat × Nat)},Prs H ps fs→Prs H' ps fs
 | [],[],_=>trivial
 | _::_,_::_,⟨⟨a,e,h⟩,r⟩=>⟨⟨a,e,t _ _ h⟩,r.tups t⟩
theorem Prs.len {H:Hp}:∀ {ps:List V}{fs:List (Nat × Nat)},Prs H ps fs→ps.length=fs.length
 | [],[],_=>rfl
 | _::_,_::_,⟨_,r⟩=>congrArg (· + 1) r.len
theorem Prs.add {H:Hp}{a:Addr}{f:Nat × Nat}(h:H a=some (.tup [.int f.1,.int f.2])):∀ {ps:List V}{fs:List (Nat × Nat)},Prs H ps fs→Prs H (ps++[.ref a]) (fs++[f])
 | [],[],_=>⟨⟨a,rfl,h⟩,trivial⟩
 | _::_,_::_,⟨x,r⟩=>⟨x,r.add h⟩
theorem Prs.get {H:Hp}:∀ {ps:List V}{fs:List (Nat × Nat)}{i:Nat}{p:V},Prs H ps fs→ps[i]?=some p→∃ a f,p=.ref a∧fs[i]?=some f∧H a=some (.tup [.int f.1,.int f.2])
 | [],[],_,_,_,e=>by simp at e
 | _::_,f::_,0,p,⟨⟨a,e1,h⟩,_⟩,e=>by
  have:_=p:=Option.some.inj e
  subst this
  exact⟨a,f,e1,rfl,h⟩
 | _::_,_::_,i+1,p,⟨_,r⟩,e=>r.get (i:=i) (by simpa using e)
structure Nt where
 lanes:Nat
 forks:List (Nat × Nat)
 ends:List Nat
structure Nt.Ok (N:Nt):Prop where
 l1:1≤N.lanes
 l16:N.lanes≤16
 fm:N.forks.length≤128
 fk:∀ f∈N.forks,f.1<N.lanes∧f.2<N.lanes∧f.1≠f.2
 en:N.ends.Perm (List.range N.lanes)
def nums (es:List Nat):List V:=es.map fun (e:Nat)=>V.int e
structure NetAt (H:Hp) (r fr er:Addr) (ps:List V) (N:Nt):Prop where
 net:H r=some (.tup [.int N.lanes,.ref fr,.ref er])
 forks:H fr=some (.tup ps)
 prs:Prs H ps N.forks
 ends:H er=some (.tup (nums N.ends))
theorem NetAt.tups {H H':Hp}{r fr er:Addr}{ps:List V}{N:Nt}(t:Tups H H') (h:NetAt H r fr er ps N):NetAt H' r fr er ps N:=⟨t _ _ h.net,t _ _ h.forks,h.prs.tups t,t _ _ h.ends⟩
theorem zaT {xs:List Int}{i p:Nat}{a:Int}(h:p<xs.length):(xs.set i a).getD p 0=if i=p then a else xs.getD p 0:=by
 rw[List.getD_eq_getElem?_getD,List.getElem?_set]
 by_cases e:i=p
 ·subst e;simp[h]
 ·simp[e]
theorem zel {N:Nt}(ok:N.Ok):N.ends.length=N.lanes:=by rw[ok.en.length_eq,List.length_range]
theorem zdt {cs:List Int}{i:Nat}(h:i<cs.length):atI (cs.map V.int) ((i:Nat):Int)=some (.int (cs.getD i 0)):=by
 refine zaJ ?_
 rw[List.getElem?_map,List.getD_eq_getElem?_getD,List.getElem?_eq_getElem h];rfl
theorem zde {α:Type}{xs:List α}{i:Nat}(h:i<xs.length):ixN xs.length ((i:Nat):Int)=some i:=by
 unfold ixN
 rw[if_pos (by lia),if_pos (by lia)];simp
theorem zd4 (cs:List Int) (i:Nat) (a:Int):(cs.map V.int).set i (.int a)=(cs.set i a).map V.int:=by rw[List.map_set]
structure Mgs (mg:Str→Option Value):Prop where
 len:mg "len" = none
 range:mg "range" = none
 tuple:mg "tuple" = none
 enum:mg "enumerate" = none
 abs:mg "abs" = none
 zip:mg "zip" = none
 isi:mg "isinstance" = none
 all:mg "all" = none
 sum:mg "sum" = none
 bool:mg "bool" = none
 int:mg "int" = none
 str:mg "str" = none
 max:mg "max" = none
 min:mg "min" = none
 sorted:mg "sorted" = none
 list:mg "list" = none
structure Use (P:Program) (w:World) (K:PySem.W.Frag) (mg:Str→Option Value) (base:Heap) (x:Str) (ps:List Str) (k:Nat) (sp:Sp) (f:Addr) (fd:FuncData):Prop where
 ok:FnOk P w K mg base CX0 k f fd ps sp
 b:Binds K fd ps []
 kp:PySem.W.keepIn K (.ref f)=true
 m:mg x=some (.ref f)
def zeS (K:PySem.W.Frag):Sp:=fun vs H Q _=>∃ (a:Addr) (ns:List Int) (k:Int),vs=[.ref a,.int k]∧SqL K H a (ns.map V.int)∧0≤k∧∀ x:Int,Q (.int x) H
def zeQ (K:PySem.W.Frag):Sp:=fun vs H Q _=>∃ (a:Addr) (ns:List Int) (k:Int),vs=[.ref a,.int k]∧SqL K H a (ns.map V.int)∧ns.length≤63∧0≤k∧k≤1000∧∀ l H',H l=none→Same H H'→PkAt H' l→Q (.ref l) H'
def zbE:Sp:=fun vs H Q _=>∃ (l:Addr) (m:Int),vs=[.ref l,.int m]∧0<m∧m<1073741824∧PkAt H l∧∀ (v:Nat) H',(v:Int)<m→PkAt H' l→But l H H'→Q (.int v) H'
def Frs (l:Addr) (H:Hp) (x:Addr):Prop:=∀ b o,H b=some o→b≠l→b≠x
theorem But.upd {l x:Addr}{H H1:Hp}{o:HO}(B:But l H H1) (f:Frs l H x):But l H (upd H1 x o):=fun b u e n=>by rw[zaj (f b u e n)];exact B b u e n
theorem zgS (es:List Nat):(nums es).length=es.length:=by simp[nums]
theorem zgz {one d lanes:Nat}(h1:one<lanes) (h2:d+1<lanes):(one+1+d)%lanes<lanes∧one≠(one+1+d)%lanes:=by
 refine⟨Nat.mod_lt _ (by lia),fun e=>?_⟩
 by_cases z:one+1+d<lanes
 ·rw[Nat.mod_eq_of_lt z]at e;lia
 ·rw[Nat.mod_eq_sub_mod (by lia),Nat.mod_eq_of_lt (by lia)]at e;lia
theorem zgC (k:Nat):0<PySem.NumText.digitsVal (49::List.replicate k 48):=by
 unfold PySem.NumText.digitsVal
 have go:∀ (k acc:Nat),0<acc→0<(List.replicate k 48).foldl (fun acc c=>acc*10+(c-48)) acc:=fun k=>by
  induction k with
  | zero=>intro acc h;exact h
  | succ k ih=>intro acc h;rw[List.replicate_succ,List.foldl_cons];exact ih _ (by lia)
 rw[List.foldl_cons]
 exact go k _ (by decide)
theorem zfC {z:Str}{k:Nat}(hz:z.cps.toList=List.replicate k 48):PySem.NumText.AllDigits ((("1":Str)++z).cps.toList)∧(("1":Str)++z).length=k+1∧0<PySem.NumText.digitsVal ((("1":Str)++z).cps.toList):=by
 have e:(("1":Str)++z).cps.toList=49::List.replicate k 48:=by
  show ((("1":Str).cps++z.cps).toList)=_
  rw[Array.toList_append,hz];rfl
 refine⟨?_,?_,?_⟩
 ·rw[e]
  intro c hc
  rcases List.mem_cons.mp hc with q|q
  ·lia
  ·have:=List.eq_of_mem_replicate q;lia
 ·have:=congrArg List.length e
  rw[Array.length_toList]at this
  show (("1":Str)++z).cps.size=k+1
  rw[this,List.length_cons,List.length_replicate]
 ·rw[e];exact zgC k
end Bn
namespace L2
open PySem PySem.Spec PyProof.Rows Own
section
variable {X:Cx}
end
section
variable {prog:Program}{w:World}{A:Around}{E:Value→Shared→Prop}{s:Shared}
theorem zdU {t sl:Addr}{items:Array Value}{vl vu:Value}{lo hi:Option Int}{Q:Value→Shared→Prop}(ht:IsTup s.heap t items) (hs:s.heap.IsSliceOf sl vl vu .none) (pl:IsPart vl lo) (pu:IsPart vu hi)
  (e0:HT.sIx items.size 0 lo=0) (e1:HT.sIx items.size items.size hi=items.size) (h:Q (.ref t) s):wpAny (model prog w) A (getItem (.ref t) (.ref sl)) Q E s:=by
 obtain⟨os,hos,hcs,hds⟩:=id hs
 have hTs:s.TypeIs (.ref sl) "slice":=⟨os,hos,hcs⟩
 unfold getItem
 try with_reducible refine wpAny_holding ?_
 first|refine wpAny_bind (wpAny_pure ?_)|skip
 refine wpAny_bind (wpAny_sequenceKey ht.typeIs (by decide) (wpAny_bind (wpAny_callSpecial?_slot (name:=Str.ofString "__getitem__") ht.typeIs PyProof.Rows.slot_tuple_getitem (wpAny_call_entry PyProof.Rows.slot_tuple_getitem ht.typeIs PyProof.Rows.entry_tuple_getitem ?_ (PyProof.Rows.args_tuple_getitem _ _)))))
 show wpAny _ _ (Builtin.Tuple.tupleItemsOf (.ref t) >>= _) _ _ s
 refine wpAny_bind (tupleItemsOf_ ht (wpAny_bind (wpAny_typeOf hTs ?_)))
 rw[if_pos (by decide)]
 refine wpAny_bind (HT.sliceApplied_gen hs pl pu ?_)
 rw[e0,e1]
 show wpAny _ _ (if (((0:Nat):Int) == 0 && (1:Int) == 1 && (items.size-0) == items.size)=true then _ else _) _ _ s
 rw[if_pos (by simp)]
 refine wpAny_bind ?_
 unfold Builtin.Tuple.tupleIsExact
 refine wpAny_bind (wpAny_typeOf ht.typeIs (wpAny_pure ?_))
 rw[if_pos (by decide)]
 exact wpAny_bind (wpAny_rule (wpAny_pure ⟨_,rfl,wpAny_pure h⟩))
end
section
variable {X:Cx}
end
section
variable {prog:Program}{w:World}{A:Around}{R:Result→Shared→Prop}{I S:Addr}{fp wr:List Addr}{n:Nat}{P B:Nat→Value→Prop}{St:Nat→Heap→Prop}
end
section
variable {prog:Program}{w:World}{A:Around}{E:Value→Shared→Prop}{s:Shared}
end
section
variable {X:Cx}{e e2:Expr}{ta tb:TE}{p kp pos:Pos}
end
section
variable {X:Cx}
theorem za3:OpR X (binaryOp .Add) (fun x y H Q=>∃ a b xs ys,x=.ref a∧y=.ref b∧H a=some (.tup xs)∧H b=some (.tup ys)∧xs.length+ys.length≤sizeLine∧∀ r H',Same H H'→H' r=some (.tup (xs++ys))→Q (.ref r) H'):=by
 intro pins s σ H x y v u Q I rx ry h
 obtain⟨a,b,xs,ys,rfl,rfl,ha,hb,hz,q⟩:=h
 by_cases hx:xs=[]
 ·subst hx
  cases rx;cases ry
  obtain⟨its,r1,p1,_⟩:=I.tuple (SqT.of ha)
  obtain⟨jts,r2,p2,_⟩:=I.tuple (SqT.of hb)
  cases r1
  obtain⟨⟨c1,d1,e1,sl1⟩,o1,c1',n1,e1'⟩:=p1
  obtain⟨⟨c2,d2,e2,sl2⟩,o2,c2',n2,e2'⟩:=p2
  simp only at c1' e1' c2' e2'
  subst c1' e1' c2' e2'
  refine concat_meets ⟨_,o1,rfl⟩ ⟨_,o2,rfl⟩ noFill_tuple_add seq_tuple_add PySem.F.slot_tuple_add PySem.F.entry_tuple_add (PySem.F.args_tuple_add_2 _ _) (tuple_addW0 a b #[] jts.toArray n1 n2 d1 d2 sl1 sl2 rfl) ⟨o1,o2,?_⟩
  exact⟨.ref b,H,I,rfl,q b H (Same.refl H) (by rw[List.nil_append];exact hb)⟩
 ·exact zh5 pins s σ H _ _ v u Q I rx ry ⟨a,b,xs,ys,rfl,rfl,SqT.of ha,SqT.of hb,hx,hz,fun e=>q a H (Same.refl H) (by rw[e,List.append_nil];exact ha),fun _ p hp=>q p _ (zad hp _) zac⟩
theorem za5:SlR X (fun x lo hi H Q=>∃ a xs,x=.ref a∧H a=some (.tup xs)∧∀ p H',Same H H'→H' p=some (.tup (cutV xs lo hi))→Q (.ref p) H'):=by
 intro pins s σ H x v vl vu lo hi sl Q I rx hs pl pu h
 obtain⟨a,xs,rfl,hx,q⟩:=h
 by_cases hw:HT.sIx xs.length 0 lo=0∧HT.sIx xs.length xs.length hi=xs.length
 ·cases rx
  obtain⟨its,r,ht,hz⟩:=I.tuple (SqT.of hx)
  have hlen:its.toArray.size=xs.length:=by rw[List.size_toArray];exact r.length.symm
  refine⟨"tuple",_,PyProof.Rows.slot_tuple_getitem.lookup,ht.typeIs,zdU ht hs pl pu (by rw[hlen];exact hw.1) (by rw[hlen];exact hw.2) ⟨.ref a,H,I,rfl,q a H (Same.refl H) ?_⟩⟩
  unfold cutV
  rw[hw.1,hw.2,List.drop_zero,Nat.sub_zero,List.take_length]
  exact hx
 ·exact ziX pins s σ H _ v vl vu lo hi sl Q I rx hs pl pu ⟨a,xs,rfl,SqT.of hx,hw,fun p hp=>q p _ (zad hp _) zac⟩
end
theorem zbh (xs:List V) (i:Nat) (h:i≤xs.length):cutV xs none (some (i:Int))=xs.take i:=by
 unfold cutV
 rw[HT.sIx_none,HT.sIx_nat,List.drop_zero,Nat.sub_zero,Nat.min_eq_left h]
theorem zbi (xs:List V) (i:Nat) (h:i≤xs.length):cutV xs (some (i:Int)) none=xs.drop i:=by
 unfold cutV
 rw[HT.sIx_none,HT.sIx_nat,Nat.min_eq_left h]
 exact List.take_of_length_le (by rw[List.length_drop];exact Nat.le_refl _)
section
variable {X:Cx}
theorem zfN {A:Around}{s:Shared}{ns ms:List Int}{its jts:List Value}(r1:Vals (ns.map V.int) its) (r2:Vals (ms.map V.int) jts) (j:Nat) (h1:j<its.toArray.size) (h2:j<jts.toArray.size) :
  SeqAt.EqAt A s its.toArray[j] jts.toArray[j] (eqV ((ns.map V.int).getD j .non) ((ms.map V.int).getD j .non)):=by
 have k1:j<(ns.map V.int).length:=by rw[r1.length];simpa using h1
 have k2:j<(ms.map V.int).length:=by rw[r2.length];simpa using h2
 obtain⟨a,ea,qa⟩:=r1.get (List.getElem?_eq_getElem k1)
 obtain⟨b,eb,qb⟩:=r2.get (List.getElem?_eq_getElem k2)
 have ga:its.toArray[j]=a:=by simpa using (List.getElem?_eq_some_iff.mp ea).2
 have gb:jts.toArray[j]=b:=by simpa using (List.getElem?_eq_some_iff.mp eb).2
 have fl:=zdi ns
 have fm:=zdi ms
 rw[ga,gb,List.getD_eq_getElem?_getD,List.getD_eq_getElem?_getD,List.getElem?_eq_getElem k1,List.getElem?_eq_getElem k2]
 exact zfU qa qb (List.all_eq_true.mp fl _ (List.getElem_mem k1)) (List.all_eq_true.mp fm _ (List.getElem_mem k2))
theorem zhb {ns ms:List Int}(h:ns.length=ms.length):((List.range ns.length).all fun j=>eqV ((ns.map V.int).getD j .non) ((ms.map V.int).getD j .non))=decide (ns=ms):=by
 rw[← zjw ns ms,List.length_map,List.length_map,h,Nat.min_self,beq_self_eq_true,Bool.and_true]
theorem zh3 (hu:X.A.units<cLine):OpR X (compareOp .Eq) (fun x y H Q=>∃ a b ns ms,x=.ref a∧y=.ref b∧SqL X.K H a (List.map V.int ns)∧SqL X.K H b (List.map V.int ms)∧Q (.bl (decide (ns=ms))) H):=by
 rintro pins s σ H x y v u Q I rx ry ⟨a,b,ns,ms,rfl,rfl,ha,hb,q⟩
 cases rx;cases ry
 obtain⟨its,r1,p1,_⟩:=I.list ha
 obtain⟨jts,r2,p2,_⟩:=I.list hb
 have l1:its.length=ns.length:=by rw[← r1.length,List.length_map]
 have l2:jts.length=ms.length:=by rw[← r2.length,List.length_map]
 by_cases e:ns.length=ms.length
 ·refine SeqAt.RcAt.lists p1.isList p2.isList (by simpa [l1,l2] using e) hu (zfN r1 r2) X.prog X.w _ _ ?_
  rw[List.size_toArray,l1,zhb e]
  exact⟨.bl _,H,I,rfl,q⟩
 ·refine SeqAt.RcAt.lists_lengths p1.isList p2.isList (by simpa [l1,l2] using e) hu X.prog X.w _ _ ?_
  rw[decide_eq_false (fun z=>e (congrArg List.length z))]at q
  exact⟨.bl _,H,I,rfl,q⟩
end
theorem zc4 {h:Heap}:∀ (vs:List Value) (ds:List PyData),vs.length=ds.length→(∀ (j:Nat) (v:Value) (d:PyData),vs[j]?=some v→ds[j]?=some d→∃ as,Reads h v d as)→∃ as,ReadsAll h vs ds as
 | [],[],_,_=>⟨_,.nil⟩
 | v::vs,d::ds,hl,q=>by
  obtain⟨as,r⟩:=q 0 v d rfl rfl
  obtain⟨bs,r'⟩:=zc4 vs ds (by simpa using hl) fun j v' d' e1 e2=>q (j+1) v' d' (by simpa using e1) (by simpa using e2)
  exact⟨_,.cons r r'⟩
section
variable {X:Cx}
end
end L2
namespace L2
open PySem PySem.Spec PyProof.Rows PySem.Calls PySem.NumText Own
section
variable {prog:Program}{w:World}{A:Around}{E:Value→Shared→Prop}{s:Shared}
theorem zdY {sl:Addr}{t:Tok}{Q:Int × Int × Nat→Shared→Prop}(hs:s.heap.IsSliceOf sl .none .none (.int 1 t)) (h:Q (0,1,2) s):wpAny (model prog w) A (Builtin.Slice.sliceApplied (.ref sl) (pure (2:Int))) Q E s:=by
 have hs':=hs;obtain⟨os,hos,hcs,hds⟩:=hs'
 unfold Builtin.Slice.sliceApplied Builtin.Slice.sliceFields
 refine wpAny_bind (wpAny_bind (wpAny_field hos hds (x:=.none) rfl (wpAny_bind (wpAny_field hos hds (x:=.none) rfl (wpAny_bind (wpAny_field hos hds (x:=.int 1 t) rfl (wpAny_pure ?_)))))))
 refine wpAny_bind (slicePart_int ?_);show wpAny _ _ (if ((1:Int) == 0)=true then _ else _) _ _ s
 rw[if_neg (by decide)]
 refine wpAny_bind (slicePart_none (wpAny_bind (slicePart_none (wpAny_bind (wpAny_pure ?_)))))
 show wpAny _ _ (match Builtin.Slice.sliceAdjust none none 1 (2:Int) with|(lo,hi)=>pure (lo,(1:Int),Builtin.Slice.slicePlaces lo hi 1)) _ _ s
 have e:Builtin.Slice.sliceAdjust none none 1 (2:Int)=(0,2):=by decide
 have e2:Builtin.Slice.slicePlaces (0:Int) 2 1=2:=by decide
 rw[e];show wpAny _ _ (pure ((0:Int),(1:Int),Builtin.Slice.slicePlaces (0:Int) 2 1)) _ _ s
 rw[e2];exact wpAny_pure h
theorem zdT {t sl:Addr}{x y:Value}{tk:Tok}{Q:Value→Shared→Prop}(ht:IsTup s.heap t #[x,y]) (hs:s.heap.IsSliceOf sl .none .none (.int 1 tk)) (h:Q (.ref t) s) :
  wpAny (model prog w) A (getItem (.ref t) (.ref sl)) Q E s:=by
 have hs':=hs;obtain⟨os,hos,hcs,hds⟩:=hs'
 have hTs:s.TypeIs (.ref sl) "slice":=⟨os,hos,hcs⟩
 unfold getItem;try with_reducible refine wpAny_holding ?_
 first|refine wpAny_bind (wpAny_pure ?_)|skip
 refine wpAny_bind (wpAny_sequenceKey ht.typeIs (by decide) (wpAny_bind (wpAny_callSpecial?_slot (name:=Str.ofString "__getitem__") ht.typeIs PyProof.Rows.slot_tuple_getitem (wpAny_call_entry PyProof.Rows.slot_tuple_getitem ht.typeIs PyProof.Rows.entry_tuple_getitem ?_ (PyProof.Rows.args_tuple_getitem _ _)))))
 show wpAny _ _ (Builtin.Tuple.tupleItemsOf (.ref t) >>= _) _ _ s
 refine wpAny_bind (tupleItemsOf_ ht (wpAny_bind (wpAny_typeOf hTs ?_)));rw[if_pos (by decide)]
 refine wpAny_bind (zdY hs ?_);show wpAny _ _ (if ((0:Int) == 0 && (1:Int) == 1 && (2:Nat) == 2)=true then _ else _) _ _ s
 rw[if_pos (by decide)]
 refine wpAny_bind (?_:wpAny _ _ (Builtin.Tuple.tupleIsExact (.ref t)) _ _ s)
 unfold Builtin.Tuple.tupleIsExact;refine wpAny_bind (wpAny_typeOf ht.typeIs (wpAny_pure ?_))
 rw[if_pos (by decide)];exact wpAny_bind (wpAny_rule (wpAny_pure ⟨_,rfl,wpAny_pure h⟩))
end
section
variable {X:Cx}
def zjx (K:PySem.W.Frag) (te:TE) (ts:TO):TE:=fun σ H Q=>te σ H fun x H1=>ts σ H1 fun o H2=>∃ a u v,x=.ref a∧SqT K H2 a [u,v]∧((o=some 1∧Q (.ref a) H2)∨(o=some (-1)∧∀ p,H2 p=none→Q (.ref p) (upd H2 p (.tup [v,u]))))
theorem zhX {e st:Expr}{te:TE}{ts:TO}{p2 pos:Pos}(he:PE X e te) (hs:PO X (some st) ts):PE X (.Subscript e (.Slice none none (some st) p2) pos) (zjx X.K te ts):=by
 intro pins s σ H Q I h
 refine Subscript_ (thn (he pins s σ H _ I h) fun v s1 ⟨x,H1,I1,r1,q1⟩=>wpAny_Slice ?_)
 rw[evalPart_none];refine wpAny_pure (wpAny_pure (thn (hs pins s1 σ H1 _ I1 q1) fun vst s2 ⟨o,H2,I2,po,q2⟩=>?_))
 obtain⟨a,u1,u2,rfl,hq,k⟩:=q2
 cases r1
 rcases k with ⟨rfl,k⟩|⟨rfl,k⟩
 ·obtain⟨t,rfl⟩:∃ t,vst=.int 1 t:=by cases po;exact⟨_,rfl⟩
  have I3:Inv X pins σ H2 { s2 with heap:=s2.heap.push { cls:=.type "slice",data:=.fields #[.none,.none,.int 1 t] } }:=I2.kept (t':=s2.toks) fun b ob q=>Heap.get?_push_of_some _ q
  obtain⟨its,r,ht,hz⟩:=I3.tuple hq
  obtain⟨w1,w2,rfl,g1,g2⟩:=r.two
  show wpAny (model X.prog X.w) X.A (subscriptTail e (.Slice none none (some st) p2) (.ref a) (.ref s2.heap.objs.size)) (EP X pins σ Q) X.xe { s2 with heap:=s2.heap.push { cls:=.type "slice",data:=.fields #[.none,.none,.int 1 t] } }
  refine tail_any (ops:=[.ref a,.ref s2.heap.objs.size]) ht.typeIs PyProof.Rows.slot_tuple_getitem.lookup (zdT ht (Heap.IsSliceOf.new ..) ?_) (by with_unfolding_all rfl)
  exact⟨.ref _,_,I3,rfl,k⟩
 ·obtain⟨t,rfl⟩:∃ t,vst=.int (-1) t:=by cases po;exact⟨_,rfl⟩
  have I3:Inv X pins σ H2 { s2 with heap:=s2.heap.push { cls:=.type "slice",data:=.fields #[.none,.none,.int (-1) t] } }:=I2.kept (t':=s2.toks) fun b ob q=>Heap.get?_push_of_some _ q
  obtain⟨its,r,ht,hz⟩:=I3.tuple hq
  obtain⟨w1,w2,rfl,g1,g2⟩:=r.two
  show wpAny (model X.prog X.w) X.A (subscriptTail e (.Slice none none (some st) p2) (.ref a) (.ref s2.heap.objs.size)) (EP X pins σ Q) X.xe { s2 with heap:=s2.heap.push { cls:=.type "slice",data:=.fields #[.none,.none,.int (-1) t] } }
  refine tail_any (ops:=[.ref a,.ref s2.heap.objs.size]) ht.typeIs PyProof.Rows.slot_tuple_getitem.lookup (zdg ht (Heap.IsSliceOf.new ..) ?_) (by with_unfolding_all rfl)
  exact⟨.ref _,_,I3.laid (t':=s2.toks) (o:=.tup [u2,u1]) (fun b ob q=>Heap.get?_push_of_some _ q) (Nat.le_refl _) ⟨by show 2≤sizeLine;decide,[w2,w1],.cons g2 (.cons g1 .nil),TupX.new _ _⟩,rfl,k _ (I3.hok.fresh (Nat.le_refl _))⟩
theorem zcV:CallR X (.type "int") (fun vs H Q=>∃ x:Str,vs=[.str x]∧AllDigits x.cps.toList∧0<x.length∧x.length≤640∧Q (.int (digitsVal x.cps.toList:Nat)) H):=by
 rintro pins s σ H vs us Q I rv ⟨x,rfl,hd,h0,h6,q⟩
 obtain⟨u,rfl,t,rfl⟩:=rv.one
 have xl:x.cps.toList.length=x.length:=by simp[Str.length]
 have ne:x.cps.toList≠[]:=fun z=>by rw[z]at xl;simp at xl;lia
 exact PySem.W.KIN.call_text (intText_digits hd ne (by lia)) h6 ⟨.int _,H,I.tok _,⟨_,rfl⟩,q⟩
end
end L2
namespace K21
open PySem L2 Own Bn
def top (i:Nat):Stmt:=PySem.Challenge.pw_stairlanes_k21_whole_orders_of_steps.main.body.getD i (.Pass ⟨0,0,0,0⟩)
abbrev zhO:Stmt:=top 25
abbrev zhL:Stmt:=top 26
abbrev zhI:Stmt:=top 27
section
variable {P:Program}{w:World}{K:PySem.W.Frag}{mg:Str→Option Value}{base:Heap}
theorem scC:FnScope ["_law_script","_law_k"] ["_law_script","_law_k"] (zak zhO):=⟨rfl,rfl,rfl,by decide +kernel,rfl,by decide +kernel,by decide +kernel⟩
theorem zie {f:Addr}{fd:FuncData}(F:Fun K "_law_cell_at" "_law_cell_at" zhO f fd) (G:Mgs mg):FnOk P w K mg base CX0 1 f fd ["_law_script","_law_k"] (zeS K):=by
 refine F.ok scC (fun vs H Q E h=>?_) (fun cdv A outer s H vs Q E hr h=>?_)
 ·obtain⟨a,ns,k,rfl,_⟩:=h
  rfl
 obtain⟨a,ns,k,rfl,hS,k0,q⟩:=h
 refine⟨_,(@zaf _ _ _ _ _ (@zaU _ _ _ _ _ _ _ _ (@zau _ _ _ _ _ _ _ _ zev (@pv _ 1 _ _ (by rfl) (by first|exact Or.inl rfl|exact Or.inr (.inl rfl)|exact Or.inr (.inr rfl)) (by decide) (by decide)) (@zar _ _ _ _ _ _ _ _ _ zao (by rfl) G.len PySem.boot_len (@zaa _ _ _ _ _ (@pv _ 0 _ _ (by rfl) (by first|exact Or.inl rfl|exact Or.inr (.inl rfl)|exact Or.inr (.inr rfl)) (by decide) (by decide)) zab (by rfl)) (by decide) (by decide) (by rfl) (by rfl)) (zay _)) (@zah _ _ _ (@zav _ _ _ _ (@zaq _ _ _ _ _ _ _ zaK (@pv _ 0 _ _ (by rfl) (by first|exact Or.inl rfl|exact Or.inr (.inl rfl)|exact Or.inr (.inr rfl)) (by decide) (by decide)) (@pv _ 1 _ _ (by rfl) (by first|exact Or.inl rfl|exact Or.inr (.inl rfl)|exact Or.inr (.inr rfl)) (by decide) (by decide)) (fun _ _=>rfl)))) zaD) (@zah _ _ _ (@zav _ _ _ _ zae))),?_⟩
 refine⟨_,rfl,_,rfl,a,_,rfl,.inl hS,_,_,rfl,rfl,_,rfl,ite2 (fun z=>?_) (fun z=>?_)⟩
 ·obtain⟨j,rfl⟩:=Int.eq_ofNat_of_zero_le k0
  have hj:j<ns.length:=by have:=of_decide_eq_true z;rw[List.length_map]at this;lia
  exact⟨_,rfl,_,rfl,a,_,_,_,rfl,rfl,hS,zdt hj,q _⟩
 ·exact q 0
theorem scK:FnScope ["_law_left_here","_law_many_here","_law_digit"] ["_law_left_here","_law_many_here"] (zak zhI):=⟨rfl,rfl,rfl,by decide +kernel,rfl,by decide +kernel,by decide +kernel⟩
theorem zh8 {f:Addr}{fd:FuncData}(F:Fun K "_law_pick" "_law_pick" zhI f fd):FnOk P w K mg base CX0 1 f fd ["_law_left_here","_law_many_here"] zbE:=by
 refine F.ok scK (fun vs H Q E h=>?_) (fun cdv A outer s H vs Q E hr h=>?_)
 ·obtain⟨l,m,rfl,_⟩:=h
  rfl
 obtain⟨l,m,rfl,m0,m1,S,k⟩:=h
 obtain⟨a,b,hl,a0,b0,b1⟩:=S.ex
 refine⟨_,(@zaf _ _ _ _ _ (@zaU _ _ _ _ _ _ _ _ (@zau _ _ _ _ _ _ _ _ zh2 (@zaq _ _ _ _ _ _ _ zaK (@pv _ 0 _ _ (by rfl) (by first|exact Or.inl rfl|exact Or.inr (.inl rfl)|exact Or.inr (.inr rfl)) (by decide) (by decide)) zae (fun _ _=>rfl)) zae (zay _)) (@zaf _ _ _ _ _ (@zaz _ _ 2 _ _ _ _ scK.nd rfl (.inl rfl) (@zas _ _ _ _ _ _ _ _ zbd (@zaq _ _ _ _ _ _ _ zaK (@pv _ 0 _ _ (by rfl) (by first|exact Or.inl rfl|exact Or.inr (.inl rfl)|exact Or.inr (.inr rfl)) (by decide) (by decide)) zae (fun _ _=>rfl)) (@pv _ 1 _ _ (by rfl) (by first|exact Or.inl rfl|exact Or.inr (.inl rfl)|exact Or.inr (.inr rfl)) (by decide) (by decide))) (by rfl) (by first|exact .inl rfl|exact .inr rfl|assumption)) (@zaf _ _ _ _ _ (@zaR _ _ _ _ _ _ (@zas _ _ _ _ _ _ _ _ zcL (@zaq _ _ _ _ _ _ _ zaK (@pv _ 0 _ _ (by rfl) (by first|exact Or.inl rfl|exact Or.inr (.inl rfl)|exact Or.inr (.inr rfl)) (by decide) (by decide)) zae (fun _ _=>rfl)) (@pv _ 1 _ _ (by rfl) (by first|exact Or.inl rfl|exact Or.inr (.inl rfl)|exact Or.inr (.inr rfl)) (by decide) (by decide))) (@zc9 _ _ _ _ _ _ _ (@pv _ 0 _ _ (by rfl) (by first|exact Or.inl rfl|exact Or.inr (.inl rfl)|exact Or.inr (.inr rfl)) (by decide) (by decide)) zae zbf (by intro _;rfl)) (by rfl) (by rfl) (by rfl)) (@zah _ _ _ (@zav _ _ _ _ (@pv _ 2 _ _ (by rfl) (by first|exact Or.inl rfl|exact Or.inr (.inl rfl)|exact Or.inr (.inr rfl)) (by decide) (by decide)))))) zaD) (@zaf _ _ _ _ _ (@zaR _ _ _ _ _ _ (@zas _ _ _ _ _ _ _ _ zbd (@zas _ _ _ _ _ _ _ _ zaB (@zas _ _ _ _ _ _ _ _ zbH (@zaq _ _ _ _ _ _ _ zaK (@pv _ 0 _ _ (by rfl) (by first|exact Or.inl rfl|exact Or.inr (.inl rfl)|exact Or.inr (.inr rfl)) (by decide) (by decide)) zae (fun _ _=>rfl)) zae) zae) zae) (@zc9 _ _ _ _ _ _ _ (@pv _ 0 _ _ (by rfl) (by first|exact Or.inl rfl|exact Or.inr (.inl rfl)|exact Or.inr (.inr rfl)) (by decide) (by decide)) zae zbf (by intro _;rfl)) (by rfl) (by rfl) (by rfl)) (@zah _ _ _ (@zav _ _ _ _ (@zas _ _ _ _ _ _ _ _ zbd (@zas _ _ _ _ _ _ _ _ zbd (@zas _ _ _ _ _ _ _ _ zbH (@zaq _ _ _ _ _ _ _ zaK (@pv _ 0 _ _ (by rfl) (by first|exact Or.inl rfl|exact Or.inr (.inl rfl)|exact Or.inr (.inr rfl)) (by decide) (by decide)) zae (fun _ _=>rfl)) (@zaq _ _ _ _ _ _ _ zaK (@pv _ 0 _ _ (by rfl) (by first|exact Or.inl rfl|exact Or.inr (.inl rfl)|exact Or.inr (.inr rfl)) (by decide) (by decide)) zae (fun _ _=>rfl))) zae) (@pv _ 1 _ _ (by rfl) (by first|exact Or.inl rfl|exact Or.inr (.inl rfl)|exact Or.inr (.inr rfl)) (by decide) (by decide))))))),?_⟩
 have fin:∀ (x:Int) (H':Hp),0≤x→x<m→PkAt H' l→But l H H'→Q (.int x) H':=fun x H' x0 x1 S' B'=>by
  obtain⟨v,rfl⟩:=Int.eq_ofNat_of_zero_le x0
  exact k v H' x1 S' B'
 refine⟨_,rfl,l,_,_,_,rfl,rfl,SqL.of hl,rfl,_,_,rfl,rfl,_,rfl,ite2 (fun q=>?_) (fun q=>?_)⟩
 ·refine⟨_,rfl,l,_,_,_,rfl,rfl,SqL.of hl,rfl,_,rfl,_,_,rfl,rfl,m0,?_⟩
  refine⟨_,rfl,l,_,_,_,rfl,rfl,SqL.of hl,rfl,_,rfl,_,_,rfl,rfl,⟨m0,m1⟩,_,rfl,l,_,_,0,rfl,rfl,hl,rfl,_,rfl,?_⟩
  exact fin _ _ (Int.emod_nonneg _ (by lia)) (Int.emod_lt_of_pos _ m0) ⟨a / m,b,zac,Int.ediv_nonneg a0 (by lia),b0,b1⟩ fun x o e ne=>by rw[zaj ne];exact e
 ·refine⟨_,rfl,l,_,_,_,rfl,rfl,SqL.of hl,rfl,_,_,rfl,rfl,.inr ⟨by decide,by decide⟩,_,_,rfl,rfl,_,_,rfl,rfl,(by show (0:Int)<2147483647;decide),_,rfl,l,_,_,1,rfl,rfl,hl,rfl,?_⟩
  have g0:0≤(b*48271+12345)%2147483647:=Int.emod_nonneg _ (by decide)
  have g1:(b*48271+12345)%2147483647<2147483647:=Int.emod_lt_of_pos _ (by decide)
  generalize hH:upd H l (HO.lst ([V.int a,V.int b].set 1 (V.int ((b*48271+12345)%2147483647))))=H1
  have h1:H1 l=some (.lst [.int a,.int ((b*48271+12345)%2147483647)]):=by rw[← hH];exact zac
  refine⟨_,rfl,l,_,_,_,rfl,rfl,SqL.of h1,rfl,_,rfl,l,_,_,_,rfl,rfl,SqL.of h1,rfl,_,_,rfl,rfl,.inl ⟨by lia,by lia⟩,_,_,rfl,rfl,(by show (0:Int)<1999999973;decide),_,rfl,_,_,rfl,rfl,m0,?_⟩
  exact fin _ _ (Int.emod_nonneg _ (by lia)) (Int.emod_lt_of_pos _ m0) ⟨a,_,h1,a0,g0,by lia⟩ fun x o e ne=>by rw[← hH,zaj ne];exact e
theorem scL:FnScope ["_law_script","_law_k","_law_cell","_law_seed"] ["_law_script","_law_k"] (zak zhL):=⟨rfl,rfl,rfl,by decide +kernel,rfl,by decide +kernel,by decide +kernel⟩
theorem zib {f fC:Addr}{fd dC:FuncData}(F:Fun K "_law_left" "_law_left" zhL f fd) (G:Mgs mg) (zd:PySem.W.nsIn K cStatics "sys.int_max_str_digits" = some none) (UC:Use P w K mg base "_law_cell_at" ["_law_script","_law_k"] 1 (zeS K) fC dC):FnOk P w K mg base CX0 2 f fd ["_law_script","_law_k"] (zeQ K):=by
 refine F.ok scL (fun vs H Q E h=>?_) (fun cdv A outer s H vs Q E hr h=>?_)
 ·obtain⟨a,ns,k,rfl,_⟩:=h
  rfl
 obtain⟨a,ns,k,rfl,hS,h63,k0,k1,q⟩:=h
 refine⟨_,(@zaf _ _ _ _ _ (@zaz _ _ 2 _ _ _ _ scL.nd rfl (.inl rfl) (@zag _ _ _ _ _ _ _ _ _ _ _ _ _ _ _ _ UC.ok hr (by rfl) UC.m UC.kp UC.b .nil zat (@zaa _ _ _ _ _ (@pv _ 0 _ _ (by rfl) (by first|exact Or.inl rfl|exact Or.inr (.inl rfl)|exact Or.inr (.inr rfl)) (by decide) (by decide)) (@zaa _ _ _ _ _ (@zas _ _ _ _ _ _ _ _ zbd (@pv _ 1 _ _ (by rfl) (by first|exact Or.inl rfl|exact Or.inr (.inl rfl)|exact Or.inr (.inr rfl)) (by decide) (by decide)) (@zar _ _ _ _ _ _ _ _ _ (zdl rfl) (by rfl) G.max (by rfl) (@zaa _ _ _ _ _ zae (@zaa _ _ _ _ _ (@zar _ _ _ _ _ _ _ _ _ zao (by rfl) G.len PySem.boot_len (@zaa _ _ _ _ _ (@pv _ 0 _ _ (by rfl) (by first|exact Or.inl rfl|exact Or.inr (.inl rfl)|exact Or.inr (.inr rfl)) (by decide) (by decide)) zab (by rfl)) (by decide) (by decide) (by rfl) (by rfl)) zab (by rfl)) (by rfl)) (by decide) (by decide) (by rfl) (by rfl))) zab (by rfl)) (by rfl)) (by decide) (by rfl) (by rfl)) (by rfl) (by first|exact .inl rfl|exact .inr rfl|assumption)) (@zaf _ _ _ _ _ (@zaz _ _ 3 _ _ _ _ scL.nd rfl (.inl rfl) (@zas _ _ _ _ _ _ _ _ zbd (@zas _ _ _ _ _ _ _ _ zbH (@zas _ _ _ _ _ _ _ _ zaB (@zas _ _ _ _ _ _ _ _ zaB (@zas _ _ _ _ _ _ _ _ zbd (@pv _ 2 _ _ (by rfl) (by first|exact Or.inl rfl|exact Or.inr (.inl rfl)|exact Or.inr (.inr rfl)) (by decide) (by decide)) zae) (@zas _ _ _ _ _ _ _ _ zbH (@zas _ _ _ _ _ _ _ _ zbH zae (@pv _ 1 _ _ (by rfl) (by first|exact Or.inl rfl|exact Or.inr (.inl rfl)|exact Or.inr (.inr rfl)) (by decide) (by decide))) (@pv _ 1 _ _ (by rfl) (by first|exact Or.inl rfl|exact Or.inr (.inl rfl)|exact Or.inr (.inr rfl)) (by decide) (by decide)))) zae) zae) zae) (by rfl) (by first|exact .inl rfl|exact .inr rfl|assumption)) (@zah _ _ _ (@zav _ _ _ _ (@zaO _ _ _ _ (@zaa _ _ _ _ _ (@zas _ _ _ _ _ _ _ _ zbd (@zas _ _ _ _ _ _ _ _ zbH (@zar _ _ _ _ _ _ _ _ _ zcW (by rfl) G.abs (by rfl) (@zaa _ _ _ _ _ (@pv _ 2 _ _ (by rfl) (by first|exact Or.inl rfl|exact Or.inr (.inl rfl)|exact Or.inr (.inr rfl)) (by decide) (by decide)) zab (by rfl)) (by decide) (by decide) (by rfl) (by rfl)) (@zaI _ _ _ _ _ _ _ _ _ zdo (by rfl) G.int (by rfl) (@zaa _ _ _ _ _ (@zbb _ _ _ _ _ _ _ _ zgA (@zar _ _ _ _ _ _ _ _ _ zcW (by rfl) G.abs (by rfl) (@zaa _ _ _ _ _ (@pv _ 2 _ _ (by rfl) (by first|exact Or.inl rfl|exact Or.inr (.inl rfl)|exact Or.inr (.inr rfl)) (by decide) (by decide)) zab (by rfl)) (by decide) (by decide) (by rfl) (by rfl)) (@zas _ _ _ _ _ _ _ _ zhh zae zae) (zay _)) zab (by rfl)) (by decide) (by decide) (by rfl) (by rfl))) (@zaI _ _ _ _ _ _ _ _ _ (zdn zd) (by rfl) G.int (by rfl) (@zaa _ _ _ _ _ (@zas _ _ _ _ _ _ _ _ zce zax (@zas _ _ _ _ _ _ _ _ zfj zax zae)) zab (by rfl)) (by decide) (by decide) (by rfl) (by rfl))) (@zaa _ _ _ _ _ (@pv _ 3 _ _ (by rfl) (by first|exact Or.inl rfl|exact Or.inr (.inl rfl)|exact Or.inr (.inr rfl)) (by decide) (by decide)) zab (by rfl)) (by rfl))))))),?_⟩
 refine⟨_,rfl,_,rfl,_,rfl,a,_,rfl,.inl hS,_,_,rfl,_,_,rfl,rfl,?_,?_⟩
 ·split<;>lia
 refine⟨a,ns,_,rfl,hS,Int.emod_nonneg _ (by split<;>lia),fun x=>?_⟩
 refine⟨_,rfl,_,_,rfl,rfl,(by show (0:Int)<2147483629;decide),_,rfl,_,_,rfl,rfl,.inl ⟨by decide,by decide⟩,_,rfl,_,_,rfl,rfl,.inr ⟨by lia,by lia⟩,_,_,rfl,rfl,_,_,rfl,rfl,_,_,rfl,rfl,.inr ⟨by decide,by decide⟩,_,_,rfl,rfl,(by show (0:Int)<2147483647;decide),?_⟩
 have g0:=Int.emod_nonneg ((x%2147483629+7919*k*k+11)*48271) (show (2147483647:Int)≠0 by decide)
 have g1:=Int.emod_lt_of_pos ((x%2147483629+7919*k*k+11)*48271) (show (0:Int)<2147483647 by decide)
 refine⟨_,rfl,_,rfl,_,rfl,_,rfl,_,_,rfl,rfl,⟨by decide,by decide,by decide⟩,_,_,rfl,rfl,.inr ⟨_,rfl,_,_,rfl,rfl,.inr ?_,?_⟩⟩
 ·have c:∀ b:Bool,-2 ^ 64<(if b=true then (1:Int) else 0)∧(if b=true then (1:Int) else 0)<2 ^ 64:=by decide
  exact c _
 refine⟨48,2000,rfl,rfl,by decide,by decide,fun z hz=>?_⟩
 obtain⟨d1,d2,d3⟩:=zfC hz
 have zl:z.length=2000:=by
  have:=congrArg List.length hz
  rw[Array.length_toList,List.length_replicate]at this
  exact this
 refine⟨_,_,rfl,rfl,by rw[zl];decide,_,rfl,d1,by lia,by lia,_,_,rfl,rfl,by lia,_,rfl,(by show 2≤sizeLine;decide),fun l hl=>?_⟩
 exact q l _ hl (zad hl _) ⟨_,_,zac,Int.emod_nonneg _ (by lia),g0,by lia⟩
end
end K21
namespace L2
open PySem PySem.Spec PyProof.Rows Own
section
variable {X:Cx}
theorem zcE {st:Stmt}:PS X st (fun _ _ _=>False):=fun _ _ _ _ _ _ h=>h.elim
end
def AnyT (K:PySem.W.Frag) (H:Hp) (x:V):Prop:=∃ T,TyOf K H x T∧∃ t:String,T=.type t
def ziM:V→Bool
 | .int _=>true
 | _=>false
def zbJ (b:Int):V→Bool
 | .int i=>decide (0≤i) && decide (i<b)
 | _=>false
def zcQ (b:Int):V→Bool
 | .int i=>decide (b≤i)
 | _=>false
def fewV:V→Bool
 | .int i=>decide ((if i<0 then -i else i)<10 ^ 30)
 | _=>false
def za8 (w:Str):V→Bool
 | .str x=>decide (x=w)
 | _=>false
def zbl (H:Hp):V→Option (List V)
 | .ref a=>match H a with
  | some (.tup xs)=>some xs
  | _=>none
 | _=>none
def rowV (H:Hp) (m:Int) (x:V):Bool:=match zbl H x with
 | some xs=>decide ((xs.length:Int)=m)
 | none=>false
theorem zbT {H:Hp}{a:Addr}{xs:List V}(h:H a=some (.tup xs)):zbl H (.ref a)=some xs:=by
 show (match H a with
  | some (.tup xs)=>some xs
  | _=>none)=_
 rw[h]
theorem zcc {H:Hp}{x:V}{xs:List V}(h:zbl H x=some xs):∃ a,x=.ref a∧H a=some (.tup xs):=by
 cases x with
 | ref a =>
  refine⟨a,rfl,?_⟩
  cases z:H a with
  | none=>simp[zbl,z]at h
  | some o=>cases o<;>simp[zbl,z]at h;rw[h]
 | _=>cases h
theorem zdS (i j:Int):decide (V.int i=V.int j)=decide (i=j):=by
 by_cases e:i=j
 ·rw[decide_eq_true e,decide_eq_true (congrArg V.int e)]
 ·rw[decide_eq_false e,decide_eq_false (fun z=>e (V.int.inj z))]
theorem zhv (i j:Str):decide (V.str i=V.str j)=decide (i=j):=by
 by_cases e:i=j
 ·rw[decide_eq_true e,decide_eq_true (congrArg V.str e)]
 ·rw[decide_eq_false e,decide_eq_false (fun z=>e (V.str.inj z))]
structure Isi (K:PySem.W.Frag) (H:Hp) (x:V) (t:Value):Prop where
 ty:TyOf K H x t
 int:PySem.W.kitOne K t (.type "int")=some (match x with|.int _=>true|.bl _=>true|_=>false)
 bool:PySem.W.kitOne K t (.type "bool")=some (match x with|.bl _=>true|_=>false)
 str:PySem.W.kitOne K t (.type "str")=some (match x with|.str _=>true|_=>false)
 tup:PySem.W.kitOne K t (.type "tuple")=some (zbl H x).isSome
theorem zjl {K:PySem.W.Frag}{H:Hp}{x:V}{T:Value}(h:TyOf K H x T) (et:∃ t,T=.type t):Isi K H x T:=by
 cases h with
 | ins e _ _ _ _ _=>obtain⟨t,et⟩:=et;cases et
 | lst e=>exact⟨.lst e,rfl,rfl,rfl,by simp only[zbl,e];rfl⟩
 | frz e=>exact⟨.frz e,rfl,rfl,rfl,by simp only[zbl,e];rfl⟩
 | tup e=>exact⟨.tup e,rfl,rfl,rfl,by simp only[zbl,e];rfl⟩
 | dK e=>exact⟨.dK e,rfl,rfl,rfl,by simp only[zbl,e];rfl⟩
 | dT e=>exact⟨.dT e,rfl,rfl,rfl,by simp only[zbl,e];rfl⟩
 | non=>exact⟨.non,rfl,rfl,rfl,rfl⟩
 | bl b=>exact⟨.bl b,rfl,rfl,rfl,rfl⟩
 | int i=>exact⟨.int i,rfl,rfl,rfl,rfl⟩
 | str x=>exact⟨.str x,rfl,rfl,rfl,rfl⟩
 | flt x=>exact⟨.flt x,rfl,rfl,rfl,rfl⟩
theorem AnyT.isi {K:PySem.W.Frag}{H:Hp}{x:V}(h:AnyT K H x):∃ t,Isi K H x t :=
 let ⟨T,h,et⟩:=h
 ⟨T,zjl h et⟩
end L2
namespace Bn
open PySem L2 Own
theorem zjm (h a b:Nat):inV (V.int h) [V.int a,V.int b]=decide (h=a∨h=b):=by
 by_cases e1:h=a
 ·subst e1;simp[inV,eqV]
 ·by_cases e2:h=b
  ·subst e2;simp[inV,eqV]
  ·have n1:¬((h:Int)=a):=by lia
   have n2:¬((h:Int)=b):=by lia
   simp[inV,eqV,e1,e2];lia
structure IsNext (fs:List (Nat × Nat)) (lane n k:Nat):Prop where
 from_:n≤k
 upto:k≤fs.length
 none:∀ j g,n≤j→j<k→fs[j]?=some g→¬(lane=g.1∨lane=g.2)
 here:∀ g,fs[k]?=some g→lane=g.1∨lane=g.2
theorem IsNext.one {fs:List (Nat × Nat)}{lane n k m:Nat}(h:IsNext fs lane n k) (g:IsNext fs lane n m):k=m:=by
 have go:∀ k m,IsNext fs lane n k→IsNext fs lane n m→¬ k<m:=fun k m h g z=>by
  have kl:k<fs.length:=Nat.lt_of_lt_of_le z g.upto
  exact g.none k fs[k] h.from_ z (List.getElem?_eq_getElem kl) (h.here _ (List.getElem?_eq_getElem kl))
 have a:=go k m h g
 have b:=go m k g h
 lia
structure Grp where
 many:Int
 lane:Nat
 fork:Nat
def Grs (H:Hp):List V→List Grp→Prop
 | [],[]=>True
 | p::ps,g::gs=>(∃ a,p=.ref a∧H a=some (.tup [.int g.many,.int g.lane,.int g.fork]))∧Grs H ps gs
 | _,_=>False
theorem Grs.tups {H H':Hp}(t:Tups H H'):∀ {ps:List V}{gs:List Grp},Grs H ps gs→Grs H' ps gs
 | [],[],_=>trivial
 | _::_,_::_,⟨⟨a,e,h⟩,r⟩=>⟨⟨a,e,t _ _ h⟩,r.tups t⟩
theorem Grs.len {H:Hp}:∀ {ps:List V}{gs:List Grp},Grs H ps gs→ps.length=gs.length
 | [],[],_=>rfl
 | _::_,_::_,⟨_,r⟩=>congrArg (· + 1) r.len
theorem Grs.app {H:Hp}:∀ {ps qs:List V}{gs hs:List Grp},Grs H ps gs→Grs H qs hs→Grs H (ps++qs) (gs++hs)
 | [],_,[],_,_,q=>q
 | _::_,_,_::_,_,⟨x,r⟩,q=>⟨x,r.app q⟩
theorem Grs.one {H:Hp}{a:Addr}{g:Grp}(h:H a=some (.tup [.int g.many,.int g.lane,.int g.fork])):Grs H [.ref a] [g]:=⟨⟨a,rfl,h⟩,trivial⟩
theorem Grs.get {H:Hp}:∀ {ps:List V}{gs:List Grp}{i:Nat}{p:V},Grs H ps gs→ps[i]?=some p→∃ a g,p=.ref a∧gs[i]?=some g∧H a=some (.tup [.int g.many,.int g.lane,.int g.fork])
 | [],[],_,_,_,e=>by simp at e
 | _::_,g::_,0,p,⟨⟨a,e1,h⟩,_⟩,e=>by
  have:_=p:=Option.some.inj e
  subst this
  exact⟨a,g,e1,rfl,h⟩
 | _::_,_::_,i+1,p,⟨_,r⟩,e=>r.get (i:=i) (by simpa using e)
theorem Grs.take {H:Hp}:∀ {ps:List V}{gs:List Grp}(i:Nat),Grs H ps gs→Grs H (ps.take i) (gs.take i)
 | [],[],i,_=>by cases i<;>exact trivial
 | _::_,_::_,0,_=>trivial
 | _::_,_::_,i+1,⟨x,r⟩=>⟨x,r.take i⟩
theorem Grs.drop {H:Hp}:∀ {ps:List V}{gs:List Grp}(i:Nat),Grs H ps gs→Grs H (ps.drop i) (gs.drop i)
 | [],[],i,_=>by cases i<;>exact trivial
 | _::_,_::_,0,h=>h
 | _::_,_::_,i+1,⟨_,r⟩=>r.drop i
structure SceneAt (H:Hp) (sc tr gr ou:Addr) (ps:List V) (ts:List Int) (gs:List Grp) (os:List Int):Prop where
 sc:H sc=some (.tup [.ref tr,.ref gr,.ref ou])
 tr:H tr=some (.tup (ts.map V.int))
 gr:H gr=some (.tup ps)
 grs:Grs H ps gs
 ou:H ou=some (.tup (os.map V.int))
theorem SceneAt.tups {H H':Hp}{sc tr gr ou:Addr}{ps:List V}{ts:List Int}{gs:List Grp}{os:List Int}(t:Tups H H') (h:SceneAt H sc tr gr ou ps ts gs os):SceneAt H' sc tr gr ou ps ts gs os:=⟨t _ _ h.sc,t _ _ h.tr,t _ _ h.gr,h.grs.tups t,t _ _ h.ou⟩
theorem ziL (n:Nat):(List.replicate n [V.int 0]).flatten=(List.replicate n (0:Int)).map V.int:=by
 induction n with
 | zero=>rfl
 | succ n ih=>rw[List.replicate_succ,List.flatten_cons,ih,List.replicate_succ];rfl
end Bn
namespace K21
open PySem L2 Own Bn
abbrev zhJ:Stmt:=top 11
def zd2:Sp:=fun vs H Q _=>∃ r fr er ps N,∃ lane n:Nat,vs=[.ref r,.int lane,.int n]∧Nt.Ok N∧NetAt H r fr er ps N∧n≤N.forks.length∧∀ k:Nat,IsNext N.forks lane n k→Q (.int k) H
section
variable {P:Program}{w:World}{K:PySem.W.Frag}{mg:Str→Option Value}{base:Heap}
theorem scNx:FnScope ["net","lane","number","forks"] ["net","lane","number"] (zak zhJ):=⟨rfl,rfl,rfl,by decide +kernel,rfl,by decide +kernel,by decide +kernel⟩
theorem zh9 {f:Addr}{fd:FuncData}(F:Fun K "next_fork" "next_fork" zhJ f fd) (G:Mgs mg):FnOk P w K mg base CX0 1 f fd ["net","lane","number"] zd2:=by
 refine F.ok scNx (fun vs H Q E h=>?_) (fun cdv A outer s H vs Q E hr h=>?_)
 ·obtain⟨r,fr,er,ps,N,lane,n,rfl,_⟩:=h
  rfl
 obtain⟨r,fr,er,ps,N,lane,n,rfl,ok,na,nl,k⟩:=h
 refine⟨_,(@zaf _ _ _ _ _ (@zaz _ _ 3 _ _ _ _ scNx.nd rfl (.inl rfl) (@zaq _ _ _ _ _ _ _ zam (@pv _ 0 _ _ (by rfl) (by first|exact Or.inl rfl|exact Or.inr (.inl rfl)|exact Or.inr (.inr rfl)) (by decide) (by decide)) zae (fun _ _=>rfl)) (by rfl) (by first|exact .inl rfl|exact .inr rfl|assumption)) (@zaf _ _ _ _ _ (@zea _ _ _ _ _ _ PassesOwn.never (@zbW _ _ _ _ _ _ _ (@zau _ _ _ _ _ _ _ _ zev (@pv _ 2 _ _ (by rfl) (by first|exact Or.inl rfl|exact Or.inr (.inl rfl)|exact Or.inr (.inr rfl)) (by decide) (by decide)) (@zar _ _ _ _ _ _ _ _ _ zao (by rfl) G.len PySem.boot_len (@zaa _ _ _ _ _ (@pv _ 3 _ _ (by rfl) (by first|exact Or.inl rfl|exact Or.inr (.inl rfl)|exact Or.inr (.inr rfl)) (by decide) (by decide)) zab (by rfl)) (by decide) (by decide) (by rfl) (by rfl)) (zay _)) (@zbm _ _ _ _ (@zau _ _ _ _ _ _ _ _ zda (@pv _ 1 _ _ (by rfl) (by first|exact Or.inl rfl|exact Or.inr (.inl rfl)|exact Or.inr (.inr rfl)) (by decide) (by decide)) (@zaq _ _ _ _ _ _ _ zam (@pv _ 3 _ _ (by rfl) (by first|exact Or.inl rfl|exact Or.inr (.inl rfl)|exact Or.inr (.inr rfl)) (by decide) (by decide)) (@pv _ 2 _ _ (by rfl) (by first|exact Or.inl rfl|exact Or.inr (.inl rfl)|exact Or.inr (.inr rfl)) (by decide) (by decide)) (fun _ _=>rfl)) (by rfl)))).pt (@zah _ _ _ (@zi3 _ _ 2 _ _ _ _ _ _ scNx.nd rfl (.inl rfl) zae zhl (by first|exact .inl rfl|exact .inr rfl|assumption)))) (@zah _ _ _ (@zav _ _ _ _ (@pv _ 2 _ _ (by rfl) (by first|exact Or.inl rfl|exact Or.inr (.inl rfl)|exact Or.inr (.inr rfl)) (by decide) (by decide)))))),?_⟩
 have pl:=na.prs.len
 have fm:=ok.fm
 refine⟨_,rfl,r,_,_,_,rfl,rfl,SqT.of na.net,rfl,?_⟩
 refine⟨fun m σ H1=>H1=H∧∃ q:Nat,σ=[some (.ref r),some (.int lane),some (.int q),some (.ref fr)]∧n≤q∧q≤N.forks.length∧m=N.forks.length-q∧∀ j g,n≤j→j<q→N.forks[j]?=some g→¬(lane=g.1∨lane=g.2),
  ⟨_,rfl,n,rfl,Nat.le_refl _,nl,rfl,fun j g h1 h2=>by lia⟩,?_⟩
 rintro m σ H1 ⟨rfl,q,rfl,nq,ql,em,hno⟩
 refine⟨_,rfl,_,rfl,fr,_,rfl,.inr (SqT.of na.forks),_,_,rfl,rfl,_,rfl,?_⟩
 by_cases z:q<N.forks.length
 ·rw[decide_eq_true (show (q:Int)<ps.length by lia)]
  obtain⟨a,g,ex,eg,ha⟩:=na.prs.get (i:=q) (List.getElem?_eq_getElem (show q<ps.length by lia))
  have hat:atI ps ((q:Nat):Int)=some (.ref a):=zaJ (by rw[List.getElem?_eq_getElem (show q<ps.length by lia),ex])
  refine iteT ⟨_,rfl,_,rfl,_,rfl,fr,_,_,_,rfl,rfl,SqT.of na.forks,hat,a,_,rfl,.inr (SqT.of ha),rfl,rfl,_,rfl,?_⟩
  show if (if true=true then !inV (V.int (lane:Nat)) [V.int (g.1:Nat),V.int (g.2:Nat)] else inV (V.int (lane:Nat)) [V.int (g.1:Nat),V.int (g.2:Nat)])=true then _ else _
  rw[if_pos rfl,zjm]
  by_cases on:lane=g.1∨lane=g.2
  ·rw[decide_eq_true on]
   refine iteF ⟨_,rfl,k q ⟨nq,ql,hno,fun g' eg'=>?_⟩⟩
   rw[eg]at eg';obtain rfl:=Option.some.inj eg';exact on
  ·rw[decide_eq_false on]
   refine iteT ⟨_,fun σ' H' hN=>⟨m-1,by lia,hN⟩,?_⟩
   refine⟨_,rfl,_,_,rfl,rfl,rfl,q+1,rfl,by lia,by lia,by lia,fun j g' h1 h2 h3=>?_⟩
   by_cases e:j=q
   ·subst e;rw[eg]at h3;obtain rfl:=Option.some.inj h3;exact on
   ·exact hno j g' h1 (by lia) h3
 ·rw[decide_eq_false (show ¬(q:Int)<ps.length by lia)]
  refine iteF (iteF ⟨_,rfl,k q ⟨nq,ql,hno,fun g' eg'=>?_⟩⟩)
  have:=(List.getElem?_eq_some_iff.mp eg').1
  lia
end
abbrev zeX:Stmt:=top 5
abbrev ze8:Stmt:=top 6
abbrev sFew:Stmt:=top 7
abbrev ze5:Stmt:=top 9
def zbR (K:PySem.W.Frag):Sp:=fun vs H Q _=>∃ x,vs=[x]∧AnyT K H x∧Q (.bl (ziM x)) H
def zdD (K:PySem.W.Frag):Sp:=fun vs H Q _=>∃ x b,vs=[x,.int b]∧AnyT K H x∧Q (.bl (zbJ b x)) H
def zhy (K:PySem.W.Frag):Sp:=fun vs H Q _=>∃ x,vs=[x]∧AnyT K H x∧Q (.bl (fewV x)) H
def zdB (K:PySem.W.Frag):Sp:=fun vs H Q _=>∃ x m,vs=[x,.int m]∧AnyT K H x∧Q (.bl (rowV H m x)) H
section
variable {P:Program}{w:World}{K:PySem.W.Frag}{mg:Str→Option Value}{base:Heap}
theorem scKw:FnScope ["thing"] ["thing"] (zak zeX):=⟨rfl,rfl,rfl,by decide +kernel,rfl,by decide +kernel,by decide +kernel⟩
theorem zgE {f:Addr}{fd:FuncData}(F:Fun K "is_whole" "is_whole" zeX f fd) (G:Mgs mg):FnOk P w K mg base CX0 1 f fd ["thing"] (zbR K):=by
 refine F.ok scKw (fun vs H Q E h=>?_) (fun cdv A outer s H vs Q E hr h=>?_)
 ·obtain⟨x,rfl,_⟩:=h
  rfl
 obtain⟨x,rfl,ax,k⟩:=h
 refine⟨_,(@zah _ _ _ (@zav _ _ _ _ (@zbc _ _ _ _ _ _ _ (@zar _ _ _ _ _ _ _ _ _ zbP (by rfl) G.isi (by rfl) (@zaa _ _ _ _ _ (@pv _ 0 _ _ (by rfl) (by first|exact Or.inl rfl|exact Or.inr (.inl rfl)|exact Or.inr (.inr rfl)) (by decide) (by decide)) (@zaa _ _ _ _ _ (@zcH _ _ (.ty "int") (.type "int") _ (by rfl) G.int (by rfl) rfl (by decide) (by decide)) zab (by rfl)) (by rfl)) (by decide) (by decide) (by rfl) (by rfl)) (@zbj _ _ _ _ _ (@zi6 _ _ _ _ (@zar _ _ _ _ _ _ _ _ _ zbP (by rfl) G.isi (by rfl) (@zaa _ _ _ _ _ (@pv _ 0 _ _ (by rfl) (by first|exact Or.inl rfl|exact Or.inr (.inl rfl)|exact Or.inr (.inr rfl)) (by decide) (by decide)) (@zaa _ _ _ _ _ (@zcH _ _ (.ty "bool") (.type "bool") _ (by rfl) G.bool (by rfl) rfl (by decide) (by decide)) zab (by rfl)) (by rfl)) (by decide) (by decide) (by rfl) (by rfl))))))),?_⟩
 obtain⟨t,I⟩:=ax.isi
 refine⟨_,rfl,_,"int",_,_,rfl,I.ty,I.int,_,rfl,?_⟩
 cases x with
 | int i=>exact iteT ⟨_,rfl,_,"bool",_,_,rfl,I.ty,I.bool,_,rfl,k⟩
 | bl b=>exact iteT ⟨_,rfl,_,"bool",_,_,rfl,I.ty,I.bool,_,rfl,k⟩
 | non=>exact iteF k
 | str z=>exact iteF k
 | flt z=>exact iteF k
 | byt z=>exact iteF k
 | ref z=>exact iteF k
 | ty z=>exact iteF k
theorem scKb:FnScope ["thing","bound"] ["thing","bound"] (zak ze8):=⟨rfl,rfl,rfl,by decide +kernel,rfl,by decide +kernel,by decide +kernel⟩
theorem zgP {f fW:Addr}{fd dW:FuncData}(F:Fun K "is_below" "is_below" ze8 f fd) (G:Mgs mg) (UW:Use P w K mg base "is_whole" ["thing"] 1 (zbR K) fW dW):FnOk P w K mg base CX0 2 f fd ["thing","bound"] (zdD K):=by
 refine F.ok scKb (fun vs H Q E h=>?_) (fun cdv A outer s H vs Q E hr h=>?_)
 ·obtain⟨x,b,rfl,_⟩:=h
  rfl
 obtain⟨x,b,rfl,ax,k⟩:=h
 refine⟨_,(@zah _ _ _ (@zav _ _ _ _ (@zbc _ _ _ _ _ _ _ (@zag _ _ _ _ _ _ _ _ _ _ _ _ _ _ _ _ UW.ok hr (by rfl) UW.m UW.kp UW.b .nil zat (@zaa _ _ _ _ _ (@pv _ 0 _ _ (by rfl) (by first|exact Or.inl rfl|exact Or.inr (.inl rfl)|exact Or.inr (.inr rfl)) (by decide) (by decide)) zab (by rfl)) (by decide) (by rfl) (by rfl)) (@zbj _ _ _ _ _ (@zgx _ _ _ _ _ _ _ _ _ _ _ _ zjR zev zae (@pv _ 0 _ _ (by rfl) (by first|exact Or.inl rfl|exact Or.inr (.inl rfl)|exact Or.inr (.inr rfl)) (by decide) (by decide)) (@pv _ 1 _ _ (by rfl) (by first|exact Or.inl rfl|exact Or.inr (.inl rfl)|exact Or.inr (.inr rfl)) (by decide) (by decide)) (by with_unfolding_all rfl)))))),?_⟩
 refine⟨_,rfl,_,rfl,ax,_,rfl,?_⟩
 cases x with
 | int i =>
  refine iteT ⟨_,rfl,_,_,rfl,rfl,_,rfl,?_⟩
  have e:zbJ b (.int i)=(decide (0≤i) && decide (i<b)):=rfl
  rw[e]at k
  by_cases z:(0:Int)≤i
  ·rw[decide_eq_true z]at k ⊢
   exact iteT ⟨_,rfl,_,_,rfl,rfl,k⟩
  ·rw[decide_eq_false z]at k ⊢
   exact iteF k
 | bl z=>exact iteF k
 | non=>exact iteF k
 | str z=>exact iteF k
 | flt z=>exact iteF k
 | byt z=>exact iteF k
 | ref z=>exact iteF k
 | ty z=>exact iteF k
theorem scKf:FnScope ["thing"] ["thing"] (zak sFew):=⟨rfl,rfl,rfl,by decide +kernel,rfl,by decide +kernel,by decide +kernel⟩
theorem zjd {f fW:Addr}{fd dW:FuncData}(F:Fun K "has_few_figures" "has_few_figures" sFew f fd) (G:Mgs mg) (UW:Use P w K mg base "is_whole" ["thing"] 1 (zbR K) fW dW):FnOk P w K mg base CX0 2 f fd ["thing"] (zhy K):=by
 refine F.ok scKf (fun vs H Q E h=>?_) (fun cdv A outer s H vs Q E hr h=>?_)
 ·obtain⟨x,rfl,_⟩:=h
  rfl
 obtain⟨x,rfl,ax,k⟩:=h
 refine⟨_,(@zah _ _ _ (@zav _ _ _ _ (@zbc _ _ _ _ _ _ _ (@zag _ _ _ _ _ _ _ _ _ _ _ _ _ _ _ _ UW.ok hr (by rfl) UW.m UW.kp UW.b .nil zat (@zaa _ _ _ _ _ (@pv _ 0 _ _ (by rfl) (by first|exact Or.inl rfl|exact Or.inr (.inl rfl)|exact Or.inr (.inr rfl)) (by decide) (by decide)) zab (by rfl)) (by decide) (by rfl) (by rfl)) (@zbj _ _ _ _ _ (@zbb _ _ _ _ _ _ _ _ zev (@zar _ _ _ _ _ _ _ _ _ zcW (by rfl) G.abs (by rfl) (@zaa _ _ _ _ _ (@pv _ 0 _ _ (by rfl) (by first|exact Or.inl rfl|exact Or.inr (.inl rfl)|exact Or.inr (.inr rfl)) (by decide) (by decide)) zab (by rfl)) (by decide) (by decide) (by rfl) (by rfl)) (@zas _ _ _ _ _ _ _ _ zhh zae zae) (zay _)))))),?_⟩
 refine⟨_,rfl,_,rfl,ax,_,rfl,?_⟩
 cases x with
 | int i=>exact iteT ⟨_,rfl,_,rfl,_,_,rfl,rfl,⟨by decide,by decide,by decide⟩,_,_,rfl,rfl,k⟩
 | bl z=>exact iteF k
 | non=>exact iteF k
 | str z=>exact iteF k
 | flt z=>exact iteF k
 | byt z=>exact iteF k
 | ref z=>exact iteF k
 | ty z=>exact iteF k
theorem scKr:FnScope ["thing","many"] ["thing","many"] (zak ze5):=⟨rfl,rfl,rfl,by decide +kernel,rfl,by decide +kernel,by decide +kernel⟩
theorem zgM {f:Addr}{fd:FuncData}(F:Fun K "is_row" "is_row" ze5 f fd) (G:Mgs mg):FnOk P w K mg base CX0 1 f fd ["thing","many"] (zdB K):=by
 refine F.ok scKr (fun vs H Q E h=>?_) (fun cdv A outer s H vs Q E hr h=>?_)
 ·obtain⟨x,m,rfl,_⟩:=h
  rfl
 obtain⟨x,m,rfl,ax,k⟩:=h
 refine⟨_,(@zah _ _ _ (@zav _ _ _ _ (@zbc _ _ _ _ _ _ _ (@zar _ _ _ _ _ _ _ _ _ zbP (by rfl) G.isi (by rfl) (@zaa _ _ _ _ _ (@pv _ 0 _ _ (by rfl) (by first|exact Or.inl rfl|exact Or.inr (.inl rfl)|exact Or.inr (.inr rfl)) (by decide) (by decide)) (@zaa _ _ _ _ _ (@zcH _ _ (.ty "tuple") (.type "tuple") _ (by rfl) G.tuple (by rfl) rfl (by decide) (by decide)) zab (by rfl)) (by rfl)) (by decide) (by decide) (by rfl) (by rfl)) (@zbj _ _ _ _ _ (@zbb _ _ _ _ _ _ _ _ zbK (@zar _ _ _ _ _ _ _ _ _ zao (by rfl) G.len PySem.boot_len (@zaa _ _ _ _ _ (@pv _ 0 _ _ (by rfl) (by first|exact Or.inl rfl|exact Or.inr (.inl rfl)|exact Or.inr (.inr rfl)) (by decide) (by decide)) zab (by rfl)) (by decide) (by decide) (by rfl) (by rfl)) (@pv _ 1 _ _ (by rfl) (by first|exact Or.inl rfl|exact Or.inr (.inl rfl)|exact Or.inr (.inr rfl)) (by decide) (by decide)) (zay _)))))),?_⟩
 obtain⟨t,I⟩:=ax.isi
 refine⟨_,rfl,_,"tuple",_,_,rfl,I.ty,I.tup,_,rfl,?_⟩
 cases z:zbl H x with
 | none =>
  have e:rowV H m x=false:=by unfold rowV;rw[z]
  rw[e]at k
  exact iteF k
 | some xs =>
  have e:rowV H m x=decide ((xs.length:Int)=m):=by unfold rowV;rw[z]
  rw[e]at k
  obtain⟨a,rfl,ha⟩:=zcc z
  exact iteT ⟨_,rfl,a,_,rfl,.inr (SqT.of ha),_,rfl,rfl,by rw[zdS];exact k⟩
end
abbrev zhG:Stmt:=top 8
abbrev ze0:Stmt:=top 15
abbrev zhK:Stmt:=top 16
abbrev zhN:Stmt:=top 14
def zeM (K:PySem.W.Frag):Sp:=fun vs H Q _=>∃ x w,vs=[x,.str w]∧AnyT K H x∧Q (.bl (za8 w x)) H
def zdx (K:PySem.W.Frag):Sp:=fun vs H Q _=>∃ x,vs=[x]∧AnyT K H x∧Q (.bl (zcQ 0 x)) H
def zeC:V→Bool
 | .int i=>fewV (.int i) && !decide (i=0)
 | _=>false
def zeP (K:PySem.W.Frag):Sp:=fun vs H Q _=>∃ x,vs=[x]∧AnyT K H x∧Q (.bl (zeC x)) H
def lowV (a:V):V→Bool
 | .int j=>zbJ j a
 | _=>false
def zhn (lanes:Int):List V→Bool
 | [w,k]=>za8 "step" w && zcQ 0 k
 | [w,a,b]=>if za8 "put" w=true then zbJ lanes a && zeC b else za8 "join" w && (zcQ 0 b && lowV a b)
 | _=>false
def zb3 (H:Hp) (lanes:Int) (x:V):Bool:=match zbl H x with
 | some xs=>zhn lanes xs
 | none=>false
def zeR (K:PySem.W.Frag):Sp:=fun vs H Q _=>∃ r fr er ps N x,vs=[.ref r,x]∧NetAt H r fr er ps N∧AnyT K H x∧(∀ xs,zbl H x=some xs→∀ y∈xs,AnyT K H y)∧Q (.bl (zb3 H N.lanes x)) H
section
variable {P:Program}{w:World}{K:PySem.W.Frag}{mg:Str→Option Value}{base:Heap}
theorem scKd:FnScope ["thing","word"] ["thing","word"] (zak zhG):=⟨rfl,rfl,rfl,by decide +kernel,rfl,by decide +kernel,by decide +kernel⟩
theorem zh6 {f:Addr}{fd:FuncData}(F:Fun K "is_word" "is_word" zhG f fd) (G:Mgs mg):FnOk P w K mg base CX0 1 f fd ["thing","word"] (zeM K):=by
 refine F.ok scKd (fun vs H Q E h=>?_) (fun cdv A outer s H vs Q E hr h=>?_)
 ·obtain⟨x,b,rfl,_⟩:=h
  rfl
 obtain⟨x,b,rfl,ax,k⟩:=h
 refine⟨_,(@zah _ _ _ (@zav _ _ _ _ (@zbc _ _ _ _ _ _ _ (@zar _ _ _ _ _ _ _ _ _ zbP (by rfl) G.isi (by rfl) (@zaa _ _ _ _ _ (@pv _ 0 _ _ (by rfl) (by first|exact Or.inl rfl|exact Or.inr (.inl rfl)|exact Or.inr (.inr rfl)) (by decide) (by decide)) (@zaa _ _ _ _ _ (@zcH _ _ (.ty "str") (.type "str") _ (by rfl) G.str (by rfl) rfl (by decide) (by decide)) zab (by rfl)) (by rfl)) (by decide) (by decide) (by rfl) (by rfl)) (@zbj _ _ _ _ _ (@zbb _ _ _ _ _ _ _ _ zbK (@pv _ 0 _ _ (by rfl) (by first|exact Or.inl rfl|exact Or.inr (.inl rfl)|exact Or.inr (.inr rfl)) (by decide) (by decide)) (@pv _ 1 _ _ (by rfl) (by first|exact Or.inl rfl|exact Or.inr (.inl rfl)|exact Or.inr (.inr rfl)) (by decide) (by decide)) (zay _)))))),?_⟩
 obtain⟨t,I⟩:=ax.isi
 refine⟨_,rfl,_,"str",_,_,rfl,I.ty,I.str,_,rfl,?_⟩
 cases x with
 | str z=>exact iteT ⟨_,rfl,_,rfl,rfl,by rw[zhv];exact k⟩
 | bl z=>exact iteF k
 | non=>exact iteF k
 | int z=>exact iteF k
 | flt z=>exact iteF k
 | byt z=>exact iteF k
 | ref z=>exact iteF k
 | ty z=>exact iteF k
theorem scKp:FnScope ["thing"] ["thing"] (zak ze0):=⟨rfl,rfl,rfl,by decide +kernel,rfl,by decide +kernel,by decide +kernel⟩
theorem zgH {f fW:Addr}{fd dW:FuncData}(F:Fun K "is_place" "is_place" ze0 f fd) (G:Mgs mg) (UW:Use P w K mg base "is_whole" ["thing"] 1 (zbR K) fW dW):FnOk P w K mg base CX0 2 f fd ["thing"] (zdx K):=by
 refine F.ok scKp (fun vs H Q E h=>?_) (fun cdv A outer s H vs Q E hr h=>?_)
 ·obtain⟨x,rfl,_⟩:=h
  rfl
 obtain⟨x,rfl,ax,k⟩:=h
 refine⟨_,(@zah _ _ _ (@zav _ _ _ _ (@zbc _ _ _ _ _ _ _ (@zag _ _ _ _ _ _ _ _ _ _ _ _ _ _ _ _ UW.ok hr (by rfl) UW.m UW.kp UW.b .nil zat (@zaa _ _ _ _ _ (@pv _ 0 _ _ (by rfl) (by first|exact Or.inl rfl|exact Or.inr (.inl rfl)|exact Or.inr (.inr rfl)) (by decide) (by decide)) zab (by rfl)) (by decide) (by rfl) (by rfl)) (@zbj _ _ _ _ _ (@zbb _ _ _ _ _ _ _ _ zgA (@pv _ 0 _ _ (by rfl) (by first|exact Or.inl rfl|exact Or.inr (.inl rfl)|exact Or.inr (.inr rfl)) (by decide) (by decide)) zae (zay _)))))),?_⟩
 refine⟨_,rfl,_,rfl,ax,_,rfl,?_⟩
 cases x with
 | int i=>exact iteT ⟨_,rfl,_,_,rfl,rfl,k⟩
 | bl z=>exact iteF k
 | non=>exact iteF k
 | str z=>exact iteF k
 | flt z=>exact iteF k
 | byt z=>exact iteF k
 | ref z=>exact iteF k
 | ty z=>exact iteF k
theorem scKm:FnScope ["thing"] ["thing"] (zak zhK):=⟨rfl,rfl,rfl,by decide +kernel,rfl,by decide +kernel,by decide +kernel⟩
theorem zia {f fW:Addr}{fd dW:FuncData}(F:Fun K "is_many" "is_many" zhK f fd) (G:Mgs mg) (UF:Use P w K mg base "has_few_figures" ["thing"] 2 (zhy K) fW dW):FnOk P w K mg base CX0 3 f fd ["thing"] (zeP K):=by
 refine F.ok scKm (fun vs H Q E h=>?_) (fun cdv A outer s H vs Q E hr h=>?_)
 ·obtain⟨x,rfl,_⟩:=h
  rfl
 obtain⟨x,rfl,ax,k⟩:=h
 refine⟨_,(@zah _ _ _ (@zav _ _ _ _ (@zbc _ _ _ _ _ _ _ (@zag _ _ _ _ _ _ _ _ _ _ _ _ _ _ _ _ UF.ok hr (by rfl) UF.m UF.kp UF.b .nil zat (@zaa _ _ _ _ _ (@pv _ 0 _ _ (by rfl) (by first|exact Or.inl rfl|exact Or.inr (.inl rfl)|exact Or.inr (.inr rfl)) (by decide) (by decide)) zab (by rfl)) (by decide) (by rfl) (by rfl)) (@zbj _ _ _ _ _ (@zbb _ _ _ _ _ _ _ _ zcK (@pv _ 0 _ _ (by rfl) (by first|exact Or.inl rfl|exact Or.inr (.inl rfl)|exact Or.inr (.inr rfl)) (by decide) (by decide)) zae (zay _)))))),?_⟩
 refine⟨_,rfl,_,rfl,ax,_,rfl,?_⟩
 cases x with
 | int i =>
  have e:zeC (.int i)=(fewV (.int i) && !decide (i=0)):=rfl
  rw[e]at k
  cases z:fewV (.int i) with
  | true=>rw[z]at k;exact iteT ⟨_,rfl,rfl,by rw[zdS];exact k⟩
  | false=>rw[z]at k;exact iteF k
 | bl z=>exact iteF k
 | non=>exact iteF k
 | str z=>exact iteF k
 | flt z=>exact iteF k
 | byt z=>exact iteF k
 | ref z=>exact iteF k
 | ty z=>exact iteF k
theorem scKe:FnScope ["net","thing","word","first","second"] ["net","thing"] (zak zhN):=⟨rfl,rfl,rfl,by decide +kernel,rfl,by decide +kernel,by decide +kernel⟩
theorem zid {f fR fD fB fM fP:Addr}{fd dR dD dB dM dP:FuncData}(F:Fun K "is_deed" "is_deed" zhN f fd) (G:Mgs mg) (UR:Use P w K mg base "is_row" ["thing","many"] 1 (zdB K) fR dR) (UD:Use P w K mg base "is_word" ["thing","word"] 1 (zeM K) fD dD)
  (UB:Use P w K mg base "is_below" ["thing","bound"] 2 (zdD K) fB dB) (UM:Use P w K mg base "is_many" ["thing"] 3 (zeP K) fM dM) (UPl:Use P w K mg base "is_place" ["thing"] 2 (zdx K) fP dP):FnOk P w K mg base CX0 4 f fd ["net","thing"] (zeR K):=by
 refine F.ok scKe (fun vs H Q E h=>?_) (fun cdv A outer s H vs Q E hr h=>?_)
 ·obtain⟨r,fr,er,ps,N,x,rfl,_⟩:=h
  rfl
 obtain⟨r,fr,er,ps,N,x,rfl,na,ax,ay,k⟩:=h
 have hr1:Room 1 _:=hr.mono (by decide)
 have hr2:Room 2 _:=hr.mono (by decide)
 refine⟨_,(@zaf _ _ _ _ _ (@zaU _ _ _ _ _ _ _ _ (@zbu _ _ _ (@zag _ _ _ _ _ _ _ _ _ _ _ _ _ _ _ _ UR.ok hr1 (by rfl) UR.m UR.kp UR.b .nil zat (@zaa _ _ _ _ _ (@pv _ 1 _ _ (by rfl) (by first|exact Or.inl rfl|exact Or.inr (.inl rfl)|exact Or.inr (.inr rfl)) (by decide) (by decide)) (@zaa _ _ _ _ _ zae zab (by rfl)) (by rfl)) (by decide) (by rfl) (by rfl)) (fun _=>rfl)) (@zah _ _ _ (@zav _ _ _ _ (@zbc _ _ _ _ _ _ _ (@zag _ _ _ _ _ _ _ _ _ _ _ _ _ _ _ _ UD.ok hr1 (by rfl) UD.m UD.kp UD.b .nil zat (@zaa _ _ _ _ _ (@zaq _ _ _ _ _ _ _ zam (@pv _ 1 _ _ (by rfl) (by first|exact Or.inl rfl|exact Or.inr (.inl rfl)|exact Or.inr (.inr rfl)) (by decide) (by decide)) zae (fun _ _=>rfl)) (@zaa _ _ _ _ _ zax zab (by rfl)) (by rfl)) (by decide) (by rfl) (by rfl)) (@zbj _ _ _ _ _ (@zag _ _ _ _ _ _ _ _ _ _ _ _ _ _ _ _ UPl.ok hr2 (by rfl) UPl.m UPl.kp UPl.b .nil zat (@zaa _ _ _ _ _ (@zaq _ _ _ _ _ _ _ zam (@pv _ 1 _ _ (by rfl) (by first|exact Or.inl rfl|exact Or.inr (.inl rfl)|exact Or.inr (.inr rfl)) (by decide) (by decide)) zae (fun _ _=>rfl)) zab (by rfl)) (by decide) (by rfl) (by rfl)))))) zaD) (@zaf _ _ _ _ _ (@zaU _ _ _ _ _ _ _ _ (@zfc _ _ _ _ (@zbu _ _ _ (@zag _ _ _ _ _ _ _ _ _ _ _ _ _ _ _ _ UR.ok hr1 (by rfl) UR.m UR.kp UR.b .nil zat (@zaa _ _ _ _ _ (@pv _ 1 _ _ (by rfl) (by first|exact Or.inl rfl|exact Or.inr (.inl rfl)|exact Or.inr (.inr rfl)) (by decide) (by decide)) (@zaa _ _ _ _ _ zae zab (by rfl)) (by rfl)) (by decide) (by rfl) (by rfl)) (fun _=>rfl))) (@zah _ _ _ (@zav _ _ _ _ zfi)) zaD) (@zaf _ _ _ _ _ (@zaR _ _ _ _ _ _ (@pv _ 1 _ _ (by rfl) (by first|exact Or.inl rfl|exact Or.inr (.inl rfl)|exact Or.inr (.inr rfl)) (by decide) (by decide)) (@zaY _ _ _ _ _ _ rfl (@zal _ _ _ _ _ (@zap _ _ 2 _ scKe.nd rfl (.inl rfl) (by first|exact .inl rfl|exact .inr rfl|assumption)) (@zal _ _ _ _ _ (@zap _ _ 3 _ scKe.nd rfl (.inl rfl) (by first|exact .inl rfl|exact .inr rfl|assumption)) (@zal _ _ _ _ _ (@zap _ _ 4 _ scKe.nd rfl (.inl rfl) (by first|exact .inl rfl|exact .inr rfl|assumption)) zaM (by rfl)) (by rfl)) (by rfl)) (by rfl) (by rfl)) (by rfl) (by rfl) (by rfl)) (@zaf _ _ _ _ _ (@zaU _ _ _ _ _ _ _ _ (@zbu _ _ _ (@zag _ _ _ _ _ _ _ _ _ _ _ _ _ _ _ _ UD.ok hr1 (by rfl) UD.m UD.kp UD.b .nil zat (@zaa _ _ _ _ _ (@pv _ 2 _ _ (by rfl) (by first|exact Or.inl rfl|exact Or.inr (.inl rfl)|exact Or.inr (.inr rfl)) (by decide) (by decide)) (@zaa _ _ _ _ _ zax zab (by rfl)) (by rfl)) (by decide) (by rfl) (by rfl)) (fun _=>rfl)) (@zah _ _ _ (@zav _ _ _ _ (@zbc _ _ _ _ _ _ _ (@zag _ _ _ _ _ _ _ _ _ _ _ _ _ _ _ _ UB.ok hr2 (by rfl) UB.m UB.kp UB.b .nil zat (@zaa _ _ _ _ _ (@pv _ 3 _ _ (by rfl) (by first|exact Or.inl rfl|exact Or.inr (.inl rfl)|exact Or.inr (.inr rfl)) (by decide) (by decide)) (@zaa _ _ _ _ _ (@zaq _ _ _ _ _ _ _ zam (@pv _ 0 _ _ (by rfl) (by first|exact Or.inl rfl|exact Or.inr (.inl rfl)|exact Or.inr (.inr rfl)) (by decide) (by decide)) zae (fun _ _=>rfl)) zab (by rfl)) (by rfl)) (by decide) (by rfl) (by rfl)) (@zbj _ _ _ _ _ (@zag _ _ _ _ _ _ _ _ _ _ _ _ _ _ _ _ UM.ok hr (by rfl) UM.m UM.kp UM.b .nil zat (@zaa _ _ _ _ _ (@pv _ 4 _ _ (by rfl) (by first|exact Or.inl rfl|exact Or.inr (.inl rfl)|exact Or.inr (.inr rfl)) (by decide) (by decide)) zab (by rfl)) (by decide) (by rfl) (by rfl)))))) zaD) (@zah _ _ _ (@zav _ _ _ _ (@zbc _ _ _ _ _ _ _ (@zag _ _ _ _ _ _ _ _ _ _ _ _ _ _ _ _ UD.ok hr1 (by rfl) UD.m UD.kp UD.b .nil zat (@zaa _ _ _ _ _ (@pv _ 2 _ _ (by rfl) (by first|exact Or.inl rfl|exact Or.inr (.inl rfl)|exact Or.inr (.inr rfl)) (by decide) (by decide)) (@zaa _ _ _ _ _ zax zab (by rfl)) (by rfl)) (by decide) (by rfl) (by rfl)) (@zbc _ _ _ _ _ _ _ (@zag _ _ _ _ _ _ _ _ _ _ _ _ _ _ _ _ UPl.ok hr2 (by rfl) UPl.m UPl.kp UPl.b .nil zat (@zaa _ _ _ _ _ (@pv _ 4 _ _ (by rfl) (by first|exact Or.inl rfl|exact Or.inr (.inl rfl)|exact Or.inr (.inr rfl)) (by decide) (by decide)) zab (by rfl)) (by decide) (by rfl) (by rfl)) (@zbj _ _ _ _ _ (@zag _ _ _ _ _ _ _ _ _ _ _ _ _ _ _ _ UB.ok hr2 (by rfl) UB.m UB.kp UB.b .nil zat (@zaa _ _ _ _ _ (@pv _ 3 _ _ (by rfl) (by first|exact Or.inl rfl|exact Or.inr (.inl rfl)|exact Or.inr (.inr rfl)) (by decide) (by decide)) (@zaa _ _ _ _ _ (@pv _ 4 _ _ (by rfl) (by first|exact Or.inl rfl|exact Or.inr (.inl rfl)|exact Or.inr (.inr rfl)) (by decide) (by decide)) zab (by rfl)) (by rfl)) (by decide) (by rfl) (by rfl))))))))))),?_⟩
 refine⟨_,rfl,_,_,rfl,ax,_,rfl,?_⟩
 cases z:zbl H x with
 | none =>
  have e2:∀ m,rowV H m x=false:=fun m=>by unfold rowV;rw[z]
  have e3:zb3 H N.lanes x=false:=by unfold zb3;rw[z]
  rw[e3]at k
  rw[e2]
  refine iteF ⟨_,rfl,_,_,rfl,ax,_,rfl,?_⟩
  rw[e2]
  exact iteT k
 | some xs =>
  have e2:∀ m,rowV H m x=decide ((xs.length:Int)=m):=fun m=>by unfold rowV;rw[z]
  have e3:zb3 H N.lanes x=zhn N.lanes xs:=by unfold zb3;rw[z]
  rw[e3]at k
  obtain⟨a,rfl,ha⟩:=zcc z
  have ay':=ay xs z
  rw[e2]
  match xs,k,ha,ay',e2 with
  | [],k,ha,ay',e2 =>
   refine iteF ⟨_,rfl,_,_,rfl,ax,_,rfl,?_⟩
   rw[e2];exact iteT k
  | [_],k,ha,ay',e2 =>
   refine iteF ⟨_,rfl,_,_,rfl,ax,_,rfl,?_⟩
   rw[e2];exact iteT k
  | [u,v],k,ha,ay',e2 =>
   have k':Q (.bl (za8 "step" u && zcQ 0 v)) H:=k
   refine iteT ⟨_,rfl,a,_,_,_,rfl,rfl,SqT.of ha,rfl,_,_,rfl,ay' u (by simp),_,rfl,?_⟩
   cases y:za8 "step" u with
   | true=>rw[y]at k';exact iteT ⟨_,rfl,a,_,_,_,rfl,rfl,SqT.of ha,rfl,_,rfl,ay' v (by simp),k'⟩
   | false=>rw[y]at k';exact iteF k'
  | [u,v,t],k,ha,ay',e2 =>
   have k':Q (.bl (if za8 "put" u=true then zbJ N.lanes v && zeC t else za8 "join" u && (zcQ 0 t && lowV v t))) H:=k
   refine iteF ⟨_,rfl,_,_,rfl,ax,_,rfl,?_⟩
   rw[e2]
   refine iteF ⟨_,rfl,a,_,rfl,SqT.of ha,rfl,_,_,rfl,_,_,rfl,_,_,rfl,rfl,?_⟩
   refine⟨_,rfl,_,_,rfl,ay' u (by simp),_,rfl,?_⟩
   cases y:za8 "put" u with
   | true =>
    rw[y,if_pos rfl]at k'
    refine iteT ⟨_,rfl,_,rfl,r,_,_,_,rfl,rfl,SqT.of na.net,rfl,_,_,rfl,ay' v (by simp),_,rfl,?_⟩
    cases q:zbJ N.lanes v with
    | true=>rw[q]at k';exact iteT ⟨_,rfl,_,rfl,ay' t (by simp),k'⟩
    | false=>rw[q]at k';exact iteF k'
   | false =>
    rw[y,if_neg (by decide)]at k'
    refine iteF ⟨_,rfl,_,_,rfl,ay' u (by simp),_,rfl,?_⟩
    cases q:za8 "join" u with
    | false=>rw[q]at k';exact iteF k'
    | true =>
     rw[q]at k'
     refine iteT ⟨_,rfl,_,rfl,ay' t (by simp),_,rfl,?_⟩
     cases p:zcQ 0 t with
     | false=>rw[p]at k';exact iteF k'
     | true =>
      rw[p]at k'
      cases t with
      | int j=>exact iteT ⟨_,rfl,_,rfl,_,_,rfl,ay' v (by simp),k'⟩
      | _=>cases p
  | _::_::_::_::_,k,ha,ay',e2 =>
   rw[decide_eq_false (by simp only[List.length_cons];lia)]
   refine iteF ⟨_,rfl,_,_,rfl,ax,_,rfl,?_⟩
   rw[e2,decide_eq_false (by simp only[List.length_cons];lia)];exact iteT k
end
abbrev zhH:Stmt:=top 18
def zeN:Sp:=fun vs H Q _=>∃ r fr er ps N sc tr gr ou qs ts gs os,∃ (lane:Nat) (many:Int),vs=[.ref r,.ref sc,.int lane,.int many]∧Nt.Ok N∧NetAt H r fr er ps N∧SceneAt H sc tr gr ou qs ts gs os∧gs.length≤900 ∧
 ∀ k sc' gr' qs' H',IsNext N.forks lane 0 k→Same H H'→SceneAt H' sc' tr gr' ou qs' ts (gs++[⟨many,lane,k⟩]) os→Q (.ref sc') H'
section
variable {P:Program}{w:World}{K:PySem.W.Frag}{mg:Str→Option Value}{base:Heap}
theorem scPb:FnScope ["net","scene","lane","many","turns","groups","out"] ["net","scene","lane","many"] (zak zhH):=⟨rfl,rfl,rfl,by decide +kernel,rfl,by decide +kernel,by decide +kernel⟩
theorem zh7 {f fN:Addr}{fd dN:FuncData}(F:Fun K "put_behind" "put_behind" zhH f fd) (G:Mgs mg) (UN:Use P w K mg base "next_fork" ["net","lane","number"] 1 zd2 fN dN):FnOk P w K mg base CX0 2 f fd ["net","scene","lane","many"] zeN:=by
 refine F.ok scPb (fun vs H Q E h=>?_) (fun cdv A outer s H vs Q E hr h=>?_)
 ·obtain⟨r,fr,er,ps,N,sc,tr,gr,ou,qs,ts,gs,os,lane,many,rfl,_⟩:=h
  rfl
 obtain⟨r,fr,er,ps,N,sc,tr,gr,ou,qs,ts,gs,os,lane,many,rfl,ok,na,sa,gl,k⟩:=h
 refine⟨_,(@zaf _ _ _ _ _ (@zaR _ _ _ _ _ _ (@pv _ 1 _ _ (by rfl) (by first|exact Or.inl rfl|exact Or.inr (.inl rfl)|exact Or.inr (.inr rfl)) (by decide) (by decide)) (@zaY _ _ _ _ _ _ rfl (@zal _ _ _ _ _ (@zap _ _ 4 _ scPb.nd rfl (.inl rfl) (by first|exact .inl rfl|exact .inr rfl|assumption)) (@zal _ _ _ _ _ (@zap _ _ 5 _ scPb.nd rfl (.inl rfl) (by first|exact .inl rfl|exact .inr rfl|assumption)) (@zal _ _ _ _ _ (@zap _ _ 6 _ scPb.nd rfl (.inl rfl) (by first|exact .inl rfl|exact .inr rfl|assumption)) zaM (by rfl)) (by rfl)) (by rfl)) (by rfl) (by rfl)) (by rfl) (by rfl) (by rfl)) (@zah _ _ _ (@zav _ _ _ _ (@zaA _ _ _ _ _ (@zaa _ _ _ _ _ (@pv _ 4 _ _ (by rfl) (by first|exact Or.inl rfl|exact Or.inr (.inl rfl)|exact Or.inr (.inr rfl)) (by decide) (by decide)) (@zaa _ _ _ _ _ (@zas _ _ _ _ _ _ _ _ za3 (@pv _ 5 _ _ (by rfl) (by first|exact Or.inl rfl|exact Or.inr (.inl rfl)|exact Or.inr (.inr rfl)) (by decide) (by decide)) (@zaA _ _ _ _ _ (@zaa _ _ _ _ _ (@zaA _ _ _ _ _ (@zaa _ _ _ _ _ (@pv _ 3 _ _ (by rfl) (by first|exact Or.inl rfl|exact Or.inr (.inl rfl)|exact Or.inr (.inr rfl)) (by decide) (by decide)) (@zaa _ _ _ _ _ (@pv _ 2 _ _ (by rfl) (by first|exact Or.inl rfl|exact Or.inr (.inl rfl)|exact Or.inr (.inr rfl)) (by decide) (by decide)) (@zaa _ _ _ _ _ (@zag _ _ _ _ _ _ _ _ _ _ _ _ _ _ _ _ UN.ok hr (by rfl) UN.m UN.kp UN.b .nil zat (@zaa _ _ _ _ _ (@pv _ 0 _ _ (by rfl) (by first|exact Or.inl rfl|exact Or.inr (.inl rfl)|exact Or.inr (.inr rfl)) (by decide) (by decide)) (@zaa _ _ _ _ _ (@pv _ 2 _ _ (by rfl) (by first|exact Or.inl rfl|exact Or.inr (.inl rfl)|exact Or.inr (.inr rfl)) (by decide) (by decide)) (@zaa _ _ _ _ _ zae zab (by rfl)) (by rfl)) (by rfl)) (by decide) (by rfl) (by rfl)) zab (by rfl)) (by rfl)) (by rfl))) zab (by rfl)))) (@zaa _ _ _ _ _ (@pv _ 6 _ _ (by rfl) (by first|exact Or.inl rfl|exact Or.inr (.inl rfl)|exact Or.inr (.inr rfl)) (by decide) (by decide)) zab (by rfl)) (by rfl)) (by rfl)))))),?_⟩
 have ql:=sa.grs.len
 refine⟨_,rfl,sc,_,rfl,SqT.of sa.sc,rfl,_,_,rfl,_,_,rfl,_,_,rfl,rfl,?_⟩
 refine⟨_,rfl,_,rfl,_,rfl,_,rfl,_,rfl,_,rfl,r,fr,er,ps,N,lane,0,rfl,ok,na,Nat.zero_le _,fun n hn=>?_⟩
 refine⟨(by show 3≤sizeLine;decide),fun t1 h1=>?_⟩
 have s1:=zad h1 (.tup [.int many,.int lane,.int n])
 refine⟨(by show 1≤sizeLine;decide),fun t2 h2=>?_⟩
 have s2:=zad h2 (.tup [.ref t1])
 refine⟨gr,t2,_,_,rfl,rfl,(s1.trans s2) _ _ sa.gr,zac,?_,fun g' H3 s3 h3=>?_⟩
 ·rw[ql];show gs.length+1≤_;exact Nat.le_trans (show gs.length+1≤1000 by lia) (by decide)
 refine⟨_,rfl,(by show 3≤sizeLine;decide),fun sc' h4=>?_⟩
 have s4:=zad h4 (.tup [.ref tr,.ref g',.ref ou])
 have st:=(s1.trans s2).trans (s3.trans s4)
 exact k n sc' g' (qs++[.ref t1]) _ hn st ⟨zac,st _ _ sa.tr,s4 _ _ h3,(sa.grs.tups (Tups.of st)).app (Grs.one (g:=⟨many,lane,n⟩) ((s2.trans (s3.trans s4)) _ _ zac)),st _ _ sa.ou⟩
end
end K21
namespace Bn
open PySem L2 Own
theorem zcP (k:Nat):∀ es:List Nat,(es.map fun (e:Nat)=>(e:Int)).idxOf (k:Int)=es.idxOf k
 | []=>rfl
 | e::es=>by
  rw[List.map_cons,List.idxOf_cons,List.idxOf_cons,zcP k es]
  have:((e:Int) == (k:Int))=(e == k):=by
   rw[Bool.eq_iff_iff,beq_iff_eq];rw[beq_iff_eq];lia
  rw[this]
theorem zec (es:List Nat):nums es=(es.map fun (e:Nat)=>(e:Int)).map V.int:=by unfold nums;rw[List.map_map];rfl
def zhz:Sp:=fun vs H Q _=>∃ r fr er ps N,∃ lane:Nat,vs=[.ref r,.int lane]∧Nt.Ok N∧NetAt H r fr er ps N∧lane<N.lanes∧Q (.int (N.ends.idxOf lane:Nat)) H
theorem zhD (xs:List Int) (i:Nat) (v:Int) (h:i<xs.length):(xs.map V.int).take i++[V.int v]++(xs.map V.int).drop (i+1)=(xs.set i v).map V.int:=by
 rw[List.set_eq_take_append_cons_drop,if_pos h,List.map_append,List.map_cons,List.map_take,List.map_drop,List.append_assoc];rfl
def part (m:Int) (lane k:Nat):List Grp:=if m=0 then [] else [⟨m,lane,k⟩]
def Parts (fs:List (Nat × Nat)) (t m:Int) (n:Nat) (gs:List Grp):Prop:=∃ f k1 k2,fs[n]?=some f∧IsNext fs f.1 (n+1) k1∧IsNext fs f.2 (n+1) k2∧gs=part ((t+m+1) / 2-t) f.1 k1++part (m-((t+m+1) / 2-t)) f.2 k2
theorem Parts.len {fs:List (Nat × Nat)}{t m:Int}{n:Nat}{gs:List Grp}(h:Parts fs t m n gs):gs.length≤2:=by
 obtain⟨f,k1,k2,_,_,_,rfl⟩:=h
 unfold part
 rw[List.length_append]
 split<;>split<;>simp
def StepTo (N:Nt) (place:Nat) (ts:List Int) (gs:List Grp) (os:List Int) (ts':List Int) (gs':List Grp) (os':List Int):Prop:=∃ g,gs[place]?=some g ∧
 ((g.fork=N.forks.length∧ts'=ts∧gs'=gs.take place++gs.drop (place+1)∧os'=os.set (N.ends.idxOf g.lane) (os.getD (N.ends.idxOf g.lane) 0+g.many)) ∨
  (g.fork<N.forks.length∧ts'=ts.set g.fork ((ts.getD g.fork 0+g.many)%2)∧os'=os∧∃ ms,Parts N.forks (ts.getD g.fork 0) g.many g.fork ms∧gs'=gs.take place++ms++gs.drop (place+1)))
def JoinTo (first second:Nat) (gs gs':List Grp):Prop:=∃ g h,gs[first]?=some g∧gs[second]?=some h∧gs'=gs.take first++part (g.many+h.many) g.lane g.fork++(gs.drop (first+1)).take (second-(first+1))++gs.drop (second+1)
theorem zbY (fs:List (Nat × Nat)) (lane:Nat):∀ n,n≤fs.length→∃ k,IsNext fs lane n k:=by
 have go:∀ d n,n+d=fs.length→∃ k,IsNext fs lane n k:=by
  intro d
  induction d with
  | zero =>
   intro n h
   refine⟨n,Nat.le_refl _,by lia,fun j g a b=>by lia,fun g e=>?_⟩
   rw[List.getElem?_eq_none (by lia)]at e;cases e
  | succ d ih =>
   intro n h
   have nl:n<fs.length:=by lia
   by_cases z:lane=fs[n].1∨lane=fs[n].2
   ·refine⟨n,Nat.le_refl _,by lia,fun j g a b=>by lia,fun g e=>?_⟩
    rw[List.getElem?_eq_getElem nl]at e
    rw[← Option.some.inj e];exact z
   ·obtain⟨k,hk⟩:=ih (n+1) (by lia)
    refine⟨k,by have:=hk.from_;lia,hk.upto,fun j g a b e=>?_,hk.here⟩
    by_cases y:j=n
    ·subst y
     rw[List.getElem?_eq_getElem nl]at e
     rw[← Option.some.inj e];exact z
    ·exact hk.none j g (by lia) b e
 exact fun n h=>go (fs.length-n) n (by lia)
theorem zf3 (xs:List V) (i j:Nat) (h1:i≤j) (h2:j≤xs.length):cutV xs (some (i:Int)) (some (j:Int))=(xs.drop i).take (j-i):=by
 unfold cutV
 rw[HT.sIx_nat,HT.sIx_nat,Nat.min_eq_left h2,Nat.min_eq_left (Nat.le_trans h1 h2)]
end Bn
namespace L2
open PySem PySem.Spec PyProof.Rows Own
theorem zg8 {P:Program}{w:World}{H:Hp}(h:Heap) (hb:sysModules<h.objs.size):ObjOk P w H (h.push { cls:=.type "dict",data:=.dict #[] }) h.objs.size (.dK []) :=
 ⟨Nat.zero_le _,beq_eq_false_iff_ne.mpr (Ne.symm (Nat.ne_of_lt hb)),[],.nil,Heap.DictOf.new h⟩
section
variable {X:Cx}{pos:Pos}
theorem Inv.big {pins:List (Addr × Obj)}{σ:St}{H:Hp}{s:Shared}(I:Inv X pins σ H s):sysModules<s.heap.objs.size:=by
 have h:mainGlobals<s.heap.objs.size:=(I.mod.glob.keeps I.bk).lt
 exact Nat.lt_trans (by decide) h
end
end L2
namespace Bn
open PySem L2 Own
end Bn
namespace L2
open PySem PySem.Spec PyProof.Rows Own
def LtAt (A:Around) (s:Shared) (y x:Value) (b:Bool):Prop:=∀ (prog:Program) (w:World) (E:Value→Shared→Prop) (Q:Value→Shared→Prop),Q (.bool b) s→wpAny (model prog w) A (richCompare .Lt y x) Q E s
theorem LtAt.ints {A:Around}{s:Shared}(a b:Int) (t u:Tok):LtAt A s (.int a t) (.int b u) (decide (a<b)):=fun _ _ _ _ h=>lt_int h
theorem zdO (l b:Addr) (xs ys:Array Value) (n m:Nat) (d1 d2:Option Addr) (sl1 sl2:Array (Option Value)) (k:Nat) (k1:k<xs.size) (k2:k<ys.size) (c:Bool) :
  Meets (Builtin.«tuple.__lt__» ⟨[.ref l,.ref b],[]⟩)
   (fun A R s=>s.heap.get? l=some { cls:=.type "tuple",dict:=d1,data:=.seq xs n,slots:=sl1 }∧s.heap.get? b=some { cls:=.type "tuple",dict:=d2,data:=.seq ys m,slots:=sl2 } ∧
    (∀ j (h1:j<xs.size) (h2:j<ys.size),j<k→SeqAt.EqAt A.in1 s xs[j] ys[j] true)∧SeqAt.EqAt A.in1 s xs[k] ys[k] false∧LtAt A.in1 s xs[k] ys[k] c∧R (.ok (.ret (.bool c))) s) :=
 .of_wp fun prog w A R s h=>by
  obtain⟨hp,g,d,tk,os⟩:=s;obtain⟨hl,hb,he,hk,hc,h⟩:=h
  have kinds:=AutoSeq1.sub_tuple_tuple
  have zl:(xs.toList.zip ys.toList).length=min xs.size ys.size:=by simp
  wp_walk using wpAny_loadPart' hl,wpAny_loadPart' hb,wpAny_forIn_list _ (fun rest b s'=>b.1=none∧s'=⟨hp,g,d,tk,os⟩∧∃ i,i≤k∧rest=(xs.toList.zip ys.toList).drop i) _
  case turn =>
   rintro⟨y,x⟩ rest b s' ⟨hb',rfl,i,ik,hz⟩
   have i1:i<xs.size:=by lia
   have i2:i<ys.size:=by lia
   have il:i<(xs.toList.zip ys.toList).length:=by rw[zl];lia
   rw[List.drop_eq_getElem_cons il]at hz
   obtain⟨e1,e2⟩:=List.cons.inj hz
   have ey:y=xs[i]:=by simpa using congrArg Prod.fst e1
   have ex:x=ys[i]:=by simpa using congrArg Prod.snd e1
   subst ey ex
   by_cases z:i=k
   ·subst z
    refine wpAny_bind (hk prog w _ _ ?_)
    simp only[if_true,Bool.not_false]
    refine wpAny_bind (wpAny_rule (wpAny_bind (hc prog w _ _ ?_)))
    wp_walk
    exact⟨_,rfl,h⟩
   ·refine wpAny_bind (he i i1 i2 (by lia) prog w _ _ ?_)
    wp_walk
    exact⟨rfl,rfl,i+1,by lia,e2⟩
  case fin =>
   rintro⟨b1,b2⟩ s' ⟨hb',rfl,i,ik,hz⟩
   have il:i<(xs.toList.zip ys.toList).length:=by rw[zl];lia
   rw[List.drop_eq_getElem_cons il]at hz;cases hz
  case h =>
   exact⟨rfl,rfl,0,Nat.zero_le _,rfl⟩
theorem LtAt.tuples {A:Around}{s:Shared}{l b:Addr}{xs ys:Array Value}{k:Nat}{c:Bool}(hl:IsTup s.heap l xs) (hb:IsTup s.heap b ys) (hu:A.units<cLine) (k1:k<xs.size) (k2:k<ys.size)
  (he:∀ j (h1:j<xs.size) (h2:j<ys.size),j<k→SeqAt.EqAt A.in1 s xs[j] ys[j] true) (hk:SeqAt.EqAt A.in1 s xs[k] ys[k] false) (hc:LtAt A.in1 s xs[k] ys[k] c):LtAt A s (.ref l) (.ref b) c:=fun prog w E Q h=>by
 obtain⟨⟨cl1,dd1,da1,sl1⟩,o1,c1,n,e1⟩:=hl
 obtain⟨⟨cl2,dd2,da2,sl2⟩,o2,c2,m,e2⟩:=hb
 simp only at c1 e1 c2 e2;subst c1 e1 c2 e2
 exact richCompare_meets_room (op:=.Lt) ⟨_,o1,rfl⟩ ⟨_,o2,rfl⟩ F.slot_tuple_lt F.entry_tuple_lt (F.args_tuple_lt_2 _ _) (zdO l b xs ys n m dd1 dd2 sl1 sl2 k k1 k2 c) ⟨o1,o2,he,hk,hc,show Value.bool c≠Value.notImplemented∧Q (.bool c) s from⟨(fun x=>nomatch x),h⟩⟩ hu
section
variable {prog:Program}{w:World}{A:Around}{R:Result→Shared→Prop}{I S:Addr}{fp wr:List Addr}{n:Nat}{P:Nat→Value→Prop}{St:Nat→Heap→Prop}
end
section
variable {prog:Program}{w:World}{A:Around}{E:Value→Shared→Prop}{s:Shared}
end
section
variable {X:Cx}
end
theorem zin {K:PySem.W.Frag}{a:Addr}{xs:List V}{g:TG}{tt:TT}{te:TE}{l:Addr}{σ:St}{H:Hp}{Q:VK}(Pv:Nat→List V→St→Hp→Prop) (h0:Pv 0 [] σ H) (hl:∀ i acc σ H,Pv i acc σ H→H l=some (.lst acc)∧SqT K H a xs)
  (hs:∀ i x acc σ H,xs[i]?=some x→Pv i acc σ H→g x σ H fun σ3 H3=>tt σ3 H3 fun b H4=>if b=true then te σ3 H4 fun y H5=>H5 l=some (.lst acc)∧acc.length<sizeLine∧Nx xs.length i (Pv (i+1) (acc++[y]) σ3 (upd H5 l (.lst (acc++[y])))) else Nx xs.length i (Pv (i+1) acc σ3 H4))
  (hd:∀ acc σ H,Pv xs.length acc σ H→Q (.ref l) H):∃ W:Nat→Nat→List V→St→Hp→Prop,(∃ m,W 0 m [] σ H)∧LCW (Itt K a) g tt te l Q W:=by
 refine⟨fun i m acc σ H=>m=xs.length-i∧i≤xs.length∧Pv i acc σ H,⟨_,rfl,Nat.zero_le _,h0⟩,?_⟩
 rintro i m acc σ H ⟨rfl,hi,p⟩
 obtain⟨q0,q1⟩:=hl i acc σ H p
 refine⟨q0,?_⟩
 by_cases hlt:i<xs.length
 ·refine .inr ⟨⟨xs,xs[i],q1,List.getElem?_eq_getElem hlt⟩,fun x H2 ⟨e,y⟩=>?_⟩
  subst e
  exact hs i x acc σ _ (y xs q1) p
 ·obtain rfl:i=xs.length:=by lia
  exact .inl ⟨⟨xs,q1,Nat.le_refl _⟩,hd acc σ H p⟩
section
variable {prog:Program}{w:World}{A:Around}{E:Value→Shared→Prop}{s:Shared}
end
section
variable {X:Cx}
end
section
variable {X:Cx}
end
end L2
namespace K21
open PySem L2 Own Bn
abbrev sEnd:Stmt:=top 12
abbrev ze6:Stmt:=top 22
abbrev zfa:Stmt:=top 23
abbrev zdH:Stmt:=top 20
abbrev zcB:Stmt:=top 19
abbrev zdI:Stmt:=top 21
def zcy:Sp:=fun vs H Q _=>∃ a xs,∃ (place:Nat) (v:Int),vs=[.ref a,.int place,.int v]∧H a=some (.tup (List.map V.int xs))∧place<xs.length∧xs.length≤1000∧∀ p H',Same H H'→H' p=some (.tup ((xs.set place v).map V.int))→Q (.ref p) H'
def zdE:Sp:=fun vs H Q _=>∃ a xs,∃ (place:Nat) (v:Int),vs=[.ref a,.int place,.int v]∧H a=some (.tup (List.map V.int xs))∧place<xs.length∧xs.length≤1000∧∀ p H',Same H H'→H' p=some (.tup ((xs.set place (xs.getD place 0+v)).map V.int))→Q (.ref p) H'
def zcv:Sp:=fun vs H Q _=>∃ r fr er ps N,∃ (t m:Int) (n:Nat),vs=[.ref r,.int t,.int m,.int n]∧Nt.Ok N∧NetAt H r fr er ps N∧n<N.forks.length∧∀ p qs gs H',Parts N.forks t m n gs→Same H H'→H' p=some (.tup qs)→Grs H' qs gs→Q (.ref p) H'
def zbS:Sp:=fun vs H Q _=>∃ r fr er ps N sc tr gr ou qs ts gs os,∃ place:Nat,vs=[.ref r,.ref sc,.int place]∧Nt.Ok N∧NetAt H r fr er ps N∧SceneAt H sc tr gr ou qs ts gs os∧place<gs.length∧gs.length≤900∧ts.length=N.forks.length∧os.length=N.lanes∧(∀ g∈gs,g.lane<N.lanes∧g.fork≤N.forks.length) ∧
 ∀ sc' tr' gr' ou' qs' ts' gs' os' H',StepTo N place ts gs os ts' gs' os'→Same H H'→SceneAt H' sc' tr' gr' ou' qs' ts' gs' os'→Q (.ref sc') H'
def zcx:Sp:=fun vs H Q _=>∃ sc tr gr ou qs ts gs os,∃ (first second:Nat),vs=[.ref sc,.int first,.int second]∧SceneAt H sc tr gr ou qs ts gs os∧first<second∧second<gs.length∧gs.length≤900∧(∀ g h,gs[first]?=some g→gs[second]?=some h→g.lane=h.lane∧g.fork=h.fork) ∧
 ∀ sc' gr' qs' gs' H',JoinTo first second gs gs'→Same H H'→SceneAt H' sc' tr gr' ou qs' ts gs' os→Q (.ref sc') H'
section
variable {P:Program}{w:World}{K:PySem.W.Frag}{mg:Str→Option Value}{base:Heap}
theorem scEn:FnScope ["net","lane"] ["net","lane"] (zak sEnd):=⟨rfl,rfl,rfl,by decide +kernel,rfl,by decide +kernel,by decide +kernel⟩
theorem zje {f:Addr}{fd:FuncData}(F:Fun K "end_of" "end_of" sEnd f fd):FnOk P w K mg base CX0 1 f fd ["net","lane"] zhz:=by
 refine F.ok scEn (fun vs H Q E h=>?_) (fun cdv A outer s H vs Q E hr h=>?_)
 ·obtain⟨r,fr,er,ps,N,lane,rfl,_⟩:=h
  rfl
 obtain⟨r,fr,er,ps,N,lane,rfl,ok,na,hl,k⟩:=h
 refine⟨_,(@zah _ _ _ (@zav _ _ _ _ (@zfg _ _ _ _ _ _ _ hr.units (@zaq _ _ _ _ _ _ _ zam (@pv _ 0 _ _ (by rfl) (by first|exact Or.inl rfl|exact Or.inr (.inl rfl)|exact Or.inr (.inr rfl)) (by decide) (by decide)) zae (fun _ _=>rfl)) (@zaa _ _ _ _ _ (@pv _ 1 _ _ (by rfl) (by first|exact Or.inl rfl|exact Or.inr (.inl rfl)|exact Or.inr (.inr rfl)) (by decide) (by decide)) zab (by rfl)) (by rfl) (by rfl) (by rfl) (by rfl)))),?_⟩
 have he:=na.ends
 rw[zec]at he
 refine⟨_,rfl,r,_,_,_,rfl,rfl,SqT.of na.net,rfl,er,_,rfl,he,_,rfl,(lane:Int),rfl,he,?_,?_⟩
 ·exact List.mem_map.mpr ⟨lane,ok.en.mem_iff.mpr (List.mem_range.mpr hl),rfl⟩
 ·rw[zcP];exact k
theorem scGi:FnScope ["row","place","value"] ["row","place","value"] (zak ze6):=⟨rfl,rfl,rfl,by decide +kernel,rfl,by decide +kernel,by decide +kernel⟩
theorem zgN {f:Addr}{fd:FuncData}(F:Fun K "given_at" "given_at" ze6 f fd) (G:Mgs mg):FnOk P w K mg base CX0 1 f fd ["row","place","value"] zcy:=by
 refine F.ok scGi (fun vs H Q E h=>?_) (fun cdv A outer s H vs Q E hr h=>?_)
 ·obtain⟨a,xs,place,v,rfl,_⟩:=h
  rfl
 obtain⟨a,xs,place,v,rfl,ha,pl,xl,k⟩:=h
 refine⟨_,(@zah _ _ _ (@zav _ _ _ _ (@zas _ _ _ _ _ _ _ _ za3 (@zas _ _ _ _ _ _ _ _ za3 (@zaP _ _ _ _ _ _ _ _ _ _ za5 (@pv _ 0 _ _ (by rfl) (by first|exact Or.inl rfl|exact Or.inr (.inl rfl)|exact Or.inr (.inr rfl)) (by decide) (by decide)) zaX (@zaQ _ _ _ (@pv _ 1 _ _ (by rfl) (by first|exact Or.inl rfl|exact Or.inr (.inl rfl)|exact Or.inr (.inr rfl)) (by decide) (by decide)))) (@zaA _ _ _ _ _ (@zaa _ _ _ _ _ (@pv _ 2 _ _ (by rfl) (by first|exact Or.inl rfl|exact Or.inr (.inl rfl)|exact Or.inr (.inr rfl)) (by decide) (by decide)) zab (by rfl)))) (@zaP _ _ _ _ _ _ _ _ _ _ za5 (@pv _ 0 _ _ (by rfl) (by first|exact Or.inl rfl|exact Or.inr (.inl rfl)|exact Or.inr (.inr rfl)) (by decide) (by decide)) (@zaQ _ _ _ (@zas _ _ _ _ _ _ _ _ zaB (@pv _ 1 _ _ (by rfl) (by first|exact Or.inl rfl|exact Or.inr (.inl rfl)|exact Or.inr (.inr rfl)) (by decide) (by decide)) zae)) zaX)))),?_⟩
 have ml:(xs.map V.int).length=xs.length:=List.length_map _
 refine⟨_,rfl,_,rfl,_,rfl,a,_,rfl,ha,fun p1 H1 s1 h1=>?_⟩
 rw[zbh _ place (by lia)]at h1
 refine⟨_,rfl,(by show 1≤sizeLine;decide),fun p2 hp2=>?_⟩
 have s2:=zad hp2 (.tup [.int v])
 refine⟨p1,p2,_,_,rfl,rfl,s2 _ _ h1,zac,?_,fun p3 H3 s3 h3=>?_⟩
 ·rw[List.length_take,sizeLine_eq];show _+1≤_;lia
 have u3:=(s1.trans s2).trans s3
 refine⟨_,rfl,_,rfl,_,_,rfl,rfl,_,rfl,a,_,rfl,u3 _ _ ha,fun p4 H4 s4 h4=>?_⟩
 rw[show ((place:Int)+1)=((place+1:Nat):Int) from rfl,zbi _ (place+1) (by lia)]at h4
 refine⟨p3,p4,_,_,rfl,rfl,s4 _ _ h3,h4,?_,fun p5 H5 s5 h5=>?_⟩
 ·rw[List.length_append,List.length_take,List.length_drop,sizeLine_eq];show _+1+_≤_;lia
 exact k p5 H5 ((u3.trans s4).trans s5) (by rw[h5,zhD xs place v pl])
theorem scAd:FnScope ["counts","place","many"] ["counts","place","many"] (zak zfa):=⟨rfl,rfl,rfl,by decide +kernel,rfl,by decide +kernel,by decide +kernel⟩
theorem zgR {f fG:Addr}{fd dG:FuncData}(F:Fun K "added" "added" zfa f fd) (G:Mgs mg) (UG:Use P w K mg base "given_at" ["row","place","value"] 1 zcy fG dG):FnOk P w K mg base CX0 2 f fd ["counts","place","many"] zdE:=by
 refine F.ok scAd (fun vs H Q E h=>?_) (fun cdv A outer s H vs Q E hr h=>?_)
 ·obtain⟨a,xs,place,v,rfl,_⟩:=h
  rfl
 obtain⟨a,xs,place,v,rfl,ha,pl,xl,k⟩:=h
 refine⟨_,(@zah _ _ _ (@zav _ _ _ _ (@zag _ _ _ _ _ _ _ _ _ _ _ _ _ _ _ _ UG.ok hr (by rfl) UG.m UG.kp UG.b .nil zat (@zaa _ _ _ _ _ (@pv _ 0 _ _ (by rfl) (by first|exact Or.inl rfl|exact Or.inr (.inl rfl)|exact Or.inr (.inr rfl)) (by decide) (by decide)) (@zaa _ _ _ _ _ (@pv _ 1 _ _ (by rfl) (by first|exact Or.inl rfl|exact Or.inr (.inl rfl)|exact Or.inr (.inr rfl)) (by decide) (by decide)) (@zaa _ _ _ _ _ (@zas _ _ _ _ _ _ _ _ zaB (@zaq _ _ _ _ _ _ _ zam (@pv _ 0 _ _ (by rfl) (by first|exact Or.inl rfl|exact Or.inr (.inl rfl)|exact Or.inr (.inr rfl)) (by decide) (by decide)) (@pv _ 1 _ _ (by rfl) (by first|exact Or.inl rfl|exact Or.inr (.inl rfl)|exact Or.inr (.inr rfl)) (by decide) (by decide)) (fun _ _=>rfl)) (@pv _ 2 _ _ (by rfl) (by first|exact Or.inl rfl|exact Or.inr (.inl rfl)|exact Or.inr (.inr rfl)) (by decide) (by decide))) zab (by rfl)) (by rfl)) (by rfl)) (by decide) (by rfl) (by rfl)))),?_⟩
 exact⟨_,rfl,_,rfl,_,rfl,_,rfl,a,_,_,_,rfl,rfl,SqT.of ha,zdt pl,_,rfl,_,_,rfl,rfl,a,xs,place,_,rfl,ha,pl,xl,k⟩
theorem scPa:FnScope ["net","turn","many","number","one","other","on_one","parts"] ["net","turn","many","number"] (zak zdH):=⟨rfl,rfl,rfl,by decide +kernel,rfl,by decide +kernel,by decide +kernel⟩
theorem zfn {f fN:Addr}{fd dN:FuncData}(F:Fun K "parted" "parted" zdH f fd) (G:Mgs mg) (UN:Use P w K mg base "next_fork" ["net","lane","number"] 1 zd2 fN dN):FnOk P w K mg base CX0 2 f fd ["net","turn","many","number"] zcv:=by
 refine F.ok scPa (fun vs H Q E h=>?_) (fun cdv A outer s H vs Q E hr h=>?_)
 ·obtain⟨r,fr,er,ps,N,t,m,n,rfl,_⟩:=h
  rfl
 obtain⟨r,fr,er,ps,N,t,m,n,rfl,ok,na,nl,k⟩:=h
 refine⟨_,(@zaf _ _ _ _ _ (@zaR _ _ _ _ _ _ (@zaq _ _ _ _ _ _ _ zam (@zaq _ _ _ _ _ _ _ zam (@pv _ 0 _ _ (by rfl) (by first|exact Or.inl rfl|exact Or.inr (.inl rfl)|exact Or.inr (.inr rfl)) (by decide) (by decide)) zae (fun _ _=>rfl)) (@pv _ 3 _ _ (by rfl) (by first|exact Or.inl rfl|exact Or.inr (.inl rfl)|exact Or.inr (.inr rfl)) (by decide) (by decide)) (fun _ _=>rfl)) (@zaY _ _ _ _ _ _ rfl (@zal _ _ _ _ _ (@zap _ _ 4 _ scPa.nd rfl (.inl rfl) (by first|exact .inl rfl|exact .inr rfl|assumption)) (@zal _ _ _ _ _ (@zap _ _ 5 _ scPa.nd rfl (.inl rfl) (by first|exact .inl rfl|exact .inr rfl|assumption)) zaM (by rfl)) (by rfl)) (by rfl) (by rfl)) (by rfl) (by rfl) (by rfl)) (@zaf _ _ _ _ _ (@zaz _ _ 6 _ _ _ _ scPa.nd rfl (.inl rfl) (@zas _ _ _ _ _ _ _ _ zcd (@zas _ _ _ _ _ _ _ _ zcL (@zas _ _ _ _ _ _ _ _ zaB (@zas _ _ _ _ _ _ _ _ zaB (@pv _ 1 _ _ (by rfl) (by first|exact Or.inl rfl|exact Or.inr (.inl rfl)|exact Or.inr (.inr rfl)) (by decide) (by decide)) (@pv _ 2 _ _ (by rfl) (by first|exact Or.inl rfl|exact Or.inr (.inl rfl)|exact Or.inr (.inr rfl)) (by decide) (by decide))) zae) zae) (@pv _ 1 _ _ (by rfl) (by first|exact Or.inl rfl|exact Or.inr (.inl rfl)|exact Or.inr (.inr rfl)) (by decide) (by decide))) (by rfl) (by first|exact .inl rfl|exact .inr rfl|assumption)) (@zaf _ _ _ _ _ (@zaz _ _ 7 _ _ _ _ scPa.nd rfl (.inl rfl) (@zaA _ _ _ _ _ (@zaa _ _ _ _ _ (@zaA _ _ _ _ _ (@zaa _ _ _ _ _ (@pv _ 6 _ _ (by rfl) (by first|exact Or.inl rfl|exact Or.inr (.inl rfl)|exact Or.inr (.inr rfl)) (by decide) (by decide)) (@zaa _ _ _ _ _ (@pv _ 4 _ _ (by rfl) (by first|exact Or.inl rfl|exact Or.inr (.inl rfl)|exact Or.inr (.inr rfl)) (by decide) (by decide)) zab (by rfl)) (by rfl))) (@zaa _ _ _ _ _ (@zaA _ _ _ _ _ (@zaa _ _ _ _ _ (@zas _ _ _ _ _ _ _ _ zcd (@pv _ 2 _ _ (by rfl) (by first|exact Or.inl rfl|exact Or.inr (.inl rfl)|exact Or.inr (.inr rfl)) (by decide) (by decide)) (@pv _ 6 _ _ (by rfl) (by first|exact Or.inl rfl|exact Or.inr (.inl rfl)|exact Or.inr (.inr rfl)) (by decide) (by decide))) (@zaa _ _ _ _ _ (@pv _ 5 _ _ (by rfl) (by first|exact Or.inl rfl|exact Or.inr (.inl rfl)|exact Or.inr (.inr rfl)) (by decide) (by decide)) zab (by rfl)) (by rfl))) zab (by rfl)) (by rfl))) (by rfl) (by first|exact .inl rfl|exact .inr rfl|assumption)) (@zah _ _ _ (@zav _ _ _ _ (@zaI _ _ _ _ _ _ _ _ _ zaH (by rfl) G.tuple (by rfl) (@zaa _ _ _ _ _ (@zgv _ _ _ _ (some _) _ _ _ (gTup K 2 (zdV (zb9 0) (zdV (zb9 1) gNil))) _ _ ["part","lane","net","number"] [none,none,some 0,some 3] rfl (@zhf _ _ _ _ (@pv _ 7 _ _ (by rfl) (by first|exact Or.inl rfl|exact Or.inr (.inl rfl)|exact Or.inr (.inr rfl)) (by decide) (by decide))) (CapOk.of (by kernel_rfl)) (fun _ _ _ _ _=>(@zaY _ _ _ _ _ _ rfl (@zal _ _ _ _ _ (@zap _ _ 0 _ (show (["part","lane","net","number"]:List Str).Nodup from by decide +kernel) rfl (.inl rfl) (.inr rfl)) (@zal _ _ _ _ _ (@zap _ _ 1 _ (show (["part","lane","net","number"]:List Str).Nodup from by decide +kernel) rfl (.inl rfl) (.inr rfl)) zaM (by rfl)) (by rfl)) (by rfl) (by rfl))) (fun _ _ _ _ _=>(@zcD _ _ _ (@zau _ _ _ _ _ _ _ _ zcK (@pv _ 0 _ _ (by rfl) (by first|exact Or.inl rfl|exact Or.inr (.inl rfl)|exact Or.inr (.inr rfl)) (by decide) (by decide)) zae (zay _)))) (fun _ _ _ _ _=>(@zaA _ _ _ _ _ (@zaa _ _ _ _ _ (@pv _ 0 _ _ (by rfl) (by first|exact Or.inl rfl|exact Or.inr (.inl rfl)|exact Or.inr (.inr rfl)) (by decide) (by decide)) (@zaa _ _ _ _ _ (@pv _ 1 _ _ (by rfl) (by first|exact Or.inl rfl|exact Or.inr (.inl rfl)|exact Or.inr (.inr rfl)) (by decide) (by decide)) (@zaa _ _ _ _ _ (@zag _ _ _ _ _ _ _ _ _ _ _ _ _ _ _ _ UN.ok hr (by rfl) UN.m UN.kp UN.b .nil zat (@zaa _ _ _ _ _ (@pv _ 2 _ _ (by rfl) (by first|exact Or.inl rfl|exact Or.inr (.inl rfl)|exact Or.inr (.inr rfl)) (by decide) (by decide)) (@zaa _ _ _ _ _ (@pv _ 1 _ _ (by rfl) (by first|exact Or.inl rfl|exact Or.inr (.inl rfl)|exact Or.inr (.inr rfl)) (by decide) (by decide)) (@zaa _ _ _ _ _ (@zas _ _ _ _ _ _ _ _ zaB (@pv _ 3 _ _ (by rfl) (by first|exact Or.inl rfl|exact Or.inr (.inl rfl)|exact Or.inr (.inr rfl)) (by decide) (by decide)) zae) zab (by rfl)) (by rfl)) (by rfl)) (by decide) (by rfl) (by rfl)) zab (by rfl)) (by rfl)) (by rfl)))) (by intro _;rfl)) zab (by rfl)) (by decide) (by decide) (by rfl) (by rfl))))))),?_⟩
 have pl:=na.prs.len
 have nl':n<ps.length:=by lia
 obtain⟨fa,g,efa,eg,hga⟩:=na.prs.get (List.getElem?_eq_getElem nl')
 have eat:atI ps ((n:Nat):Int)=some (.ref fa):=zaJ (by rw[List.getElem?_eq_getElem nl',efa])
 refine⟨_,rfl,r,_,_,_,rfl,rfl,SqT.of na.net,rfl,_,rfl,fr,_,_,_,rfl,rfl,SqT.of na.forks,eat,fa,_,rfl,SqT.of hga,rfl,_,_,rfl,_,_,rfl,rfl,?_⟩
 refine⟨_,rfl,_,rfl,_,_,rfl,rfl,_,_,rfl,rfl,_,_,rfl,rfl,⟨by decide,by decide⟩,_,rfl,_,_,rfl,rfl,?_⟩
 dsimp only
 generalize hoo:((t+m+1) / 2-t)=oo
 refine⟨_,rfl,_,rfl,(by show 2≤sizeLine;decide),fun t1 h1=>?_⟩
 have s1:=zad h1 (.tup [.int oo,.int g.1])
 refine⟨_,rfl,_,rfl,_,_,rfl,rfl,_,rfl,(by show 2≤sizeLine;decide),fun t2 h2=>?_⟩
 have s2:=zad h2 (.tup [.int (m-oo),.int g.2])
 refine⟨(by show 2≤sizeLine;decide),fun t3 h3=>?_⟩
 have s3:=zad h3 (.tup [.ref t1,.ref t2])
 have s13:=(s1.trans s2).trans s3
 have e1:=(s2.trans s3) _ _ (show L2.upd H t1 (.tup [.int oo,.int g.1]) t1=_ from zac)
 have e2:=s3 _ _ (show L2.upd (L2.upd H t1 (.tup [.int oo,.int g.1])) t2 (.tup [.int (m-oo),.int g.2]) t2=_ from zac)
 have e3:L2.upd (L2.upd (L2.upd H t1 (.tup [.int oo,.int g.1])) t2 (.tup [.int (m-oo),.int g.2])) t3 (.tup [.ref t1,.ref t2]) t3=some (.tup [.ref t1,.ref t2]):=zac
 have na3:=na.tups (Tups.of s13)
 dsimp only
 generalize L2.upd (L2.upd (L2.upd H t1 (.tup [.int oo,.int g.1])) t2 (.tup [.int (m-oo),.int g.2])) t3 (.tup [.ref t1,.ref t2])=H3 at *
 refine⟨_,rfl,t3,rfl,⟨_,SqT.of e3⟩,fun lq hlq=>?_⟩
 refine zin (K:=K) (a:=t3) (xs:=[.ref t1,.ref t2]) (fun i acc σ H4=>(∃ v0 v1,σ=[v0,v1,some (.ref r),some (.int n)])∧Same H3 H4∧H4 lq=some (.lst acc)∧∃ k1 k2,(1≤i→IsNext N.forks g.1 (n+1) k1)∧(2≤i→IsNext N.forks g.2 (n+1) k2)∧∃ gs,Grs H4 acc gs∧acc.length≤i∧gs=(if 1≤i then part oo g.1 k1 else [])++(if 2≤i then part (m-oo) g.2 k2 else [])) ⟨⟨_,_,rfl⟩,zad hlq _,zac,0,0,fun h=>absurd h (by decide),fun h=>absurd h (by decide),[],trivial,Nat.le_refl _,rfl⟩ (fun i acc σ H4 q=>⟨q.2.2.1,SqT.of (q.2.1 _ _ e3)⟩) ?_ ?_
 ·rintro i x acc σ H4 hx ⟨⟨v0,v1,rfl⟩,s4,h4,k1,k2,n1,n2,gs,gr,al,egs⟩
  have il:i<2:=by have:=(List.getElem?_eq_some_iff.mp hx).1;simpa using this
  obtain⟨ta,mm,lane,rfl,hta,hlane⟩:∃ (ta:Addr) (mm:Int) (lane:Nat),x=.ref ta∧H4 ta=some (.tup [.int mm,.int lane])∧((i=0∧mm=oo∧lane=g.1)∨(i=1∧mm=m-oo∧lane=g.2)):=by
   rcases i with _|_|i
   ·obtain rfl:=Option.some.inj hx
    exact⟨t1,oo,g.1,rfl,s4 _ _ e1,.inl ⟨rfl,rfl,rfl⟩⟩
   ·obtain rfl:=Option.some.inj hx
    exact⟨t2,m-oo,g.2,rfl,s4 _ _ e2,.inr ⟨rfl,rfl,rfl⟩⟩
   ·lia
  have put:∀ (kk:Nat) (H5:Hp) (acc':List V),IsNext N.forks lane (n+1) kk→acc'.length≤i+1→(∃ gs',Grs H5 acc' gs'∧gs'=gs++part mm lane kk)→∃ k1 k2,(1≤i+1→IsNext N.forks g.1 (n+1) k1)∧(2≤i+1→IsNext N.forks g.2 (n+1) k2)∧∃ gs,Grs H5 acc' gs∧acc'.length≤i+1∧gs=(if 1≤i+1 then part oo g.1 k1 else [])++(if 2≤i+1 then part (m-oo) g.2 k2 else []):=by
   rintro kk H5 acc' hk al' ⟨gs',gr',rfl⟩
   rcases hlane with ⟨rfl,rfl,rfl⟩|⟨rfl,rfl,rfl⟩
   ·refine⟨kk,0,fun _=>hk,fun h=>absurd h (by decide),_,gr',al',?_⟩
    rw[egs];simp
   ·refine⟨k1,kk,fun _=>n1 (by decide),fun _=>hk,_,gr',al',?_⟩
    rw[egs];simp
  refine⟨ta,_,rfl,SqT.of hta,rfl,_,_,rfl,_,_,rfl,rfl,?_⟩
  refine⟨_,rfl,rfl,_,rfl,?_⟩
  obtain⟨kk,hk⟩:=zbY N.forks lane (n+1) (by lia)
  by_cases z:mm=0
  ·rw[show (!decide (V.int mm=V.int 0))=false from by rw[decide_eq_true (by rw[z])];rfl]
   exact iteF (nx (by show i<2;exact il) ⟨⟨_,_,rfl⟩,s4,h4,put kk H4 acc hk (by lia) ⟨gs,gr,by unfold part;rw[if_pos z,List.append_nil]⟩⟩)
  ·rw[show (!decide (V.int mm=V.int 0))=true from by rw[decide_eq_false (fun y=>z (V.int.inj y))];rfl]
   refine iteT ⟨_,rfl,_,rfl,_,rfl,_,rfl,_,rfl,_,_,rfl,rfl,r,fr,er,ps,N,lane,n+1,rfl,ok,na3.tups (Tups.of s4),by lia,fun k' hk'=>?_⟩
   refine⟨(by show 3≤sizeLine;decide),fun t5 h5=>?_⟩
   have s5:=zad h5 (.tup [.int mm,.int lane,.int k'])
   have h5':=s5 _ _ h4
   refine⟨h5',Nat.lt_of_lt_of_le (show acc.length<1000 by lia) (by decide),nx (by show i<2;exact il) ⟨⟨_,_,rfl⟩,fun b o e=>?_,zac,put k' _ _ hk' (by rw[List.length_append];show _+1≤_;lia) ⟨gs++[⟨mm,lane,k'⟩],?_,by unfold part;rw[if_neg z]⟩⟩⟩
   ·rw[zaj (zai e hlq)];exact s5 _ _ (s4 b o e)
   ·exact(((gr.tups (Tups.of s5)).app (Grs.one (g:=⟨mm,lane,k'⟩) zac)).tups (Tups.lst h5'))
 ·rintro acc σ H4 ⟨⟨v0,v1,rfl⟩,s4,h4,k1,k2,n1,n2,gs,gr,al,egs⟩
  refine⟨lq,_,rfl,.inl ⟨SqL.of h4,fun p hp=>?_⟩⟩
  have s5:=zad hp (.tup acc)
  refine k p acc gs _ ⟨g,k1,k2,eg,n1 (by show 1≤2;decide),n2 (by show 2≤2;decide),?_⟩ ((s13.trans s4).trans s5) zac (gr.tups (Tups.of s5))
  rw[egs,hoo];simp
theorem scSt:FnScope ["net","scene","place","turns","groups","out","many","lane","number","left","parts","turn"] ["net","scene","place"] (zak zcB):=⟨rfl,rfl,rfl,by decide +kernel,rfl,by decide +kernel,by decide +kernel⟩
theorem zew {f fA fE fP fG:Addr}{fd dA dE dP dG:FuncData}(F:Fun K "stepped" "stepped" zcB f fd) (G:Mgs mg) (UA:Use P w K mg base "added" ["counts","place","many"] 2 zdE fA dA) (UE:Use P w K mg base "end_of" ["net","lane"] 1 zhz fE dE) (UP:Use P w K mg base "parted" ["net","turn","many","number"] 2 zcv fP dP) (UG:Use P w K mg base "given_at" ["row","place","value"] 1 zcy fG dG):FnOk P w K mg base CX0 3 f fd ["net","scene","place"] zbS:=by
 refine F.ok scSt (fun vs H Q E h=>?_) (fun cdv A outer s H vs Q E hr h=>?_)
 ·obtain⟨r,fr,er,ps,N,sc,tr,gr,ou,qs,ts,gs,os,place,rfl,_⟩:=h
  rfl
 obtain⟨r,fr,er,ps,N,sc,tr,gr,ou,qs,ts,gs,os,place,rfl,ok,na,sa,pl,gl,tl,ol,gok,k⟩:=h
 have hr1:Room 1 _:=hr.mono (by decide)
 refine⟨_,(@zaf _ _ _ _ _ (@zaR _ _ _ _ _ _ (@pv _ 1 _ _ (by rfl) (by first|exact Or.inl rfl|exact Or.inr (.inl rfl)|exact Or.inr (.inr rfl)) (by decide) (by decide)) (@zaY _ _ _ _ _ _ rfl (@zal _ _ _ _ _ (@zap _ _ 3 _ scSt.nd rfl (.inl rfl) (by first|exact .inl rfl|exact .inr rfl|assumption)) (@zal _ _ _ _ _ (@zap _ _ 4 _ scSt.nd rfl (.inl rfl) (by first|exact .inl rfl|exact .inr rfl|assumption)) (@zal _ _ _ _ _ (@zap _ _ 5 _ scSt.nd rfl (.inl rfl) (by first|exact .inl rfl|exact .inr rfl|assumption)) zaM (by rfl)) (by rfl)) (by rfl)) (by rfl) (by rfl)) (by rfl) (by rfl) (by rfl)) (@zaf _ _ _ _ _ (@zaU _ _ _ _ _ _ _ _ (@zau _ _ _ _ _ _ _ _ zgA (@pv _ 2 _ _ (by rfl) (by first|exact Or.inl rfl|exact Or.inr (.inl rfl)|exact Or.inr (.inr rfl)) (by decide) (by decide)) (@zar _ _ _ _ _ _ _ _ _ zao (by rfl) G.len PySem.boot_len (@zaa _ _ _ _ _ (@pv _ 4 _ _ (by rfl) (by first|exact Or.inl rfl|exact Or.inr (.inl rfl)|exact Or.inr (.inr rfl)) (by decide) (by decide)) zab (by rfl)) (by decide) (by decide) (by rfl) (by rfl)) (zay _)) (@zah _ _ _ zcE) zaD) (@zaf _ _ _ _ _ (@zaR _ _ _ _ _ _ (@zaq _ _ _ _ _ _ _ zam (@pv _ 4 _ _ (by rfl) (by first|exact Or.inl rfl|exact Or.inr (.inl rfl)|exact Or.inr (.inr rfl)) (by decide) (by decide)) (@pv _ 2 _ _ (by rfl) (by first|exact Or.inl rfl|exact Or.inr (.inl rfl)|exact Or.inr (.inr rfl)) (by decide) (by decide)) (fun _ _=>rfl)) (@zaY _ _ _ _ _ _ rfl (@zal _ _ _ _ _ (@zap _ _ 6 _ scSt.nd rfl (.inl rfl) (by first|exact .inl rfl|exact .inr rfl|assumption)) (@zal _ _ _ _ _ (@zap _ _ 7 _ scSt.nd rfl (.inl rfl) (by first|exact .inl rfl|exact .inr rfl|assumption)) (@zal _ _ _ _ _ (@zap _ _ 8 _ scSt.nd rfl (.inl rfl) (by first|exact .inl rfl|exact .inr rfl|assumption)) zaM (by rfl)) (by rfl)) (by rfl)) (by rfl) (by rfl)) (by rfl) (by rfl) (by rfl)) (@zaf _ _ _ _ _ (@zaU _ _ _ _ _ _ _ _ (@zau _ _ _ _ _ _ _ _ zbK (@pv _ 8 _ _ (by rfl) (by first|exact Or.inl rfl|exact Or.inr (.inl rfl)|exact Or.inr (.inr rfl)) (by decide) (by decide)) (@zar _ _ _ _ _ _ _ _ _ zao (by rfl) G.len PySem.boot_len (@zaa _ _ _ _ _ (@zaq _ _ _ _ _ _ _ zam (@pv _ 0 _ _ (by rfl) (by first|exact Or.inl rfl|exact Or.inr (.inl rfl)|exact Or.inr (.inr rfl)) (by decide) (by decide)) zae (fun _ _=>rfl)) zab (by rfl)) (by decide) (by decide) (by rfl) (by rfl)) (zay _)) (@zaf _ _ _ _ _ (@zaz _ _ 9 _ _ _ _ scSt.nd rfl (.inl rfl) (@zas _ _ _ _ _ _ _ _ za3 (@zaP _ _ _ _ _ _ _ _ _ _ za5 (@pv _ 4 _ _ (by rfl) (by first|exact Or.inl rfl|exact Or.inr (.inl rfl)|exact Or.inr (.inr rfl)) (by decide) (by decide)) zaX (@zaQ _ _ _ (@pv _ 2 _ _ (by rfl) (by first|exact Or.inl rfl|exact Or.inr (.inl rfl)|exact Or.inr (.inr rfl)) (by decide) (by decide)))) (@zaP _ _ _ _ _ _ _ _ _ _ za5 (@pv _ 4 _ _ (by rfl) (by first|exact Or.inl rfl|exact Or.inr (.inl rfl)|exact Or.inr (.inr rfl)) (by decide) (by decide)) (@zaQ _ _ _ (@zas _ _ _ _ _ _ _ _ zaB (@pv _ 2 _ _ (by rfl) (by first|exact Or.inl rfl|exact Or.inr (.inl rfl)|exact Or.inr (.inr rfl)) (by decide) (by decide)) zae)) zaX)) (by rfl) (by first|exact .inl rfl|exact .inr rfl|assumption)) (@zah _ _ _ (@zav _ _ _ _ (@zaA _ _ _ _ _ (@zaa _ _ _ _ _ (@pv _ 3 _ _ (by rfl) (by first|exact Or.inl rfl|exact Or.inr (.inl rfl)|exact Or.inr (.inr rfl)) (by decide) (by decide)) (@zaa _ _ _ _ _ (@pv _ 9 _ _ (by rfl) (by first|exact Or.inl rfl|exact Or.inr (.inl rfl)|exact Or.inr (.inr rfl)) (by decide) (by decide)) (@zaa _ _ _ _ _ (@zag _ _ _ _ _ _ _ _ _ _ _ _ _ _ _ _ UA.ok hr (by rfl) UA.m UA.kp UA.b .nil zat (@zaa _ _ _ _ _ (@pv _ 5 _ _ (by rfl) (by first|exact Or.inl rfl|exact Or.inr (.inl rfl)|exact Or.inr (.inr rfl)) (by decide) (by decide)) (@zaa _ _ _ _ _ (@zag _ _ _ _ _ _ _ _ _ _ _ _ _ _ _ _ UE.ok hr1 (by rfl) UE.m UE.kp UE.b .nil zat (@zaa _ _ _ _ _ (@pv _ 0 _ _ (by rfl) (by first|exact Or.inl rfl|exact Or.inr (.inl rfl)|exact Or.inr (.inr rfl)) (by decide) (by decide)) (@zaa _ _ _ _ _ (@pv _ 7 _ _ (by rfl) (by first|exact Or.inl rfl|exact Or.inr (.inl rfl)|exact Or.inr (.inr rfl)) (by decide) (by decide)) zab (by rfl)) (by rfl)) (by decide) (by rfl) (by rfl)) (@zaa _ _ _ _ _ (@pv _ 6 _ _ (by rfl) (by first|exact Or.inl rfl|exact Or.inr (.inl rfl)|exact Or.inr (.inr rfl)) (by decide) (by decide)) zab (by rfl)) (by rfl)) (by rfl)) (by decide) (by rfl) (by rfl)) zab (by rfl)) (by rfl)) (by rfl)))))) zaD) (@zaf _ _ _ _ _ (@zaz _ _ 10 _ _ _ _ scSt.nd rfl (.inl rfl) (@zag _ _ _ _ _ _ _ _ _ _ _ _ _ _ _ _ UP.ok hr (by rfl) UP.m UP.kp UP.b .nil zat (@zaa _ _ _ _ _ (@pv _ 0 _ _ (by rfl) (by first|exact Or.inl rfl|exact Or.inr (.inl rfl)|exact Or.inr (.inr rfl)) (by decide) (by decide)) (@zaa _ _ _ _ _ (@zaq _ _ _ _ _ _ _ zam (@pv _ 3 _ _ (by rfl) (by first|exact Or.inl rfl|exact Or.inr (.inl rfl)|exact Or.inr (.inr rfl)) (by decide) (by decide)) (@pv _ 8 _ _ (by rfl) (by first|exact Or.inl rfl|exact Or.inr (.inl rfl)|exact Or.inr (.inr rfl)) (by decide) (by decide)) (fun _ _=>rfl)) (@zaa _ _ _ _ _ (@pv _ 6 _ _ (by rfl) (by first|exact Or.inl rfl|exact Or.inr (.inl rfl)|exact Or.inr (.inr rfl)) (by decide) (by decide)) (@zaa _ _ _ _ _ (@pv _ 8 _ _ (by rfl) (by first|exact Or.inl rfl|exact Or.inr (.inl rfl)|exact Or.inr (.inr rfl)) (by decide) (by decide)) zab (by rfl)) (by rfl)) (by rfl)) (by rfl)) (by decide) (by rfl) (by rfl)) (by rfl) (by first|exact .inl rfl|exact .inr rfl|assumption)) (@zaf _ _ _ _ _ (@zaz _ _ 11 _ _ _ _ scSt.nd rfl (.inl rfl) (@zas _ _ _ _ _ _ _ _ zbd (@zas _ _ _ _ _ _ _ _ zaB (@zaq _ _ _ _ _ _ _ zam (@pv _ 3 _ _ (by rfl) (by first|exact Or.inl rfl|exact Or.inr (.inl rfl)|exact Or.inr (.inr rfl)) (by decide) (by decide)) (@pv _ 8 _ _ (by rfl) (by first|exact Or.inl rfl|exact Or.inr (.inl rfl)|exact Or.inr (.inr rfl)) (by decide) (by decide)) (fun _ _=>rfl)) (@pv _ 6 _ _ (by rfl) (by first|exact Or.inl rfl|exact Or.inr (.inl rfl)|exact Or.inr (.inr rfl)) (by decide) (by decide))) zae) (by rfl) (by first|exact .inl rfl|exact .inr rfl|assumption)) (@zah _ _ _ (@zav _ _ _ _ (@zaA _ _ _ _ _ (@zaa _ _ _ _ _ (@zag _ _ _ _ _ _ _ _ _ _ _ _ _ _ _ _ UG.ok hr1 (by rfl) UG.m UG.kp UG.b .nil zat (@zaa _ _ _ _ _ (@pv _ 3 _ _ (by rfl) (by first|exact Or.inl rfl|exact Or.inr (.inl rfl)|exact Or.inr (.inr rfl)) (by decide) (by decide)) (@zaa _ _ _ _ _ (@pv _ 8 _ _ (by rfl) (by first|exact Or.inl rfl|exact Or.inr (.inl rfl)|exact Or.inr (.inr rfl)) (by decide) (by decide)) (@zaa _ _ _ _ _ (@pv _ 11 _ _ (by rfl) (by first|exact Or.inl rfl|exact Or.inr (.inl rfl)|exact Or.inr (.inr rfl)) (by decide) (by decide)) zab (by rfl)) (by rfl)) (by rfl)) (by decide) (by rfl) (by rfl)) (@zaa _ _ _ _ _ (@zas _ _ _ _ _ _ _ _ za3 (@zas _ _ _ _ _ _ _ _ za3 (@zaP _ _ _ _ _ _ _ _ _ _ za5 (@pv _ 4 _ _ (by rfl) (by first|exact Or.inl rfl|exact Or.inr (.inl rfl)|exact Or.inr (.inr rfl)) (by decide) (by decide)) zaX (@zaQ _ _ _ (@pv _ 2 _ _ (by rfl) (by first|exact Or.inl rfl|exact Or.inr (.inl rfl)|exact Or.inr (.inr rfl)) (by decide) (by decide)))) (@pv _ 10 _ _ (by rfl) (by first|exact Or.inl rfl|exact Or.inr (.inl rfl)|exact Or.inr (.inr rfl)) (by decide) (by decide))) (@zaP _ _ _ _ _ _ _ _ _ _ za5 (@pv _ 4 _ _ (by rfl) (by first|exact Or.inl rfl|exact Or.inr (.inl rfl)|exact Or.inr (.inr rfl)) (by decide) (by decide)) (@zaQ _ _ _ (@zas _ _ _ _ _ _ _ _ zaB (@pv _ 2 _ _ (by rfl) (by first|exact Or.inl rfl|exact Or.inr (.inl rfl)|exact Or.inr (.inr rfl)) (by decide) (by decide)) zae)) zaX)) (@zaa _ _ _ _ _ (@pv _ 5 _ _ (by rfl) (by first|exact Or.inl rfl|exact Or.inr (.inl rfl)|exact Or.inr (.inr rfl)) (by decide) (by decide)) zab (by rfl)) (by rfl)) (by rfl))))))))))),?_⟩
 have ql:=sa.grs.len
 have fl:=na.prs.len
 have fm:=ok.fm
 have l16:=ok.l16
 have pl':place<qs.length:=by lia
 obtain⟨ga,g,ega,eg,hga⟩:=sa.grs.get (List.getElem?_eq_getElem pl')
 have eat:atI qs ((place:Nat):Int)=some (.ref ga):=zaJ (by rw[List.getElem?_eq_getElem pl',ega])
 obtain⟨gln,gfk⟩:=gok g (List.mem_of_getElem? eg)
 refine⟨_,rfl,sc,_,rfl,SqT.of sa.sc,rfl,_,_,rfl,_,_,rfl,_,_,rfl,rfl,?_⟩
 refine⟨_,rfl,_,rfl,gr,_,rfl,.inr (SqT.of sa.gr),_,_,rfl,rfl,_,rfl,?_⟩
 rw[decide_eq_false (show ¬ _ from by lia)]
 refine iteF ⟨_,rfl,_,rfl,gr,_,_,_,rfl,rfl,SqT.of sa.gr,eat,ga,_,rfl,SqT.of hga,rfl,_,_,rfl,_,_,rfl,_,_,rfl,rfl,?_⟩
 refine⟨_,rfl,_,rfl,r,_,_,_,rfl,rfl,SqT.of na.net,rfl,fr,_,rfl,.inr (SqT.of na.forks),rfl,_,rfl,?_⟩
 by_cases z:g.fork=N.forks.length
 ·rw[show decide (V.int (g.fork:Int)=V.int (ps.length:Int))=true from decide_eq_true (by rw[fl,z])]
  refine iteT ⟨_,rfl,_,rfl,_,rfl,gr,_,rfl,sa.gr,fun p1 H1 s1 h1=>?_⟩
  rw[zbh _ place (by lia)]at h1
  refine⟨_,rfl,_,rfl,_,_,rfl,rfl,_,rfl,gr,_,rfl,s1 _ _ sa.gr,fun p2 H2 s2 h2=>?_⟩
  rw[show ((place:Int)+1)=((place+1:Nat):Int) from rfl,zbi _ (place+1) (by lia)]at h2
  refine⟨p1,p2,_,_,rfl,rfl,s2 _ _ h1,h2,?_,fun p3 H3 s3 h3=>?_⟩
  ·rw[List.length_take,List.length_drop,sizeLine_eq];lia
  have u3:=(s1.trans s2).trans s3
  refine⟨_,rfl,_,rfl,_,rfl,_,rfl,_,rfl,r,fr,er,ps,N,g.lane,rfl,ok,na.tups (Tups.of u3),gln,?_⟩
  have il:N.ends.idxOf g.lane<os.length:=by
   rw[ol,← zel ok]
   exact List.idxOf_lt_length_of_mem (ok.en.mem_iff.mpr (List.mem_range.mpr gln))
  refine⟨_,rfl,ou,os,_,_,rfl,u3 _ _ sa.ou,il,by lia,fun p4 H4 s4 h4=>?_⟩
  refine⟨(by show 3≤sizeLine;decide),fun sc' h5=>?_⟩
  have s5:=zad h5 (.tup [.ref tr,.ref p3,.ref p4])
  have u5:=(u3.trans s4).trans s5
  have sa5:=sa.tups (Tups.of u5)
  exact k sc' tr p3 p4 _ ts _ _ _ ⟨g,eg,.inl ⟨z,rfl,rfl,rfl⟩⟩ u5 ⟨zac,sa5.tr,(s4.trans s5) _ _ h3,(sa5.grs.take place).app (sa5.grs.drop (place+1)),s5 _ _ h4⟩
 ·rw[show decide (V.int (g.fork:Int)=V.int (ps.length:Int))=false from decide_eq_false (by intro y;have:=V.int.inj y;lia)]
  have gf:g.fork<N.forks.length:=by lia
  refine iteF ⟨_,rfl,_,rfl,_,rfl,tr,_,_,_,rfl,rfl,SqT.of sa.tr,zdt (by lia),_,rfl,_,rfl,r,fr,er,ps,N,_,_,_,rfl,ok,na,gf,fun p1 ms' ms H1 pt s1 h1 gr1=>?_⟩
  refine⟨_,rfl,_,rfl,tr,_,_,_,rfl,rfl,SqT.of (s1 _ _ sa.tr),zdt (by lia),_,rfl,_,_,rfl,rfl,_,_,rfl,rfl,(by show (0:Int)<2;decide),?_⟩
  refine⟨_,rfl,_,rfl,_,rfl,tr,ts,_,_,rfl,s1 _ _ sa.tr,by lia,by lia,fun p2 H2 s2 h2=>?_⟩
  have u2:=s1.trans s2
  refine⟨_,rfl,_,rfl,_,rfl,gr,_,rfl,u2 _ _ sa.gr,fun p3 H3 s3 h3=>?_⟩
  rw[zbh _ place (by lia)]at h3
  have ml:ms'.length≤2:=by rw[gr1.len];exact pt.len
  refine⟨_,rfl,p3,p1,_,_,rfl,rfl,h3,(s2.trans s3) _ _ h1,?_,fun p4 H4 s4 h4=>?_⟩
  ·rw[List.length_take,sizeLine_eq];lia
  have u4:=(u2.trans s3).trans s4
  refine⟨_,rfl,_,rfl,_,_,rfl,rfl,_,rfl,gr,_,rfl,u4 _ _ sa.gr,fun p5 H5 s5 h5=>?_⟩
  rw[show ((place:Int)+1)=((place+1:Nat):Int) from rfl,zbi _ (place+1) (by lia)]at h5
  refine⟨p4,p5,_,_,rfl,rfl,s5 _ _ h4,h5,?_,fun p6 H6 s6 h6=>?_⟩
  ·rw[List.length_append,List.length_take,List.length_drop,sizeLine_eq];lia
  refine⟨_,rfl,(by show 3≤sizeLine;decide),fun sc' h7=>?_⟩
  have s7:=zad h7 (.tup [.ref p2,.ref p6,.ref ou])
  have u7:=((u4.trans s5).trans s6).trans s7
  have sa7:=sa.tups (Tups.of u7)
  have t7:=((s3.trans s4).trans (s5.trans s6)).trans s7
  exact k sc' p2 p6 ou _ _ _ os _ ⟨g,eg,.inr ⟨gf,rfl,rfl,ms,pt,rfl⟩⟩ u7 ⟨zac,t7 _ _ h2,s7 _ _ h6,((sa7.grs.take place).app (gr1.tups (Tups.of (s2.trans t7)))).app (sa7.grs.drop (place+1)),sa7.ou⟩
theorem scJo:FnScope ["scene","first","second","turns","groups","out","many","lane","number","more","other_lane","other_number","whole"] ["scene","first","second"] (zak zdI):=⟨rfl,rfl,rfl,by decide +kernel,rfl,by decide +kernel,by decide +kernel⟩
theorem zfo {f:Addr}{fd:FuncData}(F:Fun K "joined" "joined" zdI f fd) (G:Mgs mg):FnOk P w K mg base CX0 1 f fd ["scene","first","second"] zcx:=by
 refine F.ok scJo (fun vs H Q E h=>?_) (fun cdv A outer s H vs Q E hr h=>?_)
 ·obtain⟨sc,tr,gr,ou,qs,ts,gs,os,first,second,rfl,_⟩:=h
  rfl
 obtain⟨sc,tr,gr,ou,qs,ts,gs,os,first,second,rfl,sa,fs,sl,gl,same,k⟩:=h
 refine⟨_,(@zaf _ _ _ _ _ (@zaR _ _ _ _ _ _ (@pv _ 0 _ _ (by rfl) (by first|exact Or.inl rfl|exact Or.inr (.inl rfl)|exact Or.inr (.inr rfl)) (by decide) (by decide)) (@zaY _ _ _ _ _ _ rfl (@zal _ _ _ _ _ (@zap _ _ 3 _ scJo.nd rfl (.inl rfl) (by first|exact .inl rfl|exact .inr rfl|assumption)) (@zal _ _ _ _ _ (@zap _ _ 4 _ scJo.nd rfl (.inl rfl) (by first|exact .inl rfl|exact .inr rfl|assumption)) (@zal _ _ _ _ _ (@zap _ _ 5 _ scJo.nd rfl (.inl rfl) (by first|exact .inl rfl|exact .inr rfl|assumption)) zaM (by rfl)) (by rfl)) (by rfl)) (by rfl) (by rfl)) (by rfl) (by rfl) (by rfl)) (@zaf _ _ _ _ _ (@zaU _ _ _ _ _ _ _ _ (@zau _ _ _ _ _ _ _ _ zgA (@pv _ 2 _ _ (by rfl) (by first|exact Or.inl rfl|exact Or.inr (.inl rfl)|exact Or.inr (.inr rfl)) (by decide) (by decide)) (@zar _ _ _ _ _ _ _ _ _ zao (by rfl) G.len PySem.boot_len (@zaa _ _ _ _ _ (@pv _ 4 _ _ (by rfl) (by first|exact Or.inl rfl|exact Or.inr (.inl rfl)|exact Or.inr (.inr rfl)) (by decide) (by decide)) zab (by rfl)) (by decide) (by decide) (by rfl) (by rfl)) (zay _)) (@zah _ _ _ zcE) zaD) (@zaf _ _ _ _ _ (@zaR _ _ _ _ _ _ (@zaq _ _ _ _ _ _ _ zam (@pv _ 4 _ _ (by rfl) (by first|exact Or.inl rfl|exact Or.inr (.inl rfl)|exact Or.inr (.inr rfl)) (by decide) (by decide)) (@pv _ 1 _ _ (by rfl) (by first|exact Or.inl rfl|exact Or.inr (.inl rfl)|exact Or.inr (.inr rfl)) (by decide) (by decide)) (fun _ _=>rfl)) (@zaY _ _ _ _ _ _ rfl (@zal _ _ _ _ _ (@zap _ _ 6 _ scJo.nd rfl (.inl rfl) (by first|exact .inl rfl|exact .inr rfl|assumption)) (@zal _ _ _ _ _ (@zap _ _ 7 _ scJo.nd rfl (.inl rfl) (by first|exact .inl rfl|exact .inr rfl|assumption)) (@zal _ _ _ _ _ (@zap _ _ 8 _ scJo.nd rfl (.inl rfl) (by first|exact .inl rfl|exact .inr rfl|assumption)) zaM (by rfl)) (by rfl)) (by rfl)) (by rfl) (by rfl)) (by rfl) (by rfl) (by rfl)) (@zaf _ _ _ _ _ (@zaR _ _ _ _ _ _ (@zaq _ _ _ _ _ _ _ zam (@pv _ 4 _ _ (by rfl) (by first|exact Or.inl rfl|exact Or.inr (.inl rfl)|exact Or.inr (.inr rfl)) (by decide) (by decide)) (@pv _ 2 _ _ (by rfl) (by first|exact Or.inl rfl|exact Or.inr (.inl rfl)|exact Or.inr (.inr rfl)) (by decide) (by decide)) (fun _ _=>rfl)) (@zaY _ _ _ _ _ _ rfl (@zal _ _ _ _ _ (@zap _ _ 9 _ scJo.nd rfl (.inl rfl) (by first|exact .inl rfl|exact .inr rfl|assumption)) (@zal _ _ _ _ _ (@zap _ _ 10 _ scJo.nd rfl (.inl rfl) (by first|exact .inl rfl|exact .inr rfl|assumption)) (@zal _ _ _ _ _ (@zap _ _ 11 _ scJo.nd rfl (.inl rfl) (by first|exact .inl rfl|exact .inr rfl|assumption)) zaM (by rfl)) (by rfl)) (by rfl)) (by rfl) (by rfl)) (by rfl) (by rfl) (by rfl)) (@zaf _ _ _ _ _ (@zaU _ _ _ _ _ _ _ _ (@zi1 _ _ _ _ _ _ _ (@zau _ _ _ _ _ _ _ _ zcK (@pv _ 7 _ _ (by rfl) (by first|exact Or.inl rfl|exact Or.inr (.inl rfl)|exact Or.inr (.inr rfl)) (by decide) (by decide)) (@pv _ 10 _ _ (by rfl) (by first|exact Or.inl rfl|exact Or.inr (.inl rfl)|exact Or.inr (.inr rfl)) (by decide) (by decide)) (zay _)) (@zhe _ _ _ _ (@zau _ _ _ _ _ _ _ _ zcK (@pv _ 8 _ _ (by rfl) (by first|exact Or.inl rfl|exact Or.inr (.inl rfl)|exact Or.inr (.inr rfl)) (by decide) (by decide)) (@pv _ 11 _ _ (by rfl) (by first|exact Or.inl rfl|exact Or.inr (.inl rfl)|exact Or.inr (.inr rfl)) (by decide) (by decide)) (zay _)))).pt (@zah _ _ _ zcE) zaD) (@zaf _ _ _ _ _ (@zaz _ _ 12 _ _ _ _ scJo.nd rfl (.inl rfl) (@zgw _ _ _ _ _ _ _ _ (@zau _ _ _ _ _ _ _ _ zcK (@zas _ _ _ _ _ _ _ _ zaB (@pv _ 6 _ _ (by rfl) (by first|exact Or.inl rfl|exact Or.inr (.inl rfl)|exact Or.inr (.inr rfl)) (by decide) (by decide)) (@pv _ 9 _ _ (by rfl) (by first|exact Or.inl rfl|exact Or.inr (.inl rfl)|exact Or.inr (.inr rfl)) (by decide) (by decide))) zae (zay _)) (@zaA _ _ _ _ _ (@zaa _ _ _ _ _ (@zaA _ _ _ _ _ (@zaa _ _ _ _ _ (@zas _ _ _ _ _ _ _ _ zaB (@pv _ 6 _ _ (by rfl) (by first|exact Or.inl rfl|exact Or.inr (.inl rfl)|exact Or.inr (.inr rfl)) (by decide) (by decide)) (@pv _ 9 _ _ (by rfl) (by first|exact Or.inl rfl|exact Or.inr (.inl rfl)|exact Or.inr (.inr rfl)) (by decide) (by decide))) (@zaa _ _ _ _ _ (@pv _ 7 _ _ (by rfl) (by first|exact Or.inl rfl|exact Or.inr (.inl rfl)|exact Or.inr (.inr rfl)) (by decide) (by decide)) (@zaa _ _ _ _ _ (@pv _ 8 _ _ (by rfl) (by first|exact Or.inl rfl|exact Or.inr (.inl rfl)|exact Or.inr (.inr rfl)) (by decide) (by decide)) zab (by rfl)) (by rfl)) (by rfl))) zab (by rfl))) (@zaA _ _ _ _ _ zab)) (by rfl) (by first|exact .inl rfl|exact .inr rfl|assumption)) (@zah _ _ _ (@zav _ _ _ _ (@zaA _ _ _ _ _ (@zaa _ _ _ _ _ (@pv _ 3 _ _ (by rfl) (by first|exact Or.inl rfl|exact Or.inr (.inl rfl)|exact Or.inr (.inr rfl)) (by decide) (by decide)) (@zaa _ _ _ _ _ (@zas _ _ _ _ _ _ _ _ za3 (@zas _ _ _ _ _ _ _ _ za3 (@zas _ _ _ _ _ _ _ _ za3 (@zaP _ _ _ _ _ _ _ _ _ _ za5 (@pv _ 4 _ _ (by rfl) (by first|exact Or.inl rfl|exact Or.inr (.inl rfl)|exact Or.inr (.inr rfl)) (by decide) (by decide)) zaX (@zaQ _ _ _ (@pv _ 1 _ _ (by rfl) (by first|exact Or.inl rfl|exact Or.inr (.inl rfl)|exact Or.inr (.inr rfl)) (by decide) (by decide)))) (@pv _ 12 _ _ (by rfl) (by first|exact Or.inl rfl|exact Or.inr (.inl rfl)|exact Or.inr (.inr rfl)) (by decide) (by decide))) (@zaP _ _ _ _ _ _ _ _ _ _ za5 (@pv _ 4 _ _ (by rfl) (by first|exact Or.inl rfl|exact Or.inr (.inl rfl)|exact Or.inr (.inr rfl)) (by decide) (by decide)) (@zaQ _ _ _ (@zas _ _ _ _ _ _ _ _ zaB (@pv _ 1 _ _ (by rfl) (by first|exact Or.inl rfl|exact Or.inr (.inl rfl)|exact Or.inr (.inr rfl)) (by decide) (by decide)) zae)) (@zaQ _ _ _ (@pv _ 2 _ _ (by rfl) (by first|exact Or.inl rfl|exact Or.inr (.inl rfl)|exact Or.inr (.inr rfl)) (by decide) (by decide))))) (@zaP _ _ _ _ _ _ _ _ _ _ za5 (@pv _ 4 _ _ (by rfl) (by first|exact Or.inl rfl|exact Or.inr (.inl rfl)|exact Or.inr (.inr rfl)) (by decide) (by decide)) (@zaQ _ _ _ (@zas _ _ _ _ _ _ _ _ zaB (@pv _ 2 _ _ (by rfl) (by first|exact Or.inl rfl|exact Or.inr (.inl rfl)|exact Or.inr (.inr rfl)) (by decide) (by decide)) zae)) zaX)) (@zaa _ _ _ _ _ (@pv _ 5 _ _ (by rfl) (by first|exact Or.inl rfl|exact Or.inr (.inl rfl)|exact Or.inr (.inr rfl)) (by decide) (by decide)) zab (by rfl)) (by rfl)) (by rfl))))))))))),?_⟩
 have ql:=sa.grs.len
 obtain⟨ga,g,ega,eg,hga⟩:=sa.grs.get (List.getElem?_eq_getElem (show first<qs.length by lia))
 obtain⟨ha,h,eha,eh,hha⟩:=sa.grs.get (List.getElem?_eq_getElem (show second<qs.length by lia))
 obtain⟨sl1,sf1⟩:=same g h eg eh
 have eat1:atI qs ((first:Nat):Int)=some (.ref ga):=zaJ (by rw[List.getElem?_eq_getElem (by lia),ega])
 have eat2:atI qs ((second:Nat):Int)=some (.ref ha):=zaJ (by rw[List.getElem?_eq_getElem (by lia),eha])
 refine⟨_,rfl,sc,_,rfl,SqT.of sa.sc,rfl,_,_,rfl,_,_,rfl,_,_,rfl,rfl,?_⟩
 refine⟨_,rfl,_,rfl,gr,_,rfl,.inr (SqT.of sa.gr),_,_,rfl,rfl,_,rfl,?_⟩
 rw[decide_eq_false (show ¬ _ from by lia)]
 refine iteF ⟨_,rfl,_,rfl,gr,_,_,_,rfl,rfl,SqT.of sa.gr,eat1,ga,_,rfl,SqT.of hga,rfl,_,_,rfl,_,_,rfl,_,_,rfl,rfl,?_⟩
 refine⟨_,rfl,_,rfl,gr,_,_,_,rfl,rfl,SqT.of sa.gr,eat2,ha,_,rfl,SqT.of hha,rfl,_,_,rfl,_,_,rfl,_,_,rfl,rfl,?_⟩
 refine⟨_,rfl,_,rfl,rfl,_,rfl,?_⟩
 rw[show (!decide (V.int (g.lane:Int)=V.int (h.lane:Int)))=false from by rw[decide_eq_true (by rw[sl1])];rfl]
 refine iteF ⟨_,rfl,_,rfl,rfl,_,rfl,?_⟩
 rw[show (!decide (V.int (g.fork:Int)=V.int (h.fork:Int)))=false from by rw[decide_eq_true (by rw[sf1])];rfl]
 refine iteF ⟨_,rfl,_,rfl,_,_,rfl,rfl,rfl,_,rfl,?_⟩
 by_cases z:g.many+h.many=0
 ·rw[show (!decide (V.int (g.many+h.many)=V.int 0))=false from by rw[decide_eq_true (by rw[z])];rfl]
  refine iteF ⟨(by show 0≤sizeLine;decide),fun wh hwh=>?_⟩
  have sw:=zad hwh (.tup [])
  refine⟨_,rfl,_,rfl,_,rfl,_,rfl,gr,_,rfl,sw _ _ sa.gr,fun p1 H1 s1 h1=>?_⟩
  rw[zbh _ first (by lia)]at h1
  refine⟨_,rfl,p1,wh,_,_,rfl,rfl,h1,s1 _ _ zac,?_,fun p2 H2 s2 h2=>?_⟩
  ·rw[List.length_take,sizeLine_eq];show _+0≤_;lia
  have u2:=(sw.trans s1).trans s2
  refine⟨_,rfl,_,rfl,_,_,rfl,rfl,_,rfl,_,rfl,_,rfl,gr,_,rfl,u2 _ _ sa.gr,fun p3 H3 s3 h3=>?_⟩
  rw[show ((first:Int)+1)=((first+1:Nat):Int) from rfl,zf3 _ (first+1) second (by lia) (by lia)]at h3
  refine⟨p2,p3,_,_,rfl,rfl,s3 _ _ h2,h3,?_,fun p4 H4 s4 h4=>?_⟩
  ·rw[List.length_append,List.length_take,List.length_take,List.length_drop,sizeLine_eq];show _+0+_≤_;lia
  have u4:=(u2.trans s3).trans s4
  refine⟨_,rfl,_,rfl,_,_,rfl,rfl,_,rfl,gr,_,rfl,u4 _ _ sa.gr,fun p5 H5 s5 h5=>?_⟩
  rw[show ((second:Int)+1)=((second+1:Nat):Int) from rfl,zbi _ (second+1) (by lia)]at h5
  refine⟨p4,p5,_,_,rfl,rfl,s5 _ _ h4,h5,?_,fun p6 H6 s6 h6=>?_⟩
  ·rw[List.length_append,List.length_append,List.length_take,List.length_take,List.length_drop,List.length_drop,sizeLine_eq];show _+0+_+_≤_;lia
  refine⟨_,rfl,(by show 3≤sizeLine;decide),fun sc' h7=>?_⟩
  have s7:=zad h7 (.tup [.ref tr,.ref p6,.ref ou])
  have t7:=((s3.trans s4).trans (s5.trans s6)).trans s7
  have u7:=u2.trans t7
  have sa7:=sa.tups (Tups.of u7)
  exact k sc' p6 _ _ _ ⟨g,h,eg,eh,rfl⟩ u7 ⟨zac,sa7.tr,s7 _ _ h6,(((sa7.grs.take first).app (show Grs _ [] (part (g.many+h.many) g.lane g.fork) from by unfold part;rw[if_pos z];exact trivial)).app ((sa7.grs.drop (first+1)).take (second-(first+1)))).app (sa7.grs.drop (second+1)),sa7.ou⟩
 ·rw[show (!decide (V.int (g.many+h.many)=V.int 0))=true from by rw[decide_eq_false (fun y=>z (V.int.inj y))];rfl]
  refine iteT ⟨_,rfl,_,rfl,_,_,rfl,rfl,_,rfl,_,rfl,(by show 3≤sizeLine;decide),fun wt hwt=>⟨(by show 1≤sizeLine;decide),fun wh hwh=>?_⟩⟩
  have sv:=zad hwh (.tup [.ref wt])
  have sw:=(zad hwt (.tup [.int (g.many+h.many),.int g.lane,.int g.fork])).trans sv
  refine⟨_,rfl,_,rfl,_,rfl,_,rfl,gr,_,rfl,sw _ _ sa.gr,fun p1 H1 s1 h1=>?_⟩
  rw[zbh _ first (by lia)]at h1
  refine⟨_,rfl,p1,wh,_,_,rfl,rfl,h1,s1 _ _ zac,?_,fun p2 H2 s2 h2=>?_⟩
  ·rw[List.length_take,sizeLine_eq];show _+1≤_;lia
  have u2:=(sw.trans s1).trans s2
  refine⟨_,rfl,_,rfl,_,_,rfl,rfl,_,rfl,_,rfl,_,rfl,gr,_,rfl,u2 _ _ sa.gr,fun p3 H3 s3 h3=>?_⟩
  rw[show ((first:Int)+1)=((first+1:Nat):Int) from rfl,zf3 _ (first+1) second (by lia) (by lia)]at h3
  refine⟨p2,p3,_,_,rfl,rfl,s3 _ _ h2,h3,?_,fun p4 H4 s4 h4=>?_⟩
  ·rw[List.length_append,List.length_take,List.length_take,List.length_drop,sizeLine_eq];show _+1+_≤_;lia
  have u4:=(u2.trans s3).trans s4
  refine⟨_,rfl,_,rfl,_,_,rfl,rfl,_,rfl,gr,_,rfl,u4 _ _ sa.gr,fun p5 H5 s5 h5=>?_⟩
  rw[show ((second:Int)+1)=((second+1:Nat):Int) from rfl,zbi _ (second+1) (by lia)]at h5
  refine⟨p4,p5,_,_,rfl,rfl,s5 _ _ h4,h5,?_,fun p6 H6 s6 h6=>?_⟩
  ·rw[List.length_append,List.length_append,List.length_take,List.length_take,List.length_drop,List.length_drop,sizeLine_eq];show _+1+_+_≤_;lia
  refine⟨_,rfl,(by show 3≤sizeLine;decide),fun sc' h7=>?_⟩
  have s7:=zad h7 (.tup [.ref tr,.ref p6,.ref ou])
  have t7:=((s3.trans s4).trans (s5.trans s6)).trans s7
  have u7:=u2.trans t7
  have sa7:=sa.tups (Tups.of u7)
  exact k sc' p6 _ _ _ ⟨g,h,eg,eh,rfl⟩ u7 ⟨zac,sa7.tr,s7 _ _ h6,(((sa7.grs.take first).app (show Grs _ [.ref wt] (part (g.many+h.many) g.lane g.fork) from by unfold part;rw[if_neg z];exact Grs.one ((((sv.trans s1).trans s2).trans t7) _ _ zac))).app ((sa7.grs.drop (first+1)).take (second-(first+1)))).app (sa7.grs.drop (second+1)),sa7.ou⟩
end
end K21
namespace L2
open PySem PySem.Spec PyProof.Rows
section
variable {κ:Type} [DecidableEq κ]
def valV (kvs:List (κ × V)) (k:κ):Option V:=(kvs.find? fun kv=>decide (kv.1=k)).map (·.2)
def putK (kvs:List (κ × V)) (k:κ) (v:V):List (κ × V) :=
 if (kvs.any fun kv=>decide (kv.1=k))=true then kvs.map (fun kv=>if kv.1=k then (kv.1,v) else kv) else kvs++[(k,v)]
theorem zbo {p:κ × V}{r:List (κ × V)}{k:κ}(e:p.1=k):valV (p::r) k=some p.2:=by simp[valV,List.find?_cons,e]
theorem zbp {p:κ × V}{r:List (κ × V)}{k:κ}(e:¬ p.1=k):valV (p::r) k=valV r k:=by simp[valV,List.find?_cons,e]
theorem zdQ (kvs:List (κ × V)) (k:κ) (v:V):(putK kvs k v).length≤kvs.length+1:=by
 unfold putK
 split
 ·rw[List.length_map];lia
 ·rw[List.length_append,List.length_cons,List.length_nil];lia
theorem RelO.isSome_eq {o:Option V}{u:Option Value}(r:RelO o u):o.isSome=u.isSome:=by
 cases o with
 | none=>cases u with
  | none=>rfl
  | some _=>exact(show False from r).elim
 | some _=>cases u with
  | none=>exact(show False from r).elim
  | some _=>rfl
theorem RelO.getD {o:Option V}{u:Option Value}{d:V}{d':Value}(r:RelO o u) (rd:RelV d d'):RelV (o.getD d) (u.getD d'):=by
 cases o with
 | none=>cases u with
  | none=>exact rd
  | some _=>exact(show False from r).elim
 | some _=>cases u with
  | none=>exact(show False from r).elim
  | some _=>exact r
theorem KV.val {kvs:List (κ × V)}{vs:List (κ × Value)}(r:KV kvs vs) (k:κ):RelO (valV kvs k) (valueAt vs k):=by
 unfold KV at r
 induction r with
 | nil=>exact True.intro
 | @cons p q ps qs h t ih =>
  obtain⟨h1,h2⟩:=h
  by_cases e:p.1=k
  ·have e':q.1=k:=h1.symm.trans e
   have b:valueAt (q::qs) k=some q.2:=by simp[valueAt,List.find?_cons,e']
   rw[zbo e,b];exact h2
  ·have e':¬ q.1=k:=fun z=>e (h1.trans z)
   have b:valueAt (q::qs) k=valueAt qs k:=by simp[valueAt,List.find?_cons,e']
   rw[zbp e,b];exact ih
theorem KV.any {kvs:List (κ × V)}{vs:List (κ × Value)}(r:KV kvs vs) (k:κ):(kvs.any fun kv=>decide (kv.1=k))=vs.any fun kv=>decide (kv.1=k):=by
 unfold KV at r
 induction r with
 | nil=>rfl
 | cons h t ih=>rw[List.any_cons,List.any_cons,ih,h.1]
theorem KV.repl {kvs:List (κ × V)}{vs:List (κ × Value)}(r:KV kvs vs) (k:κ) {y:V}{u:Value}(ry:RelV y u) :
  KV (kvs.map fun kv=>if kv.1=k then (kv.1,y) else kv) (vs.map fun kv=>if kv.1=k then (kv.1,u) else kv):=by
 unfold KV at r ⊢
 induction r with
 | nil=>exact .nil
 | @cons p q ps qs h t ih =>
  rw[List.map_cons,List.map_cons]
  refine .cons ?_ ih
  obtain⟨h1,h2⟩:=h
  by_cases e:p.1=k
  ·rw[if_pos e,if_pos (h1.symm.trans e)];exact⟨h1,ry⟩
  ·rw[if_neg e,if_neg (fun z=>e (h1.trans z))];exact⟨h1,h2⟩
theorem KV.put {kvs:List (κ × V)}{vs:List (κ × Value)}(r:KV kvs vs) (k:κ) {y:V}{u:Value}(ry:RelV y u):KV (putK kvs k y) (stored vs k u):=by
 unfold putK stored
 rw[r.any k]
 by_cases e:(vs.any fun kv=>decide (kv.1=k))=true
 ·rw[if_pos e,if_pos e];exact r.repl k ry
 ·rw[if_neg e,if_neg e];exact Paired.snoc r ⟨rfl,ry⟩
end
theorem zir {P:Program}{w:World}{k:Key}{u:Value}(r:RelV (kV k) u):(zaE P w).is k u=true:=by
 cases k with
 | inl i=>obtain⟨t,e⟩:=(show ∃ t,u=Value.int i t from r);subst e;exact zdN P w i t
 | inr x=>obtain⟨t,e⟩:=(show ∃ t,u=Value.str x t from r);subst e;exact zdM P w x t
theorem zdf {P:Program}{w:World}:∀ {ks:List Key}{us:List Value},Vals (ks.map kV) us→ItemsAre (zaE P w) ks us
 | [],_,r=>by rw[List.map_nil]at r;cases r;exact .nil
 | k::ks,_,r=>by
  rw[List.map_cons]at r
  cases r with
  | cons h t=>exact .cons (zir h) (zdf t)
abbrev KT (H:Hp):List (List Key × V)→List (List Key × Addr × Value)→Prop:=Paired fun p q=>p.1=q.1∧H q.2.1=some (.tup (p.1.map kV))∧RelV p.2 q.2.2
theorem KT.val {H:Hp}{kvs:List (List Key × V)}{xs:List (List Key × Addr × Value)}(r:KT H kvs xs) (k:List Key):RelO (valV kvs k) ((atKey xs k).map (·.2)):=by
 induction r with
 | nil=>exact True.intro
 | @cons p q ps qs h t ih =>
  obtain⟨h1,_,h2⟩:=h
  by_cases e:p.1=k
  ·have e':q.1=k:=h1.symm.trans e
   have b:atKey (q::qs) k=some q.2:=by simp[atKey,List.find?_cons,e']
   rw[zbo e,b];exact h2
  ·have e':¬ q.1=k:=fun z=>e (h1.trans z)
   have b:atKey (q::qs) k=atKey qs k:=by simp[atKey,List.find?_cons,e']
   rw[zbp e,b];exact ih
section
variable {P:Program}{w:World}{H:Hp}{h:Heap}{a:Addr}
theorem zgo {u:HO}(ok:HOk P w H h) (e:Rd H a u):ObjOk P w H h a u:=e.ok ok
theorem ziB {kvs:List (Key × V)}(ok:HOk P w H h) (e:Rd H a (.dK kvs)):kvs.length≤sizeLine∧(a == sysModules)=false∧∃ vs,KV kvs vs∧h.DictOf (zaE P w) a vs :=
 show ObjOk P w H h a (.dK kvs) from zgo ok e
theorem zj6 {kvs:List (Key × V)}(ok:HOk P w H h) (e:H a=some (.dK kvs)):kvs.length≤sizeLine∧(a == sysModules)=false∧∃ vs,KV kvs vs∧h.DictOf (zaE P w) a vs:=ziB ok (.inl e)
theorem zfF {ks:List Key}(ok:HOk P w H h) (e:H a=some (.tup (ks.map kV))):(tupleKind (zaE P w)).is h ks a:=by
 obtain⟨_,its,r,o,h1,h2,n,h3⟩:=(show ObjOk P w H h a (.tup (ks.map kV)) from ok a _ e)
 exact⟨o,its.toArray,n,h1,h2,h3.1,by simpa using zdf r⟩
theorem zjr {kvs:List (List Key × V)}(ok:HOk P w H h) (e:Rd H a (.dT kvs)):kvs.length≤sizeLine∧(a == sysModules)=false ∧
  ∃ xs,KT H kvs xs∧h.DictOfH (tupleKind (zaE P w)) a xs:=by
 obtain⟨z,y,xs,r,o,es,ep,h1,h2,h3,h4,h5⟩:=(show ObjOk P w H h a (.dT kvs) from zgo ok e)
 refine⟨z,y,xs,r,o,es,ep,h1,h2,h3,h4,fun x hx=>?_,h5⟩
 have all:∀ {l:List (List Key × V)}{m:List (List Key × Addr × Value)},KT H l m→∀ x∈m,(tupleKind (zaE P w)).is h x.1 x.2.1:=by
  intro l m q
  induction q with
  | nil=>intro x hx;exact nomatch hx
  | @cons p q ps qs hq t ih =>
   intro x hx
   rcases List.mem_cons.mp hx with e|hx
   ·subst e
    exact zfF ok (by rw[← hq.1];exact hq.2.1)
   ·exact ih x hx
 exact all r x hx
end
def DGet (H:Hp) (a:Addr) (y:V) (r:Option V):Prop :=
 (∃ kvs k,Rd H a (.dK kvs)∧y=kV k∧r=valV kvs k)∨∃ kvs k b,Rd H a (.dT kvs)∧y=.ref b∧H b=some (.tup (k.map kV))∧r=valV kvs k
theorem DGet.k {H:Hp}{a:Addr}{kvs:List (Key × V)}{k:Key}(e:H a=some (.dK kvs)):DGet H a (kV k) (valV kvs k):=.inl ⟨kvs,k,.inl e,rfl,rfl⟩
section
variable {X:Cx}{pins:List (Addr × Obj)}{σ:St}{H:Hp}{s:Shared}{a:Addr}{y v:V}{u r:Value}{o:Option V}{A:Around}{E:Value→Shared→Prop}
theorem zf1 {Q:Value→Shared→Prop}(hu:A.units+1<cLine) (I:Inv X pins σ H s) (g:DGet H a y (some v)) (ry:RelV y u) (h:∀ w' s',Inv X pins σ H s'→RelV v w'→Q w' s') :
  wpAny (model X.prog X.w) A (getItem (.ref a) u) Q E s:=by
 rcases g with ⟨kvs,k,e,ey,l⟩|⟨kvs,k,b,e,ey,eb,l⟩
 ·subst ey
  obtain⟨z,hd,vs,rel,dd⟩:=ziB I.hok e
  obtain⟨w',hw,rw'⟩:=RelO.some_of (v:=v) (o:=valueAt vs k) (by rw[l];exact rel.val k)
  exact wpAny_getItem_of (zir ry) dd.mapOf hw (h w' _ (I.tok _) rw')
 ·subst ey
  cases (show u=Value.ref b from ry)
  obtain⟨z,hd,xs,rel,dd⟩:=zjr I.hok e
  obtain⟨w',hw,rw'⟩:=RelO.some_of (v:=v) (o:=(atKey xs k).map (·.2)) (by rw[l];exact rel.val k)
  obtain⟨p,hp,hp2⟩:=Option.map_eq_some_iff.mp hw
  refine wpAny_getItem_heap (tupleKind_room_in1 hu) (zfF I.hok eb) dd hp ?_
  rw[hp2]
  exact h w' _ (I.tok _) rw'
theorem zf0 {h':Heap}{t':Nat}{ob:HO}(I:Inv X pins σ H s) (mu:Mut (H a)) (hs:Heap.SameBut a s.heap h') (he:∃ q,h'.get? a=some q) (new:ObjOk X.prog X.w (upd H a ob) h' a ob) :
  Inv X pins σ (upd H a ob) { s with heap:=h',toks:=t' } :=
 I.write (x:=a) (e:=a) mu (.inl rfl) (fun b q hb z=>(hs.2 b hb).trans z) he new
theorem dk_new {P:Program}{w:World}{H':Hp}{h':Heap}{kvs:List (Key × V)}{vs:List (Key × Value)}(z:kvs.length≤sizeLine) (hd:(a == sysModules)=false) (rel:KV kvs vs) (dd:h'.DictOf (zaE P w) a vs) :
  ObjOk P w H' h' a (.dK kvs):=⟨z,hd,vs,rel,dd⟩
end
section
variable {X:Cx}{pins:List (Addr × Obj)}{σ:St}{H:Hp}{s:Shared}{a:Addr}{kvs:List (Key × V)}{k:Key}{u:Value}{A:Around}{E:Value→Shared→Prop}
end
def NoSl (i:Expr):Prop:=∀ ov iv,subscripted i false ov iv=operate [ov,iv] (getItem ov iv)
theorem zeK {prog:Program}{w:World}{A:Around}{E:Value→Shared→Prop}{s:Shared}{env:Env}{value slice:Expr}{pos:Pos}{T id:String}{Q:Value→Shared→Prop}
  (hl:typeLookup (.type T) "__getitem__" = pure (some (.builtin id))) (hs:NoSl slice)
  (h:wpAny (model prog w) A (eval value env) (fun o s₁=>wpAny (model prog w) A (eval slice env) (fun i s₂=>s₂.TypeIs o T∧wpAny (model prog w) A (getItem o i) Q E s₂) E s₁) E s) :
  wpAny (model prog w) A (eval (.Subscript value slice pos) env) Q E s:=by
 refine Subscript_ (wpAny_mono h (fun o s₁ h₁=>wpAny_mono h₁ (fun i s₂ h₂=>?_) fun _ _ x=>x) fun _ _ x=>x)
 obtain⟨hT,h₂⟩:=h₂
 unfold subscriptTail
 refine wpAny_bind ?_
 rw[getitemInPython_of_ne hT.not_modules]
 refine wpAny_bind (wpAny_specialOf hT hl ?_)
 have fin:wpAny (model prog w) A (subscripted slice false o i) (fun r s₃=>wpAny (model prog w) A (letTemporaryGo value o r >>= fun _=>pure r) Q E s₃) E s₂:=by
  rw[hs o i]
  exact wpAny_operating (wpAny_mono h₂ (fun r s₃ h₃=>wpAny_bind (wpAny_letTemporaryGo (wpAny_pure h₃))) fun _ _ x=>x)
 first
  | exact wpAny_pure (wpAny_bind fin)
  | exact wpAny_bind (wpAny_pure (wpAny_bind fin))
  | exact wpAny_bind fin
theorem zdX {X:Cx}{pins:List (Addr × Obj)}{σ:St}{H:Hp}{s:Shared}{a:Addr}{y:V}{o:Option V}(I:Inv X pins σ H s) (g:DGet H a y o):s.TypeIs (.ref a) "dict":=by
 rcases g with ⟨kvs,k,e,_,_⟩|⟨kvs,k,b,e,_,_,_⟩
 ·obtain⟨_,_,vs,_,dd⟩:=ziB I.hok e
  exact dd.typeIs
 ·obtain⟨_,_,xs,_,dd⟩:=zjr I.hok e
  exact dd.typeIs
def zjG (td ty:TE):TE:=fun σ H Q=>td σ H fun x H1=>ty σ H1 fun y H2=>∃ a v,x=.ref a∧DGet H2 a y (some v)∧Q v H2
section
variable {X:Cx}{o i e value:Expr}{pos pos' tpos:Pos}{td ty tv:TE}
theorem zaN (hu:X.A.units+1<cLine) (ho:PE X o td) (hi:PE X i ty) (hs:NoSl i):PE X (.Subscript o i pos) (zjG td ty):=by
 intro pins s σ H Q I h
 refine zeK PySem.F.slot_dict_getitem.lookup hs (thn (ho pins s σ H _ I h) fun u s1 ⟨x,H1,I1,rx,q1⟩=>thn (hi pins s1 σ H1 _ I1 q1) fun iv s2 ⟨y,H2,I2,ry,a,v,ex,g,q2⟩=>?_)
 subst ex
 obtain rfl:u=Value.ref a:=rx
 exact⟨zdX I2 g,zf1 hu I2 g ry fun w' s3 I3 rw'=>⟨v,H2,I3,rw',q2⟩⟩
end
section
variable {X:Cx}{pos:Pos}
end
def zeJ:List (TE × TE)→St→Hp→(List (V × V)→Hp→Prop)→Prop
 | [],_,H,Q=>Q [] H
 | (tk,tv)::r,σ,H,Q=>tk σ H fun x H1=>tv σ H1 fun y H2=>zeJ r σ H2 fun ps H3=>Q ((x,y)::ps) H3
abbrev VV:List (V × V)→List (Value × Value)→Prop:=Paired fun p q=>RelV p.1 q.1∧RelV p.2 q.2
def PPs (X:Cx) (pos:Pos) (keys:List (Option Expr)) (values:List Expr) (trs:List (TE × TE)):Prop :=
 ∀ (pins:List (Addr × Obj)) (s:Shared) (σ:St) (H:Hp) (Q:List (V × V)→Hp→Prop),Inv X pins σ H s→zeJ trs σ H Q →
  wpAny (model X.prog X.w) X.A (evalPairs (pairTrees keys values X.env pos)) (fun vs s'=>∃ ps H',Inv X pins σ H' s'∧VV ps vs∧Q ps H') X.xe s
theorem zhW {X:Cx}{pos:Pos}:PPs X pos [] [] []:=fun pins s σ H Q I h=>pairTrees_nil_walk ⟨[],H,I,.nil,h⟩
theorem zcF {X:Cx}{pos:Pos}{k v:Expr}{ks:List (Option Expr)}{vs:List Expr}{tk tv:TE}{trs:List (TE × TE)}(hk:PE X k tk) (hv:PE X v tv) (hr:PPs X pos ks vs trs) :
  PPs X pos (some k::ks) (v::vs) ((tk,tv)::trs):=fun pins s σ H Q I h =>
 pairTrees_cons_walk (thn (hk pins s σ H _ I h) fun u s1 ⟨x,H1,I1,rx,q1⟩=>thn (hv pins s1 σ H1 _ I1 q1) fun w2 s2 ⟨y,H2,I2,ry,q2⟩ =>
  thn (hr pins s2 σ H2 _ I2 q2) fun ws s3 ⟨ps,H3,I3,rel,q3⟩=>⟨(x,y)::ps,H3,I3,.cons ⟨rx,ry⟩ rel,q3⟩)
def zcg (kvs more:List (Key × V)):List (Key × V):=more.foldl (fun acc kv=>putK acc kv.1 kv.2) kvs
theorem KV.merge:∀ {more:List (Key × V)}{rs:List (Key × Value)}{kvs:List (Key × V)}{vs:List (Key × Value)},KV more rs→KV kvs vs→KV (zcg kvs more) (merged vs rs):=by
 intro more rs kvs vs r
 unfold KV at r
 induction r generalizing kvs vs with
 | nil=>intro q;exact q
 | @cons p q ps qs h t ih =>
  intro r0
  have e:KV (putK kvs p.1 p.2) (stored vs q.1 q.2):=by
   have:=r0.put p.1 h.2
   rw[← h.1];exact this
  exact ih e
theorem zby:∀ (more kvs:List (Key × V)),(zcg kvs more).length≤kvs.length+more.length
 | [],kvs=>by show kvs.length≤kvs.length+0;lia
 | p::r,kvs=>by
  have h1:=zby r (putK kvs p.1 p.2)
  have h2:=zdQ kvs p.1 p.2
  show (zcg (putK kvs p.1 p.2) r).length≤_
  rw[List.length_cons];lia
theorem zcn {P:Program}{w:World}:∀ {kvs:List (Key × V)}{ws:List (Value × Value)},VV (kvs.map fun kv=>(kV kv.1,kv.2)) ws→∃ rs,Carries (zaE P w) ws rs∧KV kvs rs
 | [],_,r=>by rw[List.map_nil]at r;cases r;exact⟨[],True.intro,.nil⟩
 | p::kvs,_,r=>by
  rw[List.map_cons]at r
  cases r with
  | @cons a b as bs h t =>
   obtain⟨rs,c,q⟩:=zcn (P:=P) (w:=w) t
   obtain⟨b1,b2⟩:=b
   exact⟨(p.1,b2)::rs,⟨zir h.1,rfl,c⟩,.cons ⟨rfl,h.2⟩ q⟩
def zjF (trs:List (TE × TE)):TE:=fun σ H Q=>∀ p,H p=none→zeJ trs σ (upd H p (.dK [])) fun ps H2=>H2 p=some (.dK [])∧∃ kvs:List (Key × V),ps=kvs.map (fun kv=>(kV kv.1,kv.2))∧kvs.length≤15∧Q (.ref p) (upd H2 p (.dK (zcg [] kvs)))
theorem zh0 {X:Cx}{pos:Pos}{keys:List (Option Expr)}{values:List Expr}{trs:List (TE × TE)}(h:PPs X pos keys values trs) (hall:keys.all (·.isSome)=true) (hl:keys.length=values.length) (h0:keys≠[])
  (h15:keys.length≤15):PE X (.Dict keys values pos) (zjF trs):=by
 intro pins s σ H Q I q
 have hn:=I.hok.fresh (Nat.le_refl s.heap.objs.size)
 have I1:=I.laid (a:=s.heap.objs.size) (o:=.dK []) (h':=s.heap.push { cls:=.type "dict",data:=.dict #[] }) (t':=s.toks) (fun _ _ q=>Heap.get?_push_of_some _ q) (Nat.le_refl _) (zg8 s.heap I.big)
 refine wpAny_Dict_walk (knd:=zaE X.prog X.w) hall hl h0 h15 (thn (h pins _ σ _ _ I1 (q _ hn)) fun ws s2 ⟨ps,H2,I2,rel,e,kvs,ep,lk,q2⟩=>?_)
 subst ep
 obtain⟨rs,c,rk⟩:=zcn (P:=X.prog) (w:=X.w) rel
 obtain⟨z,hd,vs0,r0,dd⟩:=zj6 I2.hok e
 cases r0
 refine⟨rs,c,dd,fun h' dd' hs=>⟨.ref s.heap.objs.size,_,?_,rfl,q2⟩⟩
 have hz:(zcg [] kvs).length≤sizeLine:=by
  have h1:=zby kvs []
  rw[List.length_nil]at h1
  rw[sizeLine_eq];lia
 have he:∃ q,h'.get? s.heap.objs.size=some q:=let ⟨q,_,_,hq,_⟩:=dd';⟨q,hq⟩
 exact zf0 I2 (by rw[e];exact True.intro) hs he (dk_new hz hd (rk.merge .nil) dd')
structure M2 (X:Cx) (o:Expr) (m:Str) (apos:Pos) (e f:Expr) (cpos:Pos):Prop where
 base:attributeBase o m X.env (eval o X.env)=eval o X.env
 few:((backTo cpos (starEach [e,f] X.env)).all (fun x=>!x.1) && (backToKw cpos (keywordEach [] X.env)).all (fun x=>x.1.isSome)
  && decide (([e,f]:List Expr).length+([]:List Keyword).length+(if ([]:List Keyword).isEmpty then 0 else 1)<30))=true
 line:(apos.endLine == cpos.line)=true
 trees:backTo cpos (starEach [e,f] X.env)=[(false,eval e X.env),(false,eval f X.env)]
section
variable {X:Cx}{pins:List (Addr × Obj)}{σ:St}{H:Hp}{s:Shared}{a:Addr}{y d:V}{u r:Value}{o:Option V}{A:Around}{E:Value→Shared→Prop}
end
section
variable {X:Cx}{o e f:Expr}{apos cpos:Pos}{td ty tx:TE}
end
section
variable {X:Cx}{pins:List (Addr × Obj)}{σ:St}{H:Hp}{s:Shared}{a:Addr}{kvs:List (Key × V)}{A:Around}{E:Value→Shared→Prop}
end
section
variable {X:Cx}{pins:List (Addr × Obj)}{σ:St}{H:Hp}{s:Shared}{a:Addr}{y:V}{u:Value}{A:Around}{E:Value→Shared→Prop}
end
end L2
namespace Bn
open PySem L2 Own
end Bn
namespace L2
open PySem PySem.Spec PyProof.Rows Own
section
variable {X:Cx}
end
theorem zeh {K:PySem.W.Frag}{b:Bool}{a:Addr}{xs:List V}{g:TG}{tt:TT}{te:TE}{l:Addr}{σ:St}{H:Hp}{Q:VK}(Pv:Nat→List V→St→Hp→Prop) (h0:Pv 0 [] σ H) (hl:∀ i acc σ H,Pv i acc σ H→H l=some (.lst acc)∧SqB b K H a xs)
  (hs:∀ (i:Nat) acc σ H x T,xs[i]?=some x→H T=none→Pv i acc σ H→g (.ref T) σ (upd H T (.tup [.int i,x])) fun σ3 H3=>tt σ3 H3 fun b H4=>if b=true then te σ3 H4 fun z H5=>H5 l=some (.lst acc)∧acc.length<sizeLine∧Nx xs.length i (Pv (i+1) (acc++[z]) σ3 (upd H5 l (.lst (acc++[z])))) else Nx xs.length i (Pv (i+1) acc σ3 H4))
  (hd:∀ acc σ H,Pv xs.length acc σ H→Q (.ref l) H):∃ W:Nat→Nat→List V→St→Hp→Prop,(∃ m,W 0 m [] σ H)∧LCW (Ite K b a) g tt te l Q W:=by
 refine⟨fun i m acc σ H=>m=xs.length-i∧i≤xs.length∧Pv i acc σ H,⟨_,rfl,Nat.zero_le _,h0⟩,?_⟩
 rintro i m acc σ H ⟨rfl,hi,p⟩
 obtain⟨q0,q1⟩:=hl i acc σ H p
 refine⟨q0,?_⟩
 by_cases hlt:i<xs.length
 ·refine .inr ⟨⟨xs,_,q1,List.getElem?_eq_getElem hlt⟩,fun v H2 ⟨y,ey,T,hT,e1,e2⟩=>?_⟩
  subst e1 e2
  exact hs i acc σ H y T (ey xs q1) hT p
 ·obtain rfl:i=xs.length:=by lia
  exact .inl ⟨⟨xs,q1,rfl⟩,hd acc σ H p⟩
end L2
namespace Bn
open PySem L2 Own
def nm (ns:List Nat) (i:Nat):Nat:=ns.getD i 0
section
variable {ns:List Nat}{n:Nat}(pm:ns.Perm (List.range n))
include pm
end
def Nt.again (N:Nt) (f:Nat × Nat):Nt:=⟨N.lanes,N.forks++[f],N.ends⟩
def big (x y:Int):Int:=if y > x then y else x
def ziq (st:List Int × List Int) (f:Nat × Nat):List Int × List Int :=
 ((st.1.set f.1 (1+big (st.1.getD f.1 0) (st.1.getD f.2 0))).set f.2 (1+big (st.1.getD f.1 0) (st.1.getD f.2 0)),st.2++[1+big (st.1.getD f.1 0) (st.1.getD f.2 0)])
def lay (n:Nat) (fs:List (Nat × Nat)):List Int × List Int:=fs.foldl ziq (List.replicate n 0,[])
def zjV (g f:Nat × Nat):Bool:=decide (g.1=f.1∨g.1=f.2) || decide (g.2=f.1∨g.2=f.2)
def ahead (fs:List (Nat × Nat)) (fo:List Int) (f:Nat × Nat) (i:Nat):List Int:=((List.range i).filter fun j=>zjV (fs.getD j (0,0)) f).map fun j=>fo.getD j 0
def zkb (N:Nt):List Int:=(lay N.lanes N.forks).2
abbrev Fk:=Nat × Nat
def run {σ α:Type}(step:σ→Fk→σ × α):σ→List Fk→σ × List (α × Fk)
 | s,[]=>(s,[])
 | s,f::fs=>((run step (step s f).1 fs).1,((step s f).2,f)::(run step (step s f).1 fs).2)
def rnk (x:Int × Fk):Int:=x.1*1024+x.2.1*32+x.2.2
def ins (x:Int × Fk):List (Int × Fk)→List (Int × Fk)
 | []=>[x]
 | y::l=>if rnk x≤rnk y then x::y::l else y::ins x l
end Bn
namespace Ts
open PySem PyProof.Rows
structure Cmp (prog:Program) (w:World) (A:Around) (s:Shared) (κ:SortKind) (P:Keyed→Prop) (rk:Keyed→Int):Prop where
 ask:∀ (x y:Keyed),P x→P y→∀ {Q:Bool→Shared→Prop}{E:Value→Shared→Prop},Q (decide (rk x<rk y)) s→wpAny (model prog w) A (keyLt' κ x.1 y.1) Q E s
def R (rk:Keyed→Int) (xs:Array Keyed) (i:Nat):Int:=match xs[i]? with
 | some p=>rk p
 | none=>0
theorem R_congr {rk:Keyed→Int}{xs ys:Array Keyed}{i j:Nat}(h:xs[i]?=ys[j]?):R rk xs i=R rk ys j:=by unfold R;rw[h]
def Up (rk:Keyed→Int) (xs:Array Keyed) (lo n:Nat):Prop:=∀ i j,lo≤i→i≤j→j<lo+n→R rk xs i≤R rk xs j
def Dn (rk:Keyed→Int) (xs:Array Keyed) (lo n:Nat):Prop:=∀ i j,lo≤i→i≤j→j<lo+n→R rk xs j≤R rk xs i
structure Bs (κ:SortKind) (P:Keyed→Prop) (a₀:Array Keyed) (st:SortSt):Prop where
 kind:kindOf st=κ
 fail:failedOf st=none
 perm:(arrOf st).Perm a₀
 all:∀ p∈a₀.toList,P p
theorem Bs.size {κ:SortKind}{P:Keyed→Prop}{a₀:Array Keyed}{st:SortSt}(h:Bs κ P a₀ st):(arrOf st).size=a₀.size:=h.perm.size_eq
theorem Bs.at {κ:SortKind}{P:Keyed→Prop}{a₀:Array Keyed}{st:SortSt}(h:Bs κ P a₀ st) {i:Nat}(hi:i<a₀.size) (rk:Keyed→Int):∃ p,(arrOf st)[i]?=some p∧P p∧R rk (arrOf st) i=rk p:=by
 have e:(arrOf st)[i]?=some ((arrOf st)[i]'(by rw[h.size];exact hi)):=getElem?_pos (arrOf st) i (by rw[h.size];exact hi)
 refine⟨_,e,h.all _ ((Array.perm_iff_toList_perm.mp h.perm).mem_iff.mp (by simp)),?_⟩
 unfold R;rw[e]
theorem Bs.arr {κ:SortKind}{P:Keyed→Prop}{a₀:Array Keyed}{st:SortSt}(h:Bs κ P a₀ st) {xs:Array Keyed}(hp:xs.Perm (arrOf st)):Bs κ P a₀ (setArr st xs):=⟨h.kind,h.fail,hp.trans h.perm,h.all⟩
section
variable {prog:Program}{w:World}{A:Around}{E:Value→Shared→Prop}{s:Shared}{κ:SortKind}{P:Keyed→Prop}{rk:Keyed→Int}{a₀:Array Keyed}
theorem zfz (C:Cmp prog w A s κ P rk) {st:SortSt}{x y:Keyed}{Q:Option Bool→SortSt→Prop}(hk:kindOf st=κ) (px:P x) (py:P y) (h:Q (some (decide (rk x<rk y))) st):wpS (model prog w) A E s (lt' x y) Q st:=by
 rw[lt'_eq]
 refine wpS_bind (wpS_get (wpS_bind (wpS_lift (wpAny_attempt ?_))))
 rw[hk]
 exact C.ask x y px py ⟨rfl,wpS_pure h⟩
theorem zbz {r:String}{st:SortSt}{Q:Unit→SortSt→Prop}(h:Q () st):wpS (model prog w) A E s (liftM (rule r):StateT SortSt Sem Unit) Q st:=wpS_lift (wpAny_rule ⟨rfl,h⟩)
theorem zan {st:SortSt}{arr:Array Keyed}{i:Nat}{p:Keyed}{Q:Keyed→SortSt→Prop}(e:arr[i]?=some p) (h:Q p st):wpS (model prog w) A E s (elem' arr i) Q st:=by
 rw[elem'_eq,e];exact wpS_pure h
theorem zfA (C:Cmp prog w A s κ P rk) {st:SortSt}{i j:Nat}{Q:Option Bool→SortSt→Prop}(hB:Bs κ P a₀ st) (hi:i<a₀.size) (hj:j<a₀.size) (h:Q (some (decide (R rk (arrOf st) i<R rk (arrOf st) j))) st):wpS (model prog w) A E s (ltAt' i j) Q st:=by
 obtain⟨p,e1,pp,r1⟩:=hB.at hi rk
 obtain⟨q,e2,pq,r2⟩:=hB.at hj rk
 rw[r1,r2]at h
 rw[ltAt'_eq]
 exact wpS_bind (wpS_get (wpS_bind (zan e1 (wpS_bind (zan e2 (zfz C hB.kind pp pq h))))))
structure Keep (κ:SortKind) (P:Keyed→Prop) (rk:Keyed→Int) (a₀:Array Keyed) (lo:Nat) (st st':SortSt):Prop where
 b:Bs κ P a₀ st'
 pend:pendingOf st'=pendingOf st
 low:∀ k,k<lo→R rk (arrOf st') k=R rk (arrOf st) k
theorem Keep.refl {lo:Nat}{st:SortSt}(h:Bs κ P a₀ st):Keep κ P rk a₀ lo st st:=⟨h,rfl,fun _ _=>rfl⟩
theorem Keep.trans {lo:Nat}{st st1 st2:SortSt}(h:Keep κ P rk a₀ lo st st1) (g:Keep κ P rk a₀ lo st1 st2):Keep κ P rk a₀ lo st st2:=⟨g.b,g.pend.trans h.pend,fun k hk=>(g.low k hk).trans (h.low k hk)⟩
theorem R_mirror {xs:Array Keyed}{i j:Nat}(hj:j≤xs.size) (k:Nat):R rk (mirror xs i j ((j-i) / 2)) k=if i≤k∧k<j then R rk xs (i+j-1-k) else R rk xs k:=by
 have e:=getElem?_mirror_all (xs:=xs) (i:=i) hj k
 split at e
 ·next h=>rw[if_pos h];exact R_congr e
 ·next h=>rw[if_neg h];exact R_congr e
theorem zd7 {lo i j:Nat}{st:SortSt}{Q:Unit→SortSt→Prop}(hB:Bs κ P a₀ st) (hl:lo≤i) (hj:j≤a₀.size)
  (h:∀ st',Keep κ P rk a₀ lo st st'→(∀ k,R rk (arrOf st') k=if i≤k∧k<j then R rk (arrOf st) (i+j-1-k) else R rk (arrOf st) k)→Q () st'):wpS (model prog w) A E s (reverseSlice' i j) Q st:=by
 rw[reverseSlice'_eq]
 refine wpS_modify (h _ ⟨hB.arr (mirror_perm _ _ _ _),rfl,fun k hk=>?_⟩ fun k=>?_)
 ·show R rk (mirror (arrOf st) i j ((j-i) / 2)) k=_
  rw[R_mirror (by rw[hB.size];exact hj),if_neg (by lia)]
 ·exact R_mirror (by rw[hB.size];exact hj) k
theorem zg9 (C:Cmp prog w A s κ P rk) {st:SortSt}{lo nrem:Nat}{Q:Option Nat→SortSt→Prop}(hB:Bs κ P a₀ st) (h1:1≤nrem) (hn:lo+nrem≤a₀.size)
  (h:∀ st' m,Keep κ P rk a₀ lo st st'→1≤m→m≤nrem→Up rk (arrOf st') lo m→Q (some m) st'):wpS (model prog w) A E s (countRun' lo nrem) Q st:=by
 have asc:∀ (st:SortSt) (n0:Nat) {Q':Option (Option Nat) × Nat→SortSt→Prop},Bs κ P a₀ st→1≤n0→Up rk (arrOf st) lo n0 →
   (∀ n,n0≤n→n≤max n0 nrem→Up rk (arrOf st) lo n→(n<nrem→R rk (arrOf st) (lo+n)<R rk (arrOf st) (lo+n-1))→Q' (none,n) st)→
   ∀ f:Nat→Option (Option Nat) × Nat→StateT SortSt Sem (ForInStep (Option (Option Nat) × Nat)),(∀ i n,f i (none,n)=(do
    let some smaller ← ltAt' (lo+n) (lo+n-1)|pure (.done (some none,n))
    if smaller then pure (.done (none,n)) else pure (.yield (none,n+1))))→wpS (model prog w) A E s (forIn [n0:nrem] (none,n0) f) Q' st:=by
  intro st n0 Q' hB h0 hu hq f hf
  refine wpS_forRange (I:=fun i c st'=>st'=st∧c=(none,i)∧n0≤i∧Up rk (arrOf st) lo i) ?_ ?_ ⟨rfl,rfl,Nat.le_refl _,hu⟩
  ·rintro i c st' hi hi2 ⟨rfl,rfl,h3,hu'⟩
   rw[hf]
   refine wpS_bind (zfA C hB (by lia) (by lia) ?_)
   by_cases z:R rk (arrOf st') (lo+i)<R rk (arrOf st') (lo+i-1)
   ·rw[decide_eq_true z]
    exact wpS_pure (hq i h3 (by lia) hu' fun _=>z)
   ·rw[decide_eq_false z]
    refine wpS_pure ⟨rfl,rfl,by lia,fun a b ha hab hb=>?_⟩
    by_cases q:b<lo+i
    ·exact hu' a b ha hab q
    ·obtain rfl:b=lo+i:=by lia
     by_cases q2:a=lo+i
     ·rw[q2];exact Int.le_refl _
     ·have:=hu' a (lo+i-1) ha (by lia) (by lia)
      lia
  ·rintro c st' ⟨rfl,rfl,h3,hu'⟩
   exact hq _ h3 (Nat.le_refl _) hu' fun q=>by lia
 rw[countRun'_eq]
 refine wpS_bind (asc st 1 hB (Nat.le_refl _) (fun a b h1 h2 h3=>by rw[show a=b by lia];exact Int.le_refl _) (fun n n1 n2 hu hs=>?_) _ (fun i n=>rfl))
 dsimp only
 by_cases z:n=nrem
 ·subst z
  rw[if_pos (beq_self_eq_true _)]
  exact wpS_pure (h _ _ (Keep.refl hB) n1 (Nat.le_refl _) hu)
 rw[if_neg (by simpa using z)]
 have nl:n<nrem:=by lia
 have hs:=hs nl
 generalize hT:(bind (liftM (rule "list.sort.descending-run")) _:StateT SortSt Sem (Option Nat))=T
 have tail:∀ st1,Keep κ P rk a₀ lo st st1→Dn rk (arrOf st1) lo n→R rk (arrOf st1) (lo+n)<R rk (arrOf st1) (lo+n-1)→wpS (model prog w) A E s T Q st1:=by
  intro st1 K1 d1 l1
  rw[← hT]
  refine wpS_bind (zbz ?_)
  have last:∀ st2 m,Keep κ P rk a₀ lo st st2→1≤m→m≤nrem→Dn rk (arrOf st2) lo m→∀ st3,Keep κ P rk a₀ lo st2 st3→(∀ k,R rk (arrOf st3) k=if lo≤k∧k<lo+m then R rk (arrOf st2) (lo+(lo+m)-1-k) else R rk (arrOf st2) k)→Up rk (arrOf st3) lo m:=by
   intro st2 m K2 m1 m2 d2 st3 K3 r3 a b ha hab hb
   rw[r3,r3,if_pos ⟨by lia,by lia⟩,if_pos ⟨by lia,by lia⟩]
   exact d2 _ _ (by lia) (by lia) (by lia)
  refine wpS_bind (wpS_mono (wpS_forRange (I:=fun i c st2=>∃ m q,c=(none,m,q)∧m=i∧q+1≤m∧Keep κ P rk a₀ lo st st2∧(i≤nrem→Dn rk (arrOf st2) lo m∧∀ k,lo+m-(q+1)≤k→k<lo+m→R rk (arrOf st2) k=R rk (arrOf st2) (lo+m-1)))
   (Q:=fun c st2=>∃ m q,c=(none,m,q)∧1≤m∧m≤nrem∧q+1≤m∧Keep κ P rk a₀ lo st st2∧Dn rk (arrOf st2) lo m∧∀ k,lo+m-(q+1)≤k→k<lo+m→R rk (arrOf st2) k=R rk (arrOf st2) (lo+m-1)) ?step ?fin ?init) ?post)
  case init =>
   refine⟨n+1,0,rfl,rfl,by lia,K1,fun _=>⟨fun a b ha hab hb=>?_,fun k k1 k2=>by rw[show k=lo+(n+1)-1 by lia]⟩⟩
   by_cases q:b<lo+n
   ·exact d1 a b ha hab q
   ·obtain rfl:b=lo+n:=by lia
    by_cases q2:a=lo+n
    ·rw[q2];exact Int.le_refl _
    ·have:=d1 a (lo+n-1) ha (by lia) (by lia)
     lia
  case fin =>
   rintro c st2 ⟨m,q,rfl,e,hq,K2,hd⟩
   obtain⟨d2,eq2⟩:=hd (by lia)
   exact⟨m,q,rfl,by lia,by lia,hq,K2,d2,eq2⟩
  case step =>
   rintro i c st2 hi hi2 ⟨m,q,rfl,rfl,hq,K2,hd⟩
   obtain⟨d2,eq2⟩:=hd (by lia)
   dsimp only
   refine wpS_bind (zfA C K2.b (by lia) (by lia) ?_)
   have more:∀ st3,Dn rk (arrOf st3) lo m→R rk (arrOf st3) (lo+m)≤R rk (arrOf st3) (lo+m-1)→Dn rk (arrOf st3) lo (m+1):=by
    intro st3 d3 le a b ha hab hb
    by_cases q:b<lo+m
    ·exact d3 a b ha hab q
    ·obtain rfl:b=lo+m:=by lia
     by_cases q2:a=lo+m
     ·rw[q2];exact Int.le_refl _
     ·have:=d3 a (lo+m-1) ha (by lia) (by lia)
      lia
   by_cases z1:R rk (arrOf st2) (lo+m)<R rk (arrOf st2) (lo+m-1)
   ·rw[decide_eq_true z1]
    dsimp only
    rw[if_pos rfl]
    by_cases zq:q > 0
    ·rw[if_pos zq]
     refine wpS_bind (zd7 (rk:=rk) (lo:=lo) K2.b (by lia) (by lia) fun st3 K3 r3=>wpS_pure ?_)
     have same:∀ k,R rk (arrOf st3) k=R rk (arrOf st2) k:=fun k=>by
      rw[r3]
      split
      ·rw[eq2 _ (by lia) (by lia),eq2 k (by lia) (by lia)]
      ·rfl
     refine⟨m+1,0,rfl,rfl,by lia,K2.trans K3,fun _=>⟨more st3 (fun a b ha hab hb=>by rw[same,same];exact d2 a b ha hab hb) (by rw[same,same];lia),fun k k1 k2=>by rw[show k=lo+(m+1)-1 by lia]⟩⟩
    ·rw[if_neg zq]
     exact wpS_pure ⟨m+1,0,rfl,rfl,by lia,K2,fun _=>⟨more st2 d2 (by lia),fun k k1 k2=>by rw[show k=lo+(m+1)-1 by lia]⟩⟩
   ·rw[decide_eq_false z1]
    dsimp only
    rw[if_neg Bool.false_ne_true]
    refine wpS_bind (zfA C K2.b (by lia) (by lia) ?_)
    by_cases z2:R rk (arrOf st2) (lo+m-1)<R rk (arrOf st2) (lo+m)
    ·rw[decide_eq_true z2]
     dsimp only
     rw[if_pos rfl]
     exact wpS_pure ⟨m,q,rfl,by lia,by lia,hq,K2,d2,eq2⟩
    ·rw[decide_eq_false z2]
     dsimp only
     rw[if_neg Bool.false_ne_true]
     have e:R rk (arrOf st2) (lo+m)=R rk (arrOf st2) (lo+m-1):=by lia
     refine wpS_pure ⟨m+1,q+1,rfl,rfl,by lia,K2,fun _=>⟨more st2 d2 (by lia),fun k k1 k2=>?_⟩⟩
     rw[show lo+(m+1)-1=lo+m by lia]
     by_cases q3:k=lo+m
     ·rw[q3]
     ·rw[eq2 k (by lia) (by lia),e]
  case post =>
   rintro c st2 ⟨m,q,rfl,m1,m2,hq,K2,d2,eq2⟩
   dsimp only
   generalize hT2:(bind (reverseSlice' lo (lo+m)) _:StateT SortSt Sem (Option Nat))=T2
   have on:∀ st3,Keep κ P rk a₀ lo st st3→Dn rk (arrOf st3) lo m→wpS (model prog w) A E s T2 Q st3:=by
    intro st3 K3 d3
    rw[← hT2]
    refine wpS_bind (zd7 (rk:=rk) (lo:=lo) K3.b (by lia) (by lia) fun st4 K4 r4=>?_)
    refine wpS_bind (asc st4 m K4.b m1 (last st3 m K3 m1 m2 d3 st4 K4 r4) (fun n' a1 a2 hu' _=>?_) _ (fun i n=>rfl))
    exact wpS_pure (h _ _ (K3.trans K4) (by lia) (by lia) hu')
   by_cases zq:q > 0
   ·rw[if_pos zq]
    refine wpS_bind (zd7 (rk:=rk) (lo:=lo) K2.b (by lia) (by lia) fun st3 K3 r3=>?_)
    have same:∀ k,R rk (arrOf st3) k=R rk (arrOf st2) k:=fun k=>by
     rw[r3]
     split
     ·rw[eq2 _ (by lia) (by lia),eq2 k (by lia) (by lia)]
     ·rfl
    exact on st3 (K2.trans K3) (fun a b ha hab hb=>by rw[same,same];exact d2 a b ha hab hb)
   ·rw[if_neg zq]
    exact on st2 K2 d2
 by_cases z2:n > 1
 ·rw[if_pos z2]
  refine wpS_bind (zfA C hB (by lia) (by lia) ?_)
  by_cases z3:R rk (arrOf st) lo<R rk (arrOf st) (lo+n-1)
  ·rw[decide_eq_true z3]
   exact wpS_pure (h _ _ (Keep.refl hB) n1 (by lia) hu)
  ·rw[decide_eq_false z3]
   dsimp only
   rw[if_neg Bool.false_ne_true]
   refine wpS_bind (zd7 (rk:=rk) (lo:=lo) hB (by lia) (by lia) fun st1 K1 r1=>tail st1 K1 (fun a b ha hab hb=>?_) ?_)
   ·rw[r1,r1,if_pos ⟨by lia,by lia⟩,if_pos ⟨by lia,by lia⟩]
    exact hu _ _ (by lia) (by lia) (by lia)
   ·rw[r1,r1,if_neg (by lia),if_pos ⟨by lia,by lia⟩]
    have:=hu (lo+(lo+n)-1-(lo+n-1)) (lo+n-1) (by lia) (by lia) (by lia)
    have e:lo+(lo+n)-1-(lo+n-1)=lo:=by lia
    rw[e]at this ⊢
    have:=hu lo (lo+n-1) (by lia) (by lia) (by lia)
    lia
 ·rw[if_neg z2]
  exact tail st (Keep.refl hB) (fun a b ha hab hb=>by rw[show a=b by lia];exact Int.le_refl _) hs
end
section
variable {prog:Program}{w:World}{A:Around}{E:Value→Shared→Prop}{s:Shared}{κ:SortKind}{P:Keyed→Prop}{rk:Keyed→Int}{a₀:Array Keyed}
theorem R_bubble {xs:Array Keyed}{src d:Nat}(hs:src<xs.size) (hd:d≤src) (k:Nat):R rk (bubble xs src d) k=if k=src-d then R rk xs src else if src-d<k∧k≤src then R rk xs (k-1) else R rk xs k:=by
 have e:=getElem?_bubble (xs:=xs) hs d hd k
 by_cases h1:k=src-d
 ·rw[if_pos h1]at e ⊢;exact R_congr e
 ·rw[if_neg h1]at e ⊢
  by_cases h2:(src-d<k∧k≤src)
  ·rw[if_pos h2]at e ⊢;exact R_congr e
  ·rw[if_neg h2]at e ⊢;exact R_congr e
theorem zjt (C:Cmp prog w A s κ P rk) {st:SortSt}{lo n ok:Nat}{Q:Bool→SortSt→Prop}(hB:Bs κ P a₀ st) (h1:1≤ok) (hok:ok≤n) (hn:lo+n≤a₀.size) (hu:Up rk (arrOf st) lo ok)
  (h:∀ st',Keep κ P rk a₀ lo st st'→Up rk (arrOf st') lo n→Q true st'):wpS (model prog w) A E s (binarySort' lo n ok) Q st:=by
 rw[binarySort'_eq]
 rw[show max ok 1=ok by lia]
 refine wpS_bind (wpS_mono (wpS_forRange (I:=fun k c st1=>c=(none,())∧Keep κ P rk a₀ lo st st1∧Up rk (arrOf st1) lo (min k n)) (Q:=fun c st1=>c=(none,())∧Keep κ P rk a₀ lo st st1∧Up rk (arrOf st1) lo n) ?step ?fin ?init) ?post)
 case init=>exact⟨rfl,Keep.refl hB,by rwa [Nat.min_eq_left hok]⟩
 case fin =>
  rintro c st1 ⟨rfl,K1,u1⟩
  rw[show min (max ok n) n=n by lia]at u1
  exact⟨rfl,K1,u1⟩
 case post =>
  rintro c st1 ⟨rfl,K1,u1⟩
  exact wpS_pure (h st1 K1 u1)
 case step =>
  rintro k c st1 hk1 hk2 ⟨rfl,K1,u1⟩
  rw[show min k n=k by lia]at u1
  refine wpS_bind (wpS_mono (wpS_forRange (I:=fun x c st2=>st2=st1∧∃ l r,c=(none,l,r)∧l≤r∧r≤k∧r-l≤k-x∧(∀ i,lo≤i→i<lo+l→R rk (arrOf st1) i≤R rk (arrOf st1) (lo+k))∧(∀ i,lo+r≤i→i<lo+k→R rk (arrOf st1) (lo+k)≤R rk (arrOf st1) i))
   (Q:=fun c st2=>st2=st1∧∃ l r,c=(none,l,r)∧l≤k∧(∀ i,lo≤i→i<lo+l→R rk (arrOf st1) i≤R rk (arrOf st1) (lo+k))∧(∀ i,lo+l≤i→i<lo+k→R rk (arrOf st1) (lo+k)≤R rk (arrOf st1) i)) ?istep ?ifin ?iinit) ?ipost)
  case iinit=>exact⟨rfl,0,k,rfl,by lia,by lia,by lia,fun i _ _=>by lia,fun i _ _=>by lia⟩
  case ifin =>
   rintro c st2 ⟨rfl,l,r,rfl,lr,rk',m,h2,h3⟩
   obtain rfl:l=r:=by lia
   exact⟨rfl,l,l,rfl,rk',h2,h3⟩
  case istep =>
   rintro x c st2 _ hx ⟨rfl,l,r,rfl,lr,rk',m,h2,h3⟩
   dsimp only
   by_cases ge:l≥r
   ·rw[if_pos ge]
    obtain rfl:l=r:=by lia
    exact wpS_pure ⟨rfl,l,l,rfl,rk',h2,h3⟩
   ·rw[if_neg ge]
    refine wpS_bind (zfA C K1.b (by lia) (by lia) ?_)
    by_cases z:R rk (arrOf st2) (lo+k)<R rk (arrOf st2) (lo+(l+r) / 2)
    ·rw[decide_eq_true z]
     refine wpS_pure ⟨rfl,l,(l+r) / 2,rfl,by lia,by lia,by lia,h2,fun i i1 i2=>?_⟩
     have:=u1 (lo+(l+r) / 2) i (by lia) i1 (by lia)
     lia
    ·rw[decide_eq_false z]
     refine wpS_pure ⟨rfl,(l+r) / 2+1,r,rfl,by lia,by lia,by lia,fun i i1 i2=>?_,h3⟩
     have:=u1 i (lo+(l+r) / 2) i1 (by lia) (by lia)
     lia
  case ipost =>
   rintro c st2 ⟨rfl,l,r,rfl,lk,h2,h3⟩
   dsimp only
   rw[moveDown'_eq]
   have sz:=K1.b.size
   have rb:∀ j,R rk (arrOf (setArr st2 (bubble (arrOf st2) (lo+k) (lo+k-(lo+l))))) j=if j=lo+l then R rk (arrOf st2) (lo+k) else if lo+l<j∧j≤lo+k then R rk (arrOf st2) (j-1) else R rk (arrOf st2) j:=fun j=>by
    have:=R_bubble (rk:=rk) (xs:=arrOf st2) (src:=lo+k) (d:=lo+k-(lo+l)) (by rw[sz];lia) (by lia) j
    rw[show lo+k-(lo+k-(lo+l))=lo+l by lia]at this
    exact this
   refine wpS_bind (wpS_modify (wpS_pure ⟨rfl,K1.trans ⟨K1.b.arr (bubble_perm _ _ _),rfl,fun j hj=>?_⟩,fun i j hi hij hj=>?_⟩))
   ·rw[rb,if_neg (by lia),if_neg (by lia)]
   ·rw[show min (k+1) n=k+1 by lia]at hj
    rw[rb,rb]
    by_cases a1:i=lo+l
    ·rw[if_pos a1]
     by_cases b1:j=lo+l
     ·rw[if_pos b1];exact Int.le_refl _
     ·rw[if_neg b1,if_pos ⟨by lia,by lia⟩]
      exact h3 _ (by lia) (by lia)
    ·rw[if_neg a1]
     by_cases a2:lo+l<i∧i≤lo+k
     ·rw[if_pos a2,if_neg (by lia),if_pos ⟨by lia,by lia⟩]
      exact u1 _ _ (by lia) (by lia) (by lia)
     ·rw[if_neg a2]
      by_cases b1:j=lo+l
      ·rw[if_pos b1];exact h2 _ hi (by lia)
      ·rw[if_neg b1]
       by_cases b2:lo+l<j∧j≤lo+k
       ·rw[if_pos b2];exact u1 _ _ hi (by lia) (by lia)
       ·rw[if_neg b2];exact u1 _ _ hi hij (by lia)
end
def ziv:Bool→Keyed→Array Keyed→Nat→Nat→Nat→StateT SortSt Sem (Option Nat):=sortPriv% PySem.Builtin.gallop
def bd (left:Bool) (k r:Int):Bool:=if left=true then decide (r<k) else !decide (k<r)
theorem ziH {left:Bool}{k r r':Int}(h:r≤r') (b:bd left k r'=true):bd left k r=true:=by
 unfold bd at *
 cases left
 ·simp only[Bool.false_eq_true,if_false,Bool.not_eq_true',decide_eq_false_iff_not]at *;omega
 ·simp only[if_true,decide_eq_true_eq]at *;omega
section
variable {prog:Program}{w:World}{A:Around}{E:Value→Shared→Prop}{s:Shared}{κ:SortKind}{P:Keyed→Prop}{rk:Keyed→Int}{a₀:Array Keyed}
theorem zf9 (C:Cmp prog w A s κ P rk) {st:SortSt}{left:Bool}{key:Keyed}{arr:Array Keyed}{j:Nat}{Q:Option Bool→SortSt→Prop}(hk:kindOf st=κ) (pk:P key) (hat:∃ p,arr[j]?=some p∧P p) (h:Q (some (bd left (rk key) (R rk arr j))) st) :
  wpS (model prog w) A E s (elem' arr j >>= fun x=>if left=true then lt' x key else (lt' key x >>= fun r=>pure (r.map fun b=>!b))) Q st:=by
 obtain⟨p,e,pp⟩:=hat
 have r:R rk arr j=rk p:=by unfold R;rw[e]
 rw[r]at h
 refine wpS_bind (zan e ?_)
 unfold bd at h
 cases left
 ·rw[if_neg Bool.false_ne_true]at h ⊢
  exact wpS_bind (zfz C hk pk pp (wpS_pure h))
 ·rw[if_pos rfl]at h ⊢
  exact zfz C hk pp pk h
theorem za1 (C:Cmp prog w A s κ P rk) {st:SortSt}{left:Bool}{key:Keyed}{arr:Array Keyed}{base n hint:Nat}{Q:Option Nat→SortSt→Prop}(hk:kindOf st=κ) (pk:P key) (hat:∀ i,i<n→∃ p,arr[base+i]?=some p∧P p) (hu:Up rk arr base n) (hh:hint<n)
  (h:∀ k,k≤n→(∀ i,i<k→bd left (rk key) (R rk arr (base+i))=true)→(∀ i,k≤i→i<n→bd left (rk key) (R rk arr (base+i))=false)→Q (some k) st):wpS (model prog w) A E s (ziv left key arr base n hint) Q st:=by
 have dn:∀ i j,i≤j→j<n→bd left (rk key) (R rk arr (base+j))=true→bd left (rk key) (R rk arr (base+i))=true:=fun i j h1 h2 b=>ziH (hu _ _ (by omega) (by omega) (by omega)) b
 have up:∀ i j,i≤j→j<n→bd left (rk key) (R rk arr (base+i))=false→bd left (rk key) (R rk arr (base+j))=false:=fun i j h1 h2 b=>by
  cases q:bd left (rk key) (R rk arr (base+j)) with
  | false=>rfl
  | true=>rw[dn i j h1 h2 q]at b;cases b
 refine wpS_bind (zf9 C hk pk (hat hint hh) ?_)
 dsimp only
 have half:∀ (lo hi:Nat) (f:Nat→Option (Option Nat) × Nat × Nat→StateT SortSt Sem (ForInStep (Option (Option Nat) × Nat × Nat))),lo≤hi→hi≤n →
   (∀ i,i<lo→bd left (rk key) (R rk arr (base+i))=true)→(∀ i,hi≤i→i<n→bd left (rk key) (R rk arr (base+i))=false) →
   (∀ x l r (Q':ForInStep (Option (Option Nat) × Nat × Nat)→SortSt→Prop),(r≤l→Q' (.done (none,l,r)) st)→(l<r→r≤n→bd left (rk key) (R rk arr (base+(l+(r-l) / 2)))=true→Q' (.yield (none,l+(r-l) / 2+1,r)) st) →
    (l<r→r≤n→bd left (rk key) (R rk arr (base+(l+(r-l) / 2)))=false→Q' (.yield (none,l,l+(r-l) / 2)) st)→r≤n→wpS (model prog w) A E s (f x (none,l,r)) Q' st) →
   wpS (model prog w) A E s (forIn [:n] (none,lo,hi) f) (fun c st'=>st'=st∧∃ k,c=(none,k,k)∧Q (some k) st) st:=by
  intro lo hi f h1 h2 h3 h4 hf
  refine wpS_forRange (I:=fun x c st'=>st'=st∧∃ l r,c=(none,l,r)∧l≤r∧r≤n∧r-l≤n-x∧(∀ i,i<l→bd left (rk key) (R rk arr (base+i))=true)∧(∀ i,r≤i→i<n→bd left (rk key) (R rk arr (base+i))=false)) ?_ ?_ ⟨rfl,lo,hi,rfl,h1,h2,by omega,h3,h4⟩
  ·rintro x c st' _ hx ⟨rfl,l,r,rfl,lr,rn,m,a1,a2⟩
   refine hf x l r _ (fun z=>?_) (fun z1 z2 b=>?_) (fun z1 z2 b=>?_) rn
   ·obtain rfl:l=r:=by omega
    exact⟨rfl,l,rfl,h l rn a1 a2⟩
   ·exact⟨rfl,_,r,rfl,by omega,rn,by omega,fun i hi'=>dn i _ (by omega) (by omega) b,a2⟩
   ·exact⟨rfl,l,_,rfl,by omega,by omega,by omega,a1,fun i i1 i2=>up _ i i1 i2 b⟩
  ·rintro c st' ⟨rfl,l,r,rfl,lr,rn,m,a1,a2⟩
   obtain rfl:l=r:=by omega
   exact⟨rfl,l,rfl,h l rn a1 a2⟩
 cases hb:bd left (rk key) (R rk arr (base+hint)) with
 | true =>
  rw[if_pos rfl]
  refine wpS_bind (wpS_mono (wpS_forRange (I:=fun x c st'=>st'=st∧∃ l o,c=(none,l,o)∧x+1≤o∧l<o∧hint+l<n∧bd left (rk key) (R rk arr (base+(hint+l)))=true)
   (Q:=fun c st'=>st'=st∧∃ l o,c=(none,l,o)∧l<o∧hint+l<n∧bd left (rk key) (R rk arr (base+(hint+l)))=true∧(o<n-hint→bd left (rk key) (R rk arr (base+(hint+o)))=false)) ?_ ?_ ⟨rfl,0,1,rfl,by omega,by omega,by omega,hb⟩) ?_)
  ·rintro x c st' _ hx ⟨rfl,l,o,rfl,xo,lo',ln,b⟩
   dsimp only
   by_cases z:o≥n-hint
   ·rw[if_pos z]
    exact wpS_pure ⟨rfl,l,o,rfl,lo',ln,b,fun q=>by omega⟩
   ·rw[if_neg z]
    refine wpS_bind (zf9 C hk pk (hat (hint+o) (by omega)) ?_)
    cases q:bd left (rk key) (R rk arr (base+(hint+o))) with
    | true=>exact wpS_pure ⟨rfl,o,2*o+1,rfl,by omega,by omega,by omega,q⟩
    | false=>exact wpS_pure ⟨rfl,l,o,rfl,lo',ln,b,fun _=>q⟩
  ·rintro c st' ⟨rfl,l,o,rfl,xo,lo',ln,b⟩
   exact⟨rfl,l,o,rfl,lo',ln,b,fun q=>by omega⟩
  ·rintro c st' ⟨rfl,l,o,rfl,lo',ln,b,nb⟩
   dsimp only
   refine wpS_bind (wpS_mono (half _ _ _ (by omega) (by omega) (fun i hi'=>dn i _ (by omega) ln b) (fun i i1 i2=>?_) ?_) ?_)
   ·have q:o<n-hint:=by omega
    exact up _ i (by omega) i2 (nb q)
   ·intro x l' r' Q' q1 q2 q3 rn
    dsimp only
    by_cases z:l'≥r'
    ·rw[if_pos z];exact wpS_pure (q1 z)
    ·rw[if_neg z]
     refine wpS_bind (zf9 C hk pk (hat _ (by omega)) ?_)
     cases q:bd left (rk key) (R rk arr (base+(l'+(r'-l') / 2))) with
     | true=>exact wpS_pure (q2 (by omega) rn q)
     | false=>exact wpS_pure (q3 (by omega) rn q)
   ·rintro c st' ⟨rfl,k,rfl,hq⟩
    exact wpS_pure hq
 | false =>
  rw[if_neg Bool.false_ne_true]
  refine wpS_bind (wpS_mono (wpS_forRange (I:=fun x c st'=>st'=st∧∃ l o,c=(none,l,o)∧x+1≤o∧l<o∧l≤hint∧bd left (rk key) (R rk arr (base+(hint-l)))=false)
   (Q:=fun c st'=>st'=st∧∃ l o,c=(none,l,o)∧l<o∧l≤hint∧bd left (rk key) (R rk arr (base+(hint-l)))=false∧(o<hint+1→bd left (rk key) (R rk arr (base+(hint-o)))=true)) ?_ ?_ ⟨rfl,0,1,rfl,by omega,by omega,by omega,hb⟩) ?_)
  ·rintro x c st' _ hx ⟨rfl,l,o,rfl,xo,lo',ln,b⟩
   dsimp only
   by_cases z:o≥hint+1
   ·rw[if_pos z]
    exact wpS_pure ⟨rfl,l,o,rfl,lo',ln,b,fun q=>by omega⟩
   ·rw[if_neg z]
    refine wpS_bind (zf9 C hk pk (hat (hint-o) (by omega)) ?_)
    cases q:bd left (rk key) (R rk arr (base+(hint-o))) with
    | true=>exact wpS_pure ⟨rfl,l,o,rfl,lo',ln,b,fun _=>q⟩
    | false=>exact wpS_pure ⟨rfl,o,2*o+1,rfl,by omega,by omega,by omega,q⟩
  ·rintro c st' ⟨rfl,l,o,rfl,xo,lo',ln,b⟩
   exact⟨rfl,l,o,rfl,lo',ln,b,fun q=>by omega⟩
  ·rintro c st' ⟨rfl,l,o,rfl,lo',ln,b,nb⟩
   dsimp only
   refine wpS_bind (wpS_mono (half _ _ _ (by omega) (by omega) (fun i hi'=>?_) (fun i i1 i2=>up _ i i1 i2 b) ?_) ?_)
   ·have q:o<hint+1:=by omega
    exact dn i _ (by omega) (by omega) (nb q)
   ·intro x l' r' Q' q1 q2 q3 rn
    dsimp only
    by_cases z:l'≥r'
    ·rw[if_pos z];exact wpS_pure (q1 z)
    ·rw[if_neg z]
     refine wpS_bind (zf9 C hk pk (hat _ (by omega)) ?_)
     cases q:bd left (rk key) (R rk arr (base+(l'+(r'-l') / 2))) with
     | true=>exact wpS_pure (q2 (by omega) rn q)
     | false=>exact wpS_pure (q3 (by omega) rn q)
   ·rintro c st' ⟨rfl,k,rfl,hq⟩
    exact wpS_pure hq
end
def Srt (rk:Keyed→Int) (l:List Keyed):Prop:=l.Pairwise fun x y=>rk x≤rk y
structure Lo (rk:Keyed→Int) (T out a b:List Keyed):Prop where
 so:Srt rk out
 sa:Srt rk a
 sb:Srt rk b
 oa:∀ x∈out,∀ y∈a,rk x≤rk y
 ob:∀ x∈out,∀ y∈b,rk x≤rk y
 pm:(out++(a++b)).Perm T
section
variable {rk:Keyed→Int}{T out a b c:List Keyed}
theorem Lo.swap (h:Lo rk T out a b):Lo rk T out b a:=⟨h.so,h.sb,h.sa,h.ob,h.oa,((List.perm_append_comm (l₁:=b) (l₂:=a)).append_left out).trans h.pm⟩
theorem Lo.take (h:Lo rk T out (c++a) b) (le:∀ x∈c,∀ y∈b,rk x≤rk y):Lo rk T (out++c) a b:=by
 obtain⟨s1,s2,s3⟩:=List.pairwise_append.mp h.sa
 refine⟨List.pairwise_append.mpr ⟨h.so,s1,fun x hx y hy=>h.oa x hx y (List.mem_append_left _ hy)⟩,s2,h.sb,fun x hx y hy=>?_,fun x hx y hy=>?_,?_⟩
 ·rcases List.mem_append.mp hx with q|q
  ·exact h.oa x q y (List.mem_append_right _ hy)
  ·exact s3 x q y hy
 ·rcases List.mem_append.mp hx with q|q
  ·exact h.ob x q y hy
  ·exact le x q y hy
 ·have:=h.pm
  rw[List.append_assoc]at this ⊢
  exact this
theorem Lo.end (h:Lo rk T out a []):(out++a).Perm T∧Srt rk (out++a):=by
 have:=h.pm
 rw[List.append_nil]at this
 exact⟨this,List.pairwise_append.mpr ⟨h.so,h.sa,h.oa⟩⟩
theorem Lo.lone (h:Lo rk T out a b) (le:∀ x∈b,∀ y∈a,rk x≤rk y):(out++b++a).Perm T∧Srt rk (out++b++a):=by
 refine⟨?_,List.pairwise_append.mpr ⟨List.pairwise_append.mpr ⟨h.so,h.sb,h.ob⟩,h.sa,fun x hx y hy=>?_⟩⟩
 ·rw[List.append_assoc]
  exact((List.perm_append_comm (l₁:=b) (l₂:=a)).append_left out).trans h.pm
 ·rcases List.mem_append.mp hx with q|q
  ·exact h.oa x q y hy
  ·exact le x q y hy
theorem zdW {arr:Array Keyed}{i:Nat}{p:Keyed}(e:arr[i]?=some p):arr.toList.drop i=p::arr.toList.drop (i+1):=by
 obtain⟨hi,e⟩:=Array.getElem?_eq_some_iff.mp e
 have hl:i<arr.toList.length:=by rw[Array.length_toList];exact hi
 rw[List.drop_eq_getElem_cons hl,Array.getElem_toList,e]
theorem zcS (arr:Array Keyed) (i k:Nat):arr.toList.drop i=(arr.extract i (i+k)).toList++arr.toList.drop (i+k):=by
 rw[Array.toList_extract,List.extract_eq_take_drop,Nat.add_sub_cancel_left,← List.drop_drop,List.take_append_drop]
theorem zcm (arr:Array Keyed) (i:Nat):(arr.extract i).toList=arr.toList.drop i:=by
 rw[Array.toList_extract,List.extract_eq_take_drop]
 exact List.take_of_length_le (by rw[List.length_drop,Array.length_toList];exact Nat.le_refl _)
theorem ziE {arr:Array Keyed}{i k:Nat}{x:Keyed}(h:x∈(arr.extract i (i+k)).toList):∃ j,j<k∧arr[i+j]?=some x:=by
 rw[Array.toList_extract,List.extract_eq_take_drop,Nat.add_sub_cancel_left]at h
 obtain⟨j,hj⟩:=List.mem_iff_getElem?.mp h
 have jk:j<k:=by
  have:=(List.getElem?_eq_some_iff.mp hj).1
  rw[List.length_take]at this;lia
 rw[List.getElem?_take_of_lt jk,List.getElem?_drop]at hj
 exact⟨j,jk,by rw[← Array.getElem?_toList];exact hj⟩
theorem za7 {arr:Array Keyed}{i:Nat}{x:Keyed}(h:x∈arr.toList.drop i):∃ j,arr[i+j]?=some x:=by
 obtain⟨j,hj⟩:=List.mem_iff_getElem?.mp h
 rw[List.getElem?_drop]at hj
 exact⟨j,by rw[← Array.getElem?_toList];exact hj⟩
theorem R_at {arr:Array Keyed}{i:Nat}{p:Keyed}(e:arr[i]?=some p):R rk arr i=rk p:=by unfold R;rw[e]
theorem zbq {arr:Array Keyed}(h:Srt rk arr.toList) {base n:Nat}(hn:base+n≤arr.size):Up rk arr base n:=by
 intro i j hi hij hj
 have h1:arr[i]?=some arr[i]:=getElem?_pos arr i (by lia)
 have h2:arr[j]?=some arr[j]:=getElem?_pos arr j (by lia)
 rw[R_at h1,R_at h2]
 by_cases z:i=j
 ·subst z;exact Int.le_refl _
 ·have:=List.pairwise_iff_getElem.mp h i j (by rw[Array.length_toList];lia) (by rw[Array.length_toList];lia) (by lia)
  simpa using this
theorem za9 {arr:Array Keyed}{i:Nat}{p:Keyed}(h:Srt rk arr.toList) (e:arr[i]?=some p):∀ y∈arr.toList.drop i,rk p≤rk y:=by
 have hs:Srt rk (arr.toList.drop i):=List.Pairwise.drop h
 rw[zdW e]at hs ⊢
 obtain⟨h1,_⟩:=List.pairwise_cons.mp hs
 intro y hy
 rcases List.mem_cons.mp hy with rfl|q
 ·exact Int.le_refl _
 ·exact h1 y q
end
section
variable {rk:Keyed→Int}{T:List Keyed}{out a b:Array Keyed}{ia ib k:Nat}{p q:Keyed}
abbrev At (rk:Keyed→Int) (T:List Keyed) (out a b:Array Keyed) (ia ib:Nat):Prop:=Lo rk T out.toList (a.toList.drop ia) (b.toList.drop ib)
theorem At.pushA (h:At rk T out a b ia ib) (e:a[ia]?=some p) (le:∀ y∈b.toList.drop ib,rk p≤rk y):At rk T (out.push p) a b (ia+1) ib:=by
 have h':=h
 unfold At at h' ⊢
 rw[zdW e]at h'
 rw[Array.toList_push]
 exact Lo.take (c:=[p]) h' fun x hx y hy=>by rw[List.mem_singleton.mp hx];exact le y hy
theorem At.pushB (h:At rk T out a b ia ib) (e:b[ib]?=some p) (le:∀ y∈a.toList.drop ia,rk p≤rk y):At rk T (out.push p) a b ia (ib+1):=(At.pushA (a:=b) (b:=a) h.swap e le).swap
theorem At.cutA (h:At rk T out a b ia ib) (le:∀ j x,j<k→a[ia+j]?=some x→∀ y∈b.toList.drop ib,rk x≤rk y):At rk T (out++a.extract ia (ia+k)) a b (ia+k) ib:=by
 have h':=h
 unfold At at h' ⊢
 rw[zcS a ia k]at h'
 rw[Array.toList_append]
 exact Lo.take h' fun x hx y hy=>by
  obtain⟨j,jk,e⟩:=ziE hx
  exact le j x jk e y hy
theorem At.cutB (h:At rk T out a b ia ib) (le:∀ j x,j<k→b[ib+j]?=some x→∀ y∈a.toList.drop ia,rk x≤rk y):At rk T (out++b.extract ib (ib+k)) a b ia (ib+k):=(At.cutA (a:=b) (b:=a) h.swap le).swap
theorem At.endB (h:At rk T out a b ia ib) (z:b.size≤ib):(out++a.extract ia++b.extract ib).toList.Perm T∧Srt rk (out++a.extract ia++b.extract ib).toList:=by
 have h':=h
 unfold At at h'
 have e:b.toList.drop ib=[]:=List.drop_eq_nil_iff.mpr (by rw[Array.length_toList];exact z)
 rw[e]at h'
 rw[Array.toList_append,Array.toList_append,zcm,zcm,e,List.append_nil]
 exact h'.end
theorem At.endA (h:At rk T out a b ia ib) (z:a.size≤ia):(out++a.extract ia++b.extract ib).toList.Perm T∧Srt rk (out++a.extract ia++b.extract ib).toList:=by
 have h':=h.swap
 have e:a.toList.drop ia=[]:=List.drop_eq_nil_iff.mpr (by rw[Array.length_toList];exact z)
 rw[e]at h'
 rw[Array.toList_append,Array.toList_append,zcm,zcm,e,List.append_nil]
 exact h'.end
theorem At.lastA (h:At rk T out a b ia ib) (le:∀ x∈b.toList.drop ib,∀ y∈a.toList.drop ia,rk x≤rk y):(out++b.extract ib++a.extract ia).toList.Perm T∧Srt rk (out++b.extract ib++a.extract ia).toList:=by
 rw[Array.toList_append,Array.toList_append,zcm,zcm]
 exact Lo.lone h le
end
def zgV:Array Keyed→Array Keyed→StateT SortSt Sem (Array Keyed):=sortPriv% PySem.Builtin.mergeLo
def zhF:Nat→StateT SortSt Sem Unit:=sortPriv% PySem.Builtin.setMinGallop
structure Sm (st st':SortSt):Prop where
 kind:kindOf st'=kindOf st
 arr:arrOf st'=arrOf st
 pend:pendingOf st'=pendingOf st
 fail:failedOf st'=failedOf st
theorem Sm.refl (st:SortSt):Sm st st:=⟨rfl,rfl,rfl,rfl⟩
theorem Sm.trans {a b c:SortSt}(h:Sm a b) (g:Sm b c):Sm a c:=⟨g.kind.trans h.kind,g.arr.trans h.arr,g.pend.trans h.pend,g.fail.trans h.fail⟩
section
variable {prog:Program}{w:World}{A:Around}{E:Value→Shared→Prop}{s:Shared}{κ:SortKind}{P:Keyed→Prop}{rk:Keyed→Int}{a₀:Array Keyed}
theorem zcf {st:SortSt}{g:Nat}{Q:Unit→SortSt→Prop}(h:∀ st',Sm st st'→Q () st'):wpS (model prog w) A E s (zhF g) Q st :=
 wpS_modify (h _ ⟨rfl,rfl,rfl,rfl⟩)
theorem zjX (C:Cmp prog w A s κ P rk) {st:SortSt}{a b:Array Keyed}{Q:Array Keyed→SortSt→Prop}(hk:kindOf st=κ) (pa:∀ x∈a.toList,P x) (pb:∀ x∈b.toList,P x) (sa:Srt rk a.toList) (sb:Srt rk b.toList) (a1:1≤a.size) (b1:1≤b.size)
  (first:∀ x,b[0]?=some x→∀ y∈a.toList,rk x≤rk y) (last:∀ x,a[a.size-1]?=some x→∀ y∈b.toList,rk y≤rk x)
  (h:∀ r st',Sm st st'→r.toList.Perm (a.toList++b.toList)→Srt rk r.toList→Q r st'):wpS (model prog w) A E s (zgV a b) Q st:=by
 have atA:∀ i,i<a.size→∃ x,a[i]?=some x∧P x:=fun i hi=>⟨_,getElem?_pos a i hi,pa _ (by simp)⟩
 have atB:∀ i,i<b.size→∃ x,b[i]?=some x∧P x:=fun i hi=>⟨_,getElem?_pos b i hi,pb _ (by simp)⟩
 obtain⟨b0,e0,_⟩:=atB 0 b1
 have lone:∀ {out:Array Keyed}{ia ib:Nat},At rk (a.toList++b.toList) out a b ia ib→ia+1=a.size→(out++b.extract ib++a.extract ia).toList.Perm (a.toList++b.toList)∧Srt rk (out++b.extract ib++a.extract ia).toList:=fun {out ia ib} L z=>L.lastA fun x hx y hy=>by
  obtain⟨j,ej⟩:=za7 hy
  have:=(Array.getElem?_eq_some_iff.mp ej).1
  exact last y (by rw[show a.size-1=ia+j by lia];exact ej) x (List.mem_of_mem_drop hx)
 have L0:At rk (a.toList++b.toList) #[b0] a b 0 1:=by
  have e:=zdW e0
  rw[List.drop_zero]at e
  have hb:=sb
  unfold Srt at hb
  rw[e]at hb
  obtain⟨h1,h2⟩:=List.pairwise_cons.mp hb
  refine⟨List.pairwise_singleton _ _,by rw[List.drop_zero];exact sa,h2,fun x hx y hy=>?_,fun x hx y hy=>?_,?_⟩
  ·rw[List.mem_singleton.mp hx];exact first b0 e0 y (List.mem_of_mem_drop hy)
  ·rw[List.mem_singleton.mp hx];exact h1 y hy
  ·rw[List.drop_zero]
   conv=>rhs;rw[e]
   show (b0::(a.toList++b.toList.drop 1)).Perm (a.toList++b0::b.toList.drop 1)
   exact List.perm_middle.symm
 have size:∀ {out:Array Keyed}{ia ib:Nat},At rk (a.toList++b.toList) out a b ia ib→out.size≤a.size+b.size:=fun {out ia ib} L=>by
  have:=L.pm.length_eq
  simp only[List.length_append,Array.length_toList]at this
  lia
 refine wpS_bind (zbz ?_)
 refine wpS_bind (zan e0 ?_)
 dsimp only
 by_cases z1:1=b.size
 ·rw[if_pos (by simpa using z1)]
  obtain⟨q1,q2⟩:=L0.endB (by lia)
  exact wpS_pure (h _ _ (Sm.refl _) q1 q2)
 rw[if_neg (by simpa using z1)]
 by_cases z2:0+1=a.size
 ·rw[if_pos (by simpa using z2)]
  obtain⟨q1,q2⟩:=lone L0 z2
  exact wpS_pure (h _ _ (Sm.refl _) q1 q2)
 rw[if_neg (by simpa using z2)]
 refine wpS_bind (wpS_get ?_)
 refine wpS_bind (wpS_mono (wpS_forRange (I:=fun i c st1=>Sm st st1∧∃ out ia ib g,c=(none,out,ia,ib,g)∧At rk (a.toList++b.toList) out a b ia ib∧ia+1<a.size∧ib<b.size∧i+1≤out.size)
  (Q:=fun c st1=>Sm st st1∧∃ r x,c=(some r,x)∧r.toList.Perm (a.toList++b.toList)∧Srt rk r.toList) ?step ?fin ⟨Sm.refl _,_,_,_,_,rfl,L0,by lia,by lia,by simp⟩) ?post)
 case post =>
  rintro c st1 ⟨S1,r,x,rfl,q1,q2⟩
  exact wpS_pure (h _ _ S1 q1 q2)
 case fin =>
  rintro c st1 ⟨S1,out,ia,ib,g,rfl,L,_,_,sz⟩
  have:=size L
  lia
 case step =>
  rintro i c st1 _ hi ⟨S1,out,ia,ib,g,rfl,L,la,lb,sz⟩
  dsimp only
  refine wpS_bind (wpS_mono (wpS_forRange (I:=fun j c st2=>st2=st1∧∃ out ia ib ca cb,c=(none,out,ia,ib,ca,cb)∧At rk (a.toList++b.toList) out a b ia ib∧ia+1<a.size∧ib<b.size∧i+1+j≤out.size)
   (Q:=fun c st2=>st2=st1∧((∃ r x,c=(some r,x)∧r.toList.Perm (a.toList++b.toList)∧Srt rk r.toList)∨∃ out ia ib ca cb,c=(none,out,ia,ib,ca,cb)∧At rk (a.toList++b.toList) out a b ia ib∧ia+1<a.size∧ib<b.size∧i+2≤out.size)) ?_ ?_ ⟨rfl,_,_,_,_,_,rfl,L,la,lb,by lia⟩) ?_)
  ·rintro j c st2 _ hj ⟨rfl,out,ia,ib,ca,cb,rfl,L,la,lb,sz⟩
   dsimp only
   obtain⟨x,ex,px⟩:=atA ia (by lia)
   obtain⟨y,ey,py⟩:=atB ib lb
   refine wpS_bind (zan ey (wpS_bind (zan ex (wpS_bind (zfz C (S1.kind.trans hk) py px ?_)))))
   by_cases z:rk y<rk x
   ·rw[decide_eq_true z]
    dsimp only
    rw[if_pos rfl]
    have L':=L.pushB ey fun u hu=>Int.le_trans (Int.le_of_lt z) (za9 sa ex u hu)
    refine wpS_bind (zan ey ?_)
    by_cases zb:ib+1=b.size
    ·rw[if_pos (by simpa using zb)]
     obtain⟨q1,q2⟩:=L'.endB (by lia)
     exact wpS_pure ⟨rfl,.inl ⟨_,_,rfl,q1,q2⟩⟩
    ·rw[if_neg (by simpa using zb)]
     by_cases zg:cb+1≥g
     ·rw[if_pos zg]
      exact wpS_pure ⟨rfl,.inr ⟨_,_,_,_,_,rfl,L',la,by lia,by rw[Array.size_push];lia⟩⟩
     ·rw[if_neg zg]
      exact wpS_pure ⟨rfl,_,_,_,_,_,rfl,L',la,by lia,by rw[Array.size_push];lia⟩
   ·rw[decide_eq_false z]
    dsimp only
    rw[if_neg Bool.false_ne_true]
    have L':=L.pushA ex fun u hu=>Int.le_trans (by lia) (za9 sb ey u hu)
    refine wpS_bind (zan ex ?_)
    by_cases zb:ia+1+1=a.size
    ·rw[if_pos (by simpa using zb)]
     obtain⟨q1,q2⟩:=lone L' zb
     exact wpS_pure ⟨rfl,.inl ⟨_,_,rfl,q1,q2⟩⟩
    ·rw[if_neg (by simpa using zb)]
     by_cases zg:ca+1≥g
     ·rw[if_pos zg]
      exact wpS_pure ⟨rfl,.inr ⟨_,_,_,_,_,rfl,L',by lia,lb,by rw[Array.size_push];lia⟩⟩
     ·rw[if_neg zg]
      exact wpS_pure ⟨rfl,_,_,_,_,_,rfl,L',by lia,lb,by rw[Array.size_push];lia⟩
  ·rintro c st2 ⟨rfl,out,ia,ib,ca,cb,rfl,L,la,lb,sz⟩
   have:=size L
   lia
  ·rintro c st2 ⟨rfl,⟨r,x,rfl,q1,q2⟩|⟨out,ia,ib,ca,cb,rfl,L,la,lb,sz⟩⟩
   ·exact wpS_pure ⟨S1,r,_,rfl,q1,q2⟩
   dsimp only
   refine wpS_bind (zbz ?_)
   refine wpS_bind (wpS_mono (wpS_forRange (I:=fun j c st3=>Sm st st3∧∃ out ia ib g ca cb,c=(none,out,ia,ib,g,ca,cb)∧At rk (a.toList++b.toList) out a b ia ib∧ia+1<a.size∧ib<b.size∧i+2≤out.size)
    (Q:=fun c st3=>Sm st st3∧((∃ r x,c=(some r,x)∧r.toList.Perm (a.toList++b.toList)∧Srt rk r.toList)∨∃ out ia ib g ca cb,c=(none,out,ia,ib,g,ca,cb)∧At rk (a.toList++b.toList) out a b ia ib∧ia+1<a.size∧ib<b.size∧i+2≤out.size)) ?_ ?_ ⟨S1,_,_,_,_,_,_,rfl,L,la,lb,sz⟩) ?_)
   ·rintro j c st3 _ hj ⟨S3,out,ia,ib,g,ca,cb,rfl,L,la,lb,sz⟩
    dsimp only
    obtain⟨y,ey,py⟩:=atB ib lb
    by_cases zg:g > 1
    ·rw[if_pos zg]
     refine wpS_bind (zcf fun st4 S4=>?_)
     have S4:=S3.trans S4
     refine wpS_bind (zan ey (wpS_bind (za1 C (S4.kind.trans hk) py (fun t ht=>atA (ia+t) (by lia)) (zbq sa (by lia)) (by lia) fun k hk1 g1 g2=>?_)))
     dsimp only
     have L1:=L.cutA (k:=k) fun t u tk eu v hv=>by
      have:=g1 t tk
      rw[R_at eu]at this
      unfold bd at this
      simp only[Bool.false_eq_true,if_false,Bool.not_eq_true',decide_eq_false_iff_not]at this
      have:=za9 sb ey v hv
      lia
     have hle:∀ u∈a.toList.drop (ia+k),rk y≤rk u:=fun u hu=>by
      obtain⟨t,et⟩:=za7 hu
      have tl:=(Array.getElem?_eq_some_iff.mp et).1
      have:=g2 (k+t) (by lia) (by lia)
      rw[← Nat.add_assoc,R_at et]at this
      unfold bd at this
      simp only[Bool.false_eq_true,if_false,Bool.not_eq_false',decide_eq_true_eq]at this
      lia
     have sz1:i+2≤(out++a.extract ia (ia+k)).size:=by rw[Array.size_append];lia
     by_cases zk:k > 0
     ·rw[if_pos zk]
      by_cases za:ia+k+1=a.size
      ·rw[if_pos (by simpa using za)]
       obtain⟨q1,q2⟩:=lone L1 za
       exact wpS_pure ⟨S4,.inl ⟨_,_,rfl,q1,q2⟩⟩
      rw[if_neg (by simpa using za)]
      by_cases zc:ia+k=a.size
      ·rw[if_pos (by simpa using zc)]
       obtain⟨q1,q2⟩:=L1.endA (by lia)
       exact wpS_pure ⟨S4,.inl ⟨_,_,rfl,q1,q2⟩⟩
      rw[if_neg (by simpa using zc)]
      have la1:ia+k+1<a.size:=by lia
      generalize ia+k=ia1 at L1 hle la1 sz1 ⊢
      generalize out++a.extract ia ia1=out1 at L1 sz1 ⊢
      refine wpS_bind (zan ey ?_)
      have L2:=L1.pushB ey hle
      by_cases zb:ib+1=b.size
      ·rw[if_pos (by simpa using zb)]
       obtain⟨q1,q2⟩:=L2.endB (by lia)
       exact wpS_pure ⟨S4,.inl ⟨_,_,rfl,q1,q2⟩⟩
      rw[if_neg (by simpa using zb)]
      obtain⟨x1,ex1,px1⟩:=atA _ (Nat.lt_of_succ_lt la1)
      refine wpS_bind (zan ex1 (wpS_bind (za1 C (S4.kind.trans hk) px1 (fun t ht=>atB (ib+1+t) (by lia)) (zbq sb (by lia)) (by lia) fun k2 hk2 c1 c2=>?_)))
      dsimp only
      have L3:=L2.cutB (k:=k2) fun t u tk eu v hv=>by
       have:=c1 t tk
       rw[R_at eu]at this
       unfold bd at this
       simp only[if_true,decide_eq_true_eq]at this
       have:=za9 sa ex1 v hv
       lia
      have hle2:∀ u∈b.toList.drop (ib+1+k2),rk x1≤rk u:=fun u hu=>by
       obtain⟨t,et⟩:=za7 hu
       have tl:=(Array.getElem?_eq_some_iff.mp et).1
       have:=c2 (k2+t) (by lia) (by lia)
       rw[← Nat.add_assoc,R_at et]at this
       unfold bd at this
       simp only[if_true,decide_eq_false_iff_not]at this
       lia
      have sz2:=sz1
      by_cases zk2:k2 > 0
      ·rw[if_pos zk2]
       by_cases zd:ib+1+k2=b.size
       ·rw[if_pos (by simpa using zd)]
        obtain⟨q1,q2⟩:=L3.endB (by lia)
        exact wpS_pure ⟨S4,.inl ⟨_,_,rfl,q1,q2⟩⟩
       rw[if_neg (by simpa using zd)]
       have lb2:ib+1+k2<b.size:=by lia
       refine wpS_bind (zan ex1 ?_)
       have L4:=L3.pushA ex1 hle2
       by_cases ze:ia1+1+1=a.size
       ·rw[if_pos (by simpa using ze)]
        obtain⟨q1,q2⟩:=lone L4 ze
        exact wpS_pure ⟨S4,.inl ⟨_,_,rfl,q1,q2⟩⟩
       rw[if_neg (by simpa using ze)]
       split
       ·exact wpS_pure ⟨S4,.inr ⟨_,_,_,_,_,_,rfl,L4,by lia,lb2,by simp only[Array.size_push,Array.size_append];lia⟩⟩
       ·exact wpS_pure ⟨S4,_,_,_,_,_,_,rfl,L4,by lia,lb2,by simp only[Array.size_push,Array.size_append];lia⟩
      ·rw[if_neg zk2]
       obtain rfl:k2=0:=by lia
       rw[Nat.add_zero]at hle2
       refine wpS_bind (zan ex1 ?_)
       have L4:=L2.pushA ex1 hle2
       by_cases ze:ia1+1+1=a.size
       ·rw[if_pos (by simpa using ze)]
        obtain⟨q1,q2⟩:=lone L4 ze
        exact wpS_pure ⟨S4,.inl ⟨_,_,rfl,q1,q2⟩⟩
       rw[if_neg (by simpa using ze)]
       split
       ·exact wpS_pure ⟨S4,.inr ⟨_,_,_,_,_,_,rfl,L4,by lia,by lia,by simp only[Array.size_push,Array.size_append];lia⟩⟩
       ·exact wpS_pure ⟨S4,_,_,_,_,_,_,rfl,L4,by lia,by lia,by simp only[Array.size_push,Array.size_append];lia⟩
     ·rw[if_neg zk]
      obtain rfl:k=0:=by lia
      have L1:=L
      have la1:=la
      have sz1:=sz
      rw[Nat.add_zero]at hle
      refine wpS_bind (zan ey ?_)
      have L2:=L1.pushB ey hle
      by_cases zb:ib+1=b.size
      ·rw[if_pos (by simpa using zb)]
       obtain⟨q1,q2⟩:=L2.endB (by lia)
       exact wpS_pure ⟨S4,.inl ⟨_,_,rfl,q1,q2⟩⟩
      rw[if_neg (by simpa using zb)]
      obtain⟨x1,ex1,px1⟩:=atA _ (Nat.lt_of_succ_lt la1)
      refine wpS_bind (zan ex1 (wpS_bind (za1 C (S4.kind.trans hk) px1 (fun t ht=>atB (ib+1+t) (by lia)) (zbq sb (by lia)) (by lia) fun k2 hk2 c1 c2=>?_)))
      dsimp only
      have L3:=L2.cutB (k:=k2) fun t u tk eu v hv=>by
       have:=c1 t tk
       rw[R_at eu]at this
       unfold bd at this
       simp only[if_true,decide_eq_true_eq]at this
       have:=za9 sa ex1 v hv
       lia
      have hle2:∀ u∈b.toList.drop (ib+1+k2),rk x1≤rk u:=fun u hu=>by
       obtain⟨t,et⟩:=za7 hu
       have tl:=(Array.getElem?_eq_some_iff.mp et).1
       have:=c2 (k2+t) (by lia) (by lia)
       rw[← Nat.add_assoc,R_at et]at this
       unfold bd at this
       simp only[if_true,decide_eq_false_iff_not]at this
       lia
      have sz2:=sz1
      by_cases zk2:k2 > 0
      ·rw[if_pos zk2]
       by_cases zd:ib+1+k2=b.size
       ·rw[if_pos (by simpa using zd)]
        obtain⟨q1,q2⟩:=L3.endB (by lia)
        exact wpS_pure ⟨S4,.inl ⟨_,_,rfl,q1,q2⟩⟩
       rw[if_neg (by simpa using zd)]
       have lb2:ib+1+k2<b.size:=by lia
       refine wpS_bind (zan ex1 ?_)
       have L4:=L3.pushA ex1 hle2
       by_cases ze:ia+1+1=a.size
       ·rw[if_pos (by simpa using ze)]
        obtain⟨q1,q2⟩:=lone L4 ze
        exact wpS_pure ⟨S4,.inl ⟨_,_,rfl,q1,q2⟩⟩
       rw[if_neg (by simpa using ze)]
       split
       ·exact wpS_pure ⟨S4,.inr ⟨_,_,_,_,_,_,rfl,L4,by lia,lb2,by simp only[Array.size_push,Array.size_append];lia⟩⟩
       ·exact wpS_pure ⟨S4,_,_,_,_,_,_,rfl,L4,by lia,lb2,by simp only[Array.size_push,Array.size_append];lia⟩
      ·rw[if_neg zk2]
       obtain rfl:k2=0:=by lia
       rw[Nat.add_zero]at hle2
       refine wpS_bind (zan ex1 ?_)
       have L4:=L2.pushA ex1 hle2
       by_cases ze:ia+1+1=a.size
       ·rw[if_pos (by simpa using ze)]
        obtain⟨q1,q2⟩:=lone L4 ze
        exact wpS_pure ⟨S4,.inl ⟨_,_,rfl,q1,q2⟩⟩
       rw[if_neg (by simpa using ze)]
       split
       ·exact wpS_pure ⟨S4,.inr ⟨_,_,_,_,_,_,rfl,L4,by lia,by lia,by simp only[Array.size_push,Array.size_append];lia⟩⟩
       ·exact wpS_pure ⟨S4,_,_,_,_,_,_,rfl,L4,by lia,by lia,by simp only[Array.size_push,Array.size_append];lia⟩
    ·rw[if_neg zg]
     refine wpS_bind (zcf fun st4 S4=>?_)
     have S4:=S3.trans S4
     refine wpS_bind (zan ey (wpS_bind (za1 C (S4.kind.trans hk) py (fun t ht=>atA (ia+t) (by lia)) (zbq sa (by lia)) (by lia) fun k hk1 g1 g2=>?_)))
     dsimp only
     have L1:=L.cutA (k:=k) fun t u tk eu v hv=>by
      have:=g1 t tk
      rw[R_at eu]at this
      unfold bd at this
      simp only[Bool.false_eq_true,if_false,Bool.not_eq_true',decide_eq_false_iff_not]at this
      have:=za9 sb ey v hv
      lia
     have hle:∀ u∈a.toList.drop (ia+k),rk y≤rk u:=fun u hu=>by
      obtain⟨t,et⟩:=za7 hu
      have tl:=(Array.getElem?_eq_some_iff.mp et).1
      have:=g2 (k+t) (by lia) (by lia)
      rw[← Nat.add_assoc,R_at et]at this
      unfold bd at this
      simp only[Bool.false_eq_true,if_false,Bool.not_eq_false',decide_eq_true_eq]at this
      lia
     have sz1:i+2≤(out++a.extract ia (ia+k)).size:=by rw[Array.size_append];lia
     by_cases zk:k > 0
     ·rw[if_pos zk]
      by_cases za:ia+k+1=a.size
      ·rw[if_pos (by simpa using za)]
       obtain⟨q1,q2⟩:=lone L1 za
       exact wpS_pure ⟨S4,.inl ⟨_,_,rfl,q1,q2⟩⟩
      rw[if_neg (by simpa using za)]
      by_cases zc:ia+k=a.size
      ·rw[if_pos (by simpa using zc)]
       obtain⟨q1,q2⟩:=L1.endA (by lia)
       exact wpS_pure ⟨S4,.inl ⟨_,_,rfl,q1,q2⟩⟩
      rw[if_neg (by simpa using zc)]
      have la1:ia+k+1<a.size:=by lia
      generalize ia+k=ia1 at L1 hle la1 sz1 ⊢
      generalize out++a.extract ia ia1=out1 at L1 sz1 ⊢
      refine wpS_bind (zan ey ?_)
      have L2:=L1.pushB ey hle
      by_cases zb:ib+1=b.size
      ·rw[if_pos (by simpa using zb)]
       obtain⟨q1,q2⟩:=L2.endB (by lia)
       exact wpS_pure ⟨S4,.inl ⟨_,_,rfl,q1,q2⟩⟩
      rw[if_neg (by simpa using zb)]
      obtain⟨x1,ex1,px1⟩:=atA _ (Nat.lt_of_succ_lt la1)
      refine wpS_bind (zan ex1 (wpS_bind (za1 C (S4.kind.trans hk) px1 (fun t ht=>atB (ib+1+t) (by lia)) (zbq sb (by lia)) (by lia) fun k2 hk2 c1 c2=>?_)))
      dsimp only
      have L3:=L2.cutB (k:=k2) fun t u tk eu v hv=>by
       have:=c1 t tk
       rw[R_at eu]at this
       unfold bd at this
       simp only[if_true,decide_eq_true_eq]at this
       have:=za9 sa ex1 v hv
       lia
      have hle2:∀ u∈b.toList.drop (ib+1+k2),rk x1≤rk u:=fun u hu=>by
       obtain⟨t,et⟩:=za7 hu
       have tl:=(Array.getElem?_eq_some_iff.mp et).1
       have:=c2 (k2+t) (by lia) (by lia)
       rw[← Nat.add_assoc,R_at et]at this
       unfold bd at this
       simp only[if_true,decide_eq_false_iff_not]at this
       lia
      have sz2:=sz1
      by_cases zk2:k2 > 0
      ·rw[if_pos zk2]
       by_cases zd:ib+1+k2=b.size
       ·rw[if_pos (by simpa using zd)]
        obtain⟨q1,q2⟩:=L3.endB (by lia)
        exact wpS_pure ⟨S4,.inl ⟨_,_,rfl,q1,q2⟩⟩
       rw[if_neg (by simpa using zd)]
       have lb2:ib+1+k2<b.size:=by lia
       refine wpS_bind (zan ex1 ?_)
       have L4:=L3.pushA ex1 hle2
       by_cases ze:ia1+1+1=a.size
       ·rw[if_pos (by simpa using ze)]
        obtain⟨q1,q2⟩:=lone L4 ze
        exact wpS_pure ⟨S4,.inl ⟨_,_,rfl,q1,q2⟩⟩
       rw[if_neg (by simpa using ze)]
       split
       ·exact wpS_pure ⟨S4,.inr ⟨_,_,_,_,_,_,rfl,L4,by lia,lb2,by simp only[Array.size_push,Array.size_append];lia⟩⟩
       ·exact wpS_pure ⟨S4,_,_,_,_,_,_,rfl,L4,by lia,lb2,by simp only[Array.size_push,Array.size_append];lia⟩
      ·rw[if_neg zk2]
       obtain rfl:k2=0:=by lia
       rw[Nat.add_zero]at hle2
       refine wpS_bind (zan ex1 ?_)
       have L4:=L2.pushA ex1 hle2
       by_cases ze:ia1+1+1=a.size
       ·rw[if_pos (by simpa using ze)]
        obtain⟨q1,q2⟩:=lone L4 ze
        exact wpS_pure ⟨S4,.inl ⟨_,_,rfl,q1,q2⟩⟩
       rw[if_neg (by simpa using ze)]
       split
       ·exact wpS_pure ⟨S4,.inr ⟨_,_,_,_,_,_,rfl,L4,by lia,by lia,by simp only[Array.size_push,Array.size_append];lia⟩⟩
       ·exact wpS_pure ⟨S4,_,_,_,_,_,_,rfl,L4,by lia,by lia,by simp only[Array.size_push,Array.size_append];lia⟩
     ·rw[if_neg zk]
      obtain rfl:k=0:=by lia
      have L1:=L
      have la1:=la
      have sz1:=sz
      rw[Nat.add_zero]at hle
      refine wpS_bind (zan ey ?_)
      have L2:=L1.pushB ey hle
      by_cases zb:ib+1=b.size
      ·rw[if_pos (by simpa using zb)]
       obtain⟨q1,q2⟩:=L2.endB (by lia)
       exact wpS_pure ⟨S4,.inl ⟨_,_,rfl,q1,q2⟩⟩
      rw[if_neg (by simpa using zb)]
      obtain⟨x1,ex1,px1⟩:=atA _ (Nat.lt_of_succ_lt la1)
      refine wpS_bind (zan ex1 (wpS_bind (za1 C (S4.kind.trans hk) px1 (fun t ht=>atB (ib+1+t) (by lia)) (zbq sb (by lia)) (by lia) fun k2 hk2 c1 c2=>?_)))
      dsimp only
      have L3:=L2.cutB (k:=k2) fun t u tk eu v hv=>by
       have:=c1 t tk
       rw[R_at eu]at this
       unfold bd at this
       simp only[if_true,decide_eq_true_eq]at this
       have:=za9 sa ex1 v hv
       lia
      have hle2:∀ u∈b.toList.drop (ib+1+k2),rk x1≤rk u:=fun u hu=>by
       obtain⟨t,et⟩:=za7 hu
       have tl:=(Array.getElem?_eq_some_iff.mp et).1
       have:=c2 (k2+t) (by lia) (by lia)
       rw[← Nat.add_assoc,R_at et]at this
       unfold bd at this
       simp only[if_true,decide_eq_false_iff_not]at this
       lia
      have sz2:=sz1
      by_cases zk2:k2 > 0
      ·rw[if_pos zk2]
       by_cases zd:ib+1+k2=b.size
       ·rw[if_pos (by simpa using zd)]
        obtain⟨q1,q2⟩:=L3.endB (by lia)
        exact wpS_pure ⟨S4,.inl ⟨_,_,rfl,q1,q2⟩⟩
       rw[if_neg (by simpa using zd)]
       have lb2:ib+1+k2<b.size:=by lia
       refine wpS_bind (zan ex1 ?_)
       have L4:=L3.pushA ex1 hle2
       by_cases ze:ia+1+1=a.size
       ·rw[if_pos (by simpa using ze)]
        obtain⟨q1,q2⟩:=lone L4 ze
        exact wpS_pure ⟨S4,.inl ⟨_,_,rfl,q1,q2⟩⟩
       rw[if_neg (by simpa using ze)]
       split
       ·exact wpS_pure ⟨S4,.inr ⟨_,_,_,_,_,_,rfl,L4,by lia,lb2,by simp only[Array.size_push,Array.size_append];lia⟩⟩
       ·exact wpS_pure ⟨S4,_,_,_,_,_,_,rfl,L4,by lia,lb2,by simp only[Array.size_push,Array.size_append];lia⟩
      ·rw[if_neg zk2]
       obtain rfl:k2=0:=by lia
       rw[Nat.add_zero]at hle2
       refine wpS_bind (zan ex1 ?_)
       have L4:=L2.pushA ex1 hle2
       by_cases ze:ia+1+1=a.size
       ·rw[if_pos (by simpa using ze)]
        obtain⟨q1,q2⟩:=lone L4 ze
        exact wpS_pure ⟨S4,.inl ⟨_,_,rfl,q1,q2⟩⟩
       rw[if_neg (by simpa using ze)]
       split
       ·exact wpS_pure ⟨S4,.inr ⟨_,_,_,_,_,_,rfl,L4,by lia,by lia,by simp only[Array.size_push,Array.size_append];lia⟩⟩
       ·exact wpS_pure ⟨S4,_,_,_,_,_,_,rfl,L4,by lia,by lia,by simp only[Array.size_push,Array.size_append];lia⟩
   ·rintro c st3 ⟨S3,out,ia,ib,g,ca,cb,rfl,L,la,lb,sz⟩
    exact⟨S3,.inr ⟨_,_,_,_,_,_,rfl,L,la,lb,sz⟩⟩
   ·rintro c st3 ⟨S3,⟨r,x,rfl,q1,q2⟩|⟨out,ia,ib,g,ca,cb,rfl,L,la,lb,sz⟩⟩
    ·exact wpS_pure ⟨S3,r,_,rfl,q1,q2⟩
    dsimp only
    refine wpS_bind (zcf fun st4 S4=>?_)
    exact wpS_pure ⟨S3.trans S4,_,_,_,_,rfl,L,la,lb,by lia⟩
end
def zgW:Array Keyed→Array Keyed→StateT SortSt Sem (Array Keyed):=sortPriv% PySem.Builtin.mergeHi
structure Hi (rk:Keyed→Int) (T a b out:List Keyed):Prop where
 sa:Srt rk a
 sb:Srt rk b
 so:Srt rk out
 ao:∀ x∈a,∀ y∈out,rk x≤rk y
 bo:∀ x∈b,∀ y∈out,rk x≤rk y
 pm:(a++b++out).Perm T
section
variable {rk:Keyed→Int}{T out a b c:List Keyed}
theorem Hi.swap (h:Hi rk T a b out):Hi rk T b a out:=⟨h.sb,h.sa,h.so,h.bo,h.ao,((List.perm_append_comm (l₁:=b) (l₂:=a)).append_right out).trans h.pm⟩
theorem Hi.take (h:Hi rk T (a++c) b out) (le:∀ x∈b,∀ y∈c,rk x≤rk y):Hi rk T a b (c++out):=by
 obtain⟨s1,s2,s3⟩:=List.pairwise_append.mp h.sa
 refine⟨s1,h.sb,List.pairwise_append.mpr ⟨s2,h.so,fun x hx y hy=>h.ao x (List.mem_append_right _ hx) y hy⟩,fun x hx y hy=>?_,fun x hx y hy=>?_,?_⟩
 ·rcases List.mem_append.mp hy with q|q
  ·exact s3 x hx y q
  ·exact h.ao x (List.mem_append_left _ hx) y q
 ·rcases List.mem_append.mp hy with q|q
  ·exact le x hx y q
  ·exact h.bo x hx y q
 ·refine List.Perm.trans ?_ h.pm
  rw[← List.append_assoc]
  refine List.Perm.append_right out ?_
  rw[List.append_assoc,List.append_assoc]
  exact List.Perm.append_left a List.perm_append_comm
theorem Hi.end (h:Hi rk T [] b out):(b++out).Perm T∧Srt rk (b++out):=⟨h.pm,List.pairwise_append.mpr ⟨h.sb,h.so,h.bo⟩⟩
theorem Hi.lone (h:Hi rk T a b out) (le:∀ x∈b,∀ y∈a,rk x≤rk y):(b++a++out).Perm T∧Srt rk (b++a++out):=by
 refine⟨((List.perm_append_comm (l₁:=b) (l₂:=a)).append_right out).trans h.pm,List.pairwise_append.mpr ⟨List.pairwise_append.mpr ⟨h.sb,h.sa,le⟩,h.so,fun x hx y hy=>?_⟩⟩
 rcases List.mem_append.mp hx with q|q
 ·exact h.bo x q y hy
 ·exact h.ao x q y hy
theorem zht {arr:Array Keyed}{n:Nat}{p:Keyed}(h1:1≤n) (e:arr[n-1]?=some p):arr.toList.take n=arr.toList.take (n-1)++[p]:=by
 obtain⟨hi,e⟩:=Array.getElem?_eq_some_iff.mp e
 have hl:n-1<arr.toList.length:=by rw[Array.length_toList];exact hi
 have:=List.take_succ_eq_append_getElem hl
 rw[Nat.sub_add_cancel h1,Array.getElem_toList,e]at this
 exact this
theorem zgk (arr:Array Keyed) {i n:Nat}(h:i≤n):arr.toList.take n=arr.toList.take i++(arr.extract i n).toList:=by
 rw[Array.toList_extract,List.extract_eq_take_drop]
 have:=List.take_add (l:=arr.toList) (i:=i) (j:=n-i)
 rw[show i+(n-i)=n by lia]at this
 exact this
theorem zb4 (arr:Array Keyed) (n:Nat):(arr.extract 0 n).toList=arr.toList.take n:=by
 rw[Array.toList_extract,List.extract_eq_take_drop,List.drop_zero,Nat.sub_zero]
theorem zb5 {arr:Array Keyed}{i n:Nat}{x:Keyed}(h:x∈(arr.extract i n).toList):∃ j,i≤j∧j<n∧arr[j]?=some x:=by
 rw[Array.toList_extract,List.extract_eq_take_drop]at h
 obtain⟨j,hj⟩:=List.mem_iff_getElem?.mp h
 have jk:j<n-i:=by
  have:=(List.getElem?_eq_some_iff.mp hj).1
  rw[List.length_take]at this;lia
 rw[List.getElem?_take_of_lt jk,List.getElem?_drop]at hj
 exact⟨i+j,by lia,by lia,by rw[← Array.getElem?_toList];exact hj⟩
theorem za0 {arr:Array Keyed}{n:Nat}{x:Keyed}(h:x∈arr.toList.take n):∃ j,j<n∧arr[j]?=some x:=by
 obtain⟨j,hj⟩:=List.mem_iff_getElem?.mp h
 have jk:j<n:=by
  have:=(List.getElem?_eq_some_iff.mp hj).1
  rw[List.length_take]at this;lia
 rw[List.getElem?_take_of_lt jk]at hj
 exact⟨j,jk,by rw[← Array.getElem?_toList];exact hj⟩
theorem za2 {arr:Array Keyed}{n:Nat}{p:Keyed}(h:Srt rk arr.toList) (h1:1≤n) (e:arr[n-1]?=some p):∀ y∈arr.toList.take n,rk y≤rk p:=by
 intro y hy
 obtain⟨j,jn,ej⟩:=za0 hy
 have hn:=(Array.getElem?_eq_some_iff.mp e).1
 have:=zbq h (base:=0) (n:=n) (by lia) j (n-1) (Nat.zero_le _) (by lia) (by lia)
 rw[R_at ej,R_at e]at this
 exact this
end
section
variable {rk:Keyed→Int}{T:List Keyed}{out a b:Array Keyed}{na nb i:Nat}{p q:Keyed}
abbrev Bt (rk:Keyed→Int) (T:List Keyed) (a b out:Array Keyed) (na nb:Nat):Prop:=Hi rk T (a.toList.take na) (b.toList.take nb) out.toList.reverse
theorem Bt.pushA (h:Bt rk T a b out na nb) (h1:1≤na) (e:a[na-1]?=some p) (le:∀ x∈b.toList.take nb,rk x≤rk p):Bt rk T a b (out.push p) (na-1) nb:=by
 have h':=h
 unfold Bt at h' ⊢
 rw[zht h1 e]at h'
 rw[Array.toList_push,List.reverse_append]
 exact Hi.take (c:=[p]) h' fun x hx y hy=>by rw[List.mem_singleton.mp hy];exact le x hx
theorem Bt.pushB (h:Bt rk T a b out na nb) (h1:1≤nb) (e:b[nb-1]?=some p) (le:∀ x∈a.toList.take na,rk x≤rk p):Bt rk T a b (out.push p) na (nb-1):=(Bt.pushA (a:=b) (b:=a) h.swap h1 e le).swap
theorem Bt.cutA (h:Bt rk T a b out na nb) (hi:i≤na) (le:∀ j x,i≤j→j<na→a[j]?=some x→∀ y∈b.toList.take nb,rk y≤rk x):Bt rk T a b (out++(a.extract i na).reverse) i nb:=by
 have h':=h
 unfold Bt at h' ⊢
 rw[zgk a hi]at h'
 rw[Array.toList_append,List.reverse_append,Array.toList_reverse,List.reverse_reverse]
 exact Hi.take h' fun y hy x hx=>by
  obtain⟨j,j1,j2,e⟩:=zb5 hx
  exact le j x j1 j2 e y hy
theorem Bt.cutB (h:Bt rk T a b out na nb) (hi:i≤nb) (le:∀ j x,i≤j→j<nb→b[j]?=some x→∀ y∈a.toList.take na,rk y≤rk x):Bt rk T a b (out++(b.extract i nb).reverse) na i:=(Bt.cutA (a:=b) (b:=a) h.swap hi le).swap
theorem Bt.endA (h:Bt rk T a b out 0 nb):(a.extract 0 0++b.extract 0 nb++out.reverse).toList.Perm T∧Srt rk (a.extract 0 0++b.extract 0 nb++out.reverse).toList:=by
 rw[Array.toList_append,Array.toList_append,zb4,zb4,List.take_zero,List.nil_append,Array.toList_reverse]
 exact Hi.end h
theorem Bt.endB (h:Bt rk T a b out na 0):(a.extract 0 na++b.extract 0 0++out.reverse).toList.Perm T∧Srt rk (a.extract 0 na++b.extract 0 0++out.reverse).toList:=by
 rw[Array.toList_append,Array.toList_append,zb4,zb4,List.take_zero,List.append_nil,Array.toList_reverse]
 exact Hi.end h.swap
theorem Bt.lone (h:Bt rk T a b out na nb) (le:∀ x∈b.toList.take nb,∀ y∈a.toList.take na,rk x≤rk y):(b.extract 0 nb++a.extract 0 na++out.reverse).toList.Perm T∧Srt rk (b.extract 0 nb++a.extract 0 na++out.reverse).toList:=by
 rw[Array.toList_append,Array.toList_append,zb4,zb4,Array.toList_reverse]
 exact Hi.lone h le
end
section
variable {prog:Program}{w:World}{A:Around}{E:Value→Shared→Prop}{s:Shared}{κ:SortKind}{P:Keyed→Prop}{rk:Keyed→Int}{a₀:Array Keyed}
theorem zj3 (C:Cmp prog w A s κ P rk) {st:SortSt}{a b:Array Keyed}{Q:Array Keyed→SortSt→Prop}(hk:kindOf st=κ) (pa:∀ x∈a.toList,P x) (pb:∀ x∈b.toList,P x) (sa:Srt rk a.toList) (sb:Srt rk b.toList) (a1:1≤a.size) (b1:1≤b.size)
  (first:∀ x,b[0]?=some x→∀ y∈a.toList,rk x≤rk y) (last:∀ x,a[a.size-1]?=some x→∀ y∈b.toList,rk y≤rk x)
  (h:∀ r st',Sm st st'→r.toList.Perm (a.toList++b.toList)→Srt rk r.toList→Q r st'):wpS (model prog w) A E s (zgW a b) Q st:=by
 have atA:∀ i,i<a.size→∃ x,a[i]?=some x∧P x:=fun i hi=>⟨_,getElem?_pos a i hi,pa _ (by simp)⟩
 have atB:∀ i,i<b.size→∃ x,b[i]?=some x∧P x:=fun i hi=>⟨_,getElem?_pos b i hi,pb _ (by simp)⟩
 obtain⟨z0,e0,_⟩:=atA (a.size-1) (by lia)
 have lone:∀ {out:Array Keyed}{na:Nat},Bt rk (a.toList++b.toList) a b out na 1→(b.extract 0 1++a.extract 0 na++out.reverse).toList.Perm (a.toList++b.toList)∧Srt rk (b.extract 0 1++a.extract 0 na++out.reverse).toList:=fun {out na} L=>L.lone fun x hx y hy=>by
  obtain⟨j,j1,ej⟩:=za0 hx
  exact first x (by rw[show 0=j by lia];exact ej) y (List.mem_of_mem_take hy)
 have L0:Bt rk (a.toList++b.toList) a b #[z0] (a.size-1) b.size:=by
  have w0:Bt rk (a.toList++b.toList) a b #[] a.size b.size:=by
   have e1:a.toList.take a.size=a.toList:=List.take_of_length_le (by rw[Array.length_toList];exact Nat.le_refl _)
   have e2:b.toList.take b.size=b.toList:=List.take_of_length_le (by rw[Array.length_toList];exact Nat.le_refl _)
   unfold Bt
   rw[e1,e2]
   exact⟨sa,sb,List.Pairwise.nil,fun x hx y hy=>by simp at hy,fun x hx y hy=>by simp at hy,by simp⟩
  exact w0.pushA a1 e0 fun x hx=>last z0 e0 x (List.mem_of_mem_take hx)
 have size:∀ {out:Array Keyed}{na nb:Nat},Bt rk (a.toList++b.toList) a b out na nb→out.size≤a.size+b.size:=fun {out na nb} L=>by
  have:=L.pm.length_eq
  simp only[List.length_append,List.length_reverse,Array.length_toList]at this
  lia
 refine wpS_bind (zbz ?_)
 refine wpS_bind (zan e0 ?_)
 dsimp only
 by_cases z1:a.size-1=0
 ·rw[if_pos (by simpa using z1)]
  rw[z1]at L0 ⊢
  obtain⟨q1,q2⟩:=L0.endA
  exact wpS_pure (h _ _ (Sm.refl _) q1 q2)
 rw[if_neg (by simpa using z1)]
 by_cases z2:b.size=1
 ·rw[if_pos (by simpa using z2)]
  rw[z2]at L0 ⊢
  obtain⟨q1,q2⟩:=lone L0
  exact wpS_pure (h _ _ (Sm.refl _) q1 q2)
 rw[if_neg (by simpa using z2)]
 refine wpS_bind (wpS_get ?_)
 refine wpS_bind (wpS_mono (wpS_forRange (I:=fun i c st1=>Sm st st1∧∃ na nb out g,c=(none,na,nb,out,g)∧Bt rk (a.toList++b.toList) a b out na nb∧1≤na∧na≤a.size∧2≤nb∧nb≤b.size∧i+1≤out.size)
  (Q:=fun c st1=>Sm st st1∧∃ r x,c=(some r,x)∧r.toList.Perm (a.toList++b.toList)∧Srt rk r.toList) ?step ?fin ⟨Sm.refl _,_,_,_,_,rfl,L0,by lia,by lia,by lia,by lia,by simp⟩) ?post)
 case post =>
  rintro c st1 ⟨S1,r,x,rfl,q1,q2⟩
  exact wpS_pure (h _ _ S1 q1 q2)
 case fin =>
  rintro c st1 ⟨S1,na,nb,out,g,rfl,L,_,_,_,_,sz⟩
  have:=size L
  lia
 case step =>
  rintro i c st1 _ hi ⟨S1,na,nb,out,g,rfl,L,la,la',lb,lb',sz⟩
  dsimp only
  refine wpS_bind (wpS_mono (wpS_forRange (I:=fun j c st2=>st2=st1∧∃ na nb out ca cb,c=(none,na,nb,out,ca,cb)∧Bt rk (a.toList++b.toList) a b out na nb∧1≤na∧na≤a.size∧2≤nb∧nb≤b.size∧i+1+j≤out.size)
   (Q:=fun c st2=>st2=st1∧((∃ r x,c=(some r,x)∧r.toList.Perm (a.toList++b.toList)∧Srt rk r.toList)∨∃ na nb out ca cb,c=(none,na,nb,out,ca,cb)∧Bt rk (a.toList++b.toList) a b out na nb∧1≤na∧na≤a.size∧2≤nb∧nb≤b.size∧i+2≤out.size)) ?_ ?_ ⟨rfl,_,_,_,_,_,rfl,L,la,la',lb,lb',by lia⟩) ?_)
  ·rintro j c st2 _ hj ⟨rfl,na,nb,out,ca,cb,rfl,L,la,la',lb,lb',sz⟩
   dsimp only
   obtain⟨x,ex,px⟩:=atA (na-1) (by lia)
   obtain⟨y,ey,py⟩:=atB (nb-1) (by lia)
   refine wpS_bind (zan ey (wpS_bind (zan ex (wpS_bind (zfz C (S1.kind.trans hk) py px ?_)))))
   by_cases z:rk y<rk x
   ·rw[decide_eq_true z]
    dsimp only
    rw[if_pos rfl]
    have L':=L.pushA la ex fun u hu=>Int.le_trans (za2 sb (by lia) ey u hu) (Int.le_of_lt z)
    refine wpS_bind (zan ex ?_)
    by_cases zb:na-1=0
    ·rw[if_pos (by simpa using zb)]
     rw[zb]at L' ⊢
     obtain⟨q1,q2⟩:=L'.endA
     exact wpS_pure ⟨rfl,.inl ⟨_,_,rfl,q1,q2⟩⟩
    ·rw[if_neg (by simpa using zb)]
     by_cases zg:ca+1≥g
     ·rw[if_pos zg]
      exact wpS_pure ⟨rfl,.inr ⟨_,_,_,_,_,rfl,L',by lia,by lia,lb,lb',by rw[Array.size_push];lia⟩⟩
     ·rw[if_neg zg]
      exact wpS_pure ⟨rfl,_,_,_,_,_,rfl,L',by lia,by lia,lb,lb',by rw[Array.size_push];lia⟩
   ·rw[decide_eq_false z]
    dsimp only
    rw[if_neg Bool.false_ne_true]
    have L':=L.pushB (by lia) ey fun u hu=>Int.le_trans (za2 sa la ex u hu) (by lia)
    refine wpS_bind (zan ey ?_)
    by_cases zb:nb-1=1
    ·rw[if_pos (by simpa using zb)]
     rw[zb]at L' ⊢
     obtain⟨q1,q2⟩:=lone L'
     exact wpS_pure ⟨rfl,.inl ⟨_,_,rfl,q1,q2⟩⟩
    ·rw[if_neg (by simpa using zb)]
     by_cases zg:cb+1≥g
     ·rw[if_pos zg]
      exact wpS_pure ⟨rfl,.inr ⟨_,_,_,_,_,rfl,L',la,la',by lia,by lia,by rw[Array.size_push];lia⟩⟩
     ·rw[if_neg zg]
      exact wpS_pure ⟨rfl,_,_,_,_,_,rfl,L',la,la',by lia,by lia,by rw[Array.size_push];lia⟩
  ·rintro c st2 ⟨rfl,na,nb,out,ca,cb,rfl,L,la,la',lb,lb',sz⟩
   have:=size L
   lia
  ·rintro c st2 ⟨rfl,⟨r,x,rfl,q1,q2⟩|⟨na,nb,out,ca,cb,rfl,L,la,la',lb,lb',sz⟩⟩
   ·exact wpS_pure ⟨S1,r,_,rfl,q1,q2⟩
   dsimp only
   refine wpS_bind (zbz ?_)
   refine wpS_bind (wpS_mono (wpS_forRange (I:=fun j c st3=>Sm st st3∧∃ na nb out g ca cb,c=(none,na,nb,out,g,ca,cb)∧Bt rk (a.toList++b.toList) a b out na nb∧1≤na∧na≤a.size∧2≤nb∧nb≤b.size∧i+2≤out.size)
    (Q:=fun c st3=>Sm st st3∧((∃ r x,c=(some r,x)∧r.toList.Perm (a.toList++b.toList)∧Srt rk r.toList)∨∃ na nb out g ca cb,c=(none,na,nb,out,g,ca,cb)∧Bt rk (a.toList++b.toList) a b out na nb∧1≤na∧na≤a.size∧2≤nb∧nb≤b.size∧i+2≤out.size)) ?_ ?_ ⟨S1,_,_,_,_,_,_,rfl,L,la,la',lb,lb',sz⟩) ?_)
   ·rintro j c st3 _ hj ⟨S3,na,nb,out,g,ca,cb,rfl,L,la,la',lb,lb',sz⟩
    dsimp only
    obtain⟨y,ey,py⟩:=atB (nb-1) (by lia)
    by_cases zg:g > 1
    ·rw[if_pos zg]
     refine wpS_bind (zcf fun st4 S4=>?_)
     have S4:=S3.trans S4
     refine wpS_bind (zan ey (wpS_bind (za1 C (S4.kind.trans hk) py (fun t ht=>atA (0+t) (by lia)) (zbq sa (by lia)) (by lia) fun k hk1 g1 g2=>?_)))
     dsimp only
     have L1:=L.cutA (i:=k) hk1 fun t u tk tn eu v hv=>by
      have:=g2 t tk tn
      rw[Nat.zero_add,R_at eu]at this
      unfold bd at this
      simp only[Bool.false_eq_true,if_false,Bool.not_eq_false',decide_eq_true_eq]at this
      have:=za2 sb (by lia) ey v hv
      lia
     have hle:∀ u∈a.toList.take k,rk u≤rk y:=fun u hu=>by
      obtain⟨t,tk,et⟩:=za0 hu
      have:=g1 t tk
      rw[Nat.zero_add,R_at et]at this
      unfold bd at this
      simp only[Bool.false_eq_true,if_false,Bool.not_eq_true',decide_eq_false_iff_not]at this
      lia
     have sz1:i+2≤(out++(a.extract k na).reverse).size:=by rw[Array.size_append];lia
     by_cases zk:na-k > 0
     ·rw[if_pos zk]
      by_cases zc:k=0
      ·rw[if_pos (by simpa using zc)]
       subst zc
       obtain⟨q1,q2⟩:=L1.endA
       exact wpS_pure ⟨S4,.inl ⟨_,_,rfl,q1,q2⟩⟩
      rw[if_neg (by simpa using zc)]
      have ka:1≤k:=by lia
      generalize na-k=kk
      generalize out++(a.extract k na).reverse=out1 at L1 sz1 ⊢
      refine wpS_bind (zan ey ?_)
      have L2:=L1.pushB (by lia) ey hle
      by_cases zb:nb-1=1
      ·rw[if_pos (by simpa using zb)]
       rw[zb]at L2 ⊢
       obtain⟨q1,q2⟩:=lone L2
       exact wpS_pure ⟨S4,.inl ⟨_,_,rfl,q1,q2⟩⟩
      rw[if_neg (by simpa using zb)]
      obtain⟨x1,ex1,px1⟩:=atA (k-1) (by lia)
      refine wpS_bind (zan ex1 (wpS_bind (za1 C (S4.kind.trans hk) px1 (fun t ht=>atB (0+t) (by lia)) (zbq sb (by lia)) (by lia) fun k2 hk2 c1 c2=>?_)))
      dsimp only
      have L3:=L2.cutB (i:=k2) hk2 fun t u tk tn eu v hv=>by
       have:=c2 t tk tn
       rw[Nat.zero_add,R_at eu]at this
       unfold bd at this
       simp only[if_true,decide_eq_false_iff_not]at this
       have:=za2 sa ka ex1 v hv
       lia
      have hle2:∀ u∈b.toList.take k2,rk u≤rk x1:=fun u hu=>by
       obtain⟨t,tk,et⟩:=za0 hu
       have:=c1 t tk
       rw[Nat.zero_add,R_at et]at this
       unfold bd at this
       simp only[if_true,decide_eq_true_eq]at this
       lia
      by_cases zk2:nb-1-k2 > 0
      ·rw[if_pos zk2]
       by_cases zd:k2=1
       ·rw[if_pos (by simpa using zd)]
        subst zd
        obtain⟨q1,q2⟩:=lone L3
        exact wpS_pure ⟨S4,.inl ⟨_,_,rfl,q1,q2⟩⟩
       rw[if_neg (by simpa using zd)]
       by_cases zf:k2=0
       ·rw[if_pos (by simpa using zf)]
        subst zf
        obtain⟨q1,q2⟩:=L3.endB
        exact wpS_pure ⟨S4,.inl ⟨_,_,rfl,q1,q2⟩⟩
       rw[if_neg (by simpa using zf)]
       refine wpS_bind (zan ex1 ?_)
       have L4:=L3.pushA ka ex1 hle2
       by_cases ze:k-1=0
       ·rw[if_pos (by simpa using ze)]
        rw[ze]at L4 ⊢
        obtain⟨q1,q2⟩:=L4.endA
        exact wpS_pure ⟨S4,.inl ⟨_,_,rfl,q1,q2⟩⟩
       rw[if_neg (by simpa using ze)]
       split
       ·exact wpS_pure ⟨S4,.inr ⟨_,_,_,_,_,_,rfl,L4,by lia,by lia,by lia,by lia,by simp only[Array.size_push,Array.size_append];lia⟩⟩
       ·exact wpS_pure ⟨S4,_,_,_,_,_,_,rfl,L4,by lia,by lia,by lia,by lia,by simp only[Array.size_push,Array.size_append];lia⟩
      ·rw[if_neg zk2]
       obtain rfl:k2=nb-1:=by lia
       refine wpS_bind (zan ex1 ?_)
       have L4:=L2.pushA ka ex1 hle2
       by_cases ze:k-1=0
       ·rw[if_pos (by simpa using ze)]
        rw[ze]at L4 ⊢
        obtain⟨q1,q2⟩:=L4.endA
        exact wpS_pure ⟨S4,.inl ⟨_,_,rfl,q1,q2⟩⟩
       rw[if_neg (by simpa using ze)]
       split
       ·exact wpS_pure ⟨S4,.inr ⟨_,_,_,_,_,_,rfl,L4,by lia,by lia,by lia,by lia,by simp only[Array.size_push,Array.size_append];lia⟩⟩
       ·exact wpS_pure ⟨S4,_,_,_,_,_,_,rfl,L4,by lia,by lia,by lia,by lia,by simp only[Array.size_push,Array.size_append];lia⟩
     ·rw[if_neg zk]
      obtain rfl:k=na:=by lia
      have L1:=L
      have ka:=la
      have sz1:=sz
      generalize k-k=kk
      refine wpS_bind (zan ey ?_)
      have L2:=L1.pushB (by lia) ey hle
      by_cases zb:nb-1=1
      ·rw[if_pos (by simpa using zb)]
       rw[zb]at L2 ⊢
       obtain⟨q1,q2⟩:=lone L2
       exact wpS_pure ⟨S4,.inl ⟨_,_,rfl,q1,q2⟩⟩
      rw[if_neg (by simpa using zb)]
      obtain⟨x1,ex1,px1⟩:=atA (k-1) (by lia)
      refine wpS_bind (zan ex1 (wpS_bind (za1 C (S4.kind.trans hk) px1 (fun t ht=>atB (0+t) (by lia)) (zbq sb (by lia)) (by lia) fun k2 hk2 c1 c2=>?_)))
      dsimp only
      have L3:=L2.cutB (i:=k2) hk2 fun t u tk tn eu v hv=>by
       have:=c2 t tk tn
       rw[Nat.zero_add,R_at eu]at this
       unfold bd at this
       simp only[if_true,decide_eq_false_iff_not]at this
       have:=za2 sa ka ex1 v hv
       lia
      have hle2:∀ u∈b.toList.take k2,rk u≤rk x1:=fun u hu=>by
       obtain⟨t,tk,et⟩:=za0 hu
       have:=c1 t tk
       rw[Nat.zero_add,R_at et]at this
       unfold bd at this
       simp only[if_true,decide_eq_true_eq]at this
       lia
      by_cases zk2:nb-1-k2 > 0
      ·rw[if_pos zk2]
       by_cases zd:k2=1
       ·rw[if_pos (by simpa using zd)]
        subst zd
        obtain⟨q1,q2⟩:=lone L3
        exact wpS_pure ⟨S4,.inl ⟨_,_,rfl,q1,q2⟩⟩
       rw[if_neg (by simpa using zd)]
       by_cases zf:k2=0
       ·rw[if_pos (by simpa using zf)]
        subst zf
        obtain⟨q1,q2⟩:=L3.endB
        exact wpS_pure ⟨S4,.inl ⟨_,_,rfl,q1,q2⟩⟩
       rw[if_neg (by simpa using zf)]
       refine wpS_bind (zan ex1 ?_)
       have L4:=L3.pushA ka ex1 hle2
       by_cases ze:k-1=0
       ·rw[if_pos (by simpa using ze)]
        rw[ze]at L4 ⊢
        obtain⟨q1,q2⟩:=L4.endA
        exact wpS_pure ⟨S4,.inl ⟨_,_,rfl,q1,q2⟩⟩
       rw[if_neg (by simpa using ze)]
       split
       ·exact wpS_pure ⟨S4,.inr ⟨_,_,_,_,_,_,rfl,L4,by lia,by lia,by lia,by lia,by simp only[Array.size_push,Array.size_append];lia⟩⟩
       ·exact wpS_pure ⟨S4,_,_,_,_,_,_,rfl,L4,by lia,by lia,by lia,by lia,by simp only[Array.size_push,Array.size_append];lia⟩
      ·rw[if_neg zk2]
       obtain rfl:k2=nb-1:=by lia
       refine wpS_bind (zan ex1 ?_)
       have L4:=L2.pushA ka ex1 hle2
       by_cases ze:k-1=0
       ·rw[if_pos (by simpa using ze)]
        rw[ze]at L4 ⊢
        obtain⟨q1,q2⟩:=L4.endA
        exact wpS_pure ⟨S4,.inl ⟨_,_,rfl,q1,q2⟩⟩
       rw[if_neg (by simpa using ze)]
       split
       ·exact wpS_pure ⟨S4,.inr ⟨_,_,_,_,_,_,rfl,L4,by lia,by lia,by lia,by lia,by simp only[Array.size_push,Array.size_append];lia⟩⟩
       ·exact wpS_pure ⟨S4,_,_,_,_,_,_,rfl,L4,by lia,by lia,by lia,by lia,by simp only[Array.size_push,Array.size_append];lia⟩
    ·rw[if_neg zg]
     refine wpS_bind (zcf fun st4 S4=>?_)
     have S4:=S3.trans S4
     refine wpS_bind (zan ey (wpS_bind (za1 C (S4.kind.trans hk) py (fun t ht=>atA (0+t) (by lia)) (zbq sa (by lia)) (by lia) fun k hk1 g1 g2=>?_)))
     dsimp only
     have L1:=L.cutA (i:=k) hk1 fun t u tk tn eu v hv=>by
      have:=g2 t tk tn
      rw[Nat.zero_add,R_at eu]at this
      unfold bd at this
      simp only[Bool.false_eq_true,if_false,Bool.not_eq_false',decide_eq_true_eq]at this
      have:=za2 sb (by lia) ey v hv
      lia
     have hle:∀ u∈a.toList.take k,rk u≤rk y:=fun u hu=>by
      obtain⟨t,tk,et⟩:=za0 hu
      have:=g1 t tk
      rw[Nat.zero_add,R_at et]at this
      unfold bd at this
      simp only[Bool.false_eq_true,if_false,Bool.not_eq_true',decide_eq_false_iff_not]at this
      lia
     have sz1:i+2≤(out++(a.extract k na).reverse).size:=by rw[Array.size_append];lia
     by_cases zk:na-k > 0
     ·rw[if_pos zk]
      by_cases zc:k=0
      ·rw[if_pos (by simpa using zc)]
       subst zc
       obtain⟨q1,q2⟩:=L1.endA
       exact wpS_pure ⟨S4,.inl ⟨_,_,rfl,q1,q2⟩⟩
      rw[if_neg (by simpa using zc)]
      have ka:1≤k:=by lia
      generalize na-k=kk
      generalize out++(a.extract k na).reverse=out1 at L1 sz1 ⊢
      refine wpS_bind (zan ey ?_)
      have L2:=L1.pushB (by lia) ey hle
      by_cases zb:nb-1=1
      ·rw[if_pos (by simpa using zb)]
       rw[zb]at L2 ⊢
       obtain⟨q1,q2⟩:=lone L2
       exact wpS_pure ⟨S4,.inl ⟨_,_,rfl,q1,q2⟩⟩
      rw[if_neg (by simpa using zb)]
      obtain⟨x1,ex1,px1⟩:=atA (k-1) (by lia)
      refine wpS_bind (zan ex1 (wpS_bind (za1 C (S4.kind.trans hk) px1 (fun t ht=>atB (0+t) (by lia)) (zbq sb (by lia)) (by lia) fun k2 hk2 c1 c2=>?_)))
      dsimp only
      have L3:=L2.cutB (i:=k2) hk2 fun t u tk tn eu v hv=>by
       have:=c2 t tk tn
       rw[Nat.zero_add,R_at eu]at this
       unfold bd at this
       simp only[if_true,decide_eq_false_iff_not]at this
       have:=za2 sa ka ex1 v hv
       lia
      have hle2:∀ u∈b.toList.take k2,rk u≤rk x1:=fun u hu=>by
       obtain⟨t,tk,et⟩:=za0 hu
       have:=c1 t tk
       rw[Nat.zero_add,R_at et]at this
       unfold bd at this
       simp only[if_true,decide_eq_true_eq]at this
       lia
      by_cases zk2:nb-1-k2 > 0
      ·rw[if_pos zk2]
       by_cases zd:k2=1
       ·rw[if_pos (by simpa using zd)]
        subst zd
        obtain⟨q1,q2⟩:=lone L3
        exact wpS_pure ⟨S4,.inl ⟨_,_,rfl,q1,q2⟩⟩
       rw[if_neg (by simpa using zd)]
       by_cases zf:k2=0
       ·rw[if_pos (by simpa using zf)]
        subst zf
        obtain⟨q1,q2⟩:=L3.endB
        exact wpS_pure ⟨S4,.inl ⟨_,_,rfl,q1,q2⟩⟩
       rw[if_neg (by simpa using zf)]
       refine wpS_bind (zan ex1 ?_)
       have L4:=L3.pushA ka ex1 hle2
       by_cases ze:k-1=0
       ·rw[if_pos (by simpa using ze)]
        rw[ze]at L4 ⊢
        obtain⟨q1,q2⟩:=L4.endA
        exact wpS_pure ⟨S4,.inl ⟨_,_,rfl,q1,q2⟩⟩
       rw[if_neg (by simpa using ze)]
       split
       ·exact wpS_pure ⟨S4,.inr ⟨_,_,_,_,_,_,rfl,L4,by lia,by lia,by lia,by lia,by simp only[Array.size_push,Array.size_append];lia⟩⟩
       ·exact wpS_pure ⟨S4,_,_,_,_,_,_,rfl,L4,by lia,by lia,by lia,by lia,by simp only[Array.size_push,Array.size_append];lia⟩
      ·rw[if_neg zk2]
       obtain rfl:k2=nb-1:=by lia
       refine wpS_bind (zan ex1 ?_)
       have L4:=L2.pushA ka ex1 hle2
       by_cases ze:k-1=0
       ·rw[if_pos (by simpa using ze)]
        rw[ze]at L4 ⊢
        obtain⟨q1,q2⟩:=L4.endA
        exact wpS_pure ⟨S4,.inl ⟨_,_,rfl,q1,q2⟩⟩
       rw[if_neg (by simpa using ze)]
       split
       ·exact wpS_pure ⟨S4,.inr ⟨_,_,_,_,_,_,rfl,L4,by lia,by lia,by lia,by lia,by simp only[Array.size_push,Array.size_append];lia⟩⟩
       ·exact wpS_pure ⟨S4,_,_,_,_,_,_,rfl,L4,by lia,by lia,by lia,by lia,by simp only[Array.size_push,Array.size_append];lia⟩
     ·rw[if_neg zk]
      obtain rfl:k=na:=by lia
      have L1:=L
      have ka:=la
      have sz1:=sz
      generalize k-k=kk
      refine wpS_bind (zan ey ?_)
      have L2:=L1.pushB (by lia) ey hle
      by_cases zb:nb-1=1
      ·rw[if_pos (by simpa using zb)]
       rw[zb]at L2 ⊢
       obtain⟨q1,q2⟩:=lone L2
       exact wpS_pure ⟨S4,.inl ⟨_,_,rfl,q1,q2⟩⟩
      rw[if_neg (by simpa using zb)]
      obtain⟨x1,ex1,px1⟩:=atA (k-1) (by lia)
      refine wpS_bind (zan ex1 (wpS_bind (za1 C (S4.kind.trans hk) px1 (fun t ht=>atB (0+t) (by lia)) (zbq sb (by lia)) (by lia) fun k2 hk2 c1 c2=>?_)))
      dsimp only
      have L3:=L2.cutB (i:=k2) hk2 fun t u tk tn eu v hv=>by
       have:=c2 t tk tn
       rw[Nat.zero_add,R_at eu]at this
       unfold bd at this
       simp only[if_true,decide_eq_false_iff_not]at this
       have:=za2 sa ka ex1 v hv
       lia
      have hle2:∀ u∈b.toList.take k2,rk u≤rk x1:=fun u hu=>by
       obtain⟨t,tk,et⟩:=za0 hu
       have:=c1 t tk
       rw[Nat.zero_add,R_at et]at this
       unfold bd at this
       simp only[if_true,decide_eq_true_eq]at this
       lia
      by_cases zk2:nb-1-k2 > 0
      ·rw[if_pos zk2]
       by_cases zd:k2=1
       ·rw[if_pos (by simpa using zd)]
        subst zd
        obtain⟨q1,q2⟩:=lone L3
        exact wpS_pure ⟨S4,.inl ⟨_,_,rfl,q1,q2⟩⟩
       rw[if_neg (by simpa using zd)]
       by_cases zf:k2=0
       ·rw[if_pos (by simpa using zf)]
        subst zf
        obtain⟨q1,q2⟩:=L3.endB
        exact wpS_pure ⟨S4,.inl ⟨_,_,rfl,q1,q2⟩⟩
       rw[if_neg (by simpa using zf)]
       refine wpS_bind (zan ex1 ?_)
       have L4:=L3.pushA ka ex1 hle2
       by_cases ze:k-1=0
       ·rw[if_pos (by simpa using ze)]
        rw[ze]at L4 ⊢
        obtain⟨q1,q2⟩:=L4.endA
        exact wpS_pure ⟨S4,.inl ⟨_,_,rfl,q1,q2⟩⟩
       rw[if_neg (by simpa using ze)]
       split
       ·exact wpS_pure ⟨S4,.inr ⟨_,_,_,_,_,_,rfl,L4,by lia,by lia,by lia,by lia,by simp only[Array.size_push,Array.size_append];lia⟩⟩
       ·exact wpS_pure ⟨S4,_,_,_,_,_,_,rfl,L4,by lia,by lia,by lia,by lia,by simp only[Array.size_push,Array.size_append];lia⟩
      ·rw[if_neg zk2]
       obtain rfl:k2=nb-1:=by lia
       refine wpS_bind (zan ex1 ?_)
       have L4:=L2.pushA ka ex1 hle2
       by_cases ze:k-1=0
       ·rw[if_pos (by simpa using ze)]
        rw[ze]at L4 ⊢
        obtain⟨q1,q2⟩:=L4.endA
        exact wpS_pure ⟨S4,.inl ⟨_,_,rfl,q1,q2⟩⟩
       rw[if_neg (by simpa using ze)]
       split
       ·exact wpS_pure ⟨S4,.inr ⟨_,_,_,_,_,_,rfl,L4,by lia,by lia,by lia,by lia,by simp only[Array.size_push,Array.size_append];lia⟩⟩
       ·exact wpS_pure ⟨S4,_,_,_,_,_,_,rfl,L4,by lia,by lia,by lia,by lia,by simp only[Array.size_push,Array.size_append];lia⟩
   ·rintro c st3 ⟨S3,na,nb,out,g,ca,cb,rfl,L,la,la',lb,lb',sz⟩
    exact⟨S3,.inr ⟨_,_,_,_,_,_,rfl,L,la,la',lb,lb',sz⟩⟩
   ·rintro c st3 ⟨S3,⟨r,x,rfl,q1,q2⟩|⟨na,nb,out,g,ca,cb,rfl,L,la,la',lb,lb',sz⟩⟩
    ·exact wpS_pure ⟨S3,r,_,rfl,q1,q2⟩
    dsimp only
    refine wpS_bind (zcf fun st4 S4=>?_)
    exact wpS_pure ⟨S3.trans S4,_,_,_,_,rfl,L,la,la',lb,lb',by lia⟩
end
section
variable {rk:Keyed→Int}
theorem zca (b:Nat):∀ (l:List Keyed) (o:Nat) (arr:Array Keyed),b+o+l.length≤arr.size→(List.foldl (fun (a:Array Keyed) (x:Keyed × Nat)=>a.setIfInBounds (b+x.2) x.1) arr (l.zipIdx o)).toList=arr.toList.take (b+o)++l++arr.toList.drop (b+o+l.length)
 | [],o,arr,_=>by
  show arr.toList=_
  rw[List.append_nil,List.length_nil,Nat.add_zero,List.take_append_drop]
 | x::l,o,arr,h=>by
  rw[List.length_cons]at h
  rw[List.zipIdx_cons,List.foldl_cons,zca b l (o+1) _ (by rw[Array.size_setIfInBounds];lia)]
  have hl:b+o<arr.toList.length:=by rw[Array.length_toList];lia
  rw[Array.toList_setIfInBounds,← Nat.add_assoc,List.drop_set_of_lt (by lia),List.length_cons,show b+o+1+l.length=b+o+(l.length+1) by lia]
  have e:(arr.toList.set (b+o) x).take (b+o+1)=arr.toList.take (b+o)++[x]:=by
   rw[List.take_succ_eq_append_getElem (by rw[List.length_set];exact hl),List.getElem_set_self,List.take_set_of_le (Nat.le_refl _)]
  rw[e,List.append_assoc (arr.toList.take (b+o)) [x] l]
  rfl
theorem zf4 {arr:Array Keyed}{i n j:Nat}(h:i+j<n) (hn:n≤arr.size):(arr.extract i n)[j]?=arr[i+j]?:=by
 rw[Array.getElem?_extract_of_lt (by lia)]
 exact(getElem?_pos arr (i+j) (by lia)).symm
theorem zeL {arr:Array Keyed}{lo n:Nat}(h:Up rk arr lo n) (hn:lo+n≤arr.size):Srt rk (arr.extract lo (lo+n)).toList:=by
 refine List.pairwise_iff_getElem.mpr fun i j hi hj ij=>?_
 have hs:(arr.extract lo (lo+n)).size=n:=by rw[Array.size_extract];lia
 rw[Array.length_toList,hs]at hi hj
 have:=h (lo+i) (lo+j) (by lia) (by lia) (by lia)
 rw[R_at (getElem?_pos arr (lo+i) (by lia)),R_at (getElem?_pos arr (lo+j) (by lia))]at this
 simpa using this
end
section
variable {prog:Program}{w:World}{A:Around}{E:Value→Shared→Prop}{s:Shared}{κ:SortKind}{P:Keyed→Prop}{rk:Keyed→Int}{a₀:Array Keyed}
theorem zj7 (C:Cmp prog w A s κ P rk) {st:SortSt}{Q:Bool→SortSt→Prop}{i sa na p sb nb q:Nat}(hB:Bs κ P a₀ st) (e1:(pendingOf st)[i]?=some (sa,na,p)) (e2:(pendingOf st)[i+1]?=some (sb,nb,q)) (hs:sb=sa+na) (n1:1≤na) (n2:1≤nb) (hz:sb+nb≤a₀.size)
  (ua:Up rk (arrOf st) sa na) (ub:Up rk (arrOf st) sb nb)
  (h:∀ st',Bs κ P a₀ st'→pendingOf st'=((pendingOf st).setIfInBounds i (sa,na+nb,p)).eraseIdxIfInBounds (i+1)→(∀ k,k<sa∨sb+nb≤k→R rk (arrOf st') k=R rk (arrOf st) k)→Up rk (arrOf st') sa (na+nb)→Q true st'):wpS (model prog w) A E s (mergeAt' i) Q st:=by
 refine wpS_bind (wpS_get ?_)
 dsimp only
 rw[e1,e2]
 dsimp only
 obtain⟨b0,eb0,pb0,rb0⟩:=hB.at (i:=sb) (by lia) rk
 have sz:=hB.size
 have setS:∀ {st1 st2:SortSt}{Q':PUnit→SortSt→Prop},Q' ⟨⟩ st2→wpS (model prog w) A E s (set st2:StateT SortSt Sem PUnit) Q' st1:=fun {st1 st2 Q'} hq=>by
  unfold wpS;rw[StateT.run_set];exact wpAny_pure ⟨rfl,hq⟩
 refine wpS_bind (setS (st2:=SortSt.mk' (kindOf st) (arrOf st) (((pendingOf st).setIfInBounds i (sa,na+nb,p)).eraseIdxIfInBounds (i+1)) (gallopOf st) (failedOf st)) ?_)
 generalize hS1:SortSt.mk' (kindOf st) (arrOf st) (((pendingOf st).setIfInBounds i (sa,na+nb,p)).eraseIdxIfInBounds (i+1)) (gallopOf st) (failedOf st)=st1
 have hB1:Bs κ P a₀ st1:=by rw[← hS1];exact⟨hB.kind,hB.fail,hB.perm,hB.all⟩
 have ea:arrOf st1=arrOf st:=by rw[← hS1]
 have ep:pendingOf st1=((pendingOf st).setIfInBounds i (sa,na+nb,p)).eraseIdxIfInBounds (i+1):=by rw[← hS1]
 have pat:∀ j,j<a₀.size→∃ x,(arrOf st)[j]?=some x∧P x:=fun j hj=>by
  obtain⟨x,ex,px,_⟩:=hB.at hj rk
  exact⟨x,ex,px⟩
 refine wpS_bind (zan eb0 (wpS_bind (za1 (arr:=arrOf st) C hB1.kind pb0 (fun t ht=>pat (sa+t) (by lia)) ua (by lia) fun k hk1 g1 g2=>?_)))
 dsimp only
 have f1:∀ j,sa≤j→j<sa+k→R rk (arrOf st) j≤rk b0:=fun j j1 j2=>by
  have:=g1 (j-sa) (by lia)
  rw[show sa+(j-sa)=j by lia]at this
  unfold bd at this
  simp only[Bool.false_eq_true,if_false,Bool.not_eq_true',decide_eq_false_iff_not]at this
  lia
 have f2:∀ j,sa+k≤j→j<sb→rk b0≤R rk (arrOf st) j:=fun j j1 j2=>by
  have:=g2 (j-sa) (by lia) (by lia)
  rw[show sa+(j-sa)=j by lia]at this
  unfold bd at this
  simp only[Bool.false_eq_true,if_false,Bool.not_eq_false',decide_eq_true_eq]at this
  lia
 have f0:∀ j,sb≤j→j<sb+nb→rk b0≤R rk (arrOf st) j:=fun j j1 j2=>by rw[← rb0];exact ub _ _ (Nat.le_refl _) j1 j2
 by_cases zk:na-k=0
 ·rw[if_pos (by simpa using zk)]
  refine wpS_pure (h st1 hB1 ep (fun j _=>by rw[ea]) fun x y hx hxy hy=>?_)
  rw[ea]
  by_cases q1:y<sb
  ·exact ua _ _ hx hxy (by lia)
  ·by_cases q2:sb≤x
   ·exact ub _ _ q2 hxy (by lia)
   ·exact Int.le_trans (f1 x hx (by lia)) (f0 y (by lia) (by lia))
 rw[if_neg (by simpa using zk)]
 have ka:sa+k+(na-k)-1=sb-1:=by lia
 rw[ka]
 obtain⟨l0,el0,pl0,rl0⟩:=hB.at (i:=sb-1) (by lia) rk
 refine wpS_bind (zan el0 (wpS_bind (za1 (arr:=arrOf st) C hB1.kind pl0 (fun t ht=>pat (sb+t) (by lia)) ub (by lia) fun n hn1 c1 c2=>?_)))
 dsimp only
 have f3:∀ j,sb≤j→j<sb+n→R rk (arrOf st) j≤rk l0:=fun j j1 j2=>by
  have:=c1 (j-sb) (by lia)
  rw[show sb+(j-sb)=j by lia]at this
  unfold bd at this
  simp only[if_true,decide_eq_true_eq]at this
  lia
 have f4:∀ j,sb+n≤j→j<sb+nb→rk l0≤R rk (arrOf st) j:=fun j j1 j2=>by
  have:=c2 (j-sb) (by lia) (by lia)
  rw[show sb+(j-sb)=j by lia]at this
  unfold bd at this
  simp only[if_true,decide_eq_false_iff_not]at this
  lia
 have f5:∀ j,sa≤j→j<sb→R rk (arrOf st) j≤rk l0:=fun j j1 j2=>by rw[← rl0];exact ua _ _ j1 (by lia) (by lia)
 by_cases zn:n=0
 ·rw[if_pos (by simpa using zn)]
  refine wpS_pure (h st1 hB1 ep (fun j _=>by rw[ea]) fun x y hx hxy hy=>?_)
  rw[ea]
  by_cases q1:y<sb
  ·exact ua _ _ hx hxy (by lia)
  ·by_cases q2:sb≤x
   ·exact ub _ _ q2 hxy (by lia)
   ·exact Int.le_trans (f5 x hx (by lia)) (f4 y (by lia) (by lia))
 rw[if_neg (by simpa using zn)]
 have sx:((arrOf st).extract (sa+k) sb).size=na-k:=by rw[Array.size_extract];lia
 have sy:((arrOf st).extract sb (sb+n)).size=n:=by rw[Array.size_extract];lia
 have px:∀ x∈((arrOf st).extract (sa+k) sb).toList,P x:=fun x hx=>by
  obtain⟨j,j1,j2,ej⟩:=zb5 hx
  obtain⟨y,ey,py⟩:=pat j (by lia)
  rw[ej]at ey;cases ey;exact py
 have py:∀ x∈((arrOf st).extract sb (sb+n)).toList,P x:=fun x hx=>by
  obtain⟨j,j1,j2,ej⟩:=zb5 hx
  obtain⟨y,ey,py⟩:=pat j (by lia)
  rw[ej]at ey;cases ey;exact py
 have ox:Srt rk ((arrOf st).extract (sa+k) sb).toList:=by
  have:=zeL (rk:=rk) (arr:=arrOf st) (lo:=sa+k) (n:=na-k) (fun x y hx hxy hy=>ua x y (by lia) hxy (by lia)) (by lia)
  rwa [show sa+k+(na-k)=sb by lia]at this
 have oy:Srt rk ((arrOf st).extract sb (sb+n)).toList:=zeL (fun x y hx hxy hy=>ub x y (by lia) hxy (by lia)) (by lia)
 have first:∀ x,((arrOf st).extract sb (sb+n))[0]?=some x→∀ y∈((arrOf st).extract (sa+k) sb).toList,rk x≤rk y:=fun x ex y hy=>by
  rw[zf4 (by lia) (by lia),Nat.add_zero,eb0]at ex
  obtain⟨j,j1,j2,ej⟩:=zb5 hy
  have:=f2 j j1 j2
  rw[R_at ej]at this
  cases ex;exact this
 have last:∀ x,((arrOf st).extract (sa+k) sb)[((arrOf st).extract (sa+k) sb).size-1]?=some x→∀ y∈((arrOf st).extract sb (sb+n)).toList,rk y≤rk x:=fun x ex y hy=>by
  rw[sx,zf4 (by lia) (by lia),show sa+k+(na-k-1)=sb-1 by lia,el0]at ex
  obtain⟨j,j1,j2,ej⟩:=zb5 hy
  have:=f3 j j1 (by lia)
  rw[R_at ej]at this
  cases ex;exact this
 have fin:∀ (m:Array Keyed) (st2:SortSt),Sm st1 st2→m.toList.Perm (((arrOf st).extract (sa+k) sb).toList++((arrOf st).extract sb (sb+n)).toList)→Srt rk m.toList →
   wpS (model prog w) A E s (do
    modify fun s=>setArr s (m.toList.zipIdx.foldl (fun (a:Array Keyed) (x:Keyed × Nat)=>a.setIfInBounds (sa+k+x.2) x.1) (arrOf s))
    let s' ← get
    pure (failedOf s').isNone) Q st2:=by
  intro m st2 S2 pm sm
  have ea2:arrOf st2=arrOf st:=S2.arr.trans ea
  have ml:m.toList.length=na-k+n:=by rw[pm.length_eq,List.length_append,Array.length_toList,Array.length_toList,sx,sy]
  have wl:=zca (sa+k) m.toList 0 (arrOf st2) (by rw[ea2,sz,ml];lia)
  generalize hW:List.foldl (fun (a:Array Keyed) (x:Keyed × Nat)=>a.setIfInBounds (sa+k+x.2) x.1) (arrOf st2) m.toList.zipIdx=W at wl
  rw[Nat.add_zero,ml,ea2,show sa+k+(na-k+n)=sb+n by lia]at wl
  have cutL:(arrOf st).toList=(arrOf st).toList.take (sa+k)++(((arrOf st).extract (sa+k) sb).toList++((arrOf st).extract sb (sb+n)).toList)++(arrOf st).toList.drop (sb+n):=by
   have d1:=zcS (arrOf st) (sa+k) (na-k)
   rw[show sa+k+(na-k)=sb by lia]at d1
   have d2:=zcS (arrOf st) sb n
   rw[List.append_assoc,List.append_assoc,← d2,← d1,List.take_append_drop]
  have pw:W.Perm (arrOf st):=by
   rw[Array.perm_iff_toList_perm,wl]
   conv=>rhs;rw[cutL]
   exact((pm.append_left _).append_right _)
  have lt0:((arrOf st).toList.take (sa+k)).length=sa+k:=by rw[List.length_take,Array.length_toList,sz];lia
  have wsz:W.size=a₀.size:=by rw[pw.size_eq,sz]
  have out1:∀ j,j<sa+k→R rk W j=R rk (arrOf st) j:=fun j hj=>R_congr (by
   rw[← Array.getElem?_toList,← Array.getElem?_toList,wl,List.append_assoc,List.getElem?_append_left (by rw[lt0];exact hj),List.getElem?_take_of_lt hj])
  have out2:∀ j,sb+n≤j→R rk W j=R rk (arrOf st) j:=fun j hj=>R_congr (by
   rw[← Array.getElem?_toList,← Array.getElem?_toList,wl,List.getElem?_append_right (by rw[List.length_append,lt0,ml];lia),List.length_append,lt0,ml,List.getElem?_drop]
   congr 1;lia)
  have mid:∀ j,sa+k≤j→j<sb+n→∃ x,m[j-(sa+k)]?=some x∧R rk W j=rk x:=fun j j1 j2=>by
   have jl:j-(sa+k)<m.size:=by rw[← Array.length_toList,ml];lia
   refine⟨_,getElem?_pos m _ jl,R_at ?_⟩
   rw[← Array.getElem?_toList,wl,List.append_assoc,List.getElem?_append_right (by rw[lt0];exact j1),lt0,List.getElem?_append_left (by rw[ml];lia),Array.getElem?_toList]
   exact getElem?_pos m _ jl
  have kids:∀ j x,m[j]?=some x→∃ t,((sa+k≤t∧t<sb)∨(sb≤t∧t<sb+n))∧R rk (arrOf st) t=rk x:=fun j x ex=>by
   have hm:x∈m.toList:=by
    obtain⟨hj,e⟩:=Array.getElem?_eq_some_iff.mp ex
    rw[← e];simp
   rcases List.mem_append.mp (pm.mem_iff.mp hm) with u|u
   ·obtain⟨t,t1,t2,et⟩:=zb5 u
    exact⟨t,.inl ⟨t1,t2⟩,R_at et⟩
   ·obtain⟨t,t1,t2,et⟩:=zb5 u
    exact⟨t,.inr ⟨t1,t2⟩,R_at et⟩
  refine wpS_bind (wpS_modify (wpS_bind (wpS_get (wpS_pure ?_))))
  rw[hW]
  have ff:(failedOf (setArr st2 W)).isNone=true:=by
   show (failedOf st2).isNone=true
   rw[S2.fail,hB1.fail];rfl
  rw[ff]
  refine h _ ⟨S2.kind.trans hB1.kind,S2.fail.trans hB1.fail,pw.trans hB.perm,hB.all⟩ (S2.pend.trans ep) (fun j hj=>?_) fun x y hx hxy hy=>?_
  ·rcases hj with hj|hj
   ·exact out1 j (by lia)
   ·exact out2 j (by lia)
  ·show R rk W x≤R rk W y
   by_cases x1:x<sa+k
   ·rw[out1 x x1]
    by_cases y1:y<sa+k
    ·rw[out1 y y1];exact ua _ _ hx hxy (by lia)
    ·by_cases y2:y<sb+n
     ·obtain⟨v,ev,rv⟩:=mid y (by lia) y2
      obtain⟨t,ht,rt⟩:=kids _ v ev
      rw[rv,← rt]
      rcases ht with ⟨t1,t2⟩|⟨t1,t2⟩
      ·exact ua _ _ hx (by lia) (by lia)
      ·exact Int.le_trans (f1 x hx x1) (f0 t t1 (by lia))
     ·rw[out2 y (by lia)]
      exact Int.le_trans (f1 x hx x1) (f0 y (by lia) (by lia))
   ·by_cases x2:x<sb+n
    ·obtain⟨u,eu,ru⟩:=mid x (by lia) x2
     rw[ru]
     by_cases y2:y<sb+n
     ·obtain⟨v,ev,rv⟩:=mid y (by lia) y2
      rw[rv]
      have:=zbq sm (base:=0) (n:=m.size) (by lia) (x-(sa+k)) (y-(sa+k)) (Nat.zero_le _) (by lia) (by
       have:=(Array.getElem?_eq_some_iff.mp ev).1
       lia)
      rwa [R_at eu,R_at ev]at this
     ·rw[out2 y (by lia)]
      obtain⟨t,ht,rt⟩:=kids _ u eu
      rw[← rt]
      rcases ht with ⟨t1,t2⟩|⟨t1,t2⟩
      ·exact Int.le_trans (f5 t (by lia) t2) (f4 y (by lia) (by lia))
      ·exact ub _ _ t1 (by lia) (by lia)
    ·rw[out2 x (by lia),out2 y (by lia)]
     exact ub _ _ (by lia) hxy (by lia)
 split
 ·exact wpS_bind (zjX C hB1.kind px py ox oy (by rw[sx];lia) (by rw[sy];lia) first last fun m st2 S2 pm sm=>fin m st2 S2 pm sm)
 ·exact wpS_bind (zj3 C hB1.kind px py ox oy (by rw[sx];lia) (by rw[sy];lia) first last fun m st2 S2 pm sm=>fin m st2 S2 pm sm)
end
abbrev Run:=Nat × Nat × Nat
def Runs:List Run→Nat→Nat→Prop
 | [],u,v=>u=v
 | x::r,u,v=>x.1=u∧1≤x.2.1∧Runs r (u+x.2.1) v
theorem Runs.cut:∀ {l r:List Run}{u v:Nat},Runs (l++r) u v→∃ m,Runs l u m∧Runs r m v
 | [],_,u,_,h=>⟨u,rfl,h⟩
 | x::l,r,u,v,⟨h1,h2,h3⟩=>by
  obtain⟨m,a,b⟩:=Runs.cut (l:=l) (r:=r) h3
  exact⟨m,⟨h1,h2,a⟩,b⟩
theorem Runs.app:∀ {l r:List Run}{u m v:Nat},Runs l u m→Runs r m v→Runs (l++r) u v
 | [],_,_,_,_,h,g=>by cases h;exact g
 | x::l,r,u,m,v,⟨h1,h2,h3⟩,g=>⟨h1,h2,Runs.app h3 g⟩
theorem Runs.len:∀ {l:List Run}{u v:Nat},Runs l u v→u+l.length≤v
 | [],_,_,h=>by cases h;exact Nat.le_refl _
 | x::l,u,v,⟨h1,h2,h3⟩=>by
  have:=Runs.len h3
  rw[List.length_cons];lia
theorem Runs.mem:∀ {l:List Run}{u v:Nat}{x:Run},Runs l u v→x∈l→u≤x.1∧1≤x.2.1∧x.1+x.2.1≤v
 | y::l,u,v,x,⟨h1,h2,h3⟩,hx=>by
  rcases List.mem_cons.mp hx with rfl|hx2
  ·have:=Runs.len h3;lia
  ·have:=Runs.mem h3 hx2;lia
theorem Runs.modify {f:Run→Run}(hf:∀ x,(f x).1=x.1∧(f x).2.1=x.2.1):∀ {l:List Run}{i u v:Nat},Runs l u v→Runs (l.modify i f) u v
 | [],i,_,_,h=>by cases i<;>exact h
 | x::l,0,u,v,⟨h1,h2,h3⟩=>by
  rw[List.modify_zero_cons]
  refine⟨(hf x).1.trans h1,by rw[(hf x).2];exact h2,by rw[(hf x).2];exact h3⟩
 | x::l,i+1,u,v,⟨h1,h2,h3⟩=>by
  rw[List.modify_succ_cons]
  exact⟨h1,h2,Runs.modify hf h3⟩
theorem zbA {f:Run→Run}(hf:∀ x,(f x).1=x.1∧(f x).2.1=x.2.1):∀ {l:List Run}{i:Nat}{x:Run},x∈l.modify i f→∃ y∈l,x.1=y.1∧x.2.1=y.2.1
 | [],i,x,h=>by cases i<;>simp at h
 | y::l,0,x,h=>by
  rw[List.modify_zero_cons]at h
  rcases List.mem_cons.mp h with rfl|h2
  ·exact⟨y,List.mem_cons_self,(hf y).1,(hf y).2⟩
  ·exact⟨x,List.mem_cons_of_mem _ h2,rfl,rfl⟩
 | y::l,i+1,x,h=>by
  rw[List.modify_succ_cons]at h
  rcases List.mem_cons.mp h with rfl|h2
  ·exact⟨x,List.mem_cons_self,rfl,rfl⟩
  ·obtain⟨z,hz,e⟩:=zbA hf h2
   exact⟨z,List.mem_cons_of_mem _ hz,e⟩
section
variable {prog:Program}{w:World}{A:Around}{E:Value→Shared→Prop}{s:Shared}{κ:SortKind}{P:Keyed→Prop}{rk:Keyed→Int}{a₀:Array Keyed}
structure Ji (κ:SortKind) (P:Keyed→Prop) (rk:Keyed→Int) (a₀:Array Keyed) (lo:Nat) (st:SortSt):Prop where
 b:Bs κ P a₀ st
 runs:Runs (pendingOf st).toList 0 lo
 up:∀ x∈(pendingOf st).toList,Up rk (arrOf st) x.1 x.2.1
theorem zij (C:Cmp prog w A s κ P rk) {st:SortSt}{lo i:Nat}{Q:Bool→SortSt→Prop}(J:Ji κ P rk a₀ lo st) (hlo:lo≤a₀.size) (hi:i+1<(pendingOf st).size)
  (h:∀ st',Ji κ P rk a₀ lo st'→(∀ k,lo≤k→R rk (arrOf st') k=R rk (arrOf st) k)→(pendingOf st').size+1=(pendingOf st).size→Q true st'):wpS (model prog w) A E s (mergeAt' i) Q st:=by
 obtain⟨x,ex⟩:∃ x,(pendingOf st)[i]?=some x:=⟨_,getElem?_pos _ i (by lia)⟩
 obtain⟨y,ey⟩:∃ y,(pendingOf st)[i+1]?=some y:=⟨_,getElem?_pos _ (i+1) hi⟩
 have ex':(pendingOf st).toList[i]?=some x:=by rw[Array.getElem?_toList];exact ex
 have ey':(pendingOf st).toList[i+1]?=some y:=by rw[Array.getElem?_toList];exact ey
 obtain⟨hxl,hx⟩:=List.getElem?_eq_some_iff.mp ex'
 obtain⟨hyl,hy⟩:=List.getElem?_eq_some_iff.mp ey'
 have sp:(pendingOf st).toList=(pendingOf st).toList.take i++x::y::(pendingOf st).toList.drop (i+1+1):=by
  rw[← hx,← hy,← List.drop_eq_getElem_cons hyl,← List.drop_eq_getElem_cons hxl,List.take_append_drop]
 have rr:=J.runs
 have up:=J.up
 generalize hpre:(pendingOf st).toList.take i=pre at sp
 generalize hpost:(pendingOf st).toList.drop (i+1+1)=post at sp
 have pl:pre.length=i:=by rw[← hpre,List.length_take];lia
 rw[sp]at rr up
 obtain⟨m,r1,r2⟩:=rr.cut
 obtain⟨s1,n1,s2,n2,r3⟩:=r2
 obtain⟨sa,na,p⟩:=x
 obtain⟨sb,nb,q⟩:=y
 simp only at s1 n1 s2 n2 r3
 have hl:=r3.len
 refine zj7 C J.b ex ey (by lia) n1 n2 (by lia) (up (sa,na,p) (by simp)) (up (sb,nb,q) (by simp)) fun st' B' ep low u'=>?_
 have el:(pendingOf st').toList=pre++(sa,na+nb,p)::post:=by
  rw[ep,Array.toList_eraseIdxIfInBounds,Array.toList_setIfInBounds,sp,List.set_append_right _ _ (by lia),List.eraseIdx_append_of_length_le (by lia),pl,Nat.sub_self,Nat.add_sub_cancel_left]
  rfl
 refine h st' ⟨B',?_,?_⟩ (fun k hk=>low k (.inr (by lia))) ?_
 ·rw[el]
  refine r1.app ⟨s1,by show 1≤na+nb;lia,?_⟩
  show Runs post (m+(na+nb)) lo
  rw[← Nat.add_assoc];exact r3
 ·rw[el]
  intro z hz
  rcases List.mem_append.mp hz with hz|hz
  ·have b1:=r1.mem hz
   intro c d hc hcd hd
   rw[low c (.inl (by lia)),low d (.inl (by lia))]
   exact up z (List.mem_append_left _ hz) c d hc hcd hd
  ·rcases List.mem_cons.mp hz with rfl|hz
   ·exact u'
   ·have b1:=r3.mem hz
    intro c d hc hcd hd
    rw[low c (.inr (by lia)),low d (.inr (by lia))]
    exact up z (List.mem_append_right _ (by simp[hz])) c d hc hcd hd
 ·rw[← Array.length_toList,← Array.length_toList,el,sp]
  simp only[List.length_append,List.length_cons];lia
theorem zhQ (C:Cmp prog w A s κ P rk) {st:SortSt}{Q:Unit→SortSt→Prop}(hB:Bs κ P a₀ st) (hp:pendingOf st = #[])
  (h:∀ st',Bs κ P a₀ st'→Up rk (arrOf st') 0 a₀.size→Q () st'):wpS (model prog w) A E s sortRuns' Q st:=by
 rw[sortRuns'_eq]
 refine wpS_bind (wpS_get ?_)
 dsimp only
 rw[hB.size]
 generalize minRun' a₀.size a₀.size 0=mr
 refine wpS_bind (wpS_mono (wpS_forRange (I:=fun i c st1=>∃ lo,c=(none,lo)∧i≤lo∧lo≤a₀.size∧Ji κ P rk a₀ lo st1)
  (Q:=fun c st1=>∃ lo,c=(none,lo)∧lo=a₀.size∧Ji κ P rk a₀ lo st1) ?step ?fin ?init) ?post)
 case init=>exact⟨0,rfl,Nat.le_refl _,Nat.zero_le _,hB,by rw[hp];rfl,fun x hx=>by rw[hp]at hx;simp at hx⟩
 case fin =>
  rintro c st1 ⟨lo,rfl,h1,h2,J⟩
  exact⟨lo,rfl,by lia,J⟩
 case step =>
  rintro i c st1 _ hi ⟨lo,rfl,h1,h2,J⟩
  dsimp only
  by_cases z:lo≥a₀.size
  ·rw[if_pos z]
   exact wpS_pure ⟨lo,rfl,by lia,J⟩
  rw[if_neg z]
  refine wpS_bind (zg9 C J.b (by lia) (by lia) fun st2 n K2 n1 n2 u2=>?_)
  dsimp only
  have Jk:∀ st3,Keep κ P rk a₀ lo st1 st3→Ji κ P rk a₀ lo st3:=fun st3 K3=>⟨K3.b,by rw[K3.pend];exact J.runs,fun x hx=>by
   rw[K3.pend]at hx
   have:=J.runs.mem hx
   intro c d hc hcd hd
   rw[K3.low c (by lia),K3.low d (by lia)]
   exact J.up x hx c d hc hcd hd⟩
  by_cases zm:n<mr
  ·rw[if_pos zm]
   refine wpS_bind (zbz ?_)
   refine wpS_bind (zjt C K2.b n1 (by lia) (by lia) u2 fun st3 K3 u3=>?_)
   have n1:1≤min (a₀.size-lo) mr:=by lia
   have n2:min (a₀.size-lo) mr≤a₀.size-lo:=by lia
   have J3:=Jk st3 (K2.trans K3)
   generalize min (a₀.size-lo) mr=n at n1 n2 u3 ⊢
   rw[if_neg (show ¬(!true)=true by decide)]
   refine wpS_bind (wpS_get ?_)
   have last:∀ st4,Ji κ P rk a₀ lo st4→Up rk (arrOf st4) lo n→wpS (model prog w) A E s (do
     modify fun st5=>setPending st5 ((pendingOf st5).push (lo,n,0))
     pure (ForInStep.yield ((none:Option Unit),lo+n))) (fun r st'=>match r with|.done c'=>∃ lo,c'=(none,lo)∧lo=a₀.size∧Ji κ P rk a₀ lo st'|.yield c'=>∃ lo,c'=(none,lo)∧i+1≤lo∧lo≤a₀.size∧Ji κ P rk a₀ lo st') st4:=by
    intro st4 J4 u4
    refine wpS_bind (wpS_modify (wpS_pure ⟨lo+n,rfl,by lia,by lia,⟨J4.b.kind,J4.b.fail,J4.b.perm,J4.b.all⟩,?_,?_⟩))
    ·show Runs ((pendingOf st4).push (lo,n,0)).toList 0 (lo+n)
     rw[Array.toList_push]
     exact J4.runs.app ⟨rfl,n1,rfl⟩
    ·show ∀ x∈((pendingOf st4).push (lo,n,0)).toList,Up rk (arrOf st4) x.1 x.2.1
     rw[Array.toList_push]
     intro x hx
     rcases List.mem_append.mp hx with hx1|hx1
     ·exact J4.up x hx1
     ·rw[List.mem_singleton.mp hx1];exact u4
   split
   ·rename_i s1 m1 w1 hb
    refine wpS_bind (wpS_mono (wpS_forRange (I:=fun j c st4=>c=(none,())∧Ji κ P rk a₀ lo st4∧Up rk (arrOf st4) lo n) (Q:=fun c st4=>c=(none,())∧Ji κ P rk a₀ lo st4∧Up rk (arrOf st4) lo n) ?_ (fun c st4 hh=>hh) ⟨rfl,J3,u3⟩) ?_)
    ·rintro j c st4 _ hj ⟨rfl,J4,u4⟩
     refine wpS_bind (wpS_get ?_)
     split
     ·rename_i a1 a2 older ho
      split
      ·exact wpS_pure ⟨rfl,J4,u4⟩
      ·have sz:(pendingOf st4).size > 1:=by
        by_cases q:(pendingOf st4).size > 1
        ·exact q
        ·rw[if_neg q]at ho;cases ho
       refine wpS_bind (zij C J4 h2 (by lia) fun st5 J5 low5 _=>?_)
       rw[if_neg (show ¬(!true)=true by decide)]
       exact wpS_pure ⟨rfl,J5,fun c d hc hcd hd=>by rw[low5 c hc,low5 d (by lia)];exact u4 c d hc hcd hd⟩
     ·exact wpS_pure ⟨rfl,J4,u4⟩
    ·rintro c st4 ⟨rfl,J4,u4⟩
     dsimp only
     refine wpS_bind (wpS_modify ?_)
     refine last _ ⟨⟨J4.b.kind,J4.b.fail,J4.b.perm,J4.b.all⟩,?_,?_⟩ u4
     ·show Runs ((pendingOf st4).modify _ _).toList 0 lo
      rw[Array.toList_modify]
      refine Runs.modify ?_ J4.runs
      exact fun x=>⟨rfl,rfl⟩
     ·show ∀ x∈((pendingOf st4).modify _ _).toList,Up rk (arrOf st4) x.1 x.2.1
      rw[Array.toList_modify]
      intro x hx
      obtain⟨y,hy,e1,e2⟩:=zbA (by exact fun x=>⟨rfl,rfl⟩) hx
      rw[e1,e2];exact J4.up y hy
   ·exact last _ J3 u3
  ·rw[if_neg zm]
   have J3:=Jk st2 K2
   have u3:=u2
   generalize st2=st3 at J3 u3 ⊢
   refine wpS_bind (wpS_get ?_)
   have last:∀ st4,Ji κ P rk a₀ lo st4→Up rk (arrOf st4) lo n→wpS (model prog w) A E s (do
     modify fun st5=>setPending st5 ((pendingOf st5).push (lo,n,0))
     pure (ForInStep.yield ((none:Option Unit),lo+n))) (fun r st'=>match r with|.done c'=>∃ lo,c'=(none,lo)∧lo=a₀.size∧Ji κ P rk a₀ lo st'|.yield c'=>∃ lo,c'=(none,lo)∧i+1≤lo∧lo≤a₀.size∧Ji κ P rk a₀ lo st') st4:=by
    intro st4 J4 u4
    refine wpS_bind (wpS_modify (wpS_pure ⟨lo+n,rfl,by lia,by lia,⟨J4.b.kind,J4.b.fail,J4.b.perm,J4.b.all⟩,?_,?_⟩))
    ·show Runs ((pendingOf st4).push (lo,n,0)).toList 0 (lo+n)
     rw[Array.toList_push]
     exact J4.runs.app ⟨rfl,n1,rfl⟩
    ·show ∀ x∈((pendingOf st4).push (lo,n,0)).toList,Up rk (arrOf st4) x.1 x.2.1
     rw[Array.toList_push]
     intro x hx
     rcases List.mem_append.mp hx with hx1|hx1
     ·exact J4.up x hx1
     ·rw[List.mem_singleton.mp hx1];exact u4
   split
   ·rename_i s1 m1 w1 hb
    refine wpS_bind (wpS_mono (wpS_forRange (I:=fun j c st4=>c=(none,())∧Ji κ P rk a₀ lo st4∧Up rk (arrOf st4) lo n) (Q:=fun c st4=>c=(none,())∧Ji κ P rk a₀ lo st4∧Up rk (arrOf st4) lo n) ?_ (fun c st4 hh=>hh) ⟨rfl,J3,u3⟩) ?_)
    ·rintro j c st4 _ hj ⟨rfl,J4,u4⟩
     refine wpS_bind (wpS_get ?_)
     split
     ·rename_i a1 a2 older ho
      split
      ·exact wpS_pure ⟨rfl,J4,u4⟩
      ·have sz:(pendingOf st4).size > 1:=by
        by_cases q:(pendingOf st4).size > 1
        ·exact q
        ·rw[if_neg q]at ho;cases ho
       refine wpS_bind (zij C J4 h2 (by lia) fun st5 J5 low5 _=>?_)
       rw[if_neg (show ¬(!true)=true by decide)]
       exact wpS_pure ⟨rfl,J5,fun c d hc hcd hd=>by rw[low5 c hc,low5 d (by lia)];exact u4 c d hc hcd hd⟩
     ·exact wpS_pure ⟨rfl,J4,u4⟩
    ·rintro c st4 ⟨rfl,J4,u4⟩
     dsimp only
     refine wpS_bind (wpS_modify ?_)
     refine last _ ⟨⟨J4.b.kind,J4.b.fail,J4.b.perm,J4.b.all⟩,?_,?_⟩ u4
     ·show Runs ((pendingOf st4).modify _ _).toList 0 lo
      rw[Array.toList_modify]
      refine Runs.modify ?_ J4.runs
      exact fun x=>⟨rfl,rfl⟩
     ·show ∀ x∈((pendingOf st4).modify _ _).toList,Up rk (arrOf st4) x.1 x.2.1
      rw[Array.toList_modify]
      intro x hx
      obtain⟨y,hy,e1,e2⟩:=zbA (by exact fun x=>⟨rfl,rfl⟩) hx
      rw[e1,e2];exact J4.up y hy
   ·exact last _ J3 u3
 case post =>
  rintro c st1 ⟨lo,rfl,rfl,J⟩
  dsimp only
  refine wpS_bind (wpS_mono (wpS_forRange (I:=fun i c st2=>c=(none,())∧Ji κ P rk a₀ a₀.size st2∧(pendingOf st2).size≤a₀.size-i+1)
   (Q:=fun c st2=>c=(none,())∧Ji κ P rk a₀ a₀.size st2∧(pendingOf st2).size≤1) ?_ ?_ ⟨rfl,J,?_⟩) ?_)
  ·rintro i c st2 _ hi ⟨rfl,J2,sz⟩
   refine wpS_bind (wpS_get ?_)
   by_cases z:(pendingOf st2).size≤1
   ·rw[if_pos z]
    exact wpS_pure ⟨rfl,J2,z⟩
   rw[if_neg z]
   have go:∀ t,t+1<(pendingOf st2).size→wpS (model prog w) A E s (mergeAt' t) (fun b st3=>b=true∧Ji κ P rk a₀ a₀.size st3∧(pendingOf st3).size≤a₀.size-(i+1)+1) st2:=fun t ht =>
    zij C J2 (Nat.le_refl _) ht fun st3 J3 _ sz3=>⟨rfl,J3,by lia⟩
   refine wpS_bind (wpS_mono (go _ ?_) ?_)
   ·repeat' split
    all_goals lia
   ·rintro b st3 ⟨rfl,J3,sz3⟩
    exact wpS_pure ⟨rfl,J3,sz3⟩
  ·rintro c st2 ⟨rfl,J2,sz⟩
   exact⟨rfl,J2,by lia⟩
  ·have:=J.runs.len
   rw[Array.length_toList]at this
   lia
  ·rintro c st2 ⟨rfl,J2,sz⟩
   refine wpS_pure (h st2 J2.b ?_)
   have rr:=J2.runs
   have up:=J2.up
   have ln:(pendingOf st2).toList.length≤1:=by rw[Array.length_toList];exact sz
   match hq:(pendingOf st2).toList,ln with
   | [],_ =>
    rw[hq]at rr
    intro c d hc hcd hd
    have:0=a₀.size:=rr
    lia
   | [x],_ =>
    rw[hq]at rr up
    obtain⟨r1,r2,r3⟩:=rr
    have:0+x.2.1=a₀.size:=r3
    have:=up x (by simp)
    rw[r1,show x.2.1=a₀.size by lia]at this
    exact this
end
section
variable {prog:Program}{w:World}{A:Around}{E:Value→Shared→Prop}{s:Shared}
theorem zeU {a:Addr}{vs:List Value}{n:Nat}{Pp:Fin→Shared→Prop}(ho:s.heap.get? a=some (seqObj "list" vs.toArray n)) (hz:vs.length≤10000) (κ:SortKind) (rv:Value→Int)
  (hkind:∀ h',(∀ c o,c≠a→s.heap.get? c=some o→h'.get? c=some o)→2≤vs.length→∀ {Q:SortKind→Shared→Prop}{E:Value→Shared→Prop},Q κ { s with heap:=h' }→wpAny (model prog w) A (keyKind' vs.toArray) Q E { s with heap:=h' })
  (hcmp:∀ h',(∀ c o,c≠a→s.heap.get? c=some o→h'.get? c=some o)→Cmp prog w A { s with heap:=h' } κ (fun p=>p.1∈vs) (fun p=>rv p.1))
  (h:∀ out:List Value,out.Perm vs→out.Pairwise (fun x y=>rv x≤rv y)→Pp (.done (.ret .none)) { s with heap:=sortedHeap s.heap a vs out.toArray }) :
  wpAny (model prog w) A (Builtin.«list.sort» ⟨[.ref a],[]⟩) Pp E s:=by
 have al:a<s.heap.objs.size:=Heap.lt_size ho
 have ln:vs.toArray.size=vs.length:=List.size_toArray ..
 have sl:vs.length≤sizeLine:=Nat.le_trans hz (by decide)
 rw[list_sort_plain]
 refine wpAny_bind (listItems_at ho rfl (wpAny_bind (listUpdate_at ho rfl ?_ (hsz:=by rw[ln];exact sl))))
 obtain⟨ep,e1⟩:∃ ep,(s.heap.update a (Obj.mapSeq fun _=>#[])).get? a=some (seqObj "list" #[] ep):=⟨_,get?_update_seq ho fun _=>#[]⟩
 refine wpAny_bind (seqEpoch_at e1 rfl (wpAny_bind (wpAny_newTuple (wpAny_bind (wpAny_newList (wpAny_holding ?_))))))
 have e6:(((s.heap.update a (Obj.mapSeq fun _=>#[])).push (seqObj "tuple" vs.toArray 0)).push (seqObj "list" #[] 0)).get? a=some (seqObj "list" #[] ep) :=
  Heap.get?_push_of_some _ (Heap.get?_push_of_some _ e1)
 have old:∀ c o,c≠a→s.heap.get? c=some o→(((s.heap.update a (Obj.mapSeq fun _=>#[])).push (seqObj "tuple" vs.toArray 0)).push (seqObj "list" #[] 0)).get? c=some o:=fun c o nc q =>
  Heap.get?_push_of_some _ (Heap.get?_push_of_some _ ((Heap.get?_update_other _ _ (Ne.symm nc)).trans q))
 show wpAny (model prog w) A _ Pp E { s with heap:=((s.heap.update a (Obj.mapSeq fun _=>#[])).push (seqObj "tuple" vs.toArray 0)).push (seqObj "list" #[] 0) }
 have lo:∀ out:List Value,out.Perm vs→out.toArray.size≤sizeLine+1:=fun out p1=>by rw[List.size_toArray,p1.length_eq];lia
 generalize hH:((s.heap.update a (Obj.mapSeq fun _=>#[])).push (seqObj "tuple" vs.toArray 0)).push (seqObj "list" #[] 0)=h6 at e6 old ⊢
 have back:∀ out:Array Value,sortedHeap s.heap a vs out=h6.update a (Obj.mapSeq fun _=>out):=fun out=>by rw[← hH];rfl
 by_cases few:vs.toArray.size<2
 ·rw[if_pos few,if_pos few]
  refine wpAny_bind (wpAny_pure (?_:wpAny _ _ _ _ _ _))
  refine wpAny_bind (wpAny_pure ?_)
  have em:(vs.toArray.zip vs.toArray).map (·.2)=vs.toArray:=by
   apply Array.ext'
   rw[Array.toList_map,Array.toList_zip]
   exact List.map_snd_zip (Nat.le_refl _)
  have one:vs.Pairwise (fun x y=>rv x≤rv y):=by
   match vs,few with
   | [],_=>exact List.Pairwise.nil
   | [x],_=>exact List.pairwise_singleton _ _
   | _::_::_,z=>simp at z;lia
  have k:=h vs (List.Perm.refl _) one
  rw[back]at k
  dsimp only
  rw[em]
  refine wpAny_bind (seqEpoch_at e6 rfl (wpAny_bind (listUpdate_at e6 rfl ?_ (hsz:=Nat.zero_le _) (hsz2:=lo vs (List.Perm.refl _)))))
  simp only[if_false,bne_self_eq_false,Bool.false_eq_true]
  exact wpAny_pure k
 rw[if_neg few,if_neg few]
 refine wpAny_bind (hkind h6 old (by lia) ?_)
 have C:=hcmp h6 old
 refine wpAny_bind (wpAny_mono (zhQ C (a₀:=vs.toArray.zip vs.toArray) (st:=SortSt.mk' κ (vs.toArray.zip vs.toArray) #[] 7 none)
  (Q:=fun _ st'=>Bs κ (fun p=>p.1∈vs) (vs.toArray.zip vs.toArray) st'∧Up (fun p=>rv p.1) (arrOf st') 0 (vs.toArray.zip vs.toArray).size) ⟨rfl,rfl,Array.Perm.refl _,fun p hp=>?_⟩ rfl fun st' b u=>⟨b,u⟩) ?_ fun _ _ e=>e)
 ·have:(vs.toArray.zip vs.toArray).toList=vs.zip vs:=by simp
  rw[this]at hp
  exact(List.of_mem_zip hp).1
 rintro⟨⟨⟩,st'⟩ s' ⟨rfl,b,u⟩
 have pl:(arrOf st').toList.Perm (vs.zip vs):=by
  have:=Array.perm_iff_toList_perm.mp b.perm
  simpa using this
 have same:∀ p∈(arrOf st').toList,p.1=p.2:=fun p hp=>by
  have h1:=pl.mem_iff.mp hp
  obtain⟨i,hi⟩:=List.mem_iff_getElem?.mp h1
  rw[List.getElem?_zip_eq_some]at hi
  have:=hi.1.symm.trans hi.2
  exact Option.some.inj this
 have so:Srt (fun p=>rv p.1) (arrOf st').toList:=by
  have:=zeL (arr:=arrOf st') (lo:=0) (n:=(arrOf st').size) (by rw[b.size];exact u) (by lia)
  rw[Nat.zero_add,zb4,← Array.length_toList,List.take_length]at this
  exact this
 have pm:((arrOf st').toList.map (·.2)).Perm vs:=by
  have:=pl.map (·.2)
  rwa [List.map_snd_zip (Nat.le_refl _)]at this
 have em:(arrOf st').map (·.2)=((arrOf st').toList.map (·.2)).toArray:=by
  apply Array.ext';simp
 have k:=h _ pm (by
  refine List.pairwise_map.mpr (List.Pairwise.imp_of_mem ?_ so)
  intro x y hx hy le
  rw[← same x hx,← same y hy];exact le)
 rw[back]at k
 dsimp only
 rw[em,b.fail]
 refine wpAny_bind (seqEpoch_at e6 rfl (wpAny_bind (listUpdate_at e6 rfl ?_ (hsz:=Nat.zero_le _) (hsz2:=lo _ pm))))
 simp only[if_false,bne_self_eq_false,Bool.false_eq_true]
 exact wpAny_pure k
end
end Ts
namespace Own
open PySem PySem.Spec PyProof.Rows
section
variable {prog:Program}{w:World}{A:Around}{E:Value→Shared→Prop}{s:Shared}{z TI TO i1 i2:Addr}{f1 f2:List Addr}{n1 n2 k:Nat}{P1 P2:Nat→Value→Prop}{S1 S2:Nat→Heap→Prop}{a b:Value}
end
section
variable {prog:Program}{w:World}{A:Around}{E:Value→Shared→Prop}{s:Shared}{z TI TO i1 i2 L:Addr}{f1 f2:List Addr}{n n2 k:Nat}{P1 P2:Nat→Value→Prop}{S1 S2:Nat→Heap→Prop}
end
end Own
namespace Own
open PySem PySem.Spec PyProof.Rows Ts
section
variable {prog:Program}{w:World}{A:Around}{E:Value→Shared→Prop}{s:Shared}
theorem zhB {x:Value}{Q:Value→Shared→Prop}
  (h:wpAny (model prog w) A.in1 (collect x) (fun vs s1=>∃ (κ:SortKind) (rv:Value→Int),vs.length≤10000 ∧
   (∀ h':Heap,(∀ c o,s1.heap.get? c=some o→h'.get? c=some o)→2≤vs.length→∀ (A':Around) {Q:SortKind→Shared→Prop}{E:Value→Shared→Prop},Q κ { s1 with heap:=h' }→wpAny (model prog w) A' (keyKind' vs.toArray) Q E { s1 with heap:=h' }) ∧
   (∀ h':Heap,(∀ c o,s1.heap.get? c=some o→h'.get? c=some o)→∀ (A':Around),A'.units≤A.units+8→Cmp prog w A' { s1 with heap:=h' } κ (fun p=>p.1∈vs) (fun p=>rv p.1)) ∧
   ∀ (h':Heap) (l:Addr) (e:Nat) (out:List Value),s1.heap.objs.size≤l→h'.get? l=some (seqObj "list" out.toArray e)→out.Perm vs→out.Pairwise (fun x y=>rv x≤rv y)→(∀ c o,s1.heap.get? c=some o→h'.get? c=some o)→Q (.ref l) { s1 with heap:=h' }) E s) :
  wpAny (model prog w) A (call (.builtin "sorted") [x]) Q E s:=by
 refine Calls.call_function_entry kind_sorted plain_sorted entry_sorted (args_sorted1 _) ?_;unfold Builtin.«sorted»
 refine wpAny_bind (m:=checkCount "sorted" 1 1 _) (wpAny_pure (wpAny_bind (wpAny_mono h (fun vs s1 z=>?_) fun _ _ e=>e)))
 obtain⟨κ,rv,hz,hk,hc,fin⟩:=z
 have sl:vs.length≤sizeLine:=Nat.le_trans hz (by decide)
 refine wpAny_bind (wpAny_newList ?_ (hsz:=sl))
 have new:(s1.heap.push (seqObj "list" vs.toArray 0)).get? s1.heap.objs.size=some (seqObj "list" vs.toArray 0):=Heap.get?_push_size _ rfl
 have up:∀ h':Heap,(∀ c o,c≠s1.heap.objs.size→(s1.heap.push (seqObj "list" vs.toArray 0)).get? c=some o→h'.get? c=some o)→∀ c o,s1.heap.get? c=some o→h'.get? c=some o:=fun h' k c o e=>k c o (Nat.ne_of_lt (Heap.lt_size e)) (Heap.get?_push_of_some _ e)
 refine wpAny_bind (wpAny_holding (wpAny_call_entry slot_list_sort ⟨_,new,rfl⟩ entry_list_sort (zeU new hz κ rv (fun h' k l2=>hk h' (up h' k) l2 _) (fun h' k=>hc h' (up h' k) _ ?_) fun out p1 p2=>⟨_,rfl,?_⟩) (args_list_sort _)))
 ·show A.units+1+1≤A.units+8
  lia
 obtain⟨e,he⟩:=sortedHeap_at (out:=out.toArray) new
 refine wpAny_pure ⟨_,rfl,fin _ _ e out (Nat.le_refl _) he p1 p2 fun c o q=>?_⟩
 have lt:=Heap.lt_size q
 rw[sortedHeap_old (Nat.ne_of_lt lt) (by rw[size_push'];exact Nat.lt_succ_of_lt lt)]
 exact Heap.get?_push_of_some _ q
end
end Own
namespace L2
open PySem PySem.Spec PyProof.Rows Own Ts
inductive Lx (H:Hp):Nat→V→V→Ordering→Prop where
 | int (n:Nat) (i j:Int):Lx H n (.int i) (.int j) (compare i j)
 | row {n:Nat}{a b:Addr}{xs ys:List V}{cs:List Ordering}(ha:H a=some (.tup xs)) (hb:H b=some (.tup ys)) (l1:xs.length=cs.length) (l2:ys.length=cs.length) (h:∀ (i:Nat) u v c,xs[i]?=some u→ys[i]?=some v→cs[i]?=some c→Lx H n u v c) :
   Lx H (n+1) (.ref a) (.ref b) (cs.foldr Ordering.then .eq)
theorem Lx.pair {H:Hp}{n:Nat}{a b:Addr}{x1 x2 y1 y2:V}{c1 c2:Ordering}(ha:H a=some (.tup [x1,x2])) (hb:H b=some (.tup [y1,y2])) (h1:Lx H n x1 y1 c1) (h2:Lx H n x2 y2 c2):Lx H (n+1) (.ref a) (.ref b) (c1.then c2):=by
 have e:c1.then c2=[c1,c2].foldr Ordering.then .eq:=by cases c1<;>cases c2<;>rfl
 rw[e]
 refine .row ha hb rfl rfl fun i u v c hu hv hc=>?_
 rcases i with _|_|i
 ·cases hu;cases hv;cases hc;exact h1
 ·cases hu;cases hv;cases hc;exact h2
 ·simp at hu
theorem zcr:∀ {cs:List Ordering},cs.foldr Ordering.then .eq=.eq↔∀ c∈cs,c=.eq
 | []=>by simp
 | c::cs=>by
  rw[List.foldr_cons]
  constructor
  ·intro h
   cases c<;>simp[Ordering.then]at h
   intro d hd
   rcases List.mem_cons.mp hd with rfl|hd2
   ·rfl
   ·exact zcr.mp h d hd2
  ·intro h
   rw[h c List.mem_cons_self]
   exact zcr.mpr fun d hd=>h d (List.mem_cons_of_mem _ hd)
theorem zdw:∀ {cs:List Ordering},cs.foldr Ordering.then .eq≠.eq→∃ (k:Nat) (c:Ordering),cs[k]?=some c∧c≠.eq∧cs.foldr Ordering.then .eq=c∧∀ j:Nat,j<k→cs[j]?=some Ordering.eq
 | [],h=>absurd rfl h
 | c::cs,h=>by
  by_cases z:c=.eq
  ·subst z
   have e:(Ordering.eq::cs).foldr Ordering.then .eq=cs.foldr Ordering.then .eq:=rfl
   rw[e]at h ⊢
   obtain⟨k,d,h1,h2,h3,h4⟩:=zdw h
   refine⟨k+1,d,by simpa using h1,h2,h3,fun j hj=>?_⟩
   cases j with
   | zero=>rfl
   | succ j=>simpa using h4 j (by lia)
  ·refine⟨0,c,rfl,z,?_,fun j hj=>by lia⟩
   rw[List.foldr_cons]
   cases c<;>first|rfl|exact absurd rfl z
section
variable {X:Cx}
theorem zcJ (i j:Int):(compare i j == .eq)=decide (i=j)∧(compare i j == .lt)=decide (i<j):=by
 rw[show compare i j=compareOfLessAndEq i j from rfl]
 unfold compareOfLessAndEq
 by_cases h1:i<j
 ·rw[if_pos h1,decide_eq_true h1,decide_eq_false (by lia)];exact⟨rfl,rfl⟩
 ·rw[if_neg h1,decide_eq_false h1]
  by_cases h2:i=j
  ·rw[if_pos h2,decide_eq_true h2];exact⟨rfl,rfl⟩
  ·rw[if_neg h2,decide_eq_false h2];exact⟨rfl,rfl⟩
theorem Lx.refl {H:Hp}{n:Nat}{x y:V}{c:Ordering}(h:Lx H n x y c):x=y→c=.eq:=by
 induction h with
 | int n i j =>
  intro e
  cases e
  have:=(zcJ i i).1
  rw[decide_eq_true rfl]at this
  simpa using this
 | @row n a b xs ys cs ha hb l1 l2 h ih =>
  intro e
  cases e
  rw[ha]at hb
  cases hb
  refine zcr.mpr fun c hc=>?_
  obtain⟨i,hi⟩:=List.mem_iff_getElem?.mp hc
  have il:=(List.getElem?_eq_some_iff.mp hi).1
  exact ih i _ _ c (List.getElem?_eq_getElem (by lia)) (List.getElem?_eq_getElem (by lia)) hi rfl
theorem zik {pins:List (Addr × Obj)}{σ:St}{H:Hp}{s:Shared}(I:Inv X pins σ H s) {n:Nat}{x y:V}{c:Ordering}(h:Lx H n x y c):∀ (A:Around) (u v:Value),A.units+n<cLine→RelV x u→RelV y v→SeqAt.EqAt A s u v (c == .eq):=by
 induction h with
 | int n i j =>
  intro A u v _ r1 r2
  have:=zfU (A:=A) (s:=s) (x:=.int j) (y:=.int i) r1 r2 rfl rfl
  rw[(zcJ i j).1]
  have e:eqV (.int i) (.int j)=decide (i=j):=by
   show (i == j)=decide (i=j)
   by_cases z:i=j<;>simp[z]
  rwa [e]at this
 | @row n a b xs ys cs ha hb l1 l2 h ih =>
  intro A u v hu r1 r2
  cases r1;cases r2
  by_cases ab:a=b
  ·subst ab
   have:cs.foldr Ordering.then .eq=.eq:=Lx.refl (.row ha hb l1 l2 h) rfl
   rw[this];exact SeqAt.EqAt.same _
  ·obtain⟨its,g1,p1,_⟩:=I.tuple (SqT.of ha)
   obtain⟨jts,g2,p2,_⟩:=I.tuple (SqT.of hb)
   have m1:=g1.length
   have m2:=g2.length
   refine SeqAt.EqAt.of_refs ab ?_
   have e:((List.range (min its.toArray.size jts.toArray.size)).all (fun j=>(cs.getD j .eq) == .eq) && its.toArray.size == jts.toArray.size)=(cs.foldr Ordering.then .eq == .eq):=by
    rw[List.size_toArray,List.size_toArray,← m1,← m2,l1,l2,beq_self_eq_true,Bool.and_true,Nat.min_self]
    by_cases z:cs.foldr Ordering.then .eq=.eq
    ·rw[z]
     refine(List.all_eq_true.mpr fun j hj=>?_).trans rfl
     have jl:=List.mem_range.mp hj
     rw[List.getD_eq_getElem?_getD,List.getElem?_eq_getElem jl,Option.getD_some,zcr.mp z _ (List.getElem_mem jl)];rfl
    ·obtain⟨k,d,h1,h2,h3,_⟩:=zdw z
     have kl:=(List.getElem?_eq_some_iff.mp h1).1
     rw[h3]
     have f1:(d == Ordering.eq)=false:=by simpa using h2
     rw[f1]
     refine Bool.eq_false_iff.mpr fun t=>?_
     have:=List.all_eq_true.mp t k (List.mem_range.mpr kl)
     rw[List.getD_eq_getElem?_getD,h1,Option.getD_some,f1]at this
     cases this
   have:=SeqAt.RcAt.tuples (e:=fun j=>(cs.getD j .eq) == .eq) p1 p2 (A:=A) (s:=s) (by lia) (fun j k1 k2=>?_)
   ·rwa [e]at this
   ·have k1':j<xs.length:=by simpa [m1] using k1
    have k2':j<ys.length:=by simpa [m2] using k2
    obtain⟨w1,e1,q1⟩:=g1.get (List.getElem?_eq_getElem k1')
    obtain⟨w2,e2,q2⟩:=g2.get (List.getElem?_eq_getElem k2')
    have z1:its.toArray[j]=w1:=by simpa using (List.getElem?_eq_some_iff.mp e1).2
    have z2:jts.toArray[j]=w2:=by simpa using (List.getElem?_eq_some_iff.mp e2).2
    have kc:j<cs.length:=by lia
    rw[z1,z2,List.getD_eq_getElem?_getD,List.getElem?_eq_getElem kc,Option.getD_some]
    exact ih j _ _ _ (List.getElem?_eq_getElem k1') (List.getElem?_eq_getElem k2') (List.getElem?_eq_getElem kc) A.in1 _ _ (by show A.units+1+n<cLine;lia) q1 q2
theorem zjW {pins:List (Addr × Obj)}{σ:St}{H:Hp}{s:Shared}(I:Inv X pins σ H s) {n:Nat}{x y:V}{c:Ordering}(h:Lx H n x y c):c≠.eq→∀ (A:Around) (u v:Value),A.units+n<cLine→RelV x u→RelV y v→LtAt A s u v (c == .lt):=by
 induction h with
 | int n i j =>
  intro _ A u v _ ⟨t1,e1⟩ ⟨t2,e2⟩
  subst e1 e2
  rw[(zcJ i j).2]
  exact LtAt.ints i j t1 t2
 | @row n a b xs ys cs ha hb l1 l2 h ih =>
  intro ne A u v hu r1 r2
  cases r1;cases r2
  obtain⟨its,g1,p1,_⟩:=I.tuple (SqT.of ha)
  obtain⟨jts,g2,p2,_⟩:=I.tuple (SqT.of hb)
  have m1:=g1.length
  have m2:=g2.length
  obtain⟨k,d,h1,h2,h3,h4⟩:=zdw ne
  have kl:=(List.getElem?_eq_some_iff.mp h1).1
  have at_:∀ j (k1:j<its.toArray.size) (k2:j<jts.toArray.size),∃ (j1:j<xs.length) (j2:j<ys.length),RelV xs[j] its.toArray[j]∧RelV ys[j] jts.toArray[j]:=fun j k1 k2=>by
   have k1':j<xs.length:=by simpa [m1] using k1
   have k2':j<ys.length:=by simpa [m2] using k2
   obtain⟨w1,e1,q1⟩:=g1.get (List.getElem?_eq_getElem k1')
   obtain⟨w2,e2,q2⟩:=g2.get (List.getElem?_eq_getElem k2')
   have z1:its.toArray[j]=w1:=by simpa using (List.getElem?_eq_some_iff.mp e1).2
   have z2:jts.toArray[j]=w2:=by simpa using (List.getElem?_eq_some_iff.mp e2).2
   rw[z1,z2]
   exact⟨k1',k2',q1,q2⟩
  rw[h3]
  have b1:k<its.toArray.size:=by rw[List.size_toArray];lia
  have b2:k<jts.toArray.size:=by rw[List.size_toArray];lia
  obtain⟨j1,j2,r1,r2⟩:=at_ k b1 b2
  refine LtAt.tuples (k:=k) p1 p2 (by lia) b1 b2 (fun j k1 k2 hj=>?_) ?_ ?_
  ·obtain⟨j1,j2,r1,r2⟩:=at_ j k1 k2
   exact zik I (h j _ _ _ (List.getElem?_eq_getElem j1) (List.getElem?_eq_getElem j2) (h4 j hj)) A.in1 _ _ (by show A.units+1+n<cLine;lia) r1 r2
  ·have:=zik I (h k _ _ _ (List.getElem?_eq_getElem j1) (List.getElem?_eq_getElem j2) h1) A.in1 _ _ (by show A.units+1+n<cLine;lia) r1 r2
   rwa [show (d == Ordering.eq)=false from by simpa using h2]at this
  ·exact ih k _ _ _ (List.getElem?_eq_getElem j1) (List.getElem?_eq_getElem j2) h1 h2 A.in1 _ _ (by show A.units+1+n<cLine;lia) r1 r2
end
def vOf:Value→V
 | .int i _=>.int i
 | .ref a=>.ref a
 | _=>.non
theorem zdv:∀ {xs:List V}{us:List Value},Vals xs us→(∀ x∈xs,(∃ i,x=.int i)∨∃ a,x=.ref a)→xs=us.map vOf∧∀ u∈us,RelV (vOf u) u
 | _,_,.nil,_=>⟨rfl,fun u hu=>by simp at hu⟩
 | x::xs,u::us,.cons r rs,h=>by
  obtain⟨e,f⟩:=zdv rs fun y hy=>h y (List.mem_cons_of_mem _ hy)
  have one:vOf u=x∧RelV (vOf u) u:=by
   rcases h x List.mem_cons_self with ⟨i,rfl⟩|⟨a,rfl⟩
   ·obtain⟨t,rfl⟩:=r;exact⟨rfl,t,rfl⟩
   ·cases r;exact⟨rfl,rfl⟩
  refine⟨by rw[List.map_cons,one.1,← e],fun v hv=>?_⟩
  rcases List.mem_cons.mp hv with rfl|hv2
  ·exact one.2
  ·exact f v hv2
theorem zcY:∀ {us:List Value},(∀ u∈us,RelV (vOf u) u)→Vals (us.map vOf) us
 | [],_=>.nil
 | u::us,h=>.cons (h u List.mem_cons_self) (zcY fun v hv=>h v (List.mem_cons_of_mem _ hv))
section
variable {prog:Program}{w:World}{A:Around}{E:Value→Shared→Prop}{s:Shared}
theorem zgD {u v:Value}{b:Bool}{Q:Bool→Shared→Prop}(l:LtAt A s u v b) (h:Q b s):wpAny (model prog w) A (oneLt' false u v) Q E s:=by
 rw[oneLt'_eq,if_neg Bool.false_ne_true]
 exact wpAny_bind (l prog w _ _ (wpAny_truthy_bool h))
end
section
variable {X:Cx}
end
section
variable {X:Cx}
end
end L2
namespace Bn
open PySem L2 Own
theorem za4 {H:Hp}{a:Addr}(_:H a=none) (o:HO):L2.upd H a o a=some o:=zac
end Bn
namespace L2
open PySem PySem.Spec PyProof.Rows Own
section
variable {X:Cx}
end
end L2
namespace Bn
open PySem L2 Own
end Bn
namespace L2
open PySem PySem.Spec PyProof.Rows Own
section
variable {prog:Program}{w:World}{A:Around}{E:Value→Shared→Prop}{it l:Addr}{items:Array Value}
theorem drawn (apart:l≠it) (many:Nat):∀ {i:Nat}{s:Shared}{Q:List Value→Shared→Prop},s.heap.IsListIter it l i→s.heap.IsList l items→i+many=items.size→(∀ g,g.IsListIter it l items.size→Heap.SameBut it s.heap g→Q (items.toList.drop i) { s with heap:=g })→wpAny (model prog w) A (draw (.ref it) many) Q E s:=by
 induction many with
 | zero =>
  intro i s Q at_ is whole k
  have over:items.toList.drop i=[]:=List.drop_eq_nil_of_le (by rw[Array.length_toList];lia)
  rw[over]at k
  obtain rfl:i=items.size:=by lia
  exact wpAny_pure (k s.heap at_ (Heap.SameBut.refl ..))
 | succ many ih =>
  intro i s Q at_ is whole k
  have inside:i<items.size:=by lia
  unfold draw
  refine wpAny_bind (wpAny_pyNext_list_item at_ is (Array.getElem?_eq_getElem inside) fun g at1 same1=>?_)
  refine wpAny_bind (wpAny_holding (ih at1 (is.extBut same1.extBut apart) (by lia) fun g2 at2 same2=>wpAny_pure ?_))
  have split:items.toList.drop i=items[i]::items.toList.drop (i+1):=by
   rw[List.drop_eq_getElem_cons (by rw[Array.length_toList];exact inside),Array.getElem_toList]
  rw[split]at k
  exact k g2 at2 (same1.trans same2)
theorem zgi {s:Shared}{targets:List (Bool × (Value→Sem Unit))}{Q:Unit→Shared→Prop}(calm:A.handled=none) (is:s.heap.IsList l items) (fit:targets.length=items.size) (bare:targets.findIdx? (·.1)=none)
  (k:∀ g,Heap.ExtBut s.heap.objs.size s.heap g→wpAny (model prog w) A (assignInOrder (targets.map (·.2)) items.toList) Q E { s with heap:=g }):wpAny (model prog w) A (unpack (.ref l) targets) Q E s:=by
 have apart:l≠s.heap.objs.size:=by
  obtain⟨o,e,_⟩:=is
  exact Nat.ne_of_lt (Heap.lt_size e)
 unfold unpack
 rw[fit,bare]
 refine wpAny_bind (m:=holding _ _) (wpAny_holding ?_)
 unfold unpackItems
 refine wpAny_bind (m:=notIterableAtAll _) ?_
 unfold notIterableAtAll
 refine wpAny_bind (wpAny_specialOf is.typeIs PySem.slot_list_iter.lookup (wpAny_pure ?_))
 simp only[if_false,Bool.false_eq_true]
 refine wpAny_bind (wpAny_holding (wpAny_pyIter_list is (wpAny_bind (wpAny_holding (drawn apart items.size (i:=0) ⟨_,Heap.get?_push_size _ rfl,rfl,rfl⟩ (is.push _) (Nat.zero_add _) fun g at1 same1=>?_)))))
 rw[List.drop_zero,if_neg (by simp)]
 refine wpAny_bind (wpAny_holding (wpAny_pyNext_list_end calm at1 ((is.push _).extBut same1.extBut apart) (by simp) fun g2 ext=>?_))
 simp only[if_false,Bool.false_eq_true,Option.isSome_none]
 exact wpAny_pure (k g2 fun b o other e=>ext b o other (same1.extBut b o other (Heap.get?_push_of_some _ e)))
end
section
variable {X:Cx}
def gLst (K:PySem.W.Frag) (n:Nat) (t:TGs):TG:=fun v σ H Q=>∃ a xs,v=.ref a∧SqL K H a xs∧xs.length=n∧t xs σ H Q
theorem zi4 {es:List Expr}{pos:Pos}{k:Nat}{t:TGs}{n:Nat}(hc:X.calm=true) (h:PGs X es t)
  (hn:(assignEach es X.env).length=n:=by rfl) (hst:(assignEach es X.env).findIdx? (·.1)=none:=by rfl):PG X (.Tuple es k pos) (gLst X.K n t):=by
 intro pins s σ H v u Q I r hw
 obtain⟨a,xs,rfl,hq,hl,hw⟩:=hw
 cases r
 obtain⟨its,rv,pl,hz⟩:=I.list hq
 have rl:=rv.length
 rw[PyProof.Rows.assign_Tuple]
 refine wpAny_bind (wpAny_standAt (zgi (I.ok.hd hc) pl.isList (by rw[hn,List.size_toArray];lia) hst fun g ext=>?_))
 have I1:Inv X pins σ H { s with heap:=g }:=I.kept (t':=s.toks) fun b o e=>ext b o (Nat.ne_of_lt (Heap.lt_size e)) e
 exact h pins _ σ H xs _ Q I1 (by simpa using rv) hw
end
end L2
namespace L2
open PySem
theorem Room.u1 {k:Nat}{A:Around}(r:Room k A):A.units+1<cLine:=by have:=r.un;lia
abbrev zi0 (K:PySem.W.Frag):List V→Hp→VK→Prop:=fun xs H Q=>∃ p ys,xs=[V.ref p]∧((SqL K H p ys∧∀ l,H l=none→Q (.ref l) (upd H l (.tup ys)))∨SqT K H p ys∧Q (.ref p) H)
end L2
namespace Bn
open PySem L2 Own
def Gls (H:Hp):List Addr→List Grp→Prop
 | [],[]=>True
 | a::as,g::gs=>H a=some (.lst [.int g.many,.int g.lane,.int g.fork])∧Gls H as gs
 | _,_=>False
theorem Gls.keep {H H':Hp}:∀ {as:List Addr}{gs:List Grp},(∀ a∈as,∀ o,H a=some o→H' a=some o)→Gls H as gs→Gls H' as gs
 | [],[],_,_=>trivial
 | [],_::_,_,h=>h.elim
 | _::_,[],_,h=>h.elim
 | a::as,g::gs,k,⟨h,r⟩=>⟨k a List.mem_cons_self _ h,Gls.keep (fun b hb=>k b (List.mem_cons_of_mem _ hb)) r⟩
theorem zaZ {α:Type}{x:α}{a b:List α}(h:x∈a++b):x∈a∨x∈b:=List.mem_append.mp h
theorem Gls.len {H:Hp}:∀ {as:List Addr}{gs:List Grp},Gls H as gs→as.length=gs.length
 | [],[],_=>rfl
 | [],_::_,h=>h.elim
 | _::_,[],h=>h.elim
 | _::_,_::_,⟨_,r⟩=>congrArg (· + 1) (Gls.len r)
theorem Gls.app {H:Hp}:∀ {as bs:List Addr}{gs hs:List Grp},Gls H as gs→Gls H bs hs→Gls H (as++bs) (gs++hs)
 | [],_,[],_,_,q=>q
 | [],_,_::_,_,h,_=>h.elim
 | _::_,_,[],_,h,_=>h.elim
 | _::_,_,_::_,_,⟨x,r⟩,q=>⟨x,Gls.app r q⟩
theorem Gls.take {H:Hp}:∀ {as:List Addr}{gs:List Grp}(i:Nat),Gls H as gs→Gls H (as.take i) (gs.take i)
 | [],[],i,_=>by cases i<;>exact trivial
 | [],_::_,_,h=>h.elim
 | _::_,[],_,h=>h.elim
 | _::_,_::_,0,_=>trivial
 | _::_,_::_,i+1,⟨x,r⟩=>⟨x,Gls.take i r⟩
theorem Gls.drop {H:Hp}:∀ {as:List Addr}{gs:List Grp}(i:Nat),Gls H as gs→Gls H (as.drop i) (gs.drop i)
 | [],[],i,_=>by cases i<;>exact trivial
 | [],_::_,_,h=>h.elim
 | _::_,[],_,h=>h.elim
 | _::_,_::_,0,h=>h
 | _::_,_::_,i+1,⟨_,r⟩=>Gls.drop i r
theorem Gls.get {H:Hp}:∀ {as:List Addr}{gs:List Grp}{i:Nat}{g:Grp},Gls H as gs→gs[i]?=some g→∃ a,as[i]?=some a∧H a=some (.lst [.int g.many,.int g.lane,.int g.fork])
 | [],[],_,_,_,e=>by simp at e
 | [],_::_,_,_,h,_=>h.elim
 | _::_,[],_,_,h,_=>h.elim
 | a::_,g::_,0,g',⟨h,_⟩,e=>by
  obtain rfl:g=g':=by simpa using e
  exact⟨a,rfl,h⟩
 | _::as,_::gs,i+1,g',⟨_,r⟩,e=>by
  obtain⟨a,p,q⟩:=Gls.get (i:=i) r (show gs[i]?=some g' by simpa using e)
  exact⟨a,by simpa using p,q⟩
abbrev mdK (lt lg lo:Addr):List (Key × V):=[(.inr "turns",.ref lt),(.inr "groups",.ref lg),(.inr "out",.ref lo)]
theorem md_t (lt lg lo:Addr):valV (mdK lt lg lo) (.inr "turns")=some (.ref lt):=zbo rfl
theorem zgX:¬((Sum.inr "turns":Key)=.inr "groups")∧¬((Sum.inr "turns":Key)=.inr "out")∧¬((Sum.inr "groups":Key)=.inr "out"):=by decide +kernel
theorem md_g (lt lg lo:Addr):valV (mdK lt lg lo) (.inr "groups")=some (.ref lg):=(zbp zgX.1).trans (zbo rfl)
theorem md_o (lt lg lo:Addr):valV (mdK lt lg lo) (.inr "out")=some (.ref lo):=(zbp zgX.2.1).trans ((zbp zgX.2.2).trans (zbo rfl))
structure MdAt (H0:Hp) (l:Addr) (H:Hp) (d lt lg lo:Addr) (qa:List Addr) (ts:List Int) (gs:List Grp) (os:List Int):Prop where
 hd:H d=some (.dK (mdK lt lg lo))
 ht:H lt=some (.lst (ts.map V.int))
 hg:H lg=some (.lst (qa.map V.ref))
 ho:H lo=some (.lst (os.map V.int))
 gl:Gls H qa gs
 nd:(l::lt::lg::lo::qa).Nodup
 fr:∀ x∈lt::lg::lo::qa,H0 x=none
 but:But l H0 H
 pk:PkAt H l
section
variable {H0 H H':Hp}{l d lt lg lo:Addr}{qa:List Addr}{ts os:List Int}{gs:List Grp}
theorem MdAt.ne (m:MdAt H0 l H d lt lg lo qa ts gs os):l≠lt∧l≠lg∧l≠lo∧(∀ a∈qa,l≠a)∧lt≠lg∧lt≠lo∧(∀ a∈qa,lt≠a)∧lg≠lo∧(∀ a∈qa,lg≠a)∧(∀ a∈qa,lo≠a)∧qa.Nodup:=by
 obtain⟨a,b⟩:=List.nodup_cons.mp m.nd
 obtain⟨c,e⟩:=List.nodup_cons.mp b
 obtain⟨f,g⟩:=List.nodup_cons.mp e
 obtain⟨h,i⟩:=List.nodup_cons.mp g
 simp only[List.mem_cons,not_or]at a c f
 exact⟨a.1,a.2.1,a.2.2.1,fun x hx z=>a.2.2.2 (z ▸ hx),c.1,c.2.1,fun x hx z=>c.2.2 (z ▸ hx),f.1,fun x hx z=>f.2 (z ▸ hx),fun x hx z=>h (z ▸ hx),i⟩
theorem MdAt.same (m:MdAt H0 l H d lt lg lo qa ts gs os) (s:Same H H'):MdAt H0 l H' d lt lg lo qa ts gs os :=
 ⟨s _ _ m.hd,s _ _ m.ht,s _ _ m.hg,s _ _ m.ho,m.gl.keep fun a _ o e=>s _ _ e,m.nd,m.fr,m.but.trans (But.of s),m.pk.keep s⟩
theorem zg7 {x:Addr}{kvs:List (Key × V)}(h:H x=some (.dK kvs)) (p:PkAt H l):x≠l:=by
 rintro rfl
 obtain⟨a,b,z,_⟩:=p
 rw[z]at h;cases h
theorem MdAt.pick (m:MdAt H0 l H d lt lg lo qa ts gs os) (B:But l H H') (S:PkAt H' l):MdAt H0 l H' d lt lg lo qa ts gs os:=by
 obtain⟨n1,n2,n3,n4,_⟩:=m.ne
 exact⟨B _ _ m.hd (zg7 m.hd m.pk),B _ _ m.ht n1.symm,B _ _ m.hg n2.symm,B _ _ m.ho n3.symm,m.gl.keep fun a ha o e=>B _ _ e (n4 a ha).symm,m.nd,m.fr,m.but.trans B,S⟩
theorem MdAt.fresh (m:MdAt H0 l H d lt lg lo qa ts gs os) {x:Addr}(h:H x=none):H0 x=none∧l≠x:=by
 have nl:l≠x:=by
  rintro rfl
  obtain⟨a,b,z,_⟩:=m.pk
  rw[z]at h;cases h
 refine⟨?_,nl⟩
 cases e:H0 x with
 | none=>rfl
 | some o=>have:=m.but _ _ e nl.symm;rw[this]at h;cases h
end
inductive Dd
 | put (lane:Nat) (many:Int)
 | step (place:Nat)
 | join (i j:Nat)
def DeedAt (H:Hp) (t:Addr):Dd→Prop
 | .put lane many=>H t=some (.tup [.str "put",.int lane,.int many])
 | .step place=>H t=some (.tup [.str "step",.int place])
 | .join i j=>H t=some (.tup [.str "join",.int i,.int j])
def Alike (gs:List Grp) (i j:Nat):Prop:=∀ g h,gs[i]?=some g→gs[j]?=some h→g.lane=h.lane∧g.fork=h.fork
def DeedOk (N:Nt) (gs:List Grp):Dd→Prop
 | .put lane many=>lane<N.lanes∧many≠0∧-(10 ^ 29)<many∧many<10 ^ 29
 | .step place=>place<gs.length
 | .join i j=>i<j∧j<gs.length∧Alike gs i j
def DoTo (N:Nt) (ts:List Int) (gs:List Grp) (os ts':List Int) (gs':List Grp) (os':List Int):Dd→Prop
 | .put lane many=>ts'=ts∧os'=os∧∃ k,IsNext N.forks lane 0 k∧gs'=gs++[⟨many,lane,k⟩]
 | .step place=>StepTo N place ts gs os ts' gs' os'
 | .join i j=>ts'=ts∧os'=os∧JoinTo i j gs gs'
theorem Parts.one {fs:List (Nat × Nat)}{t m:Int}{n:Nat}{gs hs:List Grp}(a:Parts fs t m n gs) (b:Parts fs t m n hs):gs=hs:=by
 obtain⟨f,k1,k2,ef,n1,n2,rfl⟩:=a
 obtain⟨f',k1',k2',ef',n1',n2',rfl⟩:=b
 rw[ef]at ef'
 obtain rfl:=Option.some.inj ef'
 rw[n1.one n1',n2.one n2']
structure ScOk (N:Nt) (ts:List Int) (gs:List Grp) (os:List Int):Prop where
 tl:ts.length=N.forks.length
 tb:∀ t∈ts,t=0∨t=1
 ol:os.length=N.lanes
 gk:∀ g∈gs,g.lane<N.lanes∧g.fork≤N.forks.length
theorem zcI {m:Int}{lane k:Nat}{g:Grp}(h:g∈part m lane k):g=⟨m,lane,k⟩:=by
 unfold part at h
 split at h
 ·simp at h
 ·simpa using h
theorem zhE {ts:List Int}{i:Nat}{v:Int}(h:∀ t∈ts,t=0∨t=1) (hv:v=0∨v=1):∀ t∈ts.set i v,t=0∨t=1:=fun t ht=>by
 rcases List.mem_or_eq_of_mem_set ht with z|z
 ·exact h t z
 ·rw[z];exact hv
theorem DoTo.ok {N:Nt}(okN:N.Ok) {ts os ts' os':List Int}{gs gs':List Grp}{dd:Dd}(k:ScOk N ts gs os) (dk:DeedOk N gs dd) (h:DoTo N ts gs os ts' gs' os' dd):ScOk N ts' gs' os'∧gs'.length≤gs.length+1:=by
 cases dd with
 | put lane many =>
  obtain⟨rfl,rfl,kk,hk,rfl⟩:=h
  refine⟨⟨k.tl,k.tb,k.ol,fun g hg=>?_⟩,by rw[List.length_append];exact Nat.le_refl _⟩
  rcases zaZ hg with hg|hg
  ·exact k.gk g hg
  ·rw[List.mem_singleton.mp hg];exact⟨dk.1,hk.upto⟩
 | step place =>
  obtain⟨g,eg,h⟩:=h
  have gm:=List.mem_of_getElem? eg
  have gl:=(List.getElem?_eq_some_iff.mp eg).1
  rcases h with ⟨z,rfl,rfl,rfl⟩|⟨z,rfl,rfl,ms,pt,rfl⟩
  ·refine⟨⟨k.tl,k.tb,by rw[List.length_set];exact k.ol,fun q hq=>?_⟩,by rw[List.length_append,List.length_take,List.length_drop];lia⟩
   rcases zaZ hq with hq|hq
   ·exact k.gk q (List.mem_of_mem_take hq)
   ·exact k.gk q (List.mem_of_mem_drop hq)
  ·have pl:=pt.len
   refine⟨⟨by rw[List.length_set];exact k.tl,zhE k.tb (by lia),k.ol,fun q hq=>?_⟩,by rw[List.length_append,List.length_append,List.length_take,List.length_drop];lia⟩
   rcases zaZ hq with hq|hq
   ·rcases zaZ hq with hq|hq
    ·exact k.gk q (List.mem_of_mem_take hq)
    ·obtain⟨f,k1,k2,ef,n1,n2,rfl⟩:=pt
     have fo:=okN.fk f (List.mem_of_getElem? ef)
     rcases zaZ hq with hq|hq
     ·rw[zcI hq];exact⟨fo.1,n1.upto⟩
     ·rw[zcI hq];exact⟨fo.2.1,n2.upto⟩
   ·exact k.gk q (List.mem_of_mem_drop hq)
 | join i j =>
  obtain⟨rfl,rfl,g,h',eg,eh,rfl⟩:=h
  have gm:=List.mem_of_getElem? eg
  obtain⟨ij,jl,_⟩:=dk
  have pl:(part (g.many+h'.many) g.lane g.fork).length≤1:=by unfold part;split<;>simp
  refine⟨⟨k.tl,k.tb,k.ol,fun q hq=>?_⟩,by rw[List.length_append,List.length_append,List.length_append,List.length_take,List.length_take,List.length_drop,List.length_drop];lia⟩
  rcases zaZ hq with hq|hq
  ·rcases zaZ hq with hq|hq
   ·rcases zaZ hq with hq|hq
    ·exact k.gk q (List.mem_of_mem_take hq)
    ·rw[zcI hq];exact k.gk g gm
   ·exact k.gk q (List.mem_of_mem_drop (List.mem_of_mem_take hq))
  ·exact k.gk q (List.mem_of_mem_drop hq)
end Bn
namespace K21
open PySem L2 Own Bn
abbrev zhM:Stmt:=top 17
def DeedOk2 (N:Nt) (gs:List Grp):Dd→Prop
 | .put lane many=>lane<N.lanes∧many≠0∧-(10 ^ 30)<many∧many<10 ^ 30
 | dd=>DeedOk N gs dd
def zd3:Sp:=fun vs H Q _=>∃ r fr er ps N sc tr gr ou qs ts gs os t dd,vs=[.ref r,.ref sc,.ref t]∧Nt.Ok N∧NetAt H r fr er ps N∧SceneAt H sc tr gr ou qs ts gs os∧ScOk N ts gs os∧gs.length≤900∧DeedAt H t dd∧DeedOk2 N gs dd ∧
 ∀ sc' tr' gr' ou' qs' ts' gs' os' H',DoTo N ts gs os ts' gs' os' dd→Same H H'→SceneAt H' sc' tr' gr' ou' qs' ts' gs' os'→Q (.ref sc') H'
theorem zj5:¬(V.str "step" = V.str "put")∧¬(V.str "join" = V.str "put")∧¬(V.str "join" = V.str "step"):=⟨fun y=>absurd (V.str.inj y) (by decide +kernel),fun y=>absurd (V.str.inj y) (by decide +kernel),fun y=>absurd (V.str.inj y) (by decide +kernel)⟩
section
variable {P:Program}{w:World}{K:PySem.W.Frag}{mg:Str→Option Value}{base:Heap}
theorem scDn:FnScope ["net","scene","deed"] ["net","scene","deed"] (zak zhM):=⟨rfl,rfl,rfl,by decide +kernel,rfl,by decide +kernel,by decide +kernel⟩
theorem zic {f fD fP fS fJ:Addr}{fd dD dP dS dJ:FuncData}(F:Fun K "done" "done" zhM f fd) (G:Mgs mg) (UDe:Use P w K mg base "is_deed" ["net","thing"] 4 (zeR K) fD dD) (UPu:Use P w K mg base "put_behind" ["net","scene","lane","many"] 2 zeN fP dP) (USt:Use P w K mg base "stepped" ["net","scene","place"] 3 zbS fS dS) (UJo:Use P w K mg base "joined" ["scene","first","second"] 1 zcx fJ dJ):FnOk P w K mg base CX0 5 f fd ["net","scene","deed"] zd3:=by
 refine F.ok scDn (fun vs H Q E h=>?_) (fun cdv A outer s H vs Q E hr h=>?_)
 ·obtain⟨r,fr,er,ps,N,sc,tr,gr,ou,qs,ts,gs,os,t,dd,rfl,_⟩:=h
  rfl
 obtain⟨r,fr,er,ps,N,sc,tr,gr,ou,qs,ts,gs,os,t,dd,rfl,ok,na,sa,sk,gl,da,dk,k⟩:=h
 have hr1:Room 1 _:=hr.mono (by decide)
 have hr2:Room 2 _:=hr.mono (by decide)
 have hr3:Room 3 _:=hr.mono (by decide)
 refine⟨_,(@zaf _ _ _ _ _ (@zaU _ _ _ _ _ _ _ _ (@zfc _ _ _ _ (@zbu _ _ _ (@zag _ _ _ _ _ _ _ _ _ _ _ _ _ _ _ _ UDe.ok hr (by rfl) UDe.m UDe.kp UDe.b .nil zat (@zaa _ _ _ _ _ (@pv _ 0 _ _ (by rfl) (by first|exact Or.inl rfl|exact Or.inr (.inl rfl)|exact Or.inr (.inr rfl)) (by decide) (by decide)) (@zaa _ _ _ _ _ (@pv _ 2 _ _ (by rfl) (by first|exact Or.inl rfl|exact Or.inr (.inl rfl)|exact Or.inr (.inr rfl)) (by decide) (by decide)) zab (by rfl)) (by rfl)) (by decide) (by rfl) (by rfl)) (fun _=>rfl))) (@zah _ _ _ zcE) zaD) (@zaf _ _ _ _ _ (@zaU _ _ _ _ _ _ _ _ (@zau _ _ _ _ _ _ _ _ zbK (@zaq _ _ _ _ _ _ _ zam (@pv _ 2 _ _ (by rfl) (by first|exact Or.inl rfl|exact Or.inr (.inl rfl)|exact Or.inr (.inr rfl)) (by decide) (by decide)) zae (fun _ _=>rfl)) zax (zay _)) (@zah _ _ _ (@zav _ _ _ _ (@zag _ _ _ _ _ _ _ _ _ _ _ _ _ _ _ _ UPu.ok hr2 (by rfl) UPu.m UPu.kp UPu.b .nil zat (@zaa _ _ _ _ _ (@pv _ 0 _ _ (by rfl) (by first|exact Or.inl rfl|exact Or.inr (.inl rfl)|exact Or.inr (.inr rfl)) (by decide) (by decide)) (@zaa _ _ _ _ _ (@pv _ 1 _ _ (by rfl) (by first|exact Or.inl rfl|exact Or.inr (.inl rfl)|exact Or.inr (.inr rfl)) (by decide) (by decide)) (@zaa _ _ _ _ _ (@zaq _ _ _ _ _ _ _ zam (@pv _ 2 _ _ (by rfl) (by first|exact Or.inl rfl|exact Or.inr (.inl rfl)|exact Or.inr (.inr rfl)) (by decide) (by decide)) zae (fun _ _=>rfl)) (@zaa _ _ _ _ _ (@zaq _ _ _ _ _ _ _ zam (@pv _ 2 _ _ (by rfl) (by first|exact Or.inl rfl|exact Or.inr (.inl rfl)|exact Or.inr (.inr rfl)) (by decide) (by decide)) zae (fun _ _=>rfl)) zab (by rfl)) (by rfl)) (by rfl)) (by rfl)) (by decide) (by rfl) (by rfl)))) zaD) (@zaf _ _ _ _ _ (@zaU _ _ _ _ _ _ _ _ (@zau _ _ _ _ _ _ _ _ zbK (@zaq _ _ _ _ _ _ _ zam (@pv _ 2 _ _ (by rfl) (by first|exact Or.inl rfl|exact Or.inr (.inl rfl)|exact Or.inr (.inr rfl)) (by decide) (by decide)) zae (fun _ _=>rfl)) zax (zay _)) (@zah _ _ _ (@zav _ _ _ _ (@zag _ _ _ _ _ _ _ _ _ _ _ _ _ _ _ _ USt.ok hr3 (by rfl) USt.m USt.kp USt.b .nil zat (@zaa _ _ _ _ _ (@pv _ 0 _ _ (by rfl) (by first|exact Or.inl rfl|exact Or.inr (.inl rfl)|exact Or.inr (.inr rfl)) (by decide) (by decide)) (@zaa _ _ _ _ _ (@pv _ 1 _ _ (by rfl) (by first|exact Or.inl rfl|exact Or.inr (.inl rfl)|exact Or.inr (.inr rfl)) (by decide) (by decide)) (@zaa _ _ _ _ _ (@zaq _ _ _ _ _ _ _ zam (@pv _ 2 _ _ (by rfl) (by first|exact Or.inl rfl|exact Or.inr (.inl rfl)|exact Or.inr (.inr rfl)) (by decide) (by decide)) zae (fun _ _=>rfl)) zab (by rfl)) (by rfl)) (by rfl)) (by decide) (by rfl) (by rfl)))) zaD) (@zah _ _ _ (@zav _ _ _ _ (@zag _ _ _ _ _ _ _ _ _ _ _ _ _ _ _ _ UJo.ok hr1 (by rfl) UJo.m UJo.kp UJo.b .nil zat (@zaa _ _ _ _ _ (@pv _ 1 _ _ (by rfl) (by first|exact Or.inl rfl|exact Or.inr (.inl rfl)|exact Or.inr (.inr rfl)) (by decide) (by decide)) (@zaa _ _ _ _ _ (@zaq _ _ _ _ _ _ _ zam (@pv _ 2 _ _ (by rfl) (by first|exact Or.inl rfl|exact Or.inr (.inl rfl)|exact Or.inr (.inr rfl)) (by decide) (by decide)) zae (fun _ _=>rfl)) (@zaa _ _ _ _ _ (@zaq _ _ _ _ _ _ _ zam (@pv _ 2 _ _ (by rfl) (by first|exact Or.inl rfl|exact Or.inr (.inl rfl)|exact Or.inr (.inr rfl)) (by decide) (by decide)) zae (fun _ _=>rfl)) zab (by rfl)) (by rfl)) (by rfl)) (by decide) (by rfl) (by rfl))))))),?_⟩
 obtain⟨w1,w2,w3⟩:=zj5
 cases dd with
 | put lane many =>
  obtain⟨ll,m0,m1,m2⟩:=dk
  replace da:H t=some (.tup [.str "put",.int lane,.int many]):=da
  have ro:=zbT da
  have dv:zb3 H N.lanes (.ref t)=true:=by
   unfold zb3
   rw[ro]
   show (if za8 "put" (.str "put")=true then zbJ N.lanes (.int lane) && zeC (.int many) else za8 "join" (.str "put") && (zcQ 0 (.int many) && lowV (.int lane) (.int many)))=true
   rw[if_pos (by decide)]
   show ((decide ((0:Int)≤lane) && decide ((lane:Int)<N.lanes)) && (decide ((if many<0 then -many else many)<10 ^ 30) && !decide (many=0)))=true
   rw[decide_eq_true (by lia),decide_eq_true (by lia),decide_eq_true (by split<;>lia),decide_eq_false m0];rfl
  refine⟨_,rfl,_,rfl,r,fr,er,ps,N,.ref t,rfl,na,⟨_,.tup da,_,rfl⟩,fun xs hx y hy=>?_,?_⟩
  ·rw[ro]at hx
   obtain rfl:=Option.some.inj hx
   simp only[List.mem_cons,List.mem_nil_iff,or_false]at hy
   rcases hy with rfl|rfl|rfl
   ·exact⟨_,.str _,_,rfl⟩
   ·exact⟨_,.int _,_,rfl⟩
   ·exact⟨_,.int _,_,rfl⟩
  rw[dv]
  refine⟨true,rfl,iteF ?_⟩
  refine⟨_,rfl,t,_,_,_,rfl,rfl,SqT.of da,rfl,rfl,_,rfl,ite2 (fun _=>?_) (fun z=>absurd (decide_eq_true rfl) z)⟩
  exact⟨_,rfl,_,rfl,_,rfl,t,_,_,_,rfl,rfl,SqT.of da,rfl,_,rfl,t,_,_,_,rfl,rfl,SqT.of da,rfl,r,fr,er,ps,N,sc,tr,gr,ou,qs,ts,gs,os,lane,many,rfl,ok,na,sa,gl,fun kk sc' gr' qs' H' hk s' sa'=>k _ _ _ _ _ _ _ _ _ ⟨rfl,rfl,kk,hk,rfl⟩ s' sa'⟩
 | step place =>
  replace da:H t=some (.tup [.str "step",.int place]):=da
  have ro:=zbT da
  have dv:zb3 H N.lanes (.ref t)=true:=by
   unfold zb3
   rw[ro]
   show (za8 "step" (.str "step") && zcQ 0 (.int place))=true
   rw[show za8 "step" (.str "step")=true by decide]
   rw[Bool.true_and]
   exact decide_eq_true (show (0:Int)≤(place:Int) from Int.natCast_nonneg _)
  refine⟨_,rfl,_,rfl,r,fr,er,ps,N,.ref t,rfl,na,⟨_,.tup da,_,rfl⟩,fun xs hx y hy=>?_,?_⟩
  ·rw[ro]at hx
   obtain rfl:=Option.some.inj hx
   simp only[List.mem_cons,List.mem_nil_iff,or_false]at hy
   rcases hy with rfl|rfl
   ·exact⟨_,.str _,_,rfl⟩
   ·exact⟨_,.int _,_,rfl⟩
  rw[dv]
  refine⟨true,rfl,iteF ?_⟩
  refine⟨_,rfl,t,_,_,_,rfl,rfl,SqT.of da,rfl,rfl,_,rfl,?_⟩
  rw[show decide (V.str "step" = V.str "put")=false from decide_eq_false w1]
  refine iteF ⟨_,rfl,t,_,_,_,rfl,rfl,SqT.of da,rfl,rfl,_,rfl,?_⟩
  rw[show decide (V.str "step" = V.str "step")=true from decide_eq_true rfl]
  refine iteT ⟨_,rfl,_,rfl,_,rfl,t,_,_,_,rfl,rfl,SqT.of da,rfl,r,fr,er,ps,N,sc,tr,gr,ou,qs,ts,gs,os,place,rfl,ok,na,sa,dk,gl,sk.tl,sk.ol,sk.gk,fun sc' tr' gr' ou' qs' ts' gs' os' H' st s' sa'=>k _ _ _ _ _ _ _ _ _ st s' sa'⟩
 | join i j =>
  obtain⟨ij,jl,al⟩:=dk
  replace da:H t=some (.tup [.str "join",.int i,.int j]):=da
  have ro:=zbT da
  have dv:zb3 H N.lanes (.ref t)=true:=by
   unfold zb3
   rw[ro]
   show (if za8 "put" (.str "join")=true then zbJ N.lanes (.int i) && zeC (.int j) else za8 "join" (.str "join") && (zcQ 0 (.int j) && lowV (.int i) (.int j)))=true
   rw[if_neg (by decide),show za8 "join" (.str "join")=true by decide]
   show (decide ((0:Int)≤j) && (decide ((0:Int)≤i) && decide ((i:Int)<j)))=true
   rw[decide_eq_true (by lia),decide_eq_true (by lia),decide_eq_true (by lia)];rfl
  refine⟨_,rfl,_,rfl,r,fr,er,ps,N,.ref t,rfl,na,⟨_,.tup da,_,rfl⟩,fun xs hx y hy=>?_,?_⟩
  ·rw[ro]at hx
   obtain rfl:=Option.some.inj hx
   simp only[List.mem_cons,List.mem_nil_iff,or_false]at hy
   rcases hy with rfl|rfl|rfl
   ·exact⟨_,.str _,_,rfl⟩
   ·exact⟨_,.int _,_,rfl⟩
   ·exact⟨_,.int _,_,rfl⟩
  rw[dv]
  refine⟨true,rfl,iteF ?_⟩
  refine⟨_,rfl,t,_,_,_,rfl,rfl,SqT.of da,rfl,rfl,_,rfl,?_⟩
  rw[show decide (V.str "join" = V.str "put")=false from decide_eq_false w2]
  refine iteF ⟨_,rfl,t,_,_,_,rfl,rfl,SqT.of da,rfl,rfl,_,rfl,?_⟩
  rw[show decide (V.str "join" = V.str "step")=false from decide_eq_false w3]
  exact iteF ⟨_,rfl,_,rfl,t,_,_,_,rfl,rfl,SqT.of da,rfl,_,rfl,t,_,_,_,rfl,rfl,SqT.of da,rfl,sc,tr,gr,ou,qs,ts,gs,os,i,j,rfl,sa,ij,jl,gl,al,fun sc' gr' qs' gs' H' jt s' sa'=>k _ _ _ _ _ _ _ _ _ ⟨rfl,rfl,jt⟩ s' sa'⟩
end
end K21
namespace Bn
open PySem L2 Own
section
variable {H0 H:Hp}{l d lt lg lo:Addr}{qa:List Addr}{ts os:List Int}{gs:List Grp}
theorem But.fresh {o:HO}{x:Addr}(B:But l H0 H) (f:H0 x=none):But l H0 (L2.upd H x o):=fun b u e n=>by
 rw[zaj (zai e f)];exact B b u e n
theorem MdAt.dne (m:MdAt H0 l H d lt lg lo qa ts gs os) {x:Addr}{xs:List V}(h:H x=some (.lst xs)):d≠x:=zjU m.hd h (fun e=>by cases e)
theorem MdAt.turns (m:MdAt H0 l H d lt lg lo qa ts gs os) (ts':List Int):MdAt H0 l (L2.upd H lt (.lst (ts'.map V.int))) d lt lg lo qa ts' gs os:=by
 obtain⟨n1,n2,n3,n4,n5,n6,n7,n8,n9,n10,n11⟩:=m.ne
 exact⟨by rw[zaj (m.dne m.ht)];exact m.hd,zac,by rw[zaj n5.symm];exact m.hg,by rw[zaj n6.symm];exact m.ho,m.gl.keep fun a ha o e=>by rw[zaj (n7 a ha).symm];exact e,m.nd,m.fr,m.but.fresh (m.fr lt List.mem_cons_self),m.pk.upd n1⟩
theorem MdAt.outs (m:MdAt H0 l H d lt lg lo qa ts gs os) (os':List Int):MdAt H0 l (L2.upd H lo (.lst (os'.map V.int))) d lt lg lo qa ts gs os':=by
 obtain⟨n1,n2,n3,n4,n5,n6,n7,n8,n9,n10,n11⟩:=m.ne
 exact⟨by rw[zaj (m.dne m.ho)];exact m.hd,by rw[zaj n6];exact m.ht,by rw[zaj n8];exact m.hg,zac,m.gl.keep fun a ha o e=>by rw[zaj (n10 a ha).symm];exact e,m.nd,m.fr,m.but.fresh (m.fr lo (by simp)),m.pk.upd n3⟩
theorem MdAt.groups (m:MdAt H0 l H d lt lg lo qa ts gs os) {qa':List Addr}{gs':List Grp}(hg:Gls H qa' gs') (nd:(l::lt::lg::lo::qa').Nodup) (fr:∀ x∈qa',H0 x=none):MdAt H0 l (L2.upd H lg (.lst (qa'.map V.ref))) d lt lg lo qa' ts gs' os:=by
 obtain⟨n1,n2,n3,n4,n5,n6,n7,n8,n9,n10,n11⟩:=m.ne
 have nq:∀ a∈qa',lg≠a:=fun a ha z=>by
  have:=(List.nodup_cons.mp (List.nodup_cons.mp (List.nodup_cons.mp nd).2).2).1
  exact this (by subst z;exact List.mem_cons_of_mem _ ha)
 refine⟨by rw[zaj (m.dne m.hg)];exact m.hd,by rw[zaj n5];exact m.ht,zac,by rw[zaj n8.symm];exact m.ho,hg.keep fun a ha o e=>by rw[zaj (nq a ha).symm];exact e,nd,fun x hx=>?_,m.but.fresh (m.fr lg (by simp)),m.pk.upd n2⟩
 simp only[List.mem_cons]at hx
 rcases hx with rfl|rfl|rfl|hx
 ·exact m.fr _ (by simp)
 ·exact m.fr _ (by simp)
 ·exact m.fr _ (by simp)
 ·exact fr x hx
theorem zfy (as:List Addr) (i:Nat):(as.map V.ref).eraseIdx i=(as.eraseIdx i).map V.ref:=by
 rw[List.eraseIdx_eq_take_drop_succ,List.eraseIdx_eq_take_drop_succ,List.map_append,List.map_take,List.map_drop]
theorem zfr {a b c e:Addr}{as bs:List Addr}(h:(a::b::c::e::as).Nodup) (s:bs.Sublist as):(a::b::c::e::bs).Nodup:=h.sublist ((((s.cons₂ e).cons₂ c).cons₂ b).cons₂ a)
theorem MdAt.erase (m:MdAt H0 l H d lt lg lo qa ts gs os) (i:Nat):MdAt H0 l (L2.upd H lg (.lst ((qa.map V.ref).eraseIdx i))) d lt lg lo (qa.take i++qa.drop (i+1)) ts (gs.take i++gs.drop (i+1)) os:=by
 rw[zfy,List.eraseIdx_eq_take_drop_succ]
 have sub:(qa.take i++qa.drop (i+1)).Sublist qa:=by rw[← List.eraseIdx_eq_take_drop_succ];exact List.eraseIdx_sublist ..
 exact m.groups ((m.gl.take i).app (m.gl.drop (i+1))) (zfr m.nd sub) fun x hx=>m.fr x (by simp[sub.subset hx])
theorem zdb {a b c e x:Addr}{as bs:List Addr}(h:(a::b::c::e::(as++bs)).Nodup) (n:x∉a::b::c::e::(as++bs)):(a::b::c::e::(as++x::bs)).Nodup:=by
 have p:(x::a::b::c::e::(as++bs)).Perm (a::b::c::e::(as++x::bs)):=by
  have q:((a::b::c::e::as)++x::bs).Perm (x::((a::b::c::e::as)++bs)):=List.perm_middle
  exact q.symm
 exact p.nodup_iff.mp (List.nodup_cons.mpr ⟨n,h⟩)
theorem MdAt.insert (m:MdAt H0 l H d lt lg lo qa ts gs os) {b:Addr}{g:Grp}(hb:H b=some (.lst [.int g.many,.int g.lane,.int g.fork])) (nb:b∉l::lt::lg::lo::qa) (fb:H0 b=none) (i:Nat):MdAt H0 l (L2.upd H lg (.lst ((qa.map V.ref).take i++.ref b::(qa.map V.ref).drop i))) d lt lg lo (qa.take i++b::qa.drop i) ts (gs.take i++g::gs.drop i) os:=by
 have e:(qa.map V.ref).take i++V.ref b::(qa.map V.ref).drop i=(qa.take i++b::qa.drop i).map V.ref:=by rw[List.map_append,List.map_cons,List.map_take,List.map_drop]
 rw[e]
 refine m.groups ((m.gl.take i).app ⟨hb,m.gl.drop i⟩) (zdb (by rw[List.take_append_drop];exact m.nd) (by rw[List.take_append_drop];exact nb)) fun x hx=>?_
 rcases zaZ hx with hx|hx
 ·exact m.fr x (by simp[List.mem_of_mem_take hx])
 ·rcases List.mem_cons.mp hx with rfl|hx
  ·exact fb
  ·exact m.fr x (by simp[List.mem_of_mem_drop hx])
theorem MdAt.add (m:MdAt H0 l H d lt lg lo qa ts gs os) {b:Addr}{g:Grp}(hb:H b=some (.lst [.int g.many,.int g.lane,.int g.fork])) (nb:b∉l::lt::lg::lo::qa) (fb:H0 b=none):MdAt H0 l (L2.upd H lg (.lst (qa.map V.ref++[.ref b]))) d lt lg lo (qa++[b]) ts (gs++[g]) os:=by
 have e:qa.map V.ref++[V.ref b]=(qa++[b]).map V.ref:=by rw[List.map_append];rfl
 rw[e]
 refine m.groups (m.gl.app ⟨hb,trivial⟩) (zdb (as:=qa) (bs:=[]) (by rw[List.append_nil];exact m.nd) (by rw[List.append_nil];exact nb)) fun x hx=>?_
 rcases zaZ hx with hx|hx
 ·exact m.fr x (by simp[hx])
 ·rw[List.mem_singleton.mp hx];exact fb
theorem MdAt.other (m:MdAt H0 l H d lt lg lo qa ts gs os) {b:Addr}{xs ys:List V}(hb:H b=some (.lst xs)) (nb:b∉l::lt::lg::lo::qa) (fb:H0 b=none):MdAt H0 l (L2.upd H b (.lst ys)) d lt lg lo qa ts gs os:=by
 simp only[List.mem_cons,not_or]at nb
 obtain⟨n1,n2,n3,n4,n5⟩:=nb
 exact⟨by rw[zaj (m.dne hb)];exact m.hd,by rw[zaj (Ne.symm n2)];exact m.ht,by rw[zaj (Ne.symm n3)];exact m.hg,by rw[zaj (Ne.symm n4)];exact m.ho,m.gl.keep fun a ha o e=>by rw[zaj (show a≠b from fun z=>n5 (z ▸ ha))];exact e,m.nd,m.fr,m.but.fresh fb,m.pk.upd (Ne.symm n1)⟩
theorem MdAt.new (m:MdAt H0 l H d lt lg lo qa ts gs os) {x:Addr}(h:H x=none):x∉l::lt::lg::lo::qa∧H0 x=none:=by
 obtain⟨f,nl⟩:=m.fresh h
 refine⟨fun hx=>?_,f⟩
 simp only[List.mem_cons]at hx
 rcases hx with rfl|rfl|rfl|rfl|hx
 ·exact nl rfl
 ·rw[m.ht]at h;cases h
 ·rw[m.hg]at h;cases h
 ·rw[m.ho]at h;cases h
 ·obtain⟨i,hi⟩:=List.getElem?_of_mem hx
  have il:=(List.getElem?_eq_some_iff.mp hi).1
  have ig:i<gs.length:=by rw[← m.gl.len];exact il
  obtain⟨a,ea,ha⟩:=m.gl.get (List.getElem?_eq_getElem ig)
  rw[hi]at ea
  obtain rfl:=Option.some.inj ea
  rw[ha]at h;cases h
theorem Gls.set {H:Hp}{a:Addr}{g':Grp}:∀ {as:List Addr}{gs:List Grp}{i:Nat},Gls H as gs→as.Nodup→as[i]?=some a→Gls (L2.upd H a (.lst [.int g'.many,.int g'.lane,.int g'.fork])) as (gs.set i g')
 | [],_,_,_,_,e=>by simp at e
 | _::_,[],_,h,_,_=>h.elim
 | b::as,g::gs,0,⟨h,r⟩,n,e=>by
  obtain rfl:b=a:=by simpa using e
  refine⟨zac,r.keep fun x hx o eo=>?_⟩
  rw[zaj (show x≠b from fun z=>(List.nodup_cons.mp n).1 (z ▸ hx))];exact eo
 | b::as,g::gs,i+1,⟨h,r⟩,n,e=>by
  have e':as[i]?=some a:=by simpa using e
  refine⟨?_,Gls.set r (List.nodup_cons.mp n).2 e'⟩
  rw[zaj (show b≠a from fun z=>(List.nodup_cons.mp n).1 (z ▸ List.mem_of_getElem? e'))];exact h
theorem MdAt.setG (m:MdAt H0 l H d lt lg lo qa ts gs os) {i:Nat}{a:Addr}{g g':Grp}(ea:qa[i]?=some a) (eg:gs[i]?=some g):MdAt H0 l (L2.upd H a (.lst [.int g'.many,.int g'.lane,.int g'.fork])) d lt lg lo qa ts (gs.set i g') os:=by
 obtain⟨n1,n2,n3,n4,n5,n6,n7,n8,n9,n10,n11⟩:=m.ne
 obtain⟨a',ea',ha⟩:=m.gl.get eg
 obtain rfl:a=a':=Option.some.inj (ea.symm.trans ea')
 have aq:a∈qa:=List.mem_of_getElem? ea
 exact⟨by rw[zaj (m.dne ha)];exact m.hd,by rw[zaj (n7 a aq)];exact m.ht,by rw[zaj (n9 a aq)];exact m.hg,by rw[zaj (n10 a aq)];exact m.ho,m.gl.set n11 ea,m.nd,m.fr,m.but.fresh (m.fr a (by simp[aq])),m.pk.upd (n4 a aq)⟩
end
theorem zhd {α:Type}{gs:List α}{i j:Nat}{g h:α}(ij:i<j) (eg:gs[i]?=some g) (eh:gs[j]?=some h):∃ A B C,gs=A++g::(B++h::C)∧A.length=i∧A.length+1+B.length=j:=by
 obtain⟨il,rfl⟩:=List.getElem?_eq_some_iff.mp eg
 obtain⟨jl,rfl⟩:=List.getElem?_eq_some_iff.mp eh
 refine⟨gs.take i,(gs.drop (i+1)).take (j-(i+1)),gs.drop (j+1),?_,by rw[List.length_take];lia,by rw[List.length_take,List.length_take,List.length_drop];lia⟩
 have e1:gs.drop j=(gs.drop (i+1)).drop (j-(i+1)):=by rw[List.drop_drop];congr 1;lia
 rw[← List.drop_eq_getElem_cons jl,e1,List.take_append_drop,← List.drop_eq_getElem_cons il,List.take_append_drop]
theorem ziD {α:Type}(A B C:List α) (g h x:α) {i j:Nat}(lA:A.length=i) (lB:A.length+1+B.length=j) :
  (((A++g::(B++h::C)).take j++(A++g::(B++h::C)).drop (j+1)).set i x=A++x::(B++C))∧((A++x::(B++C)).take i++(A++x::(B++C)).drop (i+1)=A++(B++C)) ∧
  ∀ p:List α,(A++g::(B++h::C)).take i++p++((A++g::(B++h::C)).drop (i+1)).take (j-(i+1))++(A++g::(B++h::C)).drop (j+1)=A++(p++(B++C)):=by
 subst lA
 subst lB
 have e1:A++g::(B++h::C)=(A++g::B)++h::C:=by simp
 have e2:A++g::(B++h::C)=(A++g::B++[h])++C:=by simp
 have l1:(A++g::B).length=A.length+1+B.length:=by simp;lia
 have l2:(A++g::B++[h]).length=A.length+1+B.length+1:=by simp;lia
 have t1:(A++g::(B++h::C)).take (A.length+1+B.length)=A++g::B:=by rw[e1,List.take_left' l1]
 have d1:(A++g::(B++h::C)).drop (A.length+1+B.length+1)=C:=by rw[e2,List.drop_left' l2]
 have d2:∀ (y:α) (D:List α),(A++y::D).drop (A.length+1)=D:=fun y D=>by
  rw[show A++y::D=(A++[y])++D by simp]
  exact List.drop_left' (by simp)
 refine⟨?_,?_,fun p=>?_⟩
 ·rw[t1,d1,List.append_assoc,List.set_append_right _ _ (Nat.le_refl _),Nat.sub_self];rfl
 ·rw[List.take_left' rfl,d2]
 ·rw[d1,d2,List.take_left' rfl,show A.length+1+B.length-(A.length+1)=B.length by lia,List.take_left' rfl,List.append_assoc,List.append_assoc]
def zaG (gs:List Grp) (k:Nat × Nat):Int:=(gs.map fun g=>if (g.lane,g.fork)=k then g.many else 0).sum
theorem zaw (a b:List Grp) (k:Nat × Nat):zaG (a++b) k=zaG a k+zaG b k:=by unfold zaG;rw[List.map_append,List.sum_append]
theorem zaV (m:Int) (lane n:Nat) (k:Nat × Nat):zaG (part m lane n) k=if (lane,n)=k then m else 0:=by
 unfold part zaG
 by_cases z:m=0
 ·rw[if_pos z,z]
  split<;>rfl
 ·rw[if_neg z]
  show (if (lane,n)=k then m else 0)+0=_
  rw[Int.add_zero]
def Res (N:Nt) (ts os:List Int) (g:Grp) (ts':List Int) (ms:List Grp) (os':List Int):Prop :=
 (g.fork=N.forks.length∧ts'=ts∧ms=[]∧os'=os.set (N.ends.idxOf g.lane) (os.getD (N.ends.idxOf g.lane) 0+g.many)) ∨
 (g.fork<N.forks.length∧ts'=ts.set g.fork ((ts.getD g.fork 0+g.many)%2)∧os'=os∧Parts N.forks (ts.getD g.fork 0) g.many g.fork ms)
theorem StepTo.res {N:Nt}{place:Nat}{ts os ts' os':List Int}{gs gs':List Grp}(h:StepTo N place ts gs os ts' gs' os'):∃ A g B ms,gs=A++g::B∧A.length=place∧Res N ts os g ts' ms os'∧gs'=A++ms++B:=by
 obtain⟨g,eg,h⟩:=h
 obtain⟨il,rfl⟩:=List.getElem?_eq_some_iff.mp eg
 have e0:gs=gs.take place++gs[place]::gs.drop (place+1):=by rw[← List.drop_eq_getElem_cons il,List.take_append_drop]
 have e1:(gs.take place).length=place:=by rw[List.length_take];lia
 rcases h with ⟨z,h1,h2,h3⟩|⟨z,h1,h2,ms,h3,h4⟩
 ·exact⟨_,_,_,[],e0,e1,.inl ⟨z,h1,rfl,h3⟩,by rw[List.append_nil];exact h2⟩
 ·exact⟨_,_,_,ms,e0,e1,.inr ⟨z,h1,h2,h3⟩,h4⟩
theorem zbU {N:Nt}{place:Nat}{ts os ts' os':List Int}{A B gs':List Grp}{g:Grp}(e:A.length=place) (h:StepTo N place ts (A++g::B) os ts' gs' os'):∃ ms,Res N ts os g ts' ms os'∧gs'=A++ms++B:=by
 obtain⟨A',g',B',ms,e1,e2,r,e3⟩:=h.res
 obtain⟨rfl,e4⟩:=List.append_inj e1 (by lia)
 cases e4
 exact⟨ms,r,e3⟩
theorem zfR {t m n:Int}(ht:t=0∨t=1):((t+m+1) / 2-t)+(((t+m)%2+n+1) / 2-(t+m)%2)=(t+(m+n)+1) / 2-t:=by
 rcases ht with rfl|rfl<;>lia
theorem ziK {os:List Int}{i j:Nat}{a b:Int}(hi:i<os.length) (hj:j<os.length):(os.set i (os.getD i 0+a)).set j ((os.set i (os.getD i 0+a)).getD j 0+b)=(os.set j (os.getD j 0+b)).set i ((os.set j (os.getD j 0+b)).getD i 0+a):=by
 by_cases z:i=j
 ·subst z
  rw[zaT hi,zaT hi,if_pos rfl,if_pos rfl,List.set_set,List.set_set]
  congr 1;lia
 ·rw[zaT hj,zaT hi,if_neg z,if_neg (Ne.symm z),List.set_comm _ _ z]
theorem zgc {os:List Int}{i:Nat}{a b:Int}(hi:i<os.length):(os.set i (os.getD i 0+a)).set i ((os.set i (os.getD i 0+a)).getD i 0+b)=os.set i (os.getD i 0+(a+b)):=by
 rw[zaT hi,if_pos rfl,List.set_set]
 congr 1;lia
section
variable {N:Nt}{ts os:List Int}
theorem zbQ {t m n:Int}{k:Nat}{as bs cs:List Grp}(ht:t=0∨t=1) (ha:Parts N.forks t m k as) (hb:Parts N.forks ((t+m)%2) n k bs) (hc:Parts N.forks t (m+n) k cs):∀ κ,zaG (as++bs) κ=zaG cs κ:=by
 obtain⟨f,k1,k2,ef,n1,n2,rfl⟩:=ha
 obtain⟨f',k1',k2',ef',n1',n2',rfl⟩:=hb
 obtain⟨f'',k1'',k2'',ef'',n1'',n2'',rfl⟩:=hc
 rw[ef]at ef' ef''
 obtain rfl:=Option.some.inj ef'
 obtain rfl:=Option.some.inj ef''
 rw[n1.one n1',n2.one n2',n1''.one n1',n2''.one n2']
 intro κ
 have q:=zfR (m:=m) (n:=n) ht
 rw[zaw,zaw,zaw,zaw,zaV,zaV,zaV,zaV,zaV,zaV]
 split<;>split<;>lia
theorem Res.ends (ok:N.Ok) (ol:os.length=N.lanes) {g:Grp}(gl:g.lane<N.lanes):N.ends.idxOf g.lane<os.length:=by
 have:=List.idxOf_lt_length_of_mem (ok.en.mem_iff.mpr (List.mem_range.mpr gl))
 rw[ok.en.length_eq,List.length_range]at this
 lia
theorem zgy (ok:N.Ok) (t m:Int) {k:Nat}(h:k<N.forks.length):∃ cs,Parts N.forks t m k cs:=by
 obtain⟨k1,h1⟩:=zbY N.forks (N.forks[k]).1 (k+1) (by lia)
 obtain⟨k2,h2⟩:=zbY N.forks (N.forks[k]).2 (k+1) (by lia)
 exact⟨_,_,k1,k2,List.getElem?_eq_getElem h,h1,h2,rfl⟩
theorem zga (ok:N.Ok) (tl:ts.length=N.forks.length) (tb:∀ t∈ts,t=0∨t=1) (ol:os.length=N.lanes) {g h:Grp}(gl:g.lane<N.lanes) (hl:h.lane<N.lanes) {ts1 ts2 ts12 ts21 os1 os2 os12 os21:List Int}{mg mh mg' mh':List Grp}
  (a1:Res N ts os h ts1 mh os1) (a2:Res N ts1 os1 g ts12 mg' os12) (b1:Res N ts os g ts2 mg os2) (b2:Res N ts2 os2 h ts21 mh' os21) :
  ts21=ts12∧os21=os12∧(∀ κ,zaG (mg++mh') κ=zaG (mg'++mh) κ)∧(g.fork≠h.fork→mg=mg'∧mh'=mh):=by
 have eg:=Res.ends (os:=os) ok ol gl
 have eh:=Res.ends (os:=os) ok ol hl
 by_cases z:g.fork=h.fork
 ·-- the same fork,or behind all
  rcases a1 with ⟨y,rfl,rfl,rfl⟩|⟨y,rfl,rfl,pa⟩
  ·rcases b1 with ⟨_,rfl,rfl,rfl⟩|⟨x,_⟩
   ·rcases a2 with ⟨_,rfl,rfl,rfl⟩|⟨x,_⟩
    ·rcases b2 with ⟨_,rfl,rfl,rfl⟩|⟨x,_⟩
     ·exact⟨rfl,ziK eg eh,fun _=>rfl,fun n=>absurd z n⟩
     ·lia
    ·lia
   ·lia
  ·rcases b1 with ⟨x,_⟩|⟨_,rfl,rfl,pb⟩
   ·lia
   rcases a2 with ⟨x,_⟩|⟨_,rfl,rfl,pa2⟩
   ·lia
   rcases b2 with ⟨x,_⟩|⟨_,rfl,rfl,pb2⟩
   ·lia
   rw[z]at *
   have tk:ts.getD h.fork 0=0∨ts.getD h.fork 0=1:=by
    rw[List.getD_eq_getElem?_getD,List.getElem?_eq_getElem (by lia)]
    exact tb _ (List.getElem_mem _)
   rw[zaT (by lia),if_pos rfl]at pa2 pb2 ⊢
   rw[zaT (by lia),if_pos rfl]
   obtain⟨cs,hc⟩:=zgy ok (ts.getD h.fork 0) (g.many+h.many) y
   refine⟨?_,rfl,fun κ=>?_,fun n=>absurd rfl n⟩
   ·rw[List.set_set,List.set_set]
    congr 1;lia
   ·have q1:=zbQ tk pb pb2 hc κ
    have q2:=zbQ tk pa pa2 (cs:=cs) (by rw[Int.add_comm];exact hc) κ
    rw[zaw]at q1 q2 ⊢
    rw[zaw]
    lia
 ·-- unlike forks
  have off:∀ (a b:Grp) (v:Int),a.fork≠b.fork→b.fork<ts.length→(ts.set a.fork v).getD b.fork 0=ts.getD b.fork 0:=fun a b v n l=>by rw[zaT l,if_neg n]
  rcases a1 with ⟨y,rfl,rfl,rfl⟩|⟨y,rfl,rfl,pa⟩
  ·rcases b1 with ⟨x,_⟩|⟨x,rfl,rfl,pb⟩
   ·lia
   rcases a2 with ⟨w,_⟩|⟨_,rfl,rfl,pa2⟩
   ·lia
   rcases b2 with ⟨_,rfl,rfl,rfl⟩|⟨w,_⟩
   ·exact⟨rfl,rfl,fun κ=>by rw[pb.one pa2],fun _=>⟨pb.one pa2,rfl⟩⟩
   ·lia
  ·rcases b1 with ⟨x,rfl,rfl,rfl⟩|⟨x,rfl,rfl,pb⟩
   ·rcases a2 with ⟨_,rfl,rfl,rfl⟩|⟨w,_⟩
    ·rcases b2 with ⟨w,_⟩|⟨_,rfl,rfl,pb2⟩
     ·lia
     ·exact⟨rfl,rfl,fun κ=>by rw[pb2.one pa],fun _=>⟨rfl,pb2.one pa⟩⟩
    ·lia
   ·rcases a2 with ⟨w,_⟩|⟨_,rfl,rfl,pa2⟩
    ·lia
    rcases b2 with ⟨w,_⟩|⟨_,rfl,rfl,pb2⟩
    ·lia
    rw[off h g _ (Ne.symm z) (by lia)]at pa2 ⊢
    rw[off g h _ z (by lia)]at pb2 ⊢
    refine⟨List.set_comm _ _ z,rfl,fun κ=>by rw[pb.one pa2,pb2.one pa],fun _=>⟨pb.one pa2,pb2.one pa⟩⟩
theorem zdL (ok:N.Ok) (tl:ts.length=N.forks.length) (tb:∀ t∈ts,t=0∨t=1) (ol:os.length=N.lanes) {lane k:Nat}{m n:Int}(gl:lane<N.lanes) {ts1 ts2 ts3 os1 os2 os3:List Int}{ma mb mc:List Grp}
  (a1:Res N ts os ⟨m,lane,k⟩ ts1 ma os1) (a2:Res N ts1 os1 ⟨n,lane,k⟩ ts2 mb os2) (b1:Res N ts os ⟨m+n,lane,k⟩ ts3 mc os3):ts3=ts2∧os3=os2∧∀ κ,zaG mc κ=zaG (ma++mb) κ:=by
 have eg:=Res.ends (os:=os) (g:=⟨m,lane,k⟩) ok ol gl
 rcases a1 with ⟨y,rfl,rfl,rfl⟩|⟨y,rfl,rfl,pa⟩
 ·rcases a2 with ⟨_,rfl,rfl,rfl⟩|⟨x,_⟩
  ·rcases b1 with ⟨_,rfl,rfl,rfl⟩|⟨x,_⟩
   ·exact⟨rfl,(zgc eg).symm,fun _=>rfl⟩
   ·exact absurd y (Nat.ne_of_lt x)
  ·exact absurd y (Nat.ne_of_lt x)
 ·rcases a2 with ⟨x,_⟩|⟨_,rfl,rfl,pb⟩
  ·exact absurd x (Nat.ne_of_lt y)
  rcases b1 with ⟨x,_⟩|⟨_,rfl,rfl,pc⟩
  ·exact absurd x (Nat.ne_of_lt y)
  have kl:k<ts.length:=by rw[tl];exact y
  have tk:ts.getD k 0=0∨ts.getD k 0=1:=by
   rw[List.getD_eq_getElem?_getD,List.getElem?_eq_getElem kl]
   exact tb _ (List.getElem_mem _)
  dsimp only at pa pb pc ⊢
  rw[zaT kl,if_pos rfl]at pb ⊢
  refine⟨?_,rfl,fun κ=>(zbQ tk pa pb pc κ).symm⟩
  rw[List.set_set]
  congr 1;lia
end
end Bn
namespace L2
open PySem PySem.Spec PyProof.Rows Own
def FlD (x:V) (d:PyData):Prop:=(∃ i,x=.int i∧d=.int i)∨(∃ z,x=.str z∧d=.str z∧(PyData.str z).canLay0=true)∨(∃ b,x=.bl b∧d=.bool b)∨(x=.non∧d=.none)
def DD (H:Hp):Nat→V→PyData→Prop
 | 0,x,d=>FlD x d
 | n+1,x,d=>FlD x d∨∃ a xs ds,x=.ref a∧xs.length=ds.length∧((d=.tuple ds∧H a=some (.tup xs))∨(d=.list ds∧H a=some (.lst xs)))∧∀ (j:Nat) (u:V) (e:PyData),xs[j]?=some u→ds[j]?=some e→DD H n u e
theorem DD.same {H H':Hp}(s:Same H H'):∀ {n:Nat}{x:V}{d:PyData},DD H n x d→DD H' n x d
 | 0,_,_,h=>h
 | n+1,_,_,h=>by
  rcases h with h|⟨a,xs,ds,e1,e2,h1,h2⟩
  ·exact .inl h
  ·refine .inr ⟨a,xs,ds,e1,e2,?_,fun j u e p q=>DD.same s (h2 j u e p q)⟩
   rcases h1 with ⟨y,z⟩|⟨y,z⟩
   ·exact .inl ⟨y,s _ _ z⟩
   ·exact .inr ⟨y,s _ _ z⟩
theorem DD.fl {H:Hp}{n:Nat}{x:V}{d:PyData}(h:FlD x d):DD H n x d:=by
 cases n
 ·exact h
 ·exact .inl h
theorem DD.i {H:Hp}{n:Nat}(i:Int):DD H n (.int i) (.int i):=DD.fl (.inl ⟨i,rfl,rfl⟩)
theorem DD.tup {H:Hp}{n:Nat}{a:Addr}{xs:List V}{ds:List PyData}(h:H a=some (.tup xs)) (l:xs.length=ds.length) (f:∀ (j:Nat) (u:V) (e:PyData),xs[j]?=some u→ds[j]?=some e→DD H n u e):DD H (n+1) (.ref a) (.tuple ds):=.inr ⟨a,xs,ds,rfl,l,.inl ⟨rfl,h⟩,f⟩
theorem DD.lst {H:Hp}{n:Nat}{a:Addr}{xs:List V}{ds:List PyData}(h:H a=some (.lst xs)) (l:xs.length=ds.length) (f:∀ (j:Nat) (u:V) (e:PyData),xs[j]?=some u→ds[j]?=some e→DD H n u e):DD H (n+1) (.ref a) (.list ds):=.inr ⟨a,xs,ds,rfl,l,.inr ⟨rfl,h⟩,f⟩
theorem zjs {H:Hp}{n:Nat}{α:Type}{f:α→V}{g:α→PyData}{l:List α}(h:∀ x∈l,DD H n (f x) (g x)):(l.map f).length=(l.map g).length∧∀ (j:Nat) (u:V) (e:PyData),(l.map f)[j]?=some u→(l.map g)[j]?=some e→DD H n u e:=by
 refine⟨by rw[List.length_map,List.length_map],fun j u e p q=>?_⟩
 rw[List.getElem?_map]at p q
 cases z:l[j]? with
 | none=>rw[z]at p;cases p
 | some x =>
  rw[z]at p q
  obtain rfl:=Option.some.inj p
  obtain rfl:=Option.some.inj q
  exact h x (List.mem_of_getElem? z)
theorem zfZ {H:Hp}{n:Nat}{a:Addr}{xs:List Int}(h:H a=some (.tup (xs.map V.int))):DD H (n+1) (.ref a) (.tuple (xs.map PyData.int)) :=
 let ⟨p,q⟩:=zjs (H:=H) (n:=n) (f:=V.int) (g:=PyData.int) (l:=xs) fun x _=>DD.i x
 DD.tup h p q
theorem zdZ:∀ {ds:List PyData}{n:Nat},(∀ e∈ds,e.canLay0=true∧e.depth≤n)→PyData.canLayAll0 ds=true∧PyData.depthAll ds≤n
 | [],_,_=>⟨rfl,Nat.zero_le _⟩
 | d::ds,n,h=>by
  obtain⟨a1,a2⟩:=h d List.mem_cons_self
  obtain⟨b1,b2⟩:=zdZ (ds:=ds) fun e he=>h e (List.mem_cons_of_mem _ he)
  refine⟨?_,?_⟩
  ·show (d.canLay0 && PyData.canLayAll0 ds)=true
   rw[a1,b1];rfl
  ·show max d.depth (PyData.depthAll ds)≤n
   lia
theorem FlD.ok {x:V}{d:PyData}(h:FlD x d):d.canLay0=true∧d.depth≤0:=by
 rcases h with ⟨i,_,rfl⟩|⟨z,_,rfl,e⟩|⟨b,_,rfl⟩|⟨_,rfl⟩
 ·exact⟨rfl,Nat.le_refl _⟩
 ·exact⟨e,Nat.le_refl _⟩
 ·exact⟨rfl,Nat.le_refl _⟩
 ·exact⟨rfl,Nat.le_refl _⟩
theorem DD.ok {H:Hp}:∀ {n:Nat}{x:V}{d:PyData},DD H n x d→d.canLay0=true∧d.depth≤n
 | 0,_,_,h=>FlD.ok h
 | n+1,_,_,h=>by
  rcases h with h|⟨a,xs,ds,e1,e2,h1,h2⟩
  ·have:=FlD.ok h
   exact⟨this.1,by lia⟩
  ·obtain⟨p,q⟩:=zdZ (n:=n) (ds:=ds) fun e he=>by
    obtain⟨j,jl,ej⟩:=List.getElem_of_mem he
    exact(h2 j _ e (List.getElem?_eq_getElem (by lia)) (by rw[List.getElem?_eq_getElem jl,ej])).ok
   rcases h1 with ⟨rfl,_⟩|⟨rfl,_⟩
   ·exact⟨p,Nat.succ_le_succ q⟩
   ·exact⟨p,Nat.succ_le_succ q⟩
section
variable {X:Cx}
theorem FlD.reads {h:Heap}{x:V}{d:PyData}{v:Value}(f:FlD x d) (r:RelV x v):∃ as,Reads h v d as:=by
 rcases f with ⟨i,rfl,rfl⟩|⟨z,rfl,rfl,e⟩|⟨b,rfl,rfl⟩|⟨rfl,rfl⟩
 ·obtain⟨t,rfl⟩:=r
  exact⟨_,.int i t⟩
 ·obtain⟨t,rfl⟩:=r
  exact⟨_,.str z t⟩
 ·cases r
  exact⟨_,.bool b⟩
 ·cases r
  exact⟨_,.none⟩
theorem DD.reads {pins:List (Addr × Obj)}{σ:St}{H:Hp}{s:Shared}(I:Inv X pins σ H s):∀ (n:Nat) (x:V) (d:PyData) (v:Value),DD H n x d→RelV x v→∃ as,Reads s.heap v d as
 | 0,x,d,v,h,r=>FlD.reads h r
 | n+1,x,d,v,h,r=>by
  rcases h with h|⟨a,xs,ds,rfl,hl,h1,hx⟩
  ·exact FlD.reads h r
  ·cases r
   have key:∀ its:List Value,Vals xs its→∃ as,ReadsAll s.heap its ds as:=fun its g=>by
    have gl:=g.length
    exact zc4 (h:=s.heap) its ds (by lia) fun j v' d' e1 e2=>by
     have jl:j<xs.length:=by have:=(List.getElem?_eq_some_iff.mp e1).1;lia
     obtain⟨w',f1,f2⟩:=g.get (List.getElem?_eq_getElem jl)
     obtain rfl:=Option.some.inj (e1.symm.trans f1)
     exact DD.reads I n _ _ _ (hx j _ _ (List.getElem?_eq_getElem jl) e2) f2
   rcases h1 with ⟨rfl,ha⟩|⟨rfl,ha⟩
   ·obtain⟨its,g,⟨o,eo,co,m,dm⟩,_⟩:=I.tuple (SqT.of ha)
    obtain⟨as,ra⟩:=key its g
    exact⟨as,.tuple eo co dm (by simpa using ra)⟩
   ·obtain⟨its,g,p,_⟩:=I.list (SqL.of ha)
    obtain⟨as,ra⟩:=key its g
    obtain⟨o,eo,co,m,dm⟩:=p.isList
    exact⟨_,.list eo co dm (by simpa using ra)⟩
def rDat (c:Bool):R2:=fun x y H Q=>∃ n d d',n≤20∧DD H n x d∧DD H n y d'∧Q (.bl (if c then PyData.eqv d d' else !PyData.eqv d d')) H
theorem zi8 (hu:X.A.units+64<cLine):OpR X (compareOp .Eq) (rDat true):=by
 intro pins s σ H x y vx vy Q I rx ry ⟨n,d,d',hn,h1,h2,q⟩
 obtain⟨as,r1⟩:=h1.reads I _ _ _ _ rx
 obtain⟨bs,r2⟩:=h2.reads I _ _ _ _ ry
 have k1:=h1.ok
 have k2:=h2.ok
 exact PySem.SeqAt.compareEq_reads r1 r2 k1.1 k2.1 (by have:=k1.2;lia) ⟨.bl _,H,I,rfl,q⟩
theorem zhi (hu:X.A.units+64<cLine):OpR X (compareOp .NotEq) (rDat false):=by
 intro pins s σ H x y vx vy Q I rx ry ⟨n,d,d',hn,h1,h2,q⟩
 obtain⟨as,r1⟩:=h1.reads I _ _ _ _ rx
 obtain⟨bs,r2⟩:=h2.reads I _ _ _ _ ry
 have k1:=h1.ok
 have k2:=h2.ok
 exact PySem.SeqAt.compareNe_reads r1 r2 k1.1 k2.1 (by have:=k1.2;lia) ⟨.bl _,H,I,rfl,q⟩
end
abbrev KI:=Int ⊕ List Int
abbrev KN:=List KI
section
variable (prog:Program) (w:World)
def NIt (h:Heap):KI→Value→Prop
 | .inl i,v=>∃ t,v=.int i t
 | .inr xs,v=>∃ b,v=.ref b∧IsTupleKey (zaE prog w) h (xs.map Sum.inl) b
def NIts (h:Heap):KN→List Value→Prop
 | [],vs=>vs=[]
 | k::ks,vs=>∃ v r,vs=v::r∧NIt prog w h k v∧NIts h ks r
def NIs (h:Heap) (ks:KN) (a:Addr):Prop:=∃ o items n,h.get? a=some o∧o.cls=.type "tuple"∧o.data=.seq items n∧NIts prog w h ks items.toList
def nh1:KI→Int
 | .inl i=>hashInt i
 | .inr xs=>tupleKeyHash (zaE prog w) (xs.map Sum.inl)
def nd1:KI→Nat
 | .inl _=>1
 | .inr xs=>xs.length+1
def nds (ks:KN):Nat:=(ks.map nd1).sum
end
variable {prog:Program}{w:World}{A:Around}{E:Value→Shared→Prop}
theorem ziu {a b:List Int}(h:a.map (Sum.inl:Int→Key)=b.map Sum.inl):a=b :=
 List.map_inj_right (fun x y e=>Sum.inl.inj e) |>.mp h
theorem NIt.inj {h:Heap}{x y:KI}{v:Value}(a:NIt prog w h x v) (b:NIt prog w h y v):x=y:=by
 cases x with
 | inl i =>
  obtain⟨t,rfl⟩:=a
  cases y with
  | inl j=>obtain⟨u,e⟩:=b;cases e;rfl
  | inr ys=>obtain⟨b,e,_⟩:=b;cases e
 | inr xs =>
  obtain⟨c,rfl,hc⟩:=a
  cases y with
  | inl j=>obtain⟨u,e⟩:=b;cases e
  | inr ys =>
   obtain⟨d,e,hd⟩:=b
   cases e
   rw[ziu (hc.inj hd)]
theorem NIts.inj {h:Heap}:∀ {x y:KN}{vs:List Value},NIts prog w h x vs→NIts prog w h y vs→x=y
 | [],[],_,_,_=>rfl
 | [],_::_,_,a,b=>by obtain⟨v,r,e,_⟩:=b;rw[show _=[] from a]at e;cases e
 | _::_,[],_,a,b=>by obtain⟨v,r,e,_⟩:=a;rw[show _=[] from b]at e;cases e
 | x::xs,y::ys,_,a,b=>by
  obtain⟨v,r,rfl,a1,a2⟩:=a
  obtain⟨v',r',e,b1,b2⟩:=b
  cases e
  rw[a1.inj b1,NIts.inj a2 b2]
theorem NIs.inj {h:Heap}{x y:KN}{a:Addr}(p:NIs prog w h x a) (q:NIs prog w h y a):x=y:=by
 obtain⟨o,its,n,h1,_,h3,h4⟩:=p
 obtain⟨o',its',n',g1,_,g3,g4⟩:=q
 rw[h1]at g1
 cases g1
 rw[h3]at g3
 cases g3
 exact h4.inj g4
theorem NIt.keeps {h h':Heap}{d:Addr}{o:Obj}{es ep} (hd:h.get? d=some o) (ho:o.data=.dict es ep) (s:Heap.SameBut d h h') {k:KI}{v:Value}(a:NIt prog w h k v):NIt prog w h' k v:=by
 cases k with
 | inl i=>exact a
 | inr xs =>
  obtain⟨b,e,hb⟩:=a
  exact⟨b,e,hb.keeps hd ho s⟩
theorem NIts.keeps {h h':Heap}{d:Addr}{o:Obj}{es ep} (hd:h.get? d=some o) (ho:o.data=.dict es ep) (s:Heap.SameBut d h h'):∀ {ks:KN}{vs:List Value},NIts prog w h ks vs→NIts prog w h' ks vs
 | [],_,a=>a
 | k::ks,_,a=>by
  obtain⟨v,r,e,a1,a2⟩:=a
  exact⟨v,r,e,a1.keeps hd ho s,NIts.keeps hd ho s a2⟩
theorem NIs.keeps {h h':Heap}{ks:KN}{a d:Addr}{o:Obj}{es ep} (p:NIs prog w h ks a) (hd:h.get? d=some o) (ho:o.data=.dict es ep) (s:Heap.SameBut d h h'):NIs prog w h' ks a:=by
 obtain⟨o',its,n,h1,h2,h3,h4⟩:=p
 refine⟨o',its,n,?_,h2,h3,h4.keeps hd ho s⟩
 rw[s.2 a (by rintro rfl;rw[hd]at h1;cases h1;rw[ho]at h3;cases h3)]
 exact h1
theorem zck:∀ (ks:KN) (vs:List Value) (hs:Array Int) (s:Shared) (Q:Array Int→Shared→Prop),A.units<cLine→NIts prog w s.heap ks vs→Q (hs++(ks.map (nh1 prog w)).toArray) { s with toks:=s.toks+nds ks } →
  wpAny (model prog w) A (forIn vs hs fun x hs=>(do let r ← pyHash x;pure (ForInStep.yield (hs.push r)))) Q E s
 | [],vs,hs,s,Q,hu,a,q=>by
  rw[show vs=[] from a,List.forIn_nil]
  refine wpAny_pure ?_
  simpa [nds] using q
 | k::ks,vs,hs,s,Q,hu,a,q=>by
  obtain⟨v,r,rfl,a1,a2⟩:=a
  rw[List.forIn_cons]
  have e1:∀ (m:Nat),m=nd1 k→({ s with toks:=s.toks+m+nds ks }:Shared)={ s with toks:=s.toks+nds (k::ks) }:=fun m e=>by
   subst e
   unfold nds
   rw[List.map_cons,List.sum_cons,Nat.add_assoc]
  have e2:hs.push (nh1 prog w k)++(ks.map (nh1 prog w)).toArray=hs++((k::ks).map (nh1 prog w)).toArray:=by simp
  have go:∀ (m:Nat),m=nd1 k→wpAny (model prog w) A (forIn r (hs.push (nh1 prog w k)) fun x hs=>(do let r ← pyHash x;pure (ForInStep.yield (hs.push r)))) Q E { s with toks:=s.toks+m }:=fun m e =>
   zck ks r (hs.push (nh1 prog w k)) { s with toks:=s.toks+m } Q hu a2 (by rw[e2];have:=e1 m e;simp only at this ⊢;rw[this];exact q)
  cases k with
  | inl i =>
   obtain⟨t,rfl⟩:=a1
   exact wpAny_bind (wpAny_bind (wpAny_pyHash_int (wpAny_pure (go 1 rfl))))
  | inr xs =>
   obtain⟨b,rfl,hb⟩:=a1
   exact wpAny_bind (wpAny_bind (wpAny_pyHash_tuple hu hb (wpAny_pure (go _ (by rw[List.length_map];rfl)))))
theorem zfQ {s:Shared}{a:Addr}{ks:KN}{Q:Int→Shared→Prop}(hu:A.units+1<cLine) (hk:NIs prog w s.heap ks a)
  (q:Q (reduceHash (Builtin.Tuple.tupleHashOf (ks.map (nh1 prog w)))) { s with toks:=s.toks+(nds ks+1) }):wpAny (model prog w) A (pyHash (.ref a)) Q E s:=by
 obtain⟨o,its,n,ho,hc,hd,hi⟩:=hk
 show wpAny (model prog w) A (pyHashByItsType (.ref a)) Q E s
 refine W.pyHash_slot (T:="tuple") (id:="tuple.__hash__") (B:=Builtin.«tuple.__hash__») ⟨o,ho,hc⟩ F.slot_tuple_hash F.entry_tuple_hash (F.args_tuple_hash_1 _) (by decide) (.inr (by lia)) ?_
 unfold Builtin.«tuple.__hash__»
 refine wpAny_bind ?_
 show wpAny _ _ (pure _) _ _ _
 refine wpAny_pure (wpAny_bind (wpAny_tupleItemsOf ho hd ?_))
 rw[← Array.forIn_toList]
 refine wpAny_bind (zck ks _ _ s _ hu hi ?_)
 simp only[Array.empty_append]
 unfold retInt
 exact wpAny_bind (wpAny_mkInt (wpAny_pure ⟨_,_,rfl,q⟩))
theorem zc6 {i:Int}{t:Tok}{n:Nat}{s:Shared}{Q:Bool→Shared→Prop}(q:Q true s):wpAny (model prog w) A (eqIsQuiet n (.int i t)) Q E s:=by
 cases n<;>exact wpAny_pure q
theorem zbV {n:Nat}{s:Shared}:∀ (vs:List Value) (Q:Option Bool × Unit→Shared→Prop),(∀ v∈vs,∀ R:Bool→Shared→Prop,R true s→wpAny (model prog w) A (eqIsQuiet n v) R E s)→Q (none,()) s →
  wpAny (model prog w) A (forIn vs ((none,()):Option Bool × Unit) fun y _=>(do
   let b ← eqIsQuiet n y
   if (!b)=true then pure (ForInStep.done (some false,())) else pure (ForInStep.yield (none,())))) Q E s
 | [],Q,_,q=>by rw[List.forIn_nil];exact wpAny_pure q
 | v::vs,Q,h,q=>by
  rw[List.forIn_cons]
  exact wpAny_bind (wpAny_bind (h v List.mem_cons_self _ (wpAny_pure (zbV vs Q (fun u hu=>h u (List.mem_cons_of_mem _ hu)) q))))
theorem zc5 {s:Shared}{a:Addr}{o:Obj}{its:Array Value}{m n:Nat}{Q:Bool→Shared→Prop}(ho:s.heap.get? a=some o) (hc:o.cls=.type "tuple") (hd:o.data=.seq its m)
  (h:∀ v∈its.toList,∀ R:Bool→Shared→Prop,R true s→wpAny (model prog w) A (eqIsQuiet n v) R E s) (q:Q true s):wpAny (model prog w) A (eqIsQuiet (n+1) (.ref a)) Q E s:=by
 have ty:s.TypeIs (.ref a) "tuple":=⟨o,ho,hc⟩
 unfold eqIsQuiet
 refine wpAny_bind (wpAny_specialOf (T:="tuple") ty F.slot_tuple_eq.lookup (wpAny_bind (wpAny_isInstance (T:="tuple") (b:=true) ty rfl ?_)))
 show wpAny _ _ (do let _ ← seqItems? _;_) _ _ _
 refine wpAny_bind (wpAny_seqItems ho hd (wpAny_bind ?_))
 rw[Option.getD_some,← Array.forIn_toList]
 exact zbV _ _ h (wpAny_pure q)
theorem NIts.mem {h:Heap}:∀ {ks:KN}{vs:List Value},NIts prog w h ks vs→∀ v∈vs,∃ k,NIt prog w h k v
 | [],_,a,v,hv=>by rw[show _=[] from a]at hv;cases hv
 | k::ks,_,a,v,hv=>by
  obtain⟨x,r,rfl,a1,a2⟩:=a
  rcases List.mem_cons.mp hv with rfl|z
  ·exact⟨k,a1⟩
  ·exact NIts.mem a2 v z
theorem zeg {i:Int}{v:Value}(h:(zaE prog w).is (.inl i) v=true):∃ t,v=.int i t:=by
 rw[zey]at h
 rcases zaF h with ⟨j,t,e,rfl⟩|⟨x,t,e,_⟩
 ·cases e;exact⟨t,rfl⟩
 ·cases e
theorem zeD {ks:List Key}{vs:List Value}(h:ItemsAre (zaE prog w) ks vs):∀ xs:List Int,ks=xs.map Sum.inl→∀ v∈vs,∃ i t,v=.int i t:=by
 induction h with
 | nil=>intro xs _ v hv;cases hv
 | cons hk _ ih =>
  intro xs e v hv
  cases xs with
  | nil=>cases e
  | cons x xs =>
   rw[List.map_cons]at e
   injection e with e1 e2
   subst e1
   rcases List.mem_cons.mp hv with rfl|z
   ·obtain⟨t,e⟩:=zeg hk
    exact⟨x,t,e⟩
   ·exact ih xs e2 v z
theorem items_int {ks:List Int}{vs:List Value}(h:ItemsAre (zaE prog w) (ks.map Sum.inl) vs):∀ v∈vs,∃ i t,v=.int i t:=zeD h ks rfl
theorem zes {s:Shared}{a:Addr}{ks:KN}{Q:Bool→Shared→Prop}(hk:NIs prog w s.heap ks a) (q:Q true s):wpAny (model prog w) A (eqIsQuiet 8 (.ref a)) Q E s:=by
 obtain⟨o,its,n,ho,hc,hd,hi⟩:=hk
 refine zc5 ho hc hd (fun v hv R r=>?_) q
 obtain⟨k,hk⟩:=hi.mem v hv
 cases k with
 | inl i=>obtain⟨t,rfl⟩:=hk;exact zc6 r
 | inr xs =>
  obtain⟨b,rfl,o2,it2,n2,ho2,hc2,hd2,hi2⟩:=hk
  refine zc5 ho2 hc2 hd2 (fun u hu R r=>?_) r
  obtain⟨i,t,rfl⟩:=items_int hi2 u hu
  exact zc6 r
def dI:KI→PyData
 | .inl i=>.int i
 | .inr xs=>.tuple (xs.map PyData.int)
def dN (ks:KN):PyData:=.tuple (ks.map dI)
theorem zer {h:Heap}{ks:List Key}{vs:List Value}(a:ItemsAre (zaE prog w) ks vs):∀ xs:List Int,ks=xs.map Sum.inl→∃ as,ReadsAll h vs (xs.map PyData.int) as:=by
 induction a with
 | nil =>
  intro xs e
  cases xs with
  | nil=>exact⟨_,.nil⟩
  | cons x xs=>cases e
 | cons hk _ ih =>
  intro xs e
  cases xs with
  | nil=>cases e
  | cons x xs =>
   rw[List.map_cons]at e
   injection e with e1 e2
   subst e1
   obtain⟨t,rfl⟩:=zeg hk
   obtain⟨as,r⟩:=ih xs e2
   exact⟨_,.cons (.int x t) r⟩
theorem NIt.reads {h:Heap}{k:KI}{v:Value}(a:NIt prog w h k v):∃ as,Reads h v (dI k) as:=by
 cases k with
 | inl i=>obtain⟨t,rfl⟩:=a;exact⟨_,.int i t⟩
 | inr xs =>
  obtain⟨b,rfl,o,its,n,h1,h2,h3,h4⟩:=a
  obtain⟨as,r⟩:=zer (h:=h) h4 xs rfl
  exact⟨_,.tuple h1 h2 h3 r⟩
theorem NIts.reads {h:Heap}:∀ {ks:KN}{vs:List Value},NIts prog w h ks vs→∃ as,ReadsAll h vs (ks.map dI) as
 | [],_,a=>by rw[show _=[] from a];exact⟨_,.nil⟩
 | k::ks,_,a=>by
  obtain⟨v,r,rfl,a1,a2⟩:=a
  obtain⟨as,p⟩:=a1.reads
  obtain⟨bs,q⟩:=NIts.reads a2
  exact⟨_,.cons p q⟩
theorem NIs.reads {h:Heap}{ks:KN}{a:Addr}(p:NIs prog w h ks a):∃ as,Reads h (.ref a) (dN ks) as:=by
 obtain⟨o,its,n,h1,h2,h3,h4⟩:=p
 obtain⟨as,r⟩:=h4.reads
 exact⟨_,.tuple h1 h2 h3 r⟩
theorem zej:∀ (x y:List Int),PyData.eqvAll (x.map PyData.int) (y.map PyData.int)=decide (x=y)
 | [],[]=>rfl
 | [],_::_=>rfl
 | _::_,[]=>rfl
 | a::x,b::y=>by
  show (PyData.eqv (.int a) (.int b) && PyData.eqvAll (x.map PyData.int) (y.map PyData.int))=_
  rw[zej x y,show PyData.eqv (.int a) (.int b)=(a == b) from rfl,Bool.eq_iff_iff]
  simp
theorem zjq (x y:KI):PyData.eqv (dI x) (dI y)=decide (x=y):=by
 cases x<;>cases y
 ·rw[show PyData.eqv (dI (.inl _)) (dI (.inl _))=(_ == _) from rfl,Bool.eq_iff_iff];simp
 ·rfl
 ·rfl
 ·show PyData.eqvAll _ _=_
  rw[zej,Bool.eq_iff_iff];simp
theorem zfT:∀ (x y:KN),PyData.eqvAll (x.map dI) (y.map dI)=decide (x=y)
 | [],[]=>rfl
 | [],_::_=>rfl
 | _::_,[]=>rfl
 | a::x,b::y=>by
  show (PyData.eqv (dI a) (dI b) && PyData.eqvAll (x.map dI) (y.map dI))=_
  rw[zfT x y,zjq,Bool.eq_iff_iff]
  simp
theorem zei:∀ x:List Int,PyData.canLayAll0 (x.map PyData.int)=true∧PyData.depthAll (x.map PyData.int)≤0
 | []=>⟨rfl,Nat.le_refl _⟩
 | a::x=>by
  obtain⟨p,q⟩:=zei x
  refine⟨?_,?_⟩
  ·show (PyData.canLay0 (.int a) && PyData.canLayAll0 (x.map PyData.int))=true
   rw[p];rfl
  ·show max 0 (PyData.depthAll (x.map PyData.int))≤0
   lia
theorem zhk (ks:KN):(dN ks).canLay0=true∧(dN ks).depth≤2:=by
 have key:∀ e∈ks.map dI,e.canLay0=true∧e.depth≤1:=fun e he=>by
  obtain⟨k,_,rfl⟩:=List.mem_map.mp he
  cases k with
  | inl i=>exact⟨rfl,by show 0≤1;lia⟩
  | inr xs =>
   obtain⟨p,q⟩:=zei xs
   refine⟨p,?_⟩
   show PyData.depthAll (xs.map PyData.int)+1≤1
   lia
 obtain⟨p,q⟩:=zdZ key
 refine⟨p,?_⟩
 show PyData.depthAll (ks.map dI)+1≤2
 lia
theorem zix {s:Shared}{x y:KN}{a b:Addr}{Q:Bool→Shared→Prop}(hu:A.units+2<cLine) (hx:NIs prog w s.heap x a) (hy:NIs prog w s.heap y b) (q:Q (decide (x=y)) s):wpAny (model prog w) A (eqBool (.ref a) (.ref b)) Q E s:=by
 obtain⟨as,rx⟩:=hx.reads
 obtain⟨bs,ry⟩:=hy.reads
 obtain⟨p1,p2⟩:=zhk x
 obtain⟨q1,q2⟩:=zhk y
 refine PySem.SeqAt.eqBoolOverData prog w A E s _ _ _ _ as bs Q rx ry p1 q1 (by lia) ?_
 rw[show PyData.eqv (dN x) (dN y)=PyData.eqvAll (x.map dI) (y.map dI) from rfl,zfT]
 exact q
variable (prog w)
def za6:HeapKind prog w KN where
 is:=NIs prog w
 hash:=fun ks=>reduceHash (Builtin.Tuple.tupleHashOf (ks.map (nh1 prog w)))
 draws:=fun ks=>nds ks+1
 room:=fun A=>A.units+2<cLine
 inj:=fun hx hy=>NIs.inj hx hy
 keeps:=fun x ho hd hs=>NIs.keeps x ho hd hs
 pyHash:=fun hu hk h=>zfQ (by lia) hk h
 eqBool:=fun hu hx hy h=>zix hu hx hy h
 quiet:=fun hk h=>zes hk h
end L2
namespace Own
open PySem PySem.Spec PyProof.Rows
section
variable {prog:Program}{w:World}{A:Around}{E:Value→Shared→Prop}{s:Shared}{l:Addr}{its:Array Value}{n:Nat}
end
section
variable {prog:Program}{w:World}{K:Type} [DecidableEq K] {knd:KeyKind prog w K}{A:Around}{E:Value→Shared→Prop}{d it l:Addr}{its:Array Value}{ps:List (K × Value)}{res:Value}
end
end Own
namespace L2
open PySem PySem.Spec PyProof.Rows Own
section
variable {X:Cx}{pins:List (Addr × Obj)}{σ:St}{H:Hp}{s:Shared}{A:Around}{E:Value→Shared→Prop}
end
section
variable {X:Cx}{o e:Expr}{td ty:TE}{apos cpos:Pos}
end
end L2
namespace L2
open PySem PySem.Spec PyProof.Rows Own Ts
section
variable {X:Cx}{pins:List (Addr × Obj)}{σ:St}{H:Hp}{s:Shared}
end
end L2
namespace L2
open PySem PySem.Spec PyProof.Rows Own Ts PySem.W
section
variable {X:Cx}
end
end L2
namespace L2
open PySem PySem.Spec PyProof.Rows Own
section
variable {X:Cx}{pins:List (Addr × Obj)}{σ:St}{H:Hp}{s:Shared}{d:Addr}{o:Obj}{kvs:List (Key × V)}
theorem Inv.reword {u v:HO}(I:Inv X pins σ H s) (hd:H d=some u) (nt:∀ xs,u≠.tup xs) (nb:∀ ps,u≠.tbl ps) (no:∀ a,u≠.own a) (nz:∀ o' u',X.H₀ d≠some (.frz o' u')) (new:ObjOk X.prog X.w (upd H d v) s.heap d v):Inv X pins σ (upd H d v) s:=by
 have ne:∀ {b},H b=none→b≠d:=fun e z=>by rw[z,hd]at e;cases e
 have oth:∀ {b} {q:HO},H b=some q→q≠u→upd H d v b=some q:=fun {b q} e n=>by
  rw[zaj];· exact e
  ·intro z
   rw[z,hd]at e
   exact n (Option.some.inj e).symm
 refine⟨I.ok,I.os,I.bare,⟨I.base.keep,I.base.slot,fun b q e n hx=>?_,I.base.there,fun b xs e=>oth (I.base.tups b xs e) fun z=>nt xs z.symm,fun b q w e=>?_,fun b ps e=>?_⟩,I.loc,I.cell,?_,fun x c e=>?_,fun p hp=>?_,fun b q e=>?_,I.len⟩
 ·have z:=I.base.free b q e n hx
  rw[zaj (ne z)];exact z
 ·rw[zaj]
  ·exact I.base.frzs b q w e
  ·rintro rfl;exact nz q w e
 ·obtain⟨more,z⟩:=I.base.tbls b ps e
  exact⟨more,oth z fun q=>nb _ q.symm⟩
 ·rw[zaj (ne I.free)];exact I.free
 ·have z:=I.freeC x c e
  rw[zaj (ne z)];exact z
 ·obtain⟨p1,p2,p3⟩:=I.pin p hp
  exact⟨p1,by rw[zaj (ne p2)];exact p2,p3⟩
 ·by_cases z:b=d
  ·subst z
   rw[zac]at e
   cases e;exact new
  ·rw[zaj z]at e
   exact(I.hok b q e).stay (fun c w _ r=>r) (fun c r=>oth r fun z=>no _ z.symm) fun c xs r=>oth r fun z=>nt _ z.symm
end
section
variable {X:Cx}{tg:Expr}
end
def NIv (H:Hp):KI→V→Prop
 | .inl i,v=>v=.int i
 | .inr xs,v=>∃ b,v=.ref b∧H b=some (.tup (xs.map V.int))
def NIvs (H:Hp):KN→List V→Prop
 | [],vs=>vs=[]
 | k::ks,vs=>∃ v r,vs=v::r∧NIv H k v∧NIvs H ks r
def NKey (H:Hp) (k:KN) (b:Addr):Prop:=∃ ys,H b=some (.tup ys)∧NIvs H k ys
theorem NIvs.tups {H H':Hp}(t:∀ b ys,H b=some (.tup ys)→H' b=some (.tup ys)):∀ {k:KN}{ys:List V},NIvs H k ys→NIvs H' k ys
 | [],_,h=>h
 | .inl i::k,_,h=>by
  obtain⟨v,r,e,h1,h2⟩:=h
  exact⟨v,r,e,h1,NIvs.tups t h2⟩
 | .inr xs::k,_,h=>by
  obtain⟨v,r,e,⟨b,h1,h3⟩,h2⟩:=h
  exact⟨v,r,e,⟨b,h1,t _ _ h3⟩,NIvs.tups t h2⟩
theorem NKey.tups {H H':Hp}(t:∀ b ys,H b=some (.tup ys)→H' b=some (.tup ys)) {k:KN}{b:Addr}(h:NKey H k b):NKey H' k b:=by
 obtain⟨ys,h1,h2⟩:=h
 exact⟨ys,t _ _ h1,h2.tups t⟩
section
variable {P:Program}{w:World}{H:Hp}{h:Heap}
theorem zef (ok:HOk P w H h):∀ {k:KN}{ys:List V}{its:List Value},NIvs H k ys→Vals ys its→NIts P w h k its
 | [],_,its,a,r=>by
  rw[show _=[] from a]at r
  cases r;rfl
 | k::ks,_,its,a,r=>by
  obtain⟨v,q,rfl,a1,a2⟩:=a
  cases r with
  | @cons _ u _ us hu r =>
   refine⟨u,us,rfl,?_,zef ok a2 r⟩
   cases k with
   | inl i=>rw[show v=.int i from a1]at hu;exact hu
   | inr xs =>
    obtain⟨b,rfl,hb⟩:=a1
    refine⟨b,hu,?_⟩
    have e:xs.map V.int=(xs.map (Sum.inl:Int→Key)).map kV:=by rw[List.map_map];rfl
    rw[e]at hb
    exact zfF ok hb
theorem zcM (ok:HOk P w H h) {k:KN}{b:Addr}(a:NKey H k b):NIs P w h k b:=by
 obtain⟨ys,hb,a⟩:=a
 obtain⟨_,its,r,o,h1,h2,n,h3⟩:=(show ObjOk P w H h b (.tup ys) from ok b _ hb)
 exact⟨o,its.toArray,n,h1,h2,h3.1,by simpa using zef ok a r⟩
end
abbrev KVN:=List (KN × Addr × V)
def PrN:KN × Addr × V→KN × Addr × Value→Prop:=fun p q=>p.1=q.1∧p.2.1=q.2.1∧RelV p.2.2 q.2.2
def valN (xs:KVN) (k:KN):Option V:=(xs.find? fun x=>decide (x.1=k)).map (·.2.2)
def putN (xs:KVN) (k:KN) (b:Addr) (v:V):KVN:=if (valN xs k).isSome then xs.map fun x=>if x.1=k then (x.1,x.2.1,v) else x else xs++[(k,b,v)]
theorem zcp {xs:KVN}{vs:List (KN × Addr × Value)}(r:Paired PrN xs vs) (k:KN):RelO (valN xs k) ((atKey vs k).map (·.2)):=by
 induction r with
 | nil=>exact True.intro
 | @cons p q ps qs h t ih =>
  unfold valN atKey at ih ⊢
  rw[List.find?_cons,List.find?_cons,h.1]
  by_cases c:q.1=k
  ·rw[decide_eq_true c];exact h.2.2
  ·rw[decide_eq_false c];exact ih
theorem zgp {xs:KVN}{vs:List (KN × Addr × Value)}(r:Paired PrN xs vs) (k:KN) {v:V}{u:Value}(rv:RelV v u):Paired PrN (xs.map fun x=>if x.1=k then (x.1,x.2.1,v) else x) (vs.map (putAt k u)):=by
 induction r with
 | nil=>exact .nil
 | @cons p q ps qs h t ih =>
  refine .cons ?_ ih
  unfold putAt
  dsimp only
  by_cases c:q.1=k
  ·rw[if_pos (h.1.trans c),if_pos c];exact⟨h.1,h.2.1,rv⟩
  ·rw[if_neg (fun z=>c (h.1.symm.trans z)),if_neg c];exact h
theorem putN_rel {xs:KVN}{vs:List (KN × Addr × Value)}(r:Paired PrN xs vs) (k:KN) (b:Addr) {v:V}{u:Value}(rv:RelV v u):Paired PrN (putN xs k b v) (storedH vs k b u):=by
 have e:=(zcp r k).isSome_eq
 rw[Option.isSome_map]at e
 unfold putN storedH
 rw[← e]
 by_cases c:(valN xs k).isSome=true
 ·rw[if_pos c,if_pos c];exact zgp r k rv
 ·rw[if_neg c,if_neg c];exact Paired.snoc r ⟨rfl,rfl,rv⟩
theorem zd9 (xs:KVN) (k:KN) (b:Addr) (v:V):(putN xs k b v).length≤xs.length+1:=by
 unfold putN
 split
 ·rw[List.length_map];lia
 ·rw[List.length_append];exact Nat.le_refl _
def PhN (P:Program) (w:World) (a:Addr) (xs:KVN):Heap→Prop:=fun h=>xs.length≤sizeLine∧(a == sysModules)=false∧∃ vs,Paired PrN xs vs ∧
 ∃ o es ep,h.get? a=some o∧o.ExactDict∧o.data=.dict es ep∧es.toList=vs.map (entryOfKey (za6 P w))∧(vs.map (·.1)).Nodup
def DN (P:Program) (w:World) (a:Addr) (xs:KVN):HO:=.ext (PhN P w a xs)
def KsIn (H:Hp) (xs:KVN):Prop:=∀ x∈xs,NKey H x.1 x.2.1
theorem KsIn.tups {H H':Hp}{xs:KVN}(t:∀ b ys,H b=some (.tup ys)→H' b=some (.tup ys)) (h:KsIn H xs):KsIn H' xs:=fun x hx=>(h x hx).tups t
section
variable {P:Program}{w:World}{H H':Hp}{h h':Heap}{a:Addr}{xs:KVN}
theorem dn_new (z:xs.length≤sizeLine) (hd:(a == sysModules)=false) {vs:List (KN × Addr × Value)}(r:Paired PrN xs vs) (d:h'.DictOfH (za6 P w) a vs):ObjOk P w H' h' a (DN P w a xs):=by
 obtain⟨o,es,ep,h1,h2,h3,h4,_,h5⟩:=d
 refine⟨⟨z,hd,vs,r,o,es,ep,h1,h2,h3,h4,h5⟩,⟨o,h1⟩,fun k1 k2 ⟨z,hd,vs,r,o,es,ep,h1,h2,h3,h4,h5⟩ s=>⟨z,hd,vs,r,o,es,ep,s o h1,h2,h3,h4,h5⟩⟩
theorem ziA (ok:HOk P w H h) (e:Rd H a (DN P w a xs)) (ks:KsIn H xs):xs.length≤sizeLine∧(a == sysModules)=false∧∃ vs,Paired PrN xs vs∧h.DictOfH (za6 P w) a vs:=by
 obtain⟨⟨z,hd,vs,r,o,es,ep,h1,h2,h3,h4,h5⟩,c1,c2⟩:=(show ObjOk P w H h a (DN P w a xs) from zgo ok e)
 refine⟨z,hd,vs,r,o,es,ep,h1,h2,h3,h4,?_,h5⟩
 clear h4 h5 e z c1 c2
 induction r with
 | nil=>intro x hx;exact nomatch hx
 | @cons p q ps qs hq t ih =>
  intro x hx
  rcases List.mem_cons.mp hx with here|there
  ·have:=zcM ok (ks p List.mem_cons_self)
   rw[hq.1,hq.2.1,← here]at this
   exact this
  ·exact ih (fun y hy=>ks y (List.mem_cons_of_mem _ hy)) x there
end
section
variable {X:Cx}{pins:List (Addr × Obj)}{σ:St}{H:Hp}{s:Shared}{a b:Addr}{xs:KVN}{k:KN}{v d:V}{u r:Value}{A:Around}{E:Value→Shared→Prop}
theorem zih (hu:A.units+3<cLine):(za6 X.prog X.w).room A.in1:=by show A.in1.units+2<cLine;rw[Around.in1_units];lia
theorem zjg {Q:Value→Shared→Prop}(hu:A.units+3<cLine) (I:Inv X pins σ H s) (e:Rd H a (DN X.prog X.w a xs)) (ks:KsIn H xs) (kb:NKey H k b) (rd:RelV d r) (h:∀ w' s',Inv X pins σ H s'→RelV ((valN xs k).getD d) w'→Q w' s') :
  wpAny (model X.prog X.w) A (call (.builtin "dict.get") [.ref a,.ref b,r]) Q E s:=by
 obtain⟨z,hd,vs,rel,dd⟩:=ziA I.hok e ks
 exact call_meetsIn PySem.F.slot_dict_get dd.typeIs PySem.F.entry_dict_get (PySem.F.args_dict_get_3 _ _ _) (meetsH_dict_get_default (za6 X.prog X.w) a b hd r) ⟨zih hu,k,vs,zcM I.hok kb,dd,h _ _ (I.tok _) ((zcp rel k).getD rd)⟩
theorem zfv {Q:Value→Shared→Prop}(hu:A.units+3<cLine) (I:Inv X pins σ H s) (e:Rd H a (DN X.prog X.w a xs)) (ks:KsIn H xs) (kb:NKey H k b) (hv:valN xs k=some v) (h:∀ w' s',Inv X pins σ H s'→RelV v w'→Q w' s') :
  wpAny (model X.prog X.w) A (getItem (.ref a) (.ref b)) Q E s:=by
 obtain⟨z,hd,vs,rel,dd⟩:=ziA I.hok e ks
 obtain⟨w',hw,rw'⟩:=RelO.some_of (v:=v) (o:=(atKey vs k).map (·.2)) (by rw[← hv];exact zcp rel k)
 obtain⟨p,hp,rfl⟩:=Option.map_eq_some_iff.mp hw
 exact wpAny_getItem_heap (zih hu) (zcM I.hok kb) dd hp (h _ _ (I.tok _) rw')
theorem zfu {Q:Unit→Shared→Prop}(hu:A.units+3<cLine) (I:Inv X pins σ H s) (e:H a=some (DN X.prog X.w a xs)) (ks:KsIn H xs) (kb:NKey H k b) (rv:RelV v r) (l:xs.length<sizeLine) (h:∀ s',Inv X pins σ (upd H a (DN X.prog X.w a (putN xs k b v))) s'→Q () s') :
  wpAny (model X.prog X.w) A (setItem (.ref a) (.ref b) r) Q E s:=by
 obtain⟨z,hd,vs,rel,dd⟩:=ziA I.hok (.inl e) ks
 have hz:vs.length≤sizeLine:=by rw[← Paired.length rel];exact z
 have hl:(putN xs k b v).length≤sizeLine:=by have:=zd9 xs k b v;lia
 refine wpAny_setItem_heap (hsz:=hz) (zih hu) (zcM I.hok kb) dd fun h' dd' hs=>h _ ?_
 have he:∃ q,h'.get? a=some q:=let ⟨q,_,_,hq,_⟩:=dd';⟨q,hq⟩
 exact zf0 I (by rw[e];exact True.intro) hs he (dn_new hl hd (putN_rel rel k b rv) dd')
end
section
variable {prog:Program}{w:World}{A:Around}{E:Value→Shared→Prop}{s:Shared}{d:Addr}
end
section
variable {X:Cx}{pins:List (Addr × Obj)}{σ:St}{H:Hp}{s:Shared}{a:Addr}{xs:KVN}{A:Around}{E:Value→Shared→Prop}
theorem zjf {P:Program}{w:World}{h:Heap}(ok:HOk P w H h) (e:Rd H a (DN P w a xs)):(a == sysModules)=false∧∃ o es ep,h.get? a=some o∧o.ExactDict∧o.data=.dict es ep∧es.size=xs.length∧(es.size:Int)<2 ^ 63:=by
 obtain⟨⟨z,hd,vs,r,o,es,ep,h1,h2,h3,h4,h5⟩,_,_⟩:=(show ObjOk P w H h a (DN P w a xs) from zgo ok e)
 have l:es.size=xs.length:=by rw[size_of_entries h4,← Paired.length r]
 refine⟨hd,o,es,ep,h1,h2,h3,l,?_⟩
 rw[sizeLine_eq]at z
 lia
end
def NAt (P:Program) (w:World) (H:Hp) (a:Addr) (xs:KVN):Prop:=Rd H a (DN P w a xs)∧KsIn H xs
def ziU (P:Program) (w:World) (td ty tx:TE):TE:=fun σ H Q=>td σ H fun x H1=>∃ a,x=.ref a∧(∃ xs,Rd H1 a (DN P w a xs))∧ty σ H1 fun y H2=>tx σ H2 fun z H3=>∃ b xs k,y=.ref b∧NAt P w H3 a xs∧NKey H3 k b∧Q ((valN xs k).getD z) H3
def ziV (P:Program) (w:World) (td ty:TE):TE:=fun σ H Q=>td σ H fun x H1=>ty σ H1 fun y H2=>∃ a b xs k v,x=.ref a∧y=.ref b∧NAt P w H2 a xs∧NKey H2 k b∧valN xs k=some v∧Q v H2
def zjL (P:Program) (w:World) (td ty tv:TE):TS:=fun D σ H=>tv σ H fun v H1=>td σ H1 fun x H2=>ty σ H2 fun y H3=>∃ a b xs k,x=.ref a∧y=.ref b∧H3 a=some (DN P w a xs)∧KsIn H3 xs∧NKey H3 k b∧xs.length<sizeLine∧D.nx σ (upd H3 a (DN P w a (putN xs k b v)))
section
variable {X:Cx}{o i e f value:Expr}{pos pos' tpos apos cpos:Pos}{td ty tv tx:TE}
theorem zhj {pins:List (Addr × Obj)}{σ:St}{H:Hp}{s:Shared}{a:Addr}{xs:KVN}(I:Inv X pins σ H s) (d:Rd H a (DN X.prog X.w a xs)) :
  s.TypeIs (.ref a) "dict"∧∀ b,Value.ref a=.ref b→∃ ob,s.heap.get? b=some ob∧ob.dict=none:=by
 obtain⟨_,q,es,ep,h1,h2,_⟩:=zjf I.hok d
 refine⟨⟨q,h1,h2.1⟩,fun b z=>?_⟩
 cases z
 exact⟨q,h1,h2.2.1⟩
theorem zhZ (hu:X.A.units+3<cLine) (ho:PE X o td) (hi:PE X i ty) (hs:NoSl i):PE X (.Subscript o i pos) (ziV X.prog X.w td ty):=by
 intro pins s σ H Q I h
 refine zeK PySem.F.slot_dict_getitem.lookup hs (thn (ho pins s σ H _ I h) fun u s1 ⟨x,H1,I1,rx,q1⟩=>thn (hi pins s1 σ H1 _ I1 q1) fun iv s2 ⟨y,H2,I2,ry,a,b,xs,k,v,ex,ey,n,kb,hv,q2⟩=>?_)
 subst ex ey
 cases (show u=Value.ref a from rx)
 cases (show iv=Value.ref b from ry)
 exact⟨(zhj I2 n.1).1,zfv hu I2 n.1 n.2 kb hv fun w' s3 I3 rw'=>⟨v,H2,I3,rw',q2⟩⟩
theorem zgu (hu:X.A.units+3<cLine) (ho:PE X o td) (he:PE X e ty) (hf:PE X f tx) (m:M2 X o "get" apos e f cpos):PE X (.Call (.Attribute o "get" apos) [e,f] [] cpos) (ziU X.prog X.w td ty tx):=by
 intro pins s σ H Q I h
 refine wpAny_Call_method m.base m.few m.line PySem.F.plainAttrs_dict PySem.F.slot_dict_get PySem.F.type_dict_get (thn (ho pins s σ H _ I h) fun u s1 ⟨x,H1,I1,rx,a,ex,⟨ys,d⟩,q1⟩=>?_)
 subst ex
 cases (show u=Value.ref a from rx)
 obtain⟨t1,t2⟩:=zhj I1 d
 refine⟨t1,t2,?_⟩
 rw[m.trees]
 refine Calls.callWith_builtin rfl (Calls.evalArgs_plain (Calls.spliced_cons (thn (he pins s1 σ H1 _ I1 q1) fun iv s2 ⟨y,H2,I2,ry,q2⟩ =>
  Calls.spliced_cons (thn (hf pins s2 σ H2 _ I2 q2) fun fv s3 ⟨z,H3,I3,rz,b,xs,k,ey,n,kb,q3⟩=>Calls.spliced_nil ?_))))
 subst ey
 cases (show iv=Value.ref b from ry)
 exact zjg hu I3 n.1 n.2 kb rz fun w' s4 I4 rw'=>⟨_,H3,I4,rw',q3⟩
theorem zhU (hu:X.A.units+3<cLine) (ho:PE X o td) (hi:PE X i ty) (hv:PE X value tv) (hs:swapsWith value (some (.Subscript o i pos')) pos.line X.env=pure false) :
  PS X (.Assign [.Subscript o i pos'] value pos) (zjL X.prog X.w td ty tv):=by
 intro pins s σ H D I h
 refine wpAny_Assign_Subscript (thn (hv pins s σ H _ I h) fun r s1 ⟨v,H1,I1,rv,q1⟩=>thn (ho pins s1 σ H1 _ I1 q1) fun u s2 ⟨x,H2,I2,rx,q2⟩=>thn (hi pins s2 σ H2 _ I2 q2) fun iv s3 ⟨y,H3,I3,ry,a,b,xs,k,ex,ey,hd,ks,kb,l,q3⟩=>?_) hs
 subst ex ey
 cases (show u=Value.ref a from rx)
 cases (show iv=Value.ref b from ry)
 exact zfu hu I3 hd ks kb rv l fun s4 I4=>⟨σ,_,I4,q3⟩
def zjD (P:Program) (w:World):TE:=fun _ H Q=>∀ p,H p=none→Q (.ref p) (upd H p (DN P w p []))
theorem zhY:PE X (.Dict [] [] pos) (zjD X.prog X.w):=fun pins s σ H Q I h =>
 wpAny_Dict_empty ⟨.ref s.heap.objs.size,_,I.laid (a:=s.heap.objs.size) (o:=DN X.prog X.w s.heap.objs.size []) (t':=s.toks) (fun _ _ q=>Heap.get?_push_of_some _ q) (Nat.le_refl _)
  (dn_new (vs:=[]) (Nat.zero_le _) (beq_eq_false_iff_ne.mpr (Nat.ne_of_gt I.big)) .nil (Heap.DictOfH.new _)),rfl,h _ (I.hok.fresh (Nat.le_refl _))⟩
end
section
variable {X:Cx}{e f:Expr}{pos:Pos}{ty tv:TE}
end
section
variable {prog:Program}{w:World}{A:Around}{E:Value→Shared→Prop}{s:Shared}{d:Addr}
section
variable {X:Cx}{pins:List (Addr × Obj)}{σ:St}{H:Hp}{a:Addr}{xs:KVN}
end
end
section
variable {prog:Program}{w:World}{A:Around}{E:Value→Shared→Prop}{s:Shared}{d b:Addr}{K:Type} [DecidableEq K] {knd:HeapKind prog w K}{xs:List (K × Addr × Value)}{k:K}{v:Value}
end
section
variable {prog:Program}{w:World}{A:Around}{E:Value→Shared→Prop}{s:Shared}{d:Addr}{K:Type} [DecidableEq K] {knd:HeapKind prog w K}{xs ys:List (K × Addr × Value)}
end
section
variable {X:Cx}{pins:List (Addr × Obj)}{σ:St}{H:Hp}{s:Shared}{a b:Addr}{xs ys:KVN}{A:Around}{E:Value→Shared→Prop}
end
section
variable {prog:Program}{w:World}{A:Around}{E:Value→Shared→Prop}{s:Shared}{d:Addr}{o:Obj}{es:Array DictEntry}{ep:Nat}
theorem zfK {Q:Value→Shared→Prop}(ho:s.heap.get? d=some o) (hx:o.ExactDict) (hd:o.data=.dict es ep) (hs:(d == sysModules)=false)
  (q:Q (.ref s.heap.objs.size) { s with heap:=s.heap.push { cls:=.type "dict_keyiterator",data:=.fields #[.ref d,.int 0 0,.int es.size 0,.int ep 0] } }):wpAny (model prog w) A (pyIter (.ref d)) Q E s:=by
 have ty:s.TypeIs (.ref d) "dict":=⟨o,ho,hx.1⟩
 have nx:=F.slot_dict_keyiterator_next.lookup
 have body:wpAny (model prog w) A.in1 (Builtin.«dict.__iter__» ⟨[.ref d],[]⟩) (fun fin s'=>∃ v,fin=.done (.ret v)∧∃ T' r,s'.TypeIs v T'∧typeLookup (Value.type T') (Str.ofString "__next__")=pure (some r)∧Q v s') E s:=by
  unfold Builtin.«dict.__iter__» Builtin.Dict.dictSlotNone
  refine wpAny_bind (wpAny_bind (wpAny_notOrdered_dict ty (wpAny_bind ?_)))
  show wpAny _ _ (pure ((.ref d,[]):Value × List Value)) _ _ _
  refine wpAny_pure (wpAny_pure (wpAny_bind ?_))
  refine(show wpAny _ _ (pure d) _ _ _ from wpAny_pure (wpAny_bind ?_))
  unfold Builtin.Dict.showsAll
  rw[if_neg (by rw[hs];simp)]
  refine wpAny_pure (wpAny_bind (wpAny_dictEntries ho hd (wpAny_bind (wpAny_dictEpoch ho hd (wpAny_bind ?_)))))
  exact wpAny_newObj_type (wpAny_pure ⟨_,rfl,_,_,⟨_,Heap.get?_push_size _ rfl,rfl⟩,nx,q⟩)
 exact wpAny_pyIter_slot ty F.slot_dict_iter (wpAny_call_entry F.slot_dict_iter ty F.entry_dict_iter body (F.args_dict_iter_1 _))
end
section
variable {prog:Program}{w:World}{A:Around}{E:Value→Shared→Prop}{s:Shared}{d it:Addr}{o:Obj}{es:Array DictEntry}{ep i:Nat}{e:DictEntry}
theorem zft {Q:Value→Shared→Prop}(ho:s.heap.get? d=some o) (hd:o.data=.dict es ep) (hi:s.heap.IsKeyIter it d i es.size ep) (he:es[i]?=some e)
  (q:∀ h',h'.IsKeyIter it d (i+1) es.size ep→(∀ b u,b≠it→s.heap.get? b=some u→h'.get? b=some u)→Q e.key { s with heap:=h' }) :
  wpAny (model prog w) A (Builtin.«dict_keyiterator.__next__» ⟨[.ref it],[]⟩) (fun fin s'=>∃ v,fin=.done (.ret v)∧Q v s') E s:=by
 obtain⟨q1,g1,g2,g3⟩:=id hi
 have ty:s.TypeIs (.ref it) "dict_keyiterator":=⟨q1,g1,g2⟩
 unfold Builtin.«dict_keyiterator.__next__»
 refine wpAny_bind ?_
 show wpAny _ _ (pure (Value.ref it)) _ _ _
 refine wpAny_pure (wpAny_bind (wpAny_bind (wpAny_bind (wpAny_typeNameOfWhole_keyiter ty (wpAny_pure (wpAny_bind (wpAny_fieldsOf g1 g3 ?_)))))))
 show wpAny _ _ (Builtin.Dict_items.addrOf (Value.ref d) >>= _) _ _ _
 refine wpAny_bind (show wpAny _ _ (pure d) _ _ _ from wpAny_pure (wpAny_bind (wpAny_dictEntries ho hd ?_)))
 dsimp only
 rw[if_neg (c:=((es.size:Int) != (es.size:Int))=true) (by simp)]
 refine wpAny_bind (show wpAny _ _ (pure d) _ _ _ from wpAny_pure (wpAny_bind (wpAny_dictEpoch ho hd ?_)))
 rw[if_neg (c:=((ep:Int) != (ep:Int))=true) (by simp)]
 refine wpAny_pure ?_
 dsimp only
 rw[if_neg (c:=(i:Int)<0) (by lia),Int.toNat_natCast,he]
 refine wpAny_bind (wpAny_bind (wpAny_typeNameOfWhole_keyiter ty (wpAny_pure (wpAny_bind (wpAny_isOneOf_keyiter ty ?_)))))
 show wpAny _ _ (setField (.ref it) 1 (rawInt ((i:Int)+1)) >>= _) _ _ _
 refine wpAny_bind (wpAny_setField g1 g3 (by show 1<4;lia) ?_)
 have nd:(q1.mapFields (·.setIfInBounds 1 (rawInt ((i:Int)+1)))).data=.fields #[.ref d,.int ((i+1:Nat):Int) 0,.int es.size 0,.int ep 0]:=Obj.data_mapFields g3 _
 have sm:=Heap.SameBut.update s.heap it (Obj.mapFields (·.setIfInBounds 1 (rawInt ((i:Int)+1))))
 have g1':=Heap.get?_update_self (Obj.mapFields (·.setIfInBounds 1 (rawInt ((i:Int)+1)))) g1 (Obj.isFreed_of_fields nd)
 have hi':(s.heap.update it (Obj.mapFields (·.setIfInBounds 1 (rawInt ((i:Int)+1))))).IsKeyIter it d (i+1) es.size ep:=⟨_,g1',(Obj.cls_mapFields ..).trans g2,nd⟩
 refine wpAny_bind (wpAny_holding (wpAny_bind (wpAny_isOneOf_keyiter ⟨_,g1',(Obj.cls_mapFields ..).trans g2⟩ ?_)))
 exact wpAny_pure (wpAny_pure ⟨_,rfl,q _ hi' fun b u nb hb=>(sm.2 b nb).trans hb⟩)
theorem zgT {Q:Option Value→Shared→Prop}(ho:s.heap.get? d=some o) (hd:o.data=.dict es ep) (hi:s.heap.IsKeyIter it d i es.size ep) (he:es[i]?=some e)
  (q:∀ h',h'.IsKeyIter it d (i+1) es.size ep→(∀ b u,b≠it→s.heap.get? b=some u→h'.get? b=some u)→Q (some e.key) { s with heap:=h' }):wpAny (model prog w) A (pyNext (.ref it)) Q E s:=by
 obtain⟨q1,g1,g2,g3⟩:=id hi
 have ty:s.TypeIs (.ref it) "dict_keyiterator":=⟨q1,g1,g2⟩
 unfold pyNext
 exact wpAny_bind (wpAny_attempt (wpAny_callSpecial?_slot ty F.slot_dict_keyiterator_next (wpAny_call_entry F.slot_dict_keyiterator_next ty F.entry_dict_keyiterator_next (zft ho hd hi he fun h' hi' k=>wpAny_pure (q h' hi' k)) (F.args_dict_keyiterator_next_1 _))))
theorem zfE {Q:Fin→Shared→Prop}(hh:A.handled=none) (ho:s.heap.get? d=some o) (hd:o.data=.dict es ep) (hi:s.heap.IsKeyIter it d i es.size ep) (he:es[i]?=none)
  (q:∀ h' ev,Heap.ExtBut it s.heap h'→({ s with heap:=h' }:Shared).TypeIs ev "StopIteration"→E ev { s with heap:=h' }) :
  wpAny (model prog w) A (Builtin.«dict_keyiterator.__next__» ⟨[.ref it],[]⟩) Q E s:=by
 obtain⟨q1,g1,g2,g3⟩:=id hi
 have ty:s.TypeIs (.ref it) "dict_keyiterator":=⟨q1,g1,g2⟩
 unfold Builtin.«dict_keyiterator.__next__»
 refine wpAny_bind ?_
 show wpAny _ _ (pure (Value.ref it)) _ _ _
 refine wpAny_pure (wpAny_bind (wpAny_bind (wpAny_bind (wpAny_typeNameOfWhole_keyiter ty (wpAny_pure (wpAny_bind (wpAny_fieldsOf g1 g3 ?_)))))))
 show wpAny _ _ (Builtin.Dict_items.addrOf (Value.ref d) >>= _) _ _ _
 refine wpAny_bind (show wpAny _ _ (pure d) _ _ _ from wpAny_pure (wpAny_bind (wpAny_dictEntries ho hd ?_)))
 dsimp only
 rw[if_neg (c:=((es.size:Int) != (es.size:Int))=true) (by simp)]
 refine wpAny_bind (show wpAny _ _ (pure d) _ _ _ from wpAny_pure (wpAny_bind (wpAny_dictEpoch ho hd ?_)))
 rw[if_neg (c:=((ep:Int) != (ep:Int))=true) (by simp)]
 refine wpAny_pure ?_
 dsimp only
 rw[if_neg (c:=(i:Int)<0) (by lia),Int.toNat_natCast,he]
 refine wpAny_bind (wpAny_bind (wpAny_typeNameOfWhole_keyiter ty (wpAny_pure (wpAny_bind ?_))))
 show wpAny _ _ (setField (.ref it) 0 .none) _ _ _
 refine wpAny_setField g1 g3 (by show 0<4;lia) (wpAny_bind ?_)
 unfold newExc newTuple
 refine wpAny_bind (wpAny_newObj_type ?_ (by show 0≤sizeLine;exact Nat.zero_le _))
 unfold firstArgMember
 refine wpAny_bind (wpAny_bind (wpAny_pure (wpAny_pure (wpAny_newObj_type (wpAny_raiseNew_none hh ?_) ?_))))
 rotate_left
 ·show (_++_:Array Value).size≤sizeLine+2
  rw[Array.size_append]
  show 6+0≤sizeLine+2
  rw[sizeLine_eq];lia
 refine q _ _ (fun b u nb hb=>?_) ⟨_,Heap.get?_push_size _ rfl,rfl⟩
 exact Heap.get?_push_of_some _ (Heap.get?_push_of_some _ (((Heap.SameBut.update s.heap it _).2 b nb).trans hb))
theorem zgU {Q:Option Value→Shared→Prop}(hh:A.handled=none) (ho:s.heap.get? d=some o) (hd:o.data=.dict es ep) (hi:s.heap.IsKeyIter it d i es.size ep) (he:es[i]?=none)
  (q:∀ h',Heap.ExtBut it s.heap h'→Q none { s with heap:=h' }):wpAny (model prog w) A (pyNext (.ref it)) Q E s:=by
 obtain⟨q1,g1,g2,g3⟩:=id hi
 have ty:s.TypeIs (.ref it) "dict_keyiterator":=⟨q1,g1,g2⟩
 unfold pyNext
 refine wpAny_bind (wpAny_attempt (wpAny_callSpecial?_slot ty F.slot_dict_keyiterator_next (wpAny_call_entry F.slot_dict_keyiterator_next ty F.entry_dict_keyiterator_next (zfE hh ho hd hi he fun h' ev k te=>?_) (F.args_dict_keyiterator_next_1 _))))
 exact wpAny_bind (wpAny_isInstance te isSubtype_stop (wpAny_pure (q h' k)))
end
section
variable {X:Cx}{pins:List (Addr × Obj)}{σ:St}{H:Hp}{s:Shared}{d:Addr}{o:Obj}{xs:KVN}
theorem Inv.freezeN (I:Inv X pins σ H s) (hd:H d=some (DN X.prog X.w d xs)):∃ o es ep,s.heap.get? d=some o∧o.ExactDict∧o.data=.dict es ep∧es.size=xs.length∧(d == sysModules)=false∧Inv X pins σ (upd H d (.frz o (DN X.prog X.w d xs))) s:=by
 obtain⟨hs,o,es,ep,h1,h2,h3,l,_⟩:=zjf I.hok (.inl hd)
 refine⟨o,es,ep,h1,h2,h3,l,hs,I.reword hd (fun xs q=>by cases q) (fun xs q=>by cases q) (fun xs q=>by cases q) (fun o' u' q=>?_) ⟨h1,(show ObjOk X.prog X.w H s.heap d (DN X.prog X.w d xs) from I.hok d _ hd)⟩⟩
 have:=I.base.frzs d o' u' q
 rw[hd]at this;cases this
theorem Inv.walkedN {es:Array DictEntry}{ep:Nat}(I:Inv X pins σ H s) (hd:H d=some (.frz o (DN X.prog X.w d xs))) (ho:o.data=.dict es ep):s.heap.get? d=some o∧∃ vs,Paired PrN xs vs∧es.toList=vs.map (entryOfKey (za6 X.prog X.w)):=by
 obtain⟨g,⟨z,hm,vs,r,o2,es2,ep2,h1,h2,h3,h4,h5⟩,_,_⟩:=(show ObjOk X.prog X.w H s.heap d (.frz o (DN X.prog X.w d xs)) from I.hok d _ hd)
 rw[g]at h1
 obtain rfl:=Option.some.inj h1
 rw[ho]at h3
 cases h3
 exact⟨g,vs,r,h4⟩
end
theorem zjQ {xs:KVN}{vs:List (KN × Addr × Value)}(r:Paired PrN xs vs):∀ {i:Nat}{p:KN × Addr × V},xs[i]?=some p→∃ q,vs[i]?=some q∧PrN p q:=by
 induction r with
 | nil=>intro i p h;cases h
 | cons q t ih =>
  intro i p h
  cases i with
  | zero=>cases Option.some.inj h;exact⟨_,rfl,q⟩
  | succ i=>exact ih h
def Itn (P:Program) (w:World) (d:Addr) (o:Obj) (xs:KVN):It:=⟨fun i H=>H d=some (.frz o (DN P w d xs))∧i<xs.length,fun i H x H'=>H'=H∧∃ p,xs[i]?=some p∧x=.ref p.2.1,fun i H=>H d=some (.frz o (DN P w d xs))∧i=xs.length⟩
theorem zeq {P:Program}{w:World}{K:PySem.W.Frag}{tg:Expr}(d it:Addr) (o:Obj) (xs:KVN) {es:Array DictEntry}{ep:Nat}(ho:o.data=.dict es ep) (hl:es.size=xs.length):Turn P w K tg (Itn P w d o xs) [it] it (fun i h=>h.IsKeyIter it d i es.size ep) where
 mem:=List.mem_singleton.mpr rfl
 obj:=fun i h st b hb=>by
  cases List.mem_singleton.mp hb
  obtain⟨q,e,c,dt⟩:=st
  exact⟨q,e,fun v z=>by rw[dt]at z;cases z⟩
 keep:=fun i h h' st k=>st.at (k it (List.mem_singleton.mpr rfl))
 item:=by
  intro X hP hw hK hc i pins s σ H E I hf st hg
  subst hP hw hK
  obtain⟨hd,il⟩:=hg
  obtain⟨g,vs,r,e4⟩:=I.walkedN hd ho
  have f:=hf it (List.mem_singleton.mpr rfl)
  obtain⟨f0,f1,f2,f3,f4,f5⟩:=id f
  obtain⟨p,hp⟩:∃ p,xs[i]?=some p:=⟨_,List.getElem?_eq_getElem il⟩
  obtain⟨q,hq,pq⟩:=zjQ r hp
  have ei:es[i]?=some (entryOfKey (za6 X.prog X.w) q):=by rw[entry_at e4,hq];rfl
  refine zgT g ho st ei fun h' st' kk=>?_
  have I1:Inv X pins σ H { s with heap:=h',toks:=s.toks }:=I.turned (fun b u hb e=>kk b u hb e) f0 f1 f3 f4 f5
  obtain⟨q',e,c,dt⟩:=id st'
  refine⟨_,rfl,zg2 (s:={ s with heap:=h',toks:=s.toks }) e c dt (by decide) ⟨.ref p.2.1,H,I1,?_,⟨rfl,p,hp,rfl⟩,st',fun b hb=>(hf b hb).1⟩⟩
  show Value.ref q.2.1=Value.ref p.2.1
  rw[pq.2.1]
 done:=by
  intro X hP hw hK hc i pins s σ H E I hf st hg
  subst hP hw hK
  obtain⟨hd,il⟩:=hg
  obtain⟨g,vs,r,e4⟩:=I.walkedN hd ho
  have f:=hf it (List.mem_singleton.mpr rfl)
  obtain⟨f0,f1,f2,f3,f4,f5⟩:=id f
  exact zgU (I.ok.hd hc) g ho st (Array.getElem?_eq_none (by lia)) fun h' kk=>⟨rfl,I.turned (t':=s.toks) (fun b u hb e=>kk b u hb e) f0 f1 f3 f4 f5⟩
 self:=fun _ _ _ _ _ st h=>wpAny_pyIter_keyiter st h
section
variable {X:Cx}{tg:Expr}
def zjn (P:Program) (w:World) (te:TE):TI:=fun σ H R=>te σ H fun x H1=>∃ d xs,x=.ref d∧H1 d=some (DN P w d xs)∧∀ o,R (Itn P w d o xs) (upd H1 d (.frz o (DN P w d xs)))
theorem zgs {l:Expr}{tl:TE}(hl:PE X l tl):PI X tg l (zjn X.prog X.w tl):=by
 intro pins s σ H R I h
 refine thn (hl pins s σ H _ I h) fun v s1 ⟨x,H1,I1,r1,d,xs,ex,hd,q⟩=>?_
 subst ex
 cases r1
 obtain⟨o,es,ep,g,hx,ho,le,hs,I2⟩:=I1.freezeN hd
 refine zfK g hx ho hs ?_
 refine⟨s1.heap.objs.size,[s1.heap.objs.size],_,_,_,rfl,I2.kept (t':=s1.toks) fun b u e=>Heap.get?_push_of_some _ e,zeq d _ o xs ho le,⟨_,Heap.get?_push_size _ rfl,rfl,rfl⟩,fun b hb=>?_,q o⟩
 cases List.mem_singleton.mp hb
 exact I2.fpOk (Nat.le_refl _) (I2.hok.fresh (Nat.le_refl _))
end
section
variable {prog:Program}{w:World}{A:Around}{E:Value→Shared→Prop}{s:Shared}{d it:Addr}{o:Obj}{es:Array DictEntry}{ep i:Nat}{e:DictEntry}{k0 v0:Value}
end
section
variable {X:Cx}
end
end L2
namespace L2
open PySem PySem.Spec PyProof.Rows Own PySem.W
section
variable {prog:Program}{w:World}{d:Addr}{o:Obj}{es:Array DictEntry}{ep:Nat}
end
end L2
namespace L2
open PySem PySem.Spec PyProof.Rows Own Ts PySem.W
section
variable {prog:Program}{w:World}{A:Around}{E:Value→Shared→Prop}{s:Shared}
theorem zg0 {Q:Bool→Shared→Prop}(cs:List Ordering):∀ (us vs:List Value) (i:Nat),us.length=cs.length→vs.length=cs.length→(∀ (j:Nat) u v c,us[j]?=some u→vs[j]?=some v→cs[j]?=some c→SeqAt.EqAt A s u v (c == .eq)∧(c≠.eq→LtAt A s u v (c == .lt))) →
  Q (cs.foldr Ordering.then .eq == .lt) s→PySem.W.KatLex prog w A false false Q (us.zip vs) i s:=by
 induction cs with
 | nil =>
  intro us vs i l1 l2 _ q
  rw[List.length_eq_zero_iff.mp l1]
  exact PySem.W.kat_nil q
 | cons c cs ih =>
  intro us vs i l1 l2 h q
  obtain⟨u,us,rfl⟩:∃ u us',us=u::us':=by
   cases us with
   | nil=>simp at l1
   | cons u us=>exact⟨u,us,rfl⟩
  obtain⟨v,vs,rfl⟩:∃ v vs',vs=v::vs':=by
   cases vs with
   | nil=>simp at l2
   | cons v vs=>exact⟨v,vs,rfl⟩
  have hh:=h 0 u v c rfl rfl rfl
  refine PySem.W.kat_cons (hh.1 prog w _ _ ?_)
  by_cases z:c=.eq
  ·subst z
   refine PySem.W.kat_yes (ih us vs (i+1) (by simpa using l1) (by simpa using l2) (fun j u v c a1 a2 a3=>h (j+1) u v c (by simpa using a1) (by simpa using a2) (by simpa using a3)) q)
  ·have e1:(c == Ordering.eq)=false:=by simpa using z
   have e2:(c::cs).foldr Ordering.then .eq=c:=by
    rw[List.foldr_cons]
    cases c<;>first|rfl|exact absurd rfl z
   rw[e2]at q
   rw[e1]
   refine PySem.W.kat_no ?_
   rw[Bool.false_and]
   exact zgD (hh.2 z) q
end
def RkN (H:Hp) (xs:List V) (rk:V→Int):Prop:=∃ n,n≤20∧∀ x∈xs,(∃ a b r ys,x=.ref a∧H a=some (.tup (.ref b::r))∧H b=some (.tup ys))∧∀ y∈xs,Lx H n x y (compare (rk x) (rk y))
section
variable {X:Cx}
theorem zj8 {pins:List (Addr × Obj)}{σ:St}{H:Hp}{s1:Shared}(I:Inv X pins σ H s1) (hu:X.A.units+64<cLine) {xs:List V}{vs:List Value}{rk:V→Int}(r:Vals xs vs) (R:RkN H xs rk) :
  ∃ κ:SortKind,(∀ h':Heap,(∀ c o,s1.heap.get? c=some o→h'.get? c=some o)→2≤vs.length→∀ (A':Around) {Q:SortKind→Shared→Prop}{E:Value→Shared→Prop},Q κ { s1 with heap:=h' }→wpAny (model X.prog X.w) A' (keyKind' vs.toArray) Q E { s1 with heap:=h' }) ∧
   (∀ h':Heap,(∀ c o,s1.heap.get? c=some o→h'.get? c=some o)→∀ (A':Around),A'.units≤X.A.units+8→Cmp X.prog X.w A' { s1 with heap:=h' } κ (fun p=>p.1∈vs) (fun p=>rk (vOf p.1))):=by
 obtain⟨n,hn,R⟩:=R
 obtain⟨ex,rel⟩:=zdv r fun x hx=>by
  obtain⟨⟨a,b,r,ys,e,_⟩,_⟩:=R x hx
  exact .inr ⟨a,e⟩
 have mem:∀ u∈vs,vOf u∈xs:=fun u hu=>by rw[ex];exact List.mem_map.mpr ⟨u,hu,rfl⟩
 refine⟨tuples' (Value.type "tuple" != Value.type "tuple"),fun h' k l2 A' Q E q=>?_,fun h' k A' hA=>⟨fun x y hx hy Q E q=>?_⟩⟩
 ·have I':Inv X pins σ H { s1 with heap:=h',toks:=s1.toks }:=I.kept k
  have kt:∀ us:List Value,(∀ u∈us,vOf u∈xs∧RelV (vOf u) u)→∃ fs,PySem.W.KatTups h' us fs∧fs.length=us.length∧∀ f∈fs,∃ b ys,f=Value.ref b∧H b=some (.tup ys):=by
   intro us
   induction us with
   | nil=>intro _;exact⟨[],PySem.W.KatTups.nil,rfl,fun f hf=>by simp at hf⟩
   | cons u us ih =>
    intro h
    obtain⟨fs,k1,k2,k3⟩:=ih fun v hv=>h v (List.mem_cons_of_mem _ hv)
    obtain⟨m1,r1⟩:=h u List.mem_cons_self
    obtain⟨⟨a,b,rr,ys,e,ha,hb⟩,_⟩:=R _ m1
    rw[e]at r1
    cases r1
    obtain⟨its,g,⟨o,eo,co,no,dt⟩,_⟩:=I'.tuple (SqT.of ha)
    obtain⟨f0,ef,rf⟩:=g.get (i:=0) (x:=.ref b) rfl
    cases rf
    exact⟨_,PySem.W.KatTups.cons eo co dt (by simpa using ef) k1,by rw[List.length_cons,List.length_cons,k2],fun f' hf=>by
     rcases List.mem_cons.mp hf with here|hf
     ·exact⟨b,ys,here,hb⟩
     ·exact k3 f' hf⟩
  obtain⟨fs,k1,k2,k3⟩:=kt vs fun u hu=>⟨mem u hu,rel u hu⟩
  refine PySem.W.kat_kind (T:=.type "tuple") k1 (by lia) (fun v hv=>?_) (by decide) q
  obtain⟨b,ys,rfl,hb⟩:=k3 v hv
  obtain⟨its,g,⟨o,eo,co,no,dt⟩,_⟩:=I'.tuple (SqT.of hb)
  exact fun A Q E s ks q=>wpAny_typeOf ⟨o,ks _ _ eo,co⟩ q
 ·have I':Inv X pins σ H { s1 with heap:=h',toks:=s1.toks }:=I.kept k
  obtain⟨x1,x2⟩:=x
  obtain⟨y1,y2⟩:=y
  have rx:=rel x1 hx
  have ry:=rel y1 hy
  obtain⟨⟨a,a2,xr,_,ea,ha,_⟩,lx⟩:=R _ (mem x1 hx)
  obtain⟨⟨b,b2,yr,_,eb,hb,_⟩,_⟩:=R _ (mem y1 hy)
  have L:=lx _ (mem y1 hy)
  simp only at q
  rw[ea]at rx L q
  rw[eb]at ry L q
  cases rx;cases ry
  generalize hc:compare (rk (V.ref a)) (rk (V.ref b))=c at L
  rw[← (zcJ (rk (V.ref a)) (rk (V.ref b))).2,hc]at q
  cases L with
  | @row n _ _ xs' ys' cs ha' hb' l1 l2 hL =>
   rw[ha]at ha';cases ha'
   rw[hb]at hb';cases hb'
   obtain⟨its,g1,⟨o1,eo1,co1,no1,dt1⟩,_⟩:=I'.tuple (SqT.of ha)
   obtain⟨jts,g2,⟨o2,eo2,co2,no2,dt2⟩,_⟩:=I'.tuple (SqT.of hb)
   have m1:=g1.length
   have m2:=g2.length
   show wpAny _ _ (keyLt' (tuples' false) (.ref a) (.ref b)) _ _ _
   refine PySem.W.kat_lt eo1 dt1 eo2 dt2 ?_
   have ds:decide (its.toArray.size<jts.toArray.size)=false:=decide_eq_false (by rw[List.size_toArray,List.size_toArray];lia)
   rw[ds]
   refine zg0 cs its jts 0 (by lia) (by lia) (fun j u v c hu' hv hc'=>?_) q
   have j1:j<(V.ref a2::xr).length:=by have:=(List.getElem?_eq_some_iff.mp hu').1;lia
   have j2:j<(V.ref b2::yr).length:=by have:=(List.getElem?_eq_some_iff.mp hv).1;lia
   obtain⟨u',e1,q1⟩:=g1.get (List.getElem?_eq_getElem j1)
   obtain⟨v',e2,q2⟩:=g2.get (List.getElem?_eq_getElem j2)
   rw[hu']at e1;obtain rfl:=Option.some.inj e1
   rw[hv]at e2;obtain rfl:=Option.some.inj e2
   have LL:=hL j _ _ c (List.getElem?_eq_getElem j1) (List.getElem?_eq_getElem j2) hc'
   exact⟨zik I' LL A' _ _ (by lia) q1 q2,fun ne=>zjW I' LL ne A' _ _ (by lia) q1 q2⟩
end
end L2
namespace L2
open PySem PySem.Spec PyProof.Rows Own
section
variable {prog:Program}{w:World}{A:Around}{R:Result→Shared→Prop}{I S:Addr}{fp wr:List Addr}{n:Nat}{P:Nat→Value→Prop}{St:Nat→Heap→Prop}
end
section
variable {prog:Program}{w:World}{A:Around}{E:Value→Shared→Prop}{s:Shared}
end
section
variable {X:Cx}
end
section
variable {X:Cx}
end
section
variable {prog:Program}{w:World}{A:Around}{R:Result→Shared→Prop}{I S:Addr}{fp wr:List Addr}{n:Nat}{P:Nat→Value→Prop}{St:Nat→Heap→Prop}
end
section
variable {prog:Program}{w:World}{A:Around}{E:Value→Shared→Prop}{s:Shared}
end
section
variable {X:Cx}{pins:List (Addr × Obj)}{σ:St}{H:Hp}{s:Shared}
end
section
variable {X:Cx}
end
end L2
namespace L2
open PySem Own
abbrev zjO (K:PySem.W.Frag):V→V→Hp→VK→Prop:=fun x y H Q=>∃ a b ns ms,x=.ref a∧y=.ref b∧SqL K H a (List.map V.int ns)∧SqL K H b (List.map V.int ms)∧Q (.bl (decide (ns=ms))) H
section
variable {X:Cx}
theorem zh4 (hu:X.A.units<cLine):OpR X (compareOp .Eq) (fun x y H Q=>∃ a b xs,x=.ref a∧y=.ref b∧SqL X.K H a xs∧SqL X.K H b []∧Q (.bl xs.isEmpty) H):=by
 rintro pins s σ H x y v u Q I rx ry ⟨a,b,xs,rfl,rfl,ha,hb,q⟩
 cases rx;cases ry
 obtain⟨its,r1,p1,_⟩:=I.list ha
 obtain⟨jts,r2,p2,_⟩:=I.list hb
 cases r2
 have lx:=r1.length
 match xs,r1,lx,q with
 | [],.nil,_,q=>exact SeqAt.RcAt.lists (e:=fun _=>true) p1.isList p2.isList rfl hu (fun j h=>absurd h (Nat.not_lt_zero _)) X.prog X.w _ _ ⟨.bl _,H,I,rfl,q⟩
 | z::zs,r1,lx,q=>exact SeqAt.RcAt.lists_lengths p1.isList p2.isList (by rw[List.size_toArray,← lx];rfl) hu X.prog X.w _ _ ⟨.bl _,H,I,rfl,q⟩
end
end L2
namespace L2
open PySem
theorem zj9 {i:Nat}{x:V}{t:TS}{D:Ends}{σ:St}{H:Hp}(h:∀ D':Ends,(∀ σ H,D.nx σ H→D'.nx σ H)→t D' (σ.set i (some x)) H):zb9 i x σ H fun σ2 H2=>t D σ2 H2:=h D fun _ _ x=>x
theorem zbs {t u:TS}{D:Ends}{σ:St}{H:Hp}(h:∀ D':Ends,(∀ σ H,u D σ H→D'.nx σ H)→t D' σ H):tSeq t u D σ H:=h { D with nx:=u D } fun _ _ x=>x
theorem zeV {t u:TS}{D:Ends}{σ:St}{H:Hp}(h:∀ D':Ends,(∀ σ H,u D σ H→D'.nx σ H)→(∀ v H,D.rt v H→D'.rt v H)→t D' σ H):tSeq t u D σ H:=h { D with nx:=u D } (fun _ _ x=>x) fun _ _ x=>x
end L2
namespace L2
open PySem Own PyProof.Rows PySem.Spec
section
variable {X:Cx}
end
end L2
namespace Bn
open PySem L2 Own
abbrev Sn:=List Int × List Grp × List Int
abbrev Sn.none (N:Nt):Sn:=(List.replicate N.forks.length 0,[],List.replicate N.lanes 0)
section
variable {H0 H H':Hp}{l d lt lg lo:Addr}{qa qa':List Addr}{ts os ts' os':List Int}{gs gs':List Grp}
end
end Bn
namespace L2
open PySem PySem.Spec PyProof.Rows
section
variable {P:Program}{w:World}{K:PySem.W.Frag}{mg:Str→Option Value}{base:Heap}{N:List Str}{qual:Str}{scope:Scope}{f:Addr}{cd:Value}{A:Around}{outer:List Env}{s:Shared}{H:Hp}{E:XK}{pins:List (Addr × Obj)}{σ:St}
end
end L2
namespace L2
open PySem PySem.Spec PyProof.Rows Own
structure Lam where
 params:Arguments
 body:Expr
 scope:Scope
 qual:Str
def back (cl:List (Str × Addr)) (H H':Hp):Hp:=fun b=>if b∈cl.map (·.2) then H b else H' b
section
variable {P:Program}{w:World}{H H':Hp}{h h':Heap}{cl:List (Str × Addr)}
end
section
variable {CX:CXT}{P:Program}{w:World}{K:PySem.W.Frag}{mg:Str→Option Value}{base:Heap}{L:Lam}{cl:List (Str × Addr)}{vals vs:List V}{ps:List Str}{f c:Addr}{A:Around}{outer:List Env}{s:Shared}{H:Hp}{us:List Value}{Q:VK}{E:XK}
end
section
variable {X:Cx}{CX:CXT}{k:Nat}{L:Lam}{fr ps:List Str}{sp:List V→List V→Hp→VK→XK→Prop}{E:XK}{x:Str}{i:Nat}{p pos:Pos}{e:Expr}{es:List Expr}{t:TA}
end
section
variable {X:Cx}{pins:List (Addr × Obj)}{σ:St}{H:Hp}{s:Shared}{h':Heap}
end
section
variable {X:Cx}{pins:List (Addr × Obj)}{σ:St}{H:Hp}{s:Shared}
variable {CX:CXT}{k:Nat}{f:Addr}{fd:FuncData}{ps:List Str}{sp:Sp}{x:Str}{p pos:Pos}{e:Expr}{es:List Expr}{t:TA}{E:XK}
end
section
variable {CX:CXT}{P:Program}{w:World}{K:PySem.W.Frag}{mg:Str→Option Value}{base:Heap}{L:Lam}{cl:List (Str × Addr)}{vals vs:List V}{ps:List Str}{f c:Addr}{A:Around}{outer:List Env}{s:Shared}{H:Hp}{us:List Value}{Q:VK}{E:XK}
end
abbrev LSpc:=List V→List V→Hp→VK→XK→Prop
section
variable {X:Cx}{CX:CXT}{k:Nat}{L:Lam}{fr ps:List Str}{sp:LSpc}{E:XK}{x:Str}{i:Nat}{p pos:Pos}{e:Expr}{es:List Expr}{t:TA}
end
abbrev LvL:=List (KN × List Int)
section
variable (step:KN→Nat→Option KN) (seen:LvL)
end
theorem zbX {α β:Type}{F G:α→β→Prop}(h:∀ a b,F a b→G a b) {l1:List α}{l2:List β}(p:Paired F l1 l2):Paired G l1 l2:=by
 induction p with
 | nil=>exact .nil
 | cons a _ ih=>exact .cons (h _ _ a) ih
theorem zeu {α β:Type}{F:α→β→Prop}{a1:List α}{b1:List β}(p:Paired F a1 b1) {a2:List α}{b2:List β}(q:Paired F a2 b2):Paired F (a1++a2) (b1++b2):=by
 induction p with
 | nil=>exact q
 | cons a _ ih=>exact .cons a ih
end L2
namespace L2
open PySem PySem.Spec PyProof.Rows Own Bn
theorem Room.u3 {k:Nat}{A:Around}(r:Room k A):A.units+3<cLine:=by have:=r.un;lia
section
variable {step:KN→Nat→Option KN}{seen:LvL}{Ok:KN→Prop}{moves:List Nat}
end
section
variable {step:KN→Nat→Option KN}{moves:List Nat}{most m:Nat}{level seen:LvL}{ls:List LvL}
end
end L2
namespace L2
open PySem PySem.Spec PyProof.Rows
abbrev e2 (elt tg iter tg1 iter1:Expr) (ifs:List Expr) (scope:Scope) (pos:Pos):Expr:=.ListComp elt [⟨tg,iter,[],0⟩,⟨tg1,iter1,ifs,0⟩] scope pos
section
variable {prog:Program}{w:World}{A:Around}{R:Result→Shared→Prop}{s:Shared}{elt tg iter tg1 iter1:Expr}{scope:Scope}{pos:Pos}{it acc:Value}{env:Env}
end
end L2
namespace L2
open PySem PySem.Spec PyProof.Rows Own
section
variable {X:Cx}{e e2:Expr}{ta tb:TE}{p kp pos:Pos}
end
section
variable {X:Cx}
end
end L2
namespace Own
open PySem PySem.Spec PyProof.Rows
section
variable {prog:Program}{w:World}{A:Around}{E:Value→Shared→Prop}{s:Shared}{z TI TO i1 i2:Addr}{f1 f2:List Addr}{n1 n2 k:Nat}{P1 P2:Nat→Value→Prop}{S1 S2:Nat→Heap→Prop}{a b:Value}
end
end Own
namespace L2
open PySem PySem.Spec PyProof.Rows Own
section
variable {X:Cx}{tg:Expr}
end
end L2
namespace Bn
open PySem L2 Own
def pw (e:Nat):Int:=((2 ^ e:Nat):Int)
def more (cs xs:List Int) (k:Int):List Int:=(List.range cs.length).map fun i=>cs.getD i 0+k*xs.getD i 0
end Bn
namespace L2
open PySem PySem.Spec PyProof.Rows Own
end L2
namespace L2
open PySem PySem.Spec PyProof.Rows Own Bn
end L2
namespace L2
open PySem PySem.Spec PyProof.Rows Own
theorem zjY {P:Program}{w:World}{d:Addr}{o:Obj}{xs:KVN}{g:TG}{tt:TT}{te:TE}{l:Addr}{σ:St}{H:Hp}{Q:VK}(Pv:Nat→List V→St→Hp→Prop) (h0:Pv 0 [] σ H) (hl:∀ i acc σ H,Pv i acc σ H→H l=some (.lst acc)∧H d=some (.frz o (DN P w d xs)))
  (hs:∀ (i:Nat) acc σ H p,xs[i]?=some p→Pv i acc σ H→g (.ref p.2.1) σ H fun σ3 H3=>tt σ3 H3 fun b H4=>if b=true then te σ3 H4 fun z H5=>H5 l=some (.lst acc)∧acc.length<sizeLine∧Nx xs.length i (Pv (i+1) (acc++[z]) σ3 (upd H5 l (.lst (acc++[z])))) else Nx xs.length i (Pv (i+1) acc σ3 H4))
  (hd:∀ acc σ H,Pv xs.length acc σ H→Q (.ref l) H):∃ W:Nat→Nat→List V→St→Hp→Prop,(∃ m,W 0 m [] σ H)∧LCW (Itn P w d o xs) g tt te l Q W:=by
 refine⟨fun i m acc σ H=>m=xs.length-i∧i≤xs.length∧Pv i acc σ H,⟨_,rfl,Nat.zero_le _,h0⟩,fun i m acc σ H ⟨em,hi,pv⟩=>?_⟩
 subst em
 obtain⟨q0,q1⟩:=hl i acc σ H pv
 refine⟨q0,?_⟩
 by_cases lt:i<xs.length
 ·refine .inr ⟨⟨q1,lt⟩,fun x H2 ⟨e1,p,hp,e2⟩=>?_⟩
  subst e1 e2
  exact hs i acc σ _ p hp pv
 ·obtain rfl:i=xs.length:=by lia
  exact .inl ⟨⟨q1,rfl⟩,hd acc σ H pv⟩
section
variable {X:Cx}
theorem zeb (P:Program) (w:World) {o i:Expr}{td ty:TE}{pos:Pos}(hP:X.prog=P) (hw:X.w=w) (hu:X.A.units+3<cLine) (ho:PE X o td) (hi:PE X i ty) (hs:NoSl i):PE X (.Subscript o i pos) (ziV P w td ty):=by
 subst hP hw
 exact zhZ hu ho hi hs
theorem zdk (hu:X.A.units+64<cLine):CallR X (.builtin "sorted") (fun vs H Q=>∃ a xs rk,vs=[.ref a]∧SqL X.K H a xs∧xs.length≤10000∧RkN H xs rk∧∀ (l:Addr) (ys:List V),H l=none→ys.Perm xs→ys.Pairwise (fun x y=>rk x≤rk y)→Q (.ref l) (upd H l (.lst ys))):=by
 intro pins s σ H vs us Q I rv h
 obtain⟨a,xs,rk,rfl,hq,hz,R,q⟩:=h
 obtain⟨u,rfl,ru⟩:=rv.one
 cases ru
 obtain⟨its,r,p⟩:=I.sq (b:=true) hq
 have hl:=r.length
 have sl:its.length≤sizeLine:=Nat.le_trans (show _≤10000 by lia) (by decide)
 refine zhB (zjo p sl fun h1 far k1=>?_)
 have I1:Inv X pins σ H { s with heap:=h1,toks:=s.toks }:=I.kept k1
 obtain⟨κ,hk,hc⟩:=zj8 I1 hu r R
 obtain⟨ex,rel⟩:=zdv r fun x hx=>by
  obtain⟨n,_,h⟩:=R
  obtain⟨⟨a,_,_,_,e,_⟩,_⟩:=h x hx
  exact .inr ⟨a,e⟩
 refine⟨κ,fun u=>rk (vOf u),by lia,hk,hc,fun h' l e out lo eo pm so kk=>?_⟩
 have vo:Vals (out.map vOf) out:=zcY fun u hu=>rel u (pm.mem_iff.mp hu)
 have lt:(out.map vOf).length≤sizeLine:=by rw[List.length_map,pm.length_eq];exact sl
 have pv:(out.map vOf).Perm xs:=by rw[ex];exact pm.map vOf
 exact⟨.ref l,_,I.laid (t':=s.toks) (o:=.lst (out.map vOf)) (fun c o q=>kk c o (k1 c o q)) (Nat.le_trans far lo) ⟨lt,out,e,vo,eo⟩,rfl,q l _ (I.hok.fresh (Nat.le_trans far lo)) pv (List.pairwise_map.mpr so)⟩
end
theorem zaW (p:KN × Addr × V) (xs:KVN) (k:KN):valN (p::xs) k=if p.1=k then some p.2.2 else valN xs k:=by
 unfold valN
 rw[List.find?_cons]
 by_cases z:p.1=k
 ·rw[decide_eq_true z,if_pos z];rfl
 ·rw[decide_eq_false z,if_neg z]
theorem zgf (xs:KVN) (k j:KN) (v:V):valN (xs.map fun x=>if x.1=k then (x.1,x.2.1,v) else x) j=if j=k then (valN xs k).map (fun _=>v) else valN xs j:=by
 induction xs with
 | nil=>unfold valN;split<;>rfl
 | cons p xs ih =>
  rw[List.map_cons,zaW,ih,zaW,zaW]
  by_cases z:p.1=k
  ·rw[if_pos z,if_pos z]
   by_cases y:j=k
   ·rw[if_pos (z.trans y.symm),if_pos y];rfl
   ·rw[if_neg (fun q:p.1=j=>y (q.symm.trans z)),if_neg y,if_neg y,if_neg (fun q:p.1=j=>y (q.symm.trans z))]
  ·rw[if_neg z,if_neg z]
   by_cases y:j=k
   ·rw[if_neg (fun q=>z (q.trans y)),if_pos y,if_pos y]
   ·rw[if_neg y,if_neg y]
theorem zgg (xs ys:KVN) (j:KN):valN (xs++ys) j=(valN xs j).or (valN ys j):=by
 induction xs with
 | nil=>rfl
 | cons p xs ih =>
  rw[List.cons_append,zaW,ih,zaW]
  split<;>rfl
theorem zge (xs:KVN) (k:KN) (b:Addr) (v:V) (j:KN):valN (putN xs k b v) j=if j=k then some v else valN xs j:=by
 unfold putN
 by_cases z:(valN xs k).isSome=true
 ·rw[if_pos z,zgf]
  obtain⟨u,hu⟩:=Option.isSome_iff_exists.mp z
  rw[hu];rfl
 ·rw[if_neg z,zgg,zaW]
  have e:valN xs k=none:=by cases q:valN xs k with
   | none=>rfl
   | some u=>rw[q]at z;exact absurd rfl z
  by_cases y:j=k
  ·rw[if_pos y,y,e,if_pos rfl];rfl
  ·rw[if_neg y,if_neg (fun q=>y q.symm)]
   show (valN xs j).or none=_
   cases valN xs j<;>rfl
theorem zc7 (xs:KVN) (k:KN) (b:Addr) (v:V):(putN xs k b v).map (·.1)=if (valN xs k).isSome then xs.map (·.1) else xs.map (·.1)++[k]:=by
 unfold putN
 by_cases z:(valN xs k).isSome=true
 ·rw[if_pos z,if_pos z,List.map_map]
  refine List.map_congr_left fun y _=>?_
  show (if y.1=k then (y.1,y.2.1,v) else y).1=y.1
  split<;>rfl
 ·rw[if_neg z,if_neg z,List.map_append];rfl
theorem zcq {xs:KVN}{k:KN}:(valN xs k).isSome=true↔k∈xs.map (·.1):=by
 induction xs with
 | nil=>exact⟨fun h=>(nomatch h),fun h=>(nomatch h)⟩
 | cons p xs ih =>
  rw[zaW,List.map_cons,List.mem_cons]
  by_cases z:p.1=k
  ·rw[if_pos z];exact⟨fun _=>.inl z.symm,fun _=>rfl⟩
  ·rw[if_neg z,ih]
   exact⟨.inr,fun h=>h.elim (fun q=>absurd q.symm z) id⟩
theorem KsIn.put {H:Hp}{xs:KVN}{k:KN}{b:Addr}{v:V}(h:KsIn H xs) (hb:NKey H k b):KsIn H (putN xs k b v):=by
 intro x hx
 unfold putN at hx
 split at hx
 ·obtain⟨y,hy,rfl⟩:=List.mem_map.mp hx
  split
  ·exact h y hy
  ·exact h y hy
 ·rcases List.mem_append.mp hx with z|z
  ·exact h x z
  ·rw[List.mem_singleton.mp z];exact hb
end L2
namespace Bn
open PySem PySem.Spec PyProof.Rows L2 Own
def keyG (κ:Nat × Nat):KN:=[.inl (κ.1:Nat),.inl (κ.2:Nat)]
theorem zgZ {a b:Nat × Nat}(h:keyG a=keyG b):a=b:=by
 injection h with h1 h2
 injection h2 with h2 _
 exact Prod.ext (Int.ofNat.inj (Sum.inl.inj h1)) (Int.ofNat.inj (Sum.inl.inj h2))
theorem zfI {H:Hp}{κ:Nat × Nat}{b:Addr}(h:H b=some (.tup [.int (κ.1:Nat),.int (κ.2:Nat)])):NKey H (keyG κ) b:=⟨_,h,_,_,rfl,rfl,_,_,rfl,rfl,rfl⟩
theorem ziI {H:Hp}{κ:Nat × Nat}{b:Addr}(h:NKey H (keyG κ) b):H b=some (.tup [.int (κ.1:Nat),.int (κ.2:Nat)]):=by
 obtain⟨ys,h1,v,r,rfl,rfl,v2,r2,rfl,rfl,rfl⟩:=h
 exact h1
structure SumD (gs:List Grp) (xs:KVN):Prop where
 form:∀ p∈xs,∃ κ,p.1=keyG κ
 has:∀ κ,valN xs (keyG κ)=none∧zaG gs κ=0∨valN xs (keyG κ)=some (.int (zaG gs κ))
 nd:(xs.map (·.1)).Nodup
 few:xs.length≤gs.length
theorem SumD.nil:SumD [] []:=⟨fun p hp=>(nomatch hp),fun κ=>.inl ⟨rfl,rfl⟩,.nil,Nat.le_refl _⟩
theorem SumD.get {gs:List Grp}{xs:KVN}(h:SumD gs xs) (κ:Nat × Nat):(valN xs (keyG κ)).getD (.int 0)=.int (zaG gs κ):=by
 rcases h.has κ with ⟨e,z⟩|e
 ·rw[e,z];rfl
 ·rw[e];rfl
theorem SumD.put {gs:List Grp}{xs:KVN}(h:SumD gs xs) (g:Grp) (b:Addr):SumD (gs++[g]) (putN xs (keyG (g.lane,g.fork)) b (.int (zaG gs (g.lane,g.fork)+g.many))):=by
 have one:∀ κ,zaG [g] κ=if (g.lane,g.fork)=κ then g.many else 0:=fun κ=>by
  unfold zaG
  show (if (g.lane,g.fork)=κ then g.many else 0)+0=_
  rw[Int.add_zero]
 refine⟨fun p hp=>?_,fun κ=>?_,?_,?_⟩
 ·have hm:p.1∈(putN xs (keyG (g.lane,g.fork)) b (.int (zaG gs (g.lane,g.fork)+g.many))).map (·.1):=List.mem_map.mpr ⟨p,hp,rfl⟩
  rw[zc7]at hm
  have old:p.1∈xs.map (·.1)→∃ κ,p.1=keyG κ:=fun q=>by
   obtain⟨y,hy,e⟩:=List.mem_map.mp q
   obtain⟨κ,ek⟩:=h.form y hy
   exact⟨κ,e.symm.trans ek⟩
  split at hm
  ·exact old hm
  ·rcases List.mem_append.mp hm with z|z
   ·exact old z
   ·exact⟨_,List.mem_singleton.mp z⟩
 ·rw[zge,zaw,one]
  by_cases z:κ=(g.lane,g.fork)
  ·subst z
   rw[if_pos rfl,if_pos rfl];exact .inr rfl
  ·rw[if_neg (fun q=>z (zgZ q)),if_neg (fun q=>z q.symm),Int.add_zero];exact h.has κ
 ·rw[zc7]
  split
  ·exact h.nd
  ·rename_i z
   refine List.nodup_append.mpr ⟨h.nd,List.nodup_cons.mpr ⟨List.not_mem_nil,List.nodup_nil⟩,fun a ha c hc e=>?_⟩
   rw[List.mem_singleton.mp hc]at e
   exact z (zcq.mpr (e ▸ ha))
 ·have:=zd9 xs (keyG (g.lane,g.fork)) b (.int (zaG gs (g.lane,g.fork)+g.many))
  have:=h.few
  rw[List.length_append]
  show _≤gs.length+1
  lia
abbrev Ent:=(Nat × Nat) × Int
def rkK (k:Nat × Nat):Int:=(k.1:Int)*1000+(k.2:Int)
structure StoodOf (gs:List Grp) (es:List Ent):Prop where
 up:es.Pairwise fun a b=>rkK a.1<rkK b.1
 mem:∀ e:Ent,e∈es↔zaG gs e.1=e.2∧e.2≠0
theorem zhc:∀ {a b:List Ent},a.Pairwise (fun x y=>rkK x.1<rkK y.1)→b.Pairwise (fun x y=>rkK x.1<rkK y.1)→(∀ e,e∈a↔e∈b)→a=b
 | [],[],_,_,_=>rfl
 | [],y::b,_,_,h=>absurd ((h y).mpr (.head _)) List.not_mem_nil
 | x::a,[],_,_,h=>absurd ((h x).mp (.head _)) List.not_mem_nil
 | x::a,y::b,pa,pb,h=>by
  rw[List.pairwise_cons]at pa pb
  have e:x=y:=by
   rcases List.mem_cons.mp ((h x).mp (.head _)) with z|z
   ·exact z
   ·rcases List.mem_cons.mp ((h y).mpr (.head _)) with w|w
    ·exact w.symm
    ·have:=pa.1 y w
     have:=pb.1 x z
     lia
  subst e
  rw[zhc pa.2 pb.2 fun e=>⟨fun he=>?_,fun he=>?_⟩]
  ·rcases List.mem_cons.mp ((h e).mp (.tail _ he)) with z|z
   ·rw[z]at he
    have:=pa.1 x he
    lia
   ·exact z
  ·rcases List.mem_cons.mp ((h e).mpr (.tail _ he)) with z|z
   ·rw[z]at he
    have:=pb.1 x he
    lia
   ·exact z
theorem StoodOf.one {gs hs:List Grp}{a b:List Ent}(x:StoodOf gs a) (y:StoodOf hs b) (h:∀ κ,zaG gs κ=zaG hs κ):a=b :=
 zhc x.up y.up fun e=>by rw[x.mem,y.mem,h]
def zbL:KN→Nat × Nat
 | [.inl a,.inl b]=>(a.toNat,b.toNat)
 | _=>(0,0)
theorem zcO (κ:Nat × Nat):zbL (keyG κ)=κ:=rfl
def zaS (gs:List Grp) (xs:KVN):List Ent:=(xs.map fun p=>(zbL p.1,zaG gs (zbL p.1))).filter fun e=>decide (e.2≠0)
theorem zb2 (gs:List Grp) (xs:KVN) (p:KN × Addr × V):zaS gs (xs++[p])=zaS gs xs++if zaG gs (zbL p.1)≠0 then [(zbL p.1,zaG gs (zbL p.1))] else []:=by
 unfold zaS
 rw[List.map_append,List.filter_append]
 congr 1
 by_cases z:zaG gs (zbL p.1)≠0
 ·rw[if_pos z]
  exact List.filter_cons_of_pos (decide_eq_true z)
 ·rw[if_neg z]
  exact List.filter_cons_of_neg (fun q=>z (of_decide_eq_true q))
theorem SumD.nodup {gs:List Grp}{xs:KVN}(h:SumD gs xs):((zaS gs xs).map (·.1)).Nodup:=by
 have s:((zaS gs xs).map (·.1)).Sublist (xs.map fun p=>zbL p.1):=by
  have:((xs.map fun p=>(zbL p.1,zaG gs (zbL p.1))).map (fun e:Ent=>e.1))=xs.map fun p=>zbL p.1:=by rw[List.map_map];rfl
  rw[← this]
  exact(List.filter_sublist).map _
 refine List.Nodup.sublist s ?_
 have nd:=h.nd
 unfold List.Nodup at nd ⊢
 rw[List.pairwise_map]at nd ⊢
 refine nd.imp_of_mem fun {a b} ha hb n e=>n ?_
 obtain⟨κ,ea⟩:=h.form a ha
 obtain⟨κ',eb⟩:=h.form b hb
 rw[ea,eb,zcO,zcO]at e
 rw[ea,eb,e]
theorem SumD.mem {gs:List Grp}{xs:KVN}(h:SumD gs xs) (e:Ent):e∈zaS gs xs↔zaG gs e.1=e.2∧e.2≠0:=by
 unfold zaS
 rw[List.mem_filter]
 constructor
 ·rintro⟨hm,ne⟩
  obtain⟨p,_,rfl⟩:=List.mem_map.mp hm
  exact⟨rfl,of_decide_eq_true ne⟩
 ·rintro⟨e1,ne⟩
  refine⟨?_,decide_eq_true ne⟩
  rcases h.has e.1 with ⟨_,z⟩|z
  ·exact absurd (e1.symm.trans z) ne
  ·have hm:=zcq.mp (show (valN xs (keyG e.1)).isSome=true by rw[z];rfl)
   obtain⟨p,hp,ek⟩:=List.mem_map.mp hm
   exact List.mem_map.mpr ⟨p,hp,by rw[ek,zcO,e1]⟩
def EntAt (H:Hp) (x:V) (e:Ent):Prop:=∃ a b,x=.ref a∧H a=some (.tup [.ref b,.int e.2])∧H b=some (.tup [.int (e.1.1:Nat),.int (e.1.2:Nat)])
theorem EntAt.tups {H H':Hp}(t:Tups H H') {x:V}{e:Ent}(h:EntAt H x e):EntAt H' x e:=by
 obtain⟨a,b,h1,h2,h3⟩:=h
 exact⟨a,b,h1,t _ _ h2,t _ _ h3⟩
theorem EntAt.one {H:Hp}{x:V}{e f:Ent}(h:EntAt H x e) (g:EntAt H x f):e=f:=by
 obtain⟨a,b,rfl,h2,h3⟩:=h
 obtain⟨c,d,q,g2,g3⟩:=g
 cases q
 rw[h2]at g2
 have p:=Option.some.inj g2
 injection p with p
 injection p with p1 p2
 injection p2 with p2 _
 rw[← V.ref.inj p1,h3]at g3
 have q:=Option.some.inj g3
 injection q with q
 injection q with q1 q2
 injection q2 with q2 _
 exact Prod.ext (Prod.ext (Int.ofNat.inj (V.int.inj q1)) (Int.ofNat.inj (V.int.inj q2))) (V.int.inj p2)
open Classical in
noncomputable def rkE (H:Hp) (x:V):Int:=if h:∃ e,EntAt H x e then rkK h.choose.1 else 0
theorem zd6 {H:Hp}{x:V}{e:Ent}(h:EntAt H x e):rkE H x=rkK e.1:=by
 unfold rkE
 have ex:∃ e,EntAt H x e:=⟨e,h⟩
 rw[dif_pos ex,ex.choose_spec.one h]
theorem ziF {a b:Nat × Nat}{m n:Int}(fa:a.2<1000) (fb:b.2<1000) (u:a=b→m=n):((compare ((a.1:Nat):Int) ((b.1:Nat):Int)).then (compare ((a.2:Nat):Int) ((b.2:Nat):Int))).then (compare m n)=compare (rkK a) (rkK b):=by
 unfold rkK
 have lt:(a.1:Int)*1000+a.2<(b.1:Int)*1000+b.2→compare ((a.1:Int)*1000+a.2) ((b.1:Int)*1000+b.2)=.lt:=Int.compare_eq_lt.mpr
 have eq:(a.1:Int)*1000+a.2=(b.1:Int)*1000+b.2→compare ((a.1:Int)*1000+a.2) ((b.1:Int)*1000+b.2)=.eq:=Int.compare_eq_eq.mpr
 have gt:(b.1:Int)*1000+b.2<(a.1:Int)*1000+a.2→compare ((a.1:Int)*1000+a.2) ((b.1:Int)*1000+b.2)=.gt:=Int.compare_eq_gt.mpr
 rcases Int.lt_trichotomy ((a.1:Nat):Int) ((b.1:Nat):Int) with z|z|z
 ·rw[Int.compare_eq_lt.mpr z,lt (by lia)];rfl
 ·rw[Int.compare_eq_eq.mpr z]
  rcases Int.lt_trichotomy ((a.2:Nat):Int) ((b.2:Nat):Int) with y|y|y
  ·rw[Int.compare_eq_lt.mpr y,lt (by lia)];rfl
  ·rw[Int.compare_eq_eq.mpr y,Int.compare_eq_eq.mpr (u (Prod.ext (Int.ofNat.inj z) (Int.ofNat.inj y))),eq (by lia)];rfl
  ·rw[Int.compare_eq_gt.mpr y,gt (by lia)];rfl
 ·rw[Int.compare_eq_gt.mpr z,gt (by lia)];rfl
theorem zek {H:Hp}{xs:List V}{es:List Ent}(h:Paired (EntAt H) xs es):∀ x∈xs,∃ e∈es,EntAt H x e:=by
 induction h with
 | nil=>intro x hx;cases hx
 | cons q _ ih =>
  intro x hx
  rcases List.mem_cons.mp hx with z|z
  ·rw[z];exact⟨_,.head _,q⟩
  ·obtain⟨e,he,r⟩:=ih x z
   exact⟨e,.tail _ he,r⟩
theorem ziz {H:Hp}{xs:List V}{es:List Ent}(h:Paired (EntAt H) xs es) (u:∀ a∈es,∀ b∈es,a.1=b.1→a.2=b.2) (f:∀ e∈es,e.1.2<1000):RkN H xs (rkE H):=by
 refine⟨2,by decide,fun x hx=>?_⟩
 obtain⟨e,he,r⟩:=zek h x hx
 refine⟨?_,fun y hy=>?_⟩
 ·obtain⟨a,b,h1,h2,h3⟩:=r
  exact⟨a,b,_,_,h1,h2,h3⟩
 ·obtain⟨e',he',r'⟩:=zek h y hy
  rw[zd6 r,zd6 r',← ziF (f e he) (f e' he') (u e he e' he')]
  obtain⟨a,b,rfl,h2,h3⟩:=r
  obtain⟨a',b',rfl,h2',h3'⟩:=r'
  exact .pair h2 h2' (.pair h3 h3' (.int 0 _ _) (.int 0 _ _)) (.int 1 _ _)
theorem zfV {H:Hp}{xs ys:List V}(p:ys.Perm xs):∀ {es:List Ent},Paired (EntAt H) xs es→∃ fs,Paired (EntAt H) ys fs∧fs.Perm es:=by
 induction p with
 | nil=>intro es h;exact⟨es,h,.refl _⟩
 | cons b _ ih =>
  intro es h
  cases h with
  | cons q t =>
   obtain⟨js,h1,h2⟩:=ih t
   exact⟨_,.cons q h1,h2.cons _⟩
 | swap b c l =>
  intro es h
  cases h with
  | cons q t=>cases t with
   | cons q2 t=>exact⟨_,.cons q2 (.cons q t),.swap _ _ _⟩
 | trans _ _ ih1 ih2 =>
  intro es h
  obtain⟨js,h1,h2⟩:=ih2 h
  obtain⟨is,g1,g2⟩:=ih1 h1
  exact⟨is,g1,g2.trans h2⟩
theorem ziy {H:Hp}{xs:List V}{es:List Ent}(h:Paired (EntAt H) xs es) (s:xs.Pairwise fun x y=>rkE H x≤rkE H y):es.Pairwise fun a b=>rkK a.1≤rkK b.1:=by
 induction h with
 | nil=>exact .nil
 | @cons x e xs es q t ih =>
  rw[List.pairwise_cons]at s
  refine List.pairwise_cons.mpr ⟨fun j hj=>?_,ih s.2⟩
  have back:∀ {xs:List V}{es:List Ent},Paired (EntAt H) xs es→∀ j∈es,∃ x∈xs,EntAt H x j:=by
   intro xs es h
   induction h with
   | nil=>intro j hj;cases hj
   | cons q _ ih =>
    intro j hj
    rcases List.mem_cons.mp hj with z|z
    ·rw[z];exact⟨_,.head _,q⟩
    ·obtain⟨b,hb,e⟩:=ih j z
     exact⟨b,.tail _ hb,e⟩
  obtain⟨y,hy,r⟩:=back t j hj
  have:=s.1 y hy
  rwa [zd6 q,zd6 r]at this
theorem zhR {a b:Nat × Nat}(fa:a.2<1000) (fb:b.2<1000) (h:rkK a=rkK b):a=b:=by
 unfold rkK at h
 exact Prod.ext (by lia) (by lia)
theorem zgl {gs:List Grp}{xs:KVN}(h:SumD gs xs) {es:List Ent}(p:es.Perm (zaS gs xs)) (u:es.Pairwise fun a b=>rkK a.1≤rkK b.1) (f:∀ e∈es,e.1.2<1000):StoodOf gs es:=by
 refine⟨?_,fun e=>by rw[p.mem_iff];exact h.mem e⟩
 have nd:(es.map (·.1)).Nodup:=(p.map _).nodup_iff.mpr h.nodup
 unfold List.Nodup at nd
 rw[List.pairwise_map]at nd
 refine(u.and nd).imp_of_mem fun {a b} ha hb q=>?_
 have:rkK a.1≠rkK b.1:=fun z=>q.2 (zhR (f a ha) (f b hb) z)
 have:=q.1
 lia
theorem zd1:∀ gs:List Grp,(gs.map fun _=>(0:Int)).sum=0
 | []=>rfl
 | g::gs=>by rw[List.map_cons,List.sum_cons,zd1 gs];rfl
def entD (e:Ent):PyData:=.tuple [.tuple [.int (e.1.1:Nat),.int (e.1.2:Nat)],.int e.2]
theorem ziC {H:Hp}{xs:List V}{es:List Ent}{l:Addr}(h:Paired (EntAt H) xs es) (hl:H l=some (.lst xs)):DD H 3 (.ref l) (.list (es.map entD)):=by
 refine DD.lst hl (by rw[List.length_map];exact Paired.length h) ?_
 clear hl
 induction h with
 | nil=>intro j u e p _;simp at p
 | cons q _ ih =>
  intro j u e p r
  cases j with
  | succ j=>exact ih j u e (by simpa using p) (by simpa using r)
  | zero =>
   obtain⟨a,b,e1,h2,h3⟩:=q
   cases p;cases r
   rw[e1]
   refine DD.tup h2 rfl fun j u e p q=>?_
   match j,p,q with
   | 0,p,q =>
    obtain rfl:=Option.some.inj p;obtain rfl:=Option.some.inj q
    refine DD.tup h3 rfl fun j u e p q=>?_
    match j,p,q with
    | 0,p,q=>obtain rfl:=Option.some.inj p;obtain rfl:=Option.some.inj q;exact DD.i _
    | 1,p,q=>obtain rfl:=Option.some.inj p;obtain rfl:=Option.some.inj q;exact DD.i _
    | j+2,p,q=>simp at p
   | 1,p,q=>obtain rfl:=Option.some.inj p;obtain rfl:=Option.some.inj q;exact DD.i _
   | j+2,p,q=>simp at p
end Bn
namespace K21
open PySem L2 Own Bn
abbrev zeY:Stmt:=top 39
def zcs:Sp:=fun vs H Q _=>∃ sc tr gr ou qs ts gs os,vs=[.ref sc]∧SceneAt H sc tr gr ou qs ts gs os∧gs.length≤1000∧(∀ g∈gs,g.fork<1000)∧∀ l es H',Same H H'→StoodOf gs es→DD H' 3 (.ref l) (.list (es.map entD))→Q (.ref l) H'
section
variable {P:Program}{w:World}{K:PySem.W.Frag}{mg:Str→Option Value}{base:Heap}
theorem scSd:FnScope ["_law_scene_here","_law_found","_law_many_here","_law_lane","_law_fork"] ["_law_scene_here"] (zak zeY):=⟨rfl,rfl,rfl,by decide +kernel,rfl,by decide +kernel,by decide +kernel⟩
theorem zgF {f:Addr}{fd:FuncData}(F:Fun K "_law_stood" "_law_stood" zeY f fd) (G:Mgs mg):FnOk P w K mg base CX0 1 f fd ["_law_scene_here"] zcs:=by
 refine F.ok scSd (fun vs H Q E h=>?_) (fun cdv A outer s H vs Q E hr h=>?_)
 ·obtain⟨sc,tr,gr,ou,qs,ts,gs,os,rfl,_⟩:=h
  rfl
 obtain⟨sc,tr,gr,ou,qs,ts,gs,os,rfl,sa,gl,gf,k⟩:=h
 refine⟨_,(@zaf _ _ _ _ _ (@zaz _ _ 1 _ _ _ _ scSd.nd rfl (.inr rfl) zhY (by rfl) (by first|exact .inl rfl|exact .inr rfl|assumption)) (@zaf _ _ _ _ _ (@zbG _ _ _ _ _ _ _ _ PassesOwn.never rfl (@zhf _ _ _ _ (@zaq _ _ _ _ _ _ _ zam (@pv _ 0 _ _ (by rfl) (by first|exact Or.inl rfl|exact Or.inr (.inl rfl)|exact Or.inr (.inr rfl)) (by decide) (by decide)) zae (fun _ _=>rfl))) (@zaY _ _ _ _ _ _ rfl (@zal _ _ _ _ _ (@zap _ _ 2 _ scSd.nd rfl (.inl rfl) (by first|exact .inl rfl|exact .inr rfl|assumption)) (@zal _ _ _ _ _ (@zap _ _ 3 _ scSd.nd rfl (.inl rfl) (by first|exact .inl rfl|exact .inr rfl|assumption)) (@zal _ _ _ _ _ (@zap _ _ 4 _ scSd.nd rfl (.inl rfl) (by first|exact .inl rfl|exact .inr rfl|assumption)) zaM (by rfl)) (by rfl)) (by rfl)) (by rfl) (by rfl)) (@zah _ _ _ (zhU hr.u3 (@pv _ 1 _ _ (by rfl) (by first|exact Or.inl rfl|exact Or.inr (.inl rfl)|exact Or.inr (.inr rfl)) (by decide) (by decide)) (@zaA _ _ _ _ _ (@zaa _ _ _ _ _ (@pv _ 3 _ _ (by rfl) (by first|exact Or.inl rfl|exact Or.inr (.inl rfl)|exact Or.inr (.inr rfl)) (by decide) (by decide)) (@zaa _ _ _ _ _ (@pv _ 4 _ _ (by rfl) (by first|exact Or.inl rfl|exact Or.inr (.inl rfl)|exact Or.inr (.inr rfl)) (by decide) (by decide)) zab (by rfl)) (by rfl))) (@zas _ _ _ _ _ _ _ _ zaB (zgu hr.u3 (@pv _ 1 _ _ (by rfl) (by first|exact Or.inl rfl|exact Or.inr (.inl rfl)|exact Or.inr (.inr rfl)) (by decide) (by decide)) (@zaA _ _ _ _ _ (@zaa _ _ _ _ _ (@pv _ 3 _ _ (by rfl) (by first|exact Or.inl rfl|exact Or.inr (.inl rfl)|exact Or.inr (.inr rfl)) (by decide) (by decide)) (@zaa _ _ _ _ _ (@pv _ 4 _ _ (by rfl) (by first|exact Or.inl rfl|exact Or.inr (.inl rfl)|exact Or.inr (.inr rfl)) (by decide) (by decide)) zab (by rfl)) (by rfl))) zae ⟨rfl,rfl,rfl,rfl⟩) (@pv _ 2 _ _ (by rfl) (by first|exact Or.inl rfl|exact Or.inr (.inl rfl)|exact Or.inr (.inr rfl)) (by decide) (by decide))) (by rfl))) (by intro _;rfl)) (@zah _ _ _ (@zav _ _ _ _ (@zar _ _ _ _ _ _ _ _ _ (zdk hr.units) (by rfl) G.sorted (by rfl) (@zaa _ _ _ _ _ (@zgv _ _ _ _ (some _) _ _ _ _ _ _ ["_law_spot","_law_found"] [none,some 1] rfl (zgs (@pv _ 1 _ _ (by rfl) (by first|exact Or.inl rfl|exact Or.inr (.inl rfl)|exact Or.inr (.inr rfl)) (by decide) (by decide))) (CapOk.of (by kernel_rfl)) (fun _ _ _ _ _=>(@zap _ _ 0 _ (show (["_law_spot","_law_found"]:List Str).Nodup from by decide +kernel) rfl (.inl rfl) (.inr rfl))) (fun _ _ _ _ _=>(@zcD _ _ _ (@zau _ _ _ _ _ _ _ _ zcK (zeb P w rfl rfl hr.u3 (@pv _ 1 _ _ (by rfl) (by first|exact Or.inl rfl|exact Or.inr (.inl rfl)|exact Or.inr (.inr rfl)) (by decide) (by decide)) (@pv _ 0 _ _ (by rfl) (by first|exact Or.inl rfl|exact Or.inr (.inl rfl)|exact Or.inr (.inr rfl)) (by decide) (by decide)) (fun _ _=>rfl)) zae (zay _)))) (fun _ _ _ _ _=>(@zaA _ _ _ _ _ (@zaa _ _ _ _ _ (@pv _ 0 _ _ (by rfl) (by first|exact Or.inl rfl|exact Or.inr (.inl rfl)|exact Or.inr (.inr rfl)) (by decide) (by decide)) (@zaa _ _ _ _ _ (zeb P w rfl rfl hr.u3 (@pv _ 1 _ _ (by rfl) (by first|exact Or.inl rfl|exact Or.inr (.inl rfl)|exact Or.inr (.inr rfl)) (by decide) (by decide)) (@pv _ 0 _ _ (by rfl) (by first|exact Or.inl rfl|exact Or.inr (.inl rfl)|exact Or.inr (.inr rfl)) (by decide) (by decide)) (fun _ _=>rfl)) zab (by rfl)) (by rfl)))) (by intro _;rfl)) zab (by rfl)) (by decide) (by decide) (by rfl) (by rfl)))))),?_⟩
 have ql:=sa.grs.len
 refine fun d hd=>?_
 have s1:=zad hd (DN P w d [])
 refine⟨_,rfl,sc,_,_,_,rfl,rfl,SqT.of (s1 _ _ sa.sc),rfl,gr,rfl,⟨_,SqT.of (s1 _ _ sa.gr)⟩,?_⟩
 refine ziw (K:=K) (a:=gr) (xs:=qs) (fun i σ H2=>(∃ v2 v3 v4,σ=[some (.ref sc),some (.ref d),v2,v3,v4])∧Same H H2∧∃ xs,H2 d=some (DN P w d xs)∧KsIn H2 xs∧SumD (gs.take i) xs) ⟨⟨_,_,_,rfl⟩,s1,[],za4 hd _,fun x hx=>(nomatch hx),SumD.nil⟩ (fun i σ H2 _ z=>SqT.of (z.2.1 _ _ sa.gr)) ?_ ?_
 ·rintro i x σ H2 hx ⟨⟨v2,v3,v4,rfl⟩,s2,xs,h2,ks,D⟩
  obtain⟨a,g,rfl,eg,ha⟩:=(sa.grs.tups (Tups.of s2)).get hx
  have ig:i<gs.length:=(List.getElem?_eq_some_iff.mp eg).1
  have tk:gs.take (i+1)=gs.take i++[g]:=by rw[List.take_succ_eq_append_getElem ig,(List.getElem?_eq_some_iff.mp eg).2]
  have xl:=D.few
  rw[List.length_take]at xl
  refine⟨a,_,rfl,SqT.of ha,rfl,_,_,rfl,_,_,rfl,_,_,rfl,rfl,?_⟩
  refine⟨_,rfl,d,rfl,⟨xs,.inl h2⟩,_,rfl,_,rfl,(by show 2≤sizeLine;decide),fun t ht=>?_⟩
  have s3:=zad ht (.tup [.int (g.lane:Nat),.int (g.fork:Nat)])
  have ks3:=ks.tups (Tups.of s3)
  refine⟨t,xs,keyG (g.lane,g.fork),rfl,⟨.inl (s3 _ _ h2),ks3⟩,zfI (za4 ht _),_,rfl,_,_,D.get _,rfl,?_⟩
  refine⟨_,rfl,_,rfl,_,rfl,(by show 2≤sizeLine;decide),fun t2 ht2=>?_⟩
  have s4:=zad ht2 (.tup [.int (g.lane:Nat),.int (g.fork:Nat)])
  have ks4:=ks3.tups (Tups.of s4)
  have h4:=s4 _ _ (s3 _ _ h2)
  have k4:NKey _ (keyG (g.lane,g.fork)) t2:=zfI (za4 ht2 (.tup [.int (g.lane:Nat),.int (g.fork:Nat)]))
  have nt:∀ {o:HO},Tups (L2.upd (L2.upd H2 t (.tup [.int (g.lane:Nat),.int (g.fork:Nat)])) t2 (.tup [.int (g.lane:Nat),.int (g.fork:Nat)])) (L2.upd (L2.upd (L2.upd H2 t (.tup [.int (g.lane:Nat),.int (g.fork:Nat)])) t2 (.tup [.int (g.lane:Nat),.int (g.fork:Nat)])) d o):=fun {o} c ys e=>by
   rw[zaj (fun z=>by rw[z,h4]at e;cases e)];exact e
  refine⟨d,t2,xs,_,rfl,rfl,h4,ks4,k4,Nat.lt_of_le_of_lt (show _≤1000 by lia) (by decide),⟨_,_,_,rfl⟩,fun b o e=>?_,_,zac,(ks4.tups nt).put (k4.tups nt),?_⟩
  ·rw[zaj (zai e hd)];exact s4 _ _ (s3 _ _ (s2 b o e))
  ·rw[tk];exact D.put g t2
 ·rintro σ H2 ⟨⟨v2,v3,v4,rfl⟩,s2,xs,h2,ks,D⟩
  rw[ql,List.take_length]at D
  have xl:=D.few
  refine⟨_,rfl,d,xs,rfl,h2,fun o l hl=>?_⟩
  have tf:Tups H2 (L2.upd H2 d (.frz o (DN P w d xs))):=fun c ys e=>by
   rw[zaj (fun z=>by rw[z,h2]at e;cases e)];exact e
  have sf:Same H (L2.upd H2 d (.frz o (DN P w d xs))):=fun b u e=>by rw[zaj (zai e hd)];exact s2 b u e
  have sl:=zad hl (.lst [])
  have ndl:d≠l:=fun z=>by
   rw[← z,zac]at hl;cases hl
  refine zjY (P:=P) (w:=w) (d:=d) (o:=o) (xs:=xs) (fun i acc σ H4=>(∃ v0,σ=[v0,some (.ref d)])∧Same H H4∧Tups H2 H4∧H4 l=some (.lst acc)∧H4 d=some (.frz o (DN P w d xs))∧Paired (EntAt H4) acc (zaS gs (xs.take i))) ⟨⟨_,rfl⟩,sf.trans sl,tf.trans (Tups.of sl),za4 hl _,sl _ _ zac,.nil⟩ (fun i acc σ H4 z=>⟨z.2.2.2.1,z.2.2.2.2.1⟩) ?_ ?_
  ·rintro i acc σ H4 p hp ⟨⟨v0,rfl⟩,s4,t4,h4,h4d,pr⟩
   have il:i<xs.length:=(List.getElem?_eq_some_iff.mp hp).1
   have pm:=List.mem_of_getElem? hp
   obtain⟨κ,ek⟩:=D.form p pm
   have ks4:=ks.tups t4
   have kp:NKey H4 (keyG κ) p.2.1:=ek ▸ ks4 p pm
   have tk:xs.take (i+1)=xs.take i++[p]:=by rw[List.take_succ_eq_append_getElem il,(List.getElem?_eq_some_iff.mp hp).2]
   have hv:valN xs (keyG κ)=some (.int (zaG gs κ)):=by
    rcases D.has κ with ⟨e,_⟩|e
    ·have:=zcq.mpr (List.mem_map.mpr ⟨p,pm,rfl⟩)
     rw[ek,e]at this;cases this
    ·exact e
   have al:=Paired.length pr
   have el:(zaS gs (xs.take i)).length≤i:=by
    unfold zaS
    refine Nat.le_trans (List.length_filter_le _ _) ?_
    rw[List.length_map,List.length_take];lia
   have ko:zbL p.1=κ:=by rw[ek,zcO]
   refine⟨_,rfl,_,rfl,d,p.2.1,xs,keyG κ,_,rfl,rfl,⟨.inr ⟨o,h4d⟩,ks4⟩,kp,hv,rfl,_,rfl,ite2 (fun y=>?_) (fun y=>?_)⟩
   ·have nz:zaG gs κ≠0:=fun z=>by
     rw[z]at y;exact absurd y (by decide)
    refine⟨_,rfl,_,rfl,_,rfl,d,p.2.1,xs,keyG κ,_,rfl,rfl,⟨.inr ⟨o,h4d⟩,ks4⟩,kp,hv,(by show 2≤sizeLine;decide),fun t ht=>?_⟩
    have s5:=zad ht (.tup [.ref p.2.1,.int (zaG gs κ)])
    have h5:=s5 _ _ h4
    have t5:Tups _ (L2.upd (L2.upd H4 t (.tup [.ref p.2.1,.int (zaG gs κ)])) l (.lst (acc++[.ref t]))):=Tups.lst h5
    refine⟨h5,Nat.lt_of_le_of_lt (show _≤1000 by lia) (by decide),nx il ⟨⟨_,rfl⟩,fun b u e=>?_,(t4.trans (Tups.of s5)).trans t5,zac,?_,?_⟩⟩
    ·rw[zaj (fun z=>by subst z;exact absurd ((sf _ _ e).symm.trans hl) (fun y=>by cases y))];exact s5 _ _ (s4 b u e)
    ·rw[zaj ndl];exact s5 _ _ h4d
    ·rw[tk,zb2,ko,if_pos nz]
     refine zeu (zbX (fun _ _ z=>z.tups ((Tups.of s5).trans t5)) pr) (.cons ⟨t,p.2.1,rfl,t5 _ _ (za4 ht _),?_⟩ .nil)
     exact t5 _ _ (s5 _ _ (ziI kp))
   ·have z0:zaG gs κ=0:=by
     apply Classical.byContradiction
     intro nz
     refine y ?_
     show (!decide (V.int (zaG gs κ)=V.int 0))=true
     rw[decide_eq_false fun z=>nz (V.int.inj z)];rfl
    refine nx il ⟨⟨_,rfl⟩,s4,t4,h4,h4d,?_⟩
    rw[tk,zb2,ko,if_neg (fun nz=>nz z0),List.append_nil];exact pr
  ·rintro acc σ H4 ⟨_,s4,t4,h4,h4d,pr⟩
   rw[List.take_length]at pr
   have al:=Paired.length pr
   have el:(zaS gs xs).length≤xs.length:=by
    unfold zaS
    refine Nat.le_trans (List.length_filter_le _ _) ?_
    rw[List.length_map];exact Nat.le_refl _
   have low:∀ e∈zaS gs xs,e.1.2<1000:=fun e he=>by
    have q:=(D.mem e).mp he
    apply Classical.byContradiction
    intro z
    refine q.2 (q.1.symm.trans ?_)
    unfold zaG
    rw[show (gs.map fun g=>if (g.lane,g.fork)=e.1 then g.many else 0)=gs.map fun _=>0 from List.map_congr_left fun g hg=>if_neg fun y=>z (by rw[← y];exact gf g hg)]
    exact zd1 gs
   have uq:∀ a∈zaS gs xs,∀ b∈zaS gs xs,a.1=b.1→a.2=b.2:=fun a ha b hb e=>by
    rw[← ((D.mem a).mp ha).1,← ((D.mem b).mp hb).1,e]
   refine⟨l,acc,_,rfl,SqL.of h4,by lia,ziz pr uq low,fun l2 ys hl2 pm up=>?_⟩
   obtain⟨es,pe,pp⟩:=zfV pm pr
   have s5:=zad hl2 (.lst ys)
   exact k l2 es _ (s4.trans s5) (zgl D pp (ziy pe up) fun e he=>low e (pp.mem_iff.mp he)) (ziC (zbX (fun _ _ z=>z.tups (Tups.of s5)) pe) (za4 hl2 _))
end
abbrev zhP:Stmt:=top 40
abbrev sPtd:Stmt:=top 41
def zeT:Sp:=fun vs H Q _=>∃ r fr er ps N sc tr gr ou qs ts gs os,∃ (j k:Nat) (g h:Grp),vs=[.ref r,.ref sc,.int (j:Nat),.int (k:Nat)]∧Nt.Ok N∧NetAt H r fr er ps N∧SceneAt H sc tr gr ou qs ts gs os∧ScOk N ts gs os∧gs.length≤800∧j<k∧gs[j]?=some g∧gs[k]?=some h ∧
 ∀ p sa ta ga oa qa sb tb gb ob qb ts' os' gsA gsB H',Same H H'→SceneAt H' sa ta ga oa qa ts' gsA os'→SceneAt H' sb tb gb ob qb ts' gsB os'→ScOk N ts' gsA os'→ScOk N ts' gsB os'→gsA.length≤802→gsB.length≤802→(∀ κ,zaG gsA κ=zaG gsB κ)→(g.fork≠h.fork→gsA=gsB)→H' p=some (.tup [.ref sa,.ref sb])→Q (.ref p) H'
def zhx:Sp:=fun vs H Q _=>∃ r fr er ps N sc tr gr ou qs ts gs os,∃ (lane:Nat) (m n:Int),vs=[.ref r,.ref sc,.int (lane:Nat),.int m,.int n]∧Nt.Ok N∧NetAt H r fr er ps N∧SceneAt H sc tr gr ou qs ts gs os∧ScOk N ts gs os∧gs.length≤800∧lane<N.lanes∧m≠0∧n≠0∧m+n≠0∧-(10 ^ 29)<m∧m<10 ^ 29∧-(10 ^ 29)<n∧n<10 ^ 29∧∀ H',Same H H'→Q (.bl true) H'
theorem zbN {H:Hp}{p tr ou l:Addr}{ts os:List Int}{d:PyData}(h:H p=some (.tup [.ref tr,.ref ou,.ref l])) (h1:H tr=some (.tup (ts.map V.int))) (h2:H ou=some (.tup (os.map V.int))) (h3:DD H 3 (.ref l) d):DD H 4 (.ref p) (.tuple [.tuple (ts.map PyData.int),.tuple (os.map PyData.int),d]):=by
 refine DD.tup h rfl fun j u e p q=>?_
 match j,p,q with
 | 0,p,q=>obtain rfl:=Option.some.inj p;obtain rfl:=Option.some.inj q;exact zfZ h1
 | 1,p,q=>obtain rfl:=Option.some.inj p;obtain rfl:=Option.some.inj q;exact zfZ h2
 | 2,p,q=>obtain rfl:=Option.some.inj p;obtain rfl:=Option.some.inj q;exact h3
 | j+3,p,q=>simp at p
theorem zd5 {N:Nt}(ok:N.Ok) {ts os:List Int}{gs:List Grp}(h:ScOk N ts gs os):∀ g∈gs,g.fork<1000:=fun g hg=>by
 have:=(h.gk g hg).2
 have:=ok.fm
 lia
theorem ziG {N:Nt}(ok:N.Ok) {ts os ts1 ts2 ts12 ts21 os1 os2 os12 os21:List Int}{A B C gs1 gs2 gs12 gs21:List Grp}{g h:Grp}{q:Nat}(sk:ScOk N ts (A++g::(B++h::C)) os)
  (a1:StepTo N (A.length+1+B.length) ts (A++g::(B++h::C)) os ts1 gs1 os1) (a2:StepTo N A.length ts1 gs1 os1 ts12 gs12 os12) (b1:StepTo N A.length ts (A++g::(B++h::C)) os ts2 gs2 os2) (eq:q+(A++g::(B++h::C)).length=A.length+1+B.length+gs2.length) (b2:StepTo N q ts2 gs2 os2 ts21 gs21 os21) :
  ts21=ts12∧os21=os12∧(∀ κ,zaG gs21 κ=zaG gs12 κ)∧(g.fork≠h.fork→gs21=gs12):=by
 obtain⟨gl,_⟩:=sk.gk g (by simp)
 obtain⟨hl,_⟩:=sk.gk h (by simp)
 have e1:A++g::(B++h::C)=(A++g::B)++h::C:=by simp
 obtain⟨mg,rb1,rfl⟩:=zbU rfl b1
 rw[e1]at a1
 obtain⟨mh,ra1,rfl⟩:=zbU (by rw[List.length_append,List.length_cons];lia) a1
 have e2:A++g::B++mh++C=A++g::(B++mh++C):=by simp
 rw[e2]at a2
 obtain⟨mg',ra2,rfl⟩:=zbU rfl a2
 have e3:A++mg++(B++h::C)=(A++mg++B)++h::C:=by simp
 have ql:(A++mg++B).length=q:=by
  rw[List.length_append,List.length_cons,List.length_append,List.length_cons,List.length_append,List.length_append,List.length_append,List.length_cons]at eq
  rw[List.length_append,List.length_append]
  lia
 rw[e3]at b2
 obtain⟨mh',rb2,rfl⟩:=zbU ql b2
 obtain⟨q1,q2,q3,q4⟩:=zga ok sk.tl sk.tb sk.ol gl hl ra1 ra2 rb1 rb2
 refine⟨q1,q2,fun κ=>?_,fun n=>?_⟩
 ·have:=q3 κ
  rw[zaw]at this
  rw[zaw]at this
  rw[zaw,zaw,zaw,zaw,zaw,zaw,zaw,zaw]
  lia
 ·obtain⟨w1,w2⟩:=q4 n
  rw[w1,w2];simp
section
variable {P:Program}{w:World}{K:PySem.W.Frag}{mg:Str→Option Value}{base:Heap}
theorem scBo:FnScope ["_law_net_here","_law_scene_here","_law_j","_law_k","_law_later","_law_one","_law_more_groups"] ["_law_net_here","_law_scene_here","_law_j","_law_k"] (zak zhP):=⟨rfl,rfl,rfl,by decide +kernel,rfl,by decide +kernel,by decide +kernel⟩
theorem zif {f fD:Addr}{fd dD:FuncData}(F:Fun K "_law_both" "_law_both" zhP f fd) (G:Mgs mg) (UDo:Use P w K mg base "done" ["net","scene","deed"] 5 zd3 fD dD):FnOk P w K mg base CX0 6 f fd ["_law_net_here","_law_scene_here","_law_j","_law_k"] zeT:=by
 refine F.ok scBo (fun vs H Q E h=>?_) (fun cdv A outer s H vs Q E hr h=>?_)
 ·obtain⟨r,fr,er,ps,N,sc,tr,gr,ou,qs,ts,gs,os,j,k,g,h,rfl,_⟩:=h
  rfl
 obtain⟨r,fr,er,ps,N,sc,tr,gr,ou,qs,ts,gs,os,j,k,g,h,rfl,ok,na,sa,sk,gl,jk,eg,eh,fin⟩:=h
 refine⟨_,(@zaf _ _ _ _ _ (@zaz _ _ 4 _ _ _ _ scBo.nd rfl (.inl rfl) (@zag _ _ _ _ _ _ _ _ _ _ _ _ _ _ _ _ UDo.ok hr (by rfl) UDo.m UDo.kp UDo.b .nil zat (@zaa _ _ _ _ _ (@pv _ 0 _ _ (by rfl) (by first|exact Or.inl rfl|exact Or.inr (.inl rfl)|exact Or.inr (.inr rfl)) (by decide) (by decide)) (@zaa _ _ _ _ _ (@zag _ _ _ _ _ _ _ _ _ _ _ _ _ _ _ _ UDo.ok hr (by rfl) UDo.m UDo.kp UDo.b .nil zat (@zaa _ _ _ _ _ (@pv _ 0 _ _ (by rfl) (by first|exact Or.inl rfl|exact Or.inr (.inl rfl)|exact Or.inr (.inr rfl)) (by decide) (by decide)) (@zaa _ _ _ _ _ (@pv _ 1 _ _ (by rfl) (by first|exact Or.inl rfl|exact Or.inr (.inl rfl)|exact Or.inr (.inr rfl)) (by decide) (by decide)) (@zaa _ _ _ _ _ (@zaA _ _ _ _ _ (@zaa _ _ _ _ _ zax (@zaa _ _ _ _ _ (@pv _ 3 _ _ (by rfl) (by first|exact Or.inl rfl|exact Or.inr (.inl rfl)|exact Or.inr (.inr rfl)) (by decide) (by decide)) zab (by rfl)) (by rfl))) zab (by rfl)) (by rfl)) (by rfl)) (by decide) (by rfl) (by rfl)) (@zaa _ _ _ _ _ (@zaA _ _ _ _ _ (@zaa _ _ _ _ _ zax (@zaa _ _ _ _ _ (@pv _ 2 _ _ (by rfl) (by first|exact Or.inl rfl|exact Or.inr (.inl rfl)|exact Or.inr (.inr rfl)) (by decide) (by decide)) zab (by rfl)) (by rfl))) zab (by rfl)) (by rfl)) (by rfl)) (by decide) (by rfl) (by rfl)) (by rfl) (by first|exact .inl rfl|exact .inr rfl|assumption)) (@zaf _ _ _ _ _ (@zaz _ _ 5 _ _ _ _ scBo.nd rfl (.inl rfl) (@zag _ _ _ _ _ _ _ _ _ _ _ _ _ _ _ _ UDo.ok hr (by rfl) UDo.m UDo.kp UDo.b .nil zat (@zaa _ _ _ _ _ (@pv _ 0 _ _ (by rfl) (by first|exact Or.inl rfl|exact Or.inr (.inl rfl)|exact Or.inr (.inr rfl)) (by decide) (by decide)) (@zaa _ _ _ _ _ (@pv _ 1 _ _ (by rfl) (by first|exact Or.inl rfl|exact Or.inr (.inl rfl)|exact Or.inr (.inr rfl)) (by decide) (by decide)) (@zaa _ _ _ _ _ (@zaA _ _ _ _ _ (@zaa _ _ _ _ _ zax (@zaa _ _ _ _ _ (@pv _ 2 _ _ (by rfl) (by first|exact Or.inl rfl|exact Or.inr (.inl rfl)|exact Or.inr (.inr rfl)) (by decide) (by decide)) zab (by rfl)) (by rfl))) zab (by rfl)) (by rfl)) (by rfl)) (by decide) (by rfl) (by rfl)) (by rfl) (by first|exact .inl rfl|exact .inr rfl|assumption)) (@zaf _ _ _ _ _ (@zaz _ _ 6 _ _ _ _ scBo.nd rfl (.inl rfl) (@zas _ _ _ _ _ _ _ _ zcd (@zar _ _ _ _ _ _ _ _ _ zao (by rfl) G.len PySem.boot_len (@zaa _ _ _ _ _ (@zaq _ _ _ _ _ _ _ zam (@pv _ 5 _ _ (by rfl) (by first|exact Or.inl rfl|exact Or.inr (.inl rfl)|exact Or.inr (.inr rfl)) (by decide) (by decide)) zae (fun _ _=>rfl)) zab (by rfl)) (by decide) (by decide) (by rfl) (by rfl)) (@zar _ _ _ _ _ _ _ _ _ zao (by rfl) G.len PySem.boot_len (@zaa _ _ _ _ _ (@zaq _ _ _ _ _ _ _ zam (@pv _ 1 _ _ (by rfl) (by first|exact Or.inl rfl|exact Or.inr (.inl rfl)|exact Or.inr (.inr rfl)) (by decide) (by decide)) zae (fun _ _=>rfl)) zab (by rfl)) (by decide) (by decide) (by rfl) (by rfl))) (by rfl) (by first|exact .inl rfl|exact .inr rfl|assumption)) (@zah _ _ _ (@zav _ _ _ _ (@zaA _ _ _ _ _ (@zaa _ _ _ _ _ (@zag _ _ _ _ _ _ _ _ _ _ _ _ _ _ _ _ UDo.ok hr (by rfl) UDo.m UDo.kp UDo.b .nil zat (@zaa _ _ _ _ _ (@pv _ 0 _ _ (by rfl) (by first|exact Or.inl rfl|exact Or.inr (.inl rfl)|exact Or.inr (.inr rfl)) (by decide) (by decide)) (@zaa _ _ _ _ _ (@pv _ 5 _ _ (by rfl) (by first|exact Or.inl rfl|exact Or.inr (.inl rfl)|exact Or.inr (.inr rfl)) (by decide) (by decide)) (@zaa _ _ _ _ _ (@zaA _ _ _ _ _ (@zaa _ _ _ _ _ zax (@zaa _ _ _ _ _ (@zas _ _ _ _ _ _ _ _ zaB (@pv _ 3 _ _ (by rfl) (by first|exact Or.inl rfl|exact Or.inr (.inl rfl)|exact Or.inr (.inr rfl)) (by decide) (by decide)) (@pv _ 6 _ _ (by rfl) (by first|exact Or.inl rfl|exact Or.inr (.inl rfl)|exact Or.inr (.inr rfl)) (by decide) (by decide))) zab (by rfl)) (by rfl))) zab (by rfl)) (by rfl)) (by rfl)) (by decide) (by rfl) (by rfl)) (@zaa _ _ _ _ _ (@pv _ 4 _ _ (by rfl) (by first|exact Or.inl rfl|exact Or.inr (.inl rfl)|exact Or.inr (.inr rfl)) (by decide) (by decide)) zab (by rfl)) (by rfl)))))))),?_⟩
 obtain⟨LA,LB,LC,rfl,lA,lB⟩:=zhd jk eg eh
 subst lA lB
 have ga:=sa.grs.len
 have dk1:DeedOk N (LA++g::(LB++h::LC)) (.step (LA.length+1+LB.length)):=(List.getElem?_eq_some_iff.mp eh).1
 have dk2:DeedOk N (LA++g::(LB++h::LC)) (.step LA.length):=(List.getElem?_eq_some_iff.mp eg).1
 refine⟨_,rfl,_,rfl,_,rfl,_,rfl,(by show 2≤sizeLine;decide),fun t1 ht1=>?_⟩
 have s1:=zad ht1 (.tup [.str "step",.int ((LA.length+1+LB.length:Nat):Int)])
 refine⟨r,fr,er,ps,N,sc,tr,gr,ou,qs,ts,_,os,t1,.step (LA.length+1+LB.length),rfl,ok,na.tups (Tups.of s1),sa.tups (Tups.of s1),sk,by lia,za4 ht1 _,dk1,fun sc1 tr1 gr1 ou1 qs1 ts1 gs1 os1 H1 dt1 u1 sa1=>?_⟩
 obtain⟨sk1,gl1⟩:=dt1.ok ok sk dk1
 have v1:=s1.trans u1
 obtain⟨mh,_,eg1⟩:=zbU (place:=LA.length+1+LB.length) (A:=LA++g::LB) (B:=LC) (g:=h) (by rw[List.length_append,List.length_cons];lia) (by rw[show LA++g::LB++h::LC=LA++g::(LB++h::LC) by simp];exact dt1)
 have dk3:DeedOk N gs1 (.step LA.length):=by
  show LA.length<gs1.length
  rw[eg1,List.length_append,List.length_append,List.length_append,List.length_cons];lia
 refine⟨_,rfl,(by show 2≤sizeLine;decide),fun t2 ht2=>?_⟩
 have s2:=zad ht2 (.tup [.str "step",.int ((LA.length:Nat):Int)])
 refine⟨r,fr,er,ps,N,sc1,tr1,gr1,ou1,qs1,ts1,gs1,os1,t2,.step LA.length,rfl,ok,na.tups (Tups.of (v1.trans s2)),sa1.tups (Tups.of s2),sk1,by lia,za4 ht2 _,dk3,fun sc2 tr2 gr2 ou2 qs2 ts12 gs12 os12 H2 dt12 u2 sa2=>?_⟩
 obtain⟨sk12,gl12⟩:=dt12.ok ok sk1 dk3
 have v2:=(v1.trans s2).trans u2
 refine⟨_,rfl,_,rfl,_,rfl,(by show 2≤sizeLine;decide),fun t3 ht3=>?_⟩
 have s3:=zad ht3 (.tup [.str "step",.int ((LA.length:Nat):Int)])
 have v3:=v2.trans s3
 refine⟨r,fr,er,ps,N,sc,tr,gr,ou,qs,ts,_,os,t3,.step LA.length,rfl,ok,na.tups (Tups.of v3),sa.tups (Tups.of v3),sk,by lia,za4 ht3 _,dk2,fun sc3 tr3 gr3 ou3 qs3 ts2 gs2 os2 H3 dt2 u3 sa3=>?_⟩
 obtain⟨sk2,gl2⟩:=dt2.ok ok sk dk2
 have v4:=v3.trans u3
 have ga3:=sa3.grs.len
 refine⟨_,rfl,sc3,_,_,_,rfl,rfl,SqT.of sa3.sc,rfl,gr3,qs3,rfl,.inr (SqT.of sa3.gr),_,rfl,sc,_,_,_,rfl,rfl,SqT.of (v4 _ _ sa.sc),rfl,gr,qs,rfl,.inr (SqT.of (v4 _ _ sa.gr)),_,_,rfl,rfl,?_⟩
 obtain⟨mg,_,eg2⟩:=zbU (A:=LA) (B:=LB++h::LC) (g:=g) rfl dt2
 have gl0:(LA++g::(LB++h::LC)).length=LA.length+1+LB.length+1+LC.length:=by rw[List.length_append,List.length_cons,List.length_append,List.length_cons];lia
 have ge2:gs2.length=LA.length+mg.length+LB.length+1+LC.length:=by rw[eg2,List.length_append,List.length_append,List.length_append,List.length_cons];lia
 have eq:(((LA.length+1+LB.length:Nat):Int)+(((qs3.length:Nat):Int)-((qs.length:Nat):Int)))=((LA.length+mg.length+LB.length:Nat):Int):=by lia
 have dk4:DeedOk N gs2 (.step (LA.length+mg.length+LB.length)):=by
  show _<gs2.length
  lia
 refine⟨_,rfl,_,rfl,_,rfl,_,rfl,_,_,rfl,rfl,(by show 2≤sizeLine;decide),fun t4 ht4=>?_⟩
 have s4:=zad ht4 (.tup [.str "step",.int (((LA.length+1+LB.length:Nat):Int)+(((qs3.length:Nat):Int)-((qs.length:Nat):Int)))])
 have v5:=v4.trans s4
 have h4:=za4 ht4 (.tup [.str "step",.int (((LA.length+1+LB.length:Nat):Int)+(((qs3.length:Nat):Int)-((qs.length:Nat):Int)))])
 refine⟨r,fr,er,ps,N,sc3,tr3,gr3,ou3,qs3,ts2,gs2,os2,t4,.step (LA.length+mg.length+LB.length),rfl,ok,na.tups (Tups.of v5),sa3.tups (Tups.of s4),sk2,by lia,by show L2.upd H3 t4 _ t4=some (.tup [.str "step",.int ((LA.length+mg.length+LB.length:Nat):Int)]);rw[← eq];exact h4,dk4,fun sc4 tr4 gr4 ou4 qs4 ts21 gs21 os21 H5 dt21 u5 sa5=>?_⟩
 obtain⟨sk21,gl21⟩:=dt21.ok ok sk2 dk4
 refine⟨_,rfl,(by show 2≤sizeLine;decide),fun p hp=>?_⟩
 have s6:=zad hp (.tup [.ref sc4,.ref sc2])
 have v6:=(v5.trans u5).trans s6
 obtain⟨rfl,rfl,sums,same⟩:=ziG ok sk dt1 dt12 dt2 (by lia) dt21
 refine fin p sc4 tr4 gr4 ou4 qs4 sc2 tr2 gr2 ou2 qs2 _ _ gs21 gs12 _ v6 (sa5.tups (Tups.of s6)) (sa2.tups (Tups.of (((s3.trans u3).trans (s4.trans u5)).trans s6))) sk21 sk12 (by lia) (by lia) sums same (za4 hp _)
theorem zcC {N:Nt}{ts os ts' os':List Int}{gs gs':List Grp}{g:Grp}(h:StepTo N gs.length ts (gs++[g]) os ts' gs' os'):∃ ms,Res N ts os g ts' ms os'∧gs'=gs++ms:=by
 obtain⟨ms,r,e⟩:=zbU (A:=gs) (B:=[]) (g:=g) rfl h
 exact⟨ms,r,by rw[e,List.append_nil]⟩
theorem zfb {N:Nt}{ts os:List Int}{gs:List Grp}{m:Int}{lane k:Nat}(sk:ScOk N ts gs os) (ll:lane<N.lanes) (hk:IsNext N.forks lane 0 k):ScOk N ts (gs++[⟨m,lane,k⟩]) os:=⟨sk.tl,sk.tb,sk.ol,fun g hg=>by
 rcases zaZ hg with z|z
 ·exact sk.gk g z
 ·rw[List.mem_singleton.mp z];exact⟨ll,hk.upto⟩⟩
theorem scPt:FnScope ["_law_net_here","_law_scene_here","_law_lane","_law_many_here","_law_more","_law_whole","_law_first","_law_second"] ["_law_net_here","_law_scene_here","_law_lane","_law_many_here","_law_more"] (zak sPtd):=⟨rfl,rfl,rfl,by decide +kernel,rfl,by decide +kernel,by decide +kernel⟩
theorem zja {f fD fS:Addr}{fd dD dS:FuncData}(F:Fun K "_law_parted" "_law_parted" sPtd f fd) (G:Mgs mg) (UDo:Use P w K mg base "done" ["net","scene","deed"] 5 zd3 fD dD) (US:Use P w K mg base "_law_stood" ["_law_scene_here"] 1 zcs fS dS):FnOk P w K mg base CX0 6 f fd ["_law_net_here","_law_scene_here","_law_lane","_law_many_here","_law_more"] zhx:=by
 refine F.ok scPt (fun vs H Q E h=>?_) (fun cdv A outer s H vs Q E hr h=>?_)
 ·obtain⟨r,fr,er,ps,N,sc,tr,gr,ou,qs,ts,gs,os,lane,m,n,rfl,_⟩:=h
  rfl
 obtain⟨r,fr,er,ps,N,sc,tr,gr,ou,qs,ts,gs,os,lane,m,n,rfl,ok,na,sa,sk,gl,ll,m0,n0,mn,m1,m2,n1,n2,fin⟩:=h
 have hr1:Room 1 _:=hr.mono (by decide)
 refine⟨_,(@zaf _ _ _ _ _ (@zaz _ _ 5 _ _ _ _ scPt.nd rfl (.inl rfl) (@zag _ _ _ _ _ _ _ _ _ _ _ _ _ _ _ _ UDo.ok hr (by rfl) UDo.m UDo.kp UDo.b .nil zat (@zaa _ _ _ _ _ (@pv _ 0 _ _ (by rfl) (by first|exact Or.inl rfl|exact Or.inr (.inl rfl)|exact Or.inr (.inr rfl)) (by decide) (by decide)) (@zaa _ _ _ _ _ (@zag _ _ _ _ _ _ _ _ _ _ _ _ _ _ _ _ UDo.ok hr (by rfl) UDo.m UDo.kp UDo.b .nil zat (@zaa _ _ _ _ _ (@pv _ 0 _ _ (by rfl) (by first|exact Or.inl rfl|exact Or.inr (.inl rfl)|exact Or.inr (.inr rfl)) (by decide) (by decide)) (@zaa _ _ _ _ _ (@pv _ 1 _ _ (by rfl) (by first|exact Or.inl rfl|exact Or.inr (.inl rfl)|exact Or.inr (.inr rfl)) (by decide) (by decide)) (@zaa _ _ _ _ _ (@zaA _ _ _ _ _ (@zaa _ _ _ _ _ zax (@zaa _ _ _ _ _ (@pv _ 2 _ _ (by rfl) (by first|exact Or.inl rfl|exact Or.inr (.inl rfl)|exact Or.inr (.inr rfl)) (by decide) (by decide)) (@zaa _ _ _ _ _ (@zas _ _ _ _ _ _ _ _ zaB (@pv _ 3 _ _ (by rfl) (by first|exact Or.inl rfl|exact Or.inr (.inl rfl)|exact Or.inr (.inr rfl)) (by decide) (by decide)) (@pv _ 4 _ _ (by rfl) (by first|exact Or.inl rfl|exact Or.inr (.inl rfl)|exact Or.inr (.inr rfl)) (by decide) (by decide))) zab (by rfl)) (by rfl)) (by rfl))) zab (by rfl)) (by rfl)) (by rfl)) (by decide) (by rfl) (by rfl)) (@zaa _ _ _ _ _ (@zaA _ _ _ _ _ (@zaa _ _ _ _ _ zax (@zaa _ _ _ _ _ (@zar _ _ _ _ _ _ _ _ _ zao (by rfl) G.len PySem.boot_len (@zaa _ _ _ _ _ (@zaq _ _ _ _ _ _ _ zam (@pv _ 1 _ _ (by rfl) (by first|exact Or.inl rfl|exact Or.inr (.inl rfl)|exact Or.inr (.inr rfl)) (by decide) (by decide)) zae (fun _ _=>rfl)) zab (by rfl)) (by decide) (by decide) (by rfl) (by rfl)) zab (by rfl)) (by rfl))) zab (by rfl)) (by rfl)) (by rfl)) (by decide) (by rfl) (by rfl)) (by rfl) (by first|exact .inl rfl|exact .inr rfl|assumption)) (@zaf _ _ _ _ _ (@zaz _ _ 6 _ _ _ _ scPt.nd rfl (.inl rfl) (@zag _ _ _ _ _ _ _ _ _ _ _ _ _ _ _ _ UDo.ok hr (by rfl) UDo.m UDo.kp UDo.b .nil zat (@zaa _ _ _ _ _ (@pv _ 0 _ _ (by rfl) (by first|exact Or.inl rfl|exact Or.inr (.inl rfl)|exact Or.inr (.inr rfl)) (by decide) (by decide)) (@zaa _ _ _ _ _ (@zag _ _ _ _ _ _ _ _ _ _ _ _ _ _ _ _ UDo.ok hr (by rfl) UDo.m UDo.kp UDo.b .nil zat (@zaa _ _ _ _ _ (@pv _ 0 _ _ (by rfl) (by first|exact Or.inl rfl|exact Or.inr (.inl rfl)|exact Or.inr (.inr rfl)) (by decide) (by decide)) (@zaa _ _ _ _ _ (@pv _ 1 _ _ (by rfl) (by first|exact Or.inl rfl|exact Or.inr (.inl rfl)|exact Or.inr (.inr rfl)) (by decide) (by decide)) (@zaa _ _ _ _ _ (@zaA _ _ _ _ _ (@zaa _ _ _ _ _ zax (@zaa _ _ _ _ _ (@pv _ 2 _ _ (by rfl) (by first|exact Or.inl rfl|exact Or.inr (.inl rfl)|exact Or.inr (.inr rfl)) (by decide) (by decide)) (@zaa _ _ _ _ _ (@pv _ 3 _ _ (by rfl) (by first|exact Or.inl rfl|exact Or.inr (.inl rfl)|exact Or.inr (.inr rfl)) (by decide) (by decide)) zab (by rfl)) (by rfl)) (by rfl))) zab (by rfl)) (by rfl)) (by rfl)) (by decide) (by rfl) (by rfl)) (@zaa _ _ _ _ _ (@zaA _ _ _ _ _ (@zaa _ _ _ _ _ zax (@zaa _ _ _ _ _ (@zar _ _ _ _ _ _ _ _ _ zao (by rfl) G.len PySem.boot_len (@zaa _ _ _ _ _ (@zaq _ _ _ _ _ _ _ zam (@pv _ 1 _ _ (by rfl) (by first|exact Or.inl rfl|exact Or.inr (.inl rfl)|exact Or.inr (.inr rfl)) (by decide) (by decide)) zae (fun _ _=>rfl)) zab (by rfl)) (by decide) (by decide) (by rfl) (by rfl)) zab (by rfl)) (by rfl))) zab (by rfl)) (by rfl)) (by rfl)) (by decide) (by rfl) (by rfl)) (by rfl) (by first|exact .inl rfl|exact .inr rfl|assumption)) (@zaf _ _ _ _ _ (@zaz _ _ 7 _ _ _ _ scPt.nd rfl (.inl rfl) (@zag _ _ _ _ _ _ _ _ _ _ _ _ _ _ _ _ UDo.ok hr (by rfl) UDo.m UDo.kp UDo.b .nil zat (@zaa _ _ _ _ _ (@pv _ 0 _ _ (by rfl) (by first|exact Or.inl rfl|exact Or.inr (.inl rfl)|exact Or.inr (.inr rfl)) (by decide) (by decide)) (@zaa _ _ _ _ _ (@zag _ _ _ _ _ _ _ _ _ _ _ _ _ _ _ _ UDo.ok hr (by rfl) UDo.m UDo.kp UDo.b .nil zat (@zaa _ _ _ _ _ (@pv _ 0 _ _ (by rfl) (by first|exact Or.inl rfl|exact Or.inr (.inl rfl)|exact Or.inr (.inr rfl)) (by decide) (by decide)) (@zaa _ _ _ _ _ (@pv _ 6 _ _ (by rfl) (by first|exact Or.inl rfl|exact Or.inr (.inl rfl)|exact Or.inr (.inr rfl)) (by decide) (by decide)) (@zaa _ _ _ _ _ (@zaA _ _ _ _ _ (@zaa _ _ _ _ _ zax (@zaa _ _ _ _ _ (@pv _ 2 _ _ (by rfl) (by first|exact Or.inl rfl|exact Or.inr (.inl rfl)|exact Or.inr (.inr rfl)) (by decide) (by decide)) (@zaa _ _ _ _ _ (@pv _ 4 _ _ (by rfl) (by first|exact Or.inl rfl|exact Or.inr (.inl rfl)|exact Or.inr (.inr rfl)) (by decide) (by decide)) zab (by rfl)) (by rfl)) (by rfl))) zab (by rfl)) (by rfl)) (by rfl)) (by decide) (by rfl) (by rfl)) (@zaa _ _ _ _ _ (@zaA _ _ _ _ _ (@zaa _ _ _ _ _ zax (@zaa _ _ _ _ _ (@zar _ _ _ _ _ _ _ _ _ zao (by rfl) G.len PySem.boot_len (@zaa _ _ _ _ _ (@zaq _ _ _ _ _ _ _ zam (@pv _ 6 _ _ (by rfl) (by first|exact Or.inl rfl|exact Or.inr (.inl rfl)|exact Or.inr (.inr rfl)) (by decide) (by decide)) zae (fun _ _=>rfl)) zab (by rfl)) (by decide) (by decide) (by rfl) (by rfl)) zab (by rfl)) (by rfl))) zab (by rfl)) (by rfl)) (by rfl)) (by decide) (by rfl) (by rfl)) (by rfl) (by first|exact .inl rfl|exact .inr rfl|assumption)) (@zah _ _ _ (@zav _ _ _ _ (@zbb _ _ _ _ _ _ _ _ (zi8 hr.units) (@zaA _ _ _ _ _ (@zaa _ _ _ _ _ (@zaq _ _ _ _ _ _ _ zam (@pv _ 5 _ _ (by rfl) (by first|exact Or.inl rfl|exact Or.inr (.inl rfl)|exact Or.inr (.inr rfl)) (by decide) (by decide)) zae (fun _ _=>rfl)) (@zaa _ _ _ _ _ (@zaq _ _ _ _ _ _ _ zam (@pv _ 5 _ _ (by rfl) (by first|exact Or.inl rfl|exact Or.inr (.inl rfl)|exact Or.inr (.inr rfl)) (by decide) (by decide)) zae (fun _ _=>rfl)) (@zaa _ _ _ _ _ (@zag _ _ _ _ _ _ _ _ _ _ _ _ _ _ _ _ US.ok hr1 (by rfl) US.m US.kp US.b .nil zat (@zaa _ _ _ _ _ (@pv _ 5 _ _ (by rfl) (by first|exact Or.inl rfl|exact Or.inr (.inl rfl)|exact Or.inr (.inr rfl)) (by decide) (by decide)) zab (by rfl)) (by decide) (by rfl) (by rfl)) zab (by rfl)) (by rfl)) (by rfl))) (@zaA _ _ _ _ _ (@zaa _ _ _ _ _ (@zaq _ _ _ _ _ _ _ zam (@pv _ 7 _ _ (by rfl) (by first|exact Or.inl rfl|exact Or.inr (.inl rfl)|exact Or.inr (.inr rfl)) (by decide) (by decide)) zae (fun _ _=>rfl)) (@zaa _ _ _ _ _ (@zaq _ _ _ _ _ _ _ zam (@pv _ 7 _ _ (by rfl) (by first|exact Or.inl rfl|exact Or.inr (.inl rfl)|exact Or.inr (.inr rfl)) (by decide) (by decide)) zae (fun _ _=>rfl)) (@zaa _ _ _ _ _ (@zag _ _ _ _ _ _ _ _ _ _ _ _ _ _ _ _ US.ok hr1 (by rfl) US.m US.kp US.b .nil zat (@zaa _ _ _ _ _ (@pv _ 7 _ _ (by rfl) (by first|exact Or.inl rfl|exact Or.inr (.inl rfl)|exact Or.inr (.inr rfl)) (by decide) (by decide)) zab (by rfl)) (by decide) (by rfl) (by rfl)) zab (by rfl)) (by rfl)) (by rfl))) (zay _))))))),?_⟩
 have ga:=sa.grs.len
 refine⟨_,rfl,_,rfl,_,rfl,_,rfl,_,rfl,_,rfl,_,_,rfl,rfl,(by show 3≤sizeLine;decide),fun t1 ht1=>?_⟩
 have s1:=zad ht1 (.tup [.str "put",.int (lane:Nat),.int (m+n)])
 refine⟨r,fr,er,ps,N,sc,tr,gr,ou,qs,ts,gs,os,t1,.put lane (m+n),rfl,ok,na.tups (Tups.of s1),sa.tups (Tups.of s1),sk,by lia,za4 ht1 _,⟨ll,mn,by lia,by lia⟩,fun sc1 tr1 gr1 ou1 qs1 ts1 gs1 os1 H1 dt1 u1 sa1=>?_⟩
 obtain⟨rfl,rfl,k1,hk1,rfl⟩:=dt1
 have v1:=s1.trans u1
 refine⟨_,rfl,sc,_,_,_,rfl,rfl,SqT.of (v1 _ _ sa.sc),rfl,gr,qs,rfl,.inr (SqT.of (v1 _ _ sa.gr)),(by show 2≤sizeLine;decide),fun t2 ht2=>?_⟩
 have s2:=zad ht2 (.tup [.str "step",.int ((qs.length:Nat):Int)])
 have dk2:DeedOk N (gs++[⟨m+n,lane,k1⟩]) (.step gs.length):=by show gs.length<_;rw[List.length_append];exact Nat.lt_succ_self _
 have sk1:=zfb (m:=m+n) sk ll hk1
 have l1:(gs++[(⟨m+n,lane,k1⟩:Grp)]).length=gs.length+1:=by rw[List.length_append];rfl
 refine⟨r,fr,er,ps,N,sc1,tr1,gr1,ou1,qs1,ts1,_,os1,t2,.step gs.length,rfl,ok,na.tups (Tups.of (v1.trans s2)),sa1.tups (Tups.of s2),sk1,by lia,by rw[← ga];exact za4 ht2 _,dk2,fun scW trW grW ouW qsW tsW gsW osW H2 dtW u2 saW=>?_⟩
 obtain⟨skW,glW⟩:=dtW.ok ok sk1 dk2
 obtain⟨mc,rc,eW⟩:=zcC dtW
 have v2:=(v1.trans s2).trans u2
 refine⟨_,rfl,_,rfl,_,rfl,_,rfl,_,rfl,(by show 3≤sizeLine;decide),fun t3 ht3=>?_⟩
 have s3:=zad ht3 (.tup [.str "put",.int (lane:Nat),.int m])
 have v3:=v2.trans s3
 refine⟨r,fr,er,ps,N,sc,tr,gr,ou,qs,ts1,gs,os1,t3,.put lane m,rfl,ok,na.tups (Tups.of v3),sa.tups (Tups.of v3),sk,by lia,za4 ht3 _,⟨ll,m0,by lia,by lia⟩,fun sc3 tr3 gr3 ou3 qs3 ts3 gs3 os3 H3 dt3 u3 sa3=>?_⟩
 obtain⟨rfl,rfl,k3,hk3,rfl⟩:=dt3
 have v4:=v3.trans u3
 refine⟨_,rfl,sc,_,_,_,rfl,rfl,SqT.of (v4 _ _ sa.sc),rfl,gr,qs,rfl,.inr (SqT.of (v4 _ _ sa.gr)),(by show 2≤sizeLine;decide),fun t4 ht4=>?_⟩
 have s4:=zad ht4 (.tup [.str "step",.int ((qs.length:Nat):Int)])
 have v5:=v4.trans s4
 have dk4:DeedOk N (gs++[⟨m,lane,k3⟩]) (.step gs.length):=by show gs.length<_;rw[List.length_append];exact Nat.lt_succ_self _
 have sk3:=zfb (m:=m) sk ll hk3
 have l3:(gs++[(⟨m,lane,k3⟩:Grp)]).length=gs.length+1:=by rw[List.length_append];rfl
 refine⟨r,fr,er,ps,N,sc3,tr3,gr3,ou3,qs3,ts3,_,os3,t4,.step gs.length,rfl,ok,na.tups (Tups.of v5),sa3.tups (Tups.of s4),sk3,by lia,by rw[← ga];exact za4 ht4 _,dk4,fun scF trF grF ouF qsF tsF gsF osF H4 dtF u4 saF=>?_⟩
 obtain⟨skF,glF⟩:=dtF.ok ok sk3 dk4
 obtain⟨ma,ra,eF⟩:=zcC dtF
 have v6:=v5.trans u4
 have gF:=saF.grs.len
 refine⟨_,rfl,_,rfl,_,rfl,_,rfl,_,rfl,(by show 3≤sizeLine;decide),fun t5 ht5=>?_⟩
 have s5:=zad ht5 (.tup [.str "put",.int (lane:Nat),.int n])
 have v7:=v6.trans s5
 refine⟨r,fr,er,ps,N,scF,trF,grF,ouF,qsF,tsF,gsF,osF,t5,.put lane n,rfl,ok,na.tups (Tups.of v7),saF.tups (Tups.of s5),skF,by lia,za4 ht5 _,⟨ll,n0,by lia,by lia⟩,fun sc5 tr5 gr5 ou5 qs5 ts5 gs5 os5 H5 dt5 u5 sa5=>?_⟩
 obtain⟨rfl,rfl,k5,hk5,rfl⟩:=dt5
 have w5:=s5.trans u5
 have v8:=v7.trans u5
 refine⟨_,rfl,scF,_,_,_,rfl,rfl,SqT.of (w5 _ _ saF.sc),rfl,grF,qsF,rfl,.inr (SqT.of (w5 _ _ saF.gr)),(by show 2≤sizeLine;decide),fun t6 ht6=>?_⟩
 have s6:=zad ht6 (.tup [.str "step",.int ((qsF.length:Nat):Int)])
 have v9:=v8.trans s6
 have dk6:DeedOk N (gsF++[⟨n,lane,k5⟩]) (.step gsF.length):=by show gsF.length<_;rw[List.length_append];exact Nat.lt_succ_self _
 have sk5:=zfb (m:=n) skF ll hk5
 have l5:(gsF++[(⟨n,lane,k5⟩:Grp)]).length=gsF.length+1:=by rw[List.length_append];rfl
 refine⟨r,fr,er,ps,N,sc5,tr5,gr5,ou5,qs5,ts5,_,os5,t6,.step gsF.length,rfl,ok,na.tups (Tups.of v9),sa5.tups (Tups.of s6),sk5,by lia,by rw[← gF];exact za4 ht6 _,dk6,fun scS trS grS ouS qsS tsS gsS osS H6 dtS u6 saS=>?_⟩
 obtain⟨skS,glS⟩:=dtS.ok ok sk5 dk6
 obtain⟨mb,rb,eS⟩:=zcC dtS
 obtain rfl:=hk3.one hk1
 obtain rfl:=hk5.one hk1
 obtain⟨q1,q2,q3⟩:=zdL ok sk.tl sk.tb sk.ol ll ra rb rc
 have v10:=v9.trans u6
 have vW:Same H2 H6:=((s3.trans u3).trans (s4.trans u4)).trans ((s5.trans u5).trans (s6.trans u6))
 have saW6:=saW.tups (Tups.of vW)
 refine⟨_,rfl,scW,_,_,_,rfl,rfl,SqT.of saW6.sc,rfl,_,rfl,scW,_,_,_,rfl,rfl,SqT.of saW6.sc,rfl,_,rfl,scW,trW,grW,ouW,qsW,tsW,gsW,osW,rfl,saW6,by lia,zd5 ok skW,fun lW eWs H7 s7 stW ddW=>⟨(by show 3≤sizeLine;decide),fun pW hpW=>?_⟩⟩
 have s8:=zad hpW (.tup [.ref trW,.ref ouW,.ref lW])
 have saS8:=saS.tups (Tups.of (s7.trans s8))
 refine⟨_,rfl,scS,_,_,_,rfl,rfl,SqT.of saS8.sc,rfl,_,rfl,scS,_,_,_,rfl,rfl,SqT.of saS8.sc,rfl,_,rfl,scS,trS,grS,ouS,qsS,tsS,gsS,osS,rfl,saS8,by lia,zd5 ok skS,fun lS eSs H9 s9 stS ddS=>⟨(by show 3≤sizeLine;decide),fun pS hpS=>?_⟩⟩
 have s10:=zad hpS (.tup [.ref trS,.ref ouS,.ref lS])
 have w9:=s9.trans s10
 have es:eWs=eSs:=stW.one stS fun κ=>by
  have:=q3 κ
  rw[eW,eS,eF,zaw,zaw,zaw]
  rw[zaw]at this
  lia
 have dW:DD _ 4 (.ref pW) _:=zbN (w9 _ _ (za4 hpW _)) ((s8.trans w9) _ _ (s7 _ _ saW6.tr)) ((s8.trans w9) _ _ (s7 _ _ saW6.ou)) (ddW.same (s8.trans w9))
 have dS:DD _ 4 (.ref pS) _:=zbN (za4 hpS (.tup [.ref trS,.ref ouS,.ref lS])) (w9 _ _ saS8.tr) (w9 _ _ saS8.ou) (ddS.same s10)
 refine⟨4,_,_,by decide,dW,dS,?_⟩
 rw[es,q1,q2]
 show Q (.bl (PyData.eqv _ _)) _
 rw[PySem.SeqAt.eqv_refl _ dS.ok.1]
 exact fin _ (((v10.trans s7).trans s8).trans w9)
end
end K21
namespace Bn
open PySem L2 Own
theorem zju {ps:List V}{x:V}(h:ps[ps.length-1]?=some x):atI ps (-1)=some x:=by
 have ne:ps≠[]:=by rintro rfl;simp at h
 have g:ps.getLast ne=x:=by rw[List.getLast_eq_getElem];exact(List.getElem?_eq_some_iff.mp h).2
 have e:ps=ps.dropLast++[x]:=by rw[← g];exact(List.dropLast_concat_getLast ne).symm
 rw[e];exact zha _ _
theorem zex {ys zs:List V}(h:ys.Perm zs):∀ l:List Nat,zs=nums l→∃ es:List Nat,ys=nums es∧es.Perm l:=by
 induction h with
 | nil=>intro l e;cases l with
  | nil=>exact⟨[],rfl,.nil⟩
  | cons a b=>cases e
 | cons x _ ih=>intro l e;cases l with
  | nil=>cases e
  | cons a b =>
   have e':x=.int a∧_=nums b:=List.cons.inj e
   obtain⟨es,e1,p1⟩:=ih b e'.2
   exact⟨a::es,by rw[e'.1,e1];rfl,p1.cons a⟩
 | swap x y t=>intro l e;match l,e with
  | [],e=>cases e
  | [_],e=>cases (List.cons.inj e).2
  | a::b::c,e =>
   have e1:x=.int a∧y::t=nums (b::c):=List.cons.inj e
   have e2:y=.int b∧t=nums c:=List.cons.inj e1.2
   exact⟨b::a::c,by rw[e1.1,e2.1,e2.2];rfl,.swap a b c⟩
 | trans _ _ i1 i2 =>
  intro l e
  obtain⟨m,e1,p1⟩:=i2 l e
  obtain⟨n,e2,p2⟩:=i1 m e1
  exact⟨n,e2,p2.trans p1⟩
theorem zfq {ys:List V}{l:List Nat}(h:ys.Perm (nums l)):∃ es:List Nat,ys=nums es∧es.Perm l:=zex h l rfl
theorem zcl {α:Type}:∀ (xs:List α) (k:Nat) (h:k<xs.length),(xs[k]::xs.eraseIdx k).Perm xs
 | x::xs,0,_=>.refl _
 | x::xs,k+1,h=>by
  have hk:k<xs.length:=by simpa using h
  have ih:=zcl xs k hk
  exact(List.Perm.swap x xs[k] _).trans (ih.cons x)
end Bn
namespace K21
open PySem L2 Own Bn
abbrev sOf:Stmt:=top 28
abbrev zdG:Stmt:=top 29
abbrev sNet:Stmt:=top 30
def spOf:Sp:=fun vs H Q _=>∃ (l q:Addr) (xs:List V),vs=[.ref l,.ref q]∧PkAt H l∧q≠l∧H q=some (.lst xs)∧0<xs.length∧xs.length≤100000∧∀ (i:Nat) x H',xs[i]?=some x→PkAt H' l→But l H H'→Q x H'
def zcu:Sp:=fun vs H Q _=>∃ (l q:Addr) (xs:List V),vs=[.ref l,.ref q]∧PkAt H l∧q≠l∧H q=some (.lst xs)∧xs.length≤1000∧∀ r ys H',ys.Perm xs→H r=none→H' r=some (.lst ys)→PkAt H' l→But l H H'→Q (.ref r) H'
def zeO (most:Nat):Sp:=fun vs H Q _=>∃ (l:Addr) (lanes:Nat),vs=[.ref l,.int lanes,.int most]∧PkAt H l∧1≤lanes∧lanes≤16∧∀ r fr er ps N H',Nt.Ok N→N.lanes=lanes→N.forks.length≤most→NetAt H' r fr er ps N→PkAt H' l→But l H H'→Q (.ref r) H'
section
variable {P:Program}{w:World}{K:PySem.W.Frag}{mg:Str→Option Value}{base:Heap}
theorem scOf:FnScope ["_law_left_here","_law_some"] ["_law_left_here","_law_some"] (zak sOf):=⟨rfl,rfl,rfl,by decide +kernel,rfl,by decide +kernel,by decide +kernel⟩
theorem zjS {f fK:Addr}{fd dK:FuncData}(F:Fun K "_law_of" "_law_of" sOf f fd) (G:Mgs mg) (UK:Use P w K mg base "_law_pick" ["_law_left_here","_law_many_here"] 1 zbE fK dK):FnOk P w K mg base CX0 2 f fd ["_law_left_here","_law_some"] spOf:=by
 refine F.ok scOf (fun vs H Q E h=>?_) (fun cdv A outer s H vs Q E hr h=>?_)
 ·obtain⟨l,q,xs,rfl,_⟩:=h
  rfl
 obtain⟨l,q,xs,rfl,S,ne,hq,x0,xm,k⟩:=h
 refine⟨_,(@zah _ _ _ (@zav _ _ _ _ (@zaq _ _ _ _ _ _ _ zaK (@pv _ 1 _ _ (by rfl) (by first|exact Or.inl rfl|exact Or.inr (.inl rfl)|exact Or.inr (.inr rfl)) (by decide) (by decide)) (@zag _ _ _ _ _ _ _ _ _ _ _ _ _ _ _ _ UK.ok hr (by rfl) UK.m UK.kp UK.b .nil zat (@zaa _ _ _ _ _ (@pv _ 0 _ _ (by rfl) (by first|exact Or.inl rfl|exact Or.inr (.inl rfl)|exact Or.inr (.inr rfl)) (by decide) (by decide)) (@zaa _ _ _ _ _ (@zar _ _ _ _ _ _ _ _ _ zao (by rfl) G.len PySem.boot_len (@zaa _ _ _ _ _ (@pv _ 1 _ _ (by rfl) (by first|exact Or.inl rfl|exact Or.inr (.inl rfl)|exact Or.inr (.inr rfl)) (by decide) (by decide)) zab (by rfl)) (by decide) (by decide) (by rfl) (by rfl)) zab (by rfl)) (by rfl)) (by decide) (by rfl) (by rfl)) (fun _ _=>rfl)))),?_⟩
 refine⟨_,rfl,_,rfl,_,rfl,q,_,rfl,.inl (SqL.of hq),l,_,rfl,by lia,by lia,S,fun v H1 hv S1 B1=>?_⟩
 have vl:v<xs.length:=by lia
 exact⟨q,_,_,_,rfl,rfl,SqL.of (B1 q _ hq ne),zaJ (List.getElem?_eq_getElem vl),k v _ H1 (List.getElem?_eq_getElem vl) S1 B1⟩
theorem scPl:FnScope ["_law_left_here","_law_some","_law_found"] ["_law_left_here","_law_some"] (zak zdG):=⟨rfl,rfl,rfl,by decide +kernel,rfl,by decide +kernel,by decide +kernel⟩
theorem zfm {f fK:Addr}{fd dK:FuncData}(F:Fun K "_law_placed" "_law_placed" zdG f fd) (G:Mgs mg) (UK:Use P w K mg base "_law_pick" ["_law_left_here","_law_many_here"] 1 zbE fK dK):FnOk P w K mg base CX0 2 f fd ["_law_left_here","_law_some"] zcu:=by
 refine F.ok scPl (fun vs H Q E h=>?_) (fun cdv A outer s H vs Q E hr h=>?_)
 ·obtain⟨l,q,xs,rfl,_⟩:=h
  rfl
 obtain⟨l,q,xs,rfl,S,ne,hq,xm,k⟩:=h
 refine⟨_,(@zaf _ _ _ _ _ (@zaz _ _ 1 _ _ _ _ scPl.nd rfl (.inl rfl) (@zaI _ _ _ _ _ _ _ _ _ zdm (by rfl) G.list (by rfl) (@zaa _ _ _ _ _ (@pv _ 1 _ _ (by rfl) (by first|exact Or.inl rfl|exact Or.inr (.inl rfl)|exact Or.inr (.inr rfl)) (by decide) (by decide)) zab (by rfl)) (by decide) (by decide) (by rfl) (by rfl)) (by rfl) (by first|exact .inl rfl|exact .inr rfl|assumption)) (@zaf _ _ _ _ _ (@zaz _ _ 2 _ _ _ _ scPl.nd rfl (.inl rfl) (@zaO _ _ _ _ zab) (by rfl) (by first|exact .inl rfl|exact .inr rfl|assumption)) (@zaf _ _ _ _ _ (@zea _ _ _ _ _ _ PassesOwn.never (@zau _ _ _ _ _ _ _ _ (zfk hr.units0) (@pv _ 1 _ _ (by rfl) (by first|exact Or.inl rfl|exact Or.inr (.inl rfl)|exact Or.inr (.inr rfl)) (by decide) (by decide)) (@zaO _ _ _ _ zab) (zay _)) (@zah _ _ _ (@zba _ _ _ _ (@zcG _ _ _ _ _ _ _ _ _ _ _ _ PySem.F.plainAttrs_list PySem.F.slot_list_append PySem.F.type_list_append zbw (@pv _ 2 _ _ (by rfl) (by first|exact Or.inl rfl|exact Or.inr (.inl rfl)|exact Or.inr (.inr rfl)) (by decide) (by decide)) (@zaa _ _ _ _ _ (@zcG _ _ _ _ _ _ _ _ _ _ _ _ PySem.F.plainAttrs_list PySem.F.slot_list_pop PySem.F.type_list_pop zbM (@pv _ 1 _ _ (by rfl) (by first|exact Or.inl rfl|exact Or.inr (.inl rfl)|exact Or.inr (.inr rfl)) (by decide) (by decide)) (@zaa _ _ _ _ _ (@zag _ _ _ _ _ _ _ _ _ _ _ _ _ _ _ _ UK.ok hr (by rfl) UK.m UK.kp UK.b .nil zat (@zaa _ _ _ _ _ (@pv _ 0 _ _ (by rfl) (by first|exact Or.inl rfl|exact Or.inr (.inl rfl)|exact Or.inr (.inr rfl)) (by decide) (by decide)) (@zaa _ _ _ _ _ (@zar _ _ _ _ _ _ _ _ _ zao (by rfl) G.len PySem.boot_len (@zaa _ _ _ _ _ (@pv _ 1 _ _ (by rfl) (by first|exact Or.inl rfl|exact Or.inr (.inl rfl)|exact Or.inr (.inr rfl)) (by decide) (by decide)) zab (by rfl)) (by decide) (by decide) (by rfl) (by rfl)) zab (by rfl)) (by rfl)) (by decide) (by rfl) (by rfl)) zab (by rfl)) (by rfl) (by rfl) (by rfl) (by rfl) (by rfl)) zab (by rfl)) (by rfl) (by rfl) (by rfl) (by rfl) (by rfl)) (by rfl)))) (@zah _ _ _ (@zav _ _ _ _ (@pv _ 2 _ _ (by rfl) (by first|exact Or.inl rfl|exact Or.inr (.inl rfl)|exact Or.inr (.inr rfl)) (by decide) (by decide))))))),?_⟩
 refine⟨_,rfl,q,_,rfl,.inl (SqL.of hq),fun lo hlo=>?_⟩
 have s1:=zad hlo (.lst xs)
 have nlo:=S.ne hlo
 refine⟨(by show 0≤sizeLine;decide),fun lt hlt=>?_⟩
 have s2:=zad hlt (.lst [])
 have nlt:=(S.keep s1).ne hlt
 have not:lo≠lt:=zai zac hlt
 have flo:Frs l H lo:=fun b o e _=>zai e hlo
 have flt:Frs l H lt:=fun b o e _=>zai (s1 _ _ e) hlt
 have hlt0:H lt=none:=by
  cases z:H lt with
  | none=>rfl
  | some o=>rw[s1 _ _ z]at hlt;cases hlt
 refine⟨fun m σ H3=>σ=[some (.ref l),some (.ref lo),some (.ref lt)]∧PkAt H3 l∧But l H H3∧∃ us ys,H3 lo=some (.lst us)∧us.length=m∧H3 lt=some (.lst ys)∧(ys++us).Perm xs,
  ⟨_,rfl,(S.keep s1).keep s2,(But.of s1).trans (But.of s2),xs,[],by rw[zaj not];exact zac,rfl,zac,.refl _⟩,?_⟩
 rintro m σ H3 ⟨rfl,S3,B3,us,ys,hu,ul,hy,pm⟩
 refine⟨_,rfl,(by show 0≤sizeLine;decide),fun e he=>?_⟩
 have s4:=zad he (.lst [])
 refine⟨lo,e,us,rfl,rfl,SqL.of (s4 _ _ hu),SqL.of zac,_,rfl,?_⟩
 have S4:=S3.keep s4
 have B4:But l H (L2.upd H3 e (.lst [])):=B3.trans (But.of s4)
 have hu4:=s4 _ _ hu
 have hy4:=s4 _ _ hy
 generalize L2.upd H3 e (.lst [])=H4 at *
 have tot:ys.length+us.length=xs.length:=by rw[← List.length_append];exact pm.length_eq
 by_cases un:us=[]
 ·rw[show (!us.isEmpty)=false by rw[un];rfl]
  refine iteF ⟨_,rfl,k lt ys H4 ?_ hlt0 hy4 S4 B4⟩
  rw[un,List.append_nil]at pm;exact pm
 have up:0<us.length:=List.length_pos_iff.mpr un
 rw[show (!us.isEmpty)=true by cases us with
  | nil=>exact absurd rfl un
  | cons a b=>rfl]
 refine iteT ⟨_,fun σ' H' hN=>⟨m-1,by lia,hN⟩,?_⟩
 refine⟨_,rfl,.inl ⟨rfl,_,SqL.of hy4⟩,_,rfl,.inl ⟨rfl,_,SqL.of hu4⟩,_,rfl,_,rfl,lo,_,rfl,.inl (SqL.of hu4),l,_,rfl,by lia,by lia,S4,fun kk H5 hk S5 B5=>?_⟩
 have kl:kk<us.length:=by lia
 have hu5:=B5 lo _ hu4 nlo.symm
 have hy5:=B5 lt _ hy4 nlt.symm
 refine⟨lo,_,_,kk,us[kk],rfl,rfl,hu5,by lia,by lia,(zbB (zde (xs:=us) (i:=kk) kl)).1,List.getElem?_eq_getElem kl,?_⟩
 have hy6:upd H5 lo (.lst (us.eraseIdx kk)) lt=some (.lst ys):=by rw[zaj not.symm];exact hy5
 refine⟨lt,_,_,rfl,rfl,hy6,Nat.lt_of_lt_of_le (show ys.length<1001 by lia) (by decide),rfl,(S5.upd nlo).upd nlt,((B4.trans B5).upd flo).upd flt,us.eraseIdx kk,ys++[us[kk]],by rw[zaj not];exact zac,by rw[List.length_eraseIdx,if_pos kl];lia,zac,?_⟩
 refine List.Perm.trans ?_ pm
 rw[List.append_assoc]
 refine List.Perm.append_left ys ?_
 exact zcl us kk kl
theorem scN:FnScope ["_law_left_here","_law_lanes","_law_most","_law_forks","_law_k","_law_a","_law_b","_law_ends"] ["_law_left_here","_law_lanes","_law_most"] (zak sNet):=⟨rfl,rfl,rfl,by decide +kernel,rfl,by decide +kernel,by decide +kernel⟩
theorem zjb {f fK fO fP:Addr}{fd dK dO dP:FuncData}(most:Nat) (hmost:most≤100) (F:Fun K "_law_net" "_law_net" sNet f fd) (G:Mgs mg) (UK:Use P w K mg base "_law_pick" ["_law_left_here","_law_many_here"] 1 zbE fK dK) (UO:Use P w K mg base "_law_of" ["_law_left_here","_law_some"] 2 spOf fO dO) (UP:Use P w K mg base "_law_placed" ["_law_left_here","_law_some"] 2 zcu fP dP):FnOk P w K mg base CX0 3 f fd ["_law_left_here","_law_lanes","_law_most"] (zeO most):=by
 refine F.ok scN (fun vs H Q E h=>?_) (fun cdv A outer s H vs Q E hr h=>?_)
 ·obtain⟨l,lanes,rfl,_⟩:=h
  rfl
 obtain⟨l,lanes,rfl,S,l1,l16,k⟩:=h
 have hr1:Room 1 _:=hr.mono (by decide)
 refine⟨_,(@zaf _ _ _ _ _ (@zaz _ _ 3 _ _ _ _ scN.nd rfl (.inl rfl) (@zaO _ _ _ _ zab) (by rfl) (by first|exact .inl rfl|exact .inr rfl|assumption)) (@zaf _ _ _ _ _ (@zbG _ _ _ _ _ _ _ _ PassesOwn.never rfl (@zbv _ _ _ _ _ _ rfl G.range (@zaa _ _ _ _ _ (@zas _ _ _ _ _ _ _ _ zbH (@zag _ _ _ _ _ _ _ _ _ _ _ _ _ _ _ _ UK.ok hr1 (by rfl) UK.m UK.kp UK.b .nil zat (@zaa _ _ _ _ _ (@pv _ 0 _ _ (by rfl) (by first|exact Or.inl rfl|exact Or.inr (.inl rfl)|exact Or.inr (.inr rfl)) (by decide) (by decide)) (@zaa _ _ _ _ _ (@zas _ _ _ _ _ _ _ _ zaB (@pv _ 2 _ _ (by rfl) (by first|exact Or.inl rfl|exact Or.inr (.inl rfl)|exact Or.inr (.inr rfl)) (by decide) (by decide)) zae) zab (by rfl)) (by rfl)) (by decide) (by rfl) (by rfl)) (@zaI _ _ _ _ _ _ _ _ _ zdo (by rfl) G.int (by rfl) (@zaa _ _ _ _ _ (@zbb _ _ _ _ _ _ _ _ zh2 (@pv _ 1 _ _ (by rfl) (by first|exact Or.inl rfl|exact Or.inr (.inl rfl)|exact Or.inr (.inr rfl)) (by decide) (by decide)) zae (zay _)) zab (by rfl)) (by decide) (by decide) (by rfl) (by rfl))) zab (by rfl)) (by rfl)) (@zap _ _ 4 _ scN.nd rfl (.inl rfl) (by first|exact .inl rfl|exact .inr rfl|assumption)) (@zaf _ _ _ _ _ (@zaz _ _ 5 _ _ _ _ scN.nd rfl (.inl rfl) (@zag _ _ _ _ _ _ _ _ _ _ _ _ _ _ _ _ UK.ok hr1 (by rfl) UK.m UK.kp UK.b .nil zat (@zaa _ _ _ _ _ (@pv _ 0 _ _ (by rfl) (by first|exact Or.inl rfl|exact Or.inr (.inl rfl)|exact Or.inr (.inr rfl)) (by decide) (by decide)) (@zaa _ _ _ _ _ (@pv _ 1 _ _ (by rfl) (by first|exact Or.inl rfl|exact Or.inr (.inl rfl)|exact Or.inr (.inr rfl)) (by decide) (by decide)) zab (by rfl)) (by rfl)) (by decide) (by rfl) (by rfl)) (by rfl) (by first|exact .inl rfl|exact .inr rfl|assumption)) (@zaf _ _ _ _ _ (@zaz _ _ 6 _ _ _ _ scN.nd rfl (.inl rfl) (@zas _ _ _ _ _ _ _ _ zbd (@zas _ _ _ _ _ _ _ _ zaB (@zas _ _ _ _ _ _ _ _ zaB (@pv _ 5 _ _ (by rfl) (by first|exact Or.inl rfl|exact Or.inr (.inl rfl)|exact Or.inr (.inr rfl)) (by decide) (by decide)) zae) (@zag _ _ _ _ _ _ _ _ _ _ _ _ _ _ _ _ UK.ok hr1 (by rfl) UK.m UK.kp UK.b .nil zat (@zaa _ _ _ _ _ (@pv _ 0 _ _ (by rfl) (by first|exact Or.inl rfl|exact Or.inr (.inl rfl)|exact Or.inr (.inr rfl)) (by decide) (by decide)) (@zaa _ _ _ _ _ (@zas _ _ _ _ _ _ _ _ zcd (@pv _ 1 _ _ (by rfl) (by first|exact Or.inl rfl|exact Or.inr (.inl rfl)|exact Or.inr (.inr rfl)) (by decide) (by decide)) zae) zab (by rfl)) (by rfl)) (by decide) (by rfl) (by rfl))) (@pv _ 1 _ _ (by rfl) (by first|exact Or.inl rfl|exact Or.inr (.inl rfl)|exact Or.inr (.inr rfl)) (by decide) (by decide))) (by rfl) (by first|exact .inl rfl|exact .inr rfl|assumption)) (@zaf _ _ _ _ _ (@zaU _ _ _ _ _ _ _ _ (@zbW _ _ _ _ _ _ _ (@zau _ _ _ _ _ _ _ _ (zfk hr.units0) (@pv _ 3 _ _ (by rfl) (by first|exact Or.inl rfl|exact Or.inr (.inl rfl)|exact Or.inr (.inr rfl)) (by decide) (by decide)) (@zaO _ _ _ _ zab) (zay _)) (@zbm _ _ _ _ (@zau _ _ _ _ _ _ _ _ zbK (@zag _ _ _ _ _ _ _ _ _ _ _ _ _ _ _ _ UK.ok hr1 (by rfl) UK.m UK.kp UK.b .nil zat (@zaa _ _ _ _ _ (@pv _ 0 _ _ (by rfl) (by first|exact Or.inl rfl|exact Or.inr (.inl rfl)|exact Or.inr (.inr rfl)) (by decide) (by decide)) (@zaa _ _ _ _ _ zae zab (by rfl)) (by rfl)) (by decide) (by rfl) (by rfl)) zae (zay _)))).pt (@zah _ _ _ (@zaR _ _ _ _ _ _ (@zhX _ _ _ _ _ _ _ (@zaq _ _ _ _ _ _ _ zaK (@pv _ 3 _ _ (by rfl) (by first|exact Or.inl rfl|exact Or.inr (.inl rfl)|exact Or.inr (.inr rfl)) (by decide) (by decide)) (@zgt _ _ _ _ _ _ zd0 zae) (fun _ _=>rfl)) (@zaQ _ _ _ (@zag _ _ _ _ _ _ _ _ _ _ _ _ _ _ _ _ UO.ok hr (by rfl) UO.m UO.kp UO.b .nil zat (@zaa _ _ _ _ _ (@pv _ 0 _ _ (by rfl) (by first|exact Or.inl rfl|exact Or.inr (.inl rfl)|exact Or.inr (.inr rfl)) (by decide) (by decide)) (@zaa _ _ _ _ _ (@zaO _ _ _ _ (@zaa _ _ _ _ _ zae (@zaa _ _ _ _ _ (@zgt _ _ _ _ _ _ zd0 zae) zab (by rfl)) (by rfl))) zab (by rfl)) (by rfl)) (by decide) (by rfl) (by rfl)))) (@zaY _ _ _ _ _ _ rfl (@zal _ _ _ _ _ (@zap _ _ 5 _ scN.nd rfl (.inl rfl) (by first|exact .inl rfl|exact .inr rfl|assumption)) (@zal _ _ _ _ _ (@zap _ _ 6 _ scN.nd rfl (.inl rfl) (by first|exact .inl rfl|exact .inr rfl|assumption)) zaM (by rfl)) (by rfl)) (by rfl) (by rfl)) (by rfl) (by rfl) (by rfl))) zaD) (@zah _ _ _ (@zba _ _ _ _ (@zcG _ _ _ _ _ _ _ _ _ _ _ _ PySem.F.plainAttrs_list PySem.F.slot_list_append PySem.F.type_list_append zbw (@pv _ 3 _ _ (by rfl) (by first|exact Or.inl rfl|exact Or.inr (.inl rfl)|exact Or.inr (.inr rfl)) (by decide) (by decide)) (@zaa _ _ _ _ _ (@zaA _ _ _ _ _ (@zaa _ _ _ _ _ (@pv _ 5 _ _ (by rfl) (by first|exact Or.inl rfl|exact Or.inr (.inl rfl)|exact Or.inr (.inr rfl)) (by decide) (by decide)) (@zaa _ _ _ _ _ (@pv _ 6 _ _ (by rfl) (by first|exact Or.inl rfl|exact Or.inr (.inl rfl)|exact Or.inr (.inr rfl)) (by decide) (by decide)) zab (by rfl)) (by rfl))) zab (by rfl)) (by rfl) (by rfl) (by rfl) (by rfl) (by rfl)) (by rfl)))))) (by intro _;rfl)) (@zaf _ _ _ _ _ (@zaz _ _ 7 _ _ _ _ scN.nd rfl (.inl rfl) (@zfh _ _ _ _ _ _ _ rfl (by rfl) G.list (by rfl) G.range (@zaa _ _ _ _ _ (@pv _ 1 _ _ (by rfl) (by first|exact Or.inl rfl|exact Or.inr (.inl rfl)|exact Or.inr (.inr rfl)) (by decide) (by decide)) zab (by rfl)) (by rfl) (by rfl)) (by rfl) (by first|exact .inl rfl|exact .inr rfl|assumption)) (@zaf _ _ _ _ _ (@zaU _ _ _ _ _ _ _ _ (@zau _ _ _ _ _ _ _ _ zbK (@zag _ _ _ _ _ _ _ _ _ _ _ _ _ _ _ _ UK.ok hr1 (by rfl) UK.m UK.kp UK.b .nil zat (@zaa _ _ _ _ _ (@pv _ 0 _ _ (by rfl) (by first|exact Or.inl rfl|exact Or.inr (.inl rfl)|exact Or.inr (.inr rfl)) (by decide) (by decide)) (@zaa _ _ _ _ _ zae zab (by rfl)) (by rfl)) (by decide) (by rfl) (by rfl)) zae (zay _)) (@zah _ _ _ (@zaz _ _ 7 _ _ _ _ scN.nd rfl (.inl rfl) (@zag _ _ _ _ _ _ _ _ _ _ _ _ _ _ _ _ UP.ok hr (by rfl) UP.m UP.kp UP.b .nil zat (@zaa _ _ _ _ _ (@pv _ 0 _ _ (by rfl) (by first|exact Or.inl rfl|exact Or.inr (.inl rfl)|exact Or.inr (.inr rfl)) (by decide) (by decide)) (@zaa _ _ _ _ _ (@pv _ 7 _ _ (by rfl) (by first|exact Or.inl rfl|exact Or.inr (.inl rfl)|exact Or.inr (.inr rfl)) (by decide) (by decide)) zab (by rfl)) (by rfl)) (by decide) (by rfl) (by rfl)) (by rfl) (by first|exact .inl rfl|exact .inr rfl|assumption))) zaD) (@zah _ _ _ (@zav _ _ _ _ (@zaA _ _ _ _ _ (@zaa _ _ _ _ _ (@pv _ 1 _ _ (by rfl) (by first|exact Or.inl rfl|exact Or.inr (.inl rfl)|exact Or.inr (.inr rfl)) (by decide) (by decide)) (@zaa _ _ _ _ _ (@zaI _ _ _ _ _ _ _ _ _ zaH (by rfl) G.tuple (by rfl) (@zaa _ _ _ _ _ (@pv _ 3 _ _ (by rfl) (by first|exact Or.inl rfl|exact Or.inr (.inl rfl)|exact Or.inr (.inr rfl)) (by decide) (by decide)) zab (by rfl)) (by decide) (by decide) (by rfl) (by rfl)) (@zaa _ _ _ _ _ (@zaI _ _ _ _ _ _ _ _ _ zaH (by rfl) G.tuple (by rfl) (@zaa _ _ _ _ _ (@pv _ 7 _ _ (by rfl) (by first|exact Or.inl rfl|exact Or.inr (.inl rfl)|exact Or.inr (.inr rfl)) (by decide) (by decide)) zab (by rfl)) (by decide) (by decide) (by rfl) (by rfl)) zab (by rfl)) (by rfl)) (by rfl))))))))),?_⟩
 refine⟨(by show 0≤sizeLine;decide),fun lf hlf=>?_⟩
 have nlf:=S.ne hlf
 have B0:But l H (L2.upd H lf (.lst [])):=But.of (zad hlf _)
 have flf:Frs l H lf:=fun b o e _=>zai e hlf
 refine⟨_,rfl,_,rfl,_,_,rfl,rfl,l,_,rfl,by lia,by lia,S.upd nlf,fun kv H1 hkv S1 B1=>?_⟩
 refine⟨_,rfl,_,_,rfl,rfl,.inr ⟨_,rfl,_,_,rfl,rfl,.inl ⟨by lia,by lia⟩,?_⟩⟩
 have cb:((kv:Int)*(if decide ((1:Int)<lanes)=true then 1 else 0))=((if 1<lanes then kv else 0:Nat):Int):=by
  by_cases z:1<lanes
  ·rw[if_pos (decide_eq_true (by lia)),if_pos z];lia
  ·rw[if_neg (by rw[decide_eq_false (by lia)];exact Bool.false_ne_true),if_neg z];lia
 have cl:(if 1<lanes then kv else 0)≤most:=by split<;>lia
 refine⟨_,rfl,by rw[cb];lia,by rw[cb];lia,?_⟩
 rw[cb]
 generalize hcnt:(if 1<lanes then kv else 0)=cnt at cl
 refine zbe (lo:=0) (n:=((cnt:Nat):Int).toNat) (fun i σ H2=>(∃ w4 w5 w6 w7,σ=[some (.ref l),some (.int lanes),some (.int most),some (.ref lf),w4,w5,w6,w7])∧PkAt H2 l∧But l H H2∧∃ ps fs,H2 lf=some (.lst ps)∧Prs H2 ps fs∧fs.length=i∧∀ f∈fs,f.1<lanes∧f.2<lanes∧f.1≠f.2)
  ⟨⟨_,_,_,_,rfl⟩,S1,B0.trans B1,[],[],B1 lf _ zac nlf.symm,trivial,rfl,fun f hf=>by simp at hf⟩ ?_ ?_
 ·rintro i σ H2 hi ⟨⟨w4,w5,w6,w7,rfl⟩,S2,B2,ps,fs,h2,p2,fl,fok⟩
  have l2:1<lanes:=by
   by_cases z:1<lanes
   ·exact z
   ·rw[if_neg z]at hcnt;lia
  refine⟨_,rfl,_,rfl,l,lanes,rfl,by lia,by lia,S2,fun one H3 ho S3 B3=>?_⟩
  refine⟨_,rfl,_,_,rfl,rfl,_,rfl,_,rfl,_,_,rfl,rfl,l,_,rfl,by lia,by lia,S3,fun d H4 hd S4 B4=>?_⟩
  refine⟨_,_,rfl,rfl,_,rfl,_,_,rfl,rfl,by lia,?_⟩
  have hone:one<lanes:=by lia
  obtain⟨ok1,ok2⟩:=zgz (one:=one) (d:=d) (lanes:=lanes) hone (by lia)
  have ec:((one:Int)+1+d)%lanes=(((one+1+d)%lanes:Nat):Int):=by rw[Int.natCast_emod,Int.natCast_add,Int.natCast_add];rfl
  dsimp only
  rw[ec]
  generalize (one+1+d)%lanes=oth at ok1 ok2
  have h4:=B4 lf _ (B3 lf _ h2 nlf.symm) nlf.symm
  have p4:=p2.tups ((B3.tups S2).trans (B4.tups S3))
  have B4':But l H H4:=(B2.trans B3).trans B4
  have fin:∀ (a b:Nat) (H5:Hp),a<lanes→b<lanes→a≠b→PkAt H5 l→But l H H5→H5 lf=some (.lst ps)→Prs H5 ps fs→∀ t:Addr,H5 t=none→ps.length<sizeLine∧PkAt (upd (upd H5 t (.tup [.int a,.int b])) lf (.lst (ps++[.ref t]))) l∧But l H (upd (upd H5 t (.tup [.int a,.int b])) lf (.lst (ps++[.ref t]))) ∧
    ∃ ps' fs',upd (upd H5 t (.tup [.int a,.int b])) lf (.lst (ps++[.ref t])) lf=some (.lst ps')∧Prs (upd (upd H5 t (.tup [.int a,.int b])) lf (.lst (ps++[.ref t]))) ps' fs'∧fs'.length=i+1∧∀ f∈fs',f.1<lanes∧f.2<lanes∧f.1≠f.2:=fun a b H5 ha hb ab S5 B5 h5 p5 t ht=>by
   have st:=zad ht (.tup [.int a,.int b])
   have h6:=st _ _ h5
   have T6:Tups (upd H5 t (.tup [.int a,.int b])) (upd (upd H5 t (.tup [.int a,.int b])) lf (.lst (ps++[.ref t]))):=Tups.lst h6
   refine⟨by rw[p5.len,fl];exact Nat.lt_of_lt_of_le (show i<1000 by lia) (by decide),(S5.keep st).upd nlf,(B5.trans (But.of st)).upd flf,_,fs++[(a,b)],zac,((p5.tups (Tups.of st)).tups T6).add (f:=(a,b)) (T6 _ _ zac),by rw[List.length_append,fl];rfl,fun f hf=>?_⟩
   rcases List.mem_append.mp hf with z|z
   ·exact fok f z
   ·rw[List.mem_singleton.mp z];exact⟨ha,hb,ab⟩
  refine⟨_,rfl,(by show 0≤sizeLine;decide),fun e he=>?_⟩
  have s5:=zad he (.lst [])
  refine⟨lf,e,ps,rfl,rfl,SqL.of (s5 _ _ h4),SqL.of zac,_,rfl,?_⟩
  have S5:=S4.keep s5
  have B5:But l H (L2.upd H4 e (.lst [])):=B4'.trans (But.of s5)
  have h5:=s5 _ _ h4
  have p5:=p4.tups (Tups.of s5)
  generalize L2.upd H4 e (.lst [])=H5 at *
  by_cases pn:ps=[]
  ·rw[show (!ps.isEmpty)=false by rw[pn];rfl]
   refine iteF ?_
   refine⟨_,rfl,.inl ⟨rfl,_,SqL.of h5⟩,_,rfl,_,rfl,(by show 2≤sizeLine;decide),fun t ht=>?_⟩
   obtain⟨z,a1,a2,a3⟩:=fin one oth H5 hone ok1 ok2 S5 B5 h5 p5 t ht
   exact⟨lf,_,_,rfl,rfl,zad ht _ _ _ h5,z,⟨_,_,_,_,rfl⟩,a1,a2,a3⟩
  rw[show (!ps.isEmpty)=true by cases ps with
   | nil=>exact absurd rfl pn
   | cons a b=>rfl]
  refine iteT ⟨_,rfl,l,4,rfl,by decide,by decide,S5,fun y H6 hy S6 B6=>⟨rfl,_,rfl,?_⟩⟩
  have h6:=B6 lf _ h5 nlf.symm
  have p6:=p5.tups (B6.tups S5)
  have B6':But l H H6:=B5.trans B6
  refine ite2 (fun _=>?_) (fun _=>?_)
  ·-- the last one anew
   have pp:0<ps.length:=List.length_pos_iff.mpr pn
   have lx:ps[ps.length-1]?=some ps[ps.length-1]:=List.getElem?_eq_getElem (by lia)
   obtain⟨a,g,ea,eg,ha⟩:=p6.get lx
   have okg:=fok g (List.mem_of_getElem? eg)
   rw[ea]at lx
   refine⟨_,rfl,_,rfl,lf,_,_,_,rfl,rfl,SqL.of h6,zju lx,?_⟩
   refine⟨_,rfl,_,rfl,(by show 2≤sizeLine;decide),fun q hq=>?_⟩
   have s7:=zad hq (.lst [.int 1,.int (-1)])
   have nlq:=S6.ne hq
   refine⟨l,q,_,rfl,S6.keep s7,nlq.symm,zac,by show 0<2;decide,by show 2≤100000;decide,fun j x H8 hx S8 B8=>?_⟩
   have T8:Tups H6 H8:=(Tups.of s7).trans (B8.tups (S6.keep s7))
   have h8:=B8 lf _ (s7 _ _ h6) nlf.symm
   have B8':But l H H8:=(B6'.trans (But.of s7)).trans B8
   have jl:=(List.getElem?_eq_some_iff.mp hx).1
   simp only[List.length_cons,List.length_nil]at jl
   rcases j with _|_|j
   ·obtain rfl:=Option.some.inj hx
    refine⟨_,rfl,a,_,_,rfl,SqT.of (T8 _ _ ha),.inl ⟨rfl,?_⟩⟩
    refine⟨a,_,rfl,SqT.of (T8 _ _ ha),rfl,_,_,rfl,_,_,rfl,rfl,?_⟩
    refine⟨_,rfl,.inl ⟨rfl,_,SqL.of h8⟩,_,rfl,_,rfl,(by show 2≤sizeLine;decide),fun t ht=>?_⟩
    obtain⟨z,a1,a2,a3⟩:=fin g.1 g.2 H8 okg.1 okg.2.1 okg.2.2 S8 B8' h8 (p6.tups T8) t ht
    exact⟨lf,_,_,rfl,rfl,zad ht _ _ _ h8,z,⟨_,_,_,_,rfl⟩,a1,a2,a3⟩
   ·obtain rfl:=Option.some.inj hx
    refine⟨_,rfl,a,_,_,rfl,SqT.of (T8 _ _ ha),.inr ⟨rfl,fun b hb=>?_⟩⟩
    have s9:=zad hb (.tup [.int g.2,.int g.1])
    refine⟨b,_,rfl,SqT.of zac,rfl,_,_,rfl,_,_,rfl,rfl,?_⟩
    refine⟨_,rfl,.inl ⟨rfl,_,SqL.of (s9 _ _ h8)⟩,_,rfl,_,rfl,(by show 2≤sizeLine;decide),fun t ht=>?_⟩
    obtain⟨z,a1,a2,a3⟩:=fin g.2 g.1 _ okg.2.1 okg.1 (Ne.symm okg.2.2) (S8.keep s9) (B8'.trans (But.of s9)) (s9 _ _ h8) ((p6.tups T8).tups (Tups.of s9)) t ht
    exact⟨lf,_,_,rfl,rfl,zad ht _ _ _ (s9 _ _ h8),z,⟨_,_,_,_,rfl⟩,a1,a2,a3⟩
   ·lia
  ·refine⟨_,rfl,.inl ⟨rfl,_,SqL.of h6⟩,_,rfl,_,rfl,(by show 2≤sizeLine;decide),fun t ht=>?_⟩
   obtain⟨z,a1,a2,a3⟩:=fin one oth H6 hone ok1 ok2 S6 B6' h6 p6 t ht
   exact⟨lf,_,_,rfl,rfl,zad ht _ _ _ h6,z,⟨_,_,_,_,rfl⟩,a1,a2,a3⟩
 ·rintro σ H2 ⟨⟨w4,w5,w6,w7,rfl⟩,S2,B2,ps,fs,h2,p2,fl,fok⟩
  refine⟨_,rfl,lanes,rfl,by lia,fun le hle=>?_⟩
  have s3:=zad hle (if true=true then HO.lst (upTo lanes) else .tup (upTo lanes))
  have e3:upd H2 le (if true=true then HO.lst (upTo lanes) else .tup (upTo lanes)) le=some (.lst (nums (List.range lanes))):=zac
  have nle:=S2.ne hle
  have S3:=S2.keep s3
  have B3:But l H (upd H2 le (if true=true then HO.lst (upTo lanes) else .tup (upTo lanes))):=B2.trans (But.of s3)
  have h3:=s3 _ _ h2
  have p3:=p2.tups (Tups.of s3)
  generalize upd H2 le (if true=true then HO.lst (upTo lanes) else .tup (upTo lanes))=H3 at *
  have fin:∀ (el:Addr) (es:List Nat) (w4 w5 w6:Option V) (H4:Hp),es.Perm (List.range lanes)→H4 el=some (.lst (nums es))→PkAt H4 l→But l H H4→H4 lf=some (.lst ps)→Prs H4 ps fs→∀ fr,H4 fr=none→∀ er,upd H4 fr (.tup ps) er=none→∀ r,upd (upd H4 fr (.tup ps)) er (.tup (nums es)) r=none→Q (.ref r) (upd (upd (upd H4 fr (.tup ps)) er (.tup (nums es))) r (.tup [.int lanes,.ref fr,.ref er])):=fun el es w4 w5 w6 H4 pe he S4 B4 h4 p4 fr hfr er her r hr'=>by
   have t1:=zad hfr (.tup ps)
   have t2:=zad her (.tup (nums es))
   have t3:=zad hr' (.tup [.int lanes,.ref fr,.ref er])
   have t:=(t1.trans t2).trans t3
   exact k r fr er ps ⟨lanes,fs,es⟩ _ ⟨l1,l16,by show fs.length≤128;lia,fok,pe⟩ rfl (by show fs.length≤most;lia) ⟨zac,(t2.trans t3) _ _ zac,p4.tups (Tups.of t),t3 _ _ zac⟩ (S4.keep t) (B4.trans (But.of t))
  refine⟨_,rfl,l,2,rfl,by decide,by decide,S3,fun y H4 hy S4 B4=>⟨rfl,_,rfl,?_⟩⟩
  have e4:=B4 le _ e3 nle.symm
  have h4:=B4 lf _ h3 nlf.symm
  have p4:=p3.tups (B4.tups S3)
  refine ite2 (fun _=>?_) (fun _=>?_)
  ·refine⟨_,rfl,_,rfl,l,le,_,rfl,S4,nle.symm,e4,by rw[zgS,List.length_range];lia,fun el ys H5 pm hel e5 S5 B5=>?_⟩
   obtain⟨es,rfl,pe⟩:∃ es:List Nat,ys=nums es∧es.Perm (List.range lanes):=zfq pm
   have h5:=B5 lf _ h4 nlf.symm
   refine⟨_,rfl,_,rfl,lf,_,rfl,.inl ⟨SqL.of h5,fun fr hfr=>⟨_,rfl,el,_,rfl,.inl ⟨SqL.of (zad hfr _ _ _ e5),fun er her=>⟨(by show 3≤sizeLine;decide),fun r hr'=>?_⟩⟩⟩⟩⟩
   exact fin el es none none none H5 pe e5 S5 ((B3.trans B4).trans B5) h5 (p4.tups (B5.tups S4)) fr hfr er her r hr'
  ·refine⟨_,rfl,_,rfl,lf,_,rfl,.inl ⟨SqL.of h4,fun fr hfr=>⟨_,rfl,le,_,rfl,.inl ⟨SqL.of (zad hfr _ _ _ e4),fun er her=>⟨(by show 3≤sizeLine;decide),fun r hr'=>?_⟩⟩⟩⟩⟩
   exact fin le _ none none none H4 (.refl _) e4 S4 (B3.trans B4) h4 p4 fr hfr er her r hr'
end
abbrev ze3:Stmt:=top 31
def zcw:Sp:=fun vs H Q _=>∃ (l:Addr),vs=[.ref l]∧PkAt H l∧∀ (m:Int) H',m≠0→-(10 ^ 29)<m→m<10 ^ 29→PkAt H' l→But l H H'→Q (.int m) H'
theorem zgB (k:Nat):PySem.NumText.digitsVal (49::List.replicate k 48)=10 ^ k:=by
 unfold PySem.NumText.digitsVal
 have go:∀ (k acc:Nat),(List.replicate k 48).foldl (fun acc c=>acc*10+(c-48)) acc=acc*10 ^ k:=fun k=>by
  induction k with
  | zero=>intro acc;simp
  | succ k ih=>intro acc;rw[List.replicate_succ,List.foldl_cons,ih,Nat.pow_succ];simp[Nat.mul_assoc,Nat.mul_comm]
 rw[List.foldl_cons,go];simp
section
variable {P:Program}{w:World}{K:PySem.W.Frag}{mg:Str→Option Value}{base:Heap}
theorem scMa:FnScope ["_law_left_here","_law_far","_law_many_here"] ["_law_left_here"] (zak ze3):=⟨rfl,rfl,rfl,by decide +kernel,rfl,by decide +kernel,by decide +kernel⟩
theorem zgK {f fO fK:Addr}{fd dO dK:FuncData}(F:Fun K "_law_many" "_law_many" ze3 f fd) (G:Mgs mg) (UK:Use P w K mg base "_law_pick" ["_law_left_here","_law_many_here"] 1 zbE fK dK) (UO:Use P w K mg base "_law_of" ["_law_left_here","_law_some"] 2 spOf fO dO):FnOk P w K mg base CX0 3 f fd ["_law_left_here"] zcw:=by
 refine F.ok scMa (fun vs H Q E h=>?_) (fun cdv A outer s H vs Q E hr h=>?_)
 ·obtain⟨l,rfl,_⟩:=h
  rfl
 obtain⟨l,rfl,S,k⟩:=h
 have hr1:Room 1 _:=hr.mono (by decide)
 refine⟨_,(@zaf _ _ _ _ _ (@zaz _ _ 1 _ _ _ _ scMa.nd rfl (.inl rfl) (@zas _ _ _ _ _ _ _ _ zaB (@zaI _ _ _ _ _ _ _ _ _ zcV (by rfl) G.int (by rfl) (@zaa _ _ _ _ _ (@zas _ _ _ _ _ _ _ _ zce zax (@zas _ _ _ _ _ _ _ _ zfj zax (@zag _ _ _ _ _ _ _ _ _ _ _ _ _ _ _ _ UK.ok hr1 (by rfl) UK.m UK.kp UK.b .nil zat (@zaa _ _ _ _ _ (@pv _ 0 _ _ (by rfl) (by first|exact Or.inl rfl|exact Or.inr (.inl rfl)|exact Or.inr (.inr rfl)) (by decide) (by decide)) (@zaa _ _ _ _ _ zae zab (by rfl)) (by rfl)) (by decide) (by rfl) (by rfl)))) zab (by rfl)) (by decide) (by decide) (by rfl) (by rfl)) (@zag _ _ _ _ _ _ _ _ _ _ _ _ _ _ _ _ UK.ok hr1 (by rfl) UK.m UK.kp UK.b .nil zat (@zaa _ _ _ _ _ (@pv _ 0 _ _ (by rfl) (by first|exact Or.inl rfl|exact Or.inr (.inl rfl)|exact Or.inr (.inr rfl)) (by decide) (by decide)) (@zaa _ _ _ _ _ zae zab (by rfl)) (by rfl)) (by decide) (by rfl) (by rfl))) (by rfl) (by first|exact .inl rfl|exact .inr rfl|assumption)) (@zaf _ _ _ _ _ (@zaz _ _ 2 _ _ _ _ scMa.nd rfl (.inl rfl) (@zag _ _ _ _ _ _ _ _ _ _ _ _ _ _ _ _ UO.ok hr (by rfl) UO.m UO.kp UO.b .nil zat (@zaa _ _ _ _ _ (@pv _ 0 _ _ (by rfl) (by first|exact Or.inl rfl|exact Or.inr (.inl rfl)|exact Or.inr (.inr rfl)) (by decide) (by decide)) (@zaa _ _ _ _ _ (@zaO _ _ _ _ (@zaa _ _ _ _ _ zae (@zaa _ _ _ _ _ zae (@zaa _ _ _ _ _ zae (@zaa _ _ _ _ _ zae (@zaa _ _ _ _ _ (@zas _ _ _ _ _ _ _ _ zaB zae (@zag _ _ _ _ _ _ _ _ _ _ _ _ _ _ _ _ UK.ok hr1 (by rfl) UK.m UK.kp UK.b .nil zat (@zaa _ _ _ _ _ (@pv _ 0 _ _ (by rfl) (by first|exact Or.inl rfl|exact Or.inr (.inl rfl)|exact Or.inr (.inr rfl)) (by decide) (by decide)) (@zaa _ _ _ _ _ zae zab (by rfl)) (by rfl)) (by decide) (by rfl) (by rfl))) (@zaa _ _ _ _ _ (@zas _ _ _ _ _ _ _ _ zi7 zae (@zag _ _ _ _ _ _ _ _ _ _ _ _ _ _ _ _ UK.ok hr1 (by rfl) UK.m UK.kp UK.b .nil zat (@zaa _ _ _ _ _ (@pv _ 0 _ _ (by rfl) (by first|exact Or.inl rfl|exact Or.inr (.inl rfl)|exact Or.inr (.inr rfl)) (by decide) (by decide)) (@zaa _ _ _ _ _ zae zab (by rfl)) (by rfl)) (by decide) (by rfl) (by rfl))) (@zaa _ _ _ _ _ (@pv _ 1 _ _ (by rfl) (by first|exact Or.inl rfl|exact Or.inr (.inl rfl)|exact Or.inr (.inr rfl)) (by decide) (by decide)) zab (by rfl)) (by rfl)) (by rfl)) (by rfl)) (by rfl)) (by rfl)) (by rfl))) zab (by rfl)) (by rfl)) (by decide) (by rfl) (by rfl)) (by rfl) (by first|exact .inl rfl|exact .inr rfl|assumption)) (@zah _ _ _ (@zav _ _ _ _ (@zas _ _ _ _ _ _ _ _ zbH (@pv _ 2 _ _ (by rfl) (by first|exact Or.inl rfl|exact Or.inr (.inl rfl)|exact Or.inr (.inr rfl)) (by decide) (by decide)) (@zag _ _ _ _ _ _ _ _ _ _ _ _ _ _ _ _ UO.ok hr (by rfl) UO.m UO.kp UO.b .nil zat (@zaa _ _ _ _ _ (@pv _ 0 _ _ (by rfl) (by first|exact Or.inl rfl|exact Or.inr (.inl rfl)|exact Or.inr (.inr rfl)) (by decide) (by decide)) (@zaa _ _ _ _ _ (@zaO _ _ _ _ (@zaa _ _ _ _ _ zae (@zaa _ _ _ _ _ zae (@zaa _ _ _ _ _ (@zgt _ _ _ _ _ _ zd0 zae) zab (by rfl)) (by rfl)) (by rfl))) zab (by rfl)) (by rfl)) (by decide) (by rfl) (by rfl))))))),?_⟩
 refine⟨_,rfl,l,29,rfl,by decide,by decide,S,fun z H1 hz S1 B1=>?_⟩
 refine⟨48,_,rfl,rfl,by lia,by lia,fun zs hzs=>?_⟩
 obtain⟨d1,d2,d3⟩:=zfC hzs
 have e:(("1":Str)++zs).cps.toList=49::List.replicate ((z:Nat):Int).toNat 48:=by
  show ((("1":Str).cps++zs.cps).toList)=_
  rw[Array.toList_append,hzs];rfl
 have zl:zs.length=((z:Nat):Int).toNat:=by
  have:=congrArg List.length hzs
  rw[Array.length_toList,List.length_replicate]at this
  exact this
 refine⟨_,_,rfl,rfl,by rw[zl];exact Nat.le_trans (show 1+((z:Nat):Int).toNat≤100 by lia) (by decide),_,rfl,d1,by lia,by lia,?_⟩
 have dv:PySem.NumText.digitsVal (("1":Str)++zs).cps.toList≤10 ^ 28:=by
  rw[e,zgB];exact Nat.pow_le_pow_right (by decide) (by lia)
 generalize PySem.NumText.digitsVal (("1":Str)++zs).cps.toList=far at dv d3
 refine⟨_,rfl,l,5,rfl,by decide,by decide,S1,fun y H2 hy S2 B2=>⟨_,_,rfl,rfl,?_⟩⟩
 refine⟨_,rfl,_,rfl,l,9,rfl,by decide,by decide,S2,fun a H3 ha S3 B3=>⟨_,_,rfl,rfl,?_⟩⟩
 refine⟨_,rfl,l,20,rfl,by decide,by decide,S3,fun b H4 hb S4 B4=>⟨_,_,rfl,rfl,⟨by lia,by lia,by decide⟩,?_⟩⟩
 refine⟨_,rfl,(by show 7≤sizeLine;decide),fun q hq=>?_⟩
 have pb:(1:Int)*2 ^ ((b:Nat):Int).toNat=((2 ^ b:Nat):Int):=by
  rw[Int.toNat_natCast,Int.one_mul];exact(Int.natCast_pow 2 b).symm
 have pbb:2 ^ b≤2 ^ 20:=Nat.pow_le_pow_right (by decide) (by lia)
 have pb0:0<2 ^ b:=Nat.pow_pos (by decide)
 have s5:=zad hq (.lst [.int 1,.int 1,.int 2,.int 3,.int (1+(a:Int)),.int (1*2 ^ ((b:Nat):Int).toNat),.int ((far:Int)+y)])
 refine⟨l,q,_,rfl,S4.keep s5,(S4.ne hq).symm,zac,by show 0<7;decide,by show 7≤100000;decide,fun i x H6 hx S6 B6=>?_⟩
 obtain⟨m,rfl,m0,m1⟩:∃ m:Int,x=.int m∧0<m∧m<10 ^ 29:=by
  have il:i<7:=(List.getElem?_eq_some_iff.mp hx).1
  rcases i with _|_|_|_|_|_|_|i
  ·obtain rfl:=Option.some.inj hx;exact⟨_,rfl,by decide,by decide⟩
  ·obtain rfl:=Option.some.inj hx;exact⟨_,rfl,by decide,by decide⟩
  ·obtain rfl:=Option.some.inj hx;exact⟨_,rfl,by decide,by decide⟩
  ·obtain rfl:=Option.some.inj hx;exact⟨_,rfl,by decide,by decide⟩
  ·obtain rfl:=Option.some.inj hx;exact⟨_,rfl,by lia,by lia⟩
  ·obtain rfl:=Option.some.inj hx;exact⟨_,rfl,by rw[pb];lia,by rw[pb];lia⟩
  ·obtain rfl:=Option.some.inj hx;exact⟨_,rfl,by lia,by lia⟩
  ·lia
 refine⟨_,rfl,_,rfl,_,rfl,(by show 3≤sizeLine;decide),fun p hp=>?_⟩
 have s7:=zad hp (.lst [.int 1,.int 1,.int (-1)])
 refine⟨l,p,_,rfl,S6.keep s7,(S6.ne hp).symm,zac,by show 0<3;decide,by show 3≤100000;decide,fun j u H8 hu S8 B8=>?_⟩
 have BB:But l H H8:=(((((((B1.trans B2).trans B3).trans B4).trans (But.of s5)).trans B6).trans (But.of s7)).trans B8)
 have jl:j<3:=(List.getElem?_eq_some_iff.mp hu).1
 rcases j with _|_|_|j
 ·obtain rfl:=Option.some.inj hu
  exact⟨_,_,rfl,rfl,.inr ⟨by decide,by decide⟩,k _ H8 (by lia) (by lia) (by lia) S8 BB⟩
 ·obtain rfl:=Option.some.inj hu
  exact⟨_,_,rfl,rfl,.inr ⟨by decide,by decide⟩,k _ H8 (by lia) (by lia) (by lia) S8 BB⟩
 ·obtain rfl:=Option.some.inj hu
  exact⟨_,_,rfl,rfl,.inr ⟨by decide,by decide⟩,k _ H8 (by lia) (by lia) (by lia) S8 BB⟩
 ·lia
end
abbrev ze2:Stmt:=top 32
abbrev ze9:Stmt:=top 33
abbrev zeZ:Stmt:=top 36
def zdz:Sp:=fun vs H Q _=>∃ l r fr er ps N,vs=[.ref r]∧Nt.Ok N∧NetAt H r fr er ps N∧PkAt H l∧∀ d lt lg lo H',Same H H'→MdAt H l H' d lt lg lo [] (List.replicate N.forks.length 0) [] (List.replicate N.lanes 0)→Q (.ref d) H'
def zcz:Sp:=fun vs H Q _=>∃ r fr er ps N,∃ (lane:Nat) (n:Int) (m:Nat),vs=[.ref r,.int lane,.int n]∧Nt.Ok N∧NetAt H r fr er ps N∧n+1=(m:Int)∧m≤N.forks.length∧∀ (k:Nat) H',Same H H'→IsNext N.forks lane m k→Q (.int k) H'
def zct:Sp:=fun vs H Q _=>∃ H0 l d lt lg lo qa ts gs os,vs=[.ref d]∧MdAt H0 l H d lt lg lo qa ts gs os∧ts.length≤1000∧gs.length≤1000∧os.length≤1000∧∀ sc tr gr ou qs H',Same H H'→SceneAt H' sc tr gr ou qs ts gs os→Q (.ref sc) H'
section
variable {P:Program}{w:World}{K:PySem.W.Frag}{mg:Str→Option Value}{base:Heap}
theorem scMd:FnScope ["_law_net_here"] ["_law_net_here"] (zak ze2):=⟨rfl,rfl,rfl,by decide +kernel,rfl,by decide +kernel,by decide +kernel⟩
theorem zgJ {f:Addr}{fd:FuncData}(F:Fun K "_law_model" "_law_model" ze2 f fd) (G:Mgs mg):FnOk P w K mg base CX0 1 f fd ["_law_net_here"] zdz:=by
 refine F.ok scMd (fun vs H Q E h=>?_) (fun cdv A outer s H vs Q E hr h=>?_)
 ·obtain⟨l,r,fr,er,ps,N,rfl,_⟩:=h
  rfl
 obtain⟨l,r,fr,er,ps,N,rfl,ok,na,S,k⟩:=h
 refine⟨_,(@zah _ _ _ (@zav _ _ _ _ (@zh0 _ _ _ _ _ (zcF zax (@zas _ _ _ _ _ _ _ _ zhg (@zaO _ _ _ _ (@zaa _ _ _ _ _ zae zab (by rfl))) (@zar _ _ _ _ _ _ _ _ _ zao (by rfl) G.len PySem.boot_len (@zaa _ _ _ _ _ (@zaq _ _ _ _ _ _ _ zam (@pv _ 0 _ _ (by rfl) (by first|exact Or.inl rfl|exact Or.inr (.inl rfl)|exact Or.inr (.inr rfl)) (by decide) (by decide)) zae (fun _ _=>rfl)) zab (by rfl)) (by decide) (by decide) (by rfl) (by rfl))) (zcF zax (@zaO _ _ _ _ zab) (zcF zax (@zas _ _ _ _ _ _ _ _ zhg (@zaO _ _ _ _ (@zaa _ _ _ _ _ zae zab (by rfl))) (@zaq _ _ _ _ _ _ _ zam (@pv _ 0 _ _ (by rfl) (by first|exact Or.inl rfl|exact Or.inr (.inl rfl)|exact Or.inr (.inr rfl)) (by decide) (by decide)) zae (fun _ _=>rfl))) zhW))) rfl rfl (by simp) (by decide)))),?_⟩
 have fm:=ok.fm
 have l16:=ok.l16
 have pl:=na.prs.len
 intro d hd
 have s0:=zad hd (.dK [])
 refine⟨(by show 1≤sizeLine;decide),fun p1 hp1=>?_⟩
 have s1:=zad hp1 (.lst [.int 0])
 have na1:=na.tups (Tups.of (s0.trans s1))
 refine⟨_,rfl,r,_,1,_,rfl,rfl,SqT.of na1.net,rfl,fr,_,rfl,.inr (SqT.of na1.forks),p1,ps.length,_,rfl,rfl,zac,by lia,by lia,by show 1*_≤sizeLine;rw[sizeLine_eq];lia,fun lt hlt=>?_⟩
 rw[Int.toNat_natCast,ziL,pl]
 have s2:=zad hlt (.lst ((List.replicate N.forks.length (0:Int)).map V.int))
 have e2:=zac (H:=L2.upd (L2.upd H d (.dK [])) p1 (.lst [.int 0])) (a:=lt) (o:=.lst ((List.replicate N.forks.length (0:Int)).map V.int))
 refine⟨(by show 0≤sizeLine;decide),fun lg hlg=>?_⟩
 have s3:=zad hlg (.lst [])
 refine⟨(by show 1≤sizeLine;decide),fun p2 hp2=>?_⟩
 have s4:=zad hp2 (.lst [.int 0])
 have u4:=(((s0.trans s1).trans s2).trans s3).trans s4
 have na4:=na.tups (Tups.of u4)
 refine⟨_,rfl,r,_,0,_,rfl,rfl,SqT.of na4.net,rfl,p2,N.lanes,_,rfl,rfl,zac,by lia,by lia,by show 1*_≤sizeLine;rw[sizeLine_eq];lia,fun lo hlo=>?_⟩
 rw[Int.toNat_natCast,ziL]
 have s5:=zad hlo (.lst ((List.replicate N.lanes (0:Int)).map V.int))
 have t5:=(((s1.trans s2).trans s3).trans s4).trans s5
 refine⟨t5 _ _ zac,mdK lt lg lo,rfl,by show 3≤15;decide,?_⟩
 have em:zcg [] (mdK lt lg lo)=mdK lt lg lo:=by
  show putK (putK (putK [] (Sum.inr "turns":Key) (.ref lt)) (Sum.inr "groups":Key) (.ref lg)) (Sum.inr "out":Key) (.ref lo)=_
  unfold putK
  simp only[List.any_nil,Bool.false_eq_true,if_false,List.nil_append,List.any_cons,Bool.or_false,List.cons_append,decide_eq_true_eq,Bool.or_eq_true]
  obtain⟨a,b,c⟩:=zgX
  rw[if_neg a]
  simp only[List.any_cons,List.any_nil,Bool.or_false,Bool.or_eq_true,decide_eq_true_eq]
  rw[if_neg (fun z=>z.elim b c)]
  rfl
 rw[em]
 have ht:=((s3.trans s4).trans s5) _ _ e2
 have hg:=(s4.trans s5) _ _ (zac (H:=L2.upd (L2.upd (L2.upd H d (.dK [])) p1 (.lst [.int 0])) lt (.lst ((List.replicate N.forks.length (0:Int)).map V.int))) (a:=lg) (o:=.lst []))
 have n1:lt≠lg:=zai e2 hlg
 have n2:lt≠lo:=zai ((s3.trans s4) _ _ e2) hlo
 have n3:lg≠lo:=zai (s4 _ _ (zac (H:=L2.upd (L2.upd (L2.upd H d (.dK [])) p1 (.lst [.int 0])) lt (.lst ((List.replicate N.forks.length (0:Int)).map V.int))) (a:=lg) (o:=.lst []))) hlo
 have d1:d≠lt:=zai (s1 _ _ zac) hlt
 have d2:d≠lg:=zai ((s1.trans s2) _ _ zac) hlg
 have d3:d≠lo:=zai ((((s1.trans s2).trans s3).trans s4) _ _ zac) hlo
 have back:∀ {Hx:Hp}{x:Addr},Same H Hx→Hx x=none→H x=none:=fun {Hx x} sx hx=>by
  cases e:H x with
  | none=>rfl
  | some o=>rw[sx _ _ e]at hx;cases hx
 have f1:=back (s0.trans s1) hlt
 have f2:=back ((s0.trans s1).trans s2) hlg
 have f3:=back u4 hlo
 have u5:=u4.trans s5
 have sf:Same H (L2.upd (L2.upd (L2.upd (L2.upd (L2.upd (L2.upd (L2.upd H d (.dK [])) p1 (.lst [.int 0])) lt (.lst ((List.replicate N.forks.length (0:Int)).map V.int))) lg (.lst [])) p2 (.lst [.int 0])) lo (.lst ((List.replicate N.lanes (0:Int)).map V.int))) d (.dK (mdK lt lg lo))):=fun b o e=>by
  rw[zaj (zai e hd)];exact u5 _ _ e
 refine k d lt lg lo _ sf ⟨zac,by rw[zaj d1.symm];exact ht,by rw[zaj d2.symm];exact hg,by rw[zaj d3.symm];exact zac,trivial,?_,?_,But.of sf,S.keep sf⟩
 ·have l1:=S.ne f1
  have l2:=S.ne f2
  have l3:=S.ne f3
  simp[l1,l2,l3,n1,n2,n3]
 ·intro x hx
  simp only[List.mem_cons,or_false,List.not_mem_nil]at hx
  rcases hx with rfl|rfl|rfl
  ·exact f1
  ·exact f2
  ·exact f3
theorem scAh:FnScope ["_law_net_here","_law_lane","_law_number","_law_some"] ["_law_net_here","_law_lane","_law_number"] (zak ze9):=⟨rfl,rfl,rfl,by decide +kernel,rfl,by decide +kernel,by decide +kernel⟩
theorem zgQ {f:Addr}{fd:FuncData}(F:Fun K "_law_ahead" "_law_ahead" ze9 f fd) (G:Mgs mg):FnOk P w K mg base CX0 1 f fd ["_law_net_here","_law_lane","_law_number"] zcz:=by
 refine F.ok scAh (fun vs H Q E h=>?_) (fun cdv A outer s H vs Q E hr h=>?_)
 ·obtain⟨r,fr,er,ps,N,lane,n,m,rfl,_⟩:=h
  rfl
 obtain⟨r,fr,er,ps,N,lane,n,m,rfl,ok,na,em,ml,k⟩:=h
 refine⟨_,(@zaf _ _ _ _ _ (@zgq _ 3 _ _ _ _ (some _) _ _ _ _ _ (gTup K 2 (zdV (zb9 0) (zdV (zb9 1) gNil))) _ _ ["_law_k","_law_fork","_law_number","_law_lane"] [none,none,some 2,some 1] scAh.nd rfl rfl rfl (@zdK _ _ _ _ _ _ _ _ false rfl G.enum (@zaa _ _ _ _ _ (@zaq _ _ _ _ _ _ _ zam (@pv _ 0 _ _ (by rfl) (by first|exact Or.inl rfl|exact Or.inr (.inl rfl)|exact Or.inr (.inr rfl)) (by decide) (by decide)) zae (fun _ _=>rfl)) zab (by rfl)) (by rfl)) (CapOk.of (by kernel_rfl)) (fun _ _ _ _ _=>(@zaY _ _ _ _ _ _ rfl (@zal _ _ _ _ _ (@zap _ _ 0 _ (show (["_law_k","_law_fork","_law_number","_law_lane"]:List Str).Nodup from by decide +kernel) rfl (.inl rfl) (.inr rfl)) (@zal _ _ _ _ _ (@zap _ _ 1 _ (show (["_law_k","_law_fork","_law_number","_law_lane"]:List Str).Nodup from by decide +kernel) rfl (.inl rfl) (.inr rfl)) zaM (by rfl)) (by rfl)) (by rfl) (by rfl))) (fun _ _ _ _ _=>(@zcD _ _ _ (PW.pt (@zbW _ _ _ _ _ _ _ (@zau _ _ _ _ _ _ _ _ zh2 (@pv _ 0 _ _ (by rfl) (by first|exact Or.inl rfl|exact Or.inr (.inl rfl)|exact Or.inr (.inr rfl)) (by decide) (by decide)) (@pv _ 2 _ _ (by rfl) (by first|exact Or.inl rfl|exact Or.inr (.inl rfl)|exact Or.inr (.inr rfl)) (by decide) (by decide)) (zay _)) (@zbm _ _ _ _ (@zau _ _ _ _ _ _ _ (rIn K false) zfl (@pv _ 3 _ _ (by rfl) (by first|exact Or.inl rfl|exact Or.inr (.inl rfl)|exact Or.inr (.inr rfl)) (by decide) (by decide)) (@pv _ 1 _ _ (by rfl) (by first|exact Or.inl rfl|exact Or.inr (.inl rfl)|exact Or.inr (.inr rfl)) (by decide) (by decide)) (by rfl))))))) (fun _ _ _ _ _=>(@pv _ 0 _ _ (by rfl) (by first|exact Or.inl rfl|exact Or.inr (.inl rfl)|exact Or.inr (.inr rfl)) (by decide) (by decide))) (by intro _;rfl) (by with_unfolding_all rfl)) (@zah _ _ _ (@zav _ _ _ _ (@zaq _ _ _ _ _ _ _ zaK (@zas _ _ _ _ _ _ _ _ zi9 (@pv _ 3 _ _ (by rfl) (by first|exact Or.inl rfl|exact Or.inr (.inl rfl)|exact Or.inr (.inr rfl)) (by decide) (by decide)) (@zaO _ _ _ _ (@zaa _ _ _ _ _ (@zar _ _ _ _ _ _ _ _ _ zao (by rfl) G.len PySem.boot_len (@zaa _ _ _ _ _ (@zaq _ _ _ _ _ _ _ zam (@pv _ 0 _ _ (by rfl) (by first|exact Or.inl rfl|exact Or.inr (.inl rfl)|exact Or.inr (.inr rfl)) (by decide) (by decide)) zae (fun _ _=>rfl)) zab (by rfl)) (by decide) (by decide) (by rfl) (by rfl)) zab (by rfl)))) zae (fun _ _=>rfl))))),?_⟩
 have fm:=ok.fm
 have pl:=na.prs.len
 refine⟨_,rfl,r,_,1,_,rfl,rfl,SqT.of na.net,rfl,fr,ps,rfl,SqT.of na.forks,fun l hl=>?_⟩
 refine zeh (K:=K) (b:=false) (a:=fr) (xs:=ps) (fun i acc σ H2=>(∃ v0 v1,σ=[v0,v1,some (.int n),some (.int lane)])∧Same H H2∧H2 l=some (.lst acc)∧acc.length≤i∧((acc=[]∧∀ j g,m≤j→j<i→N.forks[j]?=some g→¬(lane=g.1∨lane=g.2))∨∃ (kk:Nat) (rest:List V),acc=.int kk::rest∧IsNext N.forks lane m kk))
  ⟨⟨_,_,rfl⟩,zad hl _,zac,Nat.le_refl _,.inl ⟨rfl,fun j g _ h=>absurd h (Nat.not_lt_zero _)⟩⟩ (fun i acc σ H2 z=>⟨z.2.2.1,SqT.of (z.2.1 _ _ na.forks)⟩) ?_ ?_
 ·rintro i acc σ H2 x T hx hT ⟨⟨v0,v1,rfl⟩,s2,h2,al,alt⟩
  obtain⟨a,g,rfl,eg,ha⟩:=(na.prs.tups (Tups.of s2)).get hx
  have gi:i<N.forks.length:=(List.getElem?_eq_some_iff.mp eg).1
  have sT:=zad hT (.tup [.int i,.ref a])
  have hTl:=sT _ _ h2
  refine⟨T,_,rfl,SqT.of zac,rfl,_,_,rfl,_,_,rfl,rfl,?_⟩
  refine⟨_,rfl,_,rfl,_,_,rfl,rfl,_,rfl,?_⟩
  have skip:(m≤i→¬(lane=g.1∨lane=g.2))→(acc=[]∧∀ j g,m≤j→j<i+1→N.forks[j]?=some g→¬(lane=g.1∨lane=g.2))∨∃ (kk:Nat) (rest:List V),acc=.int kk::rest∧IsNext N.forks lane m kk:=fun no=>by
   rcases alt with ⟨e,no'⟩|z
   ·refine .inl ⟨e,fun j g' hj hj' eg'=>?_⟩
    by_cases y:j=i
    ·subst y
     rw[eg]at eg'
     obtain rfl:=Option.some.inj eg'
     exact no hj
    ·exact no' j g' hj (by lia) eg'
   ·exact .inr z
  by_cases c:n<(i:Int)
  ·rw[decide_eq_true c]
   have mi:m≤i:=by lia
   refine iteT ⟨_,rfl,_,rfl,a,_,rfl,.inr (SqT.of (sT _ _ ha)),rfl,rfl,_,rfl,?_⟩
   show (if inV (V.int lane) [V.int g.1,V.int g.2]=true then _ else _)
   rw[zjm]
   by_cases on:lane=g.1∨lane=g.2
   ·rw[decide_eq_true on]
    refine iteT ⟨_,rfl,hTl,by rw[sizeLine_eq];lia,nx (by lia) ⟨⟨_,_,rfl⟩,fun b o e=>?_,zac,by rw[List.length_append];exact Nat.succ_le_succ al,?_⟩⟩
    ·rw[zaj (zai e hl)];exact sT _ _ (s2 _ _ e)
    ·rcases alt with ⟨rfl,no'⟩|⟨kk,rest,rfl,z⟩
     ·exact .inr ⟨i,[],rfl,mi,Nat.le_of_lt gi,fun j g' hj hj'=>no' j g' hj hj',fun g' eg'=>by
       rw[eg]at eg'
       obtain rfl:=Option.some.inj eg'
       exact on⟩
     ·exact .inr ⟨kk,rest++[.int i],rfl,z⟩
   ·rw[decide_eq_false on]
    exact iteF (nx (by lia) ⟨⟨_,_,rfl⟩,s2.trans sT,hTl,by lia,skip fun _=>on⟩)
  ·rw[decide_eq_false c]
   exact iteF (iteF (nx (by lia) ⟨⟨_,_,rfl⟩,s2.trans sT,hTl,by lia,skip fun mi=>absurd mi (by lia)⟩))
 ·rintro acc σ H2 ⟨⟨v0,v1,rfl⟩,s2,h2,al,alt⟩
  have na2:=na.tups (Tups.of s2)
  refine⟨_,rfl,_,rfl,r,_,1,_,rfl,rfl,SqT.of na2.net,rfl,fr,_,rfl,.inr (SqT.of na2.forks),(by show 1≤sizeLine;decide),fun l2 hl2=>?_⟩
  have s3:=zad hl2 (.lst [.int (ps.length:Nat)])
  refine⟨l,l2,_,_,rfl,rfl,s3 _ _ h2,zac,by rw[sizeLine_eq];show _+1≤_;lia,fun l3 hl3=>?_⟩
  have s4:=zad hl3 (.lst (acc++[.int (ps.length:Nat)]))
  have u4:=(s2.trans s3).trans s4
  rcases alt with ⟨rfl,no'⟩|⟨kk,rest,rfl,z⟩
  ·refine⟨l3,_,0,_,rfl,rfl,SqL.of zac,zaJ (j:=0) rfl,?_⟩
   exact k ps.length _ u4 ⟨by lia,by lia,fun j g hj hj' eg=>no' j g hj (by lia) eg,fun g eg=>by have:=(List.getElem?_eq_some_iff.mp eg).1;lia⟩
  ·exact⟨l3,_,0,_,rfl,rfl,SqL.of zac,zaJ (j:=0) rfl,k kk _ u4 z⟩
theorem scSn:FnScope ["_law_model_here"] ["_law_model_here"] (zak zeZ):=⟨rfl,rfl,rfl,by decide +kernel,rfl,by decide +kernel,by decide +kernel⟩
theorem zgG {f:Addr}{fd:FuncData}(F:Fun K "_law_scene" "_law_scene" zeZ f fd) (G:Mgs mg):FnOk P w K mg base CX0 1 f fd ["_law_model_here"] zct:=by
 refine F.ok scSn (fun vs H Q E h=>?_) (fun cdv A outer s H vs Q E hr h=>?_)
 ·obtain⟨H0,l,d,lt,lg,lo,qa,ts,gs,os,rfl,_⟩:=h
  rfl
 obtain⟨H0,l,d,lt,lg,lo,qa,ts,gs,os,rfl,md,tl,gl,ol,k⟩:=h
 refine⟨_,(@zah _ _ _ (@zav _ _ _ _ (@zaA _ _ _ _ _ (@zaa _ _ _ _ _ (@zaI _ _ _ _ _ _ _ _ _ zaH (by rfl) G.tuple (by rfl) (@zaa _ _ _ _ _ (@zaN _ _ _ _ _ _ hr.u1 (@pv _ 0 _ _ (by rfl) (by first|exact Or.inl rfl|exact Or.inr (.inl rfl)|exact Or.inr (.inr rfl)) (by decide) (by decide)) zax (fun _ _=>rfl)) zab (by rfl)) (by decide) (by decide) (by rfl) (by rfl)) (@zaa _ _ _ _ _ (@zaI _ _ _ _ _ _ _ _ _ zaH (by rfl) G.tuple (by rfl) (@zaa _ _ _ _ _ (@zgv _ _ _ _ none _ _ _ _ _ _ ["_law_one"] [none] rfl (@zff _ _ _ _ (@zaN _ _ _ _ _ _ hr.u1 (@pv _ 0 _ _ (by rfl) (by first|exact Or.inl rfl|exact Or.inr (.inl rfl)|exact Or.inr (.inr rfl)) (by decide) (by decide)) zax (fun _ _=>rfl))) (CapOk.of (by kernel_rfl)) (fun _ _ _ _ _=>(@zap _ _ 0 _ (show (["_law_one"]:List Str).Nodup from by decide +kernel) rfl (.inl rfl) (.inr rfl))) (fun _ _ _ _ _=>zhS) (fun _ _ _ _ _=>(@zaI _ _ _ _ _ _ _ _ (zi0 K) zaH (by rfl) G.tuple (by rfl) (@zaa _ _ _ _ _ (@pv _ 0 _ _ (by rfl) (by first|exact Or.inl rfl|exact Or.inr (.inl rfl)|exact Or.inr (.inr rfl)) (by decide) (by decide)) zab (by rfl)) (by decide) (by decide) (by rfl) (by rfl))) (by intro _;rfl)) zab (by rfl)) (by decide) (by decide) (by rfl) (by rfl)) (@zaa _ _ _ _ _ (@zaI _ _ _ _ _ _ _ _ _ zaH (by rfl) G.tuple (by rfl) (@zaa _ _ _ _ _ (@zaN _ _ _ _ _ _ hr.u1 (@pv _ 0 _ _ (by rfl) (by first|exact Or.inl rfl|exact Or.inr (.inl rfl)|exact Or.inr (.inr rfl)) (by decide) (by decide)) zax (fun _ _=>rfl)) zab (by rfl)) (by decide) (by decide) (by rfl) (by rfl)) zab (by rfl)) (by rfl)) (by rfl))))),?_⟩
 have ql:=md.gl.len
 refine⟨_,rfl,d,.ref lt,rfl,md_t lt lg lo ▸ DGet.k (k:=.inr "turns") md.hd,lt,_,rfl,.inl ⟨SqL.of md.ht,fun tr htr=>?_⟩⟩
 have s1:=zad htr (.tup (ts.map V.int))
 have m1:=md.same s1
 refine⟨_,rfl,d,.ref lg,rfl,md_g lt lg lo ▸ DGet.k (k:=.inr "groups") m1.hd,lg,rfl,⟨_,SqL.of m1.hg⟩,fun lc hlc=>?_⟩
 refine zio (K:=K) (a:=lg) (xs:=qa.map V.ref) (fun i acc σ H2=>(∃ v0,σ=[v0])∧Same (L2.upd H tr (.tup (ts.map V.int))) H2∧H2 lc=some (.lst acc)∧Grs H2 acc (gs.take i)) ⟨⟨_,rfl⟩,zad hlc _,zac,trivial⟩ (fun i acc σ H2 z=>⟨z.2.2.1,SqL.of (z.2.1 _ _ m1.hg)⟩) ?_ ?_
 ·rintro i x acc σ H2 hx ⟨⟨v0,rfl⟩,s2,h2,g2⟩
  have il:i<qa.length:=by have:=(List.getElem?_eq_some_iff.mp hx).1;rwa [List.length_map]at this
  have ig:i<gs.length:=by lia
  obtain⟨a,ea,ha⟩:=(m1.same s2).gl.get (List.getElem?_eq_getElem ig)
  have ex:x=.ref a:=by
   rw[List.getElem?_map,ea]at hx
   exact(Option.some.inj hx).symm
  subst ex
  refine⟨_,rfl,a,_,rfl,.inl ⟨SqL.of ha,fun t ht=>?_⟩⟩
  have st:=zad ht (.tup [.int gs[i].many,.int gs[i].lane,.int gs[i].fork])
  have h3:=st _ _ h2
  have al:=g2.len
  rw[List.length_take]at al
  refine⟨h3,by rw[al,sizeLine_eq];lia,nx (by rw[List.length_map];exact il) ⟨⟨_,rfl⟩,fun b o e=>?_,zac,?_⟩⟩
  ·rw[zaj (zai e hlc)];exact st _ _ (s2 _ _ e)
  ·rw[List.take_succ_eq_append_getElem ig]
   exact((g2.tups (Tups.of st)).app (Grs.one zac)).tups (Tups.lst h3)
 ·rintro acc σ H2 ⟨⟨v0,rfl⟩,s2,h2,g2⟩
  rw[List.length_map,ql,List.take_length]at g2
  refine⟨lc,_,rfl,.inl ⟨SqL.of h2,fun gr hgr=>?_⟩⟩
  have s3:=zad hgr (.tup acc)
  have m3:=(m1.same s2).same s3
  refine⟨_,rfl,d,.ref lo,rfl,md_o lt lg lo ▸ DGet.k (k:=.inr "out") m3.hd,lo,_,rfl,.inl ⟨SqL.of m3.ho,fun ou hou=>?_⟩⟩
  have s4:=zad hou (.tup (os.map V.int))
  refine⟨(by show 3≤sizeLine;decide),fun sc hsc=>?_⟩
  have s5:=zad hsc (.tup [.ref tr,.ref gr,.ref ou])
  have t5:=(s3.trans s4).trans s5
  exact k sc tr gr ou acc _ ((s1.trans s2).trans t5) ⟨zac,(s2.trans t5) _ _ zac,(s4.trans s5) _ _ zac,g2.tups (Tups.of t5),s5 _ _ zac⟩
end
abbrev ze1:Stmt:=top 37
abbrev ze7:Stmt:=top 38
def PairAt (H:Hp) (gs:List Grp) (z:V):Prop:=∃ (a:Addr) (i j:Nat),z=.ref a∧H a=some (.tup [.int i,.int j])∧i<j∧j<gs.length∧Alike gs i j
theorem PairAt.tups {H H':Hp}{gs:List Grp}{z:V}(s:Tups H H') (h:PairAt H gs z):PairAt H' gs z:=by
 obtain⟨a,i,j,e,h,r⟩:=h
 exact⟨a,i,j,e,s _ _ h,r⟩
def zdy:Sp:=fun vs H Q _=>∃ H0 l d lt lg lo qa ts gs os,vs=[.ref d]∧MdAt H0 l H d lt lg lo qa ts gs os∧gs.length≤200∧∀ p zs H',Same H H'→H p=none→H' p=some (.lst zs)→zs.length≤40000→(∀ z∈zs,PairAt H' gs z)→Q (.ref p) H'
def zdC:Sp:=fun vs H Q _=>∃ H0 l d lt lg lo qa ts gs os r fr er ps N,vs=[.ref l,.ref r,.ref d]∧Nt.Ok N∧NetAt H r fr er ps N∧MdAt H0 l H d lt lg lo qa ts gs os∧gs.length≤200∧∀ t dd H',DeedAt H' t dd→DeedOk N gs dd→MdAt H0 l H' d lt lg lo qa ts gs os→But l H H'→Q (.ref t) H'
theorem ziP (a b c e:Nat):decide ([(a:Int),(b:Int)]=[(c:Int),(e:Int)])=decide (a=c∧b=e):=by
 refine decide_eq_decide.mpr ⟨fun h=>?_,fun h=>by rw[h.1,h.2]⟩
 have h1:=(List.cons.inj h).1
 have h2:=(List.cons.inj (List.cons.inj h).2).1
 lia
theorem zf2 (m:Int) (x y:Nat):cutV [.int m,.int x,.int y] (some 1) none=List.map V.int [(x:Int),(y:Int)]:=zbi _ 1 (by show 1≤3;decide)
section
variable {P:Program}{w:World}{K:PySem.W.Frag}{mg:Str→Option Value}{base:Heap}
theorem scPr:FnScope ["_law_model_here","_law_some","_law_found","_law_k","_law_other"] ["_law_model_here"] (zak ze1):=⟨rfl,rfl,rfl,by decide +kernel,rfl,by decide +kernel,by decide +kernel⟩
theorem zgI {f:Addr}{fd:FuncData}(F:Fun K "_law_pairs" "_law_pairs" ze1 f fd) (G:Mgs mg):FnOk P w K mg base CX0 1 f fd ["_law_model_here"] zdy:=by
 refine F.ok scPr (fun vs H Q E h=>?_) (fun cdv A outer s H vs Q E hr h=>?_)
 ·obtain⟨H0,l,d,lt,lg,lo,qa,ts,gs,os,rfl,_⟩:=h
  rfl
 obtain⟨H0,l,d,lt,lg,lo,qa,ts,gs,os,rfl,md,g200,k⟩:=h
 refine⟨_,(@zaf _ _ _ _ _ (@zaz _ _ 1 _ _ _ _ scPr.nd rfl (.inl rfl) (@zaN _ _ _ _ _ _ hr.u1 (@pv _ 0 _ _ (by rfl) (by first|exact Or.inl rfl|exact Or.inr (.inl rfl)|exact Or.inr (.inr rfl)) (by decide) (by decide)) zax (fun _ _=>rfl)) (by rfl) (by first|exact .inl rfl|exact .inr rfl|assumption)) (@zaf _ _ _ _ _ (@zaz _ _ 2 _ _ _ _ scPr.nd rfl (.inl rfl) (@zaO _ _ _ _ zab) (by rfl) (by first|exact .inl rfl|exact .inr rfl|assumption)) (@zaf _ _ _ _ _ (@zbG _ _ _ _ _ _ _ _ PassesOwn.never rfl (@zdK _ _ _ _ _ _ _ _ true rfl G.enum (@zaa _ _ _ _ _ (@pv _ 1 _ _ (by rfl) (by first|exact Or.inl rfl|exact Or.inr (.inl rfl)|exact Or.inr (.inr rfl)) (by decide) (by decide)) zab (by rfl)) (by rfl)) (@zaY _ _ _ _ _ _ rfl (@zal _ _ _ _ _ (@zap _ _ 3 _ scPr.nd rfl (.inr rfl) (by first|exact .inl rfl|exact .inr rfl|assumption)) (@zal _ _ _ _ _ (@zap _ _ 4 _ scPr.nd rfl (.inr rfl) (by first|exact .inl rfl|exact .inr rfl|assumption)) zaM (by rfl)) (by rfl)) (by rfl) (by rfl)) (@zah _ _ _ (@zba _ _ _ _ (@zcG _ _ _ _ _ _ _ _ _ _ _ _ PySem.F.plainAttrs_list PySem.F.slot_list_extend PySem.F.type_list_extend zfx (@pv _ 2 _ _ (by rfl) (by first|exact Or.inl rfl|exact Or.inr (.inl rfl)|exact Or.inr (.inr rfl)) (by decide) (by decide)) (@zaa _ _ _ _ _ (@zgv _ _ _ _ (some _) _ _ _ (gTup K 2 (zdV (zb9 0) (zdV (zb9 1) gNil))) _ _ ["_law_j","_law_one","_law_k","_law_other"] [none,none,some 3,some 4] rfl (@zdK _ _ _ _ _ _ _ _ true rfl G.enum (@zaa _ _ _ _ _ (@zaP _ _ _ _ _ _ _ _ _ _ zdF (@pv _ 1 _ _ (by rfl) (by first|exact Or.inl rfl|exact Or.inr (.inl rfl)|exact Or.inr (.inr rfl)) (by decide) (by decide)) zaX (@zaQ _ _ _ (@pv _ 3 _ _ (by rfl) (by first|exact Or.inl rfl|exact Or.inr (.inl rfl)|exact Or.inr (.inr rfl)) (by decide) (by decide)))) zab (by rfl)) (by rfl)) (CapOk.of (by kernel_rfl)) (fun _ _ _ _ _=>(@zaY _ _ _ _ _ _ rfl (@zal _ _ _ _ _ (@zap _ _ 0 _ (show (["_law_j","_law_one","_law_k","_law_other"]:List Str).Nodup from by decide +kernel) rfl (.inl rfl) (.inr rfl)) (@zal _ _ _ _ _ (@zap _ _ 1 _ (show (["_law_j","_law_one","_law_k","_law_other"]:List Str).Nodup from by decide +kernel) rfl (.inl rfl) (.inr rfl)) zaM (by rfl)) (by rfl)) (by rfl) (by rfl))) (fun _ _ _ _ _=>(@zcD _ _ _ (@zau _ _ _ _ _ _ _ (zjO K) (zh3 hr.units0) (@zaP _ _ _ _ _ _ _ _ _ (rSlL K) zdF (@pv _ 1 _ _ (by rfl) (by first|exact Or.inl rfl|exact Or.inr (.inl rfl)|exact Or.inr (.inr rfl)) (by decide) (by decide)) (@zaQ _ _ _ zae) zaX) (@zaP _ _ _ _ _ _ _ _ _ (rSlL K) zdF (@pv _ 3 _ _ (by rfl) (by first|exact Or.inl rfl|exact Or.inr (.inl rfl)|exact Or.inr (.inr rfl)) (by decide) (by decide)) (@zaQ _ _ _ zae) zaX) (zay _)))) (fun _ _ _ _ _=>(@zaA _ _ _ _ _ (@zaa _ _ _ _ _ (@pv _ 0 _ _ (by rfl) (by first|exact Or.inl rfl|exact Or.inr (.inl rfl)|exact Or.inr (.inr rfl)) (by decide) (by decide)) (@zaa _ _ _ _ _ (@pv _ 2 _ _ (by rfl) (by first|exact Or.inl rfl|exact Or.inr (.inl rfl)|exact Or.inr (.inr rfl)) (by decide) (by decide)) zab (by rfl)) (by rfl)))) (by intro _;rfl)) zab (by rfl)) (by rfl) (by rfl) (by rfl) (by rfl) (by rfl)) (by rfl))) (by intro _;rfl)) (@zah _ _ _ (@zav _ _ _ _ (@pv _ 2 _ _ (by rfl) (by first|exact Or.inl rfl|exact Or.inr (.inl rfl)|exact Or.inr (.inr rfl)) (by decide) (by decide))))))),?_⟩
 have ql:=md.gl.len
 refine⟨_,rfl,d,.ref lg,rfl,md_g lt lg lo ▸ DGet.k (k:=.inr "groups") md.hd,?_⟩
 refine⟨(by show 0≤sizeLine;decide),fun lf hlf=>?_⟩
 have sf:=zad hlf (.lst [])
 refine⟨_,rfl,lg,_,rfl,SqL.of (sf _ _ md.hg),?_⟩
 refine zg5 (K:=K) (b:=true) (a:=lg) (xs:=qa.map V.ref) (fun i σ H2=>∃ zs,(∃ v3 v4,σ=[some (.ref d),some (.ref lg),some (.ref lf),v3,v4])∧Same H H2∧H2 lf=some (.lst zs)∧zs.length≤i*200∧∀ z∈zs,PairAt H2 gs z)
  ⟨_,⟨_,_,rfl⟩,sf,zac,Nat.zero_le _,fun z hz=>absurd hz (by simp)⟩ (fun i σ H2 _ ⟨_,_,s2,_⟩=>SqL.of (s2 _ _ md.hg)) ?_ ?_
 ·rintro i x σ H2 T hx hT ⟨zs,⟨v3,v4,rfl⟩,s2,h2,zl,pz⟩
  have il:i<qa.length:=by have:=(List.getElem?_eq_some_iff.mp hx).1;rwa [List.length_map]at this
  have ig:i<gs.length:=by lia
  have eg:gs[i]?=some gs[i]:=List.getElem?_eq_getElem ig
  generalize gs[i]=g at eg
  obtain⟨a,ea,ha⟩:=(md.same s2).gl.get eg
  have ex:x=.ref a:=by
   rw[List.getElem?_map,ea]at hx
   exact(Option.some.inj hx).symm
  subst ex
  have sT:=zad hT (.tup [.int i,.ref a])
  have m3:=(md.same s2).same sT
  have ha3:=sT _ _ ha
  have h3:=sT _ _ h2
  have s3:=s2.trans sT
  have pz3:∀ z∈zs,PairAt (L2.upd H2 T (.tup [.int i,.ref a])) gs z:=fun z hz=>(pz z hz).tups (Tups.of sT)
  refine⟨T,_,rfl,SqT.of zac,rfl,_,_,rfl,_,_,rfl,rfl,?_⟩
  generalize L2.upd H2 T (.tup [.int i,.ref a])=H3 at m3 ha3 h3 s3 pz3 ⊢
  refine⟨_,rfl,.inl ⟨rfl,_,SqL.of h3⟩,?_⟩
  refine⟨_,rfl,_,rfl,i,rfl,lg,_,rfl,SqL.of m3.hg,fun p hp=>?_⟩
  rw[zbh _ _ (by rw[List.length_map];lia)]
  have sp:=zad hp (.lst ((qa.map V.ref).take i))
  refine⟨p,_,rfl,SqL.of zac,fun lc hlc=>?_⟩
  have sc:=zad hlc (.lst [])
  have pu:=sc _ _ (zac (H:=H3) (a:=p) (o:=.lst ((qa.map V.ref).take i)))
  have hlc3:H3 lc=none:=by
   cases e:H3 lc with
   | none=>rfl
   | some o=>rw[sp _ _ e]at hlc;cases hlc
  refine zeh (K:=K) (b:=true) (a:=p) (xs:=(qa.map V.ref).take i) (fun j acc σ H4=>(∃ v0 v1,σ=[v0,v1,some (.int i),some (.ref a)])∧Same (L2.upd H3 p (.lst ((qa.map V.ref).take i))) H4∧H4 lc=some (.lst acc)∧acc.length≤j∧∀ z∈acc,PairAt H4 gs z)
   ⟨⟨_,_,rfl⟩,sc,zac,Nat.le_refl _,fun z hz=>absurd hz (by simp)⟩ (fun j acc σ H4 z=>⟨z.2.2.1,SqL.of (z.2.1 _ _ zac)⟩) ?_ ?_
  ·rintro j acc σ H4 x U hx hU ⟨⟨v0,v1,rfl⟩,s4,h4,al,pa⟩
   have jl:j<i:=by have:=(List.getElem?_eq_some_iff.mp hx).1;rw[List.length_take]at this;lia
   have eh:gs[j]?=some gs[j]:=List.getElem?_eq_getElem (by lia)
   generalize gs[j]=h at eh
   have m4:=(m3.same sp).same s4
   obtain⟨b,eb,hb⟩:=m4.gl.get eh
   have ex:x=.ref b:=by
    rw[List.getElem?_take_of_lt jl,List.getElem?_map,eb]at hx
    exact(Option.some.inj hx).symm
   subst ex
   have ha4:=s4 _ _ (sp _ _ ha3)
   have sU:=zad hU (.tup [.int j,.ref b])
   refine⟨U,_,rfl,SqT.of zac,rfl,_,_,rfl,_,_,rfl,rfl,?_⟩
   refine⟨_,rfl,_,rfl,b,_,rfl,SqL.of (sU _ _ hb),fun q1 hq1=>?_⟩
   rw[zf2]
   have s5:=zad hq1 (.lst (List.map V.int [(h.lane:Int),(h.fork:Int)]))
   refine⟨_,rfl,_,rfl,a,_,rfl,SqL.of (s5 _ _ (sU _ _ ha4)),fun q2 hq2=>?_⟩
   rw[zf2]
   have s6:=zad hq2 (.lst (List.map V.int [(g.lane:Int),(g.fork:Int)]))
   refine⟨q1,q2,[(h.lane:Int),(h.fork:Int)],[(g.lane:Int),(g.fork:Int)],rfl,rfl,SqL.of (s6 _ _ zac),SqL.of zac,_,rfl,?_⟩
   have u6:=(sU.trans s5).trans s6
   have h6:=u6 _ _ h4
   have pa6:∀ z∈acc,PairAt _ gs z:=fun z hz=>(pa z hz).tups (Tups.of u6)
   have s46:=s4.trans u6
   rw[ziP]
   by_cases c:h.lane=g.lane∧h.fork=g.fork
   ·rw[decide_eq_true c]
    refine iteT ⟨_,rfl,_,rfl,(by show 2≤sizeLine;decide),fun t ht=>?_⟩
    have st:=zad ht (.tup [.int j,.int i])
    have h7:=st _ _ h6
    refine⟨h7,by rw[sizeLine_eq];lia,nx (by rw[List.length_take,List.length_map];lia) ⟨⟨_,_,rfl⟩,fun x o e=>?_,zac,by rw[List.length_append];exact Nat.succ_le_succ al,fun z hz=>?_⟩⟩
    ·rw[zaj (zai e hlc)];exact st _ _ (s46 _ _ e)
    ·rcases zaZ hz with hz|hz
     ·exact((pa6 z hz).tups (Tups.of st)).tups (Tups.lst h7)
     ·obtain rfl:=List.mem_singleton.mp hz
      refine⟨t,j,i,rfl,Tups.lst h7 _ _ zac,jl,ig,fun g1 h1 e1 e2=>?_⟩
      obtain rfl:=Option.some.inj (eh.symm.trans e1)
      obtain rfl:=Option.some.inj (eg.symm.trans e2)
      exact c
   ·rw[decide_eq_false c]
    exact iteF (nx (by rw[List.length_take,List.length_map];lia) ⟨⟨_,_,rfl⟩,s46,h6,by lia,pa6⟩)
  ·rintro acc σ H4 ⟨⟨v0,v1,rfl⟩,s4,h4,al,pa⟩
   rw[List.length_take,List.length_map]at al
   have s34:=sp.trans s4
   have h44:=s34 _ _ h3
   refine⟨lf,lc,_,_,rfl,rfl,h44,h4,by rw[sizeLine_eq];lia,zs++acc,⟨_,_,rfl⟩,fun x o e=>?_,zac,by rw[List.length_append];lia,fun z hz=>?_⟩
   ·rw[zaj (zai e hlf)];exact s34 _ _ (s3 _ _ e)
   ·rcases zaZ hz with hz|hz
    ·exact((pz3 z hz).tups (Tups.of s34)).tups (Tups.lst h44)
    ·exact(pa z hz).tups (Tups.lst h44)
 ·rintro σ H2 ⟨zs,⟨v3,v4,rfl⟩,s2,h2,zl,pz⟩
  rw[List.length_map]at zl
  exact⟨_,rfl,k lf zs H2 s2 hlf h2 (by lia) pz⟩
theorem scLd:FnScope ["_law_left_here","_law_net_here","_law_model_here","_law_way","_law_pairs_here"] ["_law_left_here","_law_net_here","_law_model_here"] (zak ze7):=⟨rfl,rfl,rfl,by decide +kernel,rfl,by decide +kernel,by decide +kernel⟩
theorem zgO {f fK fP fO fM:Addr}{fd dK dP dO dM:FuncData}(F:Fun K "_law_deed" "_law_deed" ze7 f fd) (G:Mgs mg) (UK:Use P w K mg base "_law_pick" ["_law_left_here","_law_many_here"] 1 zbE fK dK) (UPa:Use P w K mg base "_law_pairs" ["_law_model_here"] 1 zdy fP dP) (UO:Use P w K mg base "_law_of" ["_law_left_here","_law_some"] 2 spOf fO dO) (UMa:Use P w K mg base "_law_many" ["_law_left_here"] 3 zcw fM dM):FnOk P w K mg base CX0 4 f fd ["_law_left_here","_law_net_here","_law_model_here"] zdC:=by
 refine F.ok scLd (fun vs H Q E h=>?_) (fun cdv A outer s H vs Q E hr h=>?_)
 ·obtain⟨H0,l,d,lt,lg,lo,qa,ts,gs,os,r,fr,er,ps,N,rfl,_⟩:=h
  rfl
 obtain⟨H0,l,d,lt,lg,lo,qa,ts,gs,os,r,fr,er,ps,N,rfl,ok,na,md,g200,k⟩:=h
 have hr1:Room 1 _:=hr.mono (by decide)
 have hr2:Room 2 _:=hr.mono (by decide)
 have hr3:Room 3 _:=hr.mono (by decide)
 refine⟨_,(@zaf _ _ _ _ _ (@zaz _ _ 3 _ _ _ _ scLd.nd rfl (.inl rfl) (@zag _ _ _ _ _ _ _ _ _ _ _ _ _ _ _ _ UK.ok hr1 (by rfl) UK.m UK.kp UK.b .nil zat (@zaa _ _ _ _ _ (@pv _ 0 _ _ (by rfl) (by first|exact Or.inl rfl|exact Or.inr (.inl rfl)|exact Or.inr (.inr rfl)) (by decide) (by decide)) (@zaa _ _ _ _ _ zae zab (by rfl)) (by rfl)) (by decide) (by rfl) (by rfl)) (by rfl) (by first|exact .inl rfl|exact .inr rfl|assumption)) (@zaf _ _ _ _ _ (@zaz _ _ 4 _ _ _ _ scLd.nd rfl (.inl rfl) (@zag _ _ _ _ _ _ _ _ _ _ _ _ _ _ _ _ UPa.ok hr1 (by rfl) UPa.m UPa.kp UPa.b .nil zat (@zaa _ _ _ _ _ (@pv _ 2 _ _ (by rfl) (by first|exact Or.inl rfl|exact Or.inr (.inl rfl)|exact Or.inr (.inr rfl)) (by decide) (by decide)) zab (by rfl)) (by decide) (by rfl) (by rfl)) (by rfl) (by first|exact .inl rfl|exact .inr rfl|assumption)) (@zaf _ _ _ _ _ (@zaU _ _ _ _ _ _ _ _ (@zbW _ _ _ _ _ _ _ (@zau _ _ _ _ _ _ _ _ zbK (@pv _ 3 _ _ (by rfl) (by first|exact Or.inl rfl|exact Or.inr (.inl rfl)|exact Or.inr (.inr rfl)) (by decide) (by decide)) zae (zay _)) (@zbm _ _ _ _ (@zau _ _ _ _ _ _ _ _ (zfk hr.units0) (@pv _ 4 _ _ (by rfl) (by first|exact Or.inl rfl|exact Or.inr (.inl rfl)|exact Or.inr (.inr rfl)) (by decide) (by decide)) (@zaO _ _ _ _ zab) (zay _)))).pt (@zah _ _ _ (@zav _ _ _ _ (@zas _ _ _ _ _ _ _ _ za3 (@zaA _ _ _ _ _ (@zaa _ _ _ _ _ zax zab (by rfl))) (@zag _ _ _ _ _ _ _ _ _ _ _ _ _ _ _ _ UO.ok hr2 (by rfl) UO.m UO.kp UO.b .nil zat (@zaa _ _ _ _ _ (@pv _ 0 _ _ (by rfl) (by first|exact Or.inl rfl|exact Or.inr (.inl rfl)|exact Or.inr (.inr rfl)) (by decide) (by decide)) (@zaa _ _ _ _ _ (@pv _ 4 _ _ (by rfl) (by first|exact Or.inl rfl|exact Or.inr (.inl rfl)|exact Or.inr (.inr rfl)) (by decide) (by decide)) zab (by rfl)) (by rfl)) (by decide) (by rfl) (by rfl))))) zaD) (@zaf _ _ _ _ _ (@zaU _ _ _ _ _ _ _ _ (@zi1 _ _ _ _ _ _ _ (@zau _ _ _ _ _ _ _ _ (zh4 hr.units0) (@zaN _ _ _ _ _ _ hr.u1 (@pv _ 2 _ _ (by rfl) (by first|exact Or.inl rfl|exact Or.inr (.inl rfl)|exact Or.inr (.inr rfl)) (by decide) (by decide)) zax (fun _ _=>rfl)) (@zaO _ _ _ _ zab) (zay _)) (@zhe _ _ _ _ (@zbW _ _ _ _ _ _ _ (@zau _ _ _ _ _ _ _ _ zev (@pv _ 3 _ _ (by rfl) (by first|exact Or.inl rfl|exact Or.inr (.inl rfl)|exact Or.inr (.inr rfl)) (by decide) (by decide)) zae (zay _)) (@zbm _ _ _ _ (@zau _ _ _ _ _ _ _ _ zev (@zar _ _ _ _ _ _ _ _ _ zao (by rfl) G.len PySem.boot_len (@zaa _ _ _ _ _ (@zaN _ _ _ _ _ _ hr.u1 (@pv _ 2 _ _ (by rfl) (by first|exact Or.inl rfl|exact Or.inr (.inl rfl)|exact Or.inr (.inr rfl)) (by decide) (by decide)) zax (fun _ _=>rfl)) zab (by rfl)) (by decide) (by decide) (by rfl) (by rfl)) zae (zay _)))).pt)).pt (@zah _ _ _ (@zav _ _ _ _ (@zaA _ _ _ _ _ (@zaa _ _ _ _ _ zax (@zaa _ _ _ _ _ (@zag _ _ _ _ _ _ _ _ _ _ _ _ _ _ _ _ UK.ok hr1 (by rfl) UK.m UK.kp UK.b .nil zat (@zaa _ _ _ _ _ (@pv _ 0 _ _ (by rfl) (by first|exact Or.inl rfl|exact Or.inr (.inl rfl)|exact Or.inr (.inr rfl)) (by decide) (by decide)) (@zaa _ _ _ _ _ (@zaq _ _ _ _ _ _ _ zam (@pv _ 1 _ _ (by rfl) (by first|exact Or.inl rfl|exact Or.inr (.inl rfl)|exact Or.inr (.inr rfl)) (by decide) (by decide)) zae (fun _ _=>rfl)) zab (by rfl)) (by rfl)) (by decide) (by rfl) (by rfl)) (@zaa _ _ _ _ _ (@zag _ _ _ _ _ _ _ _ _ _ _ _ _ _ _ _ UMa.ok hr3 (by rfl) UMa.m UMa.kp UMa.b .nil zat (@zaa _ _ _ _ _ (@pv _ 0 _ _ (by rfl) (by first|exact Or.inl rfl|exact Or.inr (.inl rfl)|exact Or.inr (.inr rfl)) (by decide) (by decide)) zab (by rfl)) (by decide) (by rfl) (by rfl)) zab (by rfl)) (by rfl)) (by rfl))))) zaD) (@zah _ _ _ (@zav _ _ _ _ (@zaA _ _ _ _ _ (@zaa _ _ _ _ _ zax (@zaa _ _ _ _ _ (@zag _ _ _ _ _ _ _ _ _ _ _ _ _ _ _ _ UK.ok hr1 (by rfl) UK.m UK.kp UK.b .nil zat (@zaa _ _ _ _ _ (@pv _ 0 _ _ (by rfl) (by first|exact Or.inl rfl|exact Or.inr (.inl rfl)|exact Or.inr (.inr rfl)) (by decide) (by decide)) (@zaa _ _ _ _ _ (@zar _ _ _ _ _ _ _ _ _ zao (by rfl) G.len PySem.boot_len (@zaa _ _ _ _ _ (@zaN _ _ _ _ _ _ hr.u1 (@pv _ 2 _ _ (by rfl) (by first|exact Or.inl rfl|exact Or.inr (.inl rfl)|exact Or.inr (.inr rfl)) (by decide) (by decide)) zax (fun _ _=>rfl)) zab (by rfl)) (by decide) (by decide) (by rfl) (by rfl)) zab (by rfl)) (by rfl)) (by decide) (by rfl) (by rfl)) zab (by rfl)) (by rfl))))))))),?_⟩
 have ql:=md.gl.len
 have l16:=ok.l16
 have l1:=ok.l1
 refine⟨_,rfl,l,8,rfl,by decide,by decide,md.pk,fun v H1 hv S1 B1=>?_⟩
 have md1:=md.pick B1 S1
 refine⟨_,rfl,H0,l,d,lt,lg,lo,qa,ts,gs,os,rfl,md1,g200,fun p zs H2 s2 hp0 hp zl prs=>?_⟩
 have md2:=md1.same s2
 have B2:=B1.trans (But.of s2)
 have pl:p≠l:=(S1.ne hp0).symm
 have na2:=(na.tups (B1.tups md.pk)).tups (Tups.of s2)
 refine⟨_,rfl,rfl,_,rfl,?_⟩
 rw[zdS]
 by_cases v0:(v:Int)=0
 ·rw[decide_eq_true v0]
  refine iteT ⟨_,rfl,(by show 0≤sizeLine;decide),fun e he=>?_⟩
  have s3:=zad he (.lst [])
  have hp3:=s3 _ _ hp
  have md3:=md2.same s3
  have B3:=B2.trans (But.of s3)
  have na3:=na2.tups (Tups.of s3)
  have prs3:∀ z∈zs,PairAt (L2.upd H2 e (.lst [])) gs z:=fun z hz=>(prs z hz).tups (Tups.of s3)
  refine⟨p,e,zs,rfl,rfl,SqL.of hp3,SqL.of zac,_,rfl,?_⟩
  generalize L2.upd H2 e (.lst [])=H3 at hp3 md3 B3 na3 prs3 ⊢
  by_cases ze:zs=[]
  ·rw[ze]
   refine iteF ?_
   refine⟨_,rfl,d,.ref lg,rfl,md_g lt lg lo ▸ DGet.k (k:=.inr "groups") md3.hd,(by show 0≤sizeLine;decide),fun e1 he1=>?_⟩
   have s7:=zad he1 (.lst [])
   have md7:=md3.same s7
   have B7:=B3.trans (But.of s7)
   have na7:=na3.tups (Tups.of s7)
   refine⟨lg,e1,_,rfl,rfl,SqL.of md7.hg,SqL.of zac,_,rfl,?_⟩
   generalize L2.upd _ e1 (.lst [])=H7 at md7 B7 na7 ⊢
   by_cases ge:gs.length=0
   ·rw[show (qa.map V.ref).isEmpty=true from by rw[List.length_eq_zero_iff.mp (ql.trans ge)];rfl]
    refine iteT (iteT ?_)
    refine⟨_,rfl,_,rfl,r,_,0,_,rfl,rfl,SqT.of na7.net,rfl,l,N.lanes,rfl,by lia,by lia,md7.pk,fun lane H8 hl S8 B8=>?_⟩
    refine⟨_,rfl,l,rfl,S8,fun m H9 m0 m1 m2 S9 B9=>?_⟩
    refine⟨(by show 3≤sizeLine;decide),fun t ht=>?_⟩
    have st:=zad ht (.tup [.str "put",.int lane,.int m])
    exact k t (.put lane m) _ zac ⟨by lia,m0,m1,m2⟩ (((md7.pick B8 S8).pick B9 S9).same st) (((B7.trans B8).trans B9).trans (But.of st))
   ·rw[show (qa.map V.ref).isEmpty=false from by cases qa with
     | nil=>exact absurd ql.symm ge
     | cons _ _=>rfl]
    refine iteF ⟨_,rfl,_,_,rfl,rfl,_,rfl,?_⟩
    by_cases c1:(v:Int)<3
    ·rw[decide_eq_true c1]
     refine iteT ⟨_,rfl,d,.ref lg,rfl,md_g lt lg lo ▸ DGet.k (k:=.inr "groups") md7.hd,lg,_,rfl,.inl (SqL.of md7.hg),_,_,rfl,rfl,_,rfl,?_⟩
     by_cases c2:((qa.map V.ref).length:Int)<9
     ·rw[decide_eq_true c2]
      refine iteT ?_
      refine⟨_,rfl,_,rfl,r,_,0,_,rfl,rfl,SqT.of na7.net,rfl,l,N.lanes,rfl,by lia,by lia,md7.pk,fun lane H8 hl S8 B8=>?_⟩
      refine⟨_,rfl,l,rfl,S8,fun m H9 m0 m1 m2 S9 B9=>?_⟩
      refine⟨(by show 3≤sizeLine;decide),fun t ht=>?_⟩
      have st:=zad ht (.tup [.str "put",.int lane,.int m])
      exact k t (.put lane m) _ zac ⟨by lia,m0,m1,m2⟩ (((md7.pick B8 S8).pick B9 S9).same st) (((B7.trans B8).trans B9).trans (But.of st))
     ·rw[decide_eq_false c2]
      refine iteF ?_
      refine⟨_,rfl,_,rfl,d,.ref lg,rfl,md_g lt lg lo ▸ DGet.k (k:=.inr "groups") md7.hd,lg,_,rfl,.inl (SqL.of md7.hg),l,_,rfl,by rw[List.length_map];lia,by rw[List.length_map];lia,md7.pk,fun place H8 hl S8 B8=>?_⟩
      refine⟨(by show 2≤sizeLine;decide),fun t ht=>?_⟩
      have st:=zad ht (.tup [.str "step",.int place])
      exact k t (.step place) _ zac (show place<gs.length by rw[List.length_map]at hl;lia) ((md7.pick B8 S8).same st) ((B7.trans B8).trans (But.of st))
    ·rw[decide_eq_false c1]
     refine iteF (iteF ?_)
     refine⟨_,rfl,_,rfl,d,.ref lg,rfl,md_g lt lg lo ▸ DGet.k (k:=.inr "groups") md7.hd,lg,_,rfl,.inl (SqL.of md7.hg),l,_,rfl,by rw[List.length_map];lia,by rw[List.length_map];lia,md7.pk,fun place H8 hl S8 B8=>?_⟩
     refine⟨(by show 2≤sizeLine;decide),fun t ht=>?_⟩
     have st:=zad ht (.tup [.str "step",.int place])
     exact k t (.step place) _ zac (show place<gs.length by rw[List.length_map]at hl;lia) ((md7.pick B8 S8).same st) ((B7.trans B8).trans (But.of st))
  ·rw[show zs.isEmpty=false from by cases zs with
    | nil=>exact absurd rfl ze
    | cons _ _=>rfl]
   refine iteT ⟨(by show 1≤sizeLine;decide),fun u hu=>?_⟩
   have s4:=zad hu (.tup [.str "join"])
   have ul:u≠l:=(md3.pk.ne hu).symm
   have md4:=md3.same s4
   refine⟨_,rfl,_,rfl,l,p,zs,rfl,md4.pk,pl,s4 _ _ hp3,List.length_pos_iff.mpr ze,by lia,fun i x H5 hx S5 B5=>?_⟩
   obtain⟨a,i1,j1,rfl,ha,ij,jl,al⟩:=prs3 x (List.mem_of_getElem? hx)
   have al':a≠l:=by
    rintro rfl
    obtain⟨c1,c2,c3,_⟩:=md3.pk
    rw[c3]at ha;cases ha
   refine⟨u,a,_,_,rfl,rfl,B5 _ _ zac ul,B5 _ _ (s4 _ _ ha) al',by show 3≤sizeLine;decide,fun t H6 s6 ht=>?_⟩
   exact k t (.join i1 j1) H6 ht ⟨ij,jl,al⟩ ((md4.pick B5 S5).same s6) (((B3.trans (But.of s4)).trans B5).trans (But.of s6))
 ·rw[decide_eq_false v0]
  refine iteF (iteF ?_)
  refine⟨_,rfl,d,.ref lg,rfl,md_g lt lg lo ▸ DGet.k (k:=.inr "groups") md2.hd,(by show 0≤sizeLine;decide),fun e1 he1=>?_⟩
  have s7:=zad he1 (.lst [])
  have md7:=md2.same s7
  have B7:=B2.trans (But.of s7)
  have na7:=na2.tups (Tups.of s7)
  refine⟨lg,e1,_,rfl,rfl,SqL.of md7.hg,SqL.of zac,_,rfl,?_⟩
  generalize L2.upd _ e1 (.lst [])=H7 at md7 B7 na7 ⊢
  by_cases ge:gs.length=0
  ·rw[show (qa.map V.ref).isEmpty=true from by rw[List.length_eq_zero_iff.mp (ql.trans ge)];rfl]
   refine iteT (iteT ?_)
   refine⟨_,rfl,_,rfl,r,_,0,_,rfl,rfl,SqT.of na7.net,rfl,l,N.lanes,rfl,by lia,by lia,md7.pk,fun lane H8 hl S8 B8=>?_⟩
   refine⟨_,rfl,l,rfl,S8,fun m H9 m0 m1 m2 S9 B9=>?_⟩
   refine⟨(by show 3≤sizeLine;decide),fun t ht=>?_⟩
   have st:=zad ht (.tup [.str "put",.int lane,.int m])
   exact k t (.put lane m) _ zac ⟨by lia,m0,m1,m2⟩ (((md7.pick B8 S8).pick B9 S9).same st) (((B7.trans B8).trans B9).trans (But.of st))
  ·rw[show (qa.map V.ref).isEmpty=false from by cases qa with
    | nil=>exact absurd ql.symm ge
    | cons _ _=>rfl]
   refine iteF ⟨_,rfl,_,_,rfl,rfl,_,rfl,?_⟩
   by_cases c1:(v:Int)<3
   ·rw[decide_eq_true c1]
    refine iteT ⟨_,rfl,d,.ref lg,rfl,md_g lt lg lo ▸ DGet.k (k:=.inr "groups") md7.hd,lg,_,rfl,.inl (SqL.of md7.hg),_,_,rfl,rfl,_,rfl,?_⟩
    by_cases c2:((qa.map V.ref).length:Int)<9
    ·rw[decide_eq_true c2]
     refine iteT ?_
     refine⟨_,rfl,_,rfl,r,_,0,_,rfl,rfl,SqT.of na7.net,rfl,l,N.lanes,rfl,by lia,by lia,md7.pk,fun lane H8 hl S8 B8=>?_⟩
     refine⟨_,rfl,l,rfl,S8,fun m H9 m0 m1 m2 S9 B9=>?_⟩
     refine⟨(by show 3≤sizeLine;decide),fun t ht=>?_⟩
     have st:=zad ht (.tup [.str "put",.int lane,.int m])
     exact k t (.put lane m) _ zac ⟨by lia,m0,m1,m2⟩ (((md7.pick B8 S8).pick B9 S9).same st) (((B7.trans B8).trans B9).trans (But.of st))
    ·rw[decide_eq_false c2]
     refine iteF ?_
     refine⟨_,rfl,_,rfl,d,.ref lg,rfl,md_g lt lg lo ▸ DGet.k (k:=.inr "groups") md7.hd,lg,_,rfl,.inl (SqL.of md7.hg),l,_,rfl,by rw[List.length_map];lia,by rw[List.length_map];lia,md7.pk,fun place H8 hl S8 B8=>?_⟩
     refine⟨(by show 2≤sizeLine;decide),fun t ht=>?_⟩
     have st:=zad ht (.tup [.str "step",.int place])
     exact k t (.step place) _ zac (show place<gs.length by rw[List.length_map]at hl;lia) ((md7.pick B8 S8).same st) ((B7.trans B8).trans (But.of st))
   ·rw[decide_eq_false c1]
    refine iteF (iteF ?_)
    refine⟨_,rfl,_,rfl,d,.ref lg,rfl,md_g lt lg lo ▸ DGet.k (k:=.inr "groups") md7.hd,lg,_,rfl,.inl (SqL.of md7.hg),l,_,rfl,by rw[List.length_map];lia,by rw[List.length_map];lia,md7.pk,fun place H8 hl S8 B8=>?_⟩
    refine⟨(by show 2≤sizeLine;decide),fun t ht=>?_⟩
    have st:=zad ht (.tup [.str "step",.int place])
    exact k t (.step place) _ zac (show place<gs.length by rw[List.length_map]at hl;lia) ((md7.pick B8 S8).same st) ((B7.trans B8).trans (But.of st))
end
end K21
namespace L2
open PySem PySem.Spec PyProof.Rows Own
def zjN (K:PySem.W.Frag):V→V→Hp→VK→Prop:=fun o i H Q=>∃ (p:Addr) (xs:List V) (j:Nat) (v:V),o=.ref p∧i=.int j∧SqL K H p xs∧xs[j]?=some v∧Q v H
theorem zg3 {X:Cx}:PGet X (zjN X.K):=by
 intro pins s σ H o i ov iv Q I ro ri h
 obtain⟨p,xs,j,v,rfl,rfl,hq,hx,q⟩:=h
 cases ro
 obtain⟨t,rfl⟩:=ri
 obtain⟨its,r,pl,hz⟩:=I.list hq
 obtain⟨u,eu,ru⟩:=r.get hx
 have jl:=(List.getElem?_eq_some_iff.mp hx).1
 have z63:sizeLine<2 ^ 63:=by rw[sizeLine_eq];decide
 exact wpAny_getItem_list pl.isList (Int.natCast_nonneg _) (by lia) (by simpa using eu) ⟨v,H,I,ru,q⟩
end L2
namespace Bn
open PySem L2 Own
section
variable {n s p c u:Addr}
end
end Bn
namespace K21
open PySem L2 Own Bn
abbrev ze4:Stmt:=top 34
def zdA:Sp:=fun vs H Q _=>∃ H0 l d lt lg lo qa ts gs os r fr er ps N,∃ place:Nat,vs=[.ref r,.ref d,.int place]∧Nt.Ok N∧NetAt H r fr er ps N∧MdAt H0 l H d lt lg lo qa ts gs os∧ScOk N ts gs os∧gs.length≤900∧place<gs.length ∧
 ∀ qa' ts' gs' os' H',StepTo N place ts gs os ts' gs' os'→Tups H H'→MdAt H0 l H' d lt lg lo qa' ts' gs' os'→Q .non H'
theorem zfS (m t:Int) (h:t=0∨t=1):(m+t+1) / 2-(t+1) / 2=(t+m+1) / 2-t:=by lia
theorem nxt {D:Ends}{σ:St}{H:Hp}(h:D.nx σ H):ziT D σ H:=h
section
variable {P:Program}{w:World}{K:PySem.W.Frag}{mg:Str→Option Value}{base:Heap}
theorem scSp:FnScope ["_law_net_here","_law_model_here","_law_k","_law_many_here","_law_lane","_law_fork","_law_turn","_law_here","_law_both_here","_law_one"] ["_law_net_here","_law_model_here","_law_k"] (zak ze4):=⟨rfl,rfl,rfl,by decide +kernel,rfl,by decide +kernel,by decide +kernel⟩
theorem zgL {f fA:Addr}{fd dA:FuncData}(F:Fun K "_law_step" "_law_step" ze4 f fd) (G:Mgs mg) (UA:Use P w K mg base "_law_ahead" ["_law_net_here","_law_lane","_law_number"] 1 zcz fA dA):FnOk P w K mg base CX0 2 f fd ["_law_net_here","_law_model_here","_law_k"] zdA:=by
 refine F.ok scSp (fun vs H Q E h=>?_) (fun cdv A outer s H vs Q E hr h=>?_)
 ·obtain⟨H0,l,d,lt,lg,lo,qa,ts,gs,os,r,fr,er,ps,N,place,rfl,_⟩:=h
  rfl
 obtain⟨H0,l,d,lt,lg,lo,qa,ts,gs,os,r,fr,er,ps,N,place,rfl,ok,na,md,sk,g900,pl,k⟩:=h
 refine⟨_,(@zaf _ _ _ _ _ (@zaR _ _ _ _ _ _ (@zcG _ _ _ _ _ _ _ _ _ _ _ _ PySem.F.plainAttrs_list PySem.F.slot_list_pop PySem.F.type_list_pop zbM (@zaN _ _ _ _ _ _ hr.u1 (@pv _ 1 _ _ (by rfl) (by first|exact Or.inl rfl|exact Or.inr (.inl rfl)|exact Or.inr (.inr rfl)) (by decide) (by decide)) zax (fun _ _=>rfl)) (@zaa _ _ _ _ _ (@pv _ 2 _ _ (by rfl) (by first|exact Or.inl rfl|exact Or.inr (.inl rfl)|exact Or.inr (.inr rfl)) (by decide) (by decide)) zab (by rfl)) (by rfl) (by rfl) (by rfl) (by rfl) (by rfl)) (@zi4 _ _ _ _ _ _ rfl (@zal _ _ _ _ _ (@zap _ _ 3 _ scSp.nd rfl (.inl rfl) (by first|exact .inl rfl|exact .inr rfl|assumption)) (@zal _ _ _ _ _ (@zap _ _ 4 _ scSp.nd rfl (.inl rfl) (by first|exact .inl rfl|exact .inr rfl|assumption)) (@zal _ _ _ _ _ (@zap _ _ 5 _ scSp.nd rfl (.inl rfl) (by first|exact .inl rfl|exact .inr rfl|assumption)) zaM (by rfl)) (by rfl)) (by rfl)) (by rfl) (by rfl)) (by rfl) (by rfl) (by rfl)) (@zaf _ _ _ _ _ (@zaU _ _ _ _ _ _ _ _ (@zau _ _ _ _ _ _ _ _ zbK (@pv _ 5 _ _ (by rfl) (by first|exact Or.inl rfl|exact Or.inr (.inl rfl)|exact Or.inr (.inr rfl)) (by decide) (by decide)) (@zar _ _ _ _ _ _ _ _ _ zao (by rfl) G.len PySem.boot_len (@zaa _ _ _ _ _ (@zaq _ _ _ _ _ _ _ zam (@pv _ 0 _ _ (by rfl) (by first|exact Or.inl rfl|exact Or.inr (.inl rfl)|exact Or.inr (.inr rfl)) (by decide) (by decide)) zae (fun _ _=>rfl)) zab (by rfl)) (by decide) (by decide) (by rfl) (by rfl)) (zay _)) (@zaf _ _ _ _ _ (@zhV _ _ _ _ _ _ _ _ _ _ _ _ _ (@zaN _ _ _ _ _ _ hr.u1 (@pv _ 1 _ _ (by rfl) (by first|exact Or.inl rfl|exact Or.inr (.inl rfl)|exact Or.inr (.inr rfl)) (by decide) (by decide)) zax (fun _ _=>rfl)) (@zfg _ _ _ _ _ _ _ hr.units (@zaq _ _ _ _ _ _ _ zam (@pv _ 0 _ _ (by rfl) (by first|exact Or.inl rfl|exact Or.inr (.inl rfl)|exact Or.inr (.inr rfl)) (by decide) (by decide)) zae (fun _ _=>rfl)) (@zaa _ _ _ _ _ (@pv _ 4 _ _ (by rfl) (by first|exact Or.inl rfl|exact Or.inr (.inl rfl)|exact Or.inr (.inr rfl)) (by decide) (by decide)) zab (by rfl)) (by rfl) (by rfl) (by rfl) (by rfl)) zg3 (@pv _ 3 _ _ (by rfl) (by first|exact Or.inl rfl|exact Or.inr (.inl rfl)|exact Or.inr (.inr rfl)) (by decide) (by decide)) zhl zbf (by intros;rfl)) (@zah _ _ _ zhT)) zaD) (@zaf _ _ _ _ _ (@zaz _ _ 6 _ _ _ _ scSp.nd rfl (.inl rfl) (@zaq _ _ _ _ _ _ _ zaK (@zaN _ _ _ _ _ _ hr.u1 (@pv _ 1 _ _ (by rfl) (by first|exact Or.inl rfl|exact Or.inr (.inl rfl)|exact Or.inr (.inr rfl)) (by decide) (by decide)) zax (fun _ _=>rfl)) (@pv _ 5 _ _ (by rfl) (by first|exact Or.inl rfl|exact Or.inr (.inl rfl)|exact Or.inr (.inr rfl)) (by decide) (by decide)) (fun _ _=>rfl)) (by rfl) (by first|exact .inl rfl|exact .inr rfl|assumption)) (@zaf _ _ _ _ _ (@zaz _ _ 7 _ _ _ _ scSp.nd rfl (.inl rfl) (@zas _ _ _ _ _ _ _ _ zcd (@zas _ _ _ _ _ _ _ _ zcL (@zas _ _ _ _ _ _ _ _ zaB (@zas _ _ _ _ _ _ _ _ zaB (@pv _ 3 _ _ (by rfl) (by first|exact Or.inl rfl|exact Or.inr (.inl rfl)|exact Or.inr (.inr rfl)) (by decide) (by decide)) (@pv _ 6 _ _ (by rfl) (by first|exact Or.inl rfl|exact Or.inr (.inl rfl)|exact Or.inr (.inr rfl)) (by decide) (by decide))) zae) zae) (@zas _ _ _ _ _ _ _ _ zcL (@zas _ _ _ _ _ _ _ _ zaB (@pv _ 6 _ _ (by rfl) (by first|exact Or.inl rfl|exact Or.inr (.inl rfl)|exact Or.inr (.inr rfl)) (by decide) (by decide)) zae) zae)) (by rfl) (by first|exact .inl rfl|exact .inr rfl|assumption)) (@zaf _ _ _ _ _ (@zaz _ _ 8 _ _ _ _ scSp.nd rfl (.inl rfl) (@zaO _ _ _ _ (@zaa _ _ _ _ _ (@zaO _ _ _ _ (@zaa _ _ _ _ _ (@zas _ _ _ _ _ _ _ _ zcd (@pv _ 3 _ _ (by rfl) (by first|exact Or.inl rfl|exact Or.inr (.inl rfl)|exact Or.inr (.inr rfl)) (by decide) (by decide)) (@pv _ 7 _ _ (by rfl) (by first|exact Or.inl rfl|exact Or.inr (.inl rfl)|exact Or.inr (.inr rfl)) (by decide) (by decide))) (@zaa _ _ _ _ _ (@zaq _ _ _ _ _ _ _ zam (@zaq _ _ _ _ _ _ _ zam (@zaq _ _ _ _ _ _ _ zam (@pv _ 0 _ _ (by rfl) (by first|exact Or.inl rfl|exact Or.inr (.inl rfl)|exact Or.inr (.inr rfl)) (by decide) (by decide)) zae (fun _ _=>rfl)) (@pv _ 5 _ _ (by rfl) (by first|exact Or.inl rfl|exact Or.inr (.inl rfl)|exact Or.inr (.inr rfl)) (by decide) (by decide)) (fun _ _=>rfl)) zae (fun _ _=>rfl)) (@zaa _ _ _ _ _ zae zab (by rfl)) (by rfl)) (by rfl))) (@zaa _ _ _ _ _ (@zaO _ _ _ _ (@zaa _ _ _ _ _ (@pv _ 7 _ _ (by rfl) (by first|exact Or.inl rfl|exact Or.inr (.inl rfl)|exact Or.inr (.inr rfl)) (by decide) (by decide)) (@zaa _ _ _ _ _ (@zaq _ _ _ _ _ _ _ zam (@zaq _ _ _ _ _ _ _ zam (@zaq _ _ _ _ _ _ _ zam (@pv _ 0 _ _ (by rfl) (by first|exact Or.inl rfl|exact Or.inr (.inl rfl)|exact Or.inr (.inr rfl)) (by decide) (by decide)) zae (fun _ _=>rfl)) (@pv _ 5 _ _ (by rfl) (by first|exact Or.inl rfl|exact Or.inr (.inl rfl)|exact Or.inr (.inr rfl)) (by decide) (by decide)) (fun _ _=>rfl)) zae (fun _ _=>rfl)) (@zaa _ _ _ _ _ zae zab (by rfl)) (by rfl)) (by rfl))) zab (by rfl)) (by rfl))) (by rfl) (by first|exact .inl rfl|exact .inr rfl|assumption)) (@zaf _ _ _ _ _ (@zbG _ _ _ _ _ _ _ _ PassesOwn.never rfl (@zff _ _ _ _ (@pv _ 8 _ _ (by rfl) (by first|exact Or.inl rfl|exact Or.inr (.inl rfl)|exact Or.inr (.inr rfl)) (by decide) (by decide))) (@zap _ _ 9 _ scSp.nd rfl (.inl rfl) (by first|exact .inl rfl|exact .inr rfl|assumption)) (@zah _ _ _ (@zaU _ _ _ _ _ _ _ _ (@zau _ _ _ _ _ _ _ _ zcK (@zaq _ _ _ _ _ _ _ zaK (@pv _ 9 _ _ (by rfl) (by first|exact Or.inl rfl|exact Or.inr (.inl rfl)|exact Or.inr (.inr rfl)) (by decide) (by decide)) zae (fun _ _=>rfl)) zae (zay _)) (@zaf _ _ _ _ _ (@zaR _ _ _ _ _ _ (@zag _ _ _ _ _ _ _ _ _ _ _ _ _ _ _ _ UA.ok hr (by rfl) UA.m UA.kp UA.b .nil zat (@zaa _ _ _ _ _ (@pv _ 0 _ _ (by rfl) (by first|exact Or.inl rfl|exact Or.inr (.inl rfl)|exact Or.inr (.inr rfl)) (by decide) (by decide)) (@zaa _ _ _ _ _ (@zaq _ _ _ _ _ _ _ zaK (@pv _ 9 _ _ (by rfl) (by first|exact Or.inl rfl|exact Or.inr (.inl rfl)|exact Or.inr (.inr rfl)) (by decide) (by decide)) zae (fun _ _=>rfl)) (@zaa _ _ _ _ _ (@pv _ 5 _ _ (by rfl) (by first|exact Or.inl rfl|exact Or.inr (.inl rfl)|exact Or.inr (.inr rfl)) (by decide) (by decide)) zab (by rfl)) (by rfl)) (by rfl)) (by decide) (by rfl) (by rfl)) (@zc9 _ _ _ _ _ _ _ (@pv _ 9 _ _ (by rfl) (by first|exact Or.inl rfl|exact Or.inr (.inl rfl)|exact Or.inr (.inr rfl)) (by decide) (by decide)) zae zbf (by intro _;rfl)) (by rfl) (by rfl) (by rfl)) (@zah _ _ _ (@zba _ _ _ _ (@zcG _ _ _ _ _ _ _ _ _ _ _ _ PySem.F.plainAttrs_list PySem.F.slot_list_insert PySem.F.type_list_insert zfw (@zaN _ _ _ _ _ _ hr.u1 (@pv _ 1 _ _ (by rfl) (by first|exact Or.inl rfl|exact Or.inr (.inl rfl)|exact Or.inr (.inr rfl)) (by decide) (by decide)) zax (fun _ _=>rfl)) (@zaa _ _ _ _ _ (@pv _ 2 _ _ (by rfl) (by first|exact Or.inl rfl|exact Or.inr (.inl rfl)|exact Or.inr (.inr rfl)) (by decide) (by decide)) (@zaa _ _ _ _ _ (@pv _ 9 _ _ (by rfl) (by first|exact Or.inl rfl|exact Or.inr (.inl rfl)|exact Or.inr (.inr rfl)) (by decide) (by decide)) zab (by rfl)) (by rfl)) (by rfl) (by rfl) (by rfl) (by rfl) (by rfl)) (by rfl)))) zaD)) (by intro _;rfl)) (@zah _ _ _ (@zaR _ _ _ _ _ _ (@zas _ _ _ _ _ _ _ _ zbd (@zas _ _ _ _ _ _ _ _ zaB (@pv _ 6 _ _ (by rfl) (by first|exact Or.inl rfl|exact Or.inr (.inl rfl)|exact Or.inr (.inr rfl)) (by decide) (by decide)) (@pv _ 3 _ _ (by rfl) (by first|exact Or.inl rfl|exact Or.inr (.inl rfl)|exact Or.inr (.inr rfl)) (by decide) (by decide))) zae) (@zc9 _ _ _ _ _ _ _ (@zaN _ _ _ _ _ _ hr.u1 (@pv _ 1 _ _ (by rfl) (by first|exact Or.inl rfl|exact Or.inr (.inl rfl)|exact Or.inr (.inr rfl)) (by decide) (by decide)) zax (fun _ _=>rfl)) (@pv _ 5 _ _ (by rfl) (by first|exact Or.inl rfl|exact Or.inr (.inl rfl)|exact Or.inr (.inr rfl)) (by decide) (by decide)) zbf (by intro _;rfl)) (by rfl) (by rfl) (by rfl))))))))),?_⟩
 have ql:=md.gl.len
 have fl:=na.prs.len
 have fm:=ok.fm
 have l16:=ok.l16
 obtain⟨n1,n2,n3,n4,n5,n6,n7,n8,n9,n10,n11⟩:=md.ne
 have eg:gs[place]?=some gs[place]:=List.getElem?_eq_getElem pl
 obtain⟨a,ea,ha⟩:=md.gl.get eg
 have aq:a∈qa:=List.mem_of_getElem? ea
 have gk:=sk.gk _ (List.mem_of_getElem? eg)
 generalize gs[place]=g at eg ha gk
 refine zbs (fun Da hDa=>?_)
 refine⟨_,rfl,d,.ref lg,rfl,md_g lt lg lo ▸ DGet.k (k:=.inr "groups") md.hd,?_⟩
 refine⟨.inl ⟨rfl,_,SqL.of md.hg⟩,_,rfl,lg,_,_,place,.ref a,rfl,rfl,md.hg,by lia,by lia,(zbB (zde (xs:=qa.map V.ref) (i:=place) (by rw[List.length_map];lia))).1,(by rw[List.getElem?_map,ea];rfl),?_⟩
 have m1:=md.erase place
 have t1:=Tups.lst (ys:=(qa.map V.ref).eraseIdx place) md.hg
 have ha1:L2.upd H lg (.lst ((qa.map V.ref).eraseIdx place)) a=some (.lst [.int g.many,.int g.lane,.int g.fork]):=by rw[zaj (n9 a aq).symm];exact ha
 generalize L2.upd H lg (.lst ((qa.map V.ref).eraseIdx place))=H1 at m1 t1 ha1 ⊢
 have na1:=na.tups t1
 refine⟨a,_,rfl,SqL.of ha1,rfl,_,_,rfl,_,_,rfl,_,_,rfl,rfl,hDa _ _ ?_⟩
 clear hDa
 refine zeV (fun Dz hDz hRz=>?_)
 refine⟨_,rfl,_,rfl,r,_,1,_,rfl,rfl,SqT.of na1.net,rfl,fr,_,rfl,.inr (SqT.of na1.forks),rfl,_,rfl,?_⟩
 by_cases z:g.fork=N.forks.length
 ·rw[show decide (V.int (g.fork:Int)=V.int (ps.length:Int))=true from decide_eq_true (by rw[fl,z])]
  have he:=na1.ends
  rw[zec]at he
  have il:N.ends.idxOf g.lane<os.length:=by
   rw[sk.ol,← zel ok]
   exact List.idxOf_lt_length_of_mem (ok.en.mem_iff.mpr (List.mem_range.mpr gk.1))
  refine iteT ⟨_,rfl,d,.ref lo,rfl,md_o lt lg lo ▸ DGet.k (k:=.inr "out") m1.hd,?_⟩
  refine⟨_,rfl,r,_,2,_,rfl,rfl,SqT.of na1.net,rfl,er,_,rfl,he,_,rfl,(g.lane:Int),rfl,he,List.mem_map.mpr ⟨g.lane,ok.en.mem_iff.mpr (List.mem_range.mpr gk.1),rfl⟩,?_⟩
  rw[zcP]
  refine⟨lo,_,N.ends.idxOf g.lane,.int (os.getD (N.ends.idxOf g.lane) 0),rfl,rfl,SqL.of m1.ho,(by rw[List.getElem?_map,List.getElem?_eq_getElem il,List.getD_eq_getElem?_getD,List.getElem?_eq_getElem il];rfl),?_⟩
  refine⟨_,rfl,_,_,rfl,rfl,?_⟩
  refine⟨lo,_,_,N.ends.idxOf g.lane,rfl,rfl,m1.ho,zde (by rw[List.length_map];exact il),?_⟩
  rw[zd4]
  exact hRz _ _ (k _ ts _ _ _ ⟨g,eg,.inl ⟨z,rfl,rfl,rfl⟩⟩ (t1.trans (Tups.lst m1.ho)) (m1.outs _))
 ·rw[show decide (V.int (g.fork:Int)=V.int (ps.length:Int))=false from decide_eq_false (by intro y;have:=V.int.inj y;lia)]
  have gf:g.fork<N.forks.length:=by lia
  have tl:=sk.tl
  have tbit:ts.getD g.fork 0=0∨ts.getD g.fork 0=1:=by
   rw[List.getD_eq_getElem?_getD,List.getElem?_eq_getElem (by lia)]
   exact sk.tb _ (List.getElem_mem _)
  refine iteF (nxt (hDz _ _ ?_))
  clear hDz hRz
  refine zbs (fun Da hDa=>?_)
  refine⟨_,rfl,d,.ref lt,rfl,md_t lt lg lo ▸ DGet.k (k:=.inr "turns") m1.hd,_,rfl,lt,_,_,_,rfl,rfl,SqL.of m1.ht,zdt (by lia),hDa _ _ ?_⟩
  clear hDa
  refine zbs (fun Da hDa=>?_)
  refine⟨_,rfl,_,rfl,_,_,rfl,rfl,_,_,rfl,rfl,_,_,rfl,rfl,⟨by decide,by decide⟩,_,rfl,_,_,rfl,rfl,_,_,rfl,rfl,⟨by decide,by decide⟩,_,_,rfl,rfl,hDa _ _ ?_⟩
  clear hDa
  refine zbs (fun Da hDa=>?_)
  have eh:=zfS g.many (ts.getD g.fork 0) tbit
  simp only[eh]
  generalize hoo:(ts.getD g.fork 0+g.many+1) / 2-ts.getD g.fork 0=oo
  have gf':g.fork<ps.length:=by lia
  obtain⟨fa,fk,efa,efk,hfa⟩:=na1.prs.get (List.getElem?_eq_getElem gf')
  have eat:atI ps ((g.fork:Nat):Int)=some (.ref fa):=zaJ (by rw[List.getElem?_eq_getElem gf',efa])
  refine⟨_,rfl,_,rfl,_,_,rfl,rfl,_,rfl,r,_,1,_,rfl,rfl,SqT.of na1.net,rfl,_,rfl,fr,_,_,_,rfl,rfl,SqT.of na1.forks,eat,fa,_,1,_,rfl,rfl,SqT.of hfa,rfl,(by show 3≤sizeLine;decide),fun b1 hb1=>?_⟩
  have s2:=zad hb1 (.lst [.int (g.many-oo),.int (fk.2:Nat),.int 0])
  have na2:=na1.tups (Tups.of s2)
  refine⟨_,rfl,_,rfl,r,_,1,_,rfl,rfl,SqT.of na2.net,rfl,_,rfl,fr,_,_,_,rfl,rfl,SqT.of na2.forks,eat,fa,_,0,_,rfl,rfl,SqT.of (s2 _ _ hfa),rfl,(by show 3≤sizeLine;decide),fun b2 hb2=>?_⟩
  have s3:=zad hb2 (.lst [.int oo,.int (fk.1:Nat),.int 0])
  refine⟨(by show 2≤sizeLine;decide),fun lb hlb=>hDa _ _ ?_⟩
  clear hDa
  refine zbs (fun Db hDb=>?_)
  have s4:=zad hlb (.lst [.ref b1,.ref b2])
  have e1:=(s3.trans s4) _ _ (zac (H:=H1) (a:=b1) (o:=.lst [.int (g.many-oo),.int (fk.2:Nat),.int 0]))
  have e2:=s4 _ _ (zac (H:=L2.upd H1 b1 (.lst [.int (g.many-oo),.int (fk.2:Nat),.int 0])) (a:=b2) (o:=.lst [.int oo,.int (fk.1:Nat),.int 0]))
  have e4:=zac (H:=L2.upd (L2.upd H1 b1 (.lst [.int (g.many-oo),.int (fk.2:Nat),.int 0])) b2 (.lst [.int oo,.int (fk.1:Nat),.int 0])) (a:=lb) (o:=.lst [.ref b1,.ref b2])
  have b12:b1≠b2:=zai zac hb2
  have b1l:b1≠lb:=zai (s3 _ _ zac) hlb
  have b2l:b2≠lb:=zai zac hlb
  obtain⟨c1,c2⟩:=m1.new hb1
  obtain⟨c3,c4⟩:=(m1.same s2).new hb2
  obtain⟨c5,c6⟩:=((m1.same s2).same s3).new hlb
  have u4:=(s2.trans s3).trans s4
  have m4:=m1.same u4
  have na4:=na1.tups (Tups.of u4)
  generalize L2.upd (L2.upd (L2.upd H1 b1 _) b2 _) lb _=H4 at s4 e1 e2 e4 u4 m4 na4 ⊢
  obtain⟨k1,hk1⟩:=zbY N.forks fk.1 (g.fork+1) (by lia)
  obtain⟨k2,hk2⟩:=zbY N.forks fk.2 (g.fork+1) (by lia)
  have tkl:(gs.take place).length=place:=by rw[List.length_take];lia
  refine⟨_,rfl,lb,rfl,⟨_,SqL.of e4⟩,?_⟩
  refine zg4 (K:=K) (a:=lb) (xs:=[.ref b1,.ref b2]) (fun i σ H5=>∃ qa',(∃ v9,σ=[some (.ref r),some (.ref d),some (.int place),some (.int g.many),some (.int g.lane),some (.int g.fork),some (.int (ts.getD g.fork 0)),some (.int oo),some (.ref lb),v9])∧Tups H4 H5∧H5 lb=some (.lst [.ref b1,.ref b2])∧lb∉l::lt::lg::lo::qa'∧(i≤0→H5 b1=some (.lst [.int (g.many-oo),.int (fk.2:Nat),.int 0])∧b1∉l::lt::lg::lo::qa')∧(i≤1→H5 b2=some (.lst [.int oo,.int (fk.1:Nat),.int 0])∧b2∉l::lt::lg::lo::qa')∧MdAt H0 l H5 d lt lg lo qa' ts (gs.take place++((if 2≤i then part oo fk.1 k1 else [])++(if 1≤i then part (g.many-oo) fk.2 k2 else [])++gs.drop (place+1))) os)
   ⟨_,⟨_,rfl⟩,fun _ _ e=>e,e4,c5,fun _=>⟨e1,c1⟩,fun _=>⟨e2,c3⟩,m4⟩ (fun i σ H5 _ ⟨_,_,_,e,_⟩=>SqL.of e) ?_ ?_
  ·rintro i x σ H5 hx ⟨qa',⟨v9,rfl⟩,t5,e5,nb5,o1,o2,m5⟩
   have i2:i<2:=by have:=(List.getElem?_eq_some_iff.mp hx).1;simpa using this
   obtain⟨b,mm,lane,kk,rfl,hb,nb,fb,hkk,ebl,nx1,nx2⟩:∃ (b:Addr) (mm:Int) (lane kk:Nat),x=.ref b∧H5 b=some (.lst [.int mm,.int lane,.int 0])∧b∉l::lt::lg::lo::qa'∧H0 b=none∧IsNext N.forks lane (g.fork+1) kk∧b≠lb ∧
     (∀ (rest:List Grp),(if 2≤i+1 then part oo fk.1 k1 else [])++(if 1≤i+1 then part (g.many-oo) fk.2 k2 else [])++rest=part mm lane kk++((if 2≤i then part oo fk.1 k1 else [])++(if 1≤i then part (g.many-oo) fk.2 k2 else [])++rest))∧(i+1≤1→b2≠b):=by
    rcases i with _|_|i
    ·obtain rfl:=Option.some.inj hx
     obtain⟨q1,q2⟩:=o1 (Nat.le_refl _)
     exact⟨b1,g.many-oo,fk.2,k2,rfl,q1,q2,c2,hk2,b1l,fun rest=>by simp,fun _=>b12.symm⟩
    ·obtain rfl:=Option.some.inj hx
     obtain⟨q1,q2⟩:=o2 (Nat.le_refl _)
     exact⟨b2,oo,fk.1,k1,rfl,q1,q2,c4,hk1,b2l,fun rest=>by simp[List.append_assoc],fun h=>absurd h (by decide)⟩
    ·lia
   refine zj9 (fun D2 hD2=>?_)
   refine⟨_,rfl,b,_,0,_,rfl,rfl,SqL.of hb,zaJ (j:=0) rfl,rfl,_,rfl,?_⟩
   by_cases zz:mm=0
   ·rw[show (!decide (V.int mm=V.int 0))=false from by rw[decide_eq_true (by rw[zz])];rfl]
    refine iteF (nxt (hD2 _ _ ⟨qa',⟨_,rfl⟩,t5,e5,nb5,fun h=>absurd h (by lia),fun h=>o2 (by lia),?_⟩))
    rw[nx1]
    have ep:part mm lane kk=[]:=by unfold part;rw[if_pos zz]
    rw[ep,List.nil_append]
    exact m5
   ·rw[show (!decide (V.int mm=V.int 0))=true from by rw[decide_eq_false (fun y=>zz (V.int.inj y))];rfl]
    have na5:=na4.tups t5
    refine iteT ⟨_,rfl,_,rfl,b,_,1,_,rfl,rfl,SqL.of hb,zaJ (j:=1) rfl,_,rfl,r,fr,er,ps,N,lane,_,g.fork+1,rfl,ok,na5,by lia,by lia,fun k' H6 s6 hk'=>?_⟩
    obtain rfl:=hkk.one hk'
    have hb6:=s6 _ _ hb
    refine⟨_,rfl,b,_,_,2,rfl,rfl,hb6,zde (i:=2) (by show 2<3;decide),?_⟩
    have m6:=(m5.same s6).other (ys:=[.int mm,.int lane,.int kk]) hb6 nb fb
    have t6:=(Tups.of s6).trans (Tups.lst (ys:=[.int mm,.int lane,.int kk]) hb6)
    have eb6:=zac (H:=H6) (a:=b) (o:=.lst [.int mm,.int lane,.int kk])
    have el6:L2.upd H6 b (.lst [.int mm,.int lane,.int kk]) lb=some (.lst [.ref b1,.ref b2]):=by rw[zaj ebl.symm];exact s6 _ _ e5
    have e26:i+1≤1→L2.upd H6 b (.lst [.int mm,.int lane,.int kk]) b2=some (.lst [.int oo,.int (fk.1:Nat),.int 0]):=fun h=>by rw[zaj (nx2 h)];exact s6 _ _ (o2 (by lia)).1
    have es:([V.int mm,V.int (lane:Nat),V.int 0]:List V).set 2 (.int (kk:Nat))=[.int mm,.int lane,.int kk]:=rfl
    rw[es]
    generalize L2.upd H6 b (.lst [.int mm,.int lane,.int kk])=H7 at m6 t6 eb6 el6 e26 ⊢
    have ql7:=m6.gl.len
    refine⟨_,rfl,d,.ref lg,rfl,md_g lt lg lo ▸ DGet.k (k:=.inr "groups") m6.hd,.inl ⟨rfl,_,SqL.of m6.hg⟩,_,rfl,_,rfl,lg,_,_,place,rfl,rfl,m6.hg,?_,?_,?_⟩
    ·rw[List.length_map,ql7,List.length_append,tkl];lia
    ·rw[List.length_map,ql7,List.length_append,List.length_append,List.length_append,tkl,List.length_drop]
     have p1:(if 2≤i then part oo fk.1 k1 else []).length≤1:=by unfold part;split<;>(try split)<;>simp
     have p2:(if 1≤i then part (g.many-oo) fk.2 k2 else []).length≤1:=by unfold part;split<;>(try split)<;>simp
     lia
    ·have m7:=m6.insert (g:=⟨mm,lane,kk⟩) eb6 nb fb place
     refine hD2 _ _ ⟨qa'.take place++b::qa'.drop place,⟨_,rfl⟩,(t5.trans t6).trans (Tups.lst m6.hg),?_,?_,fun h=>absurd h (by lia),fun h=>⟨?_,?_⟩,?_⟩
     ·rw[zaj (fun y=>nb5 (by subst y;simp))];exact el6
     ·intro hm
      simp only[List.mem_cons]at hm nb5
      rcases hm with q|q|q|q|q
      ·exact nb5 (.inl q)
      ·exact nb5 (.inr (.inl q))
      ·exact nb5 (.inr (.inr (.inl q)))
      ·exact nb5 (.inr (.inr (.inr (.inl q))))
      ·rcases zaZ q with q|q
       ·exact nb5 (.inr (.inr (.inr (.inr (List.mem_of_mem_take q)))))
       ·rcases List.mem_cons.mp q with q|q
        ·exact ebl q.symm
        ·exact nb5 (.inr (.inr (.inr (.inr (List.mem_of_mem_drop q)))))
     ·rw[zaj (fun y=>(o2 (by lia)).2 (by rw[y];simp))];exact e26 h
     ·intro hm
      have no2:=(o2 (by lia)).2
      simp only[List.mem_cons]at hm no2
      rcases hm with q|q|q|q|q
      ·exact no2 (.inl q)
      ·exact no2 (.inr (.inl q))
      ·exact no2 (.inr (.inr (.inl q)))
      ·exact no2 (.inr (.inr (.inr (.inl q))))
      ·rcases zaZ q with q|q
       ·exact no2 (.inr (.inr (.inr (.inr (List.mem_of_mem_take q)))))
       ·rcases List.mem_cons.mp q with q|q
        ·exact nx2 h q
        ·exact no2 (.inr (.inr (.inr (.inr (List.mem_of_mem_drop q)))))
     ·rw[nx1]
      have ep:part mm lane kk=[⟨mm,lane,kk⟩]:=by unfold part;rw[if_neg zz]
      rw[ep]
      rw[List.take_left' tkl,List.drop_left' tkl]at m7
      exact m7
  ·rintro σ H5 ⟨qa',⟨v9,rfl⟩,t5,e5,nb5,o1,o2,m5⟩
   refine hDb _ _ ?_
   refine⟨_,rfl,_,rfl,_,_,rfl,rfl,_,_,rfl,rfl,(by show (0:Int)<2;decide),?_⟩
   refine⟨_,rfl,d,.ref lt,rfl,md_t lt lg lo ▸ DGet.k (k:=.inr "turns") m5.hd,_,rfl,lt,_,_,g.fork,rfl,rfl,m5.ht,zde (by rw[List.length_map];lia),?_⟩
   rw[zd4]
   refine k qa' _ _ _ _ ⟨g,eg,.inr ⟨gf,rfl,rfl,part oo fk.1 k1++part (g.many-oo) fk.2 k2,⟨fk,k1,k2,efk,hk1,hk2,by rw[hoo]⟩,rfl⟩⟩ (((t1.trans (Tups.of u4)).trans t5).trans (Tups.lst m5.ht)) ?_
   have m6:=m5.turns (ts.set g.fork ((ts.getD g.fork 0+g.many)%2))
   have eL:gs.take place++(part oo fk.1 k1++part (g.many-oo) fk.2 k2++gs.drop (place+1))=gs.take place++(part oo fk.1 k1++part (g.many-oo) fk.2 k2)++gs.drop (place+1):=by simp only[List.append_assoc]
   rw[← eL]
   exact m6
end
abbrev sDoL:Stmt:=top 35
def zhA:Sp:=fun vs H Q _=>∃ H0 l d lt lg lo qa ts gs os r fr er ps N t dd,vs=[.ref r,.ref d,.ref t]∧Nt.Ok N∧NetAt H r fr er ps N∧MdAt H0 l H d lt lg lo qa ts gs os∧ScOk N ts gs os∧gs.length≤900∧DeedAt H t dd∧DeedOk N gs dd ∧
 ∀ qa' ts' gs' os' H',DoTo N ts gs os ts' gs' os' dd→Tups H H'→MdAt H0 l H' d lt lg lo qa' ts' gs' os'→Q .non H'
theorem w_ne:¬(V.str "step" = V.str "put")∧¬(V.str "join" = V.str "put")∧¬(V.str "join" = V.str "step"):=⟨fun y=>absurd (V.str.inj y) (by decide +kernel),fun y=>absurd (V.str.inj y) (by decide +kernel),fun y=>absurd (V.str.inj y) (by decide +kernel)⟩
section
variable {P:Program}{w:World}{K:PySem.W.Frag}{mg:Str→Option Value}{base:Heap}
theorem scDo:FnScope ["_law_net_here","_law_model_here","_law_deed_here","_law_other","_law_one"] ["_law_net_here","_law_model_here","_law_deed_here"] (zak sDoL):=⟨rfl,rfl,rfl,by decide +kernel,rfl,by decide +kernel,by decide +kernel⟩
theorem zjT {f fA fS:Addr}{fd dA dS:FuncData}(F:Fun K "_law_do" "_law_do" sDoL f fd) (G:Mgs mg) (UA:Use P w K mg base "_law_ahead" ["_law_net_here","_law_lane","_law_number"] 1 zcz fA dA) (US:Use P w K mg base "_law_step" ["_law_net_here","_law_model_here","_law_k"] 2 zdA fS dS):FnOk P w K mg base CX0 3 f fd ["_law_net_here","_law_model_here","_law_deed_here"] zhA:=by
 refine F.ok scDo (fun vs H Q E h=>?_) (fun cdv A outer s H vs Q E hr h=>?_)
 ·obtain⟨H0,l,d,lt,lg,lo,qa,ts,gs,os,r,fr,er,ps,N,t,dd,rfl,_⟩:=h
  rfl
 obtain⟨H0,l,d,lt,lg,lo,qa,ts,gs,os,r,fr,er,ps,N,t,dd,rfl,ok,na,md,sk,g900,da,dk,k⟩:=h
 have hr1:Room 1 _:=hr.mono (by decide)
 have hr2:Room 2 _:=hr.mono (by decide)
 refine⟨_,(@zah _ _ _ (@zaU _ _ _ _ _ _ _ _ (@zau _ _ _ _ _ _ _ _ zbK (@zaq _ _ _ _ _ _ _ zam (@pv _ 2 _ _ (by rfl) (by first|exact Or.inl rfl|exact Or.inr (.inl rfl)|exact Or.inr (.inr rfl)) (by decide) (by decide)) zae (fun _ _=>rfl)) zax (zay _)) (@zah _ _ _ (@zba _ _ _ _ (@zcG _ _ _ _ _ _ _ _ _ _ _ _ PySem.F.plainAttrs_list PySem.F.slot_list_append PySem.F.type_list_append zbw (@zaN _ _ _ _ _ _ hr.u1 (@pv _ 1 _ _ (by rfl) (by first|exact Or.inl rfl|exact Or.inr (.inl rfl)|exact Or.inr (.inr rfl)) (by decide) (by decide)) zax (fun _ _=>rfl)) (@zaa _ _ _ _ _ (@zaO _ _ _ _ (@zaa _ _ _ _ _ (@zaq _ _ _ _ _ _ _ zam (@pv _ 2 _ _ (by rfl) (by first|exact Or.inl rfl|exact Or.inr (.inl rfl)|exact Or.inr (.inr rfl)) (by decide) (by decide)) zae (fun _ _=>rfl)) (@zaa _ _ _ _ _ (@zaq _ _ _ _ _ _ _ zam (@pv _ 2 _ _ (by rfl) (by first|exact Or.inl rfl|exact Or.inr (.inl rfl)|exact Or.inr (.inr rfl)) (by decide) (by decide)) zae (fun _ _=>rfl)) (@zaa _ _ _ _ _ (@zag _ _ _ _ _ _ _ _ _ _ _ _ _ _ _ _ UA.ok hr1 (by rfl) UA.m UA.kp UA.b .nil zat (@zaa _ _ _ _ _ (@pv _ 0 _ _ (by rfl) (by first|exact Or.inl rfl|exact Or.inr (.inl rfl)|exact Or.inr (.inr rfl)) (by decide) (by decide)) (@zaa _ _ _ _ _ (@zaq _ _ _ _ _ _ _ zam (@pv _ 2 _ _ (by rfl) (by first|exact Or.inl rfl|exact Or.inr (.inl rfl)|exact Or.inr (.inr rfl)) (by decide) (by decide)) zae (fun _ _=>rfl)) (@zaa _ _ _ _ _ (@zgt _ _ _ _ _ _ zd0 zae) zab (by rfl)) (by rfl)) (by rfl)) (by decide) (by rfl) (by rfl)) zab (by rfl)) (by rfl)) (by rfl))) zab (by rfl)) (by rfl) (by rfl) (by rfl) (by rfl) (by rfl)) (by rfl))) (@zah _ _ _ (@zaU _ _ _ _ _ _ _ _ (@zau _ _ _ _ _ _ _ _ zbK (@zaq _ _ _ _ _ _ _ zam (@pv _ 2 _ _ (by rfl) (by first|exact Or.inl rfl|exact Or.inr (.inl rfl)|exact Or.inr (.inr rfl)) (by decide) (by decide)) zae (fun _ _=>rfl)) zax (zay _)) (@zah _ _ _ (@zba _ _ _ _ (@zag _ _ _ _ _ _ _ _ _ _ _ _ _ _ _ _ US.ok hr2 (by rfl) US.m US.kp US.b .nil zat (@zaa _ _ _ _ _ (@pv _ 0 _ _ (by rfl) (by first|exact Or.inl rfl|exact Or.inr (.inl rfl)|exact Or.inr (.inr rfl)) (by decide) (by decide)) (@zaa _ _ _ _ _ (@pv _ 1 _ _ (by rfl) (by first|exact Or.inl rfl|exact Or.inr (.inl rfl)|exact Or.inr (.inr rfl)) (by decide) (by decide)) (@zaa _ _ _ _ _ (@zaq _ _ _ _ _ _ _ zam (@pv _ 2 _ _ (by rfl) (by first|exact Or.inl rfl|exact Or.inr (.inl rfl)|exact Or.inr (.inr rfl)) (by decide) (by decide)) zae (fun _ _=>rfl)) zab (by rfl)) (by rfl)) (by rfl)) (by decide) (by rfl) (by rfl)) (by rfl))) (@zaf _ _ _ _ _ (@zaz _ _ 3 _ _ _ _ scDo.nd rfl (.inl rfl) (@zcG _ _ _ _ _ _ _ _ _ _ _ _ PySem.F.plainAttrs_list PySem.F.slot_list_pop PySem.F.type_list_pop zbM (@zaN _ _ _ _ _ _ hr.u1 (@pv _ 1 _ _ (by rfl) (by first|exact Or.inl rfl|exact Or.inr (.inl rfl)|exact Or.inr (.inr rfl)) (by decide) (by decide)) zax (fun _ _=>rfl)) (@zaa _ _ _ _ _ (@zaq _ _ _ _ _ _ _ zam (@pv _ 2 _ _ (by rfl) (by first|exact Or.inl rfl|exact Or.inr (.inl rfl)|exact Or.inr (.inr rfl)) (by decide) (by decide)) zae (fun _ _=>rfl)) zab (by rfl)) (by rfl) (by rfl) (by rfl) (by rfl) (by rfl)) (by rfl) (by first|exact .inl rfl|exact .inr rfl|assumption)) (@zaf _ _ _ _ _ (@zaz _ _ 4 _ _ _ _ scDo.nd rfl (.inl rfl) (@zaq _ _ _ _ _ _ _ zaK (@zaN _ _ _ _ _ _ hr.u1 (@pv _ 1 _ _ (by rfl) (by first|exact Or.inl rfl|exact Or.inr (.inl rfl)|exact Or.inr (.inr rfl)) (by decide) (by decide)) zax (fun _ _=>rfl)) (@zaq _ _ _ _ _ _ _ zam (@pv _ 2 _ _ (by rfl) (by first|exact Or.inl rfl|exact Or.inr (.inl rfl)|exact Or.inr (.inr rfl)) (by decide) (by decide)) zae (fun _ _=>rfl)) (fun _ _=>rfl)) (by rfl) (by first|exact .inl rfl|exact .inr rfl|assumption)) (@zaf _ _ _ _ _ (@zaR _ _ _ _ _ _ (@zas _ _ _ _ _ _ _ _ zaB (@zaq _ _ _ _ _ _ _ zaK (@pv _ 4 _ _ (by rfl) (by first|exact Or.inl rfl|exact Or.inr (.inl rfl)|exact Or.inr (.inr rfl)) (by decide) (by decide)) zae (fun _ _=>rfl)) (@zaq _ _ _ _ _ _ _ zaK (@pv _ 3 _ _ (by rfl) (by first|exact Or.inl rfl|exact Or.inr (.inl rfl)|exact Or.inr (.inr rfl)) (by decide) (by decide)) zae (fun _ _=>rfl))) (@zc9 _ _ _ _ _ _ _ (@pv _ 4 _ _ (by rfl) (by first|exact Or.inl rfl|exact Or.inr (.inl rfl)|exact Or.inr (.inr rfl)) (by decide) (by decide)) zae zbf (by intro _;rfl)) (by rfl) (by rfl) (by rfl)) (@zah _ _ _ (@zaU _ _ _ _ _ _ _ _ (@zau _ _ _ _ _ _ _ _ zbK (@zaq _ _ _ _ _ _ _ zaK (@pv _ 4 _ _ (by rfl) (by first|exact Or.inl rfl|exact Or.inr (.inl rfl)|exact Or.inr (.inr rfl)) (by decide) (by decide)) zae (fun _ _=>rfl)) zae (zay _)) (@zah _ _ _ (@zba _ _ _ _ (@zcG _ _ _ _ _ _ _ _ _ _ _ _ PySem.F.plainAttrs_list PySem.F.slot_list_pop PySem.F.type_list_pop zbM (@zaN _ _ _ _ _ _ hr.u1 (@pv _ 1 _ _ (by rfl) (by first|exact Or.inl rfl|exact Or.inr (.inl rfl)|exact Or.inr (.inr rfl)) (by decide) (by decide)) zax (fun _ _=>rfl)) (@zaa _ _ _ _ _ (@zaq _ _ _ _ _ _ _ zam (@pv _ 2 _ _ (by rfl) (by first|exact Or.inl rfl|exact Or.inr (.inl rfl)|exact Or.inr (.inr rfl)) (by decide) (by decide)) zae (fun _ _=>rfl)) zab (by rfl)) (by rfl) (by rfl) (by rfl) (by rfl) (by rfl)) (by rfl))) zaD))))))))),?_⟩
 have ql:=md.gl.len
 have fm:=ok.fm
 obtain⟨w1,w2,w3⟩:=w_ne
 cases dd with
 | put lane many =>
  replace da:H t=some (.tup [.str "put",.int lane,.int many]):=da
  refine⟨_,rfl,t,_,0,_,rfl,rfl,SqT.of da,rfl,rfl,_,rfl,?_⟩
  rw[show decide (V.str "put" = V.str "put")=true from decide_eq_true rfl]
  refine iteT ⟨_,rfl,d,.ref lg,rfl,md_g lt lg lo ▸ DGet.k (k:=.inr "groups") md.hd,.inl ⟨rfl,_,SqL.of md.hg⟩,?_⟩
  refine⟨_,rfl,t,_,2,_,rfl,rfl,SqT.of da,rfl,_,rfl,t,_,1,_,rfl,rfl,SqT.of da,rfl,_,rfl,_,rfl,t,_,1,_,rfl,rfl,SqT.of da,rfl,1,rfl,?_⟩
  refine⟨r,fr,er,ps,N,lane,-1,0,rfl,ok,na,rfl,Nat.zero_le _,fun kk H1 s1 hk=>?_⟩
  have m1:=md.same s1
  refine⟨(by show 3≤sizeLine;decide),fun b hb=>?_⟩
  have s2:=zad hb (.lst [.int many,.int lane,.int kk])
  obtain⟨nb,fb⟩:=m1.new hb
  have m2:=m1.same s2
  refine⟨lg,_,_,rfl,rfl,m2.hg,by rw[List.length_map,sizeLine_eq];lia,?_⟩
  exact k _ _ _ _ _ ⟨rfl,rfl,kk,hk,rfl⟩ (((Tups.of s1).trans (Tups.of s2)).trans (Tups.lst m2.hg)) (m2.add (g:=⟨many,lane,kk⟩) zac nb fb)
 | step place =>
  replace da:H t=some (.tup [.str "step",.int place]):=da
  refine⟨_,rfl,t,_,0,_,rfl,rfl,SqT.of da,rfl,rfl,_,rfl,?_⟩
  rw[show decide (V.str "step" = V.str "put")=false from decide_eq_false w1]
  refine iteF ⟨_,rfl,t,_,0,_,rfl,rfl,SqT.of da,rfl,rfl,_,rfl,?_⟩
  rw[show decide (V.str "step" = V.str "step")=true from decide_eq_true rfl]
  refine iteT ⟨_,rfl,_,rfl,_,rfl,t,_,1,_,rfl,rfl,SqT.of da,rfl,?_⟩
  exact⟨H0,l,d,lt,lg,lo,qa,ts,gs,os,r,fr,er,ps,N,place,rfl,ok,na,md,sk,g900,dk,fun qa' ts' gs' os' H' st tu md'=>k _ _ _ _ _ st tu md'⟩
 | join i j =>
  replace da:H t=some (.tup [.str "join",.int i,.int j]):=da
  obtain⟨ij,jl,al⟩:=dk
  have eg:gs[i]?=some gs[i]:=List.getElem?_eq_getElem (by lia)
  have eh:gs[j]?=some gs[j]:=List.getElem?_eq_getElem jl
  generalize gs[i]=g at eg
  generalize gs[j]=h at eh
  obtain⟨a,ea,ha⟩:=md.gl.get eg
  obtain⟨b,eb,hb⟩:=md.gl.get eh
  obtain⟨n1,n2,n3,n4,n5,n6,n7,n8,n9,n10,n11⟩:=md.ne
  have aq:a∈qa:=List.mem_of_getElem? ea
  have bq:b∈qa:=List.mem_of_getElem? eb
  have ab:a≠b:=by
   rintro rfl
   have:=(List.getElem?_inj (by lia) n11).mp (ea.trans eb.symm)
   lia
  refine⟨_,rfl,t,_,0,_,rfl,rfl,SqT.of da,rfl,rfl,_,rfl,?_⟩
  rw[show decide (V.str "join" = V.str "put")=false from decide_eq_false w2]
  refine iteF ⟨_,rfl,t,_,0,_,rfl,rfl,SqT.of da,rfl,rfl,_,rfl,?_⟩
  rw[show decide (V.str "join" = V.str "step")=false from decide_eq_false w3]
  refine iteF ⟨_,rfl,d,.ref lg,rfl,md_g lt lg lo ▸ DGet.k (k:=.inr "groups") md.hd,.inl ⟨rfl,_,SqL.of md.hg⟩,?_⟩
  refine⟨_,rfl,t,_,2,_,rfl,rfl,SqT.of da,rfl,lg,_,_,j,.ref b,rfl,rfl,md.hg,by lia,by lia,(zbB (zde (xs:=qa.map V.ref) (i:=j) (by rw[List.length_map];lia))).1,(by rw[List.getElem?_map,eb];rfl),?_⟩
  have m1:=md.erase j
  have t1:=Tups.lst (ys:=(qa.map V.ref).eraseIdx j) md.hg
  have ha1:L2.upd H lg (.lst ((qa.map V.ref).eraseIdx j)) a=some (.lst [.int g.many,.int g.lane,.int g.fork]):=by rw[zaj (n9 a aq).symm];exact ha
  have hb1:L2.upd H lg (.lst ((qa.map V.ref).eraseIdx j)) b=some (.lst [.int h.many,.int h.lane,.int h.fork]):=by rw[zaj (n9 b bq).symm];exact hb
  generalize L2.upd H lg (.lst ((qa.map V.ref).eraseIdx j))=H1 at m1 t1 ha1 hb1 ⊢
  have da1:=t1 _ _ da
  have ea1:(qa.take j++qa.drop (j+1))[i]?=some a:=by rw[List.getElem?_append_left (by rw[List.length_take];lia),List.getElem?_take_of_lt ij];exact ea
  have eg1:(gs.take j++gs.drop (j+1))[i]?=some g:=by rw[List.getElem?_append_left (by rw[List.length_take];lia),List.getElem?_take_of_lt ij];exact eg
  refine⟨_,rfl,d,.ref lg,rfl,md_g lt lg lo ▸ DGet.k (k:=.inr "groups") m1.hd,_,rfl,t,_,1,_,rfl,rfl,SqT.of da1,rfl,lg,_,_,.ref a,rfl,rfl,SqL.of m1.hg,zaJ (by rw[List.getElem?_map,ea1];rfl),?_⟩
  refine⟨_,rfl,a,_,0,_,rfl,rfl,SqL.of ha1,zaJ (j:=0) rfl,_,rfl,b,_,0,_,rfl,rfl,SqL.of hb1,zaJ (j:=0) rfl,_,_,rfl,rfl,?_⟩
  refine⟨_,rfl,a,_,_,0,rfl,rfl,ha1,zde (i:=0) (by show 0<3;decide),?_⟩
  have es:([V.int g.many,V.int (g.lane:Nat),V.int (g.fork:Nat)]:List V).set 0 (.int (g.many+h.many))=[.int (g.many+h.many),.int g.lane,.int g.fork]:=rfl
  rw[es]
  have m2:=m1.setG (g':=⟨g.many+h.many,g.lane,g.fork⟩) ea1 eg1
  have t2:=t1.trans (Tups.lst (ys:=[.int (g.many+h.many),.int g.lane,.int g.fork]) ha1)
  have ha2:=zac (H:=H1) (a:=a) (o:=.lst [.int (g.many+h.many),.int g.lane,.int g.fork])
  generalize L2.upd H1 a (.lst [.int (g.many+h.many),.int g.lane,.int g.fork])=H2 at m2 t2 ha2 ⊢
  have da2:=t2 _ _ da
  obtain⟨A,B,C,rfl,lA,lB⟩:=zhd ij eg eh
  refine⟨_,rfl,a,_,0,_,rfl,rfl,SqL.of ha2,zaJ (j:=0) rfl,rfl,_,rfl,?_⟩
  have eL:=ziD A B C g h ⟨g.many+h.many,g.lane,g.fork⟩ lA lB
  rw[eL.1]at m2
  by_cases z:g.many+h.many=0
  ·rw[show decide (V.int (g.many+h.many)=V.int 0)=true from decide_eq_true (by rw[z])]
   have ql2:=m2.gl.len
   have el2:(qa.take j++qa.drop (j+1))[i]?.isSome:=by rw[ea1];rfl
   have il2:i<(qa.take j++qa.drop (j+1)).length:=(List.getElem?_eq_some_iff.mp ea1).1
   have ll2:(qa.take j++qa.drop (j+1)).length≤1000:=by rw[List.length_append,List.length_take,List.length_drop];lia
   refine iteT ⟨_,rfl,d,.ref lg,rfl,md_g lt lg lo ▸ DGet.k (k:=.inr "groups") m2.hd,.inl ⟨rfl,_,SqL.of m2.hg⟩,?_⟩
   refine⟨_,rfl,t,_,1,_,rfl,rfl,SqT.of da2,rfl,lg,_,_,i,.ref a,rfl,rfl,m2.hg,by lia,by lia,(zbB (zde (i:=i) (by rw[List.length_map];exact il2))).1,(by rw[List.getElem?_map,ea1];rfl),?_⟩
   have m3:=m2.erase i
   refine k _ _ _ _ _ ⟨rfl,rfl,g,h,eg,eh,?_⟩ (t2.trans (Tups.lst m2.hg)) m3
   rw[show part (g.many+h.many) g.lane g.fork=[] from by unfold part;rw[if_pos z]]
   exact eL.2.1.trans (eL.2.2 []).symm
  ·rw[show decide (V.int (g.many+h.many)=V.int 0)=false from decide_eq_false (fun y=>z (V.int.inj y))]
   refine iteF (k _ _ _ _ _ ⟨rfl,rfl,g,h,eg,eh,?_⟩ t2 m2)
   rw[show part (g.many+h.many) g.lane g.fork=[⟨g.many+h.many,g.lane,g.fork⟩] from by unfold part;rw[if_neg z]]
   exact((eL.2.2 [⟨g.many+h.many,g.lane,g.fork⟩])).symm
end
abbrev sLaw:Stmt:=top 42
theorem zhw {K:PySem.W.Frag}{H H1 H2:Hp}{a l:Addr}{xs:List V}(h:SqL K H a xs) (hl:H l=none) (s:Same H H1) (B:But l H1 H2):SqL K H2 a xs:=by
 rcases h with (h|⟨o,h⟩)|h
 ·exact .inl (.inl (B _ _ (s _ _ h) (zai h hl)))
 ·exact .inl (.inr ⟨o,B _ _ (s _ _ h) (zai h hl)⟩)
 ·exact .inr h
def grpD (g:Grp):PyData:=.tuple [.int g.many,.int (g.lane:Nat),.int (g.fork:Nat)]
theorem zhp {H:Hp}:∀ {ps:List V}{gs:List Grp},Grs H ps gs→ps.length=(gs.map grpD).length∧∀ (j:Nat) (u:V) (e:PyData),ps[j]?=some u→(gs.map grpD)[j]?=some e→DD H 1 u e
 | [],[],_=>⟨rfl,fun j u e h _=>by simp at h⟩
 | [],_::_,h=>h.elim
 | _::_,[],h=>h.elim
 | x::ps,g::gs,⟨⟨t,e,h⟩,r⟩=>by
  obtain⟨a,b⟩:=zhp r
  refine⟨by rw[List.map_cons,List.length_cons,List.length_cons,a],fun j u d hu hd=>?_⟩
  cases j with
  | succ j=>exact b j u d (by simpa using hu) (by simpa using hd)
  | zero =>
   obtain rfl:x=u:=by simpa using hu
   obtain rfl:grpD g=d:=by simpa using hd
   subst e
   refine DD.tup h rfl fun j u e p q=>?_
   match j,p,q with
   | 0,p,q=>obtain rfl:=Option.some.inj p;obtain rfl:=Option.some.inj q;exact DD.i _
   | 1,p,q=>obtain rfl:=Option.some.inj p;obtain rfl:=Option.some.inj q;exact DD.i _
   | 2,p,q=>obtain rfl:=Option.some.inj p;obtain rfl:=Option.some.inj q;exact DD.i _
   | j+3,p,q=>simp at p
theorem zdj {H:Hp}{sc tr gr ou:Addr}{qs:List V}{ts os:List Int}{gs:List Grp}(sa:SceneAt H sc tr gr ou qs ts gs os):DD H 2 (.ref gr) (.tuple (gs.map grpD)) :=
 let ⟨a,b⟩:=zhp sa.grs
 DD.tup sa.gr a b
def zgm (K:PySem.W.Frag):Sp:=fun vs H Q _=>∃ (a:Addr) (ns:List Int),vs=[.ref a]∧SqL K H a (ns.map V.int)∧ns.length≤63∧∀ H',Q (.bl true) H'
section
variable {P:Program}{w:World}{K:PySem.W.Frag}{mg:Str→Option Value}{base:Heap}
theorem scW:FnScope ["_law_script","_law_k","_law_left_here","_law_net_here","_law_model_here","_law_turn","_law_scene_here","_law_j","_law_other","_law_one","_law_two","_law_many_here","_law_more","_law_lane"] ["_law_script"] (zak sLaw):=⟨rfl,rfl,rfl,by decide +kernel,rfl,by decide +kernel,by decide +kernel⟩
theorem zjc {f fL fN fM fO fLd fDl fSc fB fS fMy fK fP:Addr}{fd dL dN dM dO dLd dDl dSc dB dS dMy dK dP:FuncData}(F:Fun K "law" "law" sLaw f fd) (G:Mgs mg) (UL:Use P w K mg base "_law_left" ["_law_script","_law_k"] 2 (zeQ K) fL dL) (UN:Use P w K mg base "_law_net" ["_law_left_here","_law_lanes","_law_most"] 3 (zeO 10) fN dN)
  (UMo:Use P w K mg base "_law_model" ["_law_net_here"] 1 zdz fM dM) (UO:Use P w K mg base "_law_of" ["_law_left_here","_law_some"] 2 spOf fO dO) (ULd:Use P w K mg base "_law_deed" ["_law_left_here","_law_net_here","_law_model_here"] 4 zdC fLd dLd) (UDl:Use P w K mg base "_law_do" ["_law_net_here","_law_model_here","_law_deed_here"] 3 zhA fDl dDl) (USc:Use P w K mg base "_law_scene" ["_law_model_here"] 1 zct fSc dSc)
  (UB:Use P w K mg base "_law_both" ["_law_net_here","_law_scene_here","_law_j","_law_k"] 6 zeT fB dB) (US:Use P w K mg base "_law_stood" ["_law_scene_here"] 1 zcs fS dS) (UM:Use P w K mg base "_law_many" ["_law_left_here"] 3 zcw fMy dMy) (UK:Use P w K mg base "_law_pick" ["_law_left_here","_law_many_here"] 1 zbE fK dK) (UP:Use P w K mg base "_law_parted" ["_law_net_here","_law_scene_here","_law_lane","_law_many_here","_law_more"] 6 zhx fP dP):FnOk P w K mg base CX0 7 f fd ["_law_script"] (zgm K):=by
 refine F.ok scW (fun vs H Q E h=>?_) (fun cdv A outer s H vs Q E hr h=>?_)
 ·obtain⟨a,ns,rfl,_⟩:=h
  rfl
 obtain⟨a,ns,rfl,hS,h63,k⟩:=h
 have hr1:Room 1 _:=hr.mono (by decide)
 have hr2:Room 2 _:=hr.mono (by decide)
 have hr3:Room 3 _:=hr.mono (by decide)
 have hr4:Room 4 _:=hr.mono (by decide)
 refine⟨_,(@zaf _ _ _ _ _ (@zbG _ _ _ _ _ _ _ _ PassesOwn.never rfl (@zbv _ _ _ _ _ _ rfl G.range (@zaa _ _ _ _ _ (@zar _ _ _ _ _ _ _ _ _ (zdl rfl) (by rfl) G.max (by rfl) (@zaa _ _ _ _ _ zae (@zaa _ _ _ _ _ (@zar _ _ _ _ _ _ _ _ _ (zf7 rfl) (by rfl) G.min (by rfl) (@zaa _ _ _ _ _ zae (@zaa _ _ _ _ _ (@zar _ _ _ _ _ _ _ _ _ zao (by rfl) G.len PySem.boot_len (@zaa _ _ _ _ _ (@pv _ 0 _ _ (by rfl) (by first|exact Or.inl rfl|exact Or.inr (.inl rfl)|exact Or.inr (.inr rfl)) (by decide) (by decide)) zab (by rfl)) (by decide) (by decide) (by rfl) (by rfl)) zab (by rfl)) (by rfl)) (by decide) (by decide) (by rfl) (by rfl)) zab (by rfl)) (by rfl)) (by decide) (by decide) (by rfl) (by rfl)) zab (by rfl)) (by rfl)) (@zap _ _ 1 _ scW.nd rfl (.inl rfl) (by first|exact .inl rfl|exact .inr rfl|assumption)) (@zaf _ _ _ _ _ (@zaz _ _ 2 _ _ _ _ scW.nd rfl (.inl rfl) (@zag _ _ _ _ _ _ _ _ _ _ _ _ _ _ _ _ UL.ok hr2 (by rfl) UL.m UL.kp UL.b .nil zat (@zaa _ _ _ _ _ (@pv _ 0 _ _ (by rfl) (by first|exact Or.inl rfl|exact Or.inr (.inl rfl)|exact Or.inr (.inr rfl)) (by decide) (by decide)) (@zaa _ _ _ _ _ (@pv _ 1 _ _ (by rfl) (by first|exact Or.inl rfl|exact Or.inr (.inl rfl)|exact Or.inr (.inr rfl)) (by decide) (by decide)) zab (by rfl)) (by rfl)) (by decide) (by rfl) (by rfl)) (by rfl) (by first|exact .inl rfl|exact .inr rfl|assumption)) (@zaf _ _ _ _ _ (@zaz _ _ 3 _ _ _ _ scW.nd rfl (.inl rfl) (@zag _ _ _ _ _ _ _ _ _ _ _ _ _ _ _ _ UN.ok hr3 (by rfl) UN.m UN.kp UN.b .nil zat (@zaa _ _ _ _ _ (@pv _ 2 _ _ (by rfl) (by first|exact Or.inl rfl|exact Or.inr (.inl rfl)|exact Or.inr (.inr rfl)) (by decide) (by decide)) (@zaa _ _ _ _ _ (@zag _ _ _ _ _ _ _ _ _ _ _ _ _ _ _ _ UO.ok hr2 (by rfl) UO.m UO.kp UO.b .nil zat (@zaa _ _ _ _ _ (@pv _ 2 _ _ (by rfl) (by first|exact Or.inl rfl|exact Or.inr (.inl rfl)|exact Or.inr (.inr rfl)) (by decide) (by decide)) (@zaa _ _ _ _ _ (@zaO _ _ _ _ (@zaa _ _ _ _ _ zae (@zaa _ _ _ _ _ zae (@zaa _ _ _ _ _ zae (@zaa _ _ _ _ _ zae (@zaa _ _ _ _ _ zae zab (by rfl)) (by rfl)) (by rfl)) (by rfl)) (by rfl))) zab (by rfl)) (by rfl)) (by decide) (by rfl) (by rfl)) (@zaa _ _ _ _ _ zae zab (by rfl)) (by rfl)) (by rfl)) (by decide) (by rfl) (by rfl)) (by rfl) (by first|exact .inl rfl|exact .inr rfl|assumption)) (@zaf _ _ _ _ _ (@zaz _ _ 4 _ _ _ _ scW.nd rfl (.inl rfl) (@zag _ _ _ _ _ _ _ _ _ _ _ _ _ _ _ _ UMo.ok hr1 (by rfl) UMo.m UMo.kp UMo.b .nil zat (@zaa _ _ _ _ _ (@pv _ 3 _ _ (by rfl) (by first|exact Or.inl rfl|exact Or.inr (.inl rfl)|exact Or.inr (.inr rfl)) (by decide) (by decide)) zab (by rfl)) (by decide) (by rfl) (by rfl)) (by rfl) (by first|exact .inl rfl|exact .inr rfl|assumption)) (@zaf _ _ _ _ _ (@zbG _ _ _ _ _ _ _ _ PassesOwn.never rfl (@zbv _ _ _ _ _ _ rfl G.range (@zaa _ _ _ _ _ (@zag _ _ _ _ _ _ _ _ _ _ _ _ _ _ _ _ UO.ok hr2 (by rfl) UO.m UO.kp UO.b .nil zat (@zaa _ _ _ _ _ (@pv _ 2 _ _ (by rfl) (by first|exact Or.inl rfl|exact Or.inr (.inl rfl)|exact Or.inr (.inr rfl)) (by decide) (by decide)) (@zaa _ _ _ _ _ (@zaO _ _ _ _ (@zaa _ _ _ _ _ zae (@zaa _ _ _ _ _ zae (@zaa _ _ _ _ _ zae zab (by rfl)) (by rfl)) (by rfl))) zab (by rfl)) (by rfl)) (by decide) (by rfl) (by rfl)) zab (by rfl)) (by rfl)) (@zap _ _ 5 _ scW.nd rfl (.inl rfl) (by first|exact .inl rfl|exact .inr rfl|assumption)) (@zah _ _ _ (@zba _ _ _ _ (@zag _ _ _ _ _ _ _ _ _ _ _ _ _ _ _ _ UDl.ok hr3 (by rfl) UDl.m UDl.kp UDl.b .nil zat (@zaa _ _ _ _ _ (@pv _ 3 _ _ (by rfl) (by first|exact Or.inl rfl|exact Or.inr (.inl rfl)|exact Or.inr (.inr rfl)) (by decide) (by decide)) (@zaa _ _ _ _ _ (@pv _ 4 _ _ (by rfl) (by first|exact Or.inl rfl|exact Or.inr (.inl rfl)|exact Or.inr (.inr rfl)) (by decide) (by decide)) (@zaa _ _ _ _ _ (@zag _ _ _ _ _ _ _ _ _ _ _ _ _ _ _ _ ULd.ok hr4 (by rfl) ULd.m ULd.kp ULd.b .nil zat (@zaa _ _ _ _ _ (@pv _ 2 _ _ (by rfl) (by first|exact Or.inl rfl|exact Or.inr (.inl rfl)|exact Or.inr (.inr rfl)) (by decide) (by decide)) (@zaa _ _ _ _ _ (@pv _ 3 _ _ (by rfl) (by first|exact Or.inl rfl|exact Or.inr (.inl rfl)|exact Or.inr (.inr rfl)) (by decide) (by decide)) (@zaa _ _ _ _ _ (@pv _ 4 _ _ (by rfl) (by first|exact Or.inl rfl|exact Or.inr (.inl rfl)|exact Or.inr (.inr rfl)) (by decide) (by decide)) zab (by rfl)) (by rfl)) (by rfl)) (by decide) (by rfl) (by rfl)) zab (by rfl)) (by rfl)) (by rfl)) (by decide) (by rfl) (by rfl)) (by rfl))) (by intro _;rfl)) (@zaf _ _ _ _ _ (@zaz _ _ 6 _ _ _ _ scW.nd rfl (.inl rfl) (@zag _ _ _ _ _ _ _ _ _ _ _ _ _ _ _ _ USc.ok hr1 (by rfl) USc.m USc.kp USc.b .nil zat (@zaa _ _ _ _ _ (@pv _ 4 _ _ (by rfl) (by first|exact Or.inl rfl|exact Or.inr (.inl rfl)|exact Or.inr (.inr rfl)) (by decide) (by decide)) zab (by rfl)) (by decide) (by rfl) (by rfl)) (by rfl) (by first|exact .inl rfl|exact .inr rfl|assumption)) (@zaf _ _ _ _ _ (@zbG _ _ _ _ _ _ _ _ PassesOwn.never rfl (@zbv _ _ _ _ _ _ rfl G.range (@zaa _ _ _ _ _ (@zar _ _ _ _ _ _ _ _ _ zao (by rfl) G.len PySem.boot_len (@zaa _ _ _ _ _ (@zaq _ _ _ _ _ _ _ zam (@pv _ 6 _ _ (by rfl) (by first|exact Or.inl rfl|exact Or.inr (.inl rfl)|exact Or.inr (.inr rfl)) (by decide) (by decide)) zae (fun _ _=>rfl)) zab (by rfl)) (by decide) (by decide) (by rfl) (by rfl)) zab (by rfl)) (by rfl)) (@zap _ _ 7 _ scW.nd rfl (.inl rfl) (by first|exact .inl rfl|exact .inr rfl|assumption)) (@zah _ _ _ (@zbG _ _ _ _ _ _ _ _ PassesOwn.never rfl (@zfe _ _ _ _ _ _ _ rfl G.range (@zaa _ _ _ _ _ (@zas _ _ _ _ _ _ _ _ zaB (@pv _ 7 _ _ (by rfl) (by first|exact Or.inl rfl|exact Or.inr (.inl rfl)|exact Or.inr (.inr rfl)) (by decide) (by decide)) zae) (@zaa _ _ _ _ _ (@zar _ _ _ _ _ _ _ _ _ zao (by rfl) G.len PySem.boot_len (@zaa _ _ _ _ _ (@zaq _ _ _ _ _ _ _ zam (@pv _ 6 _ _ (by rfl) (by first|exact Or.inl rfl|exact Or.inr (.inl rfl)|exact Or.inr (.inr rfl)) (by decide) (by decide)) zae (fun _ _=>rfl)) zab (by rfl)) (by decide) (by decide) (by rfl) (by rfl)) zab (by rfl)) (by rfl)) (by rfl) (by rfl)) (@zap _ _ 8 _ scW.nd rfl (.inl rfl) (by first|exact .inl rfl|exact .inr rfl|assumption)) (@zaf _ _ _ _ _ (@zaR _ _ _ _ _ _ (@zag _ _ _ _ _ _ _ _ _ _ _ _ _ _ _ _ UB.ok hr (by rfl) UB.m UB.kp UB.b .nil zat (@zaa _ _ _ _ _ (@pv _ 3 _ _ (by rfl) (by first|exact Or.inl rfl|exact Or.inr (.inl rfl)|exact Or.inr (.inr rfl)) (by decide) (by decide)) (@zaa _ _ _ _ _ (@pv _ 6 _ _ (by rfl) (by first|exact Or.inl rfl|exact Or.inr (.inl rfl)|exact Or.inr (.inr rfl)) (by decide) (by decide)) (@zaa _ _ _ _ _ (@pv _ 7 _ _ (by rfl) (by first|exact Or.inl rfl|exact Or.inr (.inl rfl)|exact Or.inr (.inr rfl)) (by decide) (by decide)) (@zaa _ _ _ _ _ (@pv _ 8 _ _ (by rfl) (by first|exact Or.inl rfl|exact Or.inr (.inl rfl)|exact Or.inr (.inr rfl)) (by decide) (by decide)) zab (by rfl)) (by rfl)) (by rfl)) (by rfl)) (by decide) (by rfl) (by rfl)) (@zaY _ _ _ _ _ _ rfl (@zal _ _ _ _ _ (@zap _ _ 9 _ scW.nd rfl (.inl rfl) (by first|exact .inl rfl|exact .inr rfl|assumption)) (@zal _ _ _ _ _ (@zap _ _ 10 _ scW.nd rfl (.inl rfl) (by first|exact .inl rfl|exact .inr rfl|assumption)) zaM (by rfl)) (by rfl)) (by rfl) (by rfl)) (by rfl) (by rfl) (by rfl)) (@zaf _ _ _ _ _ (@zaU _ _ _ _ _ _ _ _ (@zau _ _ _ _ _ _ _ _ (zhi hr.units) (@zaA _ _ _ _ _ (@zaa _ _ _ _ _ (@zaq _ _ _ _ _ _ _ zam (@pv _ 9 _ _ (by rfl) (by first|exact Or.inl rfl|exact Or.inr (.inl rfl)|exact Or.inr (.inr rfl)) (by decide) (by decide)) zae (fun _ _=>rfl)) (@zaa _ _ _ _ _ (@zaq _ _ _ _ _ _ _ zam (@pv _ 9 _ _ (by rfl) (by first|exact Or.inl rfl|exact Or.inr (.inl rfl)|exact Or.inr (.inr rfl)) (by decide) (by decide)) zae (fun _ _=>rfl)) (@zaa _ _ _ _ _ (@zag _ _ _ _ _ _ _ _ _ _ _ _ _ _ _ _ US.ok hr1 (by rfl) US.m US.kp US.b .nil zat (@zaa _ _ _ _ _ (@pv _ 9 _ _ (by rfl) (by first|exact Or.inl rfl|exact Or.inr (.inl rfl)|exact Or.inr (.inr rfl)) (by decide) (by decide)) zab (by rfl)) (by decide) (by rfl) (by rfl)) zab (by rfl)) (by rfl)) (by rfl))) (@zaA _ _ _ _ _ (@zaa _ _ _ _ _ (@zaq _ _ _ _ _ _ _ zam (@pv _ 10 _ _ (by rfl) (by first|exact Or.inl rfl|exact Or.inr (.inl rfl)|exact Or.inr (.inr rfl)) (by decide) (by decide)) zae (fun _ _=>rfl)) (@zaa _ _ _ _ _ (@zaq _ _ _ _ _ _ _ zam (@pv _ 10 _ _ (by rfl) (by first|exact Or.inl rfl|exact Or.inr (.inl rfl)|exact Or.inr (.inr rfl)) (by decide) (by decide)) zae (fun _ _=>rfl)) (@zaa _ _ _ _ _ (@zag _ _ _ _ _ _ _ _ _ _ _ _ _ _ _ _ US.ok hr1 (by rfl) US.m US.kp US.b .nil zat (@zaa _ _ _ _ _ (@pv _ 10 _ _ (by rfl) (by first|exact Or.inl rfl|exact Or.inr (.inl rfl)|exact Or.inr (.inr rfl)) (by decide) (by decide)) zab (by rfl)) (by decide) (by rfl) (by rfl)) zab (by rfl)) (by rfl)) (by rfl))) (zay _)) (@zah _ _ _ (@zav _ _ _ _ zfi)) zaD) (@zah _ _ _ (@zaU _ _ _ _ _ _ _ _ (PW.pt (@zbW _ _ _ _ _ _ _ (@zau _ _ _ _ _ _ _ _ zcK (@zaq _ _ _ _ _ _ _ zam (@zaq _ _ _ _ _ _ _ zam (@zaq _ _ _ _ _ _ _ zam (@pv _ 6 _ _ (by rfl) (by first|exact Or.inl rfl|exact Or.inr (.inl rfl)|exact Or.inr (.inr rfl)) (by decide) (by decide)) zae (fun _ _=>rfl)) (@pv _ 7 _ _ (by rfl) (by first|exact Or.inl rfl|exact Or.inr (.inl rfl)|exact Or.inr (.inr rfl)) (by decide) (by decide)) (fun _ _=>rfl)) zae (fun _ _=>rfl)) (@zaq _ _ _ _ _ _ _ zam (@zaq _ _ _ _ _ _ _ zam (@zaq _ _ _ _ _ _ _ zam (@pv _ 6 _ _ (by rfl) (by first|exact Or.inl rfl|exact Or.inr (.inl rfl)|exact Or.inr (.inr rfl)) (by decide) (by decide)) zae (fun _ _=>rfl)) (@pv _ 8 _ _ (by rfl) (by first|exact Or.inl rfl|exact Or.inr (.inl rfl)|exact Or.inr (.inr rfl)) (by decide) (by decide)) (fun _ _=>rfl)) zae (fun _ _=>rfl)) (zay _)) (@zbm _ _ _ _ (@zau _ _ _ _ _ _ _ _ (zhi hr.units) (@zaq _ _ _ _ _ _ _ zam (@pv _ 9 _ _ (by rfl) (by first|exact Or.inl rfl|exact Or.inr (.inl rfl)|exact Or.inr (.inr rfl)) (by decide) (by decide)) zae (fun _ _=>rfl)) (@zaq _ _ _ _ _ _ _ zam (@pv _ 10 _ _ (by rfl) (by first|exact Or.inl rfl|exact Or.inr (.inl rfl)|exact Or.inr (.inr rfl)) (by decide) (by decide)) zae (fun _ _=>rfl)) (zay _))))) (@zah _ _ _ (@zav _ _ _ _ zfi)) zaD)))) (by intro _;rfl))) (by intro _;rfl)) (@zaf _ _ _ _ _ (@zi2 _ _ 11 12 _ _ _ _ _ _ _ _ _ _ _ rfl scW.nd rfl rfl (by decide) rfl rfl (@zaa _ _ _ _ _ (@zag _ _ _ _ _ _ _ _ _ _ _ _ _ _ _ _ UM.ok hr3 (by rfl) UM.m UM.kp UM.b .nil zat (@zaa _ _ _ _ _ (@pv _ 2 _ _ (by rfl) (by first|exact Or.inl rfl|exact Or.inr (.inl rfl)|exact Or.inr (.inr rfl)) (by decide) (by decide)) zab (by rfl)) (by decide) (by rfl) (by rfl)) (@zaa _ _ _ _ _ (@zag _ _ _ _ _ _ _ _ _ _ _ _ _ _ _ _ UM.ok hr3 (by rfl) UM.m UM.kp UM.b .nil zat (@zaa _ _ _ _ _ (@pv _ 2 _ _ (by rfl) (by first|exact Or.inl rfl|exact Or.inr (.inl rfl)|exact Or.inr (.inr rfl)) (by decide) (by decide)) zab (by rfl)) (by decide) (by rfl) (by rfl)) zab (by rfl)) (by rfl)) (by rfl) (by rfl)) (@zaf _ _ _ _ _ (@zaz _ _ 13 _ _ _ _ scW.nd rfl (.inl rfl) (@zag _ _ _ _ _ _ _ _ _ _ _ _ _ _ _ _ UK.ok hr1 (by rfl) UK.m UK.kp UK.b .nil zat (@zaa _ _ _ _ _ (@pv _ 2 _ _ (by rfl) (by first|exact Or.inl rfl|exact Or.inr (.inl rfl)|exact Or.inr (.inr rfl)) (by decide) (by decide)) (@zaa _ _ _ _ _ (@zaq _ _ _ _ _ _ _ zam (@pv _ 3 _ _ (by rfl) (by first|exact Or.inl rfl|exact Or.inr (.inl rfl)|exact Or.inr (.inr rfl)) (by decide) (by decide)) zae (fun _ _=>rfl)) zab (by rfl)) (by rfl)) (by decide) (by rfl) (by rfl)) (by rfl) (by first|exact .inl rfl|exact .inr rfl|assumption)) (@zah _ _ _ (@zaU _ _ _ _ _ _ _ _ (PW.pt (@zbW _ _ _ _ _ _ _ (@zau _ _ _ _ _ _ _ _ zcK (@zas _ _ _ _ _ _ _ _ zaB (@pv _ 11 _ _ (by rfl) (by first|exact Or.inl rfl|exact Or.inr (.inl rfl)|exact Or.inr (.inr rfl)) (by decide) (by decide)) (@pv _ 12 _ _ (by rfl) (by first|exact Or.inl rfl|exact Or.inr (.inl rfl)|exact Or.inr (.inr rfl)) (by decide) (by decide))) zae (zay _)) (@zbm _ _ _ _ (@zfc _ _ _ _ (@zbu _ _ _ (@zag _ _ _ _ _ _ _ _ _ _ _ _ _ _ _ _ UP.ok hr (by rfl) UP.m UP.kp UP.b .nil zat (@zaa _ _ _ _ _ (@pv _ 3 _ _ (by rfl) (by first|exact Or.inl rfl|exact Or.inr (.inl rfl)|exact Or.inr (.inr rfl)) (by decide) (by decide)) (@zaa _ _ _ _ _ (@pv _ 6 _ _ (by rfl) (by first|exact Or.inl rfl|exact Or.inr (.inl rfl)|exact Or.inr (.inr rfl)) (by decide) (by decide)) (@zaa _ _ _ _ _ (@pv _ 13 _ _ (by rfl) (by first|exact Or.inl rfl|exact Or.inr (.inl rfl)|exact Or.inr (.inr rfl)) (by decide) (by decide)) (@zaa _ _ _ _ _ (@pv _ 11 _ _ (by rfl) (by first|exact Or.inl rfl|exact Or.inr (.inl rfl)|exact Or.inr (.inr rfl)) (by decide) (by decide)) (@zaa _ _ _ _ _ (@pv _ 12 _ _ (by rfl) (by first|exact Or.inl rfl|exact Or.inr (.inl rfl)|exact Or.inr (.inr rfl)) (by decide) (by decide)) zab (by rfl)) (by rfl)) (by rfl)) (by rfl)) (by rfl)) (by decide) (by rfl) (by rfl)) (fun _=>rfl)))))) (@zah _ _ _ (@zav _ _ _ _ zfi)) zaD)))))))))) (by intro _;rfl)) (@zah _ _ _ (@zav _ _ _ _ zfi))),?_⟩
 refine⟨_,rfl,a,_,rfl,.inl hS,_,_,rfl,_,_,rfl,_,rfl,?_,?_,?_⟩
 ·split<;>split<;>lia
 ·rw[List.length_map];split<;>split<;>lia
 refine zbe (lo:=0) (fun i σ H2=>(∃ v1 v2 v3 v4 v5 v6 v7 v8 v9 v10 v11 v12 v13,σ=[some (.ref a),v1,v2,v3,v4,v5,v6,v7,v8,v9,v10,v11,v12,v13])∧SqL K H2 a (ns.map V.int)) ⟨⟨_,_,_,_,_,_,_,_,_,_,_,_,_,rfl⟩,hS⟩ ?_ (fun σ H2 _=>k H2)
 rintro i σ H2 hi ⟨⟨v1,v2,v3,v4,v5,v6,v7,v8,v9,v10,v11,v12,v13,rfl⟩,hS2⟩
 have ib:i<31:=by
  have:(if (if ((ns.map V.int).length:Int)<8 then ((ns.map V.int).length:Int) else 8) > 1 then (if ((ns.map V.int).length:Int)<8 then ((ns.map V.int).length:Int) else 8) else 1)≤30:=by split<;>split<;>lia
  lia
 clear hi
 refine⟨_,rfl,_,rfl,a,ns,_,rfl,hS2,h63,by lia,by lia,fun l H3 hl s3 S3=>?_⟩
 refine⟨_,rfl,_,rfl,(by show 5≤sizeLine;decide),fun q hq=>?_⟩
 have s3':=zad hq (.lst [.int 1,.int 2,.int 3,.int 4,.int 6])
 refine⟨l,q,_,rfl,S3.keep s3',(S3.ne hq).symm,zac,by show 0<5;decide,by show 5≤100000;decide,fun n x H4 hx S4 B4=>?_⟩
 obtain⟨lanes,rfl,la1,la6⟩:∃ m:Nat,x=.int m∧1≤m∧m≤6:=by
  have il:n<5:=(List.getElem?_eq_some_iff.mp hx).1
  rcases n with _|_|_|_|_|n
  ·exact⟨1,(Option.some.inj hx).symm,by decide,by decide⟩
  ·exact⟨2,(Option.some.inj hx).symm,by decide,by decide⟩
  ·exact⟨3,(Option.some.inj hx).symm,by decide,by decide⟩
  ·exact⟨4,(Option.some.inj hx).symm,by decide,by decide⟩
  ·exact⟨6,(Option.some.inj hx).symm,by decide,by decide⟩
  ·lia
 refine⟨l,lanes,rfl,S4,la1,by lia,fun r fr er ps N H5 ok eN fN5 na5 S5 B5=>?_⟩
 have B5':But l H3 H5:=((But.of s3').trans B4).trans B5
 clear hx hq s3' S3 S4 B4 B5
 have l16:=ok.l16
 have l1:=ok.l1
 have fm:=ok.fm
 refine⟨_,rfl,l,r,fr,er,ps,N,rfl,ok,na5,S5,fun d lt lg lo H6 s6 md6=>?_⟩
 have na6:=na5.tups (Tups.of s6)
 refine⟨_,rfl,(by show 3≤sizeLine;decide),fun q hq=>?_⟩
 have s8:=zad hq (.lst [.int 4,.int 12,.int 25])
 have md8:=md6.same s8
 refine⟨l,q,_,rfl,md8.pk,(md6.pk.ne hq).symm,zac,by show 0<3;decide,by show 3≤100000;decide,fun n x H9 hx S9 B9=>?_⟩
 have md9:=md8.pick B9 S9
 have t9:Tups H6 H9:=(Tups.of s8).trans (B9.tups md8.pk)
 obtain⟨m,rfl,m0,m60⟩:∃ m:Int,x=.int m∧0≤m∧m≤25:=by
  have il:n<3:=(List.getElem?_eq_some_iff.mp hx).1
  rcases n with _|_|_|n
  ·obtain rfl:=Option.some.inj hx;exact⟨_,rfl,by decide,by decide⟩
  ·obtain rfl:=Option.some.inj hx;exact⟨_,rfl,by decide,by decide⟩
  ·obtain rfl:=Option.some.inj hx;exact⟨_,rfl,by decide,by decide⟩
  ·lia
 refine⟨_,rfl,by lia,by lia,?_⟩
 refine zbe (lo:=0) (fun j σ H10=>∃ w5 qa ts gs os,σ=[some (.ref a),some (.int (0+(i:Nat))),some (.ref l),some (.ref r),some (.ref d),w5,v6,v7,v8,v9,v10,v11,v12,v13]∧MdAt H5 l H10 d lt lg lo qa ts gs os∧NetAt H10 r fr er ps N∧ScOk N ts gs os∧gs.length≤j)
  ⟨_,_,_,_,_,rfl,md9,na6.tups t9,⟨List.length_replicate,fun t ht=>.inl (List.eq_of_mem_replicate ht),List.length_replicate,fun g hg=>absurd hg (by simp)⟩,Nat.le_refl _⟩ ?_ ?_
 ·rintro j σ H10 hj ⟨w5,qa,ts,gs,os,rfl,md10,na10,sk,gj⟩
  have j60:j<25:=by lia
  refine⟨_,rfl,_,rfl,_,rfl,_,rfl,_,rfl,H5,l,d,lt,lg,lo,qa,ts,gs,os,r,fr,er,ps,N,rfl,ok,na10,md10,by lia,fun t dd H11 da dk md11 B11=>?_⟩
  have na11:=na10.tups (B11.tups md10.pk)
  refine⟨H5,l,d,lt,lg,lo,qa,ts,gs,os,r,fr,er,ps,N,t,dd,rfl,ok,na11,md11,sk,by lia,da,dk,fun qa2 ts2 gs2 os2 H13 dt2 t13 md13=>?_⟩
  obtain⟨sk2,gl2⟩:=dt2.ok ok sk dk
  exact⟨_,qa2,ts2,gs2,os2,rfl,md13,na11.tups t13,sk2,by lia⟩
 rintro σ H10 ⟨w5,qa,ts,gs,os,rfl,md10,na10,sk,gj⟩
 have gl:gs.length≤25:=by lia
 have tl:=sk.tl
 have ol:=sk.ol
 refine⟨_,rfl,H5,l,d,lt,lg,lo,qa,ts,gs,os,rfl,md10,by lia,by lia,by lia,fun sc tr gr ou qs H11 s11 sa=>?_⟩
 have na11:=na10.tups (Tups.of s11)
 have S11:=md10.pk.keep s11
 have B11:But l H3 H11:=(B5'.trans md10.but).trans (But.of s11)
 have ql:=sa.grs.len
 clear md10 na10 s11 md9 md8 md6 na6 na5 t9 s8 hq hx S9 B9 s6 S5 B5'
 refine⟨_,rfl,sc,_,_,_,rfl,rfl,SqT.of sa.sc,rfl,gr,qs,rfl,.inr (SqT.of sa.gr),_,rfl,by lia,by lia,?_⟩
 refine zbe (lo:=0) (n:=((qs.length:Nat):Int).toNat) (fun j σ H12=>(∃ w7 w8 w9 w10,σ=[some (.ref a),some (.int (0+(i:Nat))),some (.ref l),some (.ref r),some (.ref d),w5,some (.ref sc),w7,w8,w9,w10,v11,v12,v13])∧Same H11 H12) ⟨⟨_,_,_,_,rfl⟩,fun _ _ e=>e⟩ ?_ ?_
 ·rintro j σ H12 hj ⟨⟨w7,w8,w9,w10,rfl⟩,s12⟩
  have jq:j<gs.length:=by lia
  have e0:(0:Int)+((j:Nat):Int)=((j:Nat):Int):=Int.zero_add _
  refine⟨_,rfl,_,_,rfl,rfl,_,rfl,sc,_,_,_,rfl,rfl,SqT.of (s12 _ _ sa.sc),rfl,gr,qs,rfl,.inr (SqT.of (s12 _ _ sa.gr)),_,_,rfl,⟨by lia,by lia,by lia,by lia⟩,?_⟩
  refine zbe (lo:=0+(j:Int)+1) (n:=(((qs.length:Nat):Int)-(0+(j:Int)+1)).toNat) (fun o σ H13=>(∃ w8 w9 w10,σ=[some (.ref a),some (.int (0+(i:Nat))),some (.ref l),some (.ref r),some (.ref d),w5,some (.ref sc),some (.int (0+(j:Nat))),w8,w9,w10,v11,v12,v13])∧Same H11 H13) ⟨⟨_,_,_,rfl⟩,s12⟩ ?_ ?_
  ·rintro o σ H13 ho ⟨⟨w8,w9,w10,rfl⟩,s13⟩
   have oq:j+1+o<gs.length:=by lia
   have eo:(0:Int)+(j:Int)+1+((o:Nat):Int)=((j+1+o:Nat):Int):=by lia
   have sa13:=sa.tups (Tups.of s13)
   have na13:=na11.tups (Tups.of s13)
   refine⟨_,rfl,_,rfl,_,rfl,_,rfl,r,fr,er,ps,N,sc,tr,gr,ou,qs,ts,gs,os,j,j+1+o,gs[j],gs[j+1+o],by rw[eo,e0];rfl,ok,na13,sa13,sk,by lia,by lia,List.getElem?_eq_getElem jq,List.getElem?_eq_getElem oq,fun p sA tA gA oA qA sB tB gB oB qB ts' os' gsA gsB H14 s14 saA saB skA skB lA lB sums same hp=>?_⟩
   refine⟨p,_,rfl,SqT.of hp,rfl,_,_,rfl,_,_,rfl,rfl,?_⟩
   refine⟨_,rfl,sA,_,_,_,rfl,rfl,SqT.of saA.sc,rfl,_,rfl,sA,_,_,_,rfl,rfl,SqT.of saA.sc,rfl,_,rfl,sA,tA,gA,oA,qA,ts',gsA,os',rfl,saA,by lia,zd5 ok skA,fun lW eWs H15 s15 stW ddW=>⟨(by show 3≤sizeLine;decide),fun pW hpW=>?_⟩⟩
   have s16:=zad hpW (.tup [.ref tA,.ref oA,.ref lW])
   have saB16:=saB.tups (Tups.of (s15.trans s16))
   refine⟨_,rfl,sB,_,_,_,rfl,rfl,SqT.of saB16.sc,rfl,_,rfl,sB,_,_,_,rfl,rfl,SqT.of saB16.sc,rfl,_,rfl,sB,tB,gB,oB,qB,ts',gsB,os',rfl,saB16,by lia,zd5 ok skB,fun lS eSs H17 s17 stS ddS=>⟨(by show 3≤sizeLine;decide),fun pS hpS=>?_⟩⟩
   have s18:=zad hpS (.tup [.ref tB,.ref oB,.ref lS])
   have w18:=s17.trans s18
   have es:eWs=eSs:=stW.one stS sums
   have dW:DD _ 4 (.ref pW) _:=zbN (w18 _ _ (za4 hpW _)) ((s16.trans w18) _ _ (s15 _ _ saA.tr)) ((s16.trans w18) _ _ (s15 _ _ saA.ou)) (ddW.same (s16.trans w18))
   have dS:DD _ 4 (.ref pS) _:=zbN (za4 hpS (.tup [.ref tB,.ref oB,.ref lS])) (w18 _ _ saB16.tr) (w18 _ _ saB16.ou) (ddS.same s18)
   rw[es]at dW
   refine⟨4,_,_,by decide,dW,dS,false,?_,iteF ?_⟩
   ·show V.bl (!PyData.eqv _ _)=V.bl false
    rw[PySem.SeqAt.eqv_refl _ dS.ok.1];rfl
   have u18:=((s13.trans s14).trans s15).trans (s16.trans w18)
   have z18:=(s15.trans s16).trans w18
   have sa18:=sa.tups (Tups.of u18)
   generalize L2.upd H17 pS (.tup [.ref tB,.ref oB,.ref lS])=H18 at *
   obtain⟨pj,aj,gj',hpj,ej,egj,haj⟩:∃ p a g,qs[j]?=some p∧p=.ref a∧gs[j]?=some g∧H18 a=some (.tup [.int g.many,.int g.lane,.int g.fork]):=by
    obtain⟨a,g,e1,e2,e3⟩:=sa18.grs.get (i:=j) (p:=qs[j]'(by lia)) (List.getElem?_eq_getElem _)
    exact⟨_,a,g,List.getElem?_eq_getElem (by lia),e1,e2,e3⟩
   obtain⟨po,ao,go',hpo,eo',ego,hao⟩:∃ p a g,qs[j+1+o]?=some p∧p=.ref a∧gs[j+1+o]?=some g∧H18 a=some (.tup [.int g.many,.int g.lane,.int g.fork]):=by
    obtain⟨a,g,e1,e2,e3⟩:=sa18.grs.get (i:=j+1+o) (p:=qs[j+1+o]'(by lia)) (List.getElem?_eq_getElem _)
    exact⟨_,a,g,List.getElem?_eq_getElem (by lia),e1,e2,e3⟩
   subst ej eo'
   rw[List.getElem?_eq_getElem jq]at egj
   rw[List.getElem?_eq_getElem oq]at ego
   obtain rfl:=Option.some.inj egj
   obtain rfl:=Option.some.inj ego
   refine⟨_,rfl,sc,_,_,_,rfl,rfl,SqT.of sa18.sc,rfl,_,rfl,gr,_,_,_,rfl,rfl,SqT.of sa18.gr,by rw[e0];exact zaJ hpj,aj,_,_,_,rfl,rfl,SqT.of haj,rfl,_,rfl,sc,_,_,_,rfl,rfl,SqT.of sa18.sc,rfl,_,rfl,gr,_,_,_,rfl,rfl,SqT.of sa18.gr,by rw[eo];exact zaJ hpo,ao,_,_,_,rfl,rfl,SqT.of hao,rfl,rfl,?_⟩
   by_cases z:gs[j].fork=gs[j+1+o].fork
   ·refine⟨false,?_,iteF (iteF ⟨⟨_,_,_,rfl⟩,u18⟩)⟩
    show V.bl (!decide (V.int _=V.int _))=V.bl false
    rw[z,decide_eq_true rfl];rfl
   ·obtain rfl:=same z
    have saA18:=saA.tups (Tups.of z18)
    have saB18:=saB.tups (Tups.of z18)
    have dA:=zdj saA18
    have dB:=zdj saB18
    refine⟨true,?_,iteT ⟨_,rfl,sA,_,_,_,rfl,rfl,SqT.of saA18.sc,rfl,_,rfl,sB,_,_,_,rfl,rfl,SqT.of saB18.sc,rfl,2,_,_,by decide,dA,dB,false,?_,iteF ⟨⟨_,_,_,rfl⟩,u18⟩⟩⟩
    ·show V.bl (!decide (V.int _=V.int _))=V.bl true
     rw[decide_eq_false fun (y:V.int ((gs[j].fork:Nat):Int)=V.int ((gs[j+1+o].fork:Nat):Int))=>z (Int.ofNat.inj (V.int.inj y))];rfl
    ·show V.bl (!PyData.eqv _ _)=V.bl false
     rw[PySem.SeqAt.eqv_refl _ dB.ok.1];rfl
  ·rintro σ H13 ⟨⟨w8,w9,w10,rfl⟩,s13⟩
   exact⟨⟨_,_,_,_,rfl⟩,s13⟩
 rintro σ H12 ⟨⟨w7,w8,w9,w10,rfl⟩,s12⟩
 have sa12:=sa.tups (Tups.of s12)
 have na12:=na11.tups (Tups.of s12)
 have S12:=S11.keep s12
 refine⟨_,rfl,l,rfl,S12,fun m1 H13 m10 m1a m1b S13 B13=>⟨_,rfl,l,rfl,S13,fun m2 H14 m20 m2a m2b S14 B14=>⟨_,_,rfl,?_⟩⟩⟩
 have t14:=(B13.tups S12).trans (B14.tups S13)
 refine⟨_,rfl,_,rfl,r,_,_,_,rfl,rfl,SqT.of (t14 _ _ na12.net),rfl,l,N.lanes,rfl,by lia,by lia,S14,fun lane H15 hlane S15 B15=>?_⟩
 have t15:=t14.trans (B15.tups S14)
 have sq:∀ {H16:Hp},Same H15 H16→SqL K H16 a (ns.map V.int):=fun s16=>zhw hS2 hl s3 (((((B11.trans (But.of s12)).trans B13).trans B14).trans B15).trans (But.of s16))
 refine⟨_,rfl,_,rfl,_,_,rfl,rfl,rfl,?_⟩
 by_cases z:m1+m2=0
 ·refine⟨false,?_,iteF (iteF ⟨⟨_,_,_,_,_,_,_,_,_,_,_,_,_,rfl⟩,sq fun _ _ e=>e⟩)⟩
  show V.bl (!decide (V.int (m1+m2)=V.int 0))=V.bl false
  rw[z,decide_eq_true rfl];rfl
 ·refine⟨true,?_,iteT ⟨_,rfl,_,rfl,_,rfl,_,rfl,_,rfl,r,fr,er,ps,N,sc,tr,gr,ou,qs,ts,gs,os,lane,m1,m2,rfl,ok,na12.tups t15,sa12.tups t15,sk,by lia,by lia,m10,m20,z,m1a,m1b,m2a,m2b,fun H16 s16=>⟨true,rfl,iteF ⟨⟨_,_,_,_,_,_,_,_,_,_,_,_,_,rfl⟩,sq s16⟩⟩⟩⟩
  show V.bl (!decide (V.int (m1+m2)=V.int 0))=V.bl true
  rw[decide_eq_false fun y=>z (V.int.inj y)];rfl
end
structure FnAt (K:PySem.W.Frag) (x:Str) (st:Stmt) (f:Addr) (fd:FuncData):Prop where
 ns:PySem.W.nsIn K mainGlobals x=some (some (.ref f))
 fn:Fun K x x st f fd
theorem zaL {K:PySem.W.Frag}{x:Str}{st:Stmt}{f:Addr}{oc:Value}{od an:Option Addr}{osl:Array (Option Value)}{kV doc pm cdv ct:Value}(a:PySem.W.nsIn K mainGlobals x=some (some (.ref f)))
  (l:K.lookup f=some ⟨oc,od,.func (PySem.W.fnOf x x (zbD st) (zbn st) (zak st) .none kV doc pm an cdv ct),osl⟩) (c:PySem.W.codeIn K cdv x=true) (k:PySem.W.keepIn K (.ref f)=true):FnAt K x st f (PySem.W.fnOf x x (zbD st) (zbn st) (zak st) .none kV doc pm an cdv ct):=⟨a,zjp l c k⟩
theorem us1 {us:List Value}(h:us.length=1):∃ u0,us=[u0]:=by
 match us,h with
 | [u0],_=>exact⟨u0,rfl⟩
theorem us2 {us:List Value}(h:us.length=2):∃ u0 u1,us=[u0,u1]:=by
 match us,h with
 | [u0,u1],_=>exact⟨u0,u1,rfl⟩
theorem us3 {us:List Value}(h:us.length=3):∃ u0 u1 u2,us=[u0,u1,u2]:=by
 match us,h with
 | [u0,u1,u2],_=>exact⟨u0,u1,u2,rfl⟩
theorem us4 {us:List Value}(h:us.length=4):∃ u0 u1 u2 u3,us=[u0,u1,u2,u3]:=by
 match us,h with
 | [u0,u1,u2,u3],_=>exact⟨u0,u1,u2,u3,rfl⟩
theorem us5 {us:List Value}(h:us.length=5):∃ u0 u1 u2 u3 u4,us=[u0,u1,u2,u3,u4]:=by
 match us,h with
 | [u0,u1,u2,u3,u4],_=>exact⟨u0,u1,u2,u3,u4,rfl⟩
set_option maxHeartbeats 4000001 in
theorem zjv {l:PySem.W.OpenLaw}{w:World}{K:PySem.W.Frag}{h:Heap}{mg:Str→Option Value}{fa f1 f2 f3 f4 f5 f6 f7 f8 f9 f10 f11 f12 f13 f14 f15 f16 f17 f18 f19 f20 f21 f22 f23 f24 f25 f26 f27 f28 f29 f30 f31 f32 f33 f34 f35:Addr}{d1 d2 d3 d4 d5 d6 d7 d8 d9 d10 d11 d12 d13 d14 d15 d16 d17 d18 d19 d20 d21 d22 d23 d24 d25 d26 d27 d28 d29 d30 d31 d32 d33 d34 d35:FuncData}(X:K.In h) (G:h.Ns mainGlobals mg) (hfa:mg "law" = some (.ref fa))
  (A1:FnAt K "_law_cell_at" zhO f1 d1)
  (A2:FnAt K "_law_left" zhL f2 d2)
  (A3:FnAt K "_law_pick" zhI f3 d3)
  (A4:FnAt K "_law_of" sOf f4 d4)
  (A5:FnAt K "_law_placed" zdG f5 d5)
  (A6:FnAt K "_law_net" sNet f6 d6)
  (A7:FnAt K "_law_many" ze3 f7 d7)
  (A8:FnAt K "is_whole" zeX f8 d8)
  (A9:FnAt K "is_below" ze8 f9 d9)
  (A10:FnAt K "has_few_figures" sFew f10 d10)
  (A11:FnAt K "is_row" ze5 f11 d11)
  (A12:FnAt K "is_word" zhG f12 d12)
  (A13:FnAt K "is_place" ze0 f13 d13)
  (A14:FnAt K "is_many" zhK f14 d14)
  (A15:FnAt K "is_deed" zhN f15 d15)
  (A16:FnAt K "next_fork" zhJ f16 d16)
  (A17:FnAt K "put_behind" zhH f17 d17)
  (A18:FnAt K "end_of" sEnd f18 d18)
  (A19:FnAt K "given_at" ze6 f19 d19)
  (A20:FnAt K "added" zfa f20 d20)
  (A21:FnAt K "parted" zdH f21 d21)
  (A22:FnAt K "stepped" zcB f22 d22)
  (A23:FnAt K "joined" zdI f23 d23)
  (A24:FnAt K "done" zhM f24 d24)
  (A25:FnAt K "_law_model" ze2 f25 d25)
  (A26:FnAt K "_law_ahead" ze9 f26 d26)
  (A27:FnAt K "_law_scene" zeZ f27 d27)
  (A28:FnAt K "_law_step" ze4 f28 d28)
  (A29:FnAt K "_law_do" sDoL f29 d29)
  (A30:FnAt K "_law_pairs" ze1 f30 d30)
  (A31:FnAt K "_law_deed" ze7 f31 d31)
  (A32:FnAt K "_law_stood" zeY f32 d32)
  (A33:FnAt K "_law_both" zhP f33 d33)
  (A34:FnAt K "_law_parted" sPtd f34 d34)
  (A35:FnAt K "law" sLaw f35 d35)
  (z1:PySem.W.nsIn K mainGlobals "len" = some none)
  (z2:PySem.W.nsIn K mainGlobals "range" = some none)
  (z3:PySem.W.nsIn K mainGlobals "tuple" = some none)
  (z4:PySem.W.nsIn K mainGlobals "enumerate" = some none)
  (z5:PySem.W.nsIn K mainGlobals "abs" = some none)
  (z6:PySem.W.nsIn K mainGlobals "zip" = some none)
  (z7:PySem.W.nsIn K mainGlobals "isinstance" = some none)
  (z8:PySem.W.nsIn K mainGlobals "all" = some none)
  (z9:PySem.W.nsIn K mainGlobals "sum" = some none)
  (z10:PySem.W.nsIn K mainGlobals "bool" = some none)
  (z11:PySem.W.nsIn K mainGlobals "int" = some none)
  (z12:PySem.W.nsIn K mainGlobals "str" = some none)
  (z13:PySem.W.nsIn K mainGlobals "max" = some none)
  (z14:PySem.W.nsIn K mainGlobals "min" = some none)
  (z15:PySem.W.nsIn K mainGlobals "sorted" = some none)
  (z16:PySem.W.nsIn K mainGlobals "list" = some none)
  (zd:PySem.W.nsIn K cStatics "sys.int_max_str_digits" = some none)
  : ∃ fd:FuncData,(∀ (s:Shared) (v:Value),BindsTo s fd ⟨[v],[]⟩ [("_law_script",v)])∧∀ base:Heap,K.In base→base.Ns mainGlobals mg→FnOk l.prog w K mg base CX0 7 fa fd ["_law_script"] (zgm K):=by
 have e:=hfa.symm.trans (PySem.W.mg_of X G A35.ns)
 cases e
 have M:Mgs mg:=⟨PySem.W.mg_none_of X G z1,PySem.W.mg_none_of X G z2,PySem.W.mg_none_of X G z3,PySem.W.mg_none_of X G z4,PySem.W.mg_none_of X G z5,PySem.W.mg_none_of X G z6,PySem.W.mg_none_of X G z7,PySem.W.mg_none_of X G z8,PySem.W.mg_none_of X G z9,PySem.W.mg_none_of X G z10,PySem.W.mg_none_of X G z11,PySem.W.mg_none_of X G z12,PySem.W.mg_none_of X G z13,PySem.W.mg_none_of X G z14,PySem.W.mg_none_of X G z15,PySem.W.mg_none_of X G z16⟩
 have b1:=A1.fn.binds (ps:=["_law_script","_law_k"]) fun _ _ _ _ _ _ us hl=>by obtain⟨u0,u1,rfl⟩:=us2 hl;rfl
 have m1:=PySem.W.mg_of X G A1.ns
 have b2:=A2.fn.binds (ps:=["_law_script","_law_k"]) fun _ _ _ _ _ _ us hl=>by obtain⟨u0,u1,rfl⟩:=us2 hl;rfl
 have m2:=PySem.W.mg_of X G A2.ns
 have b3:=A3.fn.binds (ps:=["_law_left_here","_law_many_here"]) fun _ _ _ _ _ _ us hl=>by obtain⟨u0,u1,rfl⟩:=us2 hl;rfl
 have m3:=PySem.W.mg_of X G A3.ns
 have b4:=A4.fn.binds (ps:=["_law_left_here","_law_some"]) fun _ _ _ _ _ _ us hl=>by obtain⟨u0,u1,rfl⟩:=us2 hl;rfl
 have m4:=PySem.W.mg_of X G A4.ns
 have b5:=A5.fn.binds (ps:=["_law_left_here","_law_some"]) fun _ _ _ _ _ _ us hl=>by obtain⟨u0,u1,rfl⟩:=us2 hl;rfl
 have m5:=PySem.W.mg_of X G A5.ns
 have b6:=A6.fn.binds (ps:=["_law_left_here","_law_lanes","_law_most"]) fun _ _ _ _ _ _ us hl=>by obtain⟨u0,u1,u2,rfl⟩:=us3 hl;rfl
 have m6:=PySem.W.mg_of X G A6.ns
 have b7:=A7.fn.binds (ps:=["_law_left_here"]) fun _ _ _ _ _ _ us hl=>by obtain⟨u0,rfl⟩:=us1 hl;rfl
 have m7:=PySem.W.mg_of X G A7.ns
 have b8:=A8.fn.binds (ps:=["thing"]) fun _ _ _ _ _ _ us hl=>by obtain⟨u0,rfl⟩:=us1 hl;rfl
 have m8:=PySem.W.mg_of X G A8.ns
 have b9:=A9.fn.binds (ps:=["thing","bound"]) fun _ _ _ _ _ _ us hl=>by obtain⟨u0,u1,rfl⟩:=us2 hl;rfl
 have m9:=PySem.W.mg_of X G A9.ns
 have b10:=A10.fn.binds (ps:=["thing"]) fun _ _ _ _ _ _ us hl=>by obtain⟨u0,rfl⟩:=us1 hl;rfl
 have m10:=PySem.W.mg_of X G A10.ns
 have b11:=A11.fn.binds (ps:=["thing","many"]) fun _ _ _ _ _ _ us hl=>by obtain⟨u0,u1,rfl⟩:=us2 hl;rfl
 have m11:=PySem.W.mg_of X G A11.ns
 have b12:=A12.fn.binds (ps:=["thing","word"]) fun _ _ _ _ _ _ us hl=>by obtain⟨u0,u1,rfl⟩:=us2 hl;rfl
 have m12:=PySem.W.mg_of X G A12.ns
 have b13:=A13.fn.binds (ps:=["thing"]) fun _ _ _ _ _ _ us hl=>by obtain⟨u0,rfl⟩:=us1 hl;rfl
 have m13:=PySem.W.mg_of X G A13.ns
 have b14:=A14.fn.binds (ps:=["thing"]) fun _ _ _ _ _ _ us hl=>by obtain⟨u0,rfl⟩:=us1 hl;rfl
 have m14:=PySem.W.mg_of X G A14.ns
 have b15:=A15.fn.binds (ps:=["net","thing"]) fun _ _ _ _ _ _ us hl=>by obtain⟨u0,u1,rfl⟩:=us2 hl;rfl
 have m15:=PySem.W.mg_of X G A15.ns
 have b16:=A16.fn.binds (ps:=["net","lane","number"]) fun _ _ _ _ _ _ us hl=>by obtain⟨u0,u1,u2,rfl⟩:=us3 hl;rfl
 have m16:=PySem.W.mg_of X G A16.ns
 have b17:=A17.fn.binds (ps:=["net","scene","lane","many"]) fun _ _ _ _ _ _ us hl=>by obtain⟨u0,u1,u2,u3,rfl⟩:=us4 hl;rfl
 have m17:=PySem.W.mg_of X G A17.ns
 have b18:=A18.fn.binds (ps:=["net","lane"]) fun _ _ _ _ _ _ us hl=>by obtain⟨u0,u1,rfl⟩:=us2 hl;rfl
 have m18:=PySem.W.mg_of X G A18.ns
 have b19:=A19.fn.binds (ps:=["row","place","value"]) fun _ _ _ _ _ _ us hl=>by obtain⟨u0,u1,u2,rfl⟩:=us3 hl;rfl
 have m19:=PySem.W.mg_of X G A19.ns
 have b20:=A20.fn.binds (ps:=["counts","place","many"]) fun _ _ _ _ _ _ us hl=>by obtain⟨u0,u1,u2,rfl⟩:=us3 hl;rfl
 have m20:=PySem.W.mg_of X G A20.ns
 have b21:=A21.fn.binds (ps:=["net","turn","many","number"]) fun _ _ _ _ _ _ us hl=>by obtain⟨u0,u1,u2,u3,rfl⟩:=us4 hl;rfl
 have m21:=PySem.W.mg_of X G A21.ns
 have b22:=A22.fn.binds (ps:=["net","scene","place"]) fun _ _ _ _ _ _ us hl=>by obtain⟨u0,u1,u2,rfl⟩:=us3 hl;rfl
 have m22:=PySem.W.mg_of X G A22.ns
 have b23:=A23.fn.binds (ps:=["scene","first","second"]) fun _ _ _ _ _ _ us hl=>by obtain⟨u0,u1,u2,rfl⟩:=us3 hl;rfl
 have m23:=PySem.W.mg_of X G A23.ns
 have b24:=A24.fn.binds (ps:=["net","scene","deed"]) fun _ _ _ _ _ _ us hl=>by obtain⟨u0,u1,u2,rfl⟩:=us3 hl;rfl
 have m24:=PySem.W.mg_of X G A24.ns
 have b25:=A25.fn.binds (ps:=["_law_net_here"]) fun _ _ _ _ _ _ us hl=>by obtain⟨u0,rfl⟩:=us1 hl;rfl
 have m25:=PySem.W.mg_of X G A25.ns
 have b26:=A26.fn.binds (ps:=["_law_net_here","_law_lane","_law_number"]) fun _ _ _ _ _ _ us hl=>by obtain⟨u0,u1,u2,rfl⟩:=us3 hl;rfl
 have m26:=PySem.W.mg_of X G A26.ns
 have b27:=A27.fn.binds (ps:=["_law_model_here"]) fun _ _ _ _ _ _ us hl=>by obtain⟨u0,rfl⟩:=us1 hl;rfl
 have m27:=PySem.W.mg_of X G A27.ns
 have b28:=A28.fn.binds (ps:=["_law_net_here","_law_model_here","_law_k"]) fun _ _ _ _ _ _ us hl=>by obtain⟨u0,u1,u2,rfl⟩:=us3 hl;rfl
 have m28:=PySem.W.mg_of X G A28.ns
 have b29:=A29.fn.binds (ps:=["_law_net_here","_law_model_here","_law_deed_here"]) fun _ _ _ _ _ _ us hl=>by obtain⟨u0,u1,u2,rfl⟩:=us3 hl;rfl
 have m29:=PySem.W.mg_of X G A29.ns
 have b30:=A30.fn.binds (ps:=["_law_model_here"]) fun _ _ _ _ _ _ us hl=>by obtain⟨u0,rfl⟩:=us1 hl;rfl
 have m30:=PySem.W.mg_of X G A30.ns
 have b31:=A31.fn.binds (ps:=["_law_left_here","_law_net_here","_law_model_here"]) fun _ _ _ _ _ _ us hl=>by obtain⟨u0,u1,u2,rfl⟩:=us3 hl;rfl
 have m31:=PySem.W.mg_of X G A31.ns
 have b32:=A32.fn.binds (ps:=["_law_scene_here"]) fun _ _ _ _ _ _ us hl=>by obtain⟨u0,rfl⟩:=us1 hl;rfl
 have m32:=PySem.W.mg_of X G A32.ns
 have b33:=A33.fn.binds (ps:=["_law_net_here","_law_scene_here","_law_j","_law_k"]) fun _ _ _ _ _ _ us hl=>by obtain⟨u0,u1,u2,u3,rfl⟩:=us4 hl;rfl
 have m33:=PySem.W.mg_of X G A33.ns
 have b34:=A34.fn.binds (ps:=["_law_net_here","_law_scene_here","_law_lane","_law_many_here","_law_more"]) fun _ _ _ _ _ _ us hl=>by obtain⟨u0,u1,u2,u3,u4,rfl⟩:=us5 hl;rfl
 have m34:=PySem.W.mg_of X G A34.ns
 obtain⟨oc,od,kV,doc,pm,an,cdv,ct,osl,ed,_,_⟩:=id A35.fn.ex
 refine⟨d35,fun s v=>by rw[ed];exact .of_eq rfl,fun base _ _=>?_⟩
 have U1:Use l.prog w K mg base "_law_cell_at" ["_law_script","_law_k"] 1 (zeS K) f1 d1:=⟨zie A1.fn M,b1,A1.fn.kp,m1⟩
 have U2:Use l.prog w K mg base "_law_left" ["_law_script","_law_k"] 2 (zeQ K) f2 d2:=⟨zib A2.fn M zd U1,b2,A2.fn.kp,m2⟩
 have U3:Use l.prog w K mg base "_law_pick" ["_law_left_here","_law_many_here"] 1 zbE f3 d3:=⟨zh8 A3.fn,b3,A3.fn.kp,m3⟩
 have U4:Use l.prog w K mg base "_law_of" ["_law_left_here","_law_some"] 2 spOf f4 d4:=⟨zjS A4.fn M U3,b4,A4.fn.kp,m4⟩
 have U5:Use l.prog w K mg base "_law_placed" ["_law_left_here","_law_some"] 2 zcu f5 d5:=⟨zfm A5.fn M U3,b5,A5.fn.kp,m5⟩
 have U6:Use l.prog w K mg base "_law_net" ["_law_left_here","_law_lanes","_law_most"] 3 (zeO 10) f6 d6:=⟨zjb 10 (by decide) A6.fn M U3 U4 U5,b6,A6.fn.kp,m6⟩
 have U7:Use l.prog w K mg base "_law_many" ["_law_left_here"] 3 zcw f7 d7:=⟨zgK A7.fn M U3 U4,b7,A7.fn.kp,m7⟩
 have U8:Use l.prog w K mg base "is_whole" ["thing"] 1 (zbR K) f8 d8:=⟨zgE A8.fn M,b8,A8.fn.kp,m8⟩
 have U9:Use l.prog w K mg base "is_below" ["thing","bound"] 2 (zdD K) f9 d9:=⟨zgP A9.fn M U8,b9,A9.fn.kp,m9⟩
 have U10:Use l.prog w K mg base "has_few_figures" ["thing"] 2 (zhy K) f10 d10:=⟨zjd A10.fn M U8,b10,A10.fn.kp,m10⟩
 have U11:Use l.prog w K mg base "is_row" ["thing","many"] 1 (zdB K) f11 d11:=⟨zgM A11.fn M,b11,A11.fn.kp,m11⟩
 have U12:Use l.prog w K mg base "is_word" ["thing","word"] 1 (zeM K) f12 d12:=⟨zh6 A12.fn M,b12,A12.fn.kp,m12⟩
 have U13:Use l.prog w K mg base "is_place" ["thing"] 2 (zdx K) f13 d13:=⟨zgH A13.fn M U8,b13,A13.fn.kp,m13⟩
 have U14:Use l.prog w K mg base "is_many" ["thing"] 3 (zeP K) f14 d14:=⟨zia A14.fn M U10,b14,A14.fn.kp,m14⟩
 have U15:Use l.prog w K mg base "is_deed" ["net","thing"] 4 (zeR K) f15 d15:=⟨zid A15.fn M U11 U12 U9 U14 U13,b15,A15.fn.kp,m15⟩
 have U16:Use l.prog w K mg base "next_fork" ["net","lane","number"] 1 zd2 f16 d16:=⟨zh9 A16.fn M,b16,A16.fn.kp,m16⟩
 have U17:Use l.prog w K mg base "put_behind" ["net","scene","lane","many"] 2 zeN f17 d17:=⟨zh7 A17.fn M U16,b17,A17.fn.kp,m17⟩
 have U18:Use l.prog w K mg base "end_of" ["net","lane"] 1 zhz f18 d18:=⟨zje A18.fn,b18,A18.fn.kp,m18⟩
 have U19:Use l.prog w K mg base "given_at" ["row","place","value"] 1 zcy f19 d19:=⟨zgN A19.fn M,b19,A19.fn.kp,m19⟩
 have U20:Use l.prog w K mg base "added" ["counts","place","many"] 2 zdE f20 d20:=⟨zgR A20.fn M U19,b20,A20.fn.kp,m20⟩
 have U21:Use l.prog w K mg base "parted" ["net","turn","many","number"] 2 zcv f21 d21:=⟨zfn A21.fn M U16,b21,A21.fn.kp,m21⟩
 have U22:Use l.prog w K mg base "stepped" ["net","scene","place"] 3 zbS f22 d22:=⟨zew A22.fn M U20 U18 U21 U19,b22,A22.fn.kp,m22⟩
 have U23:Use l.prog w K mg base "joined" ["scene","first","second"] 1 zcx f23 d23:=⟨zfo A23.fn M,b23,A23.fn.kp,m23⟩
 have U24:Use l.prog w K mg base "done" ["net","scene","deed"] 5 zd3 f24 d24:=⟨zic A24.fn M U15 U17 U22 U23,b24,A24.fn.kp,m24⟩
 have U25:Use l.prog w K mg base "_law_model" ["_law_net_here"] 1 zdz f25 d25:=⟨zgJ A25.fn M,b25,A25.fn.kp,m25⟩
 have U26:Use l.prog w K mg base "_law_ahead" ["_law_net_here","_law_lane","_law_number"] 1 zcz f26 d26:=⟨zgQ A26.fn M,b26,A26.fn.kp,m26⟩
 have U27:Use l.prog w K mg base "_law_scene" ["_law_model_here"] 1 zct f27 d27:=⟨zgG A27.fn M,b27,A27.fn.kp,m27⟩
 have U28:Use l.prog w K mg base "_law_step" ["_law_net_here","_law_model_here","_law_k"] 2 zdA f28 d28:=⟨zgL A28.fn M U26,b28,A28.fn.kp,m28⟩
 have U29:Use l.prog w K mg base "_law_do" ["_law_net_here","_law_model_here","_law_deed_here"] 3 zhA f29 d29:=⟨zjT A29.fn M U26 U28,b29,A29.fn.kp,m29⟩
 have U30:Use l.prog w K mg base "_law_pairs" ["_law_model_here"] 1 zdy f30 d30:=⟨zgI A30.fn M,b30,A30.fn.kp,m30⟩
 have U31:Use l.prog w K mg base "_law_deed" ["_law_left_here","_law_net_here","_law_model_here"] 4 zdC f31 d31:=⟨zgO A31.fn M U3 U30 U4 U7,b31,A31.fn.kp,m31⟩
 have U32:Use l.prog w K mg base "_law_stood" ["_law_scene_here"] 1 zcs f32 d32:=⟨zgF A32.fn M,b32,A32.fn.kp,m32⟩
 have U33:Use l.prog w K mg base "_law_both" ["_law_net_here","_law_scene_here","_law_j","_law_k"] 6 zeT f33 d33:=⟨zif A33.fn M U24,b33,A33.fn.kp,m33⟩
 have U34:Use l.prog w K mg base "_law_parted" ["_law_net_here","_law_scene_here","_law_lane","_law_many_here","_law_more"] 6 zhx f34 d34:=⟨zja A34.fn M U24 U32,b34,A34.fn.kp,m34⟩
 exact zjc A35.fn M U2 U6 U25 U4 U31 U29 U27 U33 U32 U7 U3 U34
theorem walk {l:PySem.W.OpenLaw}{q:Program}{loose:List Str}{XP:(Str→Option Value)→Heap→Prop}{YP:World→Heap→Prop}{d:DefRec}{K:Params→PySem.W.Frag}(hn:l.most=some 63) (hdf:d.params.defaults=[])
  (hY:∀ (w:World) (h:Heap),YP w h→(K w.params).In h)
  (F:∀ (w:World) (mg:Str→Option Value) (fa:Addr) (h:Heap),(K w.params).In h→h.Ns mainGlobals mg→mg d.name=some (.ref fa) →
   ∃ fd:FuncData,(∀ (s:Shared) (u:Value),BindsTo s fd ⟨[u],[]⟩ [("_law_script",u)])∧∀ base:Heap,(K w.params).In base→base.Ns mainGlobals mg→FnOk l.prog w (K w.params) mg base CX0 7 fa fd ["_law_script"] (zgm (K w.params))) :
  PySem.W.WalkO q loose XP YP l.row.toRowW d [] (fun f vs=>PySem.call f vs) :=
 L2.zgd (n:=63) (k:=7) (x:="_law_script") (CX:=CX0) (sp:=zgm) hn (by decide) hdf ⟨rfl,by decide,by decide,rfl⟩ hY F (fun _ _ a ns hl _ hS=>⟨a,ns,rfl,hS,hl,fun _=>rfl⟩) fun _ _ _ _ z=>z
end K21
theorem PySem.W.Fast.tw14928060696450633144:True:=trivial
theorem PySem.W.Fast.tw13517579289006177743:True:=trivial
theorem PySem.W.Fast.tw14979800223460104053:True:=trivial
theorem PySem.W.Fast.tw926755689010946186:True:=trivial
theorem PySem.W.Fast.tw12619540264512727473:True:=trivial
theorem PySem.W.Fast.tw5411338856303678064:True:=trivial
theorem PySem.W.Fast.tw5000159241034286681:True:=trivial
open PySem PySem.W PyProof.Rows
set_option maxRecDepth 100000 in
set_option maxHeartbeats 0 in
theorem PySem.Challenge.cw_stairlanes_k21_whole_orders_of_steps_holds : PySem.Challenge.rw_stairlanes_k21_whole_orders_of_steps.Holds := by
 w_on;o_law;k_head;(case hw=>w_witness2)
 k_fill
 refine K21.walk (l:=PySem.Challenge.rw_stairlanes_k21_whole_orders_of_steps) rfl rfl (fun w h Y=>PySem.W.kIn_of Y) ?F
 case F =>
  intro w mg fa h KX G hmg
  refine' K21.zjv KX G hmg (K21.zaL ?a1 ?l1 ?c1 ?k1) (K21.zaL ?a2 ?l2 ?c2 ?k2) (K21.zaL ?a3 ?l3 ?c3 ?k3) (K21.zaL ?a4 ?l4 ?c4 ?k4) (K21.zaL ?a5 ?l5 ?c5 ?k5) (K21.zaL ?a6 ?l6 ?c6 ?k6) (K21.zaL ?a7 ?l7 ?c7 ?k7) (K21.zaL ?a8 ?l8 ?c8 ?k8) (K21.zaL ?a9 ?l9 ?c9 ?k9) (K21.zaL ?a10 ?l10 ?c10 ?k10) (K21.zaL ?a11 ?l11 ?c11 ?k11) (K21.zaL ?a12 ?l12 ?c12 ?k12) (K21.zaL ?a13 ?l13 ?c13 ?k13) (K21.zaL ?a14 ?l14 ?c14 ?k14) (K21.zaL ?a15 ?l15 ?c15 ?k15) (K21.zaL ?a16 ?l16 ?c16 ?k16) (K21.zaL ?a17 ?l17 ?c17 ?k17) (K21.zaL ?a18 ?l18 ?c18 ?k18) (K21.zaL ?a19 ?l19 ?c19 ?k19) (K21.zaL ?a20 ?l20 ?c20 ?k20) (K21.zaL ?a21 ?l21 ?c21 ?k21) (K21.zaL ?a22 ?l22 ?c22 ?k22) (K21.zaL ?a23 ?l23 ?c23 ?k23) (K21.zaL ?a24 ?l24 ?c24 ?k24) (K21.zaL ?a25 ?l25 ?c25 ?k25) (K21.zaL ?a26 ?l26 ?c26 ?k26) (K21.zaL ?a27 ?l27 ?c27 ?k27) (K21.zaL ?a28 ?l28 ?c28 ?k28) (K21.zaL ?a29 ?l29 ?c29 ?k29) (K21.zaL ?a30 ?l30 ?c30 ?k30) (K21.zaL ?a31 ?l31 ?c31 ?k31) (K21.zaL ?a32 ?l32 ?c32 ?k32) (K21.zaL ?a33 ?l33 ?c33 ?k33) (K21.zaL ?a34 ?l34 ?c34 ?k34) (K21.zaL ?a35 ?l35 ?c35 ?k35) ?z1 ?z2 ?z3 ?z4 ?z5 ?z6 ?z7 ?z8 ?z9 ?z10 ?z11 ?z12 ?z13 ?z14 ?z15 ?z16 ?zd
  (case a1=>k_is);(case l1=>k_is);(case c1=>k_is);(case k1=>k_is)
  (case a2=>k_is);(case l2=>k_is);(case c2=>k_is);(case k2=>k_is)
  (case a3=>k_is);(case l3=>k_is);(case c3=>k_is);(case k3=>k_is)
  (case a4=>k_is);(case l4=>k_is);(case c4=>k_is);(case k4=>k_is)
  (case a5=>k_is);(case l5=>k_is);(case c5=>k_is);(case k5=>k_is)
  (case a6=>k_is);(case l6=>k_is);(case c6=>k_is);(case k6=>k_is)
  (case a7=>k_is);(case l7=>k_is);(case c7=>k_is);(case k7=>k_is)
  (case a8=>k_is);(case l8=>k_is);(case c8=>k_is);(case k8=>k_is)
  (case a9=>k_is);(case l9=>k_is);(case c9=>k_is);(case k9=>k_is)
  (case a10=>k_is);(case l10=>k_is);(case c10=>k_is);(case k10=>k_is)
  (case a11=>k_is);(case l11=>k_is);(case c11=>k_is);(case k11=>k_is)
  (case a12=>k_is);(case l12=>k_is);(case c12=>k_is);(case k12=>k_is)
  (case a13=>k_is);(case l13=>k_is);(case c13=>k_is);(case k13=>k_is)
  (case a14=>k_is);(case l14=>k_is);(case c14=>k_is);(case k14=>k_is)
  (case a15=>k_is);(case l15=>k_is);(case c15=>k_is);(case k15=>k_is)
  (case a16=>k_is);(case l16=>k_is);(case c16=>k_is);(case k16=>k_is)
  (case a17=>k_is);(case l17=>k_is);(case c17=>k_is);(case k17=>k_is)
  (case a18=>k_is);(case l18=>k_is);(case c18=>k_is);(case k18=>k_is)
  (case a19=>k_is);(case l19=>k_is);(case c19=>k_is);(case k19=>k_is)
  (case a20=>k_is);(case l20=>k_is);(case c20=>k_is);(case k20=>k_is)
  (case a21=>k_is);(case l21=>k_is);(case c21=>k_is);(case k21=>k_is)
  (case a22=>k_is);(case l22=>k_is);(case c22=>k_is);(case k22=>k_is)
  (case a23=>k_is);(case l23=>k_is);(case c23=>k_is);(case k23=>k_is)
  (case a24=>k_is);(case l24=>k_is);(case c24=>k_is);(case k24=>k_is)
  (case a25=>k_is);(case l25=>k_is);(case c25=>k_is);(case k25=>k_is)
  (case a26=>k_is);(case l26=>k_is);(case c26=>k_is);(case k26=>k_is)
  (case a27=>k_is);(case l27=>k_is);(case c27=>k_is);(case k27=>k_is)
  (case a28=>k_is);(case l28=>k_is);(case c28=>k_is);(case k28=>k_is)
  (case a29=>k_is);(case l29=>k_is);(case c29=>k_is);(case k29=>k_is)
  (case a30=>k_is);(case l30=>k_is);(case c30=>k_is);(case k30=>k_is)
  (case a31=>k_is);(case l31=>k_is);(case c31=>k_is);(case k31=>k_is)
  (case a32=>k_is);(case l32=>k_is);(case c32=>k_is);(case k32=>k_is)
  (case a33=>k_is);(case l33=>k_is);(case c33=>k_is);(case k33=>k_is)
  (case a34=>k_is);(case l34=>k_is);(case c34=>k_is);(case k34=>k_is)
  (case a35=>k_is);(case l35=>k_is);(case c35=>k_is);(case k35=>k_is)
  (case z1=>k_is)
  (case z2=>k_is)
  (case z3=>k_is)
  (case z4=>k_is)
  (case z5=>k_is)
  (case z6=>k_is)
  (case z7=>k_is)
  (case z8=>k_is)
  (case z9=>k_is)
  (case z10=>k_is)
  (case z11=>k_is)
  (case z12=>k_is)
  (case z13=>k_is)
  (case z14=>k_is)
  (case z15=>k_is)
  (case z16=>k_is)
  (case zd=>k_is)
