import PyProof.Rows.All
import Wide.All
import OpenK.AllK
import Wide.FinOn
import Lean
import PyProof.EqAt
import PyProof.EqKinds
import PyProof.TupleCall
import PyProof.NeKinds
import KE.KIntText
import PyProof.TupleOfStr
import PyProof.ReprRoads
import KE.KSortTup
import KE.KItemsList
import PyProof.AttrMiss
import PyProof.IsiH_list
import KE.KDictOf
import KE.KDictSum
import PyProof.DictWalks
import PyProof.DictItems
import KE.KDictList
import KE.KEqDict
import KE.KPairComp
import PyProof.NeData
import PyProof.P3In
import PyProof.Rows.SortRev
import PyProof.MeetsDict
import PyProof.DictKinds
import PyProof.Rows.Range3
import PyProof.StrBlockL
import PyProof.StrLawsTight
import PyProof.StrWalks
import PyProof.SliceStr2
import PyProof.StrLawsIdx
import PyProof.Rows.ReprOcc
import PyProof.Rows.StrBin
import PyProof.CollectIter
import PyProof.Rows.FStr
import PySem.Challenge.RW_stairlanes_k98_numbers_that_cross
set_option Elab.async false
set_option linter.all false
set_option maxRecDepth 100000
namespace L2
open PySem PySem.Spec PyProof.Rows
abbrev Key:=Sum Int Str
def zdP:Key→Value→Bool
  | .inl k,v=>Value.isInt k v
  | .inr x,v=>Value.isStrOf x v
def keyH (w:World):Key→Int
  | .inl k=>hashInt k
  | .inr x=>hashStr w x
theorem zak:∀ {k:Key}{v:Value},zdP k v=true→(∃ i t,k=Sum.inl i∧v=Value.int i t)∨(∃ x t,k=Sum.inr x∧v=Value.str x t)
  | .inl i,v,h=>by
    obtain⟨t,e⟩:=Value.isInt_shape (k:=i) (v:=v) h
    exact .inl ⟨i,t,rfl,e⟩
  | .inr x,v,h=>by
    obtain⟨t,e⟩:=Value.isStrOf_shape (x:=x) (v:=v) h
    exact .inr ⟨x,t,rfl,e⟩
theorem zgi (i:Int) (t:Tok):zdP (.inl i) (.int i t)=true:=by simp[zdP,Value.isInt]
theorem zgh (x:Str) (t:Tok):zdP (.inr x) (.str x t)=true:=by simp[zdP,Value.isStrOf]
theorem zjY (a b:Int):decide ((Sum.inl a:Key)=Sum.inl b)=(a == b):=by
  by_cases e:a=b
  · subst e;simp
  · have h:¬(Sum.inl a:Key)=Sum.inl b:=fun q=>e (Sum.inl.inj q)
    rw[decide_eq_false h]
    exact(beq_eq_false_iff_ne.mpr e).symm
theorem zjV (a b:Str):decide ((Sum.inr a:Key)=Sum.inr b)=decide (a=b):=by
  by_cases e:a=b
  · subst e;simp
  · have h:¬(Sum.inr a:Key)=Sum.inr b:=fun q=>e (Sum.inr.inj q)
    rw[decide_eq_false h,decide_eq_false e]
theorem zjX (a:Int) (b:Str):decide ((Sum.inl a:Key)=Sum.inr b)=false:=decide_eq_false (fun q=>nomatch q)
theorem zjW (a:Str) (b:Int):decide ((Sum.inr a:Key)=Sum.inl b)=false:=decide_eq_false (fun q=>nomatch q)
def zai (prog:Program) (w:World):PySem.KeyKind prog w Key where
  is:=zdP
  hash:=keyH w
  inj:=fun v a b ha hb=>by
    rcases zak ha with ⟨i,t,rfl,rfl⟩|⟨x,t,rfl,rfl⟩
    · rcases zak hb with ⟨j,u,rfl,e⟩|⟨y,u,rfl,e⟩
      · injection e with e1 _;rw[e1]
      · exact nomatch e
    · rcases zak hb with ⟨j,u,rfl,e⟩|⟨y,u,rfl,e⟩
      · exact nomatch e
      · injection e with e1 _;rw[e1]
  byValue:=fun k v h=>by
    rcases zak h with ⟨i,t,rfl,rfl⟩|⟨x,t,rfl,rfl⟩<;>rfl
  pyHash:=fun hv h=>by
    rcases zak hv with ⟨i,t,rfl,rfl⟩|⟨x,t,rfl,rfl⟩
    · exact wpAny_pyHash_int h
    · exact wpAny_pyHash_str h
  eqBool:=fun hu hv h=>by
    rcases zak hu with ⟨i,t,rfl,rfl⟩|⟨x,t,rfl,rfl⟩
    · rcases zak hv with ⟨j,u,rfl,rfl⟩|⟨y,u,rfl,rfl⟩
      · rw[zjY]at h;exact wpAny_eqBool_int h
      · rw[zjX]at h;exact SeqAt.EqAt.int_str i t y u _ _ _ _ h
    · rcases zak hv with ⟨j,u,rfl,rfl⟩|⟨y,u,rfl,rfl⟩
      · rw[zjW]at h;exact SeqAt.EqAt.str_int x t j u _ _ _ _ h
      · rw[zjV]at h;exact wpAny_eqBool_str h
  «strs»:=fun k x t v h=>by
    rcases zak h with ⟨i,u,rfl,e⟩|⟨y,u,rfl,e⟩
    · exact nomatch e
    · injection e with e1 _
      subst e1
      cases v<;>rfl
theorem zdM (prog:Program) (w:World) (i:Int) (t:Tok):(zai prog w).is (.inl i) (.int i t)=true:=zgi i t
theorem zdL (prog:Program) (w:World) (x:Str) (t:Tok):(zai prog w).is (.inr x) (.str x t)=true:=zgh x t
inductive V where
  | non|bl (b:Bool)|int (i:Int)|str (x:Str)|byt (b:Array UInt8)|flt (b:UInt64)|ref (a:Addr)|ty (n:String)
  deriving DecidableEq
def RelV:V→Value→Prop
  | .non,u=>u=Value.none
  | .bl b,u=>u=Value.bool b
  | .int i,u=>∃ t,u=Value.int i t
  | .str x,u=>∃ t,u=Value.str x t
  | .byt b,u=>∃ t,u=Value.bytes b t
  | .flt b,u=>∃ t,u=Value.float b t
  | .ref a,u=>u=Value.ref a
  | .ty n,u=>u=Value.type n
abbrev Vals:List V→List Value→Prop:=Paired RelV
theorem Vals.length {xs:List V}{us:List Value}(r:Vals xs us):xs.length=us.length:=Paired.length r
theorem Vals.get:∀ {xs:List V}{us:List Value}{i:Nat}{x:V},Vals xs us→xs[i]?=some x→∃ u,us[i]?=some u∧RelV x u
  | _,_,_,_,.nil,e=>by simp at e
  | _,_,0,_,.cons r _,e=>by simp at e;subst e;exact⟨_,rfl,r⟩
  | _,_,i+1,x,.cons _ t,e=>by
    obtain⟨u,h1,h2⟩:=Vals.get (i:=i) (x:=x) t (by simpa using e)
    exact⟨u,by simpa using h1,h2⟩
theorem Vals.set {x:V}{u:Value}(r:RelV x u):∀ {xs:List V}{us:List Value}(i:Nat),Vals xs us→Vals (xs.set i x) (us.set i u)
  | _,_,_,.nil=>.nil
  | _,_,0,.cons _ t=>.cons r t
  | _,_,i+1,.cons q t=>.cons q (Vals.set r i t)
theorem Vals.append:∀ {xs ys:List V}{us ws:List Value},Vals xs us→Vals ys ws→Vals (xs++ys) (us++ws)
  | _,_,_,_,.nil,s=>s
  | _,_,_,_,.cons r t,s=>.cons r (Vals.append t s)
theorem Vals.take:∀ {xs:List V}{us:List Value}(n:Nat),Vals xs us→Vals (xs.take n) (us.take n)
  | _,_,0,_=>.nil
  | _,_,_+1,.nil=>.nil
  | _,_,n+1,.cons r t=>.cons r (Vals.take n t)
theorem Vals.drop:∀ {xs:List V}{us:List Value}(n:Nat),Vals xs us→Vals (xs.drop n) (us.drop n)
  | _,_,0,r=>r
  | _,_,_+1,.nil=>.nil
  | _,_,n+1,.cons _ t=>Vals.drop n t
def RelO:Option V→Option Value→Prop
  | some v,some u=>RelV v u
  | none,none=>True
  | _,_=>False
def KV {κ:Type}:List (κ × V)→List (κ × Value)→Prop:=Paired fun (p:κ × V) (q:κ × Value)=>p.1=q.1∧RelV p.2 q.2
def kV:Key→V
  | .inl i=>.int i
  | .inr x=>.str x
inductive HO where
  | lst (xs:List V)
  | tup (xs:List V)
  | dK (kvs:List (Key × V))|dT (kvs:List (List Key × V))
  | set (S:Int→Bool) (n:Nat)
  | ins (C dx:Addr) (fs:List (Str × V))
  | own (x:Addr)
  | xd (fs:List (Str × V))
  | met (f x:Addr)
  | rng (lo hi:Int)
  | frz (o:Obj) (u:HO)
  | tbl (ps:Array Value)
  | ext (φ:Heap→Prop)
abbrev Hp:=Addr→Option HO
def upd (H:Hp) (a:Addr) (o:HO):Hp:=fun b=>if b=a then some o else H b
theorem zab {H:Hp}{a:Addr}{o:HO}:upd H a o a=some o:=by unfold upd;rw[if_pos rfl]
theorem zac {H:Hp}{a b:Addr}{o:HO}(h:b≠a):upd H a o b=H b:=by unfold upd;rw[if_neg h]
theorem ne_of {H:Hp}{a b:Addr}{o u:HO}(h:H a=some o) (h':H b=some u) (d:o≠u):a≠b:=by
  intro e;subst e;rw[h]at h';exact d (Option.some.inj h')
theorem zad {H:Hp}{a b:Addr}{o:HO}(h:H a=some o) (h':H b=none):a≠b:=by
  intro e;subst e;rw[h]at h';cases h'
def TupX (h:Heap) (a:Addr) (items:Array Value):Prop:=∃ o,h.get? a=some o∧o.cls=.type "tuple"∧∃ n,o.data=.seq items n∧o.dict=none
theorem TupX.tup {h:Heap}{a:Addr}{items:Array Value}(x:TupX h a items):IsTup h a items:=let ⟨o,e,c,n,d,_⟩:=x;⟨o,e,c,n,d⟩
theorem TupX.new (h:Heap) (items:Array Value):TupX (h.push { cls:=.type "tuple",data:=.seq items }) h.objs.size items:=⟨_,Heap.get?_push_size _ rfl,rfl,0,rfl,rfl⟩
section
variable (P:Program) (w:World)
def ObjOk (H:Hp) (h:Heap) (a:Addr):HO→Prop
  | .lst xs=>xs.length≤sizeLine∧∃ (its:List Value) (n:Nat),Vals xs its∧h.get? a=some { cls:=.type "list",data:=.seq its.toArray n }
  | .tup xs=>xs.length≤sizeLine∧∃ its:List Value,Vals xs its∧TupX h a its.toArray
  | .dK kvs=>kvs.length≤sizeLine∧(a == sysModules)=false∧∃ vs,KV kvs vs∧h.DictOf (zai P w) a vs
  | .dT kvs=>kvs.length≤sizeLine∧(a == sysModules)=false∧∃ xs:List (List Key × Addr × Value),
      Paired (fun (p:List Key × V) (q:List Key × Addr × Value)=>p.1=q.1∧H q.2.1=some (.tup (p.1.map kV))∧RelV p.2 q.2.2) kvs xs ∧
      ∃ o es ep,h.get? a=some o∧o.ExactDict∧o.data=.dict es ep∧es.toList=xs.map (entryOfKey (tupleKind (zai P w)))∧(xs.map (·.1)).Nodup
  | .set S n=>h.SetOf (intKind P w) a S n
  | .ins C dx fs=>H dx=some (.own a)∧fs.length≤1000∧dx≠a∧h.get? a=some (PySem.W.instObj C dx) ∧
      ∃ mA,h.Ns1 dx mA∧(∀ f,RelO (fs.lookup f) (mA f))∧PySem.Within mA (fs.map (·.1))
  | .own _=>∃ o,h.get? a=some o
  | .xd fs=>∃ mA,h.Ns1 a mA∧∀ f,RelO (fs.lookup f) (mA f)
  | .rng lo hi=>∃ t u v,h.get? a=some { cls:=.type "range",data:=.fields #[.int lo t,.int hi u,.int 1 v] }
  | .frz o u=>h.get? a=some o∧ObjOk H h a u
  | .tbl ps=>h.get? a=some { cls:=.none,data:=.fields ps }
  | .met f x=>h.get? a=some (PySem.W.methodObj (.ref f) (.ref x))
  | .ext φ=>φ h∧(∃ o,h.get? a=some o)∧∀ h1 h2:Heap,φ h1→(∀ o,h1.get? a=some o→h2.get? a=some o)→φ h2
def HOk (H:Hp) (h:Heap):Prop:=∀ a o,H a=some o→ObjOk P w H h a o
end
section
variable {P:Program}{w:World}{H H':Hp}{h h':Heap}{a:Addr}{o:HO}
theorem ObjOk.lt (x:ObjOk P w H h a o):a<h.objs.size:=by
  cases o with
  | lst xs=>obtain⟨_,_,_,_,e⟩:=x;exact Heap.lt_size e
  | tup xs=>obtain⟨_,_,_,p⟩:=x;exact p.tup.lt
  | dK kvs=>obtain⟨_,_,_,_,o,_,_,e,_⟩:=x;exact Heap.lt_size e
  | dT kvs=>obtain⟨_,_,_,_,o,_,_,e,_⟩:=x;exact Heap.lt_size e
  | set S n=>obtain⟨o,_,_,_,e,_⟩:=x;exact Heap.lt_size e
  | ins C dx fs=>obtain⟨_,_,_,e,_⟩:=x;exact Heap.lt_size e
  | own y=>obtain⟨_,e⟩:=x;exact Heap.lt_size e
  | xd fs=>obtain⟨_,⟨_,_,_,e,_⟩,_⟩:=x;exact Heap.lt_size e
  | rng lo hi=>obtain⟨_,_,_,e⟩:=x;exact Heap.lt_size e
  | frz ob u=>obtain⟨e,_⟩:=x;exact Heap.lt_size e
  | tbl ps=>exact Heap.lt_size (show h.get? a=some _ from x)
  | met f y=>exact Heap.lt_size (show h.get? a=some _ from x)
  | ext φ=>obtain⟨_,⟨_,e⟩,_⟩:=x;exact Heap.lt_size e
theorem Paired.mapP {α β:Type}{F G:α→β→Prop}:∀ {l₁:List α}{l₂:List β},Paired F l₁ l₂→(∀ a b,F a b→G a b)→Paired G l₁ l₂
  | _,_,.nil,_=>.nil
  | _,_,.cons r t,f=>.cons (f _ _ r) (Paired.mapP t f)
theorem ObjOk.stay (x:ObjOk P w H h a o) (k:∀ b u,(b=a∨H b=some (.own a))→h.get? b=some u→h'.get? b=some u)
    (ho:∀ b,H b=some (.own a)→H' b=some (.own a)) (ht:∀ b xs,H b=some (.tup xs)→H' b=some (.tup xs)):ObjOk P w H' h' a o:=by
  induction o with
  | lst xs=>obtain⟨z,its,n,r,e⟩:=x;exact⟨z,its,n,r,k _ _ (.inl rfl) e⟩
  | tup xs=>obtain⟨z,its,r,ob,e,c⟩:=x;exact⟨z,its,r,ob,k _ _ (.inl rfl) e,c⟩
  | dK kvs=>obtain⟨z,y,vs,r,ob,es,ep,e,c⟩:=x;exact⟨z,y,vs,r,ob,es,ep,k _ _ (.inl rfl) e,c⟩
  | dT kvs =>
    obtain⟨z,y,xs,r,ob,es,ep,e,c⟩:=x
    exact⟨z,y,xs,Paired.mapP r fun p q z=>⟨z.1,ht _ _ z.2.1,z.2.2⟩,ob,es,ep,k _ _ (.inl rfl) e,c⟩
  | set S n=>obtain⟨ob,es,ep,t,e,c⟩:=x;exact⟨ob,es,ep,t,k _ _ (.inl rfl) e,c⟩
  | ins C dx fs =>
    obtain⟨d,z,ne,e,mA,⟨od,es,ep,e2,c⟩,r⟩:=x
    exact⟨ho _ d,z,ne,k _ _ (.inl rfl) e,mA,⟨od,es,ep,k _ _ (.inr d) e2,c⟩,r⟩
  | own y=>obtain⟨ob,e⟩:=x;exact⟨ob,k _ _ (.inl rfl) e⟩
  | xd fs=>obtain⟨mA,⟨od,es,ep,e,c⟩,r⟩:=x;exact⟨mA,⟨od,es,ep,k _ _ (.inl rfl) e,c⟩,r⟩
  | rng lo hi=>obtain⟨t,u,v,e⟩:=x;exact⟨t,u,v,k _ _ (.inl rfl) e⟩
  | frz ob u ih=>obtain⟨e,q⟩:=x;exact⟨k _ _ (.inl rfl) e,ih q⟩
  | tbl ps =>
    have e:h.get? a=some { cls:=.none,data:=.fields ps }:=x
    show h'.get? a=some { cls:=.none,data:=.fields ps }
    exact k a _ (.inl rfl) e
  | met f y =>
    have e:h.get? a=some (PySem.W.methodObj (.ref f) (.ref y)):=x
    show h'.get? a=some (PySem.W.methodObj (.ref f) (.ref y))
    exact k a _ (.inl rfl) e
  | ext φ=>obtain⟨p,⟨o,e⟩,st⟩:=x;exact⟨st _ _ p fun o q=>k _ _ (.inl rfl) q,⟨o,k _ _ (.inl rfl) e⟩,st⟩
theorem HOk.lt (x:HOk P w H h) (e:H a=some o):a<h.objs.size:=(x a o e).lt
theorem HOk.fresh (x:HOk P w H h) (e:h.objs.size≤a):H a=none:=by
  cases q:H a with
  | none=>rfl
  | some u=>exact absurd (Nat.lt_of_lt_of_le (x.lt q) e) (Nat.lt_irrefl _)
theorem HOk.kept (x:HOk P w H h) (k:∀ b u,h.get? b=some u→h'.get? b=some u):HOk P w H h':=fun a o e =>
  (x a o e).stay (fun b u _ q=>k b u q) (fun _ q=>q) fun _ _ q=>q
theorem HOk.laid (x:HOk P w H h) (k:∀ b u,h.get? b=some u→h'.get? b=some u) (hp:h.objs.size≤a) (new:ObjOk P w (upd H a o) h' a o):HOk P w (upd H a o) h':=fun b u e=>by
  have hn:=x.fresh hp
  by_cases hb:b=a
  · subst hb;rw[zab]at e;cases e;exact new
  · rw[zac hb]at e
    exact(x b u e).stay (fun c v _ q=>k c v q) (fun c q=>by rw[zac (zad q hn)];exact q) fun c xs q=>by rw[zac (zad q hn)];exact q
end
def Rd (H:Hp) (a:Addr) (u:HO):Prop:=H a=some u∨∃ o,H a=some (.frz o u)
theorem Rd.ok {P:Program}{w:World}{H:Hp}{h:Heap}{a:Addr}{u:HO}(r:Rd H a u) (x:HOk P w H h):ObjOk P w H h a u:=by
  rcases r with r|⟨o,r⟩
  · exact x a u r
  · obtain⟨_,q⟩:=x a _ r
    exact q
def Mut:Option HO→Prop
  | some (.lst _)=>True
  | some (.dK _)=>True
  | some (.dT _)=>True
  | some (.set _ _)=>True
  | some (.ins _ _ _)=>True
  | some (.ext _)=>True
  | _=>False
section
variable {P:Program}{w:World}{H:Hp}{h h':Heap}{x e:Addr}{o':HO}
theorem HOk.write (ok:HOk P w H h) (mu:Mut (H x)) (he:e=x∨H e=some (.own x)) (k:∀ b u,b≠e→h.get? b=some u→h'.get? b=some u) (heo:∃ u,h'.get? e=some u)
    (new:ObjOk P w (upd H x o') h' x o'):HOk P w (upd H x o') h':=fun b u q=>by
  have nown:∀ c y,H c=some (.own y)→c≠x:=fun c y r z=>by subst z;rw[r]at mu;exact mu
  have ntup:∀ c xs,H c=some (.tup xs)→c≠x:=fun c xs r z=>by subst z;rw[r]at mu;exact mu
  by_cases hb:b=x
  · subst hb;rw[zab]at q;cases q;exact new
  · rw[zac hb]at q
    by_cases hbe:b=e
    · have q':H b=some (.own x):=by
        rcases he with z|z
        · exact absurd (hbe.trans z) hb
        · rw[hbe];exact z
      rw[q]at q';cases q'
      obtain⟨v,hv⟩:=heo
      exact⟨v,by rw[hbe];exact hv⟩
    · refine(ok b u q).stay (fun c v hc r=>k c v ?_ r) (fun c r=>by rw[zac (nown c b r)];exact r) fun c xs r=>by rw[zac (ntup c xs r)];exact r
      rcases hc with rfl|hc
      · exact hbe
      · rintro rfl
        rcases he with z|z
        · exact nown c b hc z
        · rw[hc]at z;cases z;exact hb rfl
end
structure Un (fs ex:List Addr) (H H':Hp) (h h':Heap):Prop where
  keep:∀ b o,h.get? b=some o→H b=none→b∉fs→b∉ex→h'.get? b=some o
  slot:∀ b o,h.get? b=some o→H b=none→b∈fs→b∉ex→∃ sl,h'.get? b=some { o with slots:=sl }
  free:∀ b o,h.get? b=some o→H b=none→b∉ex→H' b=none
  there:∀ b o,h.get? b=some o→b∉ex→∃ o',h'.get? b=some o'
  tups:∀ b xs,H b=some (.tup xs)→H' b=some (.tup xs)
  frzs:∀ b o u,H b=some (.frz o u)→H' b=some (.frz o u)
  tbls:∀ b ps,H b=some (.tbl ps)→∃ more,H' b=some (.tbl (ps++more))
section
variable {fs fs' ex ex':List Addr}{H H1 H2:Hp}{h h1 h2 h':Heap}{a x e:Addr}{o:HO}
theorem Un.any (u:Un fs ex H H1 h h1) {b:Addr}{ob:Obj}(q:h.get? b=some ob) (n:H b=none) (hx:b∉ex):∃ sl,h1.get? b=some { ob with slots:=sl }:=by
  by_cases hb:b∈fs
  · exact u.slot b ob q n hb hx
  · exact⟨ob.slots,u.keep b ob q n hb hx⟩
theorem Un.kept (k:∀ b u,h.get? b=some u→h'.get? b=some u):Un fs ex H H h h' :=
  ⟨fun b ob q _ _ _=>k b ob q,fun b ob q _ _ _=>⟨ob.slots,k b ob q⟩,fun _ _ _ n _=>n,fun b ob q _=>⟨ob,k b ob q⟩,fun _ _ q=>q,fun _ _ _ q=>q,fun _ ps q=>⟨#[],by rw[q];simp⟩⟩
theorem Un.refl:Un fs ex H H h h:=Un.kept fun _ _ q=>q
theorem Un.laid (k:∀ b u,h.get? b=some u→h'.get? b=some u) (hp:h.objs.size≤a) (hn:H a=none):Un fs ex H (upd H a o) h h' where
  keep:=fun b u q _ _ _=>k b u q
  slot:=fun b u q _ _ _=>⟨u.slots,k b u q⟩
  free:=fun b u q n _=>by rw[zac (Nat.ne_of_lt (Nat.lt_of_lt_of_le (Heap.lt_size q) hp))];exact n
  there:=fun b u q _=>⟨u,k b u q⟩
  tups:=fun b xs q=>by rw[zac (zad q hn)];exact q
  frzs:=fun b u xs q=>by rw[zac (zad q hn)];exact q
  tbls:=fun b ps q=>⟨#[],by rw[zac (zad q hn),q];simp⟩
theorem Un.write (mu:Mut (H x)) (he:e=x∨H e=some (.own x)) (k:∀ b u,b≠e→h.get? b=some u→h'.get? b=some u) (heo:∃ u,h'.get? e=some u):Un fs ex H (upd H x o) h h':=by
  have hx:∀ b,H b=none→b≠x:=fun b n z=>by subst z;rw[n]at mu;exact mu
  have hb:∀ b,H b=none→b≠e:=fun b n z=>by
    subst z
    rcases he with r|r
    · exact hx b n r
    · rw[n]at r;cases r
  have hm:∀ b u,H b=some u→¬ Mut (some u)→b≠x:=fun b u q nm z=>by subst z;rw[q]at mu;exact nm mu
  refine⟨fun b u q n _ _=>k b u (hb b n) q,fun b u q n _ _=>⟨u.slots,k b u (hb b n) q⟩,fun b u q n _=>by rw[zac (hx b n)];exact n,fun b u q _=>?_,
    fun b xs q=>by rw[zac (hm b _ q fun z=>z)];exact q,fun b u xs q=>by rw[zac (hm b _ q fun z=>z)];exact q,fun b ps q=>⟨#[],by rw[zac (hm b _ q fun z=>z),q];simp⟩⟩
  by_cases hbe:b=e
  · subst hbe;exact heo
  · exact⟨u,k b u hbe q⟩
end
def trk (h:Heap) (H:Hp):List Addr:=(List.range h.objs.size).filter fun a=>(H a).isSome
def hidT (h:Heap) (H:Hp):Heap:=PySem.W.hideAll h (trk h H)
theorem zgp (h:Heap) (H:Hp):(hidT h H).objs.size=h.objs.size:=PySem.W.hideAll_size _ _
theorem zhu {h:Heap}{H:Hp}{b:Addr}{o:Obj}(e:h.get? b=some o) (n:H b=none):(hidT h H).get? b=some o :=
  PySem.W.hideAll_get _ e fun hm=>by
    have q:(H b).isSome=true:=(List.mem_filter.mp hm).2
    rw[n]at q;simp at q
theorem ziU {h:Heap}{H:Hp}{b:Addr}{o:Obj}(e:(hidT h H).get? b=some o):h.get? b=some o∧H b=none:=by
  have e':h.get? b=some o:=PySem.W.of_hideAll (trk h H) e
  refine⟨e',?_⟩
  cases q:H b with
  | none=>rfl
  | some x =>
    have hm:b∈trk h H:=List.mem_filter.mpr ⟨List.mem_range.mpr (Heap.lt_size e'),by simp[q]⟩
    have z:(hidT h H).get? b=none:=PySem.W.hideAll_none (trk h H) hm
    rw[z]at e;cases e
def zjj (g h:Heap) (L:Addr):List (Addr × Obj):=(List.range h.objs.size).filterMap fun a=>if a=L∨(g.get? a).isSome=true then none else (h.get? a).map fun o=>(a,o)
def rest (g h:Heap) (L d:Addr):List (Addr × Obj):=(zjj g h L).filter fun p=>decide (p.1≠d)
structure Mod (K:PySem.W.Frag) (mg:Str→Option Value) (base:Heap):Prop where
  kin:K.In base
  glob:base.Ns mainGlobals mg
  blt:∃ mb,base.Ns builtinsNs mb∧∀ x:Str,x≠"__name__"→mb x=bootBuiltins x
  nolimit:base.NoLimit
/-- the context: a def's body (or a comprehension's block) running. base: fixed through the whole law;s₀,H₀: the entry;outer: the frames whose slots others may change (a def's callers);stack: all frames that run;
   ex: iterators that were made ahead of the entry and are walked here (a comprehension's);fn: the names whose cells were made at the entry (a def: all;a comprehension's block: its own);calm: not within an except suite;pn: pins that every state bears;xe: what is wanted of an exception that leaves the code -/
structure Cx where
  prog:Program
  w:World
  K:PySem.W.Frag
  mg:Str→Option Value
  base:Heap
  A:Around
  N:List Str
  s₀:Shared
  H₀:Hp
  env:Env
  outer:List Env
  stack:List Env
  ex:List Addr
  fn:Str→Bool
  calm:Bool
  pn:List (Addr × Obj)
  xe:Value→Shared→Prop
def frs (l:List Env):List Addr:=l.filterMap (·.frame)
abbrev Cx.fs (X:Cx):List Addr:=frs X.outer
def Vis (sc:Scope) (x:Str):Prop:=sc.names.lookup x=some .local ∨ sc.names.lookup x=some .cell∨sc.names.lookup x=some .free
def Loc (sc:Scope) (x:Str):Prop:=sc.names.lookup x=some .local ∨ sc.names.lookup x=some .cell
def Look (env:Env) (h:Heap) (m:Str→Option Value) (x:Str) (u:Value):Prop :=
  (env.kindOf x=some .local ∧ m x=some u)∨((env.kindOf x=some .cell∨env.kindOf x=some .free)∧∃ c,env.cells.lookup x=some c∧h.IsCell c (some u))
structure Cx.Ok (X:Cx):Prop where
  mod:Mod X.K X.mg X.base
  kind:X.env.scope.kind=.function
  glob:X.env.globals=mainGlobals
  blt:X.env.builtins=builtinsNs
  above:X.s₀.heap.objs.size≤X.env.locals
  inj:∀ x y c,X.env.cells.lookup x=some c→X.env.cells.lookup y=some c→x=y
  has:∀ x,(X.env.kindOf x=some .cell∨X.env.kindOf x=some .free)→∃ c,X.env.cells.lookup x=some c
  cab:∀ x c,X.fn x=true→X.env.cells.lookup x=some c→X.s₀.heap.objs.size≤c
  hd:X.calm=true→X.A.handled=none
  frames:X.A.frames=some X.stack
  stk:X.stack=X.outer∨(X.stack=X.env::X.outer∧X.env.frame=some X.env.locals)
  exf:∀ b∈X.ex,b≠X.env.locals∧∀ x c,X.env.cells.lookup x=some c→c≠b
  bs:∀ b o,X.base.get? b=some o→X.s₀.heap.get? b=some o∧X.H₀ b=none
  bsz:X.base.objs.size≤X.s₀.heap.objs.size
  noex:∀ b o,X.base.get? b=some o→b∉X.ex
  exfs:∀ b∈X.ex,b∉X.fs
  funs:X.s₀.heap.FunFrames X.base X.outer
  frf:∀ b∈X.fs,X.H₀ b=none
structure Inv (X:Cx) (pins:List (Addr × Obj)) (σ:List (Option V)) (H:Hp) (s:Shared):Prop where
  ok:X.Ok
  os:s.os=X.s₀.os
  bare:AllBare s.gens
  base:Un X.fs X.ex X.H₀ H X.s₀.heap s.heap
  loc:∃ m,s.heap.Ns X.env.locals m∧∀ (i:Nat) (x:Str) (v:V),X.N[i]?=some x→σ[i]?=some (some v)→Vis X.env.scope x→∃ u,RelV v u∧Look X.env s.heap m x u
  cell:∀ x c,X.env.cells.lookup x=some c→∃ v,s.heap.IsCell c v
  free:H X.env.locals=none
  freeC:∀ x c,X.env.cells.lookup x=some c→H c=none
  pin:∀ p∈X.pn++pins,s.heap.get? p.1=some p.2∧H p.1=none∧p.1≠X.env.locals∧p.1∉X.fs∧∀ v,p.2.data≠.cell v
  hok:HOk X.prog X.w H s.heap
  len:σ.length=X.N.length
section
variable {X:Cx}{pins:List (Addr × Obj)}{σ:List (Option V)}{H H':Hp}{s:Shared}{h':Heap}
theorem Cx.Ok.nofr (ok:X.Ok) {b:Addr}{o:Obj}(e:X.base.get? b=some o):b∉X.fs:=fun hb=>by
  have:=(ok.funs.mem hb).1
  rw[e]at this;cases this
theorem Inv.bs (I:Inv X pins σ H s):∀ b o,X.base.get? b=some o→s.heap.get? b=some o∧H b=none:=fun b o e =>
  ⟨I.base.keep b o (I.ok.bs b o e).1 (I.ok.bs b o e).2 (I.ok.nofr e) (I.ok.noex b o e),I.base.free b o (I.ok.bs b o e).1 (I.ok.bs b o e).2 (I.ok.noex b o e)⟩
theorem Inv.bk (I:Inv X pins σ H s):∀ b o,X.base.get? b=some o→s.heap.get? b=some o:=fun b o e=>(I.bs b o e).1
theorem Inv.mod (I:Inv X pins σ H s):Mod X.K X.mg X.base:=I.ok.mod
theorem Inv.kIn (I:Inv X pins σ H s):X.K.In s.heap:=I.ok.mod.kin.keeps I.bk
theorem Inv.lt (I:Inv X pins σ H s):X.env.locals<s.heap.objs.size:=let ⟨_,hn,_⟩:=I.loc;hn.lt
theorem Inv.sz (I:Inv X pins σ H s):X.s₀.heap.objs.size≤s.heap.objs.size:=Nat.le_trans I.ok.above (Nat.le_of_lt I.lt)
theorem Inv.nofs (I:Inv X pins σ H s) {a:Addr}(h:s.heap.objs.size≤a):a∉X.fs:=fun hb=>by
  obtain⟨_,o,ho,_⟩:=I.ok.funs.mem hb
  exact absurd (Nat.lt_of_lt_of_le (Heap.lt_size ho) (Nat.le_trans I.sz h)) (Nat.lt_irrefl _)
theorem Inv.cne (I:Inv X pins σ H s):∀ x c,X.env.cells.lookup x=some c→c≠X.env.locals:=fun x c e z=>by
  obtain⟨v,o,ho,hd⟩:=I.cell x c e
  obtain⟨m,⟨o',es,ep,ho',hd',_⟩,_⟩:=I.loc
  rw[z,ho']at ho;cases ho;rw[hd']at hd;cases hd
theorem Inv.funs (I:Inv X pins σ H s):s.heap.FunFrames X.base X.outer:=by
  have all:∀ (l:List Env),(∀ b∈frs l,b∈X.fs)→X.s₀.heap.FunFrames X.base l→s.heap.FunFrames X.base l:=by
    intro l
    induction l with
    | nil=>intro _ _;trivial
    | cons env r ih =>
      intro hs hl
      obtain⟨hk,⟨L,o,hf,hn,ho,hd⟩,hr⟩:=hl
      have hL:L∈X.fs:=hs L (by unfold frs;rw[List.filterMap_cons,hf];exact List.mem_cons_self)
      obtain⟨sl,e⟩:=I.base.slot L o ho (I.ok.frf L hL) hL fun z=>I.ok.exfs L z hL
      exact⟨hk,⟨L,_,hf,hn,e,hd⟩,ih (fun b hb=>hs b (by unfold frs;rw[List.filterMap_cons,hf];exact List.mem_cons_of_mem _ hb)) hr⟩
  exact all X.outer (fun _ hb=>hb) I.ok.funs
theorem Inv.stack (I:Inv X pins σ H s):s.heap.FunFrames X.base X.stack:=by
  rcases I.ok.stk with e|⟨e,hf⟩
  · rw[e];exact I.funs
  · rw[e]
    obtain⟨m,hn,_⟩:=I.loc
    refine .cons (by rw[I.ok.kind];decide) hf hn ?_ I.funs
    exact Heap.get?_none_of_le (Nat.le_trans I.ok.bsz I.ok.above)
theorem Inv.stkSub (I:Inv X pins σ H s):∀ b∈frs X.stack,b∈X.env.locals::X.fs:=fun b hb=>by
  rcases I.ok.stk with e|⟨e,hf⟩
  · rw[e]at hb;exact List.mem_cons_of_mem _ hb
  · rw[e]at hb
    unfold frs at hb
    rw[List.filterMap_cons,hf]at hb
    exact hb
theorem Inv.stkFree (I:Inv X pins σ H s):∀ b∈frs X.stack,H b=none:=fun b hb=>by
  rcases List.mem_cons.mp (I.stkSub b hb) with e|hb
  · rw[e];exact I.free
  · obtain⟨_,o,ho,_⟩:=I.ok.funs.mem hb
    exact I.base.free b o ho (I.ok.frf b hb) fun z=>I.ok.exfs b z hb
theorem Inv.step {g':Array GenState}{t':Nat}{d':Drawn}{ch:List Addr}(I:Inv X pins σ H s)
    (hch:∀ b∈ch,(b∈X.ex∨X.s₀.heap.objs.size≤b)∧b≠X.env.locals∧(∀ x c,X.env.cells.lookup x=some c→c≠b)∧∀ p∈X.pn++pins,p.1≠b)
    (keep:∀ b o,b≠X.env.locals→b∉X.fs→b∉ch→s.heap.get? b=some o→H b=none→h'.get? b=some o)
    (slot:∀ b o,b≠X.env.locals→b∈X.fs→b∉ch→s.heap.get? b=some o→H b=none→∃ sl,h'.get? b=some { o with slots:=sl }) (free:∀ b o,b∉ch→s.heap.get? b=some o→H b=none→H' b=none)
    (there:∀ b o,b∉ch→s.heap.get? b=some o→∃ o',h'.get? b=some o')
    (tups:∀ b xs,H b=some (.tup xs)→H' b=some (.tup xs)) (frzs:∀ b o u,H b=some (.frz o u)→H' b=some (.frz o u)) (tbls:∀ b ps,H b=some (.tbl ps)→∃ more,H' b=some (.tbl (ps++more)))
    (ns:∀ m,s.heap.Ns X.env.locals m→h'.Ns X.env.locals m) (hok:HOk X.prog X.w H' h') (hg:AllBare g') :
    Inv X pins σ H' { s with heap:=h',gens:=g',drawn:=d',toks:=t' }:=by
  have neL:∀ b o,X.s₀.heap.get? b=some o→b≠X.env.locals:=fun b o e=>Nat.ne_of_lt (Nat.lt_of_lt_of_le (Heap.lt_size e) I.ok.above)
  have neC:∀ b o,X.s₀.heap.get? b=some o→b∉X.ex→b∉ch:=fun b o e hx hb=>by
    rcases (hch b hb).1 with z|z
    · exact hx z
    · exact absurd (Nat.lt_of_lt_of_le (Heap.lt_size e) z) (Nat.lt_irrefl _)
  have cellK:∀ x c,X.env.cells.lookup x=some c→∀ v,s.heap.IsCell c v→h'.IsCell c v:=fun x c e v ⟨o,ho,hd⟩=>by
    have nch:c∉ch:=fun z=>(hch c z).2.2.1 x c e rfl
    by_cases hc:c∈X.fs
    · obtain⟨sl,q⟩:=slot c o (I.cne x c e) hc nch ho (I.freeC x c e)
      exact⟨_,q,hd⟩
    · exact⟨o,keep c o (I.cne x c e) hc nch ho (I.freeC x c e),hd⟩
  refine⟨I.ok,I.os,hg,⟨fun b o e n hb hx=>?_,fun b o e n hb hx=>?_,fun b o e n hx=>?_,fun b o e hx=>?_,fun b xs e=>tups b xs (I.base.tups b xs e),fun b o xs e=>frzs b o xs (I.base.frzs b o xs e),fun b ps e=>?_⟩,?_,fun x c e=>?_,?_,fun x c e=>?_,fun p hp=>?_,hok,I.len⟩
  · exact keep b o (neL b o e) hb (neC b o e hx) (I.base.keep b o e n hb hx) (I.base.free b o e n hx)
  · obtain⟨sl,e1⟩:=I.base.slot b o e n hb hx
    obtain⟨sl',e2⟩:=slot b _ (neL b o e) hb (neC b o e hx) e1 (I.base.free b o e n hx)
    exact⟨sl',e2⟩
  · obtain⟨o',e1⟩:=I.base.there b o e hx
    exact free b o' (neC b o e hx) e1 (I.base.free b o e n hx)
  · obtain⟨o',e1⟩:=I.base.there b o e hx
    exact there b o' (neC b o e hx) e1
  · obtain⟨m1,e1⟩:=I.base.tbls b ps e
    obtain⟨m2,e2⟩:=tbls b _ e1
    exact⟨m1++m2,by rw[e2,Array.append_assoc]⟩
  · obtain⟨m,hn,hl⟩:=I.loc
    refine⟨m,ns m hn,fun i x v e1 e2 e3=>?_⟩
    obtain⟨u,r,l⟩:=hl i x v e1 e2 e3
    refine⟨u,r,?_⟩
    rcases l with l|⟨k,c,e,z⟩
    · exact .inl l
    · exact .inr ⟨k,c,e,cellK x c e _ z⟩
  · obtain⟨v,z⟩:=I.cell x c e
    exact⟨v,cellK x c e v z⟩
  · obtain⟨m,⟨o,_,_,ho,_⟩,_⟩:=I.loc
    exact free _ o (fun z=>(hch _ z).2.1 rfl) ho I.free
  · obtain⟨v,o,ho,hd⟩:=I.cell x c e
    exact free c o (fun z=>(hch c z).2.2.1 x c e rfl) ho (I.freeC x c e)
  · obtain⟨e,n,ne,nf,d⟩:=I.pin p hp
    have nch:p.1∉ch:=fun z=>(hch p.1 z).2.2.2 p hp rfl
    exact⟨keep p.1 p.2 ne nf nch e n,free p.1 p.2 nch e n,ne,nf,d⟩
theorem Inv.un {t':Nat}(I:Inv X pins σ H s) (u:Un X.fs [] H H' s.heap h') (hok:HOk X.prog X.w H' h'):Inv X pins σ H' { s with heap:=h',toks:=t' }:=by
  obtain⟨m,⟨o,es,ep,ho,r⟩,_⟩:=id I.loc
  obtain⟨sl,hL⟩:=u.any ho I.free (by simp)
  exact I.step (g':=s.gens) (d':=s.drawn) (ch:=[]) (fun _ z=>nomatch z) (fun b o _ hb _ e n=>u.keep b o e n hb (by simp)) (fun b o _ hb _ e n=>u.slot b o e n hb (by simp)) (fun b o _ e n=>u.free b o e n (by simp)) (fun b o _ e=>u.there b o e (by simp)) u.tups u.frzs u.tbls (fun m' hm=>by
    obtain⟨o',es',ep',ho',r'⟩:=hm
    rw[ho]at ho';cases ho'
    exact⟨_,es',ep',hL,r'⟩) hok I.bare
theorem Inv.call {g':Array GenState}{t':Nat}{d':Drawn}{ch:List Addr}(I:Inv X pins σ H s) (u:Un (frs X.stack) ch H H' s.heap h') (hok:HOk X.prog X.w H' h') (hg:AllBare g')
    (hch:∀ b∈ch,(b∈X.ex∨X.s₀.heap.objs.size≤b)∧b≠X.env.locals∧(∀ x c,X.env.cells.lookup x=some c→c≠b)∧∀ p∈X.pn++pins,p.1≠b) :
    Inv X pins σ H' { s with heap:=h',gens:=g',drawn:=d',toks:=t' }:=by
  obtain⟨m,⟨o,es,ep,ho,r⟩,_⟩:=id I.loc
  obtain⟨sl,hL⟩:=u.any ho I.free fun z=>(hch _ z).2.1 rfl
  exact I.step (ch:=ch) hch (fun b o hL hb hc e n=>u.keep b o e n (fun z=>(List.mem_cons.mp (I.stkSub b z)).elim hL hb) hc) (fun b o _ _ hc e n=>u.any e n hc) (fun b o hc e n=>u.free b o e n hc) (fun b o hc e=>u.there b o e hc) u.tups u.frzs u.tbls (fun m' hm=>by
    obtain⟨o',es',ep',ho',r'⟩:=hm
    rw[ho]at ho';cases ho'
    exact⟨_,es',ep',hL,r'⟩) hok hg
theorem Inv.turned {t':Nat}{it:Addr}(I:Inv X pins σ H s) (k:∀ b o,b≠it→s.heap.get? b=some o→h'.get? b=some o) (hn:H it=none) (hL:it≠X.env.locals)
    (h1:it∈X.ex∨X.s₀.heap.objs.size≤it) (h2:∀ x c,X.env.cells.lookup x=some c→c≠it) (h3:∀ p∈X.pn++pins,p.1≠it):Inv X pins σ H { s with heap:=h',toks:=t' }:=by
  have nit:∀ b u,H b=some u→b≠it:=fun b u e z=>by rw[z,hn]at e;cases e
  refine I.step (g':=s.gens) (d':=s.drawn) (ch:=[it]) (fun b hb=>?_) (fun b o _ _ hc e _=>k b o (fun z=>hc (by simp[z])) e) (fun b o _ _ hc e _=>⟨o.slots,k b o (fun z=>hc (by simp[z])) e⟩) (fun _ _ _ _ n=>n)
    (fun b o hc e=>⟨o,k b o (fun z=>hc (by simp[z])) e⟩) (fun _ _ e=>e) (fun _ _ _ e=>e) (fun b ps e=>⟨#[],by rw[e];simp⟩) (fun m hm=>?_) (fun b u e=>?_) I.bare
  · have e:b=it:=by simpa using hb
    subst e
    exact⟨h1,hL,h2,h3⟩
  · obtain⟨o,es,ep,ho,r⟩:=hm
    exact⟨o,es,ep,k _ o (Ne.symm hL) ho,r⟩
  · refine(I.hok b u e).stay (fun c v hc q=>k c v ?_ q) (fun _ q=>q) fun _ _ q=>q
    rcases hc with z|z
    · rw[z];exact nit b u e
    · exact nit c _ z
theorem Inv.tok (I:Inv X pins σ H s) (t:Nat):Inv X pins σ H { s with toks:=t }:=I.un (h':=s.heap) (t':=t) Un.refl I.hok
theorem Inv.kept {t':Nat}(I:Inv X pins σ H s) (k:∀ b u,s.heap.get? b=some u→h'.get? b=some u):Inv X pins σ H { s with heap:=h',toks:=t' }:=I.un (Un.kept k) (I.hok.kept k)
theorem Inv.laid {a:Addr}{o:HO}{t':Nat}(I:Inv X pins σ H s) (k:∀ b u,s.heap.get? b=some u→h'.get? b=some u) (hp:s.heap.objs.size≤a) (new:ObjOk X.prog X.w (upd H a o) h' a o) :
    Inv X pins σ (upd H a o) { s with heap:=h',toks:=t' }:=I.un (Un.laid k hp (I.hok.fresh hp)) (I.hok.laid k hp new)
theorem Inv.write {x e:Addr}{o:HO}{t':Nat}(I:Inv X pins σ H s) (mu:Mut (H x)) (he:e=x∨H e=some (.own x)) (k:∀ b u,b≠e→s.heap.get? b=some u→h'.get? b=some u) (heo:∃ u,h'.get? e=some u)
    (new:ObjOk X.prog X.w (upd H x o) h' x o):Inv X pins σ (upd H x o) { s with heap:=h',toks:=t' }:=I.un (Un.write mu he k heo) (I.hok.write mu he k heo new)
theorem Inv.pins_of {pins':List (Addr × Obj)}(I:Inv X pins σ H s) (h:∀ p∈pins',s.heap.get? p.1=some p.2∧H p.1=none∧p.1≠X.env.locals∧p.1∉X.fs∧∀ v,p.2.data≠.cell v):Inv X pins' σ H s :=
  ⟨I.ok,I.os,I.bare,I.base,I.loc,I.cell,I.free,I.freeC,fun p hp=>(List.mem_append.mp hp).elim (fun z=>I.pin p (List.mem_append_left _ z)) (h p),I.hok,I.len⟩
theorem zel {N:List Str}(hN:N.Nodup) {i j:Nat}{x:Str}(a:N[i]?=some x) (b:N[j]?=some x):i=j:=by
  obtain⟨h1,e1⟩:=List.getElem?_eq_some_iff.mp a
  obtain⟨h2,e2⟩:=List.getElem?_eq_some_iff.mp b
  exact(List.getElem_inj hN).mp (e1.trans e2.symm)
theorem zcR {M:Model}{A:Around}{E:Value→Shared→Prop}{i:Nat}{x:Str}{v:V}{u:Value}{Q:Unit→Shared→Prop}(I:Inv X pins σ H s) (hN:X.N.Nodup) (hi:X.N[i]?=some x) (hx:Loc X.env.scope x) (r:RelV v u)
    (h:∀ s',Inv X pins (σ.set i (some v)) H s'→(∃ a,Heap.SameBut a s.heap s'.heap∧(a=X.env.locals∨X.env.cells.lookup x=some a))→Q () s') (hf:X.fn x=true∨X.env.scope.names.lookup x=some .local:=by first|exact .inl rfl|exact .inr rfl|assumption):wpAny M A (storeName X.env x u) Q E s:=by
  obtain⟨m,hn,hl⟩:=id I.loc
  have hcls:(X.env.scope.kind == .class || (X.env.scope.kind == .module && X.env.locals != X.env.globals))=false:=by rw[I.ok.kind];rfl
  have hiσ:i<σ.length:=by rw[I.len];exact(List.getElem?_eq_some_iff.mp hi).1
  have cne:=I.cne
  have tracked:∀ {a:Addr}{h':Heap},(∃ o,s.heap.get? a=some o∧H a=none)→Heap.SameBut a s.heap h'→HOk X.prog X.w H h':=fun {a h'} ha hs b ob e=>by
    obtain⟨_,_,hfree⟩:=ha
    refine(I.hok b ob e).stay (fun c w' hc q=>(hs.2 c ?_).trans q) (fun _ q=>q) fun _ _ q=>q
    rintro rfl
    rcases hc with rfl|hc
    · rw[hfree]at e;cases e
    · rw[hfree]at hc;cases hc
  rcases hx with hk|hk
  · refine wpAny_storeName_local hk hn (fun h' hn' hs=>?_) hcls
    obtain⟨oL,_,_,hoL,_⟩:=id hn
    refine h _ ⟨I.ok,I.os,I.bare,⟨fun b o e n hb hx=>?_,fun b o e n hb hx=>?_,I.base.free,fun b o e hx=>?_,I.base.tups,I.base.frzs,I.base.tbls⟩,⟨_,hn',fun j y v' e1 e2 e3=>?_⟩,fun y c e=>?_,I.free,I.freeC,fun p hp=>?_,tracked ⟨oL,hoL,I.free⟩ hs,by simpa using I.len⟩ ⟨_,hs,.inl rfl⟩
    · exact(hs.2 b (Nat.ne_of_lt (Nat.lt_of_lt_of_le (Heap.lt_size e) I.ok.above))).trans (I.base.keep b o e n hb hx)
    · obtain⟨sl,e1⟩:=I.base.slot b o e n hb hx
      exact⟨sl,(hs.2 b (Nat.ne_of_lt (Nat.lt_of_lt_of_le (Heap.lt_size e) I.ok.above))).trans e1⟩
    · obtain⟨o',e1⟩:=I.base.there b o e hx
      exact⟨o',(hs.2 b (Nat.ne_of_lt (Nat.lt_of_lt_of_le (Heap.lt_size e) I.ok.above))).trans e1⟩
    · by_cases hj:j=i
      · subst hj
        rw[hi]at e1;cases e1
        rw[List.getElem?_set_self hiσ]at e2
        cases e2
        exact⟨u,r,.inl ⟨hk,by simp⟩⟩
      · rw[List.getElem?_set_ne (Ne.symm hj)]at e2
        obtain⟨u',r',q⟩:=hl j y v' e1 e2 e3
        refine⟨u',r',?_⟩
        rcases q with ⟨k,e⟩|⟨k,c,e,z⟩
        · refine .inl ⟨k,?_⟩
          have:y≠x:=fun e=>hj (zel hN e1 (e ▸ hi))
          simp[this,e]
        · exact .inr ⟨k,c,e,z.sameBut hs (cne y c e)⟩
    · obtain⟨w',z⟩:=I.cell y c e
      exact⟨w',z.sameBut hs (cne y c e)⟩
    · obtain⟨e,n,ne,nf,d⟩:=I.pin p hp
      exact⟨(hs.2 p.1 ne).trans e,n,ne,nf,d⟩
  · have hfn:X.fn x=true:=by
      rcases hf with z|z
      · exact z
      · rw[z]at hk;cases hk
    obtain⟨c,hc⟩:=I.ok.has x (.inl hk)
    obtain⟨w',z⟩:=I.cell x c hc
    refine wpAny_storeName_cell I.ok.kind hk hc z (fun h' hc' hs=>?_)
    obtain⟨oc,hoc,hocd⟩:=id z
    refine h { s with heap:=h' } ⟨I.ok,I.os,I.bare,⟨fun b o e n hb hx=>?_,fun b o e n hb hx=>?_,I.base.free,fun b o e hx=>?_,I.base.tups,I.base.frzs,I.base.tbls⟩,⟨m,hn.sameBut hs (Ne.symm (cne x c hc)),fun j y v' e1 e2 e3=>?_⟩,fun y c' e=>?_,I.free,I.freeC,fun p hp=>?_,tracked ⟨oc,hoc,I.freeC x c hc⟩ hs,by simpa using I.len⟩ ⟨c,hs,.inr hc⟩
    · exact(hs.2 b (Nat.ne_of_lt (Nat.lt_of_lt_of_le (Heap.lt_size e) (I.ok.cab x c hfn hc)))).trans (I.base.keep b o e n hb hx)
    · obtain⟨sl,e1⟩:=I.base.slot b o e n hb hx
      exact⟨sl,(hs.2 b (Nat.ne_of_lt (Nat.lt_of_lt_of_le (Heap.lt_size e) (I.ok.cab x c hfn hc)))).trans e1⟩
    · obtain⟨o',e1⟩:=I.base.there b o e hx
      exact⟨o',(hs.2 b (Nat.ne_of_lt (Nat.lt_of_lt_of_le (Heap.lt_size e) (I.ok.cab x c hfn hc)))).trans e1⟩
    · by_cases hj:j=i
      · subst hj
        rw[hi]at e1;cases e1
        rw[List.getElem?_set_self hiσ]at e2
        cases e2
        exact⟨u,r,.inr ⟨.inl hk,c,hc,hc'⟩⟩
      · rw[List.getElem?_set_ne (Ne.symm hj)]at e2
        obtain⟨u',r',q⟩:=hl j y v' e1 e2 e3
        refine⟨u',r',?_⟩
        rcases q with q|⟨k,c',e,z'⟩
        · exact .inl q
        · refine .inr ⟨k,c',e,z'.sameBut hs ?_⟩
          rintro rfl
          exact hj (zel hN e1 (I.ok.inj _ _ _ e hc ▸ hi))
    · by_cases hcc:c'=c
      · subst hcc;exact⟨_,hc'⟩
      · obtain⟨w2,z2⟩:=I.cell y c' e
        exact⟨w2,z2.sameBut hs hcc⟩
    · obtain⟨e,n,ne,nf,d⟩:=I.pin p hp
      refine⟨(hs.2 p.1 ?_).trans e,n,ne,nf,d⟩
      intro q
      rw[q,hoc]at e
      have q':oc=p.2:=Option.some.inj e
      exact d w' (by rw[← q'];exact hocd)
theorem zaU {M:Model}{A:Around}{E:Value→Shared→Prop}{i:Nat}{x:Str}{v:V}{u:Value}{Q:Unit→Shared→Prop}(I:Inv X pins σ H s) (hN:X.N.Nodup) (hi:X.N[i]?=some x) (hx:Loc X.env.scope x) (r:RelV v u)
    (h:∀ s',Inv X pins (σ.set i (some v)) H s'→Q () s') (hf:X.fn x=true∨X.env.scope.names.lookup x=some .local:=by first|exact .inl rfl|exact .inr rfl|assumption):wpAny M A (storeName X.env x u) Q E s :=
  zcR I hN hi hx r (fun s' I' _=>h s' I') hf
theorem Inv.call' {s':Shared}{ch:List Addr}(I:Inv X pins σ H s) (ho:s'.os=s.os) (u:Un (frs X.stack) ch H H' s.heap s'.heap) (hok:HOk X.prog X.w H' s'.heap) (hg:AllBare s'.gens)
    (hch:∀ b∈ch,(b∈X.ex∨X.s₀.heap.objs.size≤b)∧b≠X.env.locals∧(∀ x c,X.env.cells.lookup x=some c→c≠b)∧∀ p∈X.pn++pins,p.1≠b):Inv X pins σ H' s':=by
  obtain⟨h',g',d',t',o'⟩:=s'
  have e:o'=s.os:=ho
  subst e
  exact I.call (g':=g') (t':=t') (d':=d') u hok hg hch
end
abbrev XK:=Value→Option Addr→Hp→Prop
abbrev St:=List (Option V)
abbrev VK:=V→Hp→Prop
abbrev TE:=St→Hp→VK→Prop
abbrev TT:=St→Hp→(Bool→Hp→Prop)→Prop
abbrev TA:=St→Hp→(List V→Hp→Prop)→Prop
structure Ends where
  nx:St→Hp→Prop
  rt:VK
  bk:St→Hp→Prop:=fun _ _=>False
  ct:St→Hp→Prop:=fun _ _=>False
abbrev TS:=Ends→St→Hp→Prop
def EP (X:Cx) (pins:List (Addr × Obj)) (σ:St) (Q:VK) (u:Value) (s':Shared):Prop:=∃ v H',Inv X pins σ H' s'∧RelV v u∧Q v H'
def TP (X:Cx) (pins:List (Addr × Obj)) (σ:St) (Q:Bool→Hp→Prop) (b:Bool) (s':Shared):Prop:=∃ H',Inv X pins σ H' s'∧Q b H'
def AP (X:Cx) (pins:List (Addr × Obj)) (σ:St) (Q:List V→Hp→Prop) (us:List Value) (s':Shared):Prop:=∃ vs H',Inv X pins σ H' s'∧Vals vs us∧Q vs H'
def SP (X:Cx) (pins:List (Addr × Obj)) (D:Ends) (f:Flow) (s':Shared):Prop :=
  match f with
  | .next=>∃ σ' H',Inv X pins σ' H' s'∧D.nx σ' H'
  | .brk=>∃ σ' H',Inv X pins σ' H' s'∧D.bk σ' H'
  | .cont=>∃ σ' H',Inv X pins σ' H' s'∧D.ct σ' H'
  | .ret u=>∃ v σ' H',Inv X pins σ' H' s'∧RelV v u∧D.rt v H'
def PE (X:Cx) (e:Expr) (t:TE):Prop :=
  ∀ (pins:List (Addr × Obj)) (s:Shared) (σ:St) (H:Hp) (Q:VK),Inv X pins σ H s→t σ H Q→wpAny (model X.prog X.w) X.A (eval e X.env) (EP X pins σ Q) X.xe s
def PT (X:Cx) (e:Expr) (t:TT):Prop :=
  ∀ (pins:List (Addr × Obj)) (s:Shared) (σ:St) (H:Hp) (Q:Bool→Hp→Prop),Inv X pins σ H s→t σ H Q→wpAny (model X.prog X.w) X.A (isTrue e X.env (eval e X.env)) (TP X pins σ Q) X.xe s
def PW (X:Cx) (e:Expr) (t:TT):Prop :=
  ∀ (whole:Sem Value) (pins:List (Addr × Obj)) (s:Shared) (σ:St) (H:Hp) (Q:Bool→Hp→Prop),Inv X pins σ H s→t σ H Q→wpAny (model X.prog X.w) X.A (isTrue e X.env whole) (TP X pins σ Q) X.xe s
theorem PW.pt {X:Cx}{e:Expr}{t:TT}(h:PW X e t):PT X e t:=h _
def PA (X:Cx) (es:List Expr) (t:TA):Prop :=
  ∀ (pos:Pos) (pins:List (Addr × Obj)) (s:Shared) (σ:St) (H:Hp) (Q:List V→Hp→Prop),Inv X pins σ H s→t σ H Q→wpAny (model X.prog X.w) X.A (spliced (backTo pos (starEach es X.env))) (AP X pins σ Q) X.xe s
def PS (X:Cx) (st:Stmt) (t:TS):Prop :=
  ∀ (pins:List (Addr × Obj)) (s:Shared) (σ:St) (H:Hp) (D:Ends),Inv X pins σ H s→t D σ H→wpAny (model X.prog X.w) X.A (exec st X.env) (SP X pins D) X.xe s
def PSs (X:Cx) (st:List Stmt) (t:TS):Prop :=
  ∀ (pins:List (Addr × Obj)) (s:Shared) (σ:St) (H:Hp) (D:Ends),Inv X pins σ H s→t D σ H→wpAny (model X.prog X.w) X.A (execs st X.env) (SP X pins D) X.xe s
theorem thn {α:Type}{t:Sem α}{Q Q':α→Shared→Prop}{M:Model}{A:Around}{E:Value→Shared→Prop}{s:Shared}(h:wpAny M A t Q E s) (hQ:∀ a s,Q a s→Q' a s):wpAny M A t Q' E s:=wpAny_mono h hQ fun _ _ x=>x
section
variable {X:Cx}
def tVar (i:Nat):TE:=fun σ H Q=>∃ v,σ[i]?=some (some v)∧Q v H
def tC (v:V):TE:=fun _ H Q=>Q v H
theorem zjH {i:Nat}{x:Str}{pos:Pos}(hN:X.N[i]?=some x) (hv:Vis X.env.scope x) (hd:(x == ("__debug__":Str))=false:=by decide) (hcd:(x == ("__classdict__":Str))=false:=by decide):PE X (.Name x pos) (tVar i):=by
  intro pins s σ H Q I h
  obtain⟨v,e,h⟩:=h
  obtain⟨m,hn,hl⟩:=I.loc
  obtain⟨u,r,l⟩:=hl i x v hN e hv
  have fin:EP X pins σ Q u s:=⟨v,H,I,r,h⟩
  rcases l with ⟨hk,hm⟩|⟨hk,c,hc,hcell⟩
  · exact wpAny_Name (wpAny_loadName_local I.ok.kind hk hn hm fin) hd
  · rcases hk with hk|hk
    · exact wpAny_Name (wpAny_loadName_cell I.ok.kind hk hc hcell fin) hd
    · exact wpAny_Name (wpAny_loadName_free I.ok.kind hk hc hcell fin hcd) hd
theorem pe_int {i j pos}:PE X (.Constant (.int i) j pos) (tC (.int i)):=fun _ _ _ H _ I h=>wpAny_Constant_int ⟨.int i,H,I.tok _,⟨_,rfl⟩,h⟩
theorem pe_bl {b j pos}:PE X (.Constant (.bool b) j pos) (tC (.bl b)):=fun _ _ _ H _ I h=>Constant_bool ⟨.bl b,H,I,rfl,h⟩
theorem pe_non {j pos}:PE X (.Constant .none j pos) (tC .non):=fun _ _ _ H _ I h=>Constant_none ⟨.non,H,I,rfl,h⟩
theorem zeh {x j pos}:PE X (.Constant (.str x) j pos) (tC (.str x)):=fun _ _ _ H _ I h=>Calls.Constant_str ⟨.str x,H,I.tok _,⟨_,rfl⟩,h⟩
def Gl (X:Cx) (x:Str):Prop:=X.env.kindOf x=some .globalImplicit
theorem zga {E:Value→Shared→Prop}{pins:List (Addr × Obj)}{s:Shared}{σ:St}{H:Hp}{x:Str}{u:Value}{pos:Pos}{Q:Value→Shared→Prop}(I:Inv X pins σ H s) (hg:Gl X x) (hm:X.mg x=some u) (h:Q u s)
    (hd:(x == ("__debug__":Str))=false:=by decide):wpAny (model X.prog X.w) X.A (eval (.Name x pos) X.env) Q E s :=
  Calls.Name_function_global I.ok.kind hg (Calls.loadGlobal_global (by rw[I.ok.glob];exact I.mod.glob.keeps I.bk) hm h) hd
theorem zaD {E:Value→Shared→Prop}{pins:List (Addr × Obj)}{s:Shared}{σ:St}{H:Hp}{x:Str}{u:Value}{pos:Pos}{Q:Value→Shared→Prop}(I:Inv X pins σ H s) (hg:Gl X x) (hm:X.mg x=none) (hv:bootBuiltins x=some u) (h:Q u s)
    (hn:x≠"__name__":=by decide) (hd:(x == ("__debug__":Str))=false:=by decide):wpAny (model X.prog X.w) X.A (eval (.Name x pos) X.env) Q E s:=by
  obtain⟨mb,h1,h2⟩:=I.mod.blt
  exact Calls.Name_function_global I.ok.kind hg (Calls.loadGlobal_builtin (by rw[I.ok.glob];exact I.mod.glob.keeps I.bk) hm (by rw[I.ok.blt];exact h1.keeps I.bk) ((h2 x hn).trans hv) h) hd
theorem zdF {x:Str}{v:V}{u:Value}{pos:Pos}(hg:Gl X x) (hm:X.mg x=none) (hv:bootBuiltins x=some u) (r:RelV v u) (hn:x≠"__name__":=by decide) (hd:(x == ("__debug__":Str))=false:=by decide):PE X (.Name x pos) (tC v) :=
  fun _ _ _ H _ I h=>zaD I hg hm hv ⟨v,H,I,r,h⟩ hn hd
variable {a b:Expr}{ta tb:TE}{pos:Pos}
def tB (t:TE):TT:=fun σ H Q=>t σ H fun x H1=>∃ c,x=.bl c∧Q c H1
theorem zfJ {e:Expr}{t:TE}(h:PE X e t) (he:∀ whole,isTrue e X.env whole=(do let v ← whole;standAt e.pos;holding [v] (truthy v)):=by intro _;rfl):PT X e (tB t):=by
  intro pins s σ H Q I hw
  refine isTrue_plain (thn (h pins s σ H _ I hw) fun v s1 ⟨x,H1,I1,r1,q1⟩=>?_) (he _)
  obtain⟨d,rfl,q⟩:=q1
  cases r1
  exact wpAny_truthy_bool ⟨H1,I1,q⟩
variable {tA tB':TT}{rest:List Expr}
def tAnd (t u:TT):TT:=fun σ H Q=>t σ H fun c H1=>if c=true then u σ H1 Q else Q false H1
def tOr (t u:TT):TT:=fun σ H Q=>t σ H fun c H1=>if c=true then Q true H1 else u σ H1 Q
def tNot (t:TT):TT:=fun σ H Q=>t σ H fun c H1=>Q (!c) H1
theorem zcu (ha:PT X a tA):PW X (.BoolOp .And [a] pos) tA:=by
  intro wh pins s σ H Q I h
  refine isTrue_and (thn (ha pins s σ H Q I h) fun c s1 e=>?_)
  cases c with
  | true=>exact isTrue_and_nil e
  | false=>exact e
theorem pw_or1 (ha:PT X a tA):PW X (.BoolOp .Or [a] pos) tA:=by
  intro wh pins s σ H Q I h
  refine isTrue_or (thn (ha pins s σ H Q I h) fun c s1 e=>?_)
  cases c with
  | false=>exact isTrue_or_nil e
  | true=>exact e
theorem zed (ha:PT X a tA) (hb:PW X (.BoolOp .And (b::rest) pos) tB'):PW X (.BoolOp .And (a::b::rest) pos) (tAnd tA tB'):=by
  intro wh pins s σ H Q I h
  refine isTrue_and (thn (ha pins s σ H _ I h) fun c s1 ⟨H1,I1,q1⟩=>?_)
  cases c with
  | true=>exact hb wh pins s1 σ H1 Q I1 q1
  | false=>exact⟨H1,I1,q1⟩
theorem pw_or (ha:PT X a tA) (hb:PW X (.BoolOp .Or (b::rest) pos) tB'):PW X (.BoolOp .Or (a::b::rest) pos) (tOr tA tB'):=by
  intro wh pins s σ H Q I h
  refine isTrue_or (thn (ha pins s σ H _ I h) fun c s1 ⟨H1,I1,q1⟩=>?_)
  cases c with
  | true=>exact⟨H1,I1,q1⟩
  | false=>exact hb wh pins s1 σ H1 Q I1 q1
theorem zfK (ha:PT X a tA):PT X (.UnaryOp .Not a pos) (tNot tA):=by
  intro pins s σ H Q I h
  exact isTrue_not (ha pins s σ H (fun c H1=>Q (!c) H1) I h)
def zko (ta tb:TE):TE:=fun σ H Q=>ta σ H fun x H1=>∃ c,x=.bl c∧if c=true then tb σ H1 Q else Q (.bl false) H1
def zkh (ta:TE):TE:=fun σ H Q=>ta σ H fun x H1=>∃ c,x=.bl c∧Q (.bl (!c)) H1
theorem zhS {op} {t:TE}(h:PE X a t):PE X (.BoolOp op [a] pos) t:=fun pins s σ H Q I hw=>BoolOp_one (h pins s σ H Q I hw)
theorem zhU (ha:PE X a ta) (hb:PE X (.BoolOp .And (b::rest) pos) tb):PE X (.BoolOp .And (a::b::rest) pos) (zko ta tb):=by
  intro pins s σ H Q I h
  refine BoolOp_and (thn (ha pins s σ H _ I h) fun v s1 ⟨x,H1,I1,r1,q1⟩=>?_)
  obtain⟨c,rfl,q1⟩:=q1
  cases r1
  refine wpAny_truthy_bool ?_
  cases c with
  | true=>exact hb pins s1 σ H1 Q I1 q1
  | false=>exact⟨.bl false,H1,I1,rfl,q1⟩
theorem zjJ (ha:PE X a ta):PE X (.UnaryOp .Not a pos) (zkh ta):=by
  intro pins s σ H Q I h
  refine UnaryOp_ (thn (ha pins s σ H _ I h) fun v s1 ⟨x,H1,I1,r1,q1⟩=>?_)
  obtain⟨c,rfl,q1⟩:=q1
  cases r1
  exact not_of (wpAny_truthy_bool ⟨.bl (!c),H1,I1,rfl,q1⟩)
end
def SqL (K:PySem.W.Frag) (H:Hp) (a:Addr) (xs:List V):Prop :=
  Rd H a (.lst xs) ∨
    ∃ (o:Obj) (its:Array Value) (n:Nat),K.lookup a=some o∧o.cls=.type "list"∧o.dict=none∧o.data=.seq its n∧its.size≤sizeLine∧Vals xs its.toList
def SqT (K:PySem.W.Frag) (H:Hp) (a:Addr) (xs:List V):Prop :=
  Rd H a (.tup xs) ∨
    ∃ (o:Obj) (its:Array Value) (n:Nat),K.lookup a=some o∧o.cls=.type "tuple"∧o.data=.seq its n∧its.size≤sizeLine∧Vals xs its.toList
def absV:Value→Option V
  | .none=>some .non
  | .bool b=>some (.bl b)
  | .int i _=>some (.int i)
  | .str x _=>some (.str x)
  | .bytes b _=>some (.byt b)
  | .float b _=>some (.flt b)
  | .ref a=>some (.ref a)
  | .type n=>some (.ty n)
  | _=>none
theorem RelV.abs {x:V}{u:Value}(r:RelV x u):absV u=some x:=by
  cases x with
  | non=>cases r;rfl
  | bl _=>cases r;rfl
  | int _=>obtain⟨t,rfl⟩:=r;rfl
  | str _=>obtain⟨t,rfl⟩:=r;rfl
  | byt _=>obtain⟨t,rfl⟩:=r;rfl
  | flt _=>obtain⟨t,rfl⟩:=r;rfl
  | ref _=>cases r;rfl
  | ty _=>cases r;rfl
theorem RelV.inj {x y:V}{u:Value}(r:RelV x u) (q:RelV y u):x=y:=Option.some.inj (r.abs.symm.trans q.abs)
theorem Vals.inj:∀ {xs ys:List V}{us:List Value},Vals xs us→Vals ys us→xs=ys
  | _,_,_,.nil,.nil=>rfl
  | _,_,_,.cons r t,.cons r' t'=>by rw[r.inj r',Vals.inj t t']
section
variable {X:Cx}{pins:List (Addr × Obj)}{σ:St}{H:Hp}{s:Shared}{a:Addr}{xs ys:List V}
theorem SqL.of {K:PySem.W.Frag}(h:H a=some (.lst xs)):SqL K H a xs:=.inl (.inl h)
theorem SqT.of {K:PySem.W.Frag}(h:H a=some (.tup xs)):SqT K H a xs:=.inl (.inl h)
theorem Inv.list (I:Inv X pins σ H s) (h:SqL X.K H a xs):∃ its:List Value,Vals xs its∧PlainL s.heap a its.toArray∧xs.length≤sizeLine:=by
  rcases h with h|⟨o,its,n,hk,hc,hd,hs,hz,r⟩
  · obtain⟨z,its,n,r,e⟩:=h.ok I.hok
    exact⟨its,r,⟨_,n,e,rfl,rfl,rfl⟩,z⟩
  · refine⟨its.toList,r,⟨o,n,I.kIn a o hk,hc,hd,by simpa using hs⟩,?_⟩
    have e:=r.length
    simp only[Array.length_toList]at e
    omega
theorem Inv.tuple (I:Inv X pins σ H s) (h:SqT X.K H a xs):∃ its:List Value,Vals xs its∧IsTup s.heap a its.toArray∧xs.length≤sizeLine:=by
  rcases h with h|⟨o,its,n,hk,hc,hs,hz,r⟩
  · obtain⟨z,its,r,p⟩:=h.ok I.hok
    exact⟨its,r,p.tup,z⟩
  · refine⟨its.toList,r,⟨o,I.kIn a o hk,hc,n,by simpa using hs⟩,?_⟩
    have e:=r.length
    simp only[Array.length_toList]at e
    omega
theorem Inv.list_inj (I:Inv X pins σ H s) (h:SqL X.K H a xs) (h':SqL X.K H a ys):xs=ys:=by
  obtain⟨its,r,⟨o,n,e,_,_,d⟩,_⟩:=I.list h
  obtain⟨its',r',⟨o',n',e',_,_,d'⟩,_⟩:=I.list h'
  rw[e]at e';cases e'
  rw[d]at d'
  injection d' with d1 _
  have:its=its':=by simpa using congrArg Array.toList d1
  subst this
  exact r.inj r'
theorem Inv.tuple_inj (I:Inv X pins σ H s) (h:SqT X.K H a xs) (h':SqT X.K H a ys):xs=ys:=by
  obtain⟨its,r,⟨o,e,_,n,d⟩,_⟩:=I.tuple h
  obtain⟨its',r',⟨o',e',_,n',d'⟩,_⟩:=I.tuple h'
  rw[e]at e';cases e'
  rw[d]at d'
  injection d' with d1 _
  have:its=its':=by simpa using congrArg Array.toList d1
  subst this
  exact r.inj r'
end
abbrev Cx.wish (X:Cx) (E:Value→Shared→Prop):Cx:={ X with xe:=E }
abbrev Cx.nox (X:Cx):Cx:=X.wish fun _ _=>False
theorem Cx.Ok.wish {X:Cx}(ok:X.Ok) (E:Value→Shared→Prop):(X.wish E).Ok :=
  ⟨ok.mod,ok.kind,ok.glob,ok.blt,ok.above,ok.inj,ok.has,ok.cab,ok.hd,ok.frames,ok.stk,ok.exf,ok.bs,ok.bsz,ok.noex,ok.exfs,ok.funs,ok.frf⟩
theorem Cx.Ok.unwish {X:Cx}{E:Value→Shared→Prop}(ok:(X.wish E).Ok):X.Ok :=
  ⟨ok.mod,ok.kind,ok.glob,ok.blt,ok.above,ok.inj,ok.has,ok.cab,ok.hd,ok.frames,ok.stk,ok.exf,ok.bs,ok.bsz,ok.noex,ok.exfs,ok.funs,ok.frf⟩
section
variable {X:Cx}{pins:List (Addr × Obj)}{σ:St}{H:Hp}{s:Shared}{E:Value→Shared→Prop}
theorem Inv.wish (I:Inv X pins σ H s) (E:Value→Shared→Prop):Inv (X.wish E) pins σ H s:=⟨I.ok.wish E,I.os,I.bare,I.base,I.loc,I.cell,I.free,I.freeC,I.pin,I.hok,I.len⟩
theorem Inv.unwish (I:Inv (X.wish E) pins σ H s):Inv X pins σ H s:=⟨I.ok.unwish,I.os,I.bare,I.base,I.loc,I.cell,I.free,I.freeC,I.pin,I.hok,I.len⟩
theorem SP.unwish {D:Ends}{f:Flow}{s':Shared}(h:SP (X.wish E) pins D f s'):SP X pins D f s':=by
  cases f with
  | next=>obtain⟨σ',H',I,q⟩:=h;exact⟨σ',H',I.unwish,q⟩
  | brk=>obtain⟨σ',H',I,q⟩:=h;exact⟨σ',H',I.unwish,q⟩
  | cont=>obtain⟨σ',H',I,q⟩:=h;exact⟨σ',H',I.unwish,q⟩
  | ret u=>obtain⟨v,σ',H',I,r,q⟩:=h;exact⟨v,σ',H',I.unwish,r,q⟩
theorem PSs.nox {st:List Stmt}{t:TS}(h:PSs X.nox st t):PSs X st t:=fun pins s σ H D I hw =>
  wpAny_mono (h pins s σ H D (I.wish _) hw) (fun _ _ q=>q.unwish) fun _ _ z=>False.elim z
end
section
variable {X:Cx}{st:Stmt}{rest:List Stmt}{t u:TS}{e:Expr}{te:TE}{pos:Pos}
def zjt:TS:=fun D σ H=>D.nx σ H
def tSeq (t u:TS):TS:=fun D σ H=>t { D with nx:=u D } σ H
theorem pss_nil:PSs X [] zjt:=fun _ _ σ H _ I h=>wpAny_execs_nil ⟨σ,H,I,h⟩
theorem pss_cons (h1:PS X st t) (h2:PSs X rest u):PSs X (st::rest) (tSeq t u):=by
  intro pins s σ H D I h
  refine wpAny_execs_cons (thn (h1 pins s σ H { D with nx:=u D } I h) fun f s1 q=>?_)
  cases f with
  | next =>
    obtain⟨σ',H',I',q⟩:=q
    exact h2 pins s1 σ' H' D I' q
  | ret v=>exact q
  | brk=>exact q
  | cont=>exact q
theorem pss_one (h1:PS X st t):PSs X [st] t:=by
  intro pins s σ H D I h
  refine wpAny_execs_cons (thn (h1 pins s σ H D I h) fun f s1 q=>?_)
  cases f with
  | next=>exact wpAny_execs_nil q
  | ret v=>exact q
  | brk=>exact q
  | cont=>exact q
theorem Inv.quiet {pins:List (Addr × Obj)}{σ:St}{H:Hp}{s:Shared}(I:Inv X pins σ H s):interactive X.env=false:=by simp[interactive,I.ok.kind]
def zkk (te:TE):TS:=fun D σ H=>te σ H fun _ H1=>D.nx σ H1
theorem ps_expr (he:PE X e te) (hs:swapsWith e none pos.line X.env=pure false:=by rfl):PS X (.Expr e pos) (zkk te):=by
  intro pins s σ H D I h
  exact wpAny_Expr_any (thn (he pins s σ H _ I h) fun v s1 ⟨x,H1,I1,r1,q1⟩=>⟨σ,H1,I1,q1⟩) I.quiet hs
def tRet (te:TE):TS:=fun D σ H=>te σ H D.rt
theorem ps_ret (he:PE X e te):PS X (.Return (some e) pos) (tRet te):=by
  intro pins s σ H D I h
  exact wpAny_Return_some (thn (he pins s σ H _ I h) fun v s1 ⟨x,H1,I1,r1,q1⟩=>⟨x,σ,H1,I1,r1,q1⟩)
def tIfS (c:TT) (t u:TS):TS:=fun D σ H=>c σ H fun b H1=>if b=true then t D σ H1 else u D σ H1
theorem ps_if {c:Expr}{a b:List Stmt}{tc:TT}(hc:PT X c tc) (ha:PSs X a t) (hb:PSs X b u):PS X (.If c a b pos) (tIfS tc t u):=by
  intro pins s σ H D I h
  refine wpAny_If (thn (hc pins s σ H _ I h) fun d s1 ⟨H1,I1,q1⟩=>?_)
  cases d with
  | true=>exact ha pins s1 σ H1 D I1 q1
  | false=>exact hb pins s1 σ H1 D I1 q1
end
abbrev TG:=V→St→Hp→(St→Hp→Prop)→Prop
abbrev TGs:=List V→St→Hp→(St→Hp→Prop)→Prop
def PG (X:Cx) (target:Expr) (t:TG):Prop :=
  ∀ (pins:List (Addr × Obj)) (s:Shared) (σ:St) (H:Hp) (v:V) (u:Value) (Q:St→Hp→Prop),Inv X pins σ H s→RelV v u→t v σ H Q →
    wpAny (model X.prog X.w) X.A (assign target X.env u) (fun _ s'=>∃ σ' H',Inv X pins σ' H' s'∧Q σ' H') X.xe s
def PGs (X:Cx) (ts:List Expr) (t:TGs):Prop :=
  ∀ (pins:List (Addr × Obj)) (s:Shared) (σ:St) (H:Hp) (vs:List V) (us:List Value) (Q:St→Hp→Prop),Inv X pins σ H s→Vals vs us→t vs σ H Q →
    wpAny (model X.prog X.w) X.A (assignInOrder ((assignEach ts X.env).map (·.2)) us) (fun _ s'=>∃ σ' H',Inv X pins σ' H' s'∧Q σ' H') X.xe s
abbrev TSet:=V→V→V→Hp→(Hp→Prop)→Prop
def PSet (X:Cx) (t:TSet):Prop :=
  ∀ (pins:List (Addr × Obj)) (s:Shared) (σ:St) (H:Hp) (o i v:V) (ov iv u:Value) (Q:Hp→Prop),Inv X pins σ H s→RelV o ov→RelV i iv→RelV v u→t o i v H Q →
    wpAny (model X.prog X.w) X.A (setItem ov iv u) (fun _ s'=>∃ H',Inv X pins σ H' s'∧Q H') X.xe s
abbrev TIp:=V→V→Hp→VK→Prop
def PIp (X:Cx) (op:Operator) (t:TIp):Prop :=
  ∀ (pins:List (Addr × Obj)) (s:Shared) (σ:St) (H:Hp) (x y:V) (v u:Value) (Q:VK),Inv X pins σ H s→RelV x v→RelV y u→t x y H Q →
    wpAny (model X.prog X.w) X.A (inplaceOp op v u) (EP X pins σ Q) X.xe s
section
variable {X:Cx}{pos:Pos}
def gName (i:Nat):TG:=fun v σ H Q=>Q (σ.set i (some v)) H
theorem pg_name {i:Nat}{x:Str}(hN:X.N.Nodup) (hi:X.N[i]?=some x) (hx:Loc X.env.scope x) (hf:X.fn x=true∨X.env.scope.names.lookup x=some .local:=by first|exact .inl rfl|exact .inr rfl|assumption):PG X (.Name x pos) (gName i):=by
  intro pins s σ H v u Q I r h
  exact wpAny_assign_Name (zaU I hN hi hx r (fun s' I'=>⟨_,H,I',h⟩) hf)
def gNil:TGs:=fun vs σ H Q=>vs=[]∧Q σ H
def gCons (t:TG) (u:TGs):TGs:=fun vs σ H Q=>∃ v r,vs=v::r∧t v σ H fun σ' H'=>u r σ' H' Q
theorem pgs_nil:PGs X [] gNil:=by
  intro pins s σ H vs us Q I r h
  obtain⟨e,h⟩:=h
  subst e
  cases r
  exact assignInOrder_nil ⟨σ,H,I,h⟩
theorem pgs_cons {e:Expr}{es:List Expr}{t:TG}{u:TGs}(h1:PG X e t) (h2:PGs X es u)
    (hs:(assignEach (e::es) X.env).map (·.2)=assign e X.env::(assignEach es X.env).map (·.2):=by rfl):PGs X (e::es) (gCons t u):=by
  intro pins s σ H vs us Q I r h
  obtain⟨v,vr,e1,h⟩:=h
  subst e1
  cases r with
  | cons r rr =>
    rw[hs]
    refine assignInOrder_cons (thn (h1 pins s σ H _ _ _ I r h) fun _ s1 ⟨σ1,H1,I1,q1⟩=>?_)
    exact h2 pins s1 σ1 H1 _ _ Q I1 rr q1
def gTup (K:PySem.W.Frag) (n:Nat) (t:TGs):TG:=fun v σ H Q=>∃ a xs,v=.ref a∧SqT K H a xs∧xs.length=n∧t xs σ H Q
theorem pg_tup {es:List Expr}{k:Nat}{t:TGs}{n:Nat}(hc:X.calm=true) (h:PGs X es t)
    (hn:(assignEach es X.env).length=n:=by rfl) (hst:(assignEach es X.env).findIdx? (·.1)=none:=by rfl):PG X (.Tuple es k pos) (gTup X.K n t):=by
  intro pins s σ H v u Q I r hw
  obtain⟨a,xs,e1,hq,hl,hw⟩:=hw
  subst e1
  cases r
  obtain⟨its,rv,ht,hz⟩:=I.tuple hq
  refine assign_Tuple_tuple (I.ok.hd hc) ht (by simp[hn,← hl,rv.length]) hst fun h' hx=>?_
  have I1:Inv X pins σ H { s with heap:=h' }:=I.kept (t':=s.toks) fun b o e=>hx b o (Nat.ne_of_lt (Heap.lt_size e)) e
  exact h pins _ σ H xs _ Q I1 (by simpa using rv) hw
def gSub (to ti:TE) (t:TSet):TG:=fun v σ H Q=>to σ H fun o H1=>ti σ H1 fun i H2=>t o i v H2 fun H3=>Q σ H3
theorem pg_sub {o i:Expr}{to ti:TE}{t:TSet}(ho:PE X o to) (hi:PE X i ti) (hs:PSet X t)
    (ha:∀ v,assign (.Subscript o i pos) X.env v=(do
      let ov ← holding [v] (eval o X.env)
      let iv ← holding [v,ov] (eval i X.env)
      standAt pos
      holding [v,ov,iv] (setItem ov iv v)
      release [v,ov,iv] []):=by intro _;rfl):PG X (.Subscript o i pos) (gSub to ti t):=by
  intro pins s σ H v u Q I r h
  rw[ha]
  refine wpAny_bind (wpAny_holding (thn (ho pins s σ H _ I h) fun ov s1 ⟨x,H1,I1,r1,q1⟩=>?_))
  refine wpAny_bind (wpAny_holding (thn (hi pins s1 σ H1 _ I1 q1) fun iv s2 ⟨y,H2,I2,r2,q2⟩=>?_))
  refine wpAny_bind (wpAny_standAt (wpAny_bind (wpAny_holding (thn (hs pins s2 σ H2 x y v ov iv u _ I2 r1 r2 r q2) fun _ s3 ⟨H3,I3,q3⟩=>?_))))
  exact wpAny_release ⟨σ,H3,I3,q3⟩
def tAsg (te:TE) (g:TG):TS:=fun D σ H=>te σ H fun x H1=>g x σ H1 D.nx
theorem ps_asg {tg e:Expr}{te:TE}{g:TG}(he:PE X e te) (hg:PG X tg g) (hs:swapsWithSole [tg] e pos.line X.env=pure false:=by rfl) (hw:swappedStores [tg] e X.env=pure none:=by rfl)
    (h1:(assignEach [tg] X.env).map (·.2)=[assign tg X.env]:=by rfl):PS X (.Assign [tg] e pos) (tAsg te g):=by
  intro pins s σ H D I h
  refine wpAny_Assign_stores (thn (he pins s σ H _ I h) fun v s1 ⟨x,H1,I1,r1,q1⟩=>?_) hs hw
  rw[h1]
  exact thn (hg pins s1 σ H1 x v _ I1 r1 q1) fun _ s2 q=>q
theorem ps_set {i:Nat}{x:Str}{e:Expr}{te:TE}{pos':Pos}(hN:X.N.Nodup) (hi:X.N[i]?=some x) (hx:Loc X.env.scope x) (he:PE X e te) (hs:swapsWith e (some (.Name x pos')) pos.line X.env=pure false:=by rfl) (hf:X.fn x=true∨X.env.scope.names.lookup x=some .local:=by first|exact .inl rfl|exact .inr rfl|assumption) :
    PS X (.Assign [.Name x pos'] e pos) (tAsg te (gName i)):=by
  intro pins s σ H D I h
  refine wpAny_Assign_Name (thn (he pins s σ H _ I h) fun v s1 ⟨y,H1,I1,r1,q1⟩=>?_) hs
  exact zaU I1 hN hi hx r1 (fun s2 I2=>⟨_,H1,I2,q1⟩) hf
def tPar (i j:Nat) (ta:TA):TS:=fun D σ H=>ta σ H fun vs H1=>∃ v w,vs=[v,w]∧D.nx ((σ.set i (some v)).set j (some w)) H1
theorem zjG {i j:Nat}{x y:Str}{a b:Expr}{ta:TA}{px py pt:Pos}{kt k2 pt2} (hc:X.calm=true) (hN:X.N.Nodup) (hi:X.N[i]?=some x) (hj:X.N[j]?=some y) (hij:i≠j)
    (hx:X.env.scope.names.lookup x=some .local) (hy:X.env.scope.names.lookup y=some .local) (ha:PA X [a,b] ta)
    (hw:swappedStores [.Tuple [.Name x px,.Name y py] kt pt] (.Tuple [a,b] k2 pt2) X.env=pure (some [x,y]))
    (hs:swapsWithSole [.Tuple [.Name x px,.Name y py] kt pt] (.Tuple [a,b] k2 pt2) pos.line X.env=pure false:=by rfl) :
    PS X (.Assign [.Tuple [.Name x px,.Name y py] kt pt] (.Tuple [a,b] k2 pt2) pos) (tPar i j ta):=by
  intro pins s σ H D I h
  rw[exec_Assign_arm]
  refine wpAny_bind (wpAny_standAt ?_)
  rw[hs]
  refine wpAny_bind (wpAny_pure ?_)
  rw[if_neg (by decide)]
  refine wpAny_bind (Tuple_ (thn (ha _ pins s σ H _ I h) fun us s1 ⟨vs,H1,I1,r1,q1⟩=>?_))
  obtain⟨v,w,e1,q1⟩:=q1
  subst e1
  obtain⟨u1,u2,rfl,rv,rw'⟩:∃ u1 u2,us=[u1,u2]∧RelV v u1∧RelV w u2:=by
    cases r1 with
    | cons p q =>
      cases q with
      | cons p' q' =>
        cases q'
        exact⟨_,_,rfl,p,p'⟩
  refine wpAny_newObj_type ?_ (by show 2≤sizeLine;decide)
  have I2:Inv X pins σ H1 { s1 with heap:=s1.heap.push { cls:=.type "tuple",data:=.seq [u1,u2].toArray } }:=I1.kept (t':=s1.toks) fun b o e=>Heap.get?_push_of_some _ e
  rw[hw]
  refine wpAny_bind (wpAny_pure ?_)
  show wpAny (model X.prog X.w) X.A (do rule "assign.swapped-stores";let items ← unpackItems (.ref s1.heap.objs.size) 2 none;assignInOrder [fun v=>bindName X.env y v,fun v=>bindName X.env x v] items.reverse;pure Flow.next) _ _ _
  refine wpAny_bind (wpAny_rule (wpAny_bind (unpackItems_tuple (items:=#[u1,u2]) (I.ok.hd hc) (IsTup.new s1.heap _) fun h' hx'=>?_)))
  have I3:=I2.kept (h':=h') (t':=s1.toks) fun b o e=>hx' b o (Nat.ne_of_lt (Heap.lt_size e)) e
  show wpAny _ _ (assignInOrder [fun v=>bindName X.env y v,fun v=>bindName X.env x v] [u2,u1] >>= fun _=>pure Flow.next) _ _ _
  refine wpAny_bind (assignInOrder_cons (wpAny_bindName (zaU I3 hN hj (.inl hy) rw' (fun s2 I4=>?_) (.inr hy))))
  refine assignInOrder_cons (wpAny_bindName (zaU I4 hN hi (.inl hx) rv (fun s3 I5=>assignInOrder_nil (wpAny_pure ?_)) (.inr hx)))
  rw[List.set_comm _ _ (Ne.symm hij)]at I5
  exact⟨_,H1,I5,q1⟩
def tAug (i:Nat) (te:TE) (ti:TIp):TS:=fun D σ H=>∃ x,σ[i]?=some (some x)∧te σ H fun y H1=>ti x y H1 fun z H2=>D.nx (σ.set i (some z)) H2
theorem zhQ {i:Nat}{x:Str}{e:Expr}{te:TE}{op:Operator}{ti:TIp}{pos':Pos}(hN:X.N.Nodup) (hi:X.N[i]?=some x) (hx:Loc X.env.scope x) (he:PE X e te) (ho:PIp X op ti) (hf:X.fn x=true∨X.env.scope.names.lookup x=some .local:=by first|exact .inl rfl|exact .inr rfl|assumption) :
    PS X (.AugAssign (.Name x pos') op e pos) (tAug i te ti):=by
  intro pins s σ H D I h
  obtain⟨v,e1,h⟩:=h
  obtain⟨m,hn,hl⟩:=I.loc
  have vis:Vis X.env.scope x:=by rcases hx with k|k;exact .inl k;exact .inr (.inl k)
  obtain⟨u,r,l⟩:=hl i x v hi e1 vis
  refine wpAny_AugAssign_Name ?_
  have go:wpAny (model X.prog X.w) X.A (eval e X.env) (fun w s₂=>wpAny (model X.prog X.w) X.A (inplaceOp op u w) (fun r s₃=>wpAny (model X.prog X.w) X.A (storeName X.env x r) (fun _=>SP X pins D .next) X.xe s₃) X.xe s₂) X.xe s:=by
    refine thn (he pins s σ H _ I h) fun w s1 ⟨y,H1,I1,r1,q1⟩=>?_
    refine thn (ho pins s1 σ H1 v y u w _ I1 r r1 q1) fun z s2 ⟨zv,H2,I2,r2,q2⟩=>?_
    exact zaU I2 hN hi hx r2 (fun s3 I3=>⟨_,H2,I3,q2⟩) hf
  rcases l with ⟨hk,hm⟩|⟨hk,c,hc,hcell⟩
  · exact wpAny_loadName_local I.ok.kind hk hn hm go
  · rcases hk with hk|hk
    · exact wpAny_loadName_cell I.ok.kind hk hc hcell go
    · rcases hx with k|k
      · have:X.env.scope.names.lookup x=some .free:=hk
        rw[k]at this;cases this
      · have:X.env.scope.names.lookup x=some .free:=hk
        rw[k]at this;cases this
def zkn (to ti te:TE) (tget:V→V→Hp→VK→Prop) (tip:TIp) (tset:TSet):TS:=fun D σ H=>to σ H fun o H1=>ti σ H1 fun i H2=>tget o i H2 fun x H3=>te σ H3 fun y H4=>tip x y H4 fun z H5=>tset o i z H5 fun H6=>D.nx σ H6
def PGet (X:Cx) (t:V→V→Hp→VK→Prop):Prop :=
  ∀ (pins:List (Addr × Obj)) (s:Shared) (σ:St) (H:Hp) (o i:V) (ov iv:Value) (Q:VK),Inv X pins σ H s→RelV o ov→RelV i iv→t o i H Q →
    wpAny (model X.prog X.w) X.A (getItem ov iv) (EP X pins σ Q) X.xe s
theorem zfL {o i e:Expr}{to ti te:TE}{tget:V→V→Hp→VK→Prop}{tip:TIp}{tset:TSet}{op:Operator}{tpos:Pos}(ho:PE X o to) (hi:PE X i ti) (hg:PGet X tget) (he:PE X e te) (hp:PIp X op tip) (hs:PSet X tset)
    (ha:∀ ov iv new,augStore i ov iv new=(do holding [new,ov,iv] (setItem ov iv new);release [new,ov,iv] [];pure .next):=by intros;rfl):PS X (.AugAssign (.Subscript o i tpos) op e pos) (zkn to ti te tget tip tset):=by
  intro pins s σ H D I h
  refine wpAny_AugAssign_SubscriptAny (thn (ho pins s σ H _ I h) fun ov s1 ⟨x1,H1,I1,r1,q1⟩=>?_) ha
  refine thn (hi pins s1 σ H1 _ I1 q1) fun iv s2 ⟨x2,H2,I2,r2,q2⟩=>?_
  refine thn (hg pins s2 σ H2 x1 x2 ov iv _ I2 r1 r2 q2) fun old s3 ⟨x3,H3,I3,r3,q3⟩=>?_
  refine thn (he pins s3 σ H3 _ I3 q3) fun v s4 ⟨x4,H4,I4,r4,q4⟩=>?_
  refine thn (hp pins s4 σ H4 x3 x4 old v _ I4 r3 r4 q4) fun new s5 ⟨x5,H5,I5,r5,q5⟩=>?_
  exact thn (hs pins s5 σ H5 x1 x2 x5 ov iv new _ I5 r1 r2 r5 q5) fun _ s6 ⟨H6,I6,q6⟩=>⟨σ,H6,I6,q6⟩
def ipI (f:Int→Int→Int):TIp:=fun x y H Q=>∃ i j,x=.int i∧y=.int j∧Q (.int (f i j)) H
theorem zgm:PIp X .Add (ipI fun i j=>i+j):=by
  intro pins s σ H x y v u Q I r1 r2 h
  obtain⟨i,j,e1,e2,q⟩:=h
  subst e1;subst e2
  obtain⟨t,rfl⟩:=r1
  obtain⟨t',rfl⟩:=r2
  exact iadd_int ⟨.int _,H,I.tok _,⟨_,rfl⟩,q⟩
end
section
variable {X:Cx}{pos:Pos}
def zjr (c:TT) (tb:TS):TS:=fun D σ H=>∃ W:Nat→St→Hp→Prop,(∃ m,W m σ H)∧∀ m σ H,W m σ H →
  c σ H fun b H1=>if b=true then ∃ N:St→Hp→Prop,(∀ σ' H',N σ' H'→∃ m',m'<m∧W m' σ' H')∧tb { D with nx:=N,ct:=N,bk:=D.nx } σ H1 else D.nx σ H1
theorem ps_while {c:Expr}{body:List Stmt}{tc:TT}{tb:TS}(hp:PassesOwn (model X.prog X.w) X.A X.env X.xe) (hc:PT X c tc) (hb:PSs X body tb):PS X (.While c body [] pos) (zjr tc tb):=by
  intro pins s σ H D I h
  obtain⟨W,⟨m0,w0⟩,turn⟩:=h
  refine wpAny_While (codeAny_whileLoop (fun n s'=>∃ σ' H',Inv X pins σ' H' s'∧W n σ' H') ?_ m0 ⟨σ,H,I,w0⟩)
  rintro n s1 ⟨σ1,H1,I1,w1⟩
  refine wpAny_passesOwn hp (thn (hc pins s1 σ1 H1 _ I1 (turn n σ1 H1 w1)) fun b s2 ⟨H2,I2,q2⟩=>?_)
  cases b with
  | true =>
    obtain⟨N,hN,q2⟩:=q2
    rw[if_pos rfl]
    refine wpAny_passesOwn hp (thn (hb pins s2 σ1 H2 _ I2 q2) fun f s3 q3=>?_)
    cases f with
    | next =>
      obtain⟨σ3,H3,I3,n3⟩:=q3
      obtain⟨m',hm,w3⟩:=hN σ3 H3 n3
      exact⟨m',hm,σ3,H3,I3,w3⟩
    | cont =>
      obtain⟨σ3,H3,I3,n3⟩:=q3
      obtain⟨m',hm,w3⟩:=hN σ3 H3 n3
      exact⟨m',hm,σ3,H3,I3,w3⟩
    | brk=>exact q3
    | ret v=>exact q3
  | false =>
    rw[if_neg Bool.false_ne_true]
    exact wpAny_execs_nil ⟨σ1,H2,I2,q2⟩
end
structure It where
  go:Nat→Hp→Prop
  yld:Nat→Hp→V→Hp→Prop
  stop:Nat→Hp→Prop
def FpOk (X:Cx) (pins:List (Addr × Obj)) (H:Hp) (b:Addr):Prop :=
  H b=none∧b≠X.env.locals∧b∉X.fs∧(b∈X.ex∨X.s₀.heap.objs.size≤b)∧(∀ x c,X.env.cells.lookup x=some c→c≠b)∧∀ p∈X.pn++pins,p.1≠b
theorem Inv.fpOk {X:Cx}{pins:List (Addr × Obj)}{σ:St}{H H':Hp}{s:Shared}{b:Addr}(I:Inv X pins σ H s) (hb:s.heap.objs.size≤b) (hn:H' b=none):FpOk X pins H' b:=by
  refine⟨hn,Nat.ne_of_gt (Nat.lt_of_lt_of_le I.lt hb),I.nofs hb,.inr (Nat.le_trans I.sz hb),fun x c e z=>?_,fun p hp z=>?_⟩
  · obtain⟨v,q⟩:=I.cell x c e
    exact absurd (Nat.lt_of_lt_of_le q.lt (by rw[z];exact hb)) (Nat.lt_irrefl _)
  · exact absurd (Nat.lt_of_lt_of_le (Heap.lt_size (I.pin p hp).1) (by rw[z];exact hb)) (Nat.lt_irrefl _)
structure Turn (P:Program) (w:World) (K:PySem.W.Frag) (tg:Expr) (J:It) (fp:List Addr) (it:Addr) (tn:Nat→Heap→Prop):Prop where
  mem:it∈fp
  obj:∀ i h,tn i h→∀ b∈fp,∃ o,h.get? b=some o∧∀ v,o.data≠.cell v
  keep:∀ i h h',tn i h→(∀ b∈fp,∀ o,h.get? b=some o→h'.get? b=some o)→tn i h'
  item:∀ (X:Cx),X.prog=P→X.w=w→X.K=K→X.calm=true→∀ (i:Nat) (pins:List (Addr × Obj)) (s:Shared) (σ:St) (H:Hp) (E:Value→Shared→Prop),Inv X pins σ H s→(∀ b∈fp,FpOk X pins H b)→tn i s.heap→J.go i H →
    wpAny (model P w) X.A (pyNext (.ref it)) (fun r s1=>∃ u,r=some u ∧
      wpAny (model P w) X.A (letOwnedTupleGo tg (.ref it) u) (fun _ s2=>∃ x H',Inv X pins σ H' s2∧RelV x u∧J.yld i H x H'∧tn (i+1) s2.heap∧∀ b∈fp,H' b=none) E s1) E s
  done:∀ (X:Cx),X.prog=P→X.w=w→X.K=K→X.calm=true→∀ (i:Nat) (pins:List (Addr × Obj)) (s:Shared) (σ:St) (H:Hp) (E:Value→Shared→Prop),Inv X pins σ H s→(∀ b∈fp,FpOk X pins H b)→tn i s.heap→J.stop i H →
    wpAny (model P w) X.A (pyNext (.ref it)) (fun r s1=>r=none∧Inv X pins σ H s1) E s
  self:∀ (A:Around) (i:Nat) (s:Shared) (Q:Value→Shared→Prop) (E:Value→Shared→Prop),tn i s.heap→Q (.ref it) s→wpAny (model P w) A (pyIter (.ref it)) Q E s
abbrev TI:=St→Hp→(It→Hp→Prop)→Prop
def PIE (X:Cx) (pins:List (Addr × Obj)) (σ:St) (tg:Expr) (R:It→Hp→Prop) (itv:Value) (s2:Shared):Prop :=
  ∃ (it:Addr) (fp:List Addr) (tn:Nat→Heap→Prop) (J:It) (H':Hp),itv=.ref it∧Inv X pins σ H' s2∧Turn X.prog X.w X.K tg J fp it tn∧tn 0 s2.heap∧(∀ b∈fp,FpOk X pins H' b)∧R J H'
def PI (X:Cx) (tg iter:Expr) (wi:TI):Prop :=
  ∀ (pins:List (Addr × Obj)) (s:Shared) (σ:St) (H:Hp) (R:It→Hp→Prop),Inv X pins σ H s→wi σ H R →
    wpAny (model X.prog X.w) X.A (eval iter X.env) (fun v s1=>wpAny (model X.prog X.w) X.A (pyIter v) (PIE X pins σ tg R) X.xe s1) X.xe s
theorem zgr {M:Model}{A:Around}{E:Value→Shared→Prop}{s:Shared}{tg:Expr}{it:Addr}{u:Value}{o:Obj}{n:String}{vs:Array Value}{Q:Unit→Shared→Prop}(ho:s.heap.get? it=some o) (hc:o.cls=.type n) (hd:o.data=.fields vs)
    (hn:["enumerate","zip","dict_itemiterator","dict_reverseitemiterator","odict_iterator","itertools.zip_longest","itertools.pairwise"].contains n=false) (hQ:Q () s):wpAny M A (letOwnedTupleGo tg (.ref it) u) Q E s:=by
  unfold letOwnedTupleGo
  cases tg<;>first
    | exact wpAny_pure hQ
    | (cases u<;>first
        | exact wpAny_pure hQ
        | (refine wpAny_bind (wpAny_load ho ?_)
           rw[hc,hd]
           show wpAny M A (if (["enumerate","zip","dict_itemiterator","dict_reverseitemiterator","odict_iterator","itertools.zip_longest","itertools.pairwise"].contains n && vs[0]? == some (rawInt _))=true then _ else _) Q E s
           rw[if_neg (by intro h;rw[hn,Bool.false_and]at h;cases h)]
           exact wpAny_pure hQ))
def Itl (K:PySem.W.Frag) (a:Addr):It :=
  ⟨fun i H=>∃ xs x,SqL K H a xs∧xs[i]?=some x,fun i H x H'=>H'=H∧∀ xs,SqL K H a xs→xs[i]?=some x,fun i H=>∃ xs,SqL K H a xs∧xs.length≤i⟩
def Itt (K:PySem.W.Frag) (a:Addr):It :=
  ⟨fun i H=>∃ xs x,SqT K H a xs∧xs[i]?=some x,fun i H x H'=>H'=H∧∀ xs,SqT K H a xs→xs[i]?=some x,fun i H=>∃ xs,SqT K H a xs∧xs.length≤i⟩
def Itr (lo:Int) (n:Nat):It:=⟨fun i _=>i<n,fun i H x H'=>H'=H∧x=.int (lo+i),fun i _=>n≤i⟩
theorem zfi {P:Program}{w:World}{K:PySem.W.Frag}{tg:Expr}(a it:Addr):Turn P w K tg (Itl K a) [it] it (fun i h=>h.IsListIter it a i) where
  mem:=by simp
  obj:=fun i h st b hb=>by
    have e:b=it:=by simpa using hb
    subst e
    obtain⟨o,e,c,d⟩:=st
    exact⟨o,e,fun v z=>by rw[d]at z;cases z⟩
  keep:=fun i h h' st k=>st.at fun o e=>k it (by simp) o e
  item:=by
    intro X hP hw hK hc i pins s σ H E I hf st hg
    subst hP hw hK
    obtain⟨xs,x,hq,hx⟩:=hg
    obtain⟨its,rv,p,hz⟩:=I.list hq
    obtain⟨u,hu,ru⟩:=rv.get hx
    obtain⟨f0,f1,f2,f3,f4,f5⟩:=hf it (by simp)
    refine wpAny_pyNext_list_item st p.isList (x:=u) (by simpa using hu) fun h' st' sb=>?_
    have I1:Inv X pins σ H { s with heap:=h' }:=I.turned (t':=s.toks) (fun b o hb e=>(sb.2 b hb).trans e) f0 f1 f3 f4 f5
    obtain⟨o,e,c,d⟩:=id st'
    exact⟨u,rfl,zgr (s:={ s with heap:=h' }) e c d (by decide) ⟨x,H,I1,ru,⟨rfl,fun ys hy=>by rw[I.list_inj hy hq];exact hx⟩,st',fun b hb=>(hf b hb).1⟩⟩
  done:=by
    intro X hP hw hK hc i pins s σ H E I hf st hg
    subst hP hw hK
    obtain⟨xs,hq,hx⟩:=hg
    obtain⟨its,rv,p,hz⟩:=I.list hq
    obtain⟨f0,f1,f2,f3,f4,f5⟩:=hf it (by simp)
    have hl:=rv.length
    exact wpAny_pyNext_list_end (I.ok.hd hc) st p.isList (by simp;omega) fun h' eb=>⟨rfl,I.turned (t':=s.toks) (fun b o hb e=>eb b o hb e) f0 f1 f3 f4 f5⟩
  self:=fun _ _ _ _ _ st h=>wpAny_pyIter_listiter st h
theorem zez {P:Program}{w:World}{K:PySem.W.Frag}{tg:Expr}(a it:Addr):Turn P w K tg (Itt K a) [it] it (fun i h=>h.IsTupleIter it a i) where
  mem:=by simp
  obj:=fun i h st b hb=>by
    have e:b=it:=by simpa using hb
    subst e
    obtain⟨o,e,c,d⟩:=st
    exact⟨o,e,fun v z=>by rw[d]at z;cases z⟩
  keep:=fun i h h' st k=>st.at fun o e=>k it (by simp) o e
  item:=by
    intro X hP hw hK hc i pins s σ H E I hf st hg
    subst hP hw hK
    obtain⟨xs,x,hq,hx⟩:=hg
    obtain⟨its,rv,p,hz⟩:=I.tuple hq
    obtain⟨u,hu,ru⟩:=rv.get hx
    obtain⟨f0,f1,f2,f3,f4,f5⟩:=hf it (by simp)
    refine wpAny_pyNext_tuple_item st (show s.heap.IsTuple a its.toArray from p) (x:=u) (by simpa using hu) fun h' st' sb=>?_
    have I1:Inv X pins σ H { s with heap:=h' }:=I.turned (t':=s.toks) (fun b o hb e=>(sb.2 b hb).trans e) f0 f1 f3 f4 f5
    obtain⟨o,e,c,d⟩:=id st'
    exact⟨u,rfl,zgr (s:={ s with heap:=h' }) e c d (by decide) ⟨x,H,I1,ru,⟨rfl,fun ys hy=>by rw[I.tuple_inj hy hq];exact hx⟩,st',fun b hb=>(hf b hb).1⟩⟩
  done:=by
    intro X hP hw hK hc i pins s σ H E I hf st hg
    subst hP hw hK
    obtain⟨xs,hq,hx⟩:=hg
    obtain⟨its,rv,p,hz⟩:=I.tuple hq
    obtain⟨f0,f1,f2,f3,f4,f5⟩:=hf it (by simp)
    have hl:=rv.length
    exact wpAny_pyNext_tuple_end (I.ok.hd hc) st (show s.heap.IsTuple a its.toArray from p) (by simp;omega) fun h' eb=>⟨rfl,I.turned (t':=s.toks) (fun b o hb e=>eb b o hb e) f0 f1 f3 f4 f5⟩
  self:=fun _ _ _ _ _ st h=>wpAny_pyIter_tupleiter st h
theorem zeA {P:Program}{w:World}{K:PySem.W.Frag}{tg:Expr}(it:Addr) (lo:Int) (n:Nat):Turn P w K tg (Itr lo n) [it] it (fun i h=>IsRangeIter h it (lo+(i:Nat)*1) ((n:Int)-(i:Nat)) 1) where
  mem:=by simp
  obj:=fun i h st b hb=>by
    have e:b=it:=by simpa using hb
    subst e
    exact⟨_,st,fun v z=>by
      have z':Data.fields _=Data.cell v:=z
      cases z'⟩
  keep:=fun i h h' st k=>k it (by simp) _ st
  item:=by
    intro X hP hw hK hc i pins s σ H E I hf st hg
    subst hP hw hK
    obtain⟨f0,f1,f2,f3,f4,f5⟩:=hf it (by simp)
    have W:=Walks.range (prog:=X.prog) (w:=X.w) (I.ok.hd hc) it lo 1 n
    refine W.item i s _ _ hg st fun v h' tk hv st' kk=>?_
    obtain⟨t,rfl⟩:=hv
    have I1:Inv X pins σ H { s with heap:=h',toks:=tk }:=I.turned (fun b o hb e=>kk b o (by simpa using hb) e) f0 f1 f3 f4 f5
    refine⟨_,rfl,zgr (s:={ s with heap:=h',toks:=tk }) (n:="range_iterator") st' rfl rfl (by decide) ⟨.int (lo+i),H,I1,⟨t,?_⟩,⟨rfl,rfl⟩,st',fun b hb=>(hf b hb).1⟩⟩
    rw[Int.mul_one]
  done:=by
    intro X hP hw hK hc i pins s σ H E I hf st hg
    subst hP hw hK
    obtain⟨f0,f1,f2,f3,f4,f5⟩:=hf it (by simp)
    exact wpAny_pyNext_range_end (I.ok.hd hc) st (by have:n≤i:=hg;omega) fun h' eb=>⟨rfl,I.turned (t':=s.toks) (fun b o hb e=>eb b o hb e) f0 f1 f3 f4 f5⟩
  self:=fun _ _ _ _ _ st h=>wpAny_pyIter_rangeiter st h
section
variable {X:Cx}{tg:Expr}
def zkH (K:PySem.W.Frag) (tl:TE):TI:=fun σ H R=>tl σ H fun x H1=>∃ a,x=.ref a∧(∃ xs,SqL K H1 a xs)∧R (Itl K a) H1
def iTup (K:PySem.W.Frag) (tl:TE):TI:=fun σ H R=>tl σ H fun x H1=>∃ a,x=.ref a∧(∃ xs,SqT K H1 a xs)∧R (Itt K a) H1
theorem pi_list {l:Expr}{tl:TE}(hl:PE X l tl):PI X tg l (zkH X.K tl):=by
  intro pins s σ H R I h
  refine thn (hl pins s σ H _ I h) fun v s1 ⟨x,H1,I1,r1,q1⟩=>?_
  obtain⟨a,e,⟨xs,hq⟩,q⟩:=q1
  subst e
  cases r1
  obtain⟨its,rv,p,hz⟩:=I1.list hq
  refine wpAny_pyIter_list p.isList ?_
  refine⟨s1.heap.objs.size,[s1.heap.objs.size],_,_,H1,rfl,I1.kept (t':=s1.toks) fun b o e=>Heap.get?_push_of_some _ e,zfi a _,⟨_,Heap.get?_push_size _ rfl,rfl,rfl⟩,fun b hb=>?_,q⟩
  have e:b=s1.heap.objs.size:=by simpa using hb
  subst e
  exact I1.fpOk (Nat.le_refl _) (I1.hok.fresh (Nat.le_refl _))
theorem zeg {l:Expr}{tl:TE}(hl:PE X l tl):PI X tg l (iTup X.K tl):=by
  intro pins s σ H R I h
  refine thn (hl pins s σ H _ I h) fun v s1 ⟨x,H1,I1,r1,q1⟩=>?_
  obtain⟨a,e,⟨xs,hq⟩,q⟩:=q1
  subst e
  cases r1
  obtain⟨its,rv,p,hz⟩:=I1.tuple hq
  refine wpAny_pyIter_tuple (show s1.heap.IsTuple a its.toArray from p) ?_
  refine⟨s1.heap.objs.size,[s1.heap.objs.size],_,_,H1,rfl,I1.kept (t':=s1.toks) fun b o e=>Heap.get?_push_of_some _ e,zez a _,⟨_,Heap.get?_push_size _ rfl,rfl,rfl⟩,fun b hb=>?_,q⟩
  have e:b=s1.heap.objs.size:=by simpa using hb
  subst e
  exact I1.fpOk (Nat.le_refl _) (I1.hok.fresh (Nat.le_refl _))
theorem zec {pins:List (Addr × Obj)}{σ:St}{H:Hp}{s:Shared}{R:It→Hp→Prop}{E:Value→Shared→Prop}{lo hi:Int}{t u v:Tok}{tk:Nat}(I:Inv X pins σ H s) (h1:-(2 ^ 62)≤lo) (h2:lo<2 ^ 62) (h3:-(2 ^ 62)≤hi) (h4:hi<2 ^ 62)
    (q:R (Itr lo (hi-lo).toNat) H):wpAny (model X.prog X.w) X.A (pyIter (.ref s.heap.objs.size)) (PIE X pins σ tg R) E { s with heap:=s.heap.push { cls:=.type "range",data:=.fields #[.int lo t,.int hi u,.int 1 v] },toks:=tk }:=by
  refine wpAny_pyIter_range (IsRange.new ..) (small_one h1 h2 h3 h4) ?_
  have I1:Inv X pins σ H { s with heap:=s.heap.push { cls:=.type "range",data:=.fields #[.int lo t,.int hi u,.int 1 v] },toks:=tk }:=I.kept fun b o e=>Heap.get?_push_of_some _ e
  refine⟨(s.heap.push { cls:=.type "range",data:=.fields #[.int lo t,.int hi u,.int 1 v] }).objs.size,[(s.heap.push { cls:=.type "range",data:=.fields #[.int lo t,.int hi u,.int 1 v] }).objs.size],_,_,H,rfl,
    I1.kept (t':=tk) fun b o e=>Heap.get?_push_of_some _ e,zeA _ lo (hi-lo).toNat,?_,fun b hb=>?_,q⟩
  · have e1:lo+((0:Nat):Int)*1=lo:=by simp
    have e2:(((hi-lo).toNat:Nat):Int)-((0:Nat):Int)=Builtin.Range.rangeSize lo hi 1:=by rw[rangeSize_one];split<;>omega
    show IsRangeIter _ _ (lo+((0:Nat):Int)*1) ((((hi-lo).toNat:Nat):Int)-((0:Nat):Int)) 1
    rw[e1,e2]
    exact Heap.get?_push_size _ rfl
  · have e:b=(s.heap.push { cls:=.type "range",data:=.fields #[.int lo t,.int hi u,.int 1 v] }).objs.size:=by simpa using hb
    subst e
    exact I1.fpOk (Nat.le_refl _) (I1.hok.fresh (Nat.le_refl _))
def zkG (ta:TA):TI:=fun σ H R=>ta σ H fun vs H1=>∃ j:Int,vs=[.int j]∧-(2 ^ 62)≤j∧j<2 ^ 62∧R (Itr 0 j.toNat) H1
def zkF (ta:TA):TI:=fun σ H R=>ta σ H fun vs H1=>∃ i j:Int,vs=[.int i,.int j]∧(-(2 ^ 62)≤i∧i<2 ^ 62∧-(2 ^ 62)≤j∧j<2 ^ 62)∧R (Itr i (j-i).toNat) H1
theorem zat {a:Expr}{ta:TA}{p pos:Pos}(hg:Gl X "range") (hm:X.mg "range" = none) (ha:PA X [a] ta) (hs:starEach [a] X.env=[(false,eval a X.env)]:=by rfl):PI X tg (.Call (.Name "range" p) [a] [] pos) (zkG ta):=by
  intro pins s σ H R I h
  refine Call_ (zaD I hg hm boot_range (PyProof.Rows.callWith_type1 (thn (ha pos pins s σ H _ I h) fun us s1 ⟨vs,H1,I1,r1,q1⟩=>?_) hs rfl))
  obtain⟨j,e,q1,q2,q⟩:=q1
  subst e
  cases r1 with
  | cons r rr =>
    cases rr
    obtain⟨t,rfl⟩:=r
    exact call_range_1 (zec I1 (by omega) (by omega) q1 q2 (by simpa using q))
theorem zfP {a b:Expr}{ta:TA}{p pos:Pos}(hg:Gl X "range") (hm:X.mg "range" = none) (ha:PA X [a,b] ta) (hs:starEach [a,b] X.env=[(false,eval a X.env),(false,eval b X.env)]:=by rfl) (hs2:starEach [b] X.env=[(false,eval b X.env)]:=by rfl) :
    PI X tg (.Call (.Name "range" p) [a,b] [] pos) (zkF ta):=by
  intro pins s σ H R I h
  refine Call_ (zaD I hg hm boot_range (PyProof.Rows.callWith_type1 (thn (ha pos pins s σ H _ I h) fun us s1 ⟨vs,H1,I1,r1,q1⟩=>?_) (by rw[hs,hs2]) (by rw[hs2];rfl)))
  obtain⟨i,j,e,⟨q1,q2,q3,q4⟩,q⟩:=q1
  subst e
  cases r1 with
  | cons r rr =>
    cases rr with
    | cons r' rr =>
      cases rr
      obtain⟨t,rfl⟩:=r
      obtain⟨t',rfl⟩:=r'
      exact call_range_2 (zec I1 q1 q2 q3 q4 q)
def tFor (wi:TI) (g:TG) (tb:TS):TS:=fun D σ H=>wi σ H fun J H1=>∃ W:Nat→Nat→St→Hp→Prop,(∃ m,W 0 m σ H1)∧∀ i m σ H,W i m σ H →
  (J.stop i H∧D.nx σ H)∨(J.go i H∧∃ N:St→Hp→Prop,(∀ σ' H',N σ' H'→∃ m',m'<m∧W (i+1) m' σ' H')∧∀ x H',J.yld i H x H'→g x σ H' fun σ2 H2=>tb { D with nx:=N,ct:=N,bk:=D.nx } σ2 H2)
def zbj (fp:List Addr) (h:Heap):List (Addr × Obj):=fp.filterMap fun b=>(h.get? b).map fun o=>(b,o)
theorem zap {fp:List Addr}{h:Heap}{b:Addr}{o:Obj}(hb:b∈fp) (e:h.get? b=some o):(b,o)∈zbj fp h:=List.mem_filterMap.mpr ⟨b,hb,by rw[e];rfl⟩
theorem zfZ {fp:List Addr}{h:Heap}{p:Addr × Obj}(hp:p∈zbj fp h):p.1∈fp∧h.get? p.1=some p.2:=by
  obtain⟨b,hb,e⟩:=List.mem_filterMap.mp hp
  cases q:h.get? b with
  | none=>rw[q]at e;cases e
  | some o =>
    rw[q]at e
    have e':(b,o)=p:=Option.some.inj e
    subst e'
    exact⟨hb,q⟩
theorem Inv.pinned {pins:List (Addr × Obj)}{σ:St}{H:Hp}{s:Shared}{fp:List Addr}(I:Inv X pins σ H s) (hf:∀ b∈fp,FpOk X pins H b) (ho:∀ b∈fp,∃ o,s.heap.get? b=some o∧∀ v,o.data≠.cell v):Inv X (pins++zbj fp s.heap) σ H s :=
  I.pins_of fun p hp=>(List.mem_append.mp hp).elim (fun z=>I.pin p (List.mem_append_right _ z)) fun z=>by
    obtain⟨hb,e⟩:=zfZ z
    obtain⟨f0,f1,f2,_⟩:=hf p.1 hb
    obtain⟨o,e',d⟩:=ho p.1 hb
    rw[e]at e';cases e'
    exact⟨e,f0,f1,f2,d⟩
theorem Inv.unpinned {pins pl:List (Addr × Obj)}{σ:St}{H:Hp}{s:Shared}(I:Inv X (pins++pl) σ H s):Inv X pins σ H s:=I.pins_of fun p hp=>I.pin p (List.mem_append_right _ (List.mem_append_left _ hp))
theorem ps_for {iter:Expr}{body:List Stmt}{wi:TI}{g:TG}{tb:TS}{pos:Pos}(hp:PassesOwn (model X.prog X.w) X.A X.env X.xe) (hc:X.calm=true) (hi:PI X tg iter wi) (hg:PG X tg g) (hb:PSs X body tb)
    (hs:∀ x,foldedSetIterable iter X.env x=pure x:=by intro _;rfl):PS X (.For tg iter body [] pos) (tFor wi g tb):=by
  intro pins s σ H D I h
  refine wpAny_For (thn (hi pins s σ H _ I h) fun v s1 h1=>thn h1 fun itv s2 h2=>?_) hs
  obtain⟨it,fp,tn,J,H2,e,I2,T,st2,f2,W,⟨m0,w0⟩,turn⟩:=h2
  subst e
  have stat:∀ {H':Hp},(∀ b∈fp,H' b=none)→∀ b∈fp,FpOk X pins H' b:=fun hn b hb=>⟨hn b hb,(f2 b hb).2⟩
  refine codeAny_forLoop_any (fun n s'=>∃ i σ' H',Inv X pins σ' H' s'∧tn i s'.heap∧(∀ b∈fp,H' b=none)∧W i n σ' H') ?_ m0 ⟨0,σ,H2,I2,st2,fun b hb=>(f2 b hb).1,w0⟩
  rintro n s3 ⟨i,σ3,H3,I3,st3,fr3,w3⟩
  rcases turn i n σ3 H3 w3 with ⟨stop,qn⟩|⟨go,N,hN,step⟩
  · refine wpAny_passesOwn hp (thn (T.done X rfl rfl rfl hc i pins s3 σ3 H3 X.xe I3 (stat fr3) st3 stop) fun r s4 ⟨hr,I4⟩=>?_)
    subst hr
    exact wpAny_execs_nil ⟨σ3,H3,I4,qn⟩
  · refine wpAny_passesOwn hp (thn (T.item X rfl rfl rfl hc i pins s3 σ3 H3 X.xe I3 (stat fr3) st3 go) fun r s4 ⟨u,hr,h4⟩=>?_)
    subst hr
    refine wpAny_passesOwn hp (thn h4 fun _ s5 ⟨x,H5,I5,r5,y5,st5,fr5⟩=>?_)
    have I5':=I5.pinned (stat fr5) (T.obj _ _ st5)
    refine wpAny_passesOwn hp (thn (hg _ s5 σ3 H5 x u _ I5' r5 (step x H5 y5)) fun _ s6 ⟨σ6,H6,I6,q6⟩=>?_)
    refine wpAny_passesOwn hp (thn (hb _ s6 σ6 H6 _ I6 q6) fun f s7 q7=>?_)
    have again:∀ {σ7:St}{H7:Hp},Inv X (pins++zbj fp s5.heap) σ7 H7 s7→N σ7 H7→∃ m,m<n∧∃ i σ' H',Inv X pins σ' H' s7∧tn i s7.heap∧(∀ b∈fp,H' b=none)∧W i m σ' H':=fun {σ7 H7} I7 n7=>by
      obtain⟨m',hm,w7⟩:=hN σ7 H7 n7
      refine⟨m',hm,i+1,σ7,H7,I7.unpinned,T.keep _ _ _ st5 fun b hb o e=>(I7.pin (b,o) (List.mem_append_right _ (List.mem_append_right _ (zap hb e)))).1,fun b hb=>?_,w7⟩
      obtain⟨o,e,d⟩:=T.obj _ _ st5 b hb
      exact(I7.pin (b,o) (List.mem_append_right _ (List.mem_append_right _ (zap hb e)))).2.1
    cases f with
    | next=>obtain⟨σ7,H7,I7,n7⟩:=q7;exact again I7 n7
    | cont=>obtain⟨σ7,H7,I7,n7⟩:=q7;exact again I7 n7
    | brk=>obtain⟨σ7,H7,I7,q7⟩:=q7;exact⟨σ7,H7,I7.unpinned,q7⟩
    | ret v=>obtain⟨x7,σ7,H7,I7,r7,q7⟩:=q7;exact⟨x7,σ7,H7,I7.unpinned,r7,q7⟩
end
theorem zhy {K:PySem.W.Frag}{a:Addr}{xs:List V}{g:TG}{tb:TS}{D:Ends}{σ:St}{H:Hp}(Pv:Nat→St→Hp→Prop) (h0:Pv 0 σ H) (hl:∀ i σ H,i≤xs.length→Pv i σ H→SqL K H a xs)
    (hs:∀ i x σ H,xs[i]?=some x→Pv i σ H→g x σ H fun σ2 H2=>tb { D with nx:=Pv (i+1),ct:=Pv (i+1),bk:=D.nx } σ2 H2) (hd:∀ σ H,Pv xs.length σ H→D.nx σ H) :
    ∃ W:Nat→Nat→St→Hp→Prop,(∃ m,W 0 m σ H)∧∀ i m σ H,W i m σ H →
      ((Itl K a).stop i H∧D.nx σ H)∨((Itl K a).go i H∧∃ N:St→Hp→Prop,(∀ σ' H',N σ' H'→∃ m',m'<m∧W (i+1) m' σ' H')∧∀ x H',(Itl K a).yld i H x H'→g x σ H' fun σ2 H2=>tb { D with nx:=N,ct:=N,bk:=D.nx } σ2 H2):=by
  refine⟨fun i m σ H=>m=xs.length-i∧i≤xs.length∧Pv i σ H,⟨xs.length,by simp,Nat.zero_le _,h0⟩,?_⟩
  rintro i m σ H ⟨rfl,hi,p⟩
  have q:=hl i σ H hi p
  by_cases hlt:i<xs.length
  · refine .inr ⟨⟨xs,xs[i],q,by simp[hlt]⟩,Pv (i+1),fun σ' H' p'=>⟨xs.length-(i+1),by omega,rfl,hlt,p'⟩,fun x H' y=>?_⟩
    obtain⟨e,y⟩:=y
    subst e
    exact hs i x σ _ (y xs q) p
  · have e:i=xs.length:=by omega
    subst e
    exact .inl ⟨⟨xs,q,Nat.le_refl _⟩,hd σ H p⟩
theorem zdV {K:PySem.W.Frag}{a:Addr}{xs:List V}{g:TG}{tb:TS}{D:Ends}{σ:St}{H:Hp}(Pv:Nat→St→Hp→Prop) (h0:Pv 0 σ H) (hl:∀ i σ H,i≤xs.length→Pv i σ H→SqT K H a xs)
    (hs:∀ i x σ H,xs[i]?=some x→Pv i σ H→g x σ H fun σ2 H2=>tb { D with nx:=Pv (i+1),ct:=Pv (i+1),bk:=D.nx } σ2 H2) (hd:∀ σ H,Pv xs.length σ H→D.nx σ H) :
    ∃ W:Nat→Nat→St→Hp→Prop,(∃ m,W 0 m σ H)∧∀ i m σ H,W i m σ H →
      ((Itt K a).stop i H∧D.nx σ H)∨((Itt K a).go i H∧∃ N:St→Hp→Prop,(∀ σ' H',N σ' H'→∃ m',m'<m∧W (i+1) m' σ' H')∧∀ x H',(Itt K a).yld i H x H'→g x σ H' fun σ2 H2=>tb { D with nx:=N,ct:=N,bk:=D.nx } σ2 H2):=by
  refine⟨fun i m σ H=>m=xs.length-i∧i≤xs.length∧Pv i σ H,⟨xs.length,by simp,Nat.zero_le _,h0⟩,?_⟩
  rintro i m σ H ⟨rfl,hi,p⟩
  have q:=hl i σ H hi p
  by_cases hlt:i<xs.length
  · refine .inr ⟨⟨xs,xs[i],q,by simp[hlt]⟩,Pv (i+1),fun σ' H' p'=>⟨xs.length-(i+1),by omega,rfl,hlt,p'⟩,fun x H' y=>?_⟩
    obtain⟨e,y⟩:=y
    subst e
    exact hs i x σ _ (y xs q) p
  · have e:i=xs.length:=by omega
    subst e
    exact .inl ⟨⟨xs,q,Nat.le_refl _⟩,hd σ H p⟩
theorem zaw {lo:Int}{n:Nat}{g:TG}{tb:TS}{D:Ends}{σ:St}{H:Hp}(Pv:Nat→St→Hp→Prop) (h0:Pv 0 σ H)
    (hs:∀ i σ H,i<n→Pv i σ H→g (.int (lo+i)) σ H fun σ2 H2=>tb { D with nx:=Pv (i+1),ct:=Pv (i+1),bk:=D.nx } σ2 H2) (hd:∀ σ H,Pv n σ H→D.nx σ H) :
    ∃ W:Nat→Nat→St→Hp→Prop,(∃ m,W 0 m σ H)∧∀ i m σ H,W i m σ H →
      ((Itr lo n).stop i H∧D.nx σ H)∨((Itr lo n).go i H∧∃ N:St→Hp→Prop,(∀ σ' H',N σ' H'→∃ m',m'<m∧W (i+1) m' σ' H')∧∀ x H',(Itr lo n).yld i H x H'→g x σ H' fun σ2 H2=>tb { D with nx:=N,ct:=N,bk:=D.nx } σ2 H2):=by
  refine⟨fun i m σ H=>m=n-i∧i≤n∧Pv i σ H,⟨n,by simp,Nat.zero_le _,h0⟩,?_⟩
  rintro i m σ H ⟨rfl,hi,p⟩
  by_cases hlt:i<n
  · refine .inr ⟨hlt,Pv (i+1),fun σ' H' p'=>⟨n-(i+1),by omega,rfl,hlt,p'⟩,fun x H' y=>?_⟩
    obtain⟨e,y⟩:=y
    subst e y
    exact hs i σ _ hlt p
  · have e:i=n:=by omega
    subst e
    exact .inl ⟨Nat.le_refl _,hd σ H p⟩
abbrev R2:=V→V→Hp→VK→Prop
def OpR (X:Cx) (f:Value→Value→Sem Value) (r:R2):Prop :=
  ∀ (pins:List (Addr × Obj)) (s:Shared) (σ:St) (H:Hp) (x y:V) (v u:Value) (Q:VK),Inv X pins σ H s→RelV x v→RelV y u→r x y H Q →
    wpAny (model X.prog X.w) X.A (f v u) (EP X pins σ Q) X.xe s
def UnR (X:Cx) (f:Value→Sem Value) (r:V→Hp→VK→Prop):Prop :=
  ∀ (pins:List (Addr × Obj)) (s:Shared) (σ:St) (H:Hp) (x:V) (v:Value) (Q:VK),Inv X pins σ H s→RelV x v→r x H Q →
    wpAny (model X.prog X.w) X.A (f v) (EP X pins σ Q) X.xe s
def CallR (X:Cx) (f:Value) (r:List V→Hp→VK→Prop):Prop :=
  ∀ (pins:List (Addr × Obj)) (s:Shared) (σ:St) (H:Hp) (xs:List V) (us:List Value) (Q:VK),Inv X pins σ H s→Vals xs us→r xs H Q →
    wpAny (model X.prog X.w) X.A (call f us) (EP X pins σ Q) X.xe s
def TruR (X:Cx) (r:V→Hp→(Bool→Hp→Prop)→Prop):Prop :=
  ∀ (pins:List (Addr × Obj)) (s:Shared) (σ:St) (H:Hp) (x:V) (v:Value) (Q:Bool→Hp→Prop),Inv X pins σ H s→RelV x v→r x H Q →
    wpAny (model X.prog X.w) X.A (truthy v) (TP X pins σ Q) X.xe s
def tOp (r:R2) (ta tb:TE):TE:=fun σ H Q=>ta σ H fun x H1=>tb σ H1 fun y H2=>r x y H2 Q
def tUn (r:V→Hp→VK→Prop) (ta:TE):TE:=fun σ H Q=>ta σ H fun x H1=>r x H1 Q
def rI (C:Int→Int→Prop) (g:Int→Int→V):R2:=fun x y H Q=>∃ i j,x=.int i∧y=.int j∧C i j∧Q (g i j) H
def rI0 (g:Int→Int→V):R2:=fun x y H Q=>∃ i j,x=.int i∧y=.int j∧Q (g i j) H
def rU (g:Int→V):V→Hp→VK→Prop:=fun x H Q=>∃ i,x=.int i∧Q (g i) H
section
variable {X:Cx}{a b c:Expr}{ta tb tc:TE}{pos:Pos}
theorem binT (ha:PE X a ta) (hb:PE X b tb) {pins:List (Addr × Obj)}{s:Shared}{σ:St}{H:Hp}{R:V→V→Hp→Prop}(I:Inv X pins σ H s)
    (h:ta σ H fun x H1=>tb σ H1 fun y H2=>R x y H2) {Q:Value→Shared→Prop}{f:Value→Value→Sem Value}
    (hf:∀ v u s2 x y H2,Inv X pins σ H2 s2→RelV x v→RelV y u→R x y H2→wpAny (model X.prog X.w) X.A (f v u) Q X.xe s2) :
    wpAny (model X.prog X.w) X.A (eval a X.env) (fun v s₁=>wpAny (model X.prog X.w) X.A (eval b X.env) (fun u s₂=>wpAny (model X.prog X.w) X.A (f v u) Q X.xe s₂) X.xe s₁) X.xe s:=by
  refine thn (ha pins s σ H _ I h) fun v s1 ⟨x,H1,I1,r1,q1⟩=>?_
  refine thn (hb pins s1 σ H1 _ I1 q1) fun u s2 ⟨y,H2,I2,r2,q2⟩=>?_
  exact hf v u s2 x y H2 I2 r1 r2 q2
theorem pe_op {op:Operator}{r:R2}(ho:OpR X (binaryOp op) r) (ha:PE X a ta) (hb:PE X b tb):PE X (.BinOp a op b pos) (tOp r ta tb):=by
  intro pins s σ H Q I h
  exact wpAny_BinOp (binT ha hb I h fun v u s2 x y H2 I2 rx ry q=>ho pins s2 σ H2 x y v u Q I2 rx ry q)
theorem zjI {op:UnaryOp}{r:V→Hp→VK→Prop}(ho:UnR X (unaryOp op) r) (ha:PE X a ta):PE X (.UnaryOp op a pos) (tUn r ta):=by
  intro pins s σ H Q I h
  exact UnaryOp_ (thn (ha pins s σ H _ I h) fun v s1 ⟨x,H1,I1,r1,q1⟩=>ho pins s1 σ H1 x v Q I1 r1 q1)
theorem opI {f:Value→Value→Sem Value}{C:Int→Int→Prop}{g:Int→Int→Int}
    (rule:∀ (i j:Int) (t u:Tok) (s:Shared) (Q:Value→Shared→Prop) (E:Value→Shared→Prop),C i j→Q (.int (g i j) s.toks) { s with toks:=s.toks+1 }→wpAny (model X.prog X.w) X.A (f (.int i t) (.int j u)) Q E s) :
    OpR X f (rI C fun i j=>.int (g i j)):=by
  intro pins s σ H x y v u Q I rx ry h
  obtain⟨i,j,rfl,rfl,hc,q⟩:=h
  obtain⟨t,rfl⟩:=rx
  obtain⟨t',rfl⟩:=ry
  exact rule i j t t' s _ _ hc ⟨.int (g i j),H,I.tok _,⟨_,rfl⟩,q⟩
theorem opI0 {f:Value→Value→Sem Value}{g:Int→Int→Int}
    (rule:∀ (i j:Int) (t u:Tok) (s:Shared) (Q:Value→Shared→Prop) (E:Value→Shared→Prop),Q (.int (g i j) s.toks) { s with toks:=s.toks+1 }→wpAny (model X.prog X.w) X.A (f (.int i t) (.int j u)) Q E s) :
    OpR X f (rI0 fun i j=>.int (g i j)):=by
  intro pins s σ H x y v u Q I rx ry h
  obtain⟨i,j,rfl,rfl,q⟩:=h
  obtain⟨t,rfl⟩:=rx
  obtain⟨t',rfl⟩:=ry
  exact rule i j t t' s _ _ ⟨.int (g i j),H,I.tok _,⟨_,rfl⟩,q⟩
theorem opB0 {f:Value→Value→Sem Value}{g:Int→Int→Bool}
    (rule:∀ (i j:Int) (t u:Tok) (s:Shared) (Q:Value→Shared→Prop) (E:Value→Shared→Prop),Q (.bool (g i j)) s→wpAny (model X.prog X.w) X.A (f (.int i t) (.int j u)) Q E s) :
    OpR X f (rI0 fun i j=>.bl (g i j)):=by
  intro pins s σ H x y v u Q I rx ry h
  obtain⟨i,j,rfl,rfl,q⟩:=h
  obtain⟨t,rfl⟩:=rx
  obtain⟨t',rfl⟩:=ry
  exact rule i j t t' s _ _ ⟨.bl (g i j),H,I,rfl,q⟩
def CDiv (i j:Int):Prop:=0<j∧j<1073741824
def CPow (i j:Int):Prop:=0≤j∧j≤1000000∧i.natAbs<2 ^ 64
def CMul (i j:Int):Prop:=(-(2 ^ 64)<i∧i<2 ^ 64)∨(-(2 ^ 64)<j∧j<2 ^ 64)
theorem CMul.ok {i j:Int}(h:CMul i j):IntMulOk i j:=by
  rcases h with ⟨h1,h2⟩|⟨h1,h2⟩
  · exact .of_left (intBits_le_64 h1 h2)
  · exact .of_right (intBits_le_64 h1 h2)
theorem op_add:OpR X (binaryOp .Add) (rI0 fun i j=>.int (i+j)):=opI0 fun _ _ _ _ _ _ _ q=>add_int q
theorem op_sub:OpR X (binaryOp .Sub) (rI0 fun i j=>.int (i-j)):=opI0 fun _ _ _ _ _ _ _ q=>sub_int q
theorem op_mul:OpR X (binaryOp .Mult) (rI CMul fun i j=>.int (i*j)):=opI fun _ _ _ _ _ _ _ hc q=>mul_int q hc.ok
theorem zdG:OpR X (binaryOp .FloorDiv) (rI CDiv fun i j=>.int (i / j)):=opI fun i j _ _ _ _ _ hc q=>by
  have h1:(0:Int)<j:=hc.1
  have h2:j<1073741824:=hc.2
  exact floordiv_int (by omega) (by rw[Int.fdiv_eq_ediv_of_nonneg i (by omega)];exact q) (.inl (PyProof.noPylong_small (by omega)))
theorem op_mod:OpR X (binaryOp .Mod) (rI (fun _ j=>0<j) fun i j=>.int (i%j)):=opI fun i j _ _ _ _ _ hc q=>by
  have h1:(0:Int)<j:=hc
  exact mod_int' (by omega) (by rw[Int.fmod_eq_emod_of_nonneg i (by omega)];exact q)
theorem zhV:OpR X (binaryOp .Pow) (rI CPow fun i j=>.int (i ^ j.toNat)):=opI fun _ _ _ _ _ _ _ hc q=>pow_int_small hc.1 hc.2.1 hc.2.2 q
theorem zi6:OpR X (inplaceOp .Mult) (rI CMul fun i j=>.int (i*j)):=opI fun _ _ _ _ _ _ _ hc q=>imul_int q hc.ok
theorem unI {f:Value→Sem Value}{g:Int→Int}
    (rule:∀ (i:Int) (t:Tok) (s:Shared) (Q:Value→Shared→Prop) (E:Value→Shared→Prop),Q (.int (g i) s.toks) { s with toks:=s.toks+1 }→wpAny (model X.prog X.w) X.A (f (.int i t)) Q E s) :
    UnR X f (rU fun i=>.int (g i)):=by
  intro pins s σ H x v Q I rx h
  obtain⟨i,rfl,q⟩:=h
  obtain⟨t,rfl⟩:=rx
  exact rule i t s _ _ ⟨.int (g i),H,I.tok _,⟨_,rfl⟩,q⟩
theorem zhJ:UnR X (unaryOp .USub) (rU fun i=>.int (-i)):=unI fun _ _ _ _ _ q=>neg_int q
end
def scal:V→V→Bool
  | .non,.non=>true|.non,.int _=>true|.int _,.non=>true|.non,.bl _=>true|.bl _,.non=>true|.non,.str _=>true|.str _,.non=>true
  | .int _,.int _=>true|.bl _,.bl _=>true|.str _,.str _=>true|.byt _,.byt _=>true
  | .int _,.str _=>true|.str _,.int _=>true|.bl _,.str _=>true|.str _,.bl _=>true
  | _,_=>false
def rEq:R2:=fun x y H Q=>scal x y=true∧Q (.bl (decide (x=y))) H
def rNe:R2:=fun x y H Q=>scal x y=true∧Q (.bl (!decide (x=y))) H
theorem zgy {i j:Int}:decide (V.int i=V.int j)=(i == j):=by
  rw[Bool.eq_iff_iff]
  simp
theorem zh3 {i j:Bool}:decide (V.bl i=V.bl j)=(i == j):=by
  rw[Bool.eq_iff_iff]
  simp
theorem zgx {i j:Str}:decide (V.str i=V.str j)=(i == j):=by
  rw[Bool.eq_iff_iff]
  simp
theorem zgz {i j:Array UInt8}:decide (V.byt i=V.byt j)=(i.toList == j.toList):=by
  rw[Bool.eq_iff_iff]
  cases i
  cases j
  simp
section
variable {X:Cx}{a b c:Expr}{ta tb tc:TE}{pos:Pos}
theorem zaj {pins:List (Addr × Obj)}{σ:St}{H:Hp}{s:Shared}{Q:VK}{k k':Bool}(I:Inv X pins σ H s) (q:Q (.bl k) H) (e:k=k'):EP X pins σ Q (.bool k') s:=by
  subst e
  exact⟨.bl k,H,I,rfl,q⟩
theorem op_eq:OpR X (compareOp .Eq) rEq:=by
  intro pins s σ H x y v u Q I rx ry h
  obtain⟨hs,q⟩:=h
  cases x with
  | non =>
    cases rx
    cases y with
    | non=>cases ry;exact PySem.EqNone.eq_none_none (zaj I q (by simp))
    | bl j=>cases ry;exact PySem.EqNone.eq_none_bool (zaj I q (by simp))
    | int j=>obtain⟨t',rfl⟩:=ry;exact PySem.EqNone.eq_none_int (zaj I q (by simp))
    | str j=>obtain⟨t',rfl⟩:=ry;exact PySem.EqNone.eq_none_str (zaj I q (by simp))
    | _=>exact absurd (show false=true from hs) Bool.false_ne_true
  | bl i =>
    cases rx
    cases y with
    | non=>cases ry;exact PySem.EqNone.eq_bool_none (zaj I q (by simp))
    | bl j=>cases ry;exact eq_bool (zaj I q zh3)
    | str j=>obtain⟨t',rfl⟩:=ry;exact PySem.EqMixed.eq_bool_str (zaj I q (by simp))
    | _=>exact absurd (show false=true from hs) Bool.false_ne_true
  | int i =>
    obtain⟨t,rfl⟩:=rx
    cases y with
    | non=>cases ry;exact PySem.EqNone.eq_int_none (zaj I q (by simp))
    | int j=>obtain⟨t',rfl⟩:=ry;exact eq_int (zaj I q zgy)
    | str j=>obtain⟨t',rfl⟩:=ry;exact PySem.EqMixed.eq_int_str (zaj I q (by simp))
    | _=>exact absurd (show false=true from hs) Bool.false_ne_true
  | str i =>
    obtain⟨t,rfl⟩:=rx
    cases y with
    | non=>cases ry;exact PySem.EqNone.eq_str_none (zaj I q (by simp))
    | bl j=>cases ry;exact PySem.EqMixed.eq_str_bool (zaj I q (by simp))
    | int j=>obtain⟨t',rfl⟩:=ry;exact PySem.EqMixed.eq_str_int (zaj I q (by simp))
    | str j=>obtain⟨t',rfl⟩:=ry;exact eq_str (zaj I q zgx)
    | _=>exact absurd (show false=true from hs) Bool.false_ne_true
  | byt i =>
    obtain⟨t,rfl⟩:=rx
    cases y with
    | byt j=>obtain⟨t',rfl⟩:=ry;exact PySem.W.eq_bytes (zaj I q zgz)
    | _=>exact absurd (show false=true from hs) Bool.false_ne_true
  | _=>cases y<;>exact absurd (show false=true from hs) Bool.false_ne_true
theorem op_ne:OpR X (compareOp .NotEq) rNe:=by
  intro pins s σ H x y v u Q I rx ry h
  obtain⟨hs,q⟩:=h
  cases x with
  | non =>
    cases rx
    cases y with
    | non=>cases ry;exact PySem.EqNone.ne_none_none (zaj I q (by simp))
    | bl j=>cases ry;exact PySem.EqNone.ne_none_bool (zaj I q (by simp))
    | int j=>obtain⟨t',rfl⟩:=ry;exact PySem.EqNone.ne_none_int (zaj I q (by simp))
    | str j=>obtain⟨t',rfl⟩:=ry;exact PySem.EqNone.ne_none_str (zaj I q (by simp))
    | _=>exact absurd (show false=true from hs) Bool.false_ne_true
  | bl i =>
    cases rx
    cases y with
    | non=>cases ry;exact PySem.EqNone.ne_bool_none (zaj I q (by simp))
    | bl j=>cases ry;exact ne_bool (zaj I q (congrArg not zh3))
    | str j=>obtain⟨t',rfl⟩:=ry;exact PySem.EqMixed.ne_bool_str (zaj I q (by simp))
    | _=>exact absurd (show false=true from hs) Bool.false_ne_true
  | int i =>
    obtain⟨t,rfl⟩:=rx
    cases y with
    | non=>cases ry;exact PySem.EqNone.ne_int_none (zaj I q (by simp))
    | int j=>obtain⟨t',rfl⟩:=ry;exact ne_int (zaj I q (congrArg not zgy))
    | str j=>obtain⟨t',rfl⟩:=ry;exact PySem.EqMixed.ne_int_str (zaj I q (by simp))
    | _=>exact absurd (show false=true from hs) Bool.false_ne_true
  | str i =>
    obtain⟨t,rfl⟩:=rx
    cases y with
    | non=>cases ry;exact PySem.EqNone.ne_str_none (zaj I q (by simp))
    | bl j=>cases ry;exact PySem.EqMixed.ne_str_bool (zaj I q (by simp))
    | int j=>obtain⟨t',rfl⟩:=ry;exact PySem.EqMixed.ne_str_int (zaj I q (by simp))
    | str j=>obtain⟨t',rfl⟩:=ry;exact ne_str (zaj I q (congrArg not zgx))
    | _=>exact absurd (show false=true from hs) Bool.false_ne_true
  | byt i =>
    obtain⟨t,rfl⟩:=rx
    cases y with
    | byt j=>obtain⟨t',rfl⟩:=ry;exact PySem.W.ne_bytes (zaj I q (congrArg not zgz))
    | _=>exact absurd (show false=true from hs) Bool.false_ne_true
  | _=>cases y<;>exact absurd (show false=true from hs) Bool.false_ne_true
theorem zc2:OpR X (compareOp .Lt) (rI0 fun i j=>.bl (decide (i<j))):=opB0 fun _ _ _ _ _ _ _ q=>lt_int q
theorem zkt:OpR X (compareOp .LtE) (rI0 fun i j=>.bl (decide (i≤j))):=opB0 fun _ _ _ _ _ _ _ q=>le_int q
theorem zg7:OpR X (compareOp .Gt) (rI0 fun i j=>.bl (decide (j<i))):=opB0 fun _ _ _ _ _ _ _ q=>gt_int q
theorem zku:OpR X (compareOp .GtE) (rI0 fun i j=>.bl (decide (j≤i))):=opB0 fun _ _ _ _ _ _ _ q=>ge_int q
theorem op_isN:OpR X (compareOp .Is) (fun x y H Q=>y=.non∧Q (.bl (decide (x=.non))) H):=by
  intro pins s σ H x y v u Q I rx ry h
  obtain⟨rfl,q⟩:=h
  cases ry
  refine is_none_gen (zaj I q ?_)
  cases x<;>first
    | (cases rx;rfl)
    | (obtain⟨t,rfl⟩:=rx;rfl)
theorem nomark (b:Expr) {op:CmpOp}(h:op≠.In:=by decide) (h2:op≠.NotIn:=by decide):behindInMarks op b=false:=by
  have e1:(op == CmpOp.In)=false:=by cases op<;>first|rfl|exact absurd rfl h
  have e2:(op == CmpOp.NotIn)=false:=by cases op<;>first|rfl|exact absurd rfl h2
  cases b<;>simp[behindInMarks,e1,e2]
theorem zfS {op:CmpOp}{r:R2}(ho:OpR X (compareOp op) r) (ha:PE X a ta) (hb:PE X b tb) (hm:behindInMarks op b=false):PE X (.Compare a [op] [b] pos) (tOp r ta tb):=by
  intro pins s σ H Q I h
  exact wpAny_Compare1 (binT ha hb I h fun v u s2 x y H2 I2 rx ry q=>ho pins s2 σ H2 x y v u Q I2 rx ry q) hm
def zkf (t:TE):TT:=fun σ H Q=>t σ H fun x H'=>∃ k,x=.bl k∧Q k H'
theorem pt_cmpR {op:CmpOp}{r:R2}(ho:OpR X (compareOp op) r) (ha:PE X a ta) (hb:PE X b tb) (hm:behindInMarks op b=false):PT X (.Compare a [op] [b] pos) (zkf (tOp r ta tb)):=by
  intro pins s σ H Q I h
  refine wpAny_isTrue_Compare1 (thn (ha pins s σ H _ I h) fun v s1 ⟨x,H1,I1,r1,q1⟩=>thn (hb pins s1 σ H1 _ I1 q1) fun u s2 ⟨y,H2,I2,r2,q2⟩ =>
    thn (ho pins s2 σ H2 x y v u _ I2 r1 r2 q2) fun c s3 ⟨z,H3,I3,r3,k,e,q3⟩=>?_) hm
  subst e
  cases r3
  exact wpAny_truthy_bool ⟨H3,I3,q3⟩
def zjx (r r':R2) (ta tb tc:TE):TE:=fun σ H Q=>ta σ H fun x H1=>tb σ H1 fun y H2=>r x y H2 fun z H3=>∃ k,z=.bl k ∧
  (if k=true then tc σ H3 fun w' H4=>r' y w' H4 Q else Q (.bl false) H3)
theorem zg5 {op op':CmpOp}{r r':R2}(ho:OpR X (compareOp op) r) (ho':OpR X (compareOp op') r') (ha:PE X a ta) (hb:PE X b tb) (hc:PE X c tc)
    (hm:lastMarks [op,op'] [b,c]=false:=by with_unfolding_all rfl):PE X (.Compare a [op,op'] [b,c] pos) (zjx r r' ta tb tc):=by
  intro pins s σ H Q I h
  refine Compare_chain (thn (ha pins s σ H _ I h) fun v s1 ⟨x,H1,I1,r1,q1⟩=>chain_link (thn (hb pins s1 σ H1 _ I1 q1) fun u s2 ⟨y,H2,I2,r2,q2⟩ =>
    thn (ho pins s2 σ H2 x y v u _ I2 r1 r2 q2) fun d s3 ⟨z,H3,I3,r3,k,e,q3⟩=>?_)) hm
  subst e
  cases r3
  refine wpAny_truthy_bool ?_
  cases k with
  | false=>exact ite_ff ⟨.bl false,H3,I3,rfl,q3⟩
  | true=>exact ite_tt (chain_last (thn (hc pins s3 σ H3 _ I3 q3) fun w' s4 ⟨z',H4,I4,r4,q4⟩=>ho' pins s4 σ H4 y z' u w' Q I4 r2 r4 q4))
def TruV (K:PySem.W.Frag) (x:V) (H:Hp) (k:Bool):Prop :=
  match x with
  | .non=>k=false
  | .bl b=>k=b
  | .int i=>k=(i != 0)
  | .str y=>y.length≤sizeLine∧k=((y.length:Int) != 0)
  | .byt y=>y.size≤sizeLine∧k=((y.size:Int) != 0)
  | .ref p=>(∃ xs,SqL K H p xs∧k = !xs.isEmpty)∨(∃ xs,SqT K H p xs∧k = !xs.isEmpty)∨∃ kvs,H p=some (.dK kvs)∧k = !kvs.isEmpty
  | _=>False
theorem zeW {κ:Type}{kvs:List (κ × V)}{vs:List (κ × Value)}(r:KV kvs vs):(!vs.isEmpty) = !kvs.isEmpty:=by
  cases r<;>rfl
theorem zb8 {xs:List V}{its:List Value}(r:Vals xs its):(!its.toArray.isEmpty) = !xs.isEmpty:=by
  cases r<;>simp
theorem zc7:(sizeLine:Nat)<2 ^ 63:=by rw[sizeLine_eq];decide
theorem zjo:TruR X (fun x H Q=>∃ k,TruV X.K x H k∧Q k H):=by
  intro pins s σ H x v Q I rx h
  obtain⟨k,e,q⟩:=h
  have hl:=zc7
  have hs:sizeLine=16777216:=sizeLine_eq
  cases x with
  | non =>
    cases rx
    have e':k=false:=e
    subst e'
    exact truthy_none ⟨H,I,q⟩
  | bl b =>
    cases rx
    have e':k=b:=e
    subst e'
    exact wpAny_truthy_bool ⟨H,I,q⟩
  | int i =>
    obtain⟨t,rfl⟩:=rx
    have e':k=(i != 0):=e
    subst e'
    exact PySem.P.truthy_int ⟨H,I,q⟩
  | str y =>
    obtain⟨t,rfl⟩:=rx
    obtain⟨hy,e'⟩:y.length≤sizeLine∧k=((y.length:Int) != 0):=e
    subst e'
    exact PySem.P.truthy_str (by omega) ⟨H,I.tok _,q⟩
  | byt y =>
    obtain⟨t,rfl⟩:=rx
    obtain⟨hy,e'⟩:y.size≤sizeLine∧k=((y.size:Int) != 0):=e
    subst e'
    exact PySem.W.truthy_bytes (by omega) ⟨H,I.tok _,q⟩
  | ref p =>
    cases rx
    have e':(∃ xs,SqL X.K H p xs∧k = !xs.isEmpty)∨(∃ xs,SqT X.K H p xs∧k = !xs.isEmpty)∨∃ kvs,H p=some (.dK kvs)∧k = !kvs.isEmpty:=e
    rcases e' with ⟨xs,hx,e'⟩|⟨xs,hx,e'⟩|⟨kvs,hx,e'⟩
    · subst e'
      obtain⟨its,r,pl,hz⟩:=I.list hx
      have hlen:=r.length
      exact wpAny_truthy_list pl.isList (by simp only[List.size_toArray];omega) ⟨H,I.tok _,by rw[zb8 r];exact q⟩
    · subst e'
      obtain⟨its,r,pl,hz⟩:=I.tuple hx
      have hlen:=r.length
      exact truthy_tuple pl (by simp only[List.size_toArray];omega) ⟨H,I.tok _,by rw[zb8 r];exact q⟩
    · subst e'
      obtain⟨hz,hS,vs,r,m⟩:kvs.length≤sizeLine∧(p == sysModules)=false∧∃ vs,KV kvs vs∧s.heap.DictOf (zai X.prog X.w) p vs:=I.hok p _ hx
      have hlen:kvs.length=vs.length:=Paired.length r
      exact wpAny_truthy_dict hS m (by omega) ⟨H,I.tok _,by rw[zeW r];exact q⟩
  | _=>exact(show False from e).elim
theorem pt_truth (ha:PE X a ta) (he:∀ whole,isTrue a X.env whole=(do let v ← whole;standAt a.pos;holding [v] (truthy v))) :
    PT X a (fun σ H Q=>ta σ H fun x H'=>∃ k,TruV X.K x H' k∧Q k H'):=by
  intro pins s σ H Q I h
  exact isTrue_plain (thn (ha pins s σ H _ I h) fun v s1 ⟨x,H1,I1,r1,q1⟩=>zjo pins s1 σ H1 x v Q I1 r1 q1) (he _)
theorem zb4:OpR X (binaryOp .Add) (fun x y H Q=>∃ i j,x=.str i∧y=.str j∧i.length+j.length≤sizeLine∧Q (.str (i++j)) H):=by
  intro pins s σ H x y v u Q I rx ry h
  obtain⟨i,j,rfl,rfl,hz,q⟩:=h
  obtain⟨t,rfl⟩:=rx
  obtain⟨t',rfl⟩:=ry
  exact add_str (fun t' tk=>⟨.str (i++j),H,I.tok _,⟨_,rfl⟩,q⟩) hz
theorem zcP {x:V}{us:List Value}(r:Vals [x] us):∃ u,us=[u]∧RelV x u:=by
  cases r with
  | cons r1 r2=>cases r2;exact⟨_,rfl,r1⟩
theorem zia {x y:V}{us:List Value}(r:Vals [x,y] us):∃ u w',us=[u,w']∧RelV x u∧RelV y w':=by
  cases r with
  | cons r1 r2 =>
    cases r2 with
    | cons r3 r4=>cases r4;exact⟨_,_,rfl,r1,r3⟩
theorem zev:CallR X (.builtin "abs") (fun xs H Q=>∃ i,xs=[.int i]∧Q (.int (if i<0 then -i else i)) H):=by
  intro pins s σ H xs us Q I r h
  obtain⟨i,rfl,q⟩:=h
  obtain⟨u,rfl,t,rfl⟩:=zcP r
  exact call_abs_int fun u tk=>⟨.int (if i<0 then -i else i),H,I.tok _,⟨_,rfl⟩,q⟩
theorem za6 (hc:X.calm=true):CallR X (.builtin "max") (fun xs H Q=>∃ i j,xs=[.int i,.int j]∧Q (.int (if j > i then j else i)) H):=by
  intro pins s σ H xs us Q I r h
  obtain⟨i,j,rfl,q⟩:=h
  obtain⟨u,w',rfl,⟨t,rfl⟩,⟨t',rfl⟩⟩:=zia r
  refine max_two_ints (I.ok.hd hc) fun h' tk k=>⟨_,H,I.kept k,?_,q⟩
  by_cases hj:j > i
  · rw[if_pos hj,if_pos hj];exact⟨_,rfl⟩
  · rw[if_neg hj,if_neg hj];exact⟨_,rfl⟩
theorem zgJ (hc:X.calm=true):CallR X (.builtin "min") (fun xs H Q=>∃ i j,xs=[.int i,.int j]∧Q (.int (if j<i then j else i)) H):=by
  intro pins s σ H xs us Q I r h
  obtain⟨i,j,rfl,q⟩:=h
  obtain⟨u,w',rfl,⟨t,rfl⟩,⟨t',rfl⟩⟩:=zia r
  refine min_two_ints (I.ok.hd hc) fun h' tk k=>⟨_,H,I.kept k,?_,q⟩
  by_cases hj:j<i
  · rw[if_pos hj,if_pos hj];exact⟨_,rfl⟩
  · rw[if_neg hj,if_neg hj];exact⟨_,rfl⟩
theorem zdg:CallR X (.type "int") (fun xs H Q=>(∃ i,xs=[.int i]∧Q (.int i) H)∨∃ k,xs=[.bl k]∧Q (.int (if k then 1 else 0)) H):=by
  intro pins s σ H xs us Q I r h
  rcases h with ⟨i,rfl,q⟩|⟨k,rfl,q⟩
  · obtain⟨u,rfl,t,rfl⟩:=zcP r
    exact call_int_int ⟨.int i,H,I,⟨_,rfl⟩,q⟩
  · obtain⟨u,rfl,r1⟩:=zcP r
    cases r1
    exact call_int_bool ⟨.int (if k then 1 else 0),H,I.tok _,⟨_,rfl⟩,q⟩
end
structure ObjM (h:Heap) (x dx C:Addr) (mA:Str→Option Value):Prop where
  obj:h.get? x=some (PySem.W.instObj C dx)
  ns:h.Ns1 dx mA
  ne:dx≠x
theorem zf7 {h:Heap}{dx:Addr}{mA:Str→Option Value}(n:h.Ns1 dx mA):∃ od,h.get? dx=some od∧∀ name,PySem.W.lookIn name od=some (mA name):=by
  obtain⟨o,es,ep,ho,hd,hk,_,hm⟩:=n
  refine⟨o,ho,fun name=>?_⟩
  have e:=hm name
  unfold nsFind findBy at e
  rw[← Array.find?_toList]at e
  unfold PySem.W.lookIn
  rw[hd]
  dsimp only
  split
  · rename_i y q
    rw[q]at e
    exact congrArg some e
  · rename_i q
    rw[q]at e
    have a:es.toList.any (·.refKey)=false:=by
      rw[List.any_eq_false]
      intro y hy
      obtain⟨z,t,hkey⟩:=hk y (Array.mem_toList_iff.mp hy)
      simp[DictEntry.refKey,hkey]
    have a':¬ es.toList.any (·.refKey)=true:=by rw[a];exact Bool.false_ne_true
    rw[if_neg a']
    exact congrArg some e
theorem ObjM.look {h:Heap}{x dx C:Addr}{mA:Str→Option Value}(I:ObjM h x dx C mA):∃ od,PySem.W.InstAt h x (PySem.W.instObj C dx) C (some od)∧∀ name,PySem.W.lookIn name od=some (mA name) :=
  let ⟨od,ho,hl⟩:=zf7 I.ns
  ⟨od,⟨I.obj,rfl,rfl,ho⟩,hl⟩
section
variable {prog:Program}{w:World}{A:Around}{E:Value→Shared→Prop}{s:Shared}{K:PySem.W.Frag}{x dx C f:Addr}{mA:Str→Option Value}{name:Str}{v:Value}
theorem zi9 {expr:Bool}{Q:Value→Shared→Prop}(X:K.In s.heap) (I:ObjM s.heap x dx C mA) (hg:PySem.W.plainGet K C name=true) (hh:PySem.W.hasDictIn K C=true)
    (ha:PySem.W.findIn K (.ref C) name=some none) (hv:mA name=some v) (hv':PySem.W.handedIn v=true) (h:Q v { s with toks:=s.toks+1 }) :
    wpAny (model prog w) A (getAttr (.ref x) name expr) Q E s:=by
  obtain⟨od,J,hl⟩:=I.look
  exact PySem.W.get_value X J (PySem.W.plainGet_of hg).1 (PySem.W.findObj_own hh ha rfl (by rw[hl,hv])) hv' h
theorem zhv {pl:Sem Bool}{Q:Value × List Value→Shared→Prop}(X:K.In s.heap) (I:ObjM s.heap x dx C mA) (hg:PySem.W.plainGet K C name=true)
    (hf:PySem.W.findIn K (.ref C) name=some (some (.ref f))) (ht:PySem.W.isFn K (.ref f)=true) (hv:mA name=none) (h:Q (.ref f,[.ref x]) s) :
    wpAny (model prog w) A (getMethod (.ref x) name pl) Q E s:=by
  obtain⟨od,J,hl⟩:=I.look
  exact PySem.W.method_fn X J (PySem.W.plainGet_of hg).1 (PySem.W.plainGet_of hg).2 hf (beq_iff_eq.mp ht) (by show (PySem.W.lookIn name od).map (·.isSome)=some false;rw[hl,hv];rfl) h
theorem zis {ns:List Str}{Q:Unit→Shared→Prop}(X:K.In s.heap) (I:ObjM s.heap x dx C mA)
    (hs:PySem.W.findIn K (.ref C) "__setattr__" = some (some (.builtin "object.__setattr__"))) (hp:PySem.W.plainOver K C=true) (ht:PySem.W.takerIn K C name=some none) (hh:PySem.W.hasDictIn K C=true)
    (hw:PySem.Within mA ns) (hsz:ns.length≤sizeLine)
    (h:∀ h',ObjM h' x dx C (fun y=>if y=name then some v else mA y)→Heap.SameBut dx s.heap h'→Q () { s with heap:=h',toks:=s.toks+2 }) :
    wpAny (model prog w) A (setAttr (.ref x) name v) Q E s:=by
  obtain⟨od,J,hl⟩:=I.look
  refine PySem.W.set_plain X J hs (PySem.W.osa_open (s:={ s with toks:=s.toks+1 }) (r:=none) X J hp ht fun b=>?_)
  obtain⟨cd,hc,hd'⟩:=PySem.W.any_some hh
  have hx:s.heap.get? x=some ⟨.ref C,some dx,.plain,#[]⟩:=I.obj
  refine wpAny_bind (wpAny_pure (wpAny_bind (wpAny_bind (wpAny_loadPart hx (wpAny_bind (PySem.W.Looks.here (s:={ s with toks:=s.toks+1 }) (PySem.W.looks_clsIn X hc) ?_))))))
  rw[hd']
  refine wpAny_pure (a:=some dx) (wpAny_bind (wpAny_pure (wpAny_bind ?_)))
  refine wpAny_nsSet1 (s:={ s with toks:=s.toks+1 }) I.ns fun h' hn2 hs2=>?_
  obtain⟨oD,esD,epD,hoD,hdD,hcD⟩:=hn2.count (PySem.Within.cons name v hw)
  refine wpAny_bind (wpAny_lookBehind hoD (by rw[hdD];exact pastItsLine_dict (Nat.le_trans hcD (by rw[List.length_cons];omega))) ?_)
  exact wpAny_pure (h _ ⟨(hs2.2 _ (Ne.symm I.ne)).trans I.obj,hn2,I.ne⟩ hs2)
theorem zhl {R:Result→Shared→Prop}{vs:List Value}{kw:List (Str × Value)}(X:K.In s.heap) (hm:PySem.W.makesIn K C=true)
    (hi:PySem.W.findIn K (.ref C) "__init__" = some (some (.ref f))) (hf:PySem.W.typeIn K (.ref f)=some (.type "function"))
    (h:codeAny (model prog w) (A.under (.builtin "type.__call__" ⟨.ref C::vs,kw⟩)) (.call (.ref f) ⟨.ref (s.heap.objs.size+1)::vs,kw⟩) (PySem.W.InitBack (s.heap.objs.size+1) R)
      { s with heap:=(s.heap.push PySem.W.emptyDict).push (PySem.W.instObj C s.heap.objs.size) }) :
    codeAny (model prog w) A (.call (.ref C) ⟨vs,kw⟩) R s:=by
  obtain⟨hh,g,d,t,os⟩:=s
  exact PySem.W.make_core (PySem.W.makes_of X hm) (PySem.W.looks_findIn X hi) (fun self=>PySem.W.bind_fn X self hf) (.inl rfl) h
end
def putF (f:Str) (v:V):List (Str × V)→List (Str × V)
  | []=>[(f,v)]
  | (g,x)::r=>if g=f then (g,v)::r else (g,x)::putF f v r
theorem zaf (f g:Str) (v:V):∀ fs:List (Str × V),(putF f v fs).lookup g=if g=f then some v else fs.lookup g
  | []=>by
    show List.lookup g [(f,v)]=_
    by_cases h:g=f
    · have hb:(g == f)=true:=beq_iff_eq.mpr h
      simp only[List.lookup,hb,if_pos h]
    · have hb:(g == f)=false:=beq_eq_false_iff_ne.mpr h
      simp only[List.lookup,hb,if_neg h]
  | (k,x)::r=>by
    have ih:=zaf f g v r
    rw[show putF f v ((k,x)::r)=(if k=f then (k,v)::r else (k,x)::putF f v r) from rfl]
    by_cases hk:k=f
    · rw[if_pos hk]
      by_cases h:g=k
      · have hb:(g == k)=true:=beq_iff_eq.mpr h
        simp only[List.lookup,hb,if_pos (h.trans hk)]
      · have hb:(g == k)=false:=beq_eq_false_iff_ne.mpr h
        simp only[List.lookup,hb,if_neg (fun e:g=f=>h (e.trans hk.symm))]
    · rw[if_neg hk]
      by_cases h:g=k
      · have hb:(g == k)=true:=beq_iff_eq.mpr h
        simp only[List.lookup,hb,if_neg (fun e:g=f=>hk (h.symm.trans e))]
      · have hb:(g == k)=false:=beq_eq_false_iff_ne.mpr h
        simp only[List.lookup,hb]
        exact ih
theorem zbM (f:Str) (v:V):∀ fs:List (Str × V),f∈(putF f v fs).map (·.1)∧∀ g,g∈fs.map (·.1)→g∈(putF f v fs).map (·.1)
  | []=>⟨by simp[putF],fun g h=>by simp at h⟩
  | (k,x)::r=>by
    obtain⟨i1,i2⟩:=zbM f v r
    rw[show putF f v ((k,x)::r)=(if k=f then (k,v)::r else (k,x)::putF f v r) from rfl]
    by_cases hk:k=f
    · rw[if_pos hk]
      subst hk
      exact⟨by simp,fun g h=>by simpa using h⟩
    · rw[if_neg hk]
      refine⟨?_,fun g h=>?_⟩
      · rw[List.map_cons]
        exact List.mem_cons_of_mem _ i1
      · rw[List.map_cons]at h ⊢
        rcases List.mem_cons.mp h with e|e
        · exact List.mem_cons.mpr (.inl e)
        · exact List.mem_cons_of_mem _ (i2 g e)
theorem zbL (f:Str) (v:V):∀ fs:List (Str × V),(putF f v fs).length≤fs.length+1
  | []=>by simp[putF]
  | (k,x)::r=>by
    have ih:=zbL f v r
    rw[show putF f v ((k,x)::r)=(if k=f then (k,v)::r else (k,x)::putF f v r) from rfl]
    by_cases hk:k=f
    · rw[if_pos hk,List.length_cons,List.length_cons];omega
    · rw[if_neg hk,List.length_cons,List.length_cons];omega
theorem RelO.some_of {v:V}{o:Option Value}(r:RelO (some v) o):∃ u,o=some u∧RelV v u:=by
  cases o with
  | none=>exact(show False from r).elim
  | some u=>exact⟨u,rfl,r⟩
theorem RelO.none_of {o:Option Value}(r:RelO none o):o=none:=by
  cases o with
  | none=>rfl
  | some u=>exact(show False from r).elim
theorem zgq {v:V}{u:Value}(r:RelV v u):PySem.W.handedIn u=true:=by
  cases v with
  | non=>cases (show u=Value.none from r);rfl
  | bl b=>cases (show u=Value.bool b from r);rfl
  | int i=>obtain⟨t,e⟩:=(show ∃ t,u=Value.int i t from r);cases e;rfl
  | str x=>obtain⟨t,e⟩:=(show ∃ t,u=Value.str x t from r);cases e;rfl
  | byt b=>obtain⟨t,e⟩:=(show ∃ t,u=Value.bytes b t from r);cases e;rfl
  | flt b=>obtain⟨t,e⟩:=(show ∃ t,u=Value.float b t from r);cases e;rfl
  | ref a=>cases (show u=Value.ref a from r);rfl
  | ty n=>cases (show u=Value.type n from r);rfl
section
variable {P:Program}{w:World}{H H':Hp}{h h':Heap}{a C dx:Addr}{fs fs':List (Str × V)}
theorem zcA (hok:HOk P w H h) (e:H a=some (.ins C dx fs)):∃ mA,ObjM h a dx C mA∧(∀ f,RelO (fs.lookup f) (mA f))∧PySem.Within mA (fs.map (·.1))∧fs.length≤1000∧H dx=some (.own a):=by
  obtain⟨d,z,ne,ob,mA,n,r,q⟩:=(show ObjOk P w H h a (.ins C dx fs) from hok a _ e)
  exact⟨mA,⟨ob,n,ne⟩,r,q,z,d⟩
end
structure Cls (K:PySem.W.Frag) (C:Addr):Prop where
  pg:PySem.W.plainGet K C Str.empty=true
  hd:PySem.W.hasDictIn K C=true
  po:PySem.W.plainOver K C=true
  sa:PySem.W.findIn K (.ref C) "__setattr__" = some (some (.builtin "object.__setattr__"))
theorem Cls.get {K:PySem.W.Frag}{C:Addr}(c:Cls K C) (f:Str):PySem.W.plainGet K C f=true:=c.pg
def NoAttr (K:PySem.W.Frag) (C:Addr) (f:Str):Prop:=PySem.W.findIn K (.ref C) f=some none
theorem NoAttr.taker {K:PySem.W.Frag}{C:Addr}{f:Str}(n:NoAttr K C f):PySem.W.takerIn K C f=some none:=by
  unfold PySem.W.takerIn
  rw[show PySem.W.findIn K (.ref C) f=some none from n]
  rfl
structure Meth (K:PySem.W.Frag) (C:Addr) (m:Str) (f:Addr):Prop where
  at_:PySem.W.findIn K (.ref C) m=some (some (.ref f))
  fn:PySem.W.isFn K (.ref f)=true
  kp:PySem.W.keepIn K (.ref f)=true
section
variable {X:Cx}{pins:List (Addr × Obj)}{σ:St}{H:Hp}{s:Shared}{a C dx:Addr}{fs:List (Str × V)}{f:Str}{v:V}{A:Around}{E:Value→Shared→Prop}
theorem zeY {b:Bool}{Q:Value→Shared→Prop}(I:Inv X pins σ H s) (e:H a=some (.ins C dx fs)) (c:Cls X.K C) (n:NoAttr X.K C f) (l:fs.lookup f=some v)
    (h:∀ u s',Inv X pins σ H s'→RelV v u→Q u s'):wpAny (model X.prog X.w) A (getAttr (.ref a) f b) Q E s:=by
  obtain⟨mA,O,r,_,_,_⟩:=zcA I.hok e
  obtain⟨u,hu,ru⟩:=RelO.some_of (v:=v) (o:=mA f) (by rw[← l];exact r f)
  exact zi9 I.kIn O (c.get f) c.hd n hu (zgq ru) (h u _ (I.tok _) ru)
theorem zeX {m:Str}{g:Addr}{pl:Sem Bool}{Q:Value × List Value→Shared→Prop}(I:Inv X pins σ H s) (e:H a=some (.ins C dx fs)) (c:Cls X.K C) (k:Meth X.K C m g) (l:fs.lookup m=none)
    (h:Q (.ref g,[.ref a]) s):wpAny (model X.prog X.w) A (getMethod (.ref a) m pl) Q E s:=by
  obtain⟨mA,O,r,_,_,_⟩:=zcA I.hok e
  have hn:mA m=none:=RelO.none_of (by rw[← l];exact r m)
  exact zhv I.kIn O (c.get m) k.at_ k.fn hn h
theorem zeE {y:V}{u:Value}{Q:Unit→Shared→Prop}(I:Inv X pins σ H s) (e:H a=some (.ins C dx fs)) (c:Cls X.K C) (n:NoAttr X.K C f) (hl:fs.length<1000) (ry:RelV y u)
    (h:∀ s',Inv X pins σ (upd H a (.ins C dx (putF f y fs))) s'→Q () s'):wpAny (model X.prog X.w) A (setAttr (.ref a) f u) Q E s:=by
  obtain⟨mA,O,r,wi,_,ho⟩:=zcA I.hok e
  have hz:(fs.map (·.1)).length≤sizeLine:=by rw[List.length_map,sizeLine_eq];omega
  refine zis I.kIn O c.sa c.po n.taker c.hd wi hz fun h' O' sb=>h _ ?_
  have hd:∃ o,h'.get? dx=some o:=let ⟨o,_,_,e',_⟩:=O'.ns;⟨o,e'⟩
  refine I.write (x:=a) (e:=dx) (by rw[e];exact True.intro) (.inr ho) (fun b q hb z=>(sb.2 b hb).trans z) hd ?_
  refine⟨by rw[zac O.ne];exact ho,?_,O.ne,O'.obj,_,O'.ns,fun g=>?_,fun g hg=>?_⟩
  · have:=zbL f y fs;omega
  · show RelO ((putF f y fs).lookup g) (if g=f then some u else mA g)
    rw[zaf]
    by_cases q:g=f
    · rw[if_pos q,if_pos q];exact ry
    · rw[if_neg q,if_neg q];exact r g
  · by_cases q:g=f
    · rw[q];exact(zbM f y fs).1
    · refine(zbM f y fs).2 g (wi g fun z=>hg ?_)
      show (if g=f then some u else mA g)=none
      rw[if_neg q];exact z
theorem Inv.made (I:Inv X pins σ H s):Inv X pins σ (upd (upd H s.heap.objs.size (.own (s.heap.objs.size+1))) (s.heap.objs.size+1) (.ins C s.heap.objs.size []))
    { s with heap:=(s.heap.push PySem.W.emptyDict).push (PySem.W.instObj C s.heap.objs.size) }:=by
  have e1:(s.heap.push PySem.W.emptyDict).get? s.heap.objs.size=some PySem.W.emptyDict:=Heap.get?_push_size s.heap rfl
  have e2:((s.heap.push PySem.W.emptyDict).push (PySem.W.instObj C s.heap.objs.size)).get? (s.heap.objs.size+1)=some (PySem.W.instObj C s.heap.objs.size):=by
    have:=Heap.get?_push_size (s.heap.push PySem.W.emptyDict) (o:=PySem.W.instObj C s.heap.objs.size) rfl
    rwa [Heap.size_push]at this
  have e3:(s.heap.push PySem.W.emptyDict).Ns s.heap.objs.size (fun _=>none):=⟨PySem.W.emptyDict,#[],_,e1,rfl,(fun e he=>absurd he (by simp)),fun _=>rfl⟩
  have I1:=I.laid (a:=s.heap.objs.size) (o:=.own (s.heap.objs.size+1)) (h':=s.heap.push PySem.W.emptyDict) (t':=s.toks) (fun b u q=>Heap.get?_push_of_some _ q) (Nat.le_refl _) ⟨_,e1⟩
  refine I1.laid (a:=s.heap.objs.size+1) (o:=.ins C s.heap.objs.size []) (t':=s.toks) (fun b u q=>Heap.get?_push_of_some _ q) (Nat.le_of_eq (Heap.size_push _ _)) ?_
  have ne:s.heap.objs.size≠s.heap.objs.size+1:=Nat.ne_of_lt (Nat.lt_succ_self _)
  refine⟨by rw[zac ne,zab],Nat.zero_le _,ne,e2,fun _=>none,(Heap.Ns1.of_empty e3).at fun o q=>Heap.get?_push_of_some _ q,fun _=>True.intro,fun y hy=>absurd rfl hy⟩
theorem zji {prog:Program}{w:World}{env:Env}{e:Expr}{f:Str}{pos:Pos}{s:Shared}{Q:Value→Shared→Prop}(hb:attributeBase e f env (eval e env)=eval e env)
    (h:wpAny (model prog w) A (eval e env) (fun o s₁=>wpAny (model prog w) A (getAttr o f true) Q E s₁) E s):wpAny (model prog w) A (eval (.Attribute e f pos) env) Q E s :=
  Attribute_any_ h (by rw[arm_eval_Attribute,hb])
end
def tFld (K:PySem.W.Frag) (ta:TE) (f:Str):TE:=fun σ H Q=>ta σ H fun x H1=>∃ a C dx fs v,x=.ref a∧H1 a=some (.ins C dx fs)∧Cls K C∧NoAttr K C f∧fs.lookup f=some v∧Q v H1
def sFld (K:PySem.W.Frag) (ta tv:TE) (f:Str):TS:=fun D σ H=>tv σ H fun y H1=>ta σ H1 fun x H2=>∃ a C dx fs,x=.ref a∧H2 a=some (.ins C dx fs)∧Cls K C∧NoAttr K C f∧fs.length<1000 ∧
  D.nx σ (upd H2 a (.ins C dx (putF f y fs)))
section
variable {X:Cx}{o e value:Expr}{f:Str}{pos pos' tpos:Pos}{ta tv:TE}
theorem pe_fld (he:PE X e ta) (hb:attributeBase e f X.env (eval e X.env)=eval e X.env):PE X (.Attribute e f pos) (tFld X.K ta f):=by
  intro pins s σ H Q I h
  refine zji hb (thn (he pins s σ H _ I h) fun u s1 ⟨x,H1,I1,rx,a,C,dx,fs,v,ex,ea,c,n,l,q⟩=>?_)
  subst ex
  obtain rfl:u=Value.ref a:=rx
  exact zeY I1 ea c n l fun u' s2 I2 ru=>⟨v,H1,I2,ru,q⟩
theorem zcX (ha:PE X o ta) (hv:PE X value tv) (hs:swapsWith value (some (.Attribute o f pos')) pos.line X.env=pure false):PS X (.Assign [.Attribute o f pos'] value pos) (sFld X.K ta tv f):=by
  intro pins s σ H D I h
  refine plainObj_wpAny_Assign_Attribute (thn (hv pins s σ H _ I h) fun u s1 ⟨y,H1,I1,ry,q⟩=>thn (ha pins s1 σ H1 _ I1 q) fun ov s2 ⟨x,H2,I2,rx,a,C,dx,fs,ex,ea,c,n,l,q2⟩=>?_) hs
  subst ex
  obtain rfl:ov=Value.ref a:=rx
  exact zeE I2 ea c n l ry fun s3 I3=>⟨σ,_,I3,q2⟩
end
section
variable {X:Cx}{pins:List (Addr × Obj)}{σ:St}{H:Hp}{s:Shared}{A:Around}{E:Value→Shared→Prop}{Q:Value→Shared→Prop}{c:Value}{b:Bool}
inductive TyOf (K:PySem.W.Frag) (H:Hp):V→Value→Prop where
  | non:TyOf K H .non (.type "NoneType")
  | bl (x:Bool):TyOf K H (.bl x) (.type "bool")
  | int (i:Int):TyOf K H (.int i) (.type "int")
  | str (x:Str):TyOf K H (.str x) (.type "str")
  | flt (x:UInt64):TyOf K H (.flt x) (.type "float")
  | lst {a:Addr}{xs:List V}(e:H a=some (.lst xs)):TyOf K H (.ref a) (.type "list")
  | frz {a:Addr}{o:Obj}{xs:List V}(e:H a=some (.frz o (.lst xs))):TyOf K H (.ref a) (.type "list")
  | tup {a:Addr}{xs:List V}(e:H a=some (.tup xs)):TyOf K H (.ref a) (.type "tuple")
  | dK {a:Addr}{kvs:List (Key × V)}(e:H a=some (.dK kvs)):TyOf K H (.ref a) (.type "dict")
  | dT {a:Addr}{kvs:List (List Key × V)}(e:H a=some (.dT kvs)):TyOf K H (.ref a) (.type "dict")
  | ins {a C dx:Addr}{fs:List (Str × V)}(e:H a=some (.ins C dx fs)) (cl:Cls K C) (ha:PySem.W.findIn K (.ref C) "__class__" = some (some (.builtin "object.__class__")))
      (hn:PySem.W.specialIn K (.builtin "object.__class__") "__get__" = some (some (.builtin "getset_descriptor.__get__"))) (htk:PySem.W.takesIn K (.builtin "object.__class__")=some true)
      (hm:PySem.W.mroIn K C (.type "object")=some true):TyOf K H (.ref a) (.ref C)
theorem zgk {x:V}{u t:Value}(I:Inv X pins σ H s) (rx:RelV x u) (ty:TyOf X.K H x t) (e:PySem.W.kitOne X.K t c=some b) (h:∀ tk,Q (.bool b) { s with toks:=tk }) :
    wpAny (model X.prog X.w) A (call (.builtin "isinstance") [u,c]) Q E s:=by
  cases ty with
  | non=>cases (show u=Value.none from rx);exact PySem.W.kia_one PySem.W.kitx_none I.kIn True.intro e (fun z=>nomatch z) h
  | bl y=>cases (show u=Value.bool y from rx);exact PySem.W.kia_one PySem.W.kitx_bool I.kIn True.intro e (fun z=>nomatch z) h
  | int i=>obtain⟨t,q⟩:=(show ∃ t,u=Value.int i t from rx);cases q;exact PySem.W.kia_one PySem.W.kitx_int I.kIn True.intro e (fun z=>nomatch z) h
  | str y=>obtain⟨t,q⟩:=(show ∃ t,u=Value.str y t from rx);cases q;exact PySem.W.kia_one PySem.W.kitx_str I.kIn True.intro e (fun z=>nomatch z) h
  | flt y=>obtain⟨t,q⟩:=(show ∃ t,u=Value.float y t from rx);cases q;exact PySem.W.kia_one PySem.W.kitx_float I.kIn True.intro e (fun z=>nomatch z) h
  | @lst a xs ea =>
    cases (show u=Value.ref a from rx)
    obtain⟨_,_,n,_,h1⟩:=(show ObjOk X.prog X.w H s.heap a (.lst xs) from I.hok a _ ea)
    exact PySem.W.kia_one PySem.W.kitx_list I.kIn ⟨_,h1,rfl⟩ e (fun z=>nomatch z) h
  | @frz a ob xs ea =>
    cases (show u=Value.ref a from rx)
    obtain⟨_,_,_,n,_,h1⟩:=(show ObjOk X.prog X.w H s.heap a (.frz ob (.lst xs)) from I.hok a _ ea)
    exact PySem.W.kia_one PySem.W.kitx_list I.kIn ⟨_,h1,rfl⟩ e (fun z=>nomatch z) h
  | @tup a xs ea =>
    cases (show u=Value.ref a from rx)
    obtain⟨_,_,_,p'⟩:=(show ObjOk X.prog X.w H s.heap a (.tup xs) from I.hok a _ ea)
    have p:=p'.tup
    obtain⟨o,h1,h2,_⟩:=p
    exact PySem.W.kia_one PySem.W.kitx_tuple I.kIn ⟨o,h1,h2⟩ e (fun z=>nomatch z) h
  | @dK a kvs ea =>
    cases (show u=Value.ref a from rx)
    obtain⟨_,_,vs,_,p⟩:=(show ObjOk X.prog X.w H s.heap a (.dK kvs) from I.hok a _ ea)
    obtain⟨o,es,ep,h1,h2,_⟩:=p
    exact PySem.W.kia_one PySem.W.kitx_dict I.kIn ⟨o,h1,h2.1⟩ e (fun z=>nomatch z) h
  | @dT a kvs ea =>
    cases (show u=Value.ref a from rx)
    obtain⟨_,_,xs,_,o,es,ep,h1,h2,_⟩:=(show ObjOk X.prog X.w H s.heap a (.dT kvs) from I.hok a _ ea)
    exact PySem.W.kia_one PySem.W.kitx_dict I.kIn ⟨o,h1,h2.1⟩ e (fun z=>nomatch z) h
  | @ins a C dx fs ea cl ha hn htk hm =>
    cases (show u=Value.ref a from rx)
    obtain⟨mA,O,_⟩:=zcA I.hok ea
    obtain⟨od,J,_⟩:=O.look
    exact PySem.W.kia_one (PySem.W.kitx_own (cl.get _) cl.hd ha hn htk hm) I.kIn J e (fun z=>nomatch z) h
end
structure Room (k:Nat) (A:Around):Prop where
  hd:A.handled=none
  dp:A.depth+3*k+5<recursionLimit
  un:A.units+16*k+200<cLine
  gd:A.guards=some []
theorem Room.mono {j k:Nat}{A:Around}(r:Room k A) (h:j≤k):Room j A:=⟨r.hd,by have:=r.dp;omega,by have:=r.un;omega,r.gd⟩
theorem Room.deeper {k:Nat}{A:Around}(r:Room (k+1) A) (env:Env):Room k (A.deeper env) :=
  ⟨r.hd,by have:=r.dp;show A.depth+1+3*k+5<_;omega,by have:=r.un;show A.units+3+16*k+200<_;omega,r.gd⟩
theorem zeR {A:Around}{C:Addr}{us:List Value}{kw:List (Str × Value)}:(A.under (.builtin "type.__call__" ⟨.ref C::us,kw⟩)).depth=A.depth+1:=by
  first|rfl|simp[Around.under,Code.weight,Code.isCreation,Code.isGuard,Code.isCaller,Code.frames,Code.isFrame,guardIds]
theorem zeQ {A:Around}{C:Addr}{us:List Value}{kw:List (Str × Value)}:(A.under (.builtin "type.__call__" ⟨.ref C::us,kw⟩)).units=A.units+1:=by
  first|rfl|simp[Around.under,Code.cUnits,Code.frames,Code.isFrame]
theorem Room.make {k:Nat}{A:Around}(r:Room (k+1) A) (C:Addr) (us:List Value) (kw:List (Str × Value)):Room k (A.under (.builtin "type.__call__" ⟨.ref C::us,kw⟩)) :=
  ⟨r.hd,by have:=r.dp;rw[zeR];omega,by have:=r.un;rw[zeQ];omega,(show _ from by first|exact r.gd|(simpa [Around.under,Code.isGuard,Code.guardAt,guardIds] using r.gd))⟩
theorem Room.depth {k:Nat}{A:Around}(r:Room k A):A.depth<recursionLimit:=by have:=r.dp;omega
theorem Room.units {k:Nat}{A:Around}(r:Room k A):A.units+64<cLine:=by have:=r.un;omega
theorem Room.units0 {k:Nat}{A:Around}(r:Room k A):A.units<cLine:=by have:=r.un;omega
def tNil:TA:=fun _ H Q=>Q [] H
def zjw (ta:TE) (tr:TA):TA:=fun σ H Q=>ta σ H fun x H1=>tr σ H1 fun xs H2=>Q (x::xs) H2
section
variable {X:Cx}{e:Expr}{es:List Expr}{te:TE}{t:TA}{pos:Pos}
theorem pa_nil:PA X [] tNil:=fun _ _ _ _ H Q I h=>Calls.spliced_nil ⟨[],H,I,.nil,h⟩
theorem pa_cons (ha:PE X e te) (hr:PA X es t) (hs:starEach (e::es) X.env=(false,eval e X.env)::starEach es X.env:=by rfl):PA X (e::es) (zjw te t):=by
  intro pos pins s σ H Q I h
  rw[hs]
  show wpAny _ _ (spliced ((false,eval e X.env)::backTo pos (starEach es X.env))) _ _ s
  refine Calls.spliced_cons (thn (ha pins s σ H _ I h) fun u s1 ⟨x,H1,I1,r1,q1⟩=>?_)
  exact thn (hr pos pins s1 σ H1 _ I1 q1) fun us s2 ⟨xs,H2,I2,r2,q2⟩=>⟨x::xs,H2,I2,.cons r1 r2,q2⟩
def tTup (t:TA):TE:=fun σ H Q=>t σ H fun xs H1=>xs.length≤sizeLine∧∀ p,H1 p=none→Q (.ref p) (upd H1 p (.tup xs))
def tLst (t:TA):TE:=fun σ H Q=>t σ H fun xs H1=>xs.length≤sizeLine∧∀ p,H1 p=none→Q (.ref p) (upd H1 p (.lst xs))
theorem pe_tup {x1} (h:PA X es t):PE X (.Tuple es x1 pos) (tTup t):=by
  intro pins s σ H Q I hq
  refine wpAny_Tuple_spliced (thn (h pos pins s σ H _ I hq) fun us s1 ⟨xs,H1,I1,r,z,q⟩=>⟨by rw[← r.length];exact z,?_⟩)
  have hf:H1 s1.heap.objs.size=none:=I1.hok.fresh (Nat.le_refl _)
  refine⟨.ref s1.heap.objs.size,upd H1 s1.heap.objs.size (.tup xs),I1.laid (t':=s1.toks) (fun b u e=>Heap.get?_push_of_some _ e) (Nat.le_refl _) ?_,rfl,q _ hf⟩
  exact⟨z,us,r,TupX.new _ _⟩
theorem pe_lst (h:PA X es t):PE X (.List es pos) (tLst t):=by
  intro pins s σ H Q I hq
  refine wpAny_List_spliced (thn (h pos pins s σ H _ I hq) fun us s1 ⟨xs,H1,I1,r,z,q⟩=>⟨by rw[← r.length];exact z,?_⟩)
  have hf:H1 s1.heap.objs.size=none:=I1.hok.fresh (Nat.le_refl _)
  refine⟨.ref s1.heap.objs.size,upd H1 s1.heap.objs.size (.lst xs),I1.laid (t':=s1.toks) (fun b u e=>Heap.get?_push_of_some _ e) (Nat.le_refl _) ?_,rfl,q _ hf⟩
  exact⟨z,us,0,r,Heap.get?_push_size _ rfl⟩
end
abbrev Sp:=List V→Hp→VK→XK→Prop
abbrev CXT:=List Env→Hp→Shared→XK→Value→Shared→Prop
structure Env0 (P:Program) (w:World) (K:PySem.W.Frag) (mg:Str→Option Value) (base:Heap) (A:Around) (outer:List Env) (s:Shared) (H:Hp):Prop where
  frames:A.frames=some outer
  mod:Mod K mg base
  bs:∀ b o,base.get? b=some o→s.heap.get? b=some o∧H b=none
  bsz:base.objs.size≤s.heap.objs.size
  funs:s.heap.FunFrames base outer
  frf:∀ b∈frs outer,H b=none
  hok:HOk P w H s.heap
  bare:AllBare s.gens
def CE (outer:List Env) (P:Program) (w:World) (H:Hp) (s:Shared) (Q:VK) (u:Value) (s':Shared):Prop :=
  ∃ v H',s'.os=s.os∧AllBare s'.gens∧Un (frs outer) [] H H' s.heap s'.heap∧HOk P w H' s'.heap∧RelV v u∧Q v H'
def CR (CX:CXT) (outer:List Env) (P:Program) (w:World) (H:Hp) (s:Shared) (Q:VK) (E:XK) (r:Result) (s':Shared):Prop :=
  match r with
  | .ok (.ret u)=>CE outer P w H s Q u s'
  | .ok _=>False
  | .error e=>CX outer H s E e s'
structure FnOk (P:Program) (w:World) (K:PySem.W.Frag) (mg:Str→Option Value) (base:Heap) (CX:CXT) (k:Nat) (f:Addr) (fd:FuncData) (ps:List Str) (sp:Sp):Prop where
  len:∀ vs H Q E,sp vs H Q E→vs.length=ps.length
  run:∀ (A:Around) (outer:List Env) (s:Shared) (H:Hp) (args:Args) (us:List Value) (vs:List V) (Q:VK) (E:XK),Room k A→Env0 P w K mg base A outer s H→BindsTo s fd args (ps.zip us)→Vals vs us→sp vs H Q E →
    codeAny (model P w) A (.call (.ref f) args) (CR CX outer P w H s Q E) s
theorem FnOk.mono {P:Program}{w:World}{K:PySem.W.Frag}{mg:Str→Option Value}{base:Heap}{CX:CXT}{j k:Nat}{f:Addr}{fd:FuncData}{ps:List Str}{sp:Sp}(F:FnOk P w K mg base CX j f fd ps sp) (h:j≤k) :
    FnOk P w K mg base CX k f fd ps sp:=⟨F.len,fun A outer s H args us vs Q E hr=>F.run A outer s H args us vs Q E (hr.mono h)⟩
theorem FnOk.imp {P:Program}{w:World}{K:PySem.W.Frag}{mg:Str→Option Value}{base:Heap}{CX:CXT}{k:Nat}{f:Addr}{fd:FuncData}{ps:List Str}{sp sp':Sp}(F:FnOk P w K mg base CX k f fd ps sp)
    (h:∀ vs H Q E,sp' vs H Q E→sp vs H Q E):FnOk P w K mg base CX k f fd ps sp' :=
  ⟨fun vs H Q E q=>F.len vs H Q E (h _ _ _ _ q),fun A outer s H args us vs Q E hr he hb hv hs=>F.run A outer s H args us vs Q E hr he hb hv (h _ _ _ _ hs)⟩
theorem Env0.make {P:Program}{w:World}{K:PySem.W.Frag}{mg:Str→Option Value}{base:Heap}{A:Around}{outer:List Env}{s:Shared}{H:Hp}(e:Env0 P w K mg base A outer s H) (C:Addr) (us:List Value) (kw:List (Str × Value)) :
    Env0 P w K mg base (A.under (.builtin "type.__call__" ⟨.ref C::us,kw⟩)) outer s H:=⟨by first|exact e.frames|(simpa [Around.under,Code.envs,Code.isFrame,pushEnvs] using e.frames),e.mod,e.bs,e.bsz,e.funs,e.frf,e.hok,e.bare⟩
section
variable {X:Cx}{pins:List (Addr × Obj)}{σ:St}{H:Hp}{s s':Shared}
theorem Inv.env0 (I:Inv X pins σ H s):Env0 X.prog X.w X.K X.mg X.base X.A X.stack s H :=
  ⟨I.ok.frames,I.ok.mod,I.bs,Nat.le_trans I.ok.bsz I.sz,I.stack,I.stkFree,I.hok,I.bare⟩
theorem Inv.after {Q:VK}{u:Value}(I:Inv X pins σ H s) (h:CE X.stack X.prog X.w H s Q u s'):EP X pins σ Q u s':=by
  obtain⟨v,H',os,bare,un,hok,r,q⟩:=h
  obtain⟨hh,g,d,t,os'⟩:=s'
  obtain rfl:os'=s.os:=os
  exact⟨v,H',I.call (h':=hh) (g':=g) (d':=d) (t':=t) (ch:=[]) un hok bare (fun b z=>absurd z (by simp)),r,q⟩
end
def zkm (sp:Sp) (dvs:List V) (E:XK) (t:TA):TE:=fun σ H Q=>t σ H fun vs H1=>sp (vs++dvs) H1 Q E
def zki (C:Addr) (m:Str) (sp:Sp) (dvs:List V) (E:XK) (ta:TE) (t:TA):TE:=fun σ H Q=>ta σ H fun x H1=>∃ a dx fs,x=.ref a∧H1 a=some (.ins C dx fs)∧fs.lookup m=none ∧
  t σ H1 fun vs H2=>sp (x::(vs++dvs)) H2 Q E
def zkj (C:Addr) (sp:Sp) (dvs:List V) (E:XK) (t:TA):TE:=fun σ H Q=>t σ H fun vs H1=>∀ x dx,H1 x=none→H1 dx=none→dx≠x →
  sp (.ref x::(vs++dvs)) (upd (upd H1 dx (.own x)) x (.ins C dx [])) (fun v H2=>v=.non∧Q (.ref x) H2) E
def Binds (K:PySem.W.Frag) (fd:FuncData) (ps:List Str) (ds:List Value):Prop :=
  ∀ (s:Shared) (us:List Value),K.In s.heap→(us++ds).length=ps.length→BindsTo s fd ⟨us,[]⟩ (ps.zip (us++ds))
theorem Binds.all {K:PySem.W.Frag}{fd:FuncData}{ps:List Str}(h:∀ us:List Value,us.length=ps.length→bindArgs fd ⟨us,[]⟩=pure (ps.zip us)):Binds K fd ps []:=fun s us _ hl=>by
  rw[List.append_nil]at hl ⊢
  exact .of_eq (h us hl)
def Passes (CX:CXT) (X:Cx) (E:XK):Prop:=∀ (pins:List (Addr × Obj)) (σ:St) (H:Hp) (s:Shared) (e:Value) (s':Shared),Inv X pins σ H s→CX X.stack H s E e s'→X.xe e s'
section
variable {X:Cx}{CX:CXT}{k:Nat}{f C:Addr}{fd:FuncData}{ps:List Str}{sp:Sp}{dvs:List V}{ds:List Value}{E:XK}{x m:Str}{p pos apos:Pos}{e o:Expr}{es:List Expr}{ta:TE}{t:TA}
theorem zhO {pins:List (Addr × Obj)}{σ:St}{H:Hp}{s:Shared}{Q:VK}{us:List Value}{vs:List V}(F:FnOk X.prog X.w X.K X.mg X.base CX k f fd ps sp) (hr:Room k X.A) (hb:Binds X.K fd ps ds) (hd:Vals dvs ds) (hx:Passes CX X E)
    (I:Inv X pins σ H s) (r:Vals vs us) (h:sp (vs++dvs) H Q E):wpAny (model X.prog X.w) X.A (call (.ref f) us) (EP X pins σ Q) X.xe s:=by
  have r2:Vals (vs++dvs) (us++ds):=r.append hd
  have hl:(us++ds).length=ps.length:=by rw[← r2.length];exact F.len _ _ _ _ h
  refine wpAny_call (codeAny_mono (F.run X.A X.stack s H ⟨us,[]⟩ (us++ds) (vs++dvs) Q E hr I.env0 (hb s us I.kIn hl) r2 h) fun r s' hq=>?_)
  cases r with
  | error e=>exact hx pins σ H s e s' I hq
  | ok fl =>
    cases fl with
    | ret u=>exact I.after hq
    | next=>exact False.elim hq
    | brk=>exact False.elim hq
    | cont=>exact False.elim hq
theorem pe_call (F:FnOk X.prog X.w X.K X.mg X.base CX k f fd ps sp) (hr:Room k X.A) (hg:Gl X x) (hm:X.mg x=some (.ref f)) (hk:PySem.W.keepIn X.K (.ref f)=true) (hb:Binds X.K fd ps ds) (hd:Vals dvs ds) (hx:Passes CX X E)
    (ha:PA X (e::es) t) (hdb:(x == ("__debug__":Str))=false:=by decide) (he:starEach (e::es) X.env=(false,eval e X.env)::starEach es X.env:=by rfl) (hpl:(backTo pos (starEach es X.env)).any (·.1)=false:=by rfl) :
    PE X (.Call (.Name x p) (e::es) [] pos) (zkm sp dvs E t):=by
  intro pins s σ H Q I h
  refine wpAny_Call_Name_kw (zga I hg hm ?_ hdb)
  refine PySem.W.callWith_K (h₀:=X.base) I.ok.mod.kin hk (thn (ha pos pins s σ H _ I h) fun us s1 ⟨vs,H1,I1,r,q⟩=>⟨I1.kIn,?_⟩) he hpl
  exact zhO F hr hb hd hx I1 r q
theorem pe_meth {pl:Sem Bool}(he:PE X o ta) (c:Cls X.K C) (hm:Meth X.K C m f) (F:FnOk X.prog X.w X.K X.mg X.base CX k f fd ps sp) (hr:Room k X.A) (hb:Binds X.K fd ps ds) (hd:Vals dvs ds) (hx:Passes CX X E) (ha:PA X (e::es) t)
    (hst:starEach (e::es) X.env=(false,eval e X.env)::starEach es X.env:=by rfl) (hpl:(backTo pos (starEach es X.env)).any (·.1)=false:=by rfl)
    (ht:eval (.Call (.Attribute o m apos) (e::es) [] pos) X.env=(do
      let ov ← eval o X.env
      standAt apos.atName
      let (f,first) ← holding [ov] (getMethod ov m pl)
      callWith pos f first (backTo pos (starEach (e::es) X.env)) (backToKw pos (keywordEach [] X.env))):=by rfl) :
    PE X (.Call (.Attribute o m apos) (e::es) [] pos) (zki C m sp dvs E ta t):=by
  intro pins s σ H Q I h
  refine PySem.W.methodCall_KW (pl:=pl) (thn (he pins s σ H _ I h) fun u s1 ⟨x,H1,I1,rx,a,dx,fs,ex,ea,l,q⟩=>?_) ht
  subst ex
  obtain rfl:u=Value.ref a:=rx
  refine zeX I1 ea c hm l ?_
  refine PySem.W.callWith_K (first:=[.ref a]) (h₀:=X.base) I.ok.mod.kin hm.kp (thn (ha pos pins s1 σ H1 _ I1 q) fun us s2 ⟨vs,H2,I2,r,q2⟩=>⟨I2.kIn,?_⟩) hst hpl
  exact zhO (us:=.ref a::us) (vs:=.ref a::vs) F hr hb hd hx I2 (.cons rfl r) q2
structure Mk (K:PySem.W.Frag) (C f:Addr):Prop where
  makes:PySem.W.makesIn K C=true
  init:PySem.W.findIn K (.ref C) "__init__" = some (some (.ref f))
  fn:PySem.W.isFn K (.ref f)=true
  kp:PySem.W.keepIn K (.ref C)=true
theorem zg1 {pins:List (Addr × Obj)}{σ:St}{H:Hp}{s:Shared}{Q:VK}{us:List Value}{vs:List V}(M:Mk X.K C f) (F:FnOk X.prog X.w X.K X.mg X.base CX k f fd ps sp) (hr:Room (k+1) X.A) (hb:Binds X.K fd ps ds) (hd:Vals dvs ds)
    (hx:Passes CX X E) (I:Inv X pins σ H s) (r:Vals vs us)
    (h:∀ x dx,H x=none→H dx=none→dx≠x→sp (.ref x::(vs++dvs)) (upd (upd H dx (.own x)) x (.ins C dx [])) (fun v H2=>v=.non∧Q (.ref x) H2) E) :
    wpAny (model X.prog X.w) X.A (call (.ref C) us) (EP X pins σ Q) X.xe s:=by
  have hq:=h (s.heap.objs.size+1) s.heap.objs.size (I.hok.fresh (Nat.le_succ _)) (I.hok.fresh (Nat.le_refl _)) (Nat.ne_of_lt (Nat.lt_succ_self _))
  have I2:=Inv.made (C:=C) I
  have r2:Vals (V.ref (s.heap.objs.size+1)::(vs++dvs)) (Value.ref (s.heap.objs.size+1)::(us++ds)):=.cons rfl (r.append hd)
  have hl:(Value.ref (s.heap.objs.size+1)::us++ds).length=ps.length:=by
    have e:=r2.length
    rw[F.len _ _ _ _ hq]at e
    exact e.symm
  refine wpAny_call (zhl (f:=f) I.kIn M.makes M.init (beq_iff_eq.mp M.fn) (codeAny_mono (F.run _ X.stack _ _ ⟨Value.ref (s.heap.objs.size+1)::us,[]⟩ (Value.ref (s.heap.objs.size+1)::(us++ds)) _ _ E (hr.make C us [])
    (I2.env0.make C us []) (hb _ (Value.ref (s.heap.objs.size+1)::us) I2.kIn hl) r2 hq) fun r s' hq'=>?_))
  cases r with
  | error e=>exact hx pins σ _ _ e s' I2 hq'
  | ok fl =>
    cases fl with
    | ret u =>
      obtain⟨v,H',I3,rv,ev,q3⟩:=I2.after hq'
      subst ev
      exact⟨rv,⟨V.ref (s.heap.objs.size+1),H',I3,rfl,q3⟩⟩
    | next=>exact False.elim hq'
    | brk=>exact False.elim hq'
    | cont=>exact False.elim hq'
theorem ziL (M:Mk X.K C f) (F:FnOk X.prog X.w X.K X.mg X.base CX k f fd ps sp) (hr:Room (k+1) X.A) (hg:Gl X x) (hm:X.mg x=some (.ref C)) (hb:Binds X.K fd ps ds) (hd:Vals dvs ds) (hx:Passes CX X E)
    (ha:PA X (e::es) t) (hdb:(x == ("__debug__":Str))=false:=by decide) (he:starEach (e::es) X.env=(false,eval e X.env)::starEach es X.env:=by rfl) (hpl:(backTo pos (starEach es X.env)).any (·.1)=false:=by rfl) :
    PE X (.Call (.Name x p) (e::es) [] pos) (zkj C sp dvs E t):=by
  intro pins s σ H Q I h
  refine wpAny_Call_Name_kw (zga I hg hm ?_ hdb)
  refine PySem.W.callWith_K (h₀:=X.base) I.ok.mod.kin M.kp (thn (ha pos pins s σ H _ I h) fun us s1 ⟨vs,H1,I1,r,q⟩=>⟨I1.kIn,?_⟩) he hpl
  exact zg1 M F hr hb hd hx I1 r q
end
section
variable {X:Cx}{CX:CXT}{k:Nat}{f C:Addr}{fd:FuncData}{ps ks:List Str}{sp:Sp}{E:XK}{x m:Str}{p pos apos kpos:Pos}{e o:Expr}{es:List Expr}{kws:List Keyword}{te ta:TE}{t tk:TA}{nm:Option Str}
variable {g:List Value→List Value→List Value}{gV:List V→List V→List V}
end
structure FnScope (N P:List Str) (sc:Scope):Prop where
  kind:sc.kind=.function
  co:sc.isCoroutine=false
  gen:sc.isGenerator=false
  nd:N.Nodup
  pre:N.take P.length=P
  par:∀ x∈P,sc.names.lookup x=some .local ∨ sc.names.lookup x=some .cell
  nofree:∀ y∈sc.names,y.2≠.free
theorem zdh {kindOf:Str→Option NameKind}{x:Str}:∀ {binds:List (Str × Value)}{m:Str→Option Value},(∀ v,(x,v)∉binds)→bindL kindOf binds m x=m x
  | [],_,_=>rfl
  | (n,v)::r,m,h=>by
    unfold bindL
    rw[zdh fun w hw=>h w (List.mem_cons_of_mem _ hw)]
    split
    · have:x≠n:=by rintro rfl;exact h v List.mem_cons_self
      simp[this]
    · rfl
theorem zdj {kindOf:Str→Option NameKind}{x:Str}:∀ {binds:List (Str × Value)}{m:Str→Option Value},(∀ v,(x,v)∉binds)→bindC kindOf binds m x=m x
  | [],_,_=>rfl
  | (n,v)::r,m,h=>by
    unfold bindC
    rw[zdj fun w hw=>h w (List.mem_cons_of_mem _ hw)]
    split
    · rfl
    · have:x≠n:=by rintro rfl;exact h v List.mem_cons_self
      simp[this]
theorem zdi {kindOf:Str→Option NameKind}{x:Str}{v:Value}:∀ {P:List Str}{vs:List Value}{i:Nat}{m:Str→Option Value},P.Nodup→P[i]?=some x→vs[i]?=some v→kindOf x=some .local →
    bindL kindOf (P.zip vs) m x=some v
  | [],_,_,_,_,h,_,_=>by simp at h
  | _::_,[],_,_,_,_,h,_=>by simp at h
  | p::P,w::vs,0,m,nd,h1,h2,hk=>by
    simp at h1 h2;subst h1;subst h2
    show bindL kindOf ((p,w)::P.zip vs) m p=_
    unfold bindL
    rw[zdh fun v hv=>(List.nodup_cons.mp nd).1 (List.of_mem_zip hv).1,if_pos hk]
    simp
  | p::P,w::vs,i+1,m,nd,h1,h2,hk=>by
    show bindL kindOf ((p,w)::P.zip vs) m x=_
    unfold bindL
    exact zdi (i:=i) (List.nodup_cons.mp nd).2 (by simpa using h1) (by simpa using h2) hk
theorem zdk {kindOf:Str→Option NameKind}{x:Str}{v:Value}:∀ {P:List Str}{vs:List Value}{i:Nat}{m:Str→Option Value},P.Nodup→P[i]?=some x→vs[i]?=some v→kindOf x≠some .local →
    bindC kindOf (P.zip vs) m x=some v
  | [],_,_,_,_,h,_,_=>by simp at h
  | _::_,[],_,_,_,_,h,_=>by simp at h
  | p::P,w::vs,0,m,nd,h1,h2,hk=>by
    simp at h1 h2;subst h1;subst h2
    show bindC kindOf ((p,w)::P.zip vs) m p=_
    unfold bindC
    rw[zdj fun v hv=>(List.nodup_cons.mp nd).1 (List.of_mem_zip hv).1,if_neg hk]
    simp
  | p::P,w::vs,i+1,m,nd,h1,h2,hk=>by
    show bindC kindOf ((p,w)::P.zip vs) m x=_
    unfold bindC
    exact zdk (i:=i) (List.nodup_cons.mp nd).2 (by simpa using h1) (by simpa using h2) hk
def start (N:List Str) (vs:List V):St:=vs.map some++List.replicate (N.length-vs.length) none
def cxOf (CX:CXT) (P:Program) (w:World) (K:PySem.W.Frag) (mg:Str→Option Value) (base:Heap) (N:List Str) (qual:Str) (scope:Scope) (f:Addr) (cd:Value) (A:Around) (outer:List Env) (s:Shared) (H:Hp) (E:XK):Cx where
  prog:=P
  w:=w
  K:=K
  mg:=mg
  base:=base
  A:=A.deeper (envOfC qual scope s.heap.objs.size f cd)
  N:=N
  s₀:=s
  H₀:=H
  env:=envOfC qual scope s.heap.objs.size f cd
  outer:=outer
  stack:=envOfC qual scope s.heap.objs.size f cd::outer
  ex:=[]
  calm:=true
  fn:=fun _=>true
  pn:=[]
  xe:=fun e s'=>wpAny (model P w) (A.deeper (envOfC qual scope s.heap.objs.size f cd)) (leaving (envOfC qual scope s.heap.objs.size f cd) e) (fun _ s''=>CX outer H s E e s'') (fun e' s''=>CX outer H s E e' s'') s'
theorem zeu {sc:Scope}{n:Nat}{x:Str}(h:sc.names.lookup x=some .cell):∃ c,(cellsFrom n sc.names []).lookup x=some c:=by
  have q:=PySem.W.cellsFrom_some sc.names n [] (.inl h)
  exact Option.isSome_iff_exists.mp q
theorem zgn {CX:CXT}{P:Program}{w:World}{K:PySem.W.Frag}{mg:Str→Option Value}{base:Heap}{N ps:List Str}{qual:Str}{scope:Scope}{f:Addr}{cd:Value}{A:Around}{outer:List Env}{s s1:Shared}{H:Hp}{E:XK}{us:List Value}{vs:List V}
    (S:FnScope N ps scope) (hd:A.handled=none) (e0:Env0 P w K mg base A outer s H) (hl:vs.length=ps.length) (r:Vals vs us)
    (x:InCallC s s.heap.objs.size (bindL (envOfC qual scope s.heap.objs.size f cd).kindOf (ps.zip us) fun _=>none) (cellsFrom (s.heap.objs.size+1) scope.names []) (bindC (envOfC qual scope s.heap.objs.size f cd).kindOf (ps.zip us) fun _=>none) s1) :
    Inv (cxOf CX P w K mg base N qual scope f cd A outer s H E) [] (start N vs) H s1:=by
  have hpl:ps.length≤N.length:=by have:=congrArg List.length S.pre;rw[List.length_take]at this;omega
  obtain⟨h1,tk,rfl,hk⟩:=x.done
  have noA:∀ b:Addr,b∉(cxOf CX P w K mg base N qual scope f cd A outer s H E).ex:=fun b z=>absurd (show b∈([]:List Addr) from z) (by simp)
  refine⟨⟨e0.mod,S.kind,rfl,rfl,Nat.le_refl _,fun y z c h1 h2=>?_,fun y hy=>?_,fun y c _ h=>?_,fun _=>hd,Around.frames_deeper e0.frames,.inr ⟨rfl,rfl⟩,fun b z=>absurd z (noA b),e0.bs,e0.bsz,fun b _ _=>noA b,fun b z=>absurd z (noA b),e0.funs,e0.frf⟩,
    rfl,e0.bare,Un.kept hk,⟨_,x.toInCall.ns,fun i y v h1 h2 h3=>?_⟩,fun y c h=>⟨_,x.cell y c h⟩,e0.hok.fresh (Nat.le_refl _),fun y c h=>?_,fun p hp=>absurd (show p∈([]:List (Addr × Obj)) from hp) (by simp),e0.hok.kept hk,?_⟩
  · exact name_of_addr x.apart (PySem.mem_of_lookup h1) (PySem.mem_of_lookup h2)
  · have hy:scope.names.lookup y=some .cell∨scope.names.lookup y=some .free:=hy
    rcases hy with hy|hy
    · exact zeu hy
    · exact absurd rfl (S.nofree _ (PySem.mem_of_lookup hy))
  · exact Nat.le_of_lt (x.above y c (PySem.mem_of_lookup h))
  · have hi:i<vs.length:=by
      unfold start at h2
      by_cases hi:i<vs.length
      · exact hi
      · rw[List.getElem?_append_right (by simpa using hi)]at h2
        rw[List.getElem?_replicate]at h2
        split at h2<;>cases h2
    have ha:vs[i]?=some v:=by
      unfold start at h2
      rw[List.getElem?_append_left (by simpa using hi),List.getElem?_map]at h2
      cases e:vs[i]? with
      | none=>rw[e]at h2;cases h2
      | some a=>rw[e]at h2;cases h2;rfl
    obtain⟨u,hu,rv⟩:=r.get ha
    have hp:ps[i]?=some y:=by
      rw[← S.pre,List.getElem?_take_of_lt (by omega)];exact h1
    have ndP:ps.Nodup:=by rw[← S.pre];exact S.nd.sublist (List.take_sublist _ _)
    refine⟨u,rv,?_⟩
    rcases S.par y (List.mem_of_getElem? hp) with k|k
    · exact .inl ⟨k,zdi ndP hp hu k⟩
    · obtain⟨c,e⟩:=zeu (n:=s.heap.objs.size+1) k
      refine .inr ⟨.inl k,c,e,?_⟩
      have q:=x.cell y c e
      rw[zdk ndP hp hu (by show scope.names.lookup y≠_;rw[k];decide)]at q
      exact q
  · exact e0.hok.fresh (Nat.le_of_lt (x.above y c (PySem.mem_of_lookup h)))
  · unfold start
    show _=N.length
    rw[List.length_append,List.length_map,List.length_replicate]
    omega
theorem zkJ {CX:CXT}{P:Program}{w:World}{K:PySem.W.Frag}{mg:Str→Option Value}{base:Heap}{k:Nat}{f:Addr}{name qual:Str}{params:Arguments}{body:List Stmt}{scope:Scope}{dV kV doc pm cdv ct oc:Value}{an od:Option Addr}
    {osl:Array (Option Value)}{N ps:List Str}{sp:Sp}(lk:K.lookup f=some ⟨oc,od,.func (PySem.W.fnOf name qual params body scope dV kV doc pm an cdv ct),osl⟩) (hcd:PySem.W.codeIn K cdv qual=true) (S:FnScope N ps scope)
    (len:∀ vs H Q E,sp vs H Q E→vs.length=ps.length)
    (hbody:∀ (A:Around) (outer:List Env) (s:Shared) (H:Hp) (vs:List V) (Q:VK) (E:XK),Room k (A.deeper (envOfC qual scope s.heap.objs.size f cdv))→sp vs H Q E →
      ∃ t,PSs (cxOf CX P w K mg base N qual scope f cdv A outer s H E) body t∧t { nx:=fun _ H'=>Q .non H',rt:=Q } (start N vs) H) :
    FnOk P w K mg base CX (k+1) f (PySem.W.fnOf name qual params body scope dV kV doc pm an cdv ct) ps sp:=by
  refine⟨len,fun A outer s H args us vs Q E hr e0 hb r hsp=>?_⟩
  have hl:=len _ _ _ _ hsp
  have KX:K.In s.heap:=e0.mod.kin.keeps fun b o e=>(e0.bs b o e).1
  have lim:s.heap.NoLimit:=e0.mod.nolimit.keeps fun b o e=>(e0.bs b o e).1
  have hkind:∀ y∈ps.zip us,scope.names.lookup y.1=some .local ∨ (scope.names.lookup y.1=some .cell∧((cellsFrom (s.heap.objs.size+1) scope.names []).lookup y.1).isSome=true):=fun ⟨n,v⟩ hy=>by
    rcases S.par n (List.of_mem_zip hy).1 with q|q
    · exact .inl q
    · exact .inr ⟨q,PySem.W.cellsFrom_some _ _ _ (.inl q)⟩
  refine codeAny_call_function hr.depth (KX _ _ lk) rfl S.co S.gen rfl (PySem.W.codeRec_of KX hcd) (hb _ _ _ _ ?_)
  refine wpAny_newFunctionEnv_cells S.kind hkind fun env he s1 x=>?_
  subst he
  refine⟨lim.keeps x.toInCall.keep,codeAny_func ?_⟩
  obtain⟨t,ht,hq⟩:=hbody A outer s H vs Q E (hr.deeper _) hsp
  have I:Inv (cxOf CX P w K mg base N qual scope f cdv A outer s H E) [] (start N vs) H s1:=zgn S hr.hd e0 hl r x
  refine wpAny_mono (ht [] s1 (start N vs) H _ I hq) (fun fl s' hs=>?_) fun e s' hs=>hs
  have fin:∀ {σ':St}{H':Hp}{v:V}{u:Value},Inv (cxOf CX P w K mg base N qual scope f cdv A outer s H E) [] σ' H' s'→RelV v u→Q v H'→CE outer P w H s Q u s' :=
    fun {σ' H' v u} J rv q=>⟨v,H',J.os,J.bare,J.base,J.hok,rv,q⟩
  cases fl with
  | ret u =>
    obtain⟨v,σ',H',J,rv,q⟩:=hs
    exact fin J rv q
  | next =>
    obtain⟨σ',H',J,q⟩:=hs
    exact fin (v:=V.non) (u:=Value.none) J rfl q
  | brk =>
    obtain⟨_,_,_,q⟩:=hs
    exact False.elim q
  | cont =>
    obtain⟨_,_,_,q⟩:=hs
    exact False.elim q
section
variable {X:Cx}{x:Str}{p pos:Pos}{e:Expr}{es:List Expr}{t:TA}{id T:String}{r:List V→Hp→VK→Prop}
def tCB (r:List V→Hp→VK→Prop) (t:TA):TE:=fun σ H Q=>t σ H fun vs H1=>r vs H1 Q
theorem pe_callB (hc:CallR X (.builtin id) r) (hg:Gl X x) (hm:X.mg x=none) (hv:bootBuiltins x=some (.builtin id)) (ha:PA X (e::es) t) (hn:x≠"__name__":=by decide) (hdb:(x == ("__debug__":Str))=false:=by decide)
    (he:starEach (e::es) X.env=(false,eval e X.env)::starEach es X.env:=by rfl) (hpl:(backTo pos (starEach es X.env)).any (·.1)=false:=by rfl):PE X (.Call (.Name x p) (e::es) [] pos) (tCB r t):=by
  intro pins s σ H Q I h
  refine wpAny_Call_Name_kw (zaD I hg hm hv ?_ hn hdb)
  exact PyProof.Rows.callWith_builtin1 (thn (ha pos pins s σ H _ I h) fun us s1 ⟨vs,H1,I1,r1,q1⟩=>hc pins s1 σ H1 vs us Q I1 r1 q1) he hpl
theorem pe_callTy (hc:CallR X (.type T) r) (hg:Gl X x) (hm:X.mg x=none) (hv:bootBuiltins x=some (.type T)) (ha:PA X (e::es) t) (hn:x≠"__name__":=by decide) (hdb:(x == ("__debug__":Str))=false:=by decide)
    (he:starEach (e::es) X.env=(false,eval e X.env)::starEach es X.env:=by rfl) (hpl:(backTo pos (starEach es X.env)).any (·.1)=false:=by rfl):PE X (.Call (.Name x p) (e::es) [] pos) (tCB r t):=by
  intro pins s σ H Q I h
  refine wpAny_Call_Name_kw (zaD I hg hm hv ?_ hn hdb)
  exact PyProof.Rows.callWith_type1 (thn (ha pos pins s σ H _ I h) fun us s1 ⟨vs,H1,I1,r1,q1⟩=>hc pins s1 σ H1 vs us Q I1 r1 q1) he hpl
end
end L2
namespace HT
open PySem PyProof.Rows
section
open PySem.SeqAt
open PySem.AutoSeq1 (wpAny_loadPart')
open PySem.MeetsSeq PySem.MeetsSeq2 PySem.MeetsSeq3
end
section
variable {prog:Program}{w:World}{A:Around}{E:Value→Shared→Prop}{s:Shared}
def sIx (n d:Nat):Option Int→Nat
  | none=>d
  | some v=>if v<0 then (v+(n:Int)).toNat else min v.toNat n
theorem sIx_none (n d:Nat):sIx n d none=d:=rfl
theorem sIx_nat (n d k:Nat):sIx n d (some (k:Int))=min k n:=by
  show (if (k:Int)<0 then ((k:Int)+(n:Int)).toNat else min (k:Int).toNat n)=min k n
  rw[if_neg (by omega),Int.toNat_natCast]
theorem zjB (n d:Nat) (hd:d≤n) (o:Option Int):sIx n d o≤n:=by
  cases o with
  | none=>exact hd
  | some v =>
    show (if v<0 then (v+(n:Int)).toNat else min v.toNat n)≤n
    by_cases hv:v<0
    · rw[if_pos hv];omega
    · rw[if_neg hv];exact Nat.min_le_right _ _
theorem zgH (v:Int) (n d:Nat):(if v<0 then max (v+(n:Int)) 0 else min v (n:Int))=((sIx n d (some v):Nat):Int):=by
  show (if v<0 then max (v+(n:Int)) 0 else min v (n:Int))=(((if v<0 then (v+(n:Int)).toNat else min v.toNat n):Nat):Int)
  by_cases hv:v<0
  · simp only[if_pos hv];omega
  · simp only[if_neg hv];omega
theorem ze2 (lo hi:Option Int) (n:Nat):Builtin.Slice.sliceAdjust lo hi 1 (n:Int)=(((sIx n 0 lo:Nat):Int),((sIx n n hi:Nat):Int)):=by
  have h1:¬((1:Int)<0):=by omega
  unfold Builtin.Slice.sliceAdjust
  simp only[h1,if_false]
  refine Prod.ext ?_ ?_
  · cases lo with
    | none=>rfl
    | some v=>exact zgH v n 0
  · cases hi with
    | none=>rfl
    | some v=>exact zgH v n n
theorem zeF (i j:Nat):Builtin.Slice.slicePlaces (i:Int) (j:Int) 1=j-i:=by
  unfold Builtin.Slice.slicePlaces
  have h1:(1:Int) > 0:=by omega
  simp only[h1,if_true,Int.ediv_one]
  split<;>omega
theorem zb1 {v:Value}{o:Option Int}{Q:Option Int→Shared→Prop}(p:IsPart v o) (h:Q o s):wpAny (model prog w) A (Builtin.Slice.slicePartIndex v) Q E s:=by
  cases p with
  | none=>exact slicePart_none h
  | int i t=>exact slicePart_int h
theorem sliceApplied_gen {sl:Addr}{vl vu:Value}{lo hi:Option Int}{n:Nat}{Q:Int × Int × Nat→Shared→Prop}(hs:s.heap.IsSliceOf sl vl vu .none) (pl:IsPart vl lo) (pu:IsPart vu hi)
    (h:Q (((sIx n 0 lo:Nat):Int),1,sIx n n hi-sIx n 0 lo) s):wpAny (model prog w) A (Builtin.Slice.sliceApplied (.ref sl) (pure (n:Int))) Q E s:=by
  obtain⟨os,hos,hcs,hds⟩:=id hs
  unfold Builtin.Slice.sliceApplied Builtin.Slice.sliceFields
  refine wpAny_bind (wpAny_bind (wpAny_field hos hds (x:=vl) rfl (wpAny_bind (wpAny_field hos hds (x:=vu) rfl (wpAny_bind (wpAny_field hos hds (x:=.none) rfl (wpAny_pure ?_)))))))
  refine wpAny_bind (slicePart_none ?_)
  show wpAny _ _ (if ((1:Int) == 0)=true then _ else _) _ _ s
  rw[if_neg (by decide)]
  refine wpAny_bind (zb1 pl (wpAny_bind (zb1 pu (wpAny_bind (wpAny_pure ?_)))))
  show wpAny _ _ (match Builtin.Slice.sliceAdjust lo hi 1 (n:Int) with|(lo,hi)=>pure (lo,(1:Int),Builtin.Slice.slicePlaces lo hi 1)) _ _ s
  rw[ze2 lo hi n]
  show wpAny _ _ (pure (((sIx n 0 lo:Nat):Int),(1:Int),Builtin.Slice.slicePlaces ((sIx n 0 lo:Nat):Int) ((sIx n n hi:Nat):Int) 1)) _ _ s
  rw[zeF]
  exact wpAny_pure h
theorem zg3 (xs:Array Value) (i k:Nat):((List.range k).filterMap fun (m:Nat)=>xs[((i:Int)+(m:Int)*1).toNat]?).toArray=((xs.toList.drop i).take k).toArray:=by
  have e:(fun (m:Nat)=>xs[((i:Int)+(m:Int)*1).toNat]?)=fun m=>xs[i+m]?:=by
    funext m
    have:((i:Int)+(m:Int)*1).toNat=i+m:=by omega
    rw[this]
  rw[e]
  have:=pick_run xs i k
  rw[List.filterMap_map]at this
  have e2:((fun x=>xs[x]?)∘fun x=>i+x)=fun m=>xs[i+m]?:=rfl
  rw[e2]at this
  rw[this]
theorem getItem_tuple_cut {t sl:Addr}{items:Array Value}{vl vu:Value}{lo hi:Option Int}{Q:Value→Shared→Prop}(ht:IsTup s.heap t items) (hs:s.heap.IsSliceOf sl vl vu .none) (pl:IsPart vl lo) (pu:IsPart vu hi)
    (hw:¬(sIx items.size 0 lo=0∧sIx items.size items.size hi=items.size))
    (h:Q (.ref s.heap.objs.size) { s with heap:=s.heap.push { cls:=.type "tuple",data:=.seq ((items.toList.drop (sIx items.size 0 lo)).take (sIx items.size items.size hi-sIx items.size 0 lo)).toArray } })
    (hsz:items.size≤sizeLine):wpAny (model prog w) A (getItem (.ref t) (.ref sl)) Q E s:=by
  have htake:sizeOk (.seq ((items.toList.drop (sIx items.size 0 lo)).take (sIx items.size items.size hi-sIx items.size 0 lo)).toArray):=by
    show ((items.toList.drop (sIx items.size 0 lo)).take (sIx items.size items.size hi-sIx items.size 0 lo)).toArray.size≤sizeLine
    rw[List.size_toArray,List.length_take,List.length_drop,Array.length_toList]
    omega
  have hj:sIx items.size items.size hi≤items.size:=zjB _ _ (Nat.le_refl _) hi
  obtain⟨os,hos,hcs,hds⟩:=id hs
  have hTs:s.TypeIs (.ref sl) "slice":=⟨os,hos,hcs⟩
  unfold getItem
  try with_reducible refine wpAny_holding ?_
  first|refine wpAny_bind (wpAny_pure ?_)|skip
  refine wpAny_bind (wpAny_sequenceKey ht.typeIs (by decide) ?_)
  refine wpAny_bind (wpAny_callSpecial?_slot (name:=Str.ofString "__getitem__") ht.typeIs PyProof.Rows.slot_tuple_getitem
    (wpAny_call_entry PyProof.Rows.slot_tuple_getitem ht.typeIs entry_tuple_getitem ?_ (args_tuple_getitem _ _)))
  show wpAny _ _ (Builtin.Tuple.tupleItemsOf (.ref t) >>= _) _ _ s
  refine wpAny_bind (tupleItemsOf_ ht ?_)
  refine wpAny_bind (wpAny_typeOf hTs ?_)
  rw[if_pos (by decide)]
  refine wpAny_bind (sliceApplied_gen hs pl pu ?_)
  have hno:¬((((sIx items.size 0 lo:Nat):Int) == 0 && (1:Int) == 1 && (sIx items.size items.size hi-sIx items.size 0 lo) == items.size)=true):=by
    intro q
    rw[Bool.and_eq_true,Bool.and_eq_true]at q
    have q1:((sIx items.size 0 lo:Nat):Int)=0:=eq_of_beq q.1.1
    have q2:sIx items.size items.size hi-sIx items.size 0 lo=items.size:=eq_of_beq q.2
    exact hw ⟨by omega,by omega⟩
  show wpAny _ _ (if (((sIx items.size 0 lo:Nat):Int) == 0 && (1:Int) == 1 && (sIx items.size items.size hi-sIx items.size 0 lo) == items.size)=true then _ else _) _ _ s
  rw[if_neg hno,zg3]
  first
    | exact wpAny_bind (m:=Builtin.Tuple.tupleExact _) (wpAny_newObj_type (wpAny_pure ⟨_,rfl,wpAny_pure h⟩) htake)
    | exact wpAny_bind (m:=Builtin.Tuple.tupleExact _) (wpAny_newObj_type (wpAny_bind (wpAny_pure (wpAny_pure ⟨_,rfl,wpAny_pure h⟩))) htake)
    | exact wpAny_bind (wpAny_bind (m:=Builtin.Tuple.tupleExact _) (wpAny_newObj_type (wpAny_pure (wpAny_pure ⟨_,rfl,wpAny_pure h⟩)) htake))
    | exact wpAny_bind (wpAny_bind (m:=Builtin.Tuple.tupleExact _) (wpAny_newObj_type (wpAny_pure ⟨_,rfl,wpAny_pure h⟩) htake))
end
end HT
namespace L2
open PySem PySem.Spec PyProof.Rows
abbrev TO:=St→Hp→(Option Int→Hp→Prop)→Prop
def PO (X:Cx) (e:Option Expr) (t:TO):Prop :=
  ∀ (pins:List (Addr × Obj)) (s:Shared) (σ:St) (H:Hp) (Q:Option Int→Hp→Prop),Inv X pins σ H s→t σ H Q →
    wpAny (model X.prog X.w) X.A (evalPart e X.env) (fun u s'=>∃ o H',Inv X pins σ H' s'∧IsPart u o∧Q o H') X.xe s
def zie:TO:=fun _ H Q=>Q none H
def zkg (t:TE):TO:=fun σ H Q=>t σ H fun x H1=>∃ i,x=.int i∧Q (some i) H1
section
variable {X:Cx}{e:Expr}{te:TE}{lo hi:Option Expr}{tl th:TO}{pos p2:Pos}
theorem zaQ:PO X none zie:=by
  intro pins s σ H Q I h
  rw[evalPart_none]
  exact wpAny_pure ⟨none,H,I,.none,h⟩
theorem zau (h:PE X e te):PO X (some e) (zkg te):=by
  intro pins s σ H Q I hw
  rw[evalPart_some]
  refine thn (h pins s σ H _ I hw) fun u s1 ⟨x,H1,I1,r1,q1⟩=>?_
  obtain⟨i,rfl,q⟩:=q1
  obtain⟨t,rfl⟩:=r1
  exact⟨some i,H1,I1,.int i t,q⟩
def SlR (X:Cx) (r:V→Option Int→Option Int→Hp→VK→Prop):Prop :=
  ∀ (pins:List (Addr × Obj)) (s:Shared) (σ:St) (H:Hp) (x:V) (v vl vu:Value) (lo hi:Option Int) (sl:Addr) (Q:VK),Inv X pins σ H s→RelV x v→s.heap.IsSliceOf sl vl vu .none→IsPart vl lo→IsPart vu hi→r x lo hi H Q →
    ∃ T id,typeLookup (.type T) "__getitem__" = pure (some (.builtin id))∧s.TypeIs v T∧wpAny (model X.prog X.w) X.A (getItem v (.ref sl)) (EP X pins σ Q) X.xe s
def tSl (r:V→Option Int→Option Int→Hp→VK→Prop) (te:TE) (tl th:TO):TE:=fun σ H Q=>te σ H fun x H1=>tl σ H1 fun l H2=>th σ H2 fun u H3=>r x l u H3 Q
theorem za1 {r:V→Option Int→Option Int→Hp→VK→Prop}(hr:SlR X r) (he:PE X e te) (hl:PO X lo tl) (hu:PO X hi th):PE X (.Subscript e (.Slice lo hi none p2) pos) (tSl r te tl th):=by
  intro pins s σ H Q I h
  refine Subscript_ (thn (he pins s σ H _ I h) fun v s1 ⟨x,H1,I1,r1,q1⟩=>?_)
  refine wpAny_Slice (thn (hl pins s1 σ H1 _ I1 q1) fun vl s2 ⟨l,H2,I2,pl,q2⟩=>thn (hu pins s2 σ H2 _ I2 q2) fun vu s3 ⟨u,H3,I3,pu,q3⟩=>?_)
  rw[evalPart_none]
  refine wpAny_pure ?_
  have I4:Inv X pins σ H3 { s3 with heap:=s3.heap.push { cls:=.type "slice",data:=.fields #[vl,vu,.none] } }:=I3.kept (t':=s3.toks) fun b ob q=>Heap.get?_push_of_some _ q
  obtain⟨T,id,hT,ht,hg⟩:=hr pins { s3 with heap:=s3.heap.push { cls:=.type "slice",data:=.fields #[vl,vu,.none] } } σ H3 x v vl vu l u s3.heap.objs.size Q I4 r1 (Heap.IsSliceOf.new ..) pl pu q3
  show wpAny (model X.prog X.w) X.A (subscriptTail e (.Slice lo hi none p2) v (.ref s3.heap.objs.size)) (EP X pins σ Q) X.xe { s3 with heap:=s3.heap.push { cls:=.type "slice",data:=.fields #[vl,vu,.none] } }
  exact tail_any (ops:=[.ref s3.heap.objs.size,v]) ht hT hg (by with_unfolding_all rfl)
def cutV (xs:List V) (lo hi:Option Int):List V:=(xs.drop (HT.sIx xs.length 0 lo)).take (HT.sIx xs.length xs.length hi-HT.sIx xs.length 0 lo)
theorem zbT (xs:List V) (lo hi:Option Int):(cutV xs lo hi).length≤xs.length:=by
  unfold cutV
  rw[List.length_take,List.length_drop]
  omega
def rSlT (K:PySem.W.Frag):V→Option Int→Option Int→Hp→VK→Prop:=fun x lo hi H Q=>∃ a xs,x=.ref a∧SqT K H a xs ∧
  ¬(HT.sIx xs.length 0 lo=0∧HT.sIx xs.length xs.length hi=xs.length)∧∀ p,H p=none→Q (.ref p) (upd H p (.tup (cutV xs lo hi)))
theorem zjA:SlR X (rSlT X.K):=by
  intro pins s σ H x v vl vu lo hi sl Q I rx hs pl pu h
  obtain⟨a,xs,rfl,hx,hw,q⟩:=h
  cases rx
  obtain⟨its,r,ht,hz⟩:=I.tuple hx
  have hlen:its.toArray.size=xs.length:=by rw[List.size_toArray];exact r.length.symm
  refine⟨"tuple",_,PyProof.Rows.slot_tuple_getitem.lookup,ht.typeIs,?_⟩
  refine HT.getItem_tuple_cut ht hs pl pu (by rw[hlen];exact hw) ?_ (by rw[hlen];exact hz)
  rw[hlen]
  refine⟨.ref s.heap.objs.size,_,I.laid (t':=s.toks) (o:=.tup (cutV xs lo hi)) (fun b ob q=>Heap.get?_push_of_some _ q) (Nat.le_refl _) ?_,rfl,q _ (I.hok.fresh (Nat.le_refl _))⟩
  exact⟨Nat.le_trans (zbT xs lo hi) hz,_,(r.drop (HT.sIx xs.length 0 lo)).take (HT.sIx xs.length xs.length hi-HT.sIx xs.length 0 lo),TupX.new _ _⟩
end
def ixN (n:Nat) (i:Int):Option Nat:=if 0≤i then (if i<n then some i.toNat else none) else if -(n:Int)≤i then some (i+n).toNat else none
def atI {α:Type}(xs:List α) (i:Int):Option α:=(ixN xs.length i).bind fun j=>xs[j]?
theorem zdQ {n:Nat}{i:Int}{j:Nat}(h:ixN n i=some j):seqIndex? i n=some j∧j<n∧-(n:Int)≤i∧i<n:=by
  unfold ixN at h
  by_cases h0:0≤i
  · rw[if_pos h0]at h
    by_cases h1:i<n
    · rw[if_pos h1]at h
      have e:i.toNat=j:=Option.some.inj h
      exact⟨by rw[seqIndex_of h0 h1,e],by omega,by omega,h1⟩
    · rw[if_neg h1]at h;cases h
  · rw[if_neg h0]at h
    by_cases h1:-(n:Int)≤i
    · rw[if_pos h1]at h
      have e:(i+n).toNat=j:=Option.some.inj h
      exact⟨by rw[seqIndex_neg (by omega) h1,e],by omega,h1,by omega⟩
    · rw[if_neg h1]at h;cases h
theorem zgO {α:Type}{xs:List α}{i:Int}{v:α}(h:atI xs i=some v):∃ j,seqIndex? i xs.length=some j∧xs[j]?=some v∧j<xs.length∧-(xs.length:Int)≤i∧i<xs.length:=by
  unfold atI at h
  cases e:ixN xs.length i with
  | none=>rw[e]at h;cases h
  | some j =>
    rw[e]at h
    obtain⟨h1,h2,h3,h4⟩:=zdQ e
    exact⟨j,h1,h,h2,h3,h4⟩
theorem zah {α:Type}{xs:List α}{j:Nat}{v:α}(h:xs[j]?=some v):atI xs (j:Int)=some v:=by
  have hj:j<xs.length:=(List.getElem?_eq_some_iff.mp h).1
  have e:ixN xs.length (j:Int)=some j:=by
    unfold ixN
    rw[if_pos (by omega),if_pos (by omega)];simp
  unfold atI;rw[e];exact h
theorem zhH {α:Type}(xs:List α) (v:α):atI (xs++[v]) (-1)=some v:=by
  have hl:(xs++[v]).length=xs.length+1:=by simp
  have e:ixN (xs++[v]).length (-1)=some xs.length:=by
    unfold ixN
    rw[hl,if_neg (by decide),if_pos (by omega)]
    congr 1
    omega
  unfold atI
  rw[e]
  show (xs++[v])[xs.length]?=some v
  simp
def PlainIx (b:Expr):Prop:=∀ o i,subscripted b false o i=operate [o,i] (getItem o i)
def IxR (X:Cx) (r:R2):Prop :=
  ∀ (value slice:Expr) (pins:List (Addr × Obj)) (s:Shared) (σ:St) (H:Hp) (x y:V) (v u:Value) (Q:VK),Inv X pins σ H s→RelV x v→RelV y u→r x y H Q →
    subscripted slice false v u=operate [v,u] (getItem v u)→wpAny (model X.prog X.w) X.A (subscriptTail value slice v u) (EP X pins σ Q) X.xe s
def MtR (X:Cx) (id:String) (r:V→List V→Hp→VK→Prop):Prop :=
  ∀ (pins:List (Addr × Obj)) (s:Shared) (σ:St) (H:Hp) (x:V) (xs:List V) (v:Value) (us:List Value) (Q:VK),Inv X pins σ H s→RelV x v→Vals xs us→r x xs H Q →
    wpAny (model X.prog X.w) X.A (call (.builtin id) (v::us)) (EP X pins σ Q) X.xe s
section
variable {X:Cx}{a b:Expr}{ta tb:TE}{pos:Pos}
theorem pe_ix {r:R2}(hr:IxR X r) (ha:PE X a ta) (hb:PE X b tb) (hs:PlainIx b):PE X (.Subscript a b pos) (tOp r ta tb):=by
  intro pins s σ H Q I h
  exact Subscript_ (binT ha hb I h fun v u s2 x y H2 I2 rx ry q=>hr a b pins s2 σ H2 x y v u Q I2 rx ry q (hs _ _))
def rIxL (K:PySem.W.Frag):R2:=fun x y H Q=>∃ p xs i v,x=.ref p∧y=.int i∧SqL K H p xs∧atI xs i=some v∧Q v H
def rIxT (K:PySem.W.Frag):R2:=fun x y H Q=>∃ p xs i v,x=.ref p∧y=.int i∧SqT K H p xs∧atI xs i=some v∧Q v H
theorem ix_list:IxR X (rIxL X.K):=by
  intro value slice pins s σ H x y v u Q I rx ry h hs
  obtain⟨p,xs,i,z,rfl,rfl,hq,he,q⟩:=h
  cases rx
  obtain⟨t,rfl⟩:=ry
  obtain⟨its,r,pl,hz⟩:=I.list hq
  obtain⟨j,h1,h2,h3,h4,h5⟩:=zgO he
  obtain⟨w,ew,rw'⟩:=r.get h2
  have hl:=r.length
  have hn:=zc7
  have fin:EP X pins σ Q w s:=⟨z,H,I,rw',q⟩
  by_cases h0:0≤i
  · have hj:i.toNat=j:=by
      rw[seqIndex_of h0 h5]at h1
      exact Option.some.inj h1
    exact item_listR pl.isList h0 (by omega) (by rw[hj];simpa using ew) fin hs
  · have hj:(i+(its.toArray.size:Int)).toNat=j:=by
      rw[seqIndex_neg (by omega) h4]at h1
      rw[List.size_toArray,← hl]
      exact Option.some.inj h1
    exact subscriptTail_builtinR (x:=w) pl.isList.typeIs slot_list_getitem.lookup
      (wpAny_getItem_list_neg (Q:=fun r s'=>r=w∧EP X pins σ Q r s') pl.isList (by omega) (by rw[List.size_toArray]<;>omega) (by omega) (by rw[hj];simpa using ew) ⟨rfl,fin⟩) hs
theorem ix_tup:IxR X (rIxT X.K):=by
  intro value slice pins s σ H x y v u Q I rx ry h hs
  obtain⟨p,xs,i,z,rfl,rfl,hq,he,q⟩:=h
  cases rx
  obtain⟨t,rfl⟩:=ry
  obtain⟨its,r,pl,hz⟩:=I.tuple hq
  obtain⟨j,h1,h2,h3,h4,h5⟩:=zgO he
  obtain⟨w,ew,rw'⟩:=r.get h2
  have hl:=r.length
  have hn:=zc7
  have fin:EP X pins σ Q w s:=⟨z,H,I,rw',q⟩
  exact subscriptTail_builtinR (x:=w) pl.typeIs slot_tuple_getitem.lookup
    (getItem_tuple (j:=j) (Q:=fun r s'=>r=w∧EP X pins σ Q r s') pl (by omega) (by omega) (by rw[List.size_toArray,← hl];exact h1) (by simpa using ew) ⟨rfl,fin⟩) hs
theorem zeP (its:List Value) (n j:Nat) (u:Value):Obj.mapSeq (·.setIfInBounds j u) { cls:=.type "list",data:=.seq its.toArray n }={ cls:=.type "list",data:=.seq (its.set j u).toArray n }:=by
  simp[Obj.mapSeq]
theorem Inv.lst {pins:List (Addr × Obj)}{σ:St}{H:Hp}{s:Shared}{p:Addr}{xs:List V}(I:Inv X pins σ H s) (h:H p=some (.lst xs)) :
    ∃ (its:List Value) (n:Nat),Vals xs its∧s.heap.get? p=some { cls:=.type "list",data:=.seq its.toArray n }∧xs.length≤sizeLine:=by
  obtain⟨z,its,n,r,e⟩:=I.hok p _ h
  exact⟨its,n,r,e,z⟩
theorem Inv.lstUpd {pins:List (Addr × Obj)}{σ:St}{H:Hp}{s:Shared}{p:Addr}{xs ys:List V}{its its':List Value}{n n':Nat}{f:Obj→Obj}(I:Inv X pins σ H s) (h:H p=some (.lst xs))
    (ho:s.heap.get? p=some { cls:=.type "list",data:=.seq its.toArray n }) (hf:f { cls:=.type "list",data:=.seq its.toArray n }={ cls:=.type "list",data:=.seq its'.toArray n' }) (r:Vals ys its') (hz:ys.length≤sizeLine) (t:Nat) :
    Inv X pins σ (upd H p (.lst ys)) { s with heap:=s.heap.update p f,toks:=t }:=by
  have e:(s.heap.update p f).get? p=some { cls:=.type "list",data:=.seq its'.toArray n' }:=by
    rw[Heap.get?_update_self f ho (by rw[hf]<;>rfl),hf]
  refine I.write (x:=p) (e:=p) (by rw[h];trivial) (.inl rfl) (fun b u hb q=>(Heap.get?_update_other _ _ (Ne.symm hb)).trans q) ⟨_,e⟩ ?_
  exact⟨hz,its',n',r,e⟩
def zkr:V→V→V→Hp→(Hp→Prop)→Prop:=fun o i v H Q=>∃ p xs k j,o=.ref p∧i=.int k∧H p=some (.lst xs)∧ixN xs.length k=some j∧Q (upd H p (.lst (xs.set j v)))
theorem set_list:PSet X zkr:=by
  intro pins s σ H o i v ov iv u Q I ro ri rv h
  obtain⟨p,xs,k,j,rfl,rfl,hp,hj,q⟩:=h
  cases ro
  obtain⟨t,rfl⟩:=ri
  obtain⟨its,n,r,ho,hz⟩:=I.lst hp
  obtain⟨h1,h2,h3,h4⟩:=zdQ hj
  have hl:=r.length
  have hn:=zc7
  have I':Inv X pins σ (upd H p (.lst (xs.set j v))) { s with heap:=s.heap.update p (Obj.mapSeq (·.setIfInBounds j u)) } :=
    I.lstUpd hp ho (zeP its n j u) (r.set rv j) (by rw[List.length_set];exact hz) s.toks
  by_cases h0:0≤k
  · have hk:k.toNat=j:=by
      rw[seqIndex_of h0 h4]at h1
      exact Option.some.inj h1
    exact PySem.W.ki_setAt ho h0 (by omega) (by rw[List.size_toArray,← hl];exact h4) (by rw[hk];exact⟨_,I',q⟩)
  · have hk:(k+(its.toArray.size:Int)).toNat=j:=by
      rw[seqIndex_neg (by omega) h3]at h1
      rw[List.size_toArray,← hl]
      exact Option.some.inj h1
    exact PySem.W.ki_setBack ho (by omega) (by rw[List.size_toArray,← hl];exact h3) (by omega) (by rw[hk];exact⟨_,I',q⟩)
theorem zcS (lo hi:Option Int) (n:Nat):(sliceBounds lo hi none n).1=((HT.sIx n 0 lo:Nat):Int)∧(sliceBounds lo hi none n).2.1=((HT.sIx n n hi:Nat):Int)∧(sliceBounds lo hi none n).2.2=1:=by
  refine⟨?_,?_,rfl⟩
  · cases lo with
    | none=>simp[sliceBounds,HT.sIx]
    | some i =>
      simp only[sliceBounds,HT.sIx,Option.getD_none,show (1:Int) > 0 by decide,if_true]
      by_cases h:i<0
      · simp only[h,if_true]<;>omega
      · simp only[h,if_false]<;>omega
  · cases hi with
    | none=>simp[sliceBounds,HT.sIx]
    | some i =>
      simp only[sliceBounds,HT.sIx,Option.getD_none,show (1:Int) > 0 by decide,if_true]
      by_cases h:i<0
      · simp only[h,if_true]<;>omega
      · simp only[h,if_false]<;>omega
theorem zcp (its:List Value) (lo hi:Option Int):slicePick its.toArray lo hi none=((its.drop (HT.sIx its.length 0 lo)).take (HT.sIx its.length its.length hi-HT.sIx its.length 0 lo)).toArray:=by
  obtain⟨h1,h2,h3⟩:=zcS lo hi its.toArray.size
  unfold slicePick
  rw[h1,h2,h3]
  simp only[sliceRange_one,pick_run,List.size_toArray]<;>rfl
def rSlL (K:PySem.W.Frag):V→Option Int→Option Int→Hp→VK→Prop:=fun x lo hi H Q=>∃ a xs,x=.ref a∧SqL K H a xs∧∀ p,H p=none→Q (.ref p) (upd H p (.lst (cutV xs lo hi)))
theorem zcq:SlR X (rSlL X.K):=by
  intro pins s σ H x v vl vu lo hi sl Q I rx hs pl pu h
  obtain⟨a,xs,rfl,hx,q⟩:=h
  cases rx
  obtain⟨its,r,ht,hz⟩:=I.list hx
  have hlen:=r.length
  refine⟨"list",_,slot_list_getitem.lookup,ht.isList.typeIs,?_⟩
  refine wpAny_getItem_list_slice ht.isList hs pl pu .none (by simp) ?_ (by rw[List.size_toArray]<;>omega)
  rw[zcp,← hlen]
  refine⟨.ref s.heap.objs.size,_,I.laid (t':=s.toks) (o:=.lst (cutV xs lo hi)) (fun b ob q=>Heap.get?_push_of_some _ q) (Nat.le_refl _) ?_,rfl,q _ (I.hok.fresh (Nat.le_refl _))⟩
  exact⟨Nat.le_trans (zbT xs lo hi) hz,_,0,(r.drop (HT.sIx xs.length 0 lo)).take (HT.sIx xs.length xs.length hi-HT.sIx xs.length 0 lo),Heap.get?_push_size _ rfl⟩
def zbQ:V→Bool
  | .non=>true
  | .bl _=>true
  | .int _=>true
  | .str _=>true
  | _=>false
def eqV:V→V→Bool
  | .non,.non=>true
  | .bl a,.bl b=>a == b
  | .bl a,.int b=>(if a then 1 else 0) == b
  | .int a,.bl b=>a == (if b then 1 else 0)
  | .int a,.int b=>a == b
  | .str a,.str b=>a == b
  | _,_=>false
theorem zde {A:Around}{s:Shared}{y x:V}{u v:Value}(ry:RelV y u) (rx:RelV x v) (fy:zbQ y=true) (fx:zbQ x=true):SeqAt.EqAt A s u v (eqV y x):=by
  cases y with
  | non =>
    cases ry
    cases x with
    | non=>cases rx;exact SeqAt.EqAt.same _
    | bl b=>cases rx;exact SeqAt.EqAt.none_bool b
    | int b=>obtain⟨t,rfl⟩:=rx;exact SeqAt.EqAt.none_int b t
    | str b=>obtain⟨t,rfl⟩:=rx;exact SeqAt.EqAt.none_str b t
    | _=>exact absurd (show false=true from fx) Bool.false_ne_true
  | bl a =>
    cases ry
    cases x with
    | non=>cases rx;exact SeqAt.EqAt.bool_none a
    | bl b=>cases rx;exact SeqAt.EqAt.bool_bool a b
    | int b=>obtain⟨t,rfl⟩:=rx;exact SeqAt.EqAt.bool_int a b t
    | str b=>obtain⟨t,rfl⟩:=rx;exact SeqAt.EqAt.bool_str a b t
    | _=>exact absurd (show false=true from fx) Bool.false_ne_true
  | int a =>
    obtain⟨t',rfl⟩:=ry
    cases x with
    | non=>cases rx;exact SeqAt.EqAt.int_none a t'
    | bl b=>cases rx;exact SeqAt.EqAt.int_bool a t' b
    | int b=>obtain⟨t,rfl⟩:=rx;exact SeqAt.EqAt.int_int a t' b t
    | str b=>obtain⟨t,rfl⟩:=rx;exact SeqAt.EqAt.int_str a t' b t
    | _=>exact absurd (show false=true from fx) Bool.false_ne_true
  | str a =>
    obtain⟨t',rfl⟩:=ry
    cases x with
    | non=>cases rx;exact SeqAt.EqAt.str_none a t'
    | bl b=>cases rx;exact SeqAt.EqAt.str_bool a t' b
    | int b=>obtain⟨t,rfl⟩:=rx;exact SeqAt.EqAt.str_int a t' b t
    | str b=>obtain⟨t,rfl⟩:=rx;exact SeqAt.EqAt.str_str a t' b t
    | _=>exact absurd (show false=true from fx) Bool.false_ne_true
  | _=>exact absurd (show false=true from fy) Bool.false_ne_true
def eqU (x:V) (u:Value):Bool:=match u with
  | .none=>eqV .non x
  | .bool b=>eqV (.bl b) x
  | .int i _=>eqV (.int i) x
  | .str z _=>eqV (.str z) x
  | _=>false
theorem zh2 {x y:V}{u:Value}(r:RelV y u) (f:zbQ y=true):eqU x u=eqV y x:=by
  cases y with
  | non=>cases r;rfl
  | bl b=>cases r;rfl
  | int i=>obtain⟨t,rfl⟩:=r;rfl
  | str z=>obtain⟨t,rfl⟩:=r;rfl
  | _=>exact absurd (show false=true from f) Bool.false_ne_true
theorem zbV {x:V}:∀ {xs:List V}{us:List Value},Vals xs us→xs.all zbQ=true→us.any (eqU x)=xs.any fun y=>eqV y x
  | _,_,.nil,_=>rfl
  | y::xs,u::us,.cons r t,f=>by
    rw[List.all_cons,Bool.and_eq_true]at f
    rw[List.any_cons,List.any_cons,zh2 r f.1,zbV t f.2]
theorem za2 {A:Around}{s:Shared}{x:V}{v:Value}(rx:RelV x v) (fx:zbQ x=true):∀ {xs:List V}{us:List Value},Vals xs us→xs.all zbQ=true→∀ u∈us,SeqAt.EqAt A s u v (eqU x u)
  | _,_,.nil,_=>fun u hu=>by cases hu
  | y::xs,u::us,.cons r t,f=>fun u' hu=>by
    rw[List.all_cons,Bool.and_eq_true]at f
    rcases List.mem_cons.mp hu with rfl|hu
    · rw[zh2 r f.1];exact zde r rx f.1 fx
    · exact za2 rx fx t f.2 u' hu
def inV (x:V) (xs:List V):Bool:=xs.any fun y=>eqV y x
def rIn (K:PySem.W.Frag) (neg:Bool):R2:=fun x y H Q=>∃ p xs,y=.ref p∧(SqL K H p xs∨SqT K H p xs)∧zbQ x=true∧xs.all zbQ=true∧Q (.bl (if neg then !inV x xs else inV x xs)) H
theorem zfU:OpR X (compareOp .In) (rIn X.K false):=by
  intro pins s σ H x y v u Q I rx ry h
  obtain⟨p,xs,rfl,hq,fx,fs,q⟩:=h
  cases ry
  rcases hq with hq|hq
  · obtain⟨its,r,pl,hz⟩:=I.list hq
    refine SeqAt.in_listAt (eqU x) pl.isList (fun w hw=>za2 rx fx r fs w (by simpa using hw)) ⟨.bl _,H,I,rfl,?_⟩
    rw[show its.toArray.any (eqU x)=its.any (eqU x) by simp,zbV r fs]
    exact q
  · obtain⟨its,r,pl,hz⟩:=I.tuple hq
    refine SeqAt.in_tupleAt (eqU x) pl (fun w hw=>za2 rx fx r fs w (by simpa using hw)) ⟨.bl _,H,I,rfl,?_⟩
    rw[show its.toArray.any (eqU x)=its.any (eqU x) by simp,zbV r fs]
    exact q
theorem zc1:OpR X (compareOp .NotIn) (rIn X.K true):=by
  intro pins s σ H x y v u Q I rx ry h
  obtain⟨p,xs,rfl,hq,fx,fs,q⟩:=h
  cases ry
  rcases hq with hq|hq
  · obtain⟨its,r,pl,hz⟩:=I.list hq
    refine SeqAt.notIn_listAt (eqU x) pl.isList (fun w hw=>za2 rx fx r fs w (by simpa using hw)) ⟨.bl _,H,I,rfl,?_⟩
    rw[show its.toArray.any (eqU x)=its.any (eqU x) by simp,zbV r fs]
    exact q
  · obtain⟨its,r,pl,hz⟩:=I.tuple hq
    refine SeqAt.notIn_tupleAt (eqU x) pl (fun w hw=>za2 rx fx r fs w (by simpa using hw)) ⟨.bl _,H,I,rfl,?_⟩
    rw[show its.toArray.any (eqU x)=its.any (eqU x) by simp,zbV r fs]
    exact q
theorem call_len_seq:CallR X (.builtin "len") (fun xs H Q=>∃ p ys,xs=[.ref p]∧(SqL X.K H p ys∨SqT X.K H p ys)∧Q (.int ys.length) H):=by
  intro pins s σ H xs us Q I r h
  obtain⟨p,ys,rfl,hq,q⟩:=h
  obtain⟨u,rfl,rx⟩:=zcP r
  cases rx
  have hn:=zc7
  rcases hq with hq|hq
  · obtain⟨its,r',pl,hz⟩:=I.list hq
    have hlen:=r'.length
    exact Calls.call_len_list pl.isList (by simp only[List.size_toArray]<;>omega) ⟨.int ys.length,H,I.tok _,⟨s.toks+1,by rw[List.size_toArray,hlen]⟩,q⟩
  · obtain⟨its,r',pl,hz⟩:=I.tuple hq
    have hlen:=r'.length
    exact len_tuple pl (by simp only[List.size_toArray]<;>omega) ⟨.int ys.length,H,I.tok _,⟨s.toks+1,by rw[List.size_toArray,hlen]⟩,q⟩
theorem zbl:CallR X (.type "list") (fun xs H Q=>∃ p ys,xs=[.ref p]∧(SqL X.K H p ys∨SqT X.K H p ys)∧∀ l,H l=none→Q (.ref l) (upd H l (.lst ys))):=by
  intro pins s σ H xs us Q I r h
  obtain⟨p,ys,rfl,hq,q⟩:=h
  obtain⟨u,rfl,rx⟩:=zcP r
  cases rx
  have fin:∀ (its:List Value),Vals ys its→ys.length≤sizeLine→∀ (h':Heap) (c':Nat),(∀ b o',s.heap.get? b=some o'→h'.get? b=some o') →
      h'.get? s.heap.objs.size=some { cls:=.type "list",dict:=none,data:=.seq its.toArray c',slots:=#[] }→EP X pins σ Q (.ref s.heap.objs.size) { s with heap:=h' }:=fun its r' hz h' c' kp e =>
    ⟨.ref s.heap.objs.size,_,I.laid (t':=s.toks) kp (Nat.le_refl _) (show ObjOk X.prog X.w _ h' _ (.lst ys) from⟨hz,its,c',r',e⟩),rfl,q _ (I.hok.fresh (Nat.le_refl _))⟩
  rcases hq with hq|hq
  · obtain⟨its,r',pl,hz⟩:=I.list hq
    have hlen:=r'.length
    obtain⟨o,ho,hc,n,hd⟩:=pl.isList
    exact call_list_seq p (.inl rfl) ho hc hd (fun h' c' kp e=>fin its r' hz h' c' kp e) (by simp only[List.size_toArray]<;>omega)
  · obtain⟨its,r',pl,hz⟩:=I.tuple hq
    have hlen:=r'.length
    obtain⟨o,ho,hc,n,hd⟩:=pl
    exact call_list_seq p (.inr rfl) ho hc hd (fun h' c' kp e=>fin its r' hz h' c' kp e) (by simp only[List.size_toArray]<;>omega)
theorem call_tuple_of:CallR X (.type "tuple") (fun xs H Q=>∃ p ys,xs=[.ref p]∧((SqL X.K H p ys∧∀ l,H l=none→Q (.ref l) (upd H l (.tup ys)))∨(SqT X.K H p ys∧Q (.ref p) H))):=by
  intro pins s σ H xs us Q I r h
  obtain⟨p,ys,rfl,h⟩:=h
  obtain⟨u,rfl,rx⟩:=zcP r
  cases rx
  rcases h with ⟨hq,q⟩|⟨hq,q⟩
  · obtain⟨its,r',pl,hz⟩:=I.list hq
    have hlen:=r'.length
    refine call_tuple_list pl.isList (fun h' kp=>?_) (by simp only[List.size_toArray]<;>omega)
    have I1:Inv X pins σ H { s with heap:=h' }:=I.kept (t':=s.toks) kp
    have I2:Inv X pins σ (upd H h'.objs.size (.tup ys)) { s with heap:=h'.push { cls:=.type "tuple",data:=.seq its.toArray } } :=
      I1.laid (t':=s.toks) (fun b o e=>Heap.get?_push_of_some _ e) (Nat.le_refl _) (show ObjOk X.prog X.w _ _ _ (.tup ys) from⟨hz,its,r',TupX.new _ _⟩)
    exact⟨.ref h'.objs.size,_,I2,rfl,q _ (I1.hok.fresh (Nat.le_refl _))⟩
  · obtain⟨its,r',pl,hz⟩:=I.tuple hq
    exact call_tuple_same pl ⟨.ref p,H,I,rfl,q⟩
def tyV (K:PySem.W.Frag) (T:String) (x:V) (H:Hp):Prop:=match x with
  | .str _=>T = "str"
  | .int _=>T = "int"
  | .ref p=>(T = "list"∧∃ xs,SqL K H p xs)∨(T = "tuple"∧∃ o,K.lookup p=some o∧o.cls=.type "tuple"∧o.dict=none) ∨
      (T = "dict"∧((∃ kvs,H p=some (.dK kvs))∨∃ kvs,H p=some (.dT kvs)))∨(T = "set"∧∃ S n,H p=some (.set S n))
  | _=>False
theorem zjn {pins:List (Addr × Obj)}{σ:St}{H:Hp}{s:Shared}{T:String}{x:V}{v:Value}(I:Inv X pins σ H s) (r:RelV x v) (ty:tyV X.K T x H) :
    s.TypeIs v T∧∀ a,v=.ref a→∃ ob,s.heap.get? a=some ob∧ob.dict=none:=by
  cases x with
  | str z =>
    obtain⟨t,rfl⟩:=r
    cases (show T = "str" from ty)
    exact⟨typeIs_str s z t,fun _ e=>nomatch e⟩
  | int i =>
    obtain⟨t,rfl⟩:=r
    cases (show T = "int" from ty)
    exact⟨typeIs_int s i t,fun _ e=>nomatch e⟩
  | ref p =>
    cases r
    rcases ty with ⟨rfl,xs,hq⟩|⟨rfl,o,hk,hc,hd⟩|⟨rfl,hk⟩|⟨rfl,S,n,hk⟩
    · obtain⟨its,_,pl,_⟩:=I.list hq
      refine⟨pl.isList.typeIs,fun a e=>?_⟩
      cases e
      obtain⟨o,n,e,c,hd,_⟩:=pl
      exact⟨o,e,hd⟩
    · refine⟨⟨o,I.kIn p o hk,hc⟩,fun a e=>?_⟩
      cases e
      exact⟨o,I.kIn _ o hk,hd⟩
    · have z:∃ o,s.heap.get? p=some o∧o.ExactDict:=by
        rcases hk with ⟨kvs,hk⟩|⟨kvs,hk⟩
        · obtain⟨_,_,_,_,o,_,_,e,ex,_⟩:=I.hok p _ hk
          exact⟨o,e,ex⟩
        · obtain⟨_,_,_,_,o,_,_,e,ex,_⟩:=I.hok p _ hk
          exact⟨o,e,ex⟩
      obtain⟨o,e,ex⟩:=z
      refine⟨⟨o,e,ex.1⟩,fun a e2=>?_⟩
      cases e2
      exact⟨o,e,ex.2.1⟩
    · obtain⟨o,_,_,_,e,ex,_⟩:=I.hok p _ hk
      refine⟨⟨o,e,ex.1⟩,fun a e2=>?_⟩
      cases e2
      exact⟨o,e,ex.2.1⟩
  | _=>exact False.elim ty
def tBM (K:PySem.W.Frag) (T:String) (r:V→List V→Hp→VK→Prop) (to:TE) (t:TA):TE:=fun σ H Q=>to σ H fun x H1=>tyV K T x H1∧t σ H1 fun xs H2=>r x xs H2 Q
variable {o e:Expr}{es:List Expr}{to:TE}{t:TA}{name:Str}{apos cpos:Pos}{T id:String}{r:V→List V→Hp→VK→Prop}
theorem pe_bm (pa:PlainAttrs T) (slot:Slot T name id) (hty:typeOf (.builtin id)=pure (.type "method_descriptor")) (hm:MtR X id r) (ho:PE X o to) (ha:PA X (e::es) t)
    (hbase:attributeBase o name X.env (eval o X.env)=eval o X.env:=by rfl)
    (hfew:((backTo cpos (starEach (e::es) X.env)).all (fun x=>!x.1) && (backToKw cpos (keywordEach [] X.env)).all (fun x=>x.1.isSome)
      && decide ((e::es).length+([]:List Keyword).length+(if ([]:List Keyword).isEmpty then 0 else 1)<30))=true:=by rfl)
    (hline:(apos.endLine == cpos.line)=true:=by rfl) (hs:starEach (e::es) X.env=(false,eval e X.env)::starEach es X.env:=by rfl) (hplain:(backTo cpos (starEach es X.env)).any (·.1)=false:=by rfl) :
    PE X (.Call (.Attribute o name apos) (e::es) [] cpos) (tBM X.K T r to t):=by
  intro pins s σ H Q I h
  refine wpAny_Call_method_late hbase hfew hline rfl (thn (ho pins s σ H _ I h) fun v s1 ⟨x,H1,I1,r1,ty,q1⟩=>?_)
  obtain⟨h1,h2⟩:=zjn I1 r1 ty
  refine⟨T,id,pa,slot,hty,h1,h2,?_⟩
  have hA:=ha cpos pins s1 σ H1 _ I1 q1
  rw[hs]at hA ⊢
  refine Calls.callWith_builtin (by show (false || (backTo cpos (starEach es X.env)).any (·.1))=false;rw[hplain]<;>rfl) (Calls.evalArgs_plain ?_)
  exact thn hA fun us s2 ⟨vs,H2,I2,r2,q2⟩=>hm pins s2 σ H2 x vs v us Q I2 r1 r2 q2
/- xs.append(e),list.index on a module's tuple .. are MtR facts of 06m -/
end
def MtM (X:Cx) (id:String) (r:V→List V→Hp→VK→Prop):Prop :=
  ∀ (pins:List (Addr × Obj)) (s:Shared) (σ:St) (H:Hp) (x:V) (xs:List V) (v:Value) (us:List Value) (Q:VK),Inv X pins σ H s→RelV x v→Vals xs us→r x xs H Q →
    wpAny (model X.prog X.w) X.A (call (.builtin id) (v::us)) (EP X pins σ Q) X.xe s
theorem Vals.one:∀ {x:V}{us:List Value},Vals [x] us→∃ u,us=[u]∧RelV x u
  | _,_,.cons r .nil=>⟨_,rfl,r⟩
theorem Vals.two:∀ {x y:V}{us:List Value},Vals [x,y] us→∃ u v,us=[u,v]∧RelV x u∧RelV y v
  | _,_,_,.cons r (.cons q .nil)=>⟨_,_,rfl,r,q⟩
theorem Vals.eraseIdx:∀ {xs:List V}{us:List Value}(i:Nat),Vals xs us→Vals (xs.eraseIdx i) (us.eraseIdx i)
  | _,_,_,.nil=>.nil
  | _,_,0,.cons _ t=>t
  | _,_,i+1,.cons r t=>.cons r (Vals.eraseIdx i t)
theorem Vals.rep {xs:List V}{us:List Value}(h:Vals xs us):∀ k:Nat,Vals (List.replicate k xs).flatten (List.replicate k us).flatten
  | 0=>.nil
  | k+1=>by
    rw[List.replicate_succ,List.replicate_succ,List.flatten_cons,List.flatten_cons]
    exact Vals.append h (Vals.rep h k)
theorem zc8 {α:Type}:∀ (l:List α) (i:Nat),(l.eraseIdx i).length≤l.length
  | [],_=>Nat.le_refl _
  | _::_,0=>Nat.le_succ _
  | _::r,i+1=>Nat.succ_le_succ (zc8 r i)
theorem zdc (its:List Value):∀ (k:Nat) (acc:List Value),
    List.foldl (fun x1 x2=>x1++x2) acc.toArray (List.replicate k its.toArray)=(acc++(List.replicate k its).flatten).toArray
  | 0,acc=>by simp
  | k+1,acc=>by
    have e:acc.toArray++its.toArray=(acc++its).toArray:=by simp
    have e2:(acc++its)++(List.replicate k its).flatten=acc++(List.replicate (k+1) its).flatten:=by
      rw[List.replicate_succ,List.flatten_cons,List.append_assoc]
    rw[← e2,← zdc its k (acc++its),← e,List.replicate_succ,List.foldl_cons]
section
variable {X:Cx}{pins:List (Addr × Obj)}{σ:St}{H:Hp}{s:Shared}{l b:Addr}{xs ys zs:List V}
theorem Inv.lset {its its':List Value}{n:Nat}{f:Array Value→Array Value}{t':Nat}(I:Inv X pins σ H s) (hH:H l=some (.lst xs))
    (e:s.heap.get? l=some { cls:=.type "list",data:=.seq its.toArray n }) (hf:f its.toArray=its'.toArray) (hv:Vals ys its') (hz:ys.length≤sizeLine) :
    Inv X pins σ (upd H l (.lst ys)) { s with heap:=s.heap.update l (Obj.mapSeq f),toks:=t' }:=by
  have q:=PySem.IsL.update e f
  rw[hf]at q
  refine I.write (x:=l) (e:=l) (by rw[hH];exact trivial) (.inl rfl) (fun b' u hb hu=>(Heap.get?_update_other s.heap (Obj.mapSeq f) (Ne.symm hb)).trans hu) ⟨_,q⟩ ?_
  exact⟨hz,its',_,hv,q⟩
theorem Inv.lnew {its:List Value}{t':Nat}(I:Inv X pins σ H s) (hv:Vals ys its) (hz:ys.length≤sizeLine) :
    Inv X pins σ (upd H s.heap.objs.size (.lst ys)) { s with heap:=s.heap.push { cls:=.type "list",data:=.seq its.toArray },toks:=t' } :=
  I.laid (fun _ _ q=>Heap.get?_push_of_some _ q) (Nat.le_refl _) ⟨hz,its,0,hv,Heap.get?_push_size _ rfl⟩
theorem Inv.fresh (I:Inv X pins σ H s):H s.heap.objs.size=none:=I.hok.fresh (Nat.le_refl _)
theorem Inv.lstM (I:Inv X pins σ H s) (hH:H l=some (.lst xs)):xs.length≤sizeLine∧∃ (its:List Value) (n:Nat),Vals xs its∧xs.length=its.length∧s.heap.get? l=some { cls:=.type "list",data:=.seq its.toArray n }:=by
  obtain⟨z,its,n,r,e⟩:=I.hok l _ hH
  exact⟨z,its,n,r,r.length,e⟩
theorem zhi {n:Nat}(h:n≤sizeLine):Builtin.List.listTooLong n=false:=by
  unfold Builtin.List.listTooLong
  exact decide_eq_false (by omega)
end
section
variable {X:Cx}
def ziF:V→List V→Hp→VK→Prop:=fun x vs H Q=>∃ l xs y,x=.ref l∧vs=[y]∧H l=some (.lst xs)∧xs.length<sizeLine∧Q .non (upd H l (.lst (xs++[y])))
theorem mt_append:MtM X "list.append" ziF:=by
  intro pins s σ H x vs v us Q I rx rv h
  obtain⟨l,xs,y,rfl,rfl,hH,hz,q⟩:=h
  cases rx
  obtain⟨u,rfl,ru⟩:=rv.one
  obtain⟨z,its,n,r,hl,e⟩:=I.lstM hH
  refine call_meets F.slot_list_append ⟨_,e,rfl⟩ F.entry_list_append (F.args_list_append_2 _ _) (PySem.list_append l its.toArray n u (by rw[List.size_toArray];omega)) ⟨e,?_⟩
  refine⟨.non,_,I.lset (its':=its++[u]) hH e (by simp) (r.append (.cons ru .nil)) ?_,rfl,q⟩
  rw[List.length_append,List.length_singleton]
  omega
def zjD:V→List V→Hp→VK→Prop:=fun x vs H Q=>∃ l xs i k y,x=.ref l∧vs=[.int i]∧H l=some (.lst xs)∧-(2 ^ 63)≤i∧i<2 ^ 63∧seqIndex? i xs.length=some k∧xs[k]?=some y∧Q y (upd H l (.lst (xs.eraseIdx k)))
theorem zhj:MtM X "list.pop" zjD:=by
  intro pins s σ H x vs v us Q I rx rv h
  obtain⟨l,xs,i,k,y,rfl,rfl,hH,h1,h2,hk,hy,q⟩:=h
  cases rx
  obtain⟨u,rfl,ru⟩:=rv.one
  obtain⟨t,rfl⟩:=ru
  obtain⟨z,its,n,r,hl,e⟩:=I.lstM hH
  obtain⟨w,hw,rw'⟩:=r.get hy
  refine call_meets F.slot_list_pop ⟨_,e,rfl⟩ F.entry_list_pop (F.args_list_pop_2 _ _)
    (MeetsSeq.list_pop_at l its.toArray n i t k w (fitsIndex_both h1 h2) (by rw[List.size_toArray,← hl];exact hk) (by rw[← Array.getElem?_toList];exact hw) (by rw[List.size_toArray];omega)) ⟨e,?_⟩
  refine⟨y,_,I.lset (its':=its.eraseIdx k) hH e ?_ (r.eraseIdx k) ?_,rw',q⟩
  · show its.toArray.eraseIdxIfInBounds k=(its.eraseIdx k).toArray
    rw[List.eraseIdxIfInBounds_toArray]
  · have:=zc8 xs k
    omega
def rCat:R2:=fun x y H Q=>∃ l b xs zs,x=.ref l∧y=.ref b∧H l=some (.lst xs)∧H b=some (.lst zs)∧xs.length+zs.length≤sizeLine∧∀ p,H p=none→Q (.ref p) (upd H p (.lst (xs++zs)))
theorem zbG:OpR X (binaryOp .Add) rCat:=by
  intro pins s σ H x y v u Q I rx ry h
  obtain⟨l,b,xs,zs,rfl,rfl,hH,hB,hz,q⟩:=h
  cases rx
  cases ry
  obtain⟨z,its,n,r,hl,e⟩:=I.lstM hH
  obtain⟨z2,its2,n2,r2,hl2,e2⟩:=I.lstM hB
  refine PySem.P.add_list e e2 ?_ (by rw[List.size_toArray,List.size_toArray];omega)
  have ea:its.toArray++its2.toArray=(its++its2).toArray:=by simp
  rw[ea]
  exact⟨.ref _,_,I.lnew (t':=s.toks) (r.append r2) (by rw[List.length_append];omega),rfl,q _ I.fresh⟩
def rRep:R2:=fun x y H Q=>∃ l k xs,x=.ref l∧y=.int k∧H l=some (.lst xs)∧-(2 ^ 63)≤k∧k<2 ^ 63∧xs.length*k.toNat≤sizeLine ∧
  ∀ p,H p=none→Q (.ref p) (upd H p (.lst (List.replicate k.toNat xs).flatten))
theorem zi1 {α:Type}(xs:List α) (k:Nat):(List.replicate k xs).flatten.length=k*xs.length:=by
  induction k with
  | zero=>simp
  | succ k ih=>rw[List.replicate_succ,List.flatten_cons,List.length_append,ih,Nat.succ_mul,Nat.add_comm]
theorem op_rep:OpR X (binaryOp .Mult) rRep:=by
  intro pins s σ H x y v u Q I rx ry h
  obtain⟨l,k,xs,rfl,rfl,hH,h1,h2,hz,q⟩:=h
  cases rx
  obtain⟨t,rfl⟩:=ry
  obtain⟨z,its,n,r,hl,e⟩:=I.lstM hH
  have hlen:its.toArray.size*k.toNat≤sizeLine:=by rw[List.size_toArray,← hl];exact hz
  have hcap:¬ its.toArray.size*k.toNat > (2 ^ 63-1) / 8:=by
    have:(sizeLine:Nat)≤(2 ^ 63-1) / 8:=by decide
    omega
  have hfit:¬(!Builtin.List.listFitsIndex k)=true:=by
    rw[fitsIndex_both h1 h2]
    exact Bool.false_ne_true
  have hlong:¬ Builtin.List.listTooLong (its.toArray.size*k.toNat)=true:=by
    rw[zhi hlen]
    exact Bool.false_ne_true
  have hnew:List.foldl (fun x1 x2=>x1++x2) #[] (List.replicate (if its.toArray.isEmpty=true then 0 else k.toNat) its.toArray)=(List.replicate k.toNat its).flatten.toArray:=by
    have f0:∀ m:Nat,List.foldl (fun x1 x2=>x1++x2) #[] (List.replicate m its.toArray)=(List.replicate m its).flatten.toArray:=fun m=>by
      have:=zdc its m []
      rw[List.nil_append]at this
      exact this
    rw[f0]
    cases its with
    | nil=>simp
    | cons a r'=>rw[if_neg (by simp)]
  refine wpAny_binaryOp_repeat_ref (T:="list") (U:="int") (by decide) ⟨_,e,rfl⟩ (fun s'=>typeIs_int s' k t) noFill_list_mul F.fills_int_mul F.slot_int_rmul repeat_list F.slot_int_index.lookup
    (call_meets F.slot_int_rmul (typeIs_int s k t) F.entry_int_rmul (F.args_int_rmul_2 _ _) (int___rmul___int_list k t l its.toArray n)
      ⟨e,rfl,⟨_,e,rfl⟩,call_meets F.slot_list_mul ⟨_,e,rfl⟩ F.entry_list_mul (F.args_list_mul_2 _ _) (AutoListH.list___mul___list_int_3 l its.toArray n k t hfit hcap hlong) ⟨e,?_⟩⟩)
  rw[hnew]
  exact⟨.ref _,_,I.lnew (t':=s.toks) (r.rep k.toNat) (by rw[zi1,Nat.mul_comm];exact hz),rfl,q _ I.fresh⟩
end
section
variable {prog:Program}{w:World}{A:Around}{E:Value→Shared→Prop}{s:Shared}
end
section
variable {X:Cx}
end
end L2
namespace Att
open PySem PySem.W PySem.Calls PyProof.Rows
theorem zbN {P:Params}{h:Heap}:∀ (ns:List Int) (vs:List Value),WellAll P h vs (ns.map WData.int)→IntsAre vs ns:=by
  intro ns
  induction ns with
  | nil =>
    intro vs w
    rw[List.map_nil]at w
    cases w
    exact .nil
  | cons n ns ih =>
    intro vs w
    rw[List.map_cons]at w
    cases w with
    | cons a b =>
      cases a
      exact .cons _ _ (ih _ b)
theorem zfx {l:OpenLaw}{n:Nat}(hn:l.most=some n) {P:Params}{h:Heap}{args:List WData}{vals:List Value}
    (hpre:l.row.toRowW.claim.pre args=true) (hwl:WellAll P h vals args) :
    ∃ a vs ns,vals=[Value.ref a]∧args=[WData.list (ns.map WData.int)]∧h.get? a=some { cls:=.type "list",data:=.seq vs.toArray }∧IntsAre vs ns∧ns.length≤n:=by
  have hsh:WShape.hasAll [] args [.list .int]=true:=(pre_splitW hpre).1
  have hc:l.pre.holds [] { args:=args }=true:=(pre_splitW hpre).2
  obtain⟨d,r,rfl,h1,h2⟩:=hasAllW_cons hsh
  obtain rfl:=hasAllW_nil h2
  obtain⟨xs,rfl,h3⟩:=hasW_list h1
  obtain⟨ns,rfl⟩:=items_int h3
  have hlen:ns.length≤n:=by
    unfold OpenLaw.pre at hc
    have h4:(WTm.not (.lt (.lit (.int (n:Int))) (.len (.arg 0)))).holds [] { args:=[.list (ns.map .int)] }=true:=by
      have h4:=(holds_andW hc).1
      rw[hn]at h4
      exact h4
    have h5:=condW_of h4 (w_not (w_lt w_lit (w_len_list (w_arg rfl))))
    rw[List.length_map]at h5
    refine Nat.le_of_not_lt fun q=>?_
    have q':(n:Int)<((ns.length:Nat):Int):=by omega
    first
      | (rw[decide_eq_true q']at h5;exact absurd h5 (by decide))
      | (simp at h5;omega)
  cases hwl with
  | cons w1 w2 =>
    cases w2
    cases w1 with
    | list ho hall=>exact⟨_,_,ns,rfl,rfl,ho,zbN ns _ hall,hlen⟩
theorem zfN (l:OpenLaw) (args:List WData):l.row.toRowW.claim.post args (.bool true) args=true :=
  postW_of (r:=l.row.toRowW) (X:=(true == true))
    (show WShape.has [] (.bool true) .bool=true by first|rfl|decide|simp[WShape.has,WShape.arms,WShape.armsAll])
    (show (WTm.eq .res (.lit (.bool true))).value [] { args:=args,res:=some (.bool true),after:=args }=some (.bool (true == true)) from w_eq_bool (w_res rfl) w_lit) rfl
theorem attach_call {l:OpenLaw}{n:Nat}{q:Program}{loose:List Str}{XP:(Str→Option Value)→Heap→Prop}{YP:World→Heap→Prop}{d:DefRec}
    (hn:l.most=some n) (hdf:d.params.defaults=[])
    (call:∀ (w:World) (s₀ s₁:Shared) (mg mb:Str→Option Value) (fa:Addr) (o:Obj) (pm cd doc:Value) (a:Addr) (vs:List Value) (ns:List Int),
      Ground q loose [] XP w s₀ mg mb s₁.heap→YP w s₁.heap →
      s₁.heap.get? fa=some o→o.data=.func (docDef d.name d.params d.body d.scope pm cd doc)→s₁.heap.CodeRec cd d.name→mg d.name=some (.ref fa) →
      s₁.heap.get? a=some { cls:=.type "list",data:=.seq vs.toArray }→IntsAre vs ns→ns.length≤n→s₁.gens = #[] →
      codeAny (model l.prog w) callerA (.call (.ref fa) ⟨[.ref a],[]⟩) (fun r s'=>r=.ok (.ret (.bool true))∧OldK s₁.heap s'.heap∧s'.os=s₁.os∧AllBare s'.gens) s₁) :
    WalkO q loose XP YP l.row.toRowW d [] (fun f vs=>PySem.call f vs):=by
  intro w s₀ s₁ mg mb G Y fa o pm cd doc dV kV ho hd hcd hD hmg hg args vals as hpre hlay hrd hwl hlo
  obtain rfl:dV=.none:=Dflts.none hD hdf
  obtain rfl:kV=.none:=Dflts.noKw hD
  obtain⟨a,vs,ns,rfl,rfl,hobj,hints,hlen⟩:=zfx hn hpre hwl
  refine enter_call (codeAny_mono (call w s₀ s₁ mg mb fa o pm cd doc a vs ns G Y ho (fd_plain hd) hcd hmg hobj hints hlen hg) fun r s' hq=>?_)
  obtain⟨rfl,h2,h3,h4⟩:=hq
  exact⟨.inl ⟨.bool true,.bool true,[],rfl,fun _=>rfl,.bool true,zfN l _,fun _=>⟨List.Pairwise.nil,fun _ hm=>(nomatch hm)⟩⟩,h2,h3,h4⟩
section
variable {prog:Program}{w:World}{A:Around}{E:Value→Shared→Prop}{s:Shared}{K:Frag}
def zkO (h:Heap) (L d:Addr):List (Addr × Obj):=(List.range h.objs.size).filterMap fun a=>if a=L∨a=d then none else (h.get? a).map fun o=>(a,o)
end
end Att
namespace L2
open PySem PySem.Spec PyProof.Rows
theorem zcN:∀ {vs:List Value}{ns:List Int},IntsAre vs ns→Vals (ns.map V.int) vs
  | _,_,.nil=>.nil
  | _,_,.cons n t h=>.cons ⟨t,rfl⟩ (zcN h)
def Only (H:Hp):Prop:=∀ b,H b=none∨∃ o xs,H b=some (.frz o (.lst xs))
theorem zht {P:Program}{w:World}{K:PySem.W.Frag}{mg mb:Str→Option Value}{CX:CXT}{k:Nat}{fa a:Addr}{fd:FuncData}{x:Str}{sp:Sp}{s₁:Shared}{vs:List Value}{ns:List Int}
    (KX:K.In s₁.heap) (hns:s₁.heap.Ns mainGlobals mg) (hb:s₁.heap.Ns builtinsNs mb) (hbb:∀ x:Str,x≠"__name__"→mb x=bootBuiltins x) (hlim:s₁.heap.NoLimit) (hg:s₁.gens = #[])
    (ha:s₁.heap.get? a=some { cls:=.type "list",data:=.seq vs.toArray }) (hi:IntsAre vs ns) (hl:ns.length≤sizeLine) (hr:Room k callerA)
    (F:∀ base:Heap,K.In base→base.Ns mainGlobals mg→FnOk P w K mg base CX k fa fd [x] sp) (hbind:∀ (s:Shared) (u:Value),BindsTo s fd ⟨[u],[]⟩ [(x,u)])
    (hsp:∀ H:Hp,Only H→SqL K H a (ns.map V.int)→sp [.ref a] H (fun v _=>v=.bl true) fun _ _ _=>False)
    (hCX:∀ H e s',CX [] H s₁ (fun _ _ _=>False) e s'→False) :
    codeAny (model P w) callerA (.call (.ref fa) ⟨[.ref a],[]⟩) (fun r s'=>r=.ok (.ret (.bool true))∧OldK s₁.heap s'.heap∧s'.os=s₁.os∧AllBare s'.gens) s₁:=by
  have rv:=zcN hi
  have lenV:=hi.length
  have core:∀ H:Hp,Only H→SqL K H a (ns.map V.int)→HOk P w H s₁.heap→(∀ b,H b≠none→b=a)→(H a≠none→K.lookup a=none) →
      codeAny (model P w) callerA (.call (.ref fa) ⟨[.ref a],[]⟩) (fun r s'=>r=.ok (.ret (.bool true))∧OldK s₁.heap s'.heap∧s'.os=s₁.os∧AllBare s'.gens) s₁:=by
    intro H hO hS hok hA hK
    have base_of:∀ {b:Addr}{o:Obj},s₁.heap.get? b=some o→H b=none→(hidT s₁.heap H).get? b=some o:=fun e n=>zhu e n
    have noA:∀ {b:Addr}{o:Obj}{es:Array DictEntry}{ep:Nat},s₁.heap.get? b=some o→o.data=.dict es ep→H b=none:=fun {b o es ep} e d=>by
      cases q:H b with
      | none=>rfl
      | some u =>
        have e':b=a:=hA b (by rw[q];simp)
        subst e'
        rw[ha]at e;cases e
        have d':Data.seq vs.toArray _=Data.dict es ep:=d
        cases d'
    have nsK:∀ {b:Addr}{m:Str→Option Value},s₁.heap.Ns b m→(hidT s₁.heap H).Ns b m:=fun {b m} ⟨o,es,ep,e,d,r⟩=>⟨o,es,ep,base_of e (noA e d),d,r⟩
    have hKb:K.In (hidT s₁.heap H):=fun b o e=>base_of (KX b o e) (by
      cases q:H b with
      | none=>rfl
      | some u =>
        have e':b=a:=hA b (by rw[q];simp)
        subst e'
        rw[hK (by rw[q];simp)]at e;cases e)
    have hM:Mod K mg (hidT s₁.heap H):=⟨hKb,nsK hns,⟨mb,nsK hb,hbb⟩,let ⟨mc,h1,h2⟩:=hlim;⟨mc,nsK h1,h2⟩⟩
    have e0:Env0 P w K mg (hidT s₁.heap H) callerA [] s₁ H:=⟨rfl,hM,fun b o e=>ziU e,Nat.le_of_eq (zgp _ _),trivial,fun b hb=>absurd (show b∈([]:List Addr) from hb) (by simp),hok,.of_eq hg⟩
    refine codeAny_mono ((F _ hKb (nsK hns)).run callerA [] s₁ H ⟨[.ref a],[]⟩ [.ref a] [.ref a] _ _ hr e0 (hbind s₁ (.ref a)) (.cons rfl .nil) (hsp H hO hS)) fun r s' h=>?_
    cases r with
    | error e=>exact(hCX H e s' h).elim
    | ok fl =>
      cases fl with
      | next=>exact False.elim h
      | brk=>exact False.elim h
      | cont=>exact False.elim h
      | ret u =>
        obtain⟨v,H',os,bare,un,hok',r',q⟩:=h
        have q':v=.bl true:=q
        subst q'
        obtain rfl:u=Value.bool true:=r'
        refine⟨rfl,OldK.of_keep fun b o e=>?_,os,bare⟩
        cases q:H b with
        | none=>exact un.keep b o e q (by intro z;exact absurd (show b∈([]:List Addr) from z) (by simp)) (by simp)
        | some u =>
          rcases hO b with z|⟨ob,xs,z⟩
          · rw[q]at z;cases z
          · have z2:=un.frzs b ob _ z
            obtain⟨e1,_⟩:=hok b _ z
            obtain⟨e2,_⟩:=hok' b _ z2
            rw[e]at e1;cases e1
            exact e2
  cases hk:K.lookup a with
  | some o =>
    have e:=KX a o hk
    rw[ha]at e
    cases e
    refine core (fun _=>none) (fun _=>.inl rfl) (.inr ⟨_,vs.toArray,_,hk,rfl,rfl,rfl,by rw[List.size_toArray,lenV];exact hl,by simpa using rv⟩) (fun b u z=>by have z':(none:Option HO)=some u:=z;cases z') (fun b z=>absurd rfl z) fun z=>absurd rfl z
  | none =>
    refine core (fun b=>if b=a then some (.frz { cls:=.type "list",data:=.seq vs.toArray } (.lst (ns.map V.int))) else none) (fun b=>?_) (.inl (.inr ⟨{ cls:=.type "list",data:=.seq vs.toArray },if_pos rfl⟩)) (fun b u z=>?_) (fun b z=>?_) fun _=>hk
    · by_cases hb:b=a
      · exact .inr ⟨_,_,if_pos hb⟩
      · exact .inl (if_neg hb)
    · by_cases hb:b=a
      · have z':=(if_pos hb).symm.trans z
        cases z'
        subst hb
        exact⟨ha,by rw[List.length_map];exact hl,vs,_,rv,ha⟩
      · have z':=(if_neg hb).symm.trans z
        cases z'
    · by_cases hb:b=a
      · exact hb
      · exact absurd (if_neg hb) z
abbrev KOf {K:PySem.W.Frag}{h:Heap}(_:K.In h):PySem.W.Frag:=K
theorem zfa {l:PySem.W.OpenLaw}{n k:Nat}{q:Program}{loose:List Str}{XP:(Str→Option Value)→Heap→Prop}{YP:World→Heap→Prop}{d:DefRec}{K:Params→PySem.W.Frag}{CX:World→CXT}{sp:World→Sp}{x:Str}
    (hn:l.most=some n) (hn2:n≤sizeLine) (hdf:d.params.defaults=[]) (hr:Room k callerA)
    (hY:∀ (w:World) (h:Heap),YP w h→(K w.params).In h)
    (F:∀ (w:World) (mg:Str→Option Value) (fa:Addr) (h:Heap),(K w.params).In h→h.Ns mainGlobals mg→mg d.name=some (.ref fa) →
      ∃ fd:FuncData,(∀ (s:Shared) (u:Value),BindsTo s fd ⟨[u],[]⟩ [(x,u)]) ∧
        ∀ base:Heap,(K w.params).In base→base.Ns mainGlobals mg→FnOk l.prog w (K w.params) mg base (CX w) k fa fd [x] (sp w))
    (hsp:∀ (w:World) (H:Hp) (a:Addr) (ns:List Int),ns.length≤n→Only H→SqL (K w.params) H a (ns.map V.int)→sp w [.ref a] H (fun v _=>v=.bl true) fun _ _ _=>False)
    (hCX:∀ (w:World) (H:Hp) (s:Shared) (e:Value) (s':Shared),CX w [] H s (fun _ _ _=>False) e s'→False) :
    PySem.W.WalkO q loose XP YP l.row.toRowW d [] (fun f vs=>PySem.call f vs):=by
  refine Att.attach_call hn hdf fun w s₀ s₁ mg mb fa o pm cd doc a vs ns G Y ho hd hcd hmg hobj hints hlen hg=>?_
  have KX:=hY w _ Y
  obtain⟨fd,hb,hF⟩:=F w mg fa _ KX G.T.g hmg
  exact zht KX G.T.g G.T.b G.T.builtins G.T.nolimit hg hobj hints (Nat.le_trans hlen hn2) hr hF hb (fun H hO hS=>hsp w H a ns hlen hO hS) fun H e s'=>hCX w H s₁ e s'
theorem zgS {l:PySem.W.OpenLaw}{n k:Nat}{q:Program}{loose:List Str}{XP:(Str→Option Value)→Heap→Prop}{YP:World→Heap→Prop}{d:DefRec}{K:Params→PySem.W.Frag}{CX:CXT}{sp:PySem.W.Frag→Sp}{x:Str}
    (hn:l.most=some n) (hn2:n≤sizeLine) (hdf:d.params.defaults=[]) (hr:Room k callerA)
    (hY:∀ (w:World) (h:Heap),YP w h→(K w.params).In h)
    (F:∀ (w:World) (mg:Str→Option Value) (fa:Addr) (h:Heap),(K w.params).In h→h.Ns mainGlobals mg→mg d.name=some (.ref fa) →
      ∃ fd:FuncData,(∀ (s:Shared) (u:Value),BindsTo s fd ⟨[u],[]⟩ [(x,u)]) ∧
        ∀ base:Heap,(K w.params).In base→base.Ns mainGlobals mg→FnOk l.prog w (K w.params) mg base CX k fa fd [x] (sp (K w.params)))
    (hsp:∀ (K:PySem.W.Frag) (H:Hp) (a:Addr) (ns:List Int),ns.length≤n→Only H→SqL K H a (ns.map V.int)→sp K [.ref a] H (fun v _=>v=.bl true) fun _ _ _=>False)
    (hCX:∀ (H:Hp) (s:Shared) (e:Value) (s':Shared),CX [] H s (fun _ _ _=>False) e s'→False) :
    PySem.W.WalkO q loose XP YP l.row.toRowW d [] (fun f vs=>PySem.call f vs) :=
  zfa (K:=K) (CX:=fun _=>CX) (sp:=fun w=>sp (K w.params)) hn hn2 hdf hr hY F (fun w H a ns h1 h2 h3=>hsp (K w.params) H a ns h1 h2 h3) fun _ H s e s'=>hCX H s e s'
end L2
/- THE LAST THEOREM (shape;LID,My.* are yours):
   My.Adr: a structure of the addresses that your layer names (classes,functions);My.Txt K t: a structure (Prop) of the equations over K;
   My.txt_mk:{K} {implicit addresses ..} (e1:nsIn K mainGlobals "law" = some (some (.ref f))) (e2:K.lookup f=some ⟨oc,od,.func (fnOf "law" "law" params body scope dV kV doc pm an cdv ct),sl⟩) (e3:codeIn K cdv "law" = true) ..:∃ t,My.Txt K t
set_option maxRecDepth 100000 in
set_option maxHeartbeats 0 in
theorem PySem.Challenge.cw_LID_holds : PySem.Challenge.rw_LID.Holds := by
  w_on;o_law;k_head;(case hw=>w_witness2)
  k_fill
  refine L2.zfa (l:=PySem.Challenge.rw_LID) (n:=63) (k:=40) (x:="script") (CX:=fun w=>..) (sp:=fun _=>My.sp_law) rfl (by decide) rfl ⟨rfl,by decide,by decide⟩ (fun w h Y=>PySem.W.kIn_of Y) ?F ?S ?C
  case F =>
    intro w mg fa h KX G hmg
    have T:∃ t,My.Txt (L2.KOf KX) t:=by
      dsimp only[L2.KOf]                          -- K must stand as «<heap const> w.params» for k_is
      refine' My.txt_mk ?e1 ?e2 ?e3 ..
      (case e1=>PySem.W.k_is)                    -- in the order: a name -> its address -> its object -> its parts
      (case e2=>PySem.W.k_is)
      ..
    obtain⟨t,T⟩:=T
    have e0:=hmg.symm.trans (PySem.W.mg_of KX G T.law)
    cases e0                                       -- fa is the law's own address
    exact⟨_,fun s u=>.of_eq rfl,fun base kb nb=>My.law_fn T kb nb⟩     -- if «.of_eq rfl» comes too early: refine' ⟨_,?b,fun base kb nb=>My.law_fn T kb nb⟩;exact fun s u=>.of_eq rfl
  case S=>exact fun w H a ns hl hO hS=>..
  case C=>exact ..
(the tactic k_is has no namespace: write k_is) -/
namespace L2
open PySem PySem.Spec PyProof.Rows
def zcB (s:Stmt) (j:Nat):Stmt:=match s with
  | .ClassDef _ _ _ body _ _ _ _ _ _ _=>body.getD j (.Pass ⟨0,0,0,0⟩)
  | _=>.Pass ⟨0,0,0,0⟩
def zaJ (s:Stmt):Arguments:=match s with
  | .FunctionDef _ a _ _ _ _ _ _ _ _=>a
  | _=>{ posonlyargs:=[],args:=[],vararg:=none,kwonlyargs:=[],kw_defaults:=[],kwarg:=none,defaults:=[] }
def zaF (s:Stmt):List Stmt:=match s with
  | .FunctionDef _ _ b _ _ _ _ _ _ _=>b
  | _=>[]
def zae (s:Stmt):Scope:=match s with
  | .FunctionDef _ _ _ _ _ _ sc _ _ _=>sc
  | _=>{ kind:=.function,names:=[],isGenerator:=false,isCoroutine:=false }
abbrev CX0:CXT:=fun _ _ _ _ _ _=>False
abbrev E0:XK:=fun _ _ _=>False
theorem pass0 {X:Cx}:Passes CX0 X E0:=fun _ _ _ _ _ _ _ h=>h.elim
structure Fun (K:PySem.W.Frag) (x qual:Str) (st:Stmt) (f:Addr) (fd:FuncData):Prop where
  ex:∃ (oc:Value) (od:Option Addr) (kV doc pm:Value) (an:Option Addr) (cdv ct:Value) (osl:Array (Option Value)),
    fd=PySem.W.fnOf x qual (zaJ st) (zaF st) (zae st) .none kV doc pm an cdv ct∧K.lookup f=some ⟨oc,od,.func fd,osl⟩∧PySem.W.codeIn K cdv qual=true
  kp:PySem.W.keepIn K (.ref f)=true
section
variable {P:Program}{w:World}{K:PySem.W.Frag}{mg:Str→Option Value}{base:Heap}
theorem Fun.ok {x qual:Str}{st:Stmt}{f:Addr}{fd:FuncData}{N ps:List Str}{k:Nat}{sp:Sp}(F:Fun K x qual st f fd) (S:FnScope N ps (zae st)) (len:∀ vs H Q E,sp vs H Q E→vs.length=ps.length)
    (hbody:∀ (cdv:Value) (A:Around) (outer:List Env) (s:Shared) (H:Hp) (vs:List V) (Q:VK) (E:XK),Room k (A.deeper (envOfC qual (zae st) s.heap.objs.size f cdv))→sp vs H Q E →
      ∃ t,PSs (cxOf CX0 P w K mg base N qual (zae st) f cdv A outer s H E).nox (zaF st) t∧t { nx:=fun _ H'=>Q .non H',rt:=Q } (start N vs) H):FnOk P w K mg base CX0 (k+1) f fd ps sp:=by
  obtain⟨oc,od,kV,doc,pm,an,cdv,ct,osl,rfl,lk,hcd⟩:=F.ex
  refine zkJ lk hcd S len fun A outer s H vs Q E hr hsp=>?_
  obtain⟨t,h,q⟩:=hbody cdv A outer s H vs Q E hr hsp
  exact⟨t,h.nox,q⟩
theorem Fun.binds {x qual:Str}{st:Stmt}{f:Addr}{fd:FuncData}{ps:List Str}(F:Fun K x qual st f fd)
    (h:∀ (kV doc pm:Value) (an:Option Addr) (cdv ct:Value) (us:List Value),us.length=ps.length→bindArgs (PySem.W.fnOf x qual (zaJ st) (zaF st) (zae st) .none kV doc pm an cdv ct) ⟨us,[]⟩=pure (ps.zip us)):Binds K fd ps []:=by
  obtain⟨oc,od,kV,doc,pm,an,cdv,ct,osl,rfl,lk,hcd⟩:=F.ex
  exact .all (h kV doc pm an cdv ct)
theorem zhZ {x qual:Str}{st:Stmt}{f:Addr}{oc:Value}{od an:Option Addr}{osl:Array (Option Value)}{kV doc pm cdv ct:Value}(l:K.lookup f=some ⟨oc,od,.func (PySem.W.fnOf x qual (zaJ st) (zaF st) (zae st) .none kV doc pm an cdv ct),osl⟩)
    (c:PySem.W.codeIn K cdv qual=true) (k:PySem.W.keepIn K (.ref f)=true):Fun K x qual st f (PySem.W.fnOf x qual (zaJ st) (zaF st) (zae st) .none kV doc pm an cdv ct):=⟨⟨oc,od,kV,doc,pm,an,cdv,ct,osl,rfl,l,c⟩,k⟩
end
section
variable {X:Cx}
theorem pv (i:Nat) {x:Str}{pos:Pos}(hN:X.N[i]?=some x:=by rfl) (hv:Vis X.env.scope x:=by first|exact Or.inl rfl|exact Or.inr (.inl rfl)|exact Or.inr (.inr rfl)) (hd:(x == ("__debug__":Str))=false:=by decide)
    (hcd:(x == ("__classdict__":Str))=false:=by decide):PE X (.Name x pos) (tVar i):=zjH hN hv hd hcd
end
theorem iteF {A B:Prop}(h:B):if false=true then A else B:=by
  rw[if_neg Bool.false_ne_true]
  exact h
theorem iteT {A B:Prop}(h:A):if true=true then A else B:=by
  rw[if_pos rfl]
  exact h
theorem ite2 {c A B:Prop} [Decidable c] (h1:c→A) (h2:¬ c→B):if c then A else B:=by
  by_cases h:c
  · rw[if_pos h]
    exact h1 h
  · rw[if_neg h]
    exact h2 h
def Same (H H':Hp):Prop:=∀ b o,H b=some o→H' b=some o
theorem Same.refl (H:Hp):Same H H:=fun _ _ h=>h
theorem Same.trans {H H1 H2:Hp}(a:Same H H1) (b:Same H1 H2):Same H H2:=fun c o h=>b c o (a c o h)
end L2
set_option maxHeartbeats 4000001
namespace L2
open PySem PySem.Spec PyProof.Rows
def clOf (cells:List (Str × Addr)):List (Str × NameKind)→List (Str × Addr)→List (Str × Addr)
 | [],cs=>cs
 | (n,k)::r,cs=>if k == .free then clOf cells r ((n,(cells.lookup n).getD 0)::cs) else clOf cells r cs
theorem zcI {env:Env}:∀ (names:List (Str × NameKind)) (cs:List (Str × Addr)),(∀ y∈names,y.2=.free→∃ c,env.cells.lookup y.1=some c) →
  (forIn names cs fun x r=>match x with|(name,kind)=>if (kind == NameKind.free)=true then (do let a ← cellOf env name;pure (ForInStep.yield ((name,a)::r))) else pure (ForInStep.yield r):Sem (List (Str × Addr)))=pure (clOf env.cells names cs)
 | [],cs,_=>rfl
 | (n,k)::r,cs,h=>by
  rw[List.forIn_cons]
  by_cases e:(k == NameKind.free)=true
  ·obtain⟨c,hc⟩:=h (n,k) List.mem_cons_self (by simpa using e)
   have hcell:cellOf env n=pure c:=by
    have hc':env.cells.lookup n=some c:=hc
    unfold cellOf;rw[hc']
   simp only[e,if_true,hcell,pure_bind]
   rw[zcI r _ fun y hy=>h y (List.mem_cons_of_mem _ hy)]
   have hc':env.cells.lookup n=some c:=hc
   show _=pure (if (k == NameKind.free)=true then _ else _)
   rw[if_pos e,hc']
   rfl
  ·have ef:(k == NameKind.free)=false:=by simpa using e
   simp only[ef,Bool.false_eq_true,if_false,pure_bind]
   rw[zcI r _ fun y hy=>h y (List.mem_cons_of_mem _ hy)]
   show _=pure (if (k == NameKind.free)=true then _ else _)
   rw[if_neg e]
theorem zcc {scope:Scope}{env:Env}(h:∀ y∈scope.names,y.2=.free→∃ c,env.cells.lookup y.1=some c):closureFor scope env=pure (clOf env.cells scope.names []):=by
 unfold closureFor
 show (forIn scope.names [] _ >>= fun r=>pure r)=_
 rw[bind_pure]
 exact zcI _ _ h
theorem zbu {cells:List (Str × Addr)}:∀ (names:List (Str × NameKind)) (cs:List (Str × Addr)) (x:Str) (c:Addr),(∀ y∈names,y.2=.free→∃ c,cells.lookup y.1=some c) →
  (∀ x c,cs.lookup x=some c→cells.lookup x=some c)→(clOf cells names cs).lookup x=some c→cells.lookup x=some c
 | [],cs,x,c,_,hs,e=>hs x c e
 | (n,k)::r,cs,x,c,h,hs,e=>by
  unfold clOf at e
  by_cases q:(k == NameKind.free)=true
  ·rw[if_pos q]at e
   obtain⟨c0,hc0⟩:=h (n,k) List.mem_cons_self (by simpa using q)
   refine zbu r _ x c (fun y hy=>h y (List.mem_cons_of_mem _ hy)) (fun x' c' e'=>?_) e
   rw[List.lookup_cons]at e'
   cases hx:x' == n with
   | true =>
    rw[hx]at e'
    have hx':x'=n:=by simpa using hx
    subst hx'
    have hc0':cells.lookup x'=some c0:=hc0
    rw[hc0']at e' ⊢
    exact e'
   | false =>
    rw[hx]at e'
    exact hs x' c' e'
  ·rw[if_neg q]at e
   exact zbu r _ x c (fun y hy=>h y (List.mem_cons_of_mem _ hy)) hs e
theorem zbU {cells:List (Str × Addr)}:∀ (names:List (Str × NameKind)) (cs:List (Str × Addr)) (x:Str),(∃ c,cs.lookup x=some c)→∃ c,(clOf cells names cs).lookup x=some c
 | [],cs,x,e=>e
 | (n,k)::r,cs,x,e=>by
  unfold clOf
  by_cases q:(k == NameKind.free)=true
  ·rw[if_pos q]
   refine zbU r _ x ?_
   rw[List.lookup_cons]
   cases hx:x == n with
   | true=>exact⟨_,rfl⟩
   | false=>exact e
  ·rw[if_neg q]
   exact zbU r _ x e
theorem zaN {cells:List (Str × Addr)}:∀ (names:List (Str × NameKind)) (cs:List (Str × Addr)) (x:Str),names.lookup x=some .free→∃ c,(clOf cells names cs).lookup x=some c
 | [],cs,x,e=>by simp at e
 | (n,k)::r,cs,x,e=>by
  rw[List.lookup_cons]at e
  unfold clOf
  cases hx:x == n with
  | true =>
   rw[hx]at e
   have e':k=.free:=Option.some.inj e
   subst e'
   rw[if_pos (by decide)]
   refine zbU r _ x ?_
   rw[List.lookup_cons,hx]
   exact⟨_,rfl⟩
  | false =>
   rw[hx]at e
   by_cases q:(k == NameKind.free)=true
   ·rw[if_pos q];exact zaN r _ x e
   ·rw[if_neg q];exact zaN r _ x e
def zh5 (env:Env) (p:Str × NameKind):Bool:=p.2 == .free && env.scope.kind == .function && env.kindOf p.1 == some .cell
def zbe (env:Env) (p:Str × NameKind):Str × NameKind:=if zh5 env p=true then (p.1,.cell) else p
theorem zbP (env:Env) (p:Str × NameKind):(zbe env p).1=p.1:=by unfold zbe;split<;>rfl
theorem zbO (env:Env) (p:Str × NameKind):(zbe env p).2=p.2∨((zbe env p).2=.cell∧p.2=.free):=by
 unfold zbe
 split
 ·rename_i h
  refine .inr ⟨rfl,?_⟩
  unfold zh5 at h
  cases e:p.2<;>simp[e]at h<;>rfl
 ·exact .inl rfl
theorem za0 (scope:Scope) (env:Env):(relabel scope env).names=scope.names.map (zbe env):=rfl
theorem zcy {f:Str × NameKind→Str × NameKind}(hf:∀ p,(f p).1=p.1):∀ (l:List (Str × NameKind)) (x:Str),(l.map f).lookup x=none∧l.lookup x=none∨∃ p∈l,(l.map f).lookup x=some (f p).2∧l.lookup x=some p.2
 | [],_=>.inl ⟨rfl,rfl⟩
 | p::r,x=>by
  have e1:((p::r).map f).lookup x=if x == p.1 then some (f p).2 else (r.map f).lookup x:=by
   show List.lookup x (((f p).1,(f p).2)::r.map f)=_
   rw[List.lookup_cons,hf p];cases x == p.1<;>rfl
  have e2:(p::r).lookup x=if x == p.1 then some p.2 else r.lookup x:=by
   show List.lookup x ((p.1,p.2)::r)=_
   rw[List.lookup_cons];cases x == p.1<;>rfl
  rw[e1,e2]
  cases x == p.1
  ·rcases zcy hf r x with z|⟨q,hq,z⟩
   ·exact .inl z
   ·exact .inr ⟨q,List.mem_cons_of_mem _ hq,z⟩
  ·exact .inr ⟨p,List.mem_cons_self,rfl,rfl⟩
theorem zay {scope:Scope}{env:Env}{x:Str}{k':NameKind}(h:(relabel scope env).names.lookup x=some k'):scope.names.lookup x=some k'∨(k'=.cell∧scope.names.lookup x=some .free):=by
 rw[za0]at h
 rcases zcy (zbP env) scope.names x with ⟨z,_⟩|⟨p,_,z,e⟩
 ·rw[z]at h;cases h
 ·rw[z]at h
  obtain rfl:=Option.some.inj h
  rcases zbO env p with q|⟨q,q'⟩
  ·rw[q];exact .inl e
  ·exact .inr ⟨q,by rw[e,q']⟩
theorem zbi {scope:Scope}{env:Env}{x:Str}(h:scope.names.lookup x=some .free):(relabel scope env).names.lookup x=some .cell∨(relabel scope env).names.lookup x=some .free:=by
 rw[za0]
 rcases zcy (zbP env) scope.names x with ⟨_,z⟩|⟨p,_,z,e⟩
 ·rw[z]at h;cases h
 ·rw[e]at h
  rcases zbO env p with q|⟨q,_⟩
  ·rw[z,q,h];exact .inr rfl
  ·rw[z,q];exact .inl rfl
def zam (X:Cx) (N':List Str) (scope:Scope) (C:Addr) (s₀:Shared) (H₀:Hp) (fp:List Addr) (pins:List (Addr × Obj)):Cx :=
 { X with N:=N',s₀:=s₀,H₀:=H₀,env:=compEnvC scope (clOf X.env.cells scope.names []) C X.env,outer:=X.stack,stack:=X.stack,ex:=fp,fn:=fun _=>false,pn:=X.pn++pins,xe:=fun _ _=>False }
def capσ (cap:List (Option Nat)) (σ:St):St:=cap.map fun o=>match o with|some i=>(match σ[i]? with|some v=>v|none=>none)|none=>none
def tst (M:Model) (A:Around) (env:Env) (E:Value→Shared→Prop) (o:Option Expr) (Q:Bool→Shared→Prop) (s:Shared):Prop:=match o with
 | none=>Q true s
 | some c=>wpAny M A (isTrue c env (eval c env)) Q E s
theorem zd7 {M:Model}{A:Around}{env:Env}{E:Value→Shared→Prop}{o:Option Expr}{Q Q':Bool→Shared→Prop}{s:Shared}(h:tst M A env E o Q s) (k:∀ b z,Q b z→Q' b z):tst M A env E o Q' s:=by
 cases o with
 | none=>exact k _ _ h
 | some c=>exact thn h k
def PTo (X:Cx) (o:Option Expr) (t:TT):Prop :=
 ∀ (pins:List (Addr × Obj)) (s:Shared) (σ:St) (H:Hp) (Q:Bool→Hp→Prop),Inv X pins σ H s→t σ H Q→tst (model X.prog X.w) X.A X.env X.xe o (TP X pins σ Q) s
def tYes:TT:=fun _ H Q=>Q true H
theorem zbb {X:Cx}:PTo X none tYes:=fun _ _ _ H _ I h=>⟨H,I,h⟩
theorem zdC {X:Cx}{c:Expr}{t:TT}(h:PT X c t):PTo X (some c) t:=fun pins s σ H Q I hw=>h pins s σ H Q I hw
abbrev NoX:Value→Shared→Prop:=fun _ _=>False
def Go (M:Model) (A:Around) (tg elt:Expr) (o:Option Expr) (it acc:Value) (env:Env) (R:Result→Shared→Prop) (onward:Shared→Prop) (s:Shared):Prop :=
 wpAny M A (pyNext it) (fun r a=>match r with
  | none=>R (.ok .next) a
  | some v=>wpAny M A (letOwnedTupleGo tg it v) (fun _ b=>wpAny M A (assign tg env v) (fun _ c=>tst M A env NoX o (fun yes d =>
    if yes=true then wpAny M A (eval elt env) (fun x e=>wpAny M A (call (.builtin "list.append") [acc,x]) (fun _ f=>onward f) NoX e) NoX d else onward d) c) NoX b) NoX a) NoX s
theorem zgG {prog:Program}{w:World}{A:Around}{R:Result→Shared→Prop}{s:Shared}{elt tg iter:Expr}{o:Option Expr}{scope:Scope}{pos:Pos}{it acc:Value}{env:Env}(J:Nat→Shared→Prop)
  (turn:∀ n s,J n s→Go (model prog w) A tg elt o it acc env R (fun z=>∃ m,m<n∧J m z) s) (n:Nat) (h:J n s) :
  codeAny (model prog w) A (.compLoop (.ListComp elt [⟨tg,iter,o.toList,0⟩] scope pos) 0 it acc env) R s:=by
 cases o with
 | none =>
  refine PySem.W.kcp_loop J (fun n a ha=>wpAny_mono (turn n a ha) (fun r b hb=>?_) fun _ _ z=>z.elim) n h
  cases r with
  | none=>exact hb
  | some v=>exact wpAny_mono hb (fun _ c hc=>wpAny_mono hc (fun _ d hd=>wpAny_mono (show wpAny _ _ _ _ _ d from hd) (fun x e he=>wpAny_mono he (fun _ _ q=>q) fun _ _ z=>z.elim) fun _ _ z=>z.elim) fun _ _ z=>z.elim) fun _ _ z=>z.elim
 | some t =>
  refine PySem.W.kct_loop J (fun n a ha=>wpAny_mono (turn n a ha) (fun r b hb=>?_) fun _ _ z=>z.elim) n h
  cases r with
  | none=>exact hb
  | some v =>
   refine wpAny_mono hb (fun _ c hc=>wpAny_mono hc (fun _ d hd=>wpAny_mono (show wpAny _ _ _ _ _ d from hd) (fun yes e he=>?_) fun _ _ z=>z.elim) fun _ _ z=>z.elim) fun _ _ z=>z.elim
   cases yes
   ·exact he
   ·exact wpAny_mono (show wpAny _ _ _ _ _ e from he) (fun x f hf=>wpAny_mono hf (fun _ _ q=>q) fun _ _ z=>z.elim) fun _ _ z=>z.elim
structure CapOk (N N':List Str) (sc scope:Scope) (cap:List (Option Nat)):Prop where
 kind:scope.kind=.function
 nocell:∀ y∈scope.names,y.2≠.cell
 names:∀ y∈scope.names,y.2=.local → scope.names.lookup y.1=some .local
 free:∀ y∈scope.names,y.2=.free→sc.names.lookup y.1=some .cell∨sc.names.lookup y.1=some .free
 len:cap.length=N'.length
 cap:∀ p∈N'.zip cap,∀ i,p.2=some i→N[i]?=some p.1∧scope.names.lookup p.1=some .free∧(sc.names.lookup p.1=some .cell∨sc.names.lookup p.1=some .free)
theorem zbc {α:Type}:∀ {l:List (Str × α)}{x:Str}{a:α},l.lookup x=some a→(x,a)∈l
 | [],_,_,h=>by simp at h
 | (n,k)::r,x,a,h=>by
  rw[List.lookup_cons]at h
  cases hx:x == n with
  | true =>
   rw[hx]at h
   have e:k=a:=Option.some.inj h
   have e2:x=n:=by simpa using hx
   subst e e2
   exact List.mem_cons_self
  | false=>rw[hx]at h;exact List.mem_cons_of_mem _ (zbc h)
def LCW (J:It) (g:TG) (tt:TT) (te:TE) (l:Addr) (Q:VK) (W:Nat→Nat→List V→St→Hp→Prop):Prop :=
 ∀ i m acc σ' H',W i m acc σ' H'→H' l=some (.lst acc) ∧
  ((J.stop i H'∧Q (.ref l) H')∨(J.go i H'∧∀ x H2,J.yld i H' x H2→g x σ' H2 fun σ3 H3=>tt σ3 H3 fun b H4 =>
   if b=true then te σ3 H4 fun y H5=>H5 l=some (.lst acc)∧acc.length<sizeLine∧∃ m',m'<m∧W (i+1) m' (acc++[y]) σ3 (upd H5 l (.lst (acc++[y])))
   else ∃ m',m'<m∧W (i+1) m' acc σ3 H4))
def tLC (cap:List (Option Nat)) (wi:TI) (g:TG) (tt:TT) (te:TE):TE:=fun σ H Q=>wi σ H fun J H1=>∀ l,H1 l=none →
 ∃ W:Nat→Nat→List V→St→Hp→Prop,(∃ m,W 0 m [] (capσ cap σ) (upd H1 l (.lst [])))∧LCW J g tt te l Q W
theorem zgc {X:Cx}{elt tg iter:Expr}{o:Option Expr}{scope:Scope}{pos ppos:Pos}{wi:TI}{g:TG}{tt:TT}{te:TE}{N':List Str}{cap:List (Option Nat)}{use:Option (Value→Sem Unit)}{Q0:Value→Shared→Prop}
  (hc:X.calm=true) (hi:PI X tg iter wi) (ck:CapOk X.N N' X.env.scope scope cap)
  (hg:∀ C s₀ H₀ fp pins,PG (zam X N' scope C s₀ H₀ fp pins) tg g)
  (ht:∀ C s₀ H₀ fp pins,PTo (zam X N' scope C s₀ H₀ fp pins) o tt)
  (he:∀ C s₀ H₀ fp pins,PE (zam X N' scope C s₀ H₀ fp pins) elt te)
  (hs:∀ x,foldedSetIterable iter X.env x=pure x) {pins:List (Addr × Obj)}{s:Shared}{σ:St}{H:Hp}{Q:VK}(I:Inv X pins σ H s) (h:tLC cap wi g tt te σ H Q)
  (fin:∀ (l C:Addr) (H4:Hp) (s5:Shared) (m:Str→Option Value),Inv X pins σ H4 s5→Q (.ref l) H4→s5.heap.Ns C m→FpOk X pins H4 C→compPost (model X.prog X.w) X.A X.xe use Q0 (.ref l) C (.ok .next) s5) :
  wpAny (model X.prog X.w) X.A (comprehension (.ListComp elt [⟨tg,iter,o.toList,0⟩] scope pos) scope X.env ppos (newList []) false (eval iter X.env) use) Q0 X.xe s:=by
 have hcells:∀ y∈scope.names,y.2=.free→∃ c,X.env.cells.lookup y.1=some c:=fun y hy hf=>I.ok.has y.1 (ck.free y hy hf)
 refine wpAny_comprehension_free (use:=use) rfl hs (zcc hcells) ck.kind ck.names (thn (hi pins s σ H _ I h) fun v s1 h1=>thn h1 fun itv s2 h2=>?_)
 obtain⟨it,fp,tn,J,H2,e,I2,T,st2,f2,body⟩:=h2
 subst e
 have hfr2:H2 s2.heap.objs.size=none:=I2.hok.fresh (Nat.le_refl _)
 obtain⟨W,⟨m0,w0⟩,turn⟩:=body s2.heap.objs.size hfr2
 have I3:Inv X pins σ (upd H2 s2.heap.objs.size (.lst [])) { s2 with heap:=s2.heap.push { cls:=.type "list",data:=.seq ([]:List Value).toArray },toks:=s2.toks }:=I2.lnew (its:=[]) (t':=s2.toks) .nil (Nat.zero_le _)
 refine wpAny_newObj_type (wpAny_newFunctionEnv ck.nocell (by intro y hy;simp at hy) (fun h₁ hns₁ hsb₁=>?_) ck.kind)
 dsimp only at hns₁ hsb₁ ⊢
 generalize hl:s2.heap.objs.size=l at *
 generalize hP:s2.heap.push { cls:=.type "list",dict:=none,data:=.seq ([]:List Value).toArray }=P2 at *
 generalize hH3:upd H2 l (.lst [])=H3 at *
 have old:∀ b o,P2.get? b=some o→h₁.get? b=some o:=fun b o e=>hsb₁.extBut b o (Nat.ne_of_lt (Heap.lt_size e)) (Heap.get?_push_of_some _ e)
 have old2:∀ b o,s2.heap.get? b=some o→P2.get? b=some o:=fun b o e=>hP ▸ Heap.get?_push_of_some _ e
 have fpl:∀ b∈fp,b<l:=fun b hb=>by
  obtain⟨o,e,_⟩:=T.obj _ _ st2 b hb
  rw[← hl];exact Heap.lt_size e
 have fp3:∀ b∈fp,H3 b=none:=fun b hb=>by
  rw[← hH3,zac (Nat.ne_of_lt (fpl b hb))];exact(f2 b hb).1
 have hPs:P2.objs.size=l+1:=by rw[← hP,Heap.size_push,hl]
 have subc:∀ x c,(clOf X.env.cells scope.names []).lookup x=some c→X.env.cells.lookup x=some c:=fun x c e=>zbu _ _ x c hcells (fun _ _ z=>by simp at z) e
 generalize hs3:({ s2 with heap:=P2,toks:=s2.toks }:Shared)=s3 at *
 have hs3h:s3.heap=P2:=by rw[← hs3]
 let Y:=zam X N' scope P2.objs.size s3 H3 fp pins
 have hYok:Y.Ok:=by
  refine⟨I3.ok.mod,ck.kind,I3.ok.glob,I3.ok.blt,by show s3.heap.objs.size≤P2.objs.size;rw[hs3h];exact Nat.le_refl _,fun x y c e1 e2=>I3.ok.inj x y c (subc x c e1) (subc y c e2),fun x hx=>?_,fun x c hx=>absurd (show false=true from hx) Bool.false_ne_true,I3.ok.hd,I3.ok.frames,.inl rfl,fun b hb=>⟨?_,fun x c e=>?_⟩,I3.bs,
   Nat.le_trans I3.ok.bsz I3.sz,fun b o e hb=>?_,fun b hb hz=>?_,I3.stack,I3.stkFree⟩
  ·have hx':scope.names.lookup x=some .free:=by
    rcases hx with hx|hx
    ·rcases zay hx with z|z
     ·exact absurd rfl (ck.nocell _ (zbc z))
     ·exact z.2
    ·rcases zay hx with z|z
     ·exact z
     ·exact z.2
   exact zaN _ _ x hx'
  ·exact Nat.ne_of_lt (by show b<P2.objs.size;rw[hPs];exact Nat.lt_succ_of_lt (fpl b hb))
  ·exact(f2 b hb).2.2.2.2.1 x c (subc x c e)
  ·rcases (f2 b hb).2.2.2.1 with z|z
   ·exact I3.ok.noex b o e z
   ·exact absurd (Nat.lt_of_lt_of_le (Heap.lt_size e) (Nat.le_trans I3.ok.bsz z)) (Nat.lt_irrefl _)
  ·rcases List.mem_cons.mp (I3.stkSub b hz) with z|z
   ·exact(f2 b hb).2.1 z
   ·exact(f2 b hb).2.2.1 z
 have hYi:Inv Y [] (capσ cap σ) H3 { s2 with heap:=h₁,toks:=s2.toks }:=by
  refine⟨hYok,by show s2.os=s3.os;rw[← hs3],I2.bare,by show Un _ _ _ _ s3.heap h₁;rw[hs3h];exact Un.kept old,⟨_,hns₁,fun j x v e1 e2 e3=>?_⟩,fun x c e=>?_,?_,fun x c e=>I3.freeC x c (subc x c e),fun p hp=>?_,fun b o e=>?_,?_⟩
  ·have e1':N'[j]?=some x:=e1
   unfold capσ at e2
   rw[List.getElem?_map]at e2
   cases ec:cap[j]? with
   | none=>rw[ec]at e2;cases e2
   | some oc =>
    rw[ec]at e2
    cases oc with
    | none=>cases e2
    | some i =>
     have e2':σ[i]?=some (some v):=by
      cases ei:σ[i]? with
      | none=>simp[ei]at e2
      | some v' =>
       simp[ei]at e2
       rw[e2]
     have hz:(x,some i)∈N'.zip cap:=by
      refine List.mem_of_getElem? (i:=j) ?_
      rw[List.getElem?_zip_eq_some]
      exact⟨e1',ec⟩
     obtain⟨hN,hf,hk⟩:=ck.cap _ hz i rfl
     obtain⟨m,hn,hlo⟩:=I3.loc
     obtain⟨u,r,lk⟩:=hlo i x v hN e2' (by rcases hk with z|z;exact .inr (.inl z);exact .inr (.inr z))
     refine⟨u,r,.inr ⟨?_,?_⟩⟩
     ·exact zbi hf
     ·rcases lk with ⟨z,_⟩|⟨_,c,hcx,hcell⟩
      ·have z':X.env.scope.names.lookup x=some .local:=z
       rcases hk with q|q
       ·rw[q]at z';cases z'
       ·rw[q]at z';cases z'
      ·obtain⟨c',hc'⟩:=zaN (cells:=X.env.cells) scope.names [] x hf
       have:=subc x c' hc'
       rw[hcx]at this;cases this
       obtain⟨ob,e,d⟩:=hcell
       rw[hs3h]at e
       exact⟨c,hc',ob,old c ob e,d⟩
  ·obtain⟨v,ob,e',d⟩:=I3.cell x c (subc x c e)
   rw[hs3h]at e'
   exact⟨v,ob,old c ob e',d⟩
  ·refine I3.hok.fresh ?_
   rw[hs3h];exact Nat.le_refl _
  ·have hp':p∈X.pn++pins:=(List.mem_append.mp hp).elim (fun z=>z) (fun z=>nomatch z)
   obtain⟨e,n,ne,nf,d⟩:=I3.pin p hp'
   rw[hs3h]at e
   refine⟨old _ _ e,n,Nat.ne_of_lt (Heap.lt_size e),fun z=>?_,d⟩
   rcases List.mem_cons.mp (I3.stkSub _ z) with q|q
   ·exact ne q
   ·exact nf q
  ·have:=I3.hok.kept (h':=h₁) (fun b u q=>old b u (by rw[← hs3h];exact q))
   exact this b o e
  ·show (cap.map _).length=N'.length
   rw[List.length_map,ck.len]
 have stat:∀ {H':Hp},(∀ b∈fp,H' b=none)→∀ b∈fp,FpOk Y [] H' b:=fun {H'} hn b hb=>by
  refine⟨hn b hb,(hYok.exf b hb).1,hYok.exfs b hb,.inl hb,(hYok.exf b hb).2,fun p hp=>?_⟩
  have hp':p∈X.pn++pins:=(List.mem_append.mp hp).elim (fun z=>z) (fun z=>nomatch z)
  exact(f2 b hb).2.2.2.2.2 p hp'
 have st1:tn 0 h₁:=T.keep 0 _ _ st2 fun b hb o e=>old b o (old2 b o e)
 have loop:codeAny (model X.prog X.w) X.A (.compLoop (.ListComp elt [⟨tg,iter,o.toList,0⟩] scope pos) 0 (.ref it) (.ref l) Y.env) (compPost (model X.prog X.w) X.A X.xe use Q0 (.ref l) P2.objs.size) { s2 with heap:=h₁,toks:=s2.toks }:=by
  refine zgG (fun n s'=>∃ i acc σ' H',Inv Y [] σ' H' s'∧tn i s'.heap∧(∀ b∈fp,H' b=none)∧W i n acc σ' H') ?_ m0 ⟨0,[],_,H3,hYi,st1,fp3,w0⟩
  rintro n s4 ⟨i,acc,σ4,H4,I4,st4,fr4,w4⟩
  obtain⟨hlst,q4⟩:=turn i n acc σ4 H4 w4
  rcases q4 with ⟨stop,qn⟩|⟨go,step⟩
  ·refine thn (T.done Y rfl rfl rfl hc i [] s4 σ4 H4 Y.xe I4 (stat fr4) st4 stop) fun r s5 ⟨hr,I5⟩=>?_
   subst hr
   obtain⟨m,hn,_⟩:=id I5.loc
   have un:Un (frs X.stack) fp H3 H4 s3.heap s5.heap:=I5.base
   have sz3:s3.heap.objs.size≤P2.objs.size:=by rw[hs3h];exact Nat.le_refl _
   have IX:Inv X pins σ H4 s5:=I3.call' (ch:=fp) I5.os un I5.hok I5.bare fun b hb=>⟨(f2 b hb).2.2.2.1,(f2 b hb).2.1,(f2 b hb).2.2.2.2.1,(f2 b hb).2.2.2.2.2⟩
   exact fin l P2.objs.size H4 s5 m IX qn hn (I3.fpOk sz3 I5.free)
  ·refine thn (T.item Y rfl rfl rfl hc i [] s4 σ4 H4 Y.xe I4 (stat fr4) st4 go) fun r s5 ⟨u,hr,h5⟩=>?_
   subst hr
   refine thn h5 fun _ s6 ⟨x,H6,I6,r6,y6,st6,fr6⟩=>?_
   have I6':=I6.pinned (stat fr6) (T.obj _ _ st6)
   refine thn (hg _ _ _ _ _ _ s6 σ4 H6 x u _ I6' r6 (step x H6 y6)) fun _ s7 ⟨σ7,H7,I7,q7⟩=>?_
   refine zd7 (ht _ _ _ _ _ _ s7 σ7 H7 _ I7 q7) fun b s8 ⟨H8,I8,q8⟩=>?_
   have again:∀ {σ9:St}{H9:Hp}{s9:Shared}{acc9:List V},Inv Y ([]++zbj fp s6.heap) σ9 H9 s9→(∃ m',m'<n∧W (i+1) m' acc9 σ9 H9)→∃ m,m<n∧∃ i acc σ' H',Inv Y [] σ' H' s9∧tn i s9.heap∧(∀ b∈fp,H' b=none)∧W i m acc σ' H':=fun {σ9 H9 s9 acc9} I9 ⟨m',hm,w9⟩=>by
    refine⟨m',hm,i+1,acc9,σ9,H9,I9.unpinned,T.keep _ _ _ st6 fun b hb o e=>(I9.pin (b,o) (List.mem_append_right _ (List.mem_append_right _ (zap hb e)))).1,fun b hb=>?_,w9⟩
    obtain⟨o,e,d⟩:=T.obj _ _ st6 b hb
    exact(I9.pin (b,o) (List.mem_append_right _ (List.mem_append_right _ (zap hb e)))).2.1
   cases b with
   | false =>
    rw[if_neg Bool.false_ne_true]at q8 ⊢
    exact again I8 q8
   | true =>
    rw[if_pos rfl]at q8 ⊢
    refine thn (he _ _ _ _ _ _ s8 σ7 H8 _ I8 q8) fun yv s9 ⟨y,H9,I9,r9,hl9,hz9,q9⟩=>?_
    refine thn (mt_append (X:=Y) _ s9 σ7 H9 (.ref l) [y] (.ref l) [yv] (fun _ H'=>H'=upd H9 l (.lst (acc++[y]))) I9 rfl (.cons r9 .nil) ⟨l,acc,y,rfl,rfl,hl9,hz9,rfl⟩) fun _ s10 ⟨_,H10,I10,_,e10⟩=>?_
    subst e10
    exact again I10 q9
 exact codeAny_compStart_list loop (T.self X.A 0 _ _ _ st1 loop)
theorem Inv.gone {X:Cx}{pins:List (Addr × Obj)}{σ:St}{H:Hp}{s:Shared}{C:Addr}{h':Heap}(I:Inv X pins σ H s) (f:FpOk X pins H C) (sb:Heap.SameBut C s.heap h'):Inv X pins σ H { s with heap:=h' } :=
 I.turned (t':=s.toks) (fun b o hb e=>(sb.2 b hb).trans e) f.1 f.2.1 f.2.2.2.1 f.2.2.2.2.1 f.2.2.2.2.2
theorem pe_lc {X:Cx}{elt tg iter:Expr}{o:Option Expr}{scope:Scope}{pos:Pos}{wi:TI}{g:TG}{tt:TT}{te:TE}{N':List Str}{cap:List (Option Nat)}
  (hc:X.calm=true) (hi:PI X tg iter wi) (ck:CapOk X.N N' X.env.scope scope cap)
  (hg:∀ C s₀ H₀ fp pins,PG (zam X N' scope C s₀ H₀ fp pins) tg g)
  (ht:∀ C s₀ H₀ fp pins,PTo (zam X N' scope C s₀ H₀ fp pins) o tt)
  (he:∀ C s₀ H₀ fp pins,PE (zam X N' scope C s₀ H₀ fp pins) elt te)
  (hs:∀ x,foldedSetIterable iter X.env x=pure x:=by intro _;rfl) :
  PE X (.ListComp elt [⟨tg,iter,o.toList,0⟩] scope pos) (tLC cap wi g tt te):=by
 intro pins s σ H Q I h
 rw[eval_ListComp]
 exact zgc (use:=none) hc hi ck hg ht he hs I h fun l C H4 s5 m I5 q hn f=>⟨m,hn,fun h' sb=>⟨.ref l,H4,I5.gone f sb,rfl,q⟩⟩
theorem ps_setLC {X:Cx}{i:Nat}{y:Str}{elt tg iter:Expr}{o:Option Expr}{scope:Scope}{pos spos py:Pos}{wi:TI}{g:TG}{tt:TT}{te:TE}{N':List Str}{cap:List (Option Nat)}
  (hN:X.N.Nodup) (hi':X.N[i]?=some y) (hy:X.env.scope.names.lookup y=some .local) (hc:X.calm=true) (hi:PI X tg iter wi) (ck:CapOk X.N N' X.env.scope scope cap)
  (hg:∀ C s₀ H₀ fp pins,PG (zam X N' scope C s₀ H₀ fp pins) tg g)
  (ht:∀ C s₀ H₀ fp pins,PTo (zam X N' scope C s₀ H₀ fp pins) o tt)
  (he:∀ C s₀ H₀ fp pins,PE (zam X N' scope C s₀ H₀ fp pins) elt te)
  (hs:∀ x,foldedSetIterable iter X.env x=pure x:=by intro _;rfl)
  (hsw:swapsWith (.ListComp elt [⟨tg,iter,o.toList,0⟩] scope pos) (some (.Name y py)) spos.line X.env=pure true:=by with_unfolding_all rfl) :
  PS X (.Assign [.Name y py] (.ListComp elt [⟨tg,iter,o.toList,0⟩] scope pos) spos) (tAsg (tLC cap wi g tt te) (gName i)):=by
 intro pins s σ H D I h
 rw[exec_Assign_Name_used y py _ spos hsw]
 refine wpAny_bind (wpAny_standAt (wpAny_bind (wpAny_bind (thn (zgc (use:=some (assign (.Name y py) X.env)) (Q0:=fun _ z=>SP X pins D .next z) hc hi ck hg ht he hs I h fun l C H4 s5 m I5 q hn f=>?_) fun _ z hz=>wpAny_pure (wpAny_pure hz)))))
 refine wpAny_assign_Name (zcR (v:=.ref l) I5 hN hi' (.inl hy) rfl (fun s6 I6 ⟨a,sb,ha⟩=>?_) (.inr hy))
 have nC:C≠a:=by
  rcases ha with z|z
  ·rw[z];exact f.2.1
  ·exact fun w=>f.2.2.2.2.1 y a z w.symm
 have hn6:s6.heap.Ns C m:=hn.sameBut sb nC
 exact⟨m,hn6,fun h' sb'=>⟨_,H4,I6.gone f sb',q⟩⟩
end L2
namespace Own
open PySem PySem.Spec PyProof.Rows
section
variable {M:Model}{prog:Program}{w:World}{A:Around}{E:Value→Shared→Prop}{s:Shared}{α:Type}{Q:α→Shared→Prop}
theorem rf {a:Addr}{o:Obj}{vs:Array Value}{x:Value}{f:Value→Sem α}(k:Nat) (ho:s.heap.get? a=some o) (hd:o.data=.fields vs) (hx:vs[k]?=some x) (h:wpAny M A (f x) Q E s) :
  wpAny M A (field (.ref a) k >>= f) Q E s:=wpAny_bind (wpAny_field ho hd hx h)
theorem nx {T id:String}{B:Builtin}{it:Addr}{P:Value→Shared→Prop}(slot:Slot T "__next__" id) (ty:s.TypeIs (.ref it) T) (en:entryFor table id=some B) (ok:argsOk id ⟨[.ref it],[]⟩)
  (h:wpAny (model prog w) A.in1 (B ⟨[.ref it],[]⟩) (fun r s'=>∃ v,r=.done (.ret v)∧P v s') E s):wpAny (model prog w) A (Builtin.SmallTypes.nextOf (.ref it)) P E s:=by
 unfold Builtin.SmallTypes.nextOf;refine wpAny_bind (wpAny_callSpecial?_slot (name:="__next__") ty slot (wpAny_call_entry slot ty en (thn2 h) ok))
where
 thn2 {B':Sem Fin}{P:Value→Shared→Prop}{A':Around}(h:wpAny (model prog w) A' B' (fun r s'=>∃ v,r=.done (.ret v)∧P v s') E s) :
   wpAny (model prog w) A' B' (fun r s'=>∃ v,r=.done (.ret v)∧wpAny (model prog w) A (pure v) P E s') E s :=
  wpAny_mono h (fun _ _ ⟨v,e,q⟩=>⟨v,e,wpAny_pure q⟩) fun _ _ z=>z
end
theorem ends {A:Around}{E:Value→Shared→Prop}{prog:Program}{w:World}{s:Shared}{α:Type}{Q:α→Shared→Prop}(hh:A.handled=none)
  (h:∀ h' x,(∀ b o,s.heap.get? b=some o→h'.get? b=some o)→(∃ o,h'.get? x=some o∧o.cls=.type "StopIteration")→E (.ref x) { s with heap:=h' }) :
  wpAny (model prog w) A (Builtin.SmallTypes.stopIteration:Sem α) Q E s:=by
 unfold Builtin.SmallTypes.stopIteration newExc newTuple
 refine wpAny_bind (wpAny_bind (wpAny_newObj_type ?_ (by size_fits)))
 refine wpAny_bind (wpAny_of_eq (a:=Value.none) (by rfl) (wpAny_newObj_type (wpAny_raiseNew_none hh (h _ _ (fun b o e=>?_) ⟨_,Heap.get?_push_size _ rfl,rfl⟩)) (by size_fits)))
 exact Heap.get?_push_of_some _ (Heap.get?_push_of_some _ e)
def cN:Bool→String
 | true=>"list_iterator"
 | false=>"tuple_iterator"
abbrev RIt (b:Bool) (h:Heap) (it a:Addr) (i:Int):Prop:=h.get? it=some { cls:=.type (cN b),dict:=none,data:=.fields #[.ref a,.int i 0],slots:=#[] }
def SqO:Bool→Heap→Addr→Array Value→Prop
 | true,h,a,xs=>h.IsList a xs
 | false,h,a,xs=>h.IsTuple a xs
theorem SqO.ob {b:Bool}{h:Heap}{a:Addr}{xs:Array Value}(x:SqO b h a xs):∃ o n,h.get? a=some o∧o.data=.seq xs n:=by
 cases b<;>(obtain⟨o,e,_,n,d⟩:=x;exact⟨o,n,e,d⟩)
theorem SqO.mv {b:Bool}{h h':Heap}{a:Addr}{xs:Array Value}(x:SqO b h a xs) (k:∀ o,h.get? a=some o→h'.get? a=some o):SqO b h' a xs:=by
 cases b<;>(obtain⟨o,e,r⟩:=x;exact⟨o,k o e,r⟩)
theorem SqO.ne {b b':Bool}{h:Heap}{a it a':Addr}{i:Int}{xs:Array Value}(x:SqO b h a xs) (y:RIt b' h it a' i):a≠it:=fun z=>by
 obtain⟨o,n,e,d⟩:=x.ob
 rw[z,y]at e;cases e;cases d
section
variable {prog:Program}{w:World}{A:Around}{E:Value→Shared→Prop}{s:Shared}
theorem ty {b:Bool}{it a:Addr}{i:Int}(y:RIt b s.heap it a i):s.TypeIs (.ref it) (cN b):=⟨_,y,rfl⟩
theorem zdB {b:Bool}{it a:Addr}{i:Nat}{xs:Array Value}{x:Value}{P:Value→Shared→Prop}{B:Builtin}(hB:B=match b with|true=>Builtin.«list_iterator.__next__»|false=>Builtin.«tuple_iterator.__next__»)
  (y:RIt b s.heap it a i) (sq:SqO b s.heap a xs) (hx:xs[i]?=some x) (h:∀ h',RIt b h' it a (i+1)→Heap.SameBut it s.heap h'→P x { s with heap:=h' }) :
  wpAny (model prog w) A (B ⟨[.ref it],[]⟩) (fun r s'=>∃ v,r=.done (.ret v)∧P v s') E s:=by
 obtain⟨o,n,e,d⟩:=sq.ob
 have fin:wpAny (model prog w) A (match xs[(i:Int).toNat]? with
   | some x=>(do setField (.ref it) 1 (rawInt ((i:Int)+1));ret x:Sem Fin)
   | none=>Builtin.SmallTypes.stopIteration) (fun r s'=>∃ v,r=.done (.ret v)∧P v s') E s:=by
  rw[Int.toNat_natCast,hx]
  exact wpAny_bind (wpAny_setField_rec y (show 1<2 by decide) fun h' y' sb=>wpAny_pure ⟨x,rfl,h h' y' sb⟩)
 rw[Int.toNat_natCast,hx]at fin
 subst hB
 cases b <;>
 ·refine rf 0 y rfl rfl (PyIte (show ¬((Value.ref a == Value.none)=true) from Bool.false_ne_true) (rf 1 y rfl rfl (wpAny_bind (wpAny_seqItems e d ?_))))
  simp only[Int.toNat_natCast,hx];exact fin
where
 PyIte {c:Prop} [Decidable c] {α:Type}{a b:Sem α}{M:Model}{A:Around}{Q:α→Shared→Prop}{E:Value→Shared→Prop}{s:Shared}(hc:¬ c) (h:wpAny M A b Q E s):wpAny M A (if c then a else b) Q E s:=by
  rw[if_neg hc];exact h
theorem zcV {b:Bool}{it a:Addr}{i:Nat}{xs:Array Value}{Q:Fin→Shared→Prop}{B:Builtin}(hB:B=match b with|true=>Builtin.«list_iterator.__next__»|false=>Builtin.«tuple_iterator.__next__»)
  (hh:A.handled=none) (y:RIt b s.heap it a i) (sq:SqO b s.heap a xs) (hx:xs[i]?=none)
  (h:∀ h' x,(∀ c o,c≠it→s.heap.get? c=some o→h'.get? c=some o)→(∃ o,h'.get? x=some o∧o.cls=.type "StopIteration")→E (.ref x) { s with heap:=h' }) :
  wpAny (model prog w) A (B ⟨[.ref it],[]⟩) Q E s:=by
 obtain⟨o,n,e,d⟩:=sq.ob
 subst hB
 cases b <;>
 ·refine rf 0 y rfl rfl (zdB.PyIte (show ¬((Value.ref a == Value.none)=true) from Bool.false_ne_true) (rf 1 y rfl rfl (wpAny_bind (wpAny_seqItems e d ?_))))
  simp only[Int.toNat_natCast,hx];refine wpAny_bind (wpAny_rule (wpAny_bind (wpAny_setField_rec y (show 0<2 by decide) fun h1 _ sb=>?_)))
  exact ends hh fun h2 x k z=>h h2 x (fun c o hc q=>k c o ((sb.2 c hc).trans q)) z
theorem ziW {b:Bool}{it a:Addr}{i:Nat}{xs:Array Value}{x:Value}{P:Value→Shared→Prop}(y:RIt b s.heap it a i) (sq:SqO b s.heap a xs) (hx:xs[i]?=some x)
  (h:∀ h',RIt b h' it a (i+1)→Heap.SameBut it s.heap h'→P x { s with heap:=h' }):wpAny (model prog w) A (Builtin.SmallTypes.nextOf (.ref it)) P E s:=by
 cases b
 ·exact nx F.slot_tuple_iterator_next (ty y) F.entry_tuple_iterator_next (F.args_tuple_iterator_next_1 _) (zdB (b:=false) rfl y sq hx h)
 ·exact nx slot_listiter_next (ty y) entry_listiter_next (args_listiter_next _) (zdB (b:=true) rfl y sq hx h)
theorem zf3 {b:Bool}{it a:Addr}{i:Nat}{xs:Array Value}{P:Value→Shared→Prop}(hh:A.handled=none) (y:RIt b s.heap it a i) (sq:SqO b s.heap a xs) (hx:xs[i]?=none)
  (h:∀ h' x,(∀ c o,c≠it→s.heap.get? c=some o→h'.get? c=some o)→(∃ o,h'.get? x=some o∧o.cls=.type "StopIteration")→E (.ref x) { s with heap:=h' }) :
  wpAny (model prog w) A (Builtin.SmallTypes.nextOf (.ref it)) P E s:=by
 have inner:A.in1.handled=none:=hh
 cases b
 ·exact nx F.slot_tuple_iterator_next (ty y) F.entry_tuple_iterator_next (F.args_tuple_iterator_next_1 _) (zcV (b:=false) rfl inner y sq hx h)
 ·exact nx slot_listiter_next (ty y) entry_listiter_next (args_listiter_next _) (zcV (b:=true) rfl inner y sq hx h)
theorem zbd {b:Bool}{a:Addr}{xs:Array Value}{P:Value→Shared→Prop}(sq:SqO b s.heap a xs)
  (h:P (.ref s.heap.objs.size) { s with heap:=s.heap.push { cls:=.type (cN b),data:=.fields #[.ref a,.int 0 0] } }):wpAny (model prog w) A (pyIter (.ref a)) P E s:=by
 cases b
 ·exact wpAny_pyIter_tuple sq h
 ·exact wpAny_pyIter_list sq h
end
theorem zcD {prog:Program}{w:World}{A:Around}(hh:A.handled=none) (b:Bool) (it a:Addr) (xs:Array Value) (hne:a≠it) :
  Draws prog w A it [it,a] xs.size (fun i v=>xs[i]?=some v) (fun i h=>RIt b h it a i∧SqO b h a xs) :=
 ⟨fun _ _ st=>⟨_,st.1⟩,fun _ _ _ st k=>⟨k it List.mem_cons_self _ st.1,st.2.mv fun o e=>k a (List.mem_cons_of_mem _ List.mem_cons_self) o e⟩,
  fun i s Q E hi st k=>ziW st.1 st.2 (Array.getElem?_eq_getElem hi) fun h' y sb=>k _ h' s.toks (Array.getElem?_eq_getElem hi) ⟨y,st.2.mv fun o e=>(sb.2 a hne).trans e⟩ sb,
  fun s Q E st k=>zf3 hh st.1 st.2 (by simp) fun h' x kk z=>k h' x (fun c o hc q=>kk c o hc q) z⟩
theorem zhA (b:Bool) (a:Addr) (o:Obj) (xs:Array Value) :
  Meets (Builtin.«enumerate.__new__» ⟨[.type "enumerate",.ref a],[]⟩) (fun _ R s=>s.heap.get? a=some o∧SqO b s.heap a xs ∧
   R (.ok (.ret (.ref (s.heap.push { cls:=.type (cN b),data:=.fields #[.ref a,.int 0 0] }).objs.size)))
    { s with heap:=(s.heap.push { cls:=.type (cN b),data:=.fields #[.ref a,.int 0 0] }).push { cls:=.type "enumerate",data:=.fields #[.none,.bool false,.ref s.heap.objs.size,rawInt 0,.none,.none] } }) :=
 .of_wp fun prog w A R s h=>by
  obtain⟨hp,g,d,tk,os⟩:=s;obtain⟨ho,sq,h⟩:=h
  have sub:=sub_enumerate
  have sq':SqO b (Shared.heap ⟨hp,g,d,tk,os⟩) a xs:=sq
  wp_walk using AutoSeq1.wpAny_loadPart' ho;refine wpAny_stack_any fun st=>wpAny_pure ?_
  split
  case h_1 c _ _ _ _ _ =>
   cases (c == Value.type "enumerate")<;>(wp_walk using AutoSeq1.wpAny_loadPart' ho,zbd sq';exact⟨_,rfl,h⟩)
  all_goals (wp_walk using AutoSeq1.wpAny_loadPart' ho,zbd sq';exact⟨_,rfl,h⟩)
theorem zgK {prog:Program}{w:World}{A:Around}{E:Value→Shared→Prop}{s:Shared}{b:Bool}{a:Addr}{xs:Array Value}{P:Value→Shared→Prop}(sq:SqO b s.heap a xs)
  (h:∀ h' e it,s.heap.objs.size≤e→s.heap.objs.size≤it→e≠it→IsEnum h' e it 0 .none→RIt b h' it a 0→(∀ c o,s.heap.get? c=some o→h'.get? c=some o)→P (.ref e) { s with heap:=h' }) :
  wpAny (model prog w) A (call (.type "enumerate") [.ref a]) P E s:=by
 obtain⟨o,n,ho,_⟩:=sq.ob
 refine callType_new F.called_enumerate (by decide) (F.typeCall_enumerate_1 _) (F.newCall_enumerate_1 _) (fun obj=>F.args_object_init_2 obj _) F.entry_enumerate_new (zhA b a o xs) ⟨ho,sq,⟨_,Heap.get?_push_size _ rfl,rfl⟩,?_⟩
 refine h _ _ _ ?_ (Nat.le_refl _) ?_ (Heap.get?_push_size _ rfl) (Heap.get?_push_of_some _ (Heap.get?_push_size _ rfl)) fun c o e=>Heap.get?_push_of_some _ (Heap.get?_push_of_some _ e)
 ·rw[Heap.size_push];exact Nat.le_succ _
 ·rw[Heap.size_push];exact Nat.succ_ne_self _
structure Sep (z TI TO i1 i2:Addr) (f1 f2:List Addr):Prop where
 all:[z,TI,TO,i1,i2].Nodup
 z1:z∉f1
 t1:TO∉f1
 o1:i2∉f1
 z2:z∉f2
 t2:TO∉f2
 o2:i1∉f2
section
variable {prog:Program}{w:World}{A:Around}{E:Value→Shared→Prop}{s:Shared}{z TI TO i1 i2:Addr}{f1 f2:List Addr}{n1 n2 k:Nat}{P1 P2:Nat→Value→Prop}{S1 S2:Nat→Heap→Prop}{a b:Value}
theorem zd3 (S:Sep z TI TO i1 i2 f1 f2) (D1:Draws prog w A i1 f1 n1 P1 S1) (D2:Draws prog w A i2 f2 n2 P2 S2) {Q:Value→Shared→Prop}
  (hz:IsZip s.heap z TI TO .none) (hI:IsPair s.heap TI (.ref i1) (.ref i2)) (hO:IsPair s.heap TO a b) (d1:S1 k s.heap) (d2:S2 k s.heap) (l1:k<n1) (l2:k<n2)
  (h:∀ x y h' tk,P1 k x→P2 k y→IsZip h' z TI TO (rawInt s.heap.objs.size)→IsPair h' TO x y→S1 (k+1) h'→S2 (k+1) h'→IsPair h' s.heap.objs.size x y →
   (∀ c o,c∉[z,TO,i1,i2]→s.heap.get? c=some o→h'.get? c=some o)→Q (.ref s.heap.objs.size) { s with heap:=h',toks:=tk }) :
  wpAny (model prog w) A (Builtin.«zip.__next__» ⟨[.ref z],[]⟩) (fun r s'=>∃ v,r=.done (.ret v)∧Q v s') E s:=by
 have nd:=S.all
 simp only[List.nodup_cons,List.mem_cons,List.not_mem_nil,or_false,not_or]at nd
 obtain⟨⟨zI,zO,z1,z2⟩,⟨IO,I1,I2⟩,⟨O1,O2⟩,n12,_⟩:=nd
 refine rf 2 hz rfl rfl (rf 3 hz rfl rfl (wpAny_bind (wpAny_seqItems hI rfl (wpAny_bind (rf 0 hz rfl rfl (wpAny_pure ?_))))))
 simp only[if_true]
 refine wpAny_bind (wpAny_rule (rf 4 hz rfl rfl (wpAny_bind (wpAny_setField_rec hz (show 0<5 by decide) fun ha za sa=>wpAny_bind ?_))))
 have za':IsZip ha z TI TO .ellipsis:=za;simp only[List.zipIdx_cons,List.zipIdx_nil,List.forIn_cons,List.forIn_nil]
 refine wpAny_bind (wpAny_bind (wpAny_onRaise (wpAny_bind (D1.item k _ _ _ l1 (D1.frame _ _ _ d1 fun c hc o e=>(sa.2 c fun q=>S.z1 (q ▸ hc)).trans e) fun x hb tb px db sb=>wpAny_pure ?_))))
 have Ob:IsPair hb TO a b:=(sb.2 TO O1).trans ((sa.2 TO (Ne.symm zO)).trans hO)
 refine wpAny_bind (wpAny_seqItems Ob rfl (wpAny_bind (wpAny_updateSeq_pair Ob fun hc Oc sc=>wpAny_bind (wpAny_letGo (wpAny_pure ?_)))))
 have Oc':IsPair hc TO x b:=Oc
 have st2:S2 k hc:=D2.frame _ _ _ d2 fun c hm o e=>(sc.2 c fun q=>S.t2 (q ▸ hm)).trans ((sb.2 c fun q=>S.o2 (q ▸ hm)).trans ((sa.2 c fun q=>S.z2 (q ▸ hm)).trans e))
 refine wpAny_bind (wpAny_bind (wpAny_onRaise (wpAny_bind (D2.item k _ _ _ l2 st2 fun y hd td py dd sd=>wpAny_pure ?_))))
 have Od:IsPair hd TO x b:=(sd.2 TO O2).trans Oc'
 refine wpAny_bind (wpAny_seqItems Od rfl (wpAny_bind (wpAny_updateSeq_pair Od fun he Oe se=>wpAny_bind (wpAny_letGo (wpAny_pure (wpAny_pure ?_))))))
 have Oe':IsPair he TO x y:=Oe
 refine wpAny_bind (wpAny_seqItems Oe' rfl (wpAny_bind (wpAny_newTuple (wpAny_bind ?_))))
 have sz:he.objs.size=s.heap.objs.size:=by rw[se.1,sd.1,sc.1,sb.1,sa.1]
 have ze:IsZip he z TI TO .ellipsis:=(se.2 z zO).trans ((sd.2 z z2).trans ((sc.2 z zO).trans ((sb.2 z z1).trans za')))
 have zn:he.objs.size≠z:=Nat.ne_of_gt (Heap.lt_size ze)
 unfold Builtin.SmallTypes.ownedTupleHandOut;refine wpAny_bind (wpAny_setField_rec (Heap.get?_push_of_some _ ze) (show 0<5 by decide) fun hf zf sf=>wpAny_setField_rec zf (show 1<5 by decide) fun hg zg sg=>wpAny_pure ⟨_,rfl,?_⟩)
 have up:∀ c o,c≠z→he.get? c=some o→hg.get? c=some o:=fun c o q e=>(sg.2 c q).trans ((sf.2 c q).trans (Heap.get?_push_of_some _ e))
 have new:IsPair hg he.objs.size x y:=(sg.2 _ zn).trans ((sf.2 _ zn).trans (Heap.get?_push_size _ rfl))
 have zg':IsZip hg z TI TO (rawInt he.objs.size):=zg
 rw[sz]at new zg'
 show Q (.ref he.objs.size) _
 rw[sz]
 refine h x y hg td px py zg' (up _ _ (Ne.symm zO) Oe') ?_ ?_ new fun c o hc e=>?_
 ·exact D1.frame _ _ _ db fun c hm o e=>up c o (fun q=>S.z1 (q ▸ hm)) ((se.2 c fun q=>S.t1 (q ▸ hm)).trans ((sd.2 c fun q=>S.o1 (q ▸ hm)).trans ((sc.2 c fun q=>S.t1 (q ▸ hm)).trans e)))
 ·exact D2.frame _ _ _ dd fun c hm o e=>up c o (fun q=>S.z2 (q ▸ hm)) ((se.2 c fun q=>S.t2 (q ▸ hm)).trans e)
 ·simp only[List.mem_cons,List.not_mem_nil,or_false,not_or]at hc
  obtain⟨c1,c2,c3,c4⟩:=hc
  exact up c o c1 ((se.2 c c2).trans ((sd.2 c c4).trans ((sc.2 c c2).trans ((sb.2 c c3).trans ((sa.2 c c1).trans e)))))
end
section
variable {prog:Program}{w:World}{A:Around}{E:Value→Shared→Prop}{s:Shared}{z TI TO i1 i2:Addr}{f1 f2:List Addr}{n1 n2 k:Nat}{P1 P2:Nat→Value→Prop}{S1 S2:Nat→Heap→Prop}{a b:Value}
theorem zd2 (S:Sep z TI TO i1 i2 f1 f2) (D1:Draws prog w A i1 f1 n1 P1 S1) {Q:Fin→Shared→Prop}(hz:IsZip s.heap z TI TO .none) (hI:IsPair s.heap TI (.ref i1) (.ref i2)) (d1:S1 n1 s.heap)
  (h:∀ h' x,(∀ c o,c∉[z,TO,i1,i2]→s.heap.get? c=some o→h'.get? c=some o)→(∃ o,h'.get? x=some o∧o.cls=.type "StopIteration")→E (.ref x) { s with heap:=h' }):wpAny (model prog w) A (Builtin.«zip.__next__» ⟨[.ref z],[]⟩) Q E s:=by
 have nd:=S.all
 simp only[List.nodup_cons,List.mem_cons,List.not_mem_nil,or_false,not_or]at nd
 obtain⟨⟨zI,zO,z1,z2⟩,⟨IO,I1,I2⟩,⟨O1,O2⟩,n12,_⟩:=nd
 refine rf 2 hz rfl rfl (rf 3 hz rfl rfl (wpAny_bind (wpAny_seqItems hI rfl (wpAny_bind (rf 0 hz rfl rfl (wpAny_pure ?_))))))
 simp only[if_true]
 refine wpAny_bind (wpAny_rule (rf 4 hz rfl rfl (wpAny_bind (wpAny_setField_rec hz (show 0<5 by decide) fun ha za sa=>wpAny_bind ?_))))
 have za':IsZip ha z TI TO .ellipsis:=za;simp only[List.zipIdx_cons,List.zipIdx_nil,List.forIn_cons,List.forIn_nil]
 refine wpAny_bind (wpAny_bind (wpAny_onRaise (wpAny_bind (D1.done _ _ _ (D1.frame _ _ _ d1 fun c hc o e=>(sa.2 c fun q=>S.z1 (q ▸ hc)).trans e) fun hb x kb ⟨ox,ex,cx⟩=>?_))))
 have zb:IsZip hb z TI TO .ellipsis:=kb z _ z1 za'
 have xz:x≠z:=fun q=>by rw[q,zb]at ex;cases ex;exact absurd (show Value.type "zip" = Value.type "StopIteration" from cx) (by decide)
 refine wpAny_setField_rec zb (show 0<5 by decide) fun hc _ sc=>h hc x (fun c o hm e=>?_) ⟨ox,(sc.2 x xz).trans ex,cx⟩
 simp only[List.mem_cons,List.not_mem_nil,or_false,not_or]at hm
 exact(sc.2 c hm.1).trans (kb c o hm.2.2.1 ((sa.2 c hm.1).trans e))
end
theorem zdm (b1 b2:Bool) (a1 a2:Addr) (xs ys:Array Value):Meets (Builtin.«zip.__new__» ⟨[.type "zip",.ref a1,.ref a2],[]⟩) (fun _ R s=>SqO b1 s.heap a1 xs∧SqO b2 s.heap a2 ys ∧
  ∀ h' z,(∃ TI TO i1 i2,[z,TI,TO,i1,i2].Nodup∧(∀ c∈[z,TI,TO,i1,i2],s.heap.objs.size≤c)∧IsZip h' z TI TO .none∧IsPair h' TI (.ref i1) (.ref i2)∧IsPair h' TO .none .none∧RIt b1 h' i1 a1 0∧RIt b2 h' i2 a2 0) →
   (∀ c o,s.heap.get? c=some o→h'.get? c=some o)→R (.ok (.ret (.ref z))) { s with heap:=h' }) :=
 .of_wp fun prog w A R s h=>by
  obtain⟨hp,g,d,tk,os⟩:=s;obtain⟨q1,q2,h⟩:=h
  have sub:=sub_zip
  have r1:SqO b1 (Shared.heap ⟨hp,g,d,tk,os⟩) a1 xs:=q1
  have r2:SqO b2 (Shared.heap ⟨hp.push { cls:=.type (cN b1),data:=.fields #[.ref a1,.int 0 0] },g,d,tk,os⟩) a2 ys:=q2.mv fun o e=>Heap.get?_push_of_some _ e
  wp_walk using zbd r1,zbd r2
  refine⟨_,rfl,h _ _ ⟨_,_,_,_,?_,?_,Heap.get?_push_size _ rfl,Heap.get?_push_of_some _ (Heap.get?_push_of_some _ (Heap.get?_push_size _ rfl)),Heap.get?_push_of_some _ (Heap.get?_push_size _ rfl),
   Heap.get?_push_of_some _ (Heap.get?_push_of_some _ (Heap.get?_push_of_some _ (Heap.get?_push_of_some _ (Heap.get?_push_size _ rfl)))),Heap.get?_push_of_some _ (Heap.get?_push_of_some _ (Heap.get?_push_of_some _ (Heap.get?_push_size _ rfl)))⟩ fun c o e=>?_⟩
  ·simp only[Heap.size_push,List.nodup_cons,List.mem_cons,List.not_mem_nil,or_false,not_or]
   simp<;>lia
  ·simp only[Heap.size_push,List.mem_cons,List.not_mem_nil,or_false]
   intro c hc
   have:hp.objs.size≤c:=by lia
   exact this
  ·exact Heap.get?_push_of_some _ (Heap.get?_push_of_some _ (Heap.get?_push_of_some _ (Heap.get?_push_of_some _ (Heap.get?_push_of_some _ e))))
end Own
namespace L2
open PySem PySem.Spec PyProof.Rows Own
section
variable {X:Cx}{pins:List (Addr × Obj)}{σ:St}{H:Hp}{s:Shared}{h':Heap}
theorem Inv.spunN {fp:List Addr}{T:Addr}{o:HO}{t':Nat}(I:Inv X pins σ H s) (k:∀ b o,b∉fp→s.heap.get? b=some o→h'.get? b=some o) (hf:∀ b∈fp,FpOk X pins H b) (hT:s.heap.objs.size≤T)
  (new:ObjOk X.prog X.w (upd H T o) h' T o):Inv X pins σ (upd H T o) { s with heap:=h',toks:=t' }:=by
 have hn:H T=none:=I.hok.fresh hT
 have neT:∀ b u,s.heap.get? b=some u→b≠T:=fun b u e=>Nat.ne_of_lt (Nat.lt_of_lt_of_le (Heap.lt_size e) hT)
 have nfp:∀ b u,H b=some u→b∉fp:=fun b u e hb=>by rw[(hf b hb).1]at e;cases e
 refine I.step (g':=s.gens) (d':=s.drawn) (ch:=fp) (fun b hb=>?_) (fun b o _ _ hc e _=>k b o hc e) (fun b o _ _ hc e _=>⟨o.slots,k b o hc e⟩) (fun b o _ e n=>by rw[zac (neT b o e)];exact n)
  (fun b o hc e=>⟨o,k b o hc e⟩) (fun b xs e=>by rw[zac (zad e hn)];exact e) (fun b o u e=>by rw[zac (zad e hn)];exact e) (fun b ps e=>⟨#[],by rw[zac (zad e hn),e];simp⟩) (fun m hm=>?_) (fun b u e=>?_) I.bare
 ·obtain⟨f0,f1,f2,f3,f4,f5⟩:=hf b hb
  exact⟨f3,f1,f4,f5⟩
 ·obtain⟨o,es,ep,ho,r⟩:=hm
  exact⟨o,es,ep,k _ o (fun hb=>(hf _ hb).2.1 rfl) ho,r⟩
 ·by_cases hb:b=T
  ·subst hb;rw[zab]at e;cases e;exact new
  ·rw[zac hb]at e
   refine(I.hok b u e).stay (fun c v hc q=>k c v ?_ q) (fun c q=>by rw[zac (zad q hn)];exact q) fun c xs q=>by rw[zac (zad q hn)];exact q
   rcases hc with z|z
   ·rw[z];exact nfp b u e
   ·exact nfp c _ z
theorem Inv.spun {fp:List Addr}{t':Nat}(I:Inv X pins σ H s) (k:∀ b o,b∉fp→s.heap.get? b=some o→h'.get? b=some o) (hf:∀ b∈fp,FpOk X pins H b):Inv X pins σ H { s with heap:=h',toks:=t' }:=by
 have nfp:∀ b u,H b=some u→b∉fp:=fun b u e hb=>by rw[(hf b hb).1]at e;cases e
 refine I.step (g':=s.gens) (d':=s.drawn) (ch:=fp) (fun b hb=>?_) (fun b o _ _ hc e _=>k b o hc e) (fun b o _ _ hc e _=>⟨o.slots,k b o hc e⟩) (fun b o _ e n=>n)
  (fun b o hc e=>⟨o,k b o hc e⟩) (fun b xs e=>e) (fun b o u e=>e) (fun b ps e=>⟨#[],by rw[e];simp⟩) (fun m hm=>?_) (fun b u e=>?_) I.bare
 ·obtain⟨f0,f1,f2,f3,f4,f5⟩:=hf b hb
  exact⟨f3,f1,f4,f5⟩
 ·obtain⟨o,es,ep,ho,r⟩:=hm
  exact⟨o,es,ep,k _ o (fun hb=>(hf _ hb).2.1 rfl) ho,r⟩
 ·refine(I.hok b u e).stay (fun c v hc q=>k c v ?_ q) (fun c q=>q) fun c xs q=>q
  rcases hc with z|z
  ·rw[z];exact nfp b u e
  ·exact nfp c _ z
end
def SqB:Bool→PySem.W.Frag→Hp→Addr→List V→Prop
 | true,K,H,a,xs=>SqL K H a xs
 | false,K,H,a,xs=>SqT K H a xs
section
variable {X:Cx}{pins:List (Addr × Obj)}{σ:St}{H:Hp}{s:Shared}{a c:Addr}{xs ys:List V}{b:Bool}
theorem Inv.sq (I:Inv X pins σ H s) (h:SqB b X.K H a xs):∃ its:List Value,Vals xs its∧SqO b s.heap a its.toArray:=by
 cases b
 ·obtain⟨its,r,p,z⟩:=I.tuple h
  exact⟨its,r,p⟩
 ·obtain⟨its,r,p,z⟩:=I.list h
  exact⟨its,r,p.isList⟩
theorem Inv.sq_inj (I:Inv X pins σ H s) (h:SqB b X.K H a xs) (h':SqB b X.K H a ys):xs=ys:=by
 cases b
 ·exact I.tuple_inj h h'
 ·exact I.list_inj h h'
theorem Inv.sq_ne (I:Inv X pins σ H s) (h:SqB b X.K H a xs) (f:FpOk X pins H c):c≠a:=by
 rintro rfl
 have inK:∀ o,X.K.lookup c=some o→False:=fun o e=>by
  have e1:=I.ok.mod.kin c o e
  rcases f.2.2.2.1 with z|z
  ·exact I.ok.noex c o e1 z
  ·exact absurd (Nat.lt_of_lt_of_le (Heap.lt_size e1) (Nat.le_trans I.ok.bsz z)) (Nat.lt_irrefl _)
 cases b <;>
 ·rcases h with (h|⟨o,h⟩)|⟨o,_,_,e,_⟩
  ·rw[f.1]at h;cases h
  ·rw[f.1]at h;cases h
  ·exact inK o e
end
def Pr (v u:V) (H:Hp) (x:V) (H':Hp):Prop:=∃ T,H T=none∧x=.ref T∧H'=upd H T (.tup [v,u])
theorem zbD {P:Program}{w:World}{H:Hp}{h:Heap}{T:Addr}{v u:V}{a b:Value}(e:IsPair h T a b) (rv:RelV v a) (ru:RelV u b):ObjOk P w (upd H T (.tup [v,u])) h T (.tup [v,u]) :=
 ⟨show 2≤sizeLine by decide,[a,b],.cons rv (.cons ru .nil),⟨_,e,rfl,_,rfl,rfl⟩⟩
def Ite (K:PySem.W.Frag) (b:Bool) (a:Addr):It :=
 ⟨fun i H=>∃ xs x,SqB b K H a xs∧xs[i]?=some x,fun i H x H'=>∃ y,(∀ xs,SqB b K H a xs→xs[i]?=some y)∧Pr (.int i) y H x H',fun i H=>∃ xs,SqB b K H a xs∧xs.length=i⟩
theorem zfj {P:Program}{w:World}{K:PySem.W.Frag}{es:List Expr}{k1} {p1:Pos}(b:Bool) (a e it:Addr) (hne:e≠it):Turn P w K (.Tuple es k1 p1) (Ite K b a) [e,it] e (fun i h=>(∃ old,IsEnum h e it i old)∧RIt b h it a i) where
 mem:=List.mem_cons_self
 obj:=fun i h ⟨⟨old,he⟩,hi⟩ c hc=>by
  rcases List.mem_cons.mp hc with q|q
  ·rw[q];exact⟨_,he,fun v z=>by cases z⟩
  ·rw[List.mem_singleton.mp q];exact⟨_,hi,fun v z=>by cases z⟩
 keep:=fun i h h' ⟨⟨old,he⟩,hi⟩ kk=>⟨⟨old,kk e (by simp) _ he⟩,kk it (by simp) _ hi⟩
 item:=by
  intro X hP hw hK hc i pins s σ H E I hf ⟨⟨old,he⟩,hi⟩ ⟨xs,x,hq,hx⟩
  subst hP hw hK
  obtain⟨its,rv,p⟩:=I.sq hq
  obtain⟨u,hu,ru⟩:=rv.get hx
  have hlt:i<its.toArray.size:=by simpa using (List.getElem?_eq_some_iff.mp hu).1
  refine wpAny_pyNext_enum_itemD (zcD (prog:=X.prog) (w:=X.w) (A:=X.A.in1) (I.ok.hd hc) b it a its.toArray (p.ne hi)) he ⟨hi,p⟩ hlt hne (by simp[hne,I.sq_ne hq (hf e (by simp))]) fun v h1 tk hv ho hs hT _ hk=>?_
  obtain rfl:u=v:=Option.some.inj (hu.symm.trans (by simpa using hv))
  refine⟨_,rfl,wpAny_letOwnedTupleGo_enum ho fun h2 he2 s2=>?_⟩
  have nT:s.heap.objs.size≠e:=Nat.ne_of_gt (Heap.lt_size he)
  have nI:s.heap.objs.size≠it:=Nat.ne_of_gt (Heap.lt_size hi)
  refine⟨.ref s.heap.objs.size,_,I.spunN (fp:=[e,it]) (fun c o hm q=>?_) hf (Nat.le_refl _) (zbD (v:=.int i) (u:=x) ((s2.2 _ nT).trans hT) ⟨tk,rfl⟩ ru),rfl,⟨x,fun ys hy=>by rw[I.sq_inj hy hq];exact hx,_,I.fresh,rfl,rfl⟩,⟨⟨_,he2⟩,(s2.2 it (Ne.symm hne)).trans hs.1⟩,fun c hm=>?_⟩
  ·have c1:c≠e:=fun z=>hm (by simp[z])
   exact(s2.2 c c1).trans (hk c o c1 (fun z=>hm (by simp[z])) q)
  ·rw[zac,(hf c hm).1]
   rintro rfl
   rcases List.mem_cons.mp hm with z|z
   ·exact nT z
   ·exact nI (List.mem_singleton.mp z)
 done:=by
  intro X hP hw hK hc i pins s σ H E I hf ⟨⟨old,he⟩,hi⟩ ⟨xs,hq,hx⟩
  subst hP hw hK
  obtain⟨its,rv,p⟩:=I.sq hq
  have hz:i=its.toArray.size:=by rw[List.size_toArray,← rv.length,hx]
  refine wpAny_pyNext_enum_endD (zcD (prog:=X.prog) (w:=X.w) (A:=X.A.in1) (I.ok.hd hc) b it a its.toArray (p.ne hi)) he ⟨by rw[← hz];exact hi,p⟩ fun h' eb=>⟨rfl,I.spun (t':=s.toks) (fp:=[e,it]) (fun c o hm q=>eb c o (fun z=>hm (by simp[z])) q) hf⟩
 self:=fun _ _ _ _ _ ⟨⟨_,he⟩,_⟩ h=>wpAny_pyIter_enum he h
def zj0 (K:PySem.W.Frag) (b:Bool) (ta:TA):TI:=fun σ H R=>ta σ H fun vs H1=>∃ a xs,vs=[.ref a]∧SqB b K H1 a xs∧R (Ite K b a) H1
theorem zdE {X:Cx}{a:Expr}{ta:TA}{p pos p1:Pos}{es:List Expr}{k1} (b:Bool) (hg:Gl X "enumerate") (hm:X.mg "enumerate" = none) (ha:PA X [a] ta) (hs:starEach [a] X.env=[(false,eval a X.env)]:=by rfl) :
  PI X (.Tuple es k1 p1) (.Call (.Name "enumerate" p) [a] [] pos) (zj0 X.K b ta):=by
 intro pins s σ H R I h
 refine Call_ (zaD I hg hm (u:=.type "enumerate") (by rfl) (PyProof.Rows.callWith_type1 (thn (ha pos pins s σ H _ I h) fun us s1 ⟨vs,H1,I1,r1,q1⟩=>?_) hs rfl))
 obtain⟨a',xs,rfl,hq,q⟩:=q1
 obtain⟨u,rfl,ru⟩:=r1.one
 cases ru
 obtain⟨its,rv,pl⟩:=I1.sq hq
 refine zgK pl fun h' e it l1 l2 ne he hi hk=>wpAny_pyIter_enum he ⟨_,[e,it],_,_,H1,rfl,I1.kept (t':=s1.toks) hk,zfj b a' e it ne,⟨⟨_,he⟩,hi⟩,fun c hc=>?_,q⟩
 have hc':s1.heap.objs.size≤c:=by
  rcases List.mem_cons.mp hc with z|z
  ·rw[z];exact l1
  ·rw[List.mem_singleton.mp z];exact l2
 exact I1.fpOk hc' (I1.hok.fresh hc')
def Itz (K:PySem.W.Frag) (b1 b2:Bool) (a1 a2:Addr):It :=
 ⟨fun i H=>∃ xs ys x y,SqB b1 K H a1 xs∧SqB b2 K H a2 ys∧xs[i]?=some x∧ys[i]?=some y,fun i H v H'=>∃ x y,(∀ xs,SqB b1 K H a1 xs→xs[i]?=some x)∧(∀ ys,SqB b2 K H a2 ys→ys[i]?=some y)∧Pr x y H v H',
  fun i H=>∃ xs,SqB b1 K H a1 xs∧xs.length=i⟩
def iZip (K:PySem.W.Frag) (b1 b2:Bool) (ta:TA):TI:=fun σ H R=>ta σ H fun vs H1=>∃ a1 a2 xs ys,vs=[.ref a1,.ref a2]∧SqB b1 K H1 a1 xs∧SqB b2 K H1 a2 ys∧R (Itz K b1 b2 a1 a2) H1
section
variable {X:Cx}
theorem zjm {prog:Program}{w:World}{A:Around}(hh:A.handled=none) (b:Bool) (I a:Addr) (hne:a≠I) (xs:Array Value) :
  Walks prog w A I [I,a] [I] xs.size (fun i v=>xs[i]?=some v) (fun i h=>(match b with|true=>h.IsListIter I a i|false=>h.IsTupleIter I a i)∧SqO b h a xs):=by
 cases b
 ·exact Walks.tuple hh I a hne xs
 ·exact Walks.list hh I a hne xs
theorem zcJ:CallR X (.builtin "isinstance") (fun vs H Q=>∃ x T t k,vs=[x,.ty T]∧TyOf X.K H x t∧PySem.W.kitOne X.K t (.type T)=some k∧Q (.bl k) H):=by
 intro pins s σ H vs us Q I rv h
 obtain⟨x,T,t,k,rfl,ht,hk,q⟩:=h
 obtain⟨u,v,rfl,ru,rv'⟩:=rv.two
 cases (show v=Value.type T from rv')
 exact zgk I ru ht hk fun tk=>⟨.bl k,H,I.tok tk,rfl,q⟩
theorem zkb (ns ms:List Int):((List.range (min (ns.map V.int).length (ms.map V.int).length)).all (fun j=>eqV ((ns.map V.int).getD j .non) ((ms.map V.int).getD j .non)) && (ns.map V.int).length == (ms.map V.int).length)=decide (ns=ms):=by
 rw[Bool.eq_iff_iff,Bool.and_eq_true,List.all_eq_true,decide_eq_true_iff,beq_iff_eq,List.length_map,List.length_map]
 have at':∀ (l:List Int) (j:Nat) (h:j<l.length),(l.map V.int).getD j .non=.int l[j]:=fun l j h=>by
  rw[List.getD_eq_getElem?_getD,List.getElem?_map,List.getElem?_eq_getElem h];rfl
 constructor
 ·rintro⟨h,e⟩
  refine List.ext_getElem e fun j h1 h2=>?_
  have:=h j (List.mem_range.mpr (by lia))
  rw[at' ns j h1,at' ms j h2]at this
  simpa [eqV] using this
 ·rintro rfl
  refine⟨fun j hj=>?_,rfl⟩
  have hj':j<ns.length:=by have:=List.mem_range.mp hj;lia
  rw[at' ns j hj']
  simp[eqV]
theorem zdd (ns:List Int):(ns.map V.int).all zbQ=true:=by
 rw[List.all_map,List.all_eq_true];intro _ _;rfl
end
example (K:PySem.W.Frag):PySem.W.kitOne K (.type "int") (.type "tuple")=some false:=by rfl
example (K:PySem.W.Frag):PySem.W.kitOne K (.type "int") (.type "bool")=some false:=by first|rfl|decide|(with_unfolding_all rfl)
theorem zaa {H:Hp}{p:Addr}(h:H p=none) (o:HO):Same H (upd H p o):=fun b u q=>by rw[zac (zad q h)];exact q
def capB (N N':List Str) (sc scope:Scope) (cap:List (Option Nat)):Bool :=
 decide (scope.kind=.function) && (scope.names.all fun y=>decide (y.2≠.cell) && (decide (y.2≠.local) || decide (scope.names.lookup y.1=some .local)) &&
  (decide (y.2≠.free) || (decide (sc.names.lookup y.1=some .cell) || decide (sc.names.lookup y.1=some .free)))) && decide (cap.length=N'.length) &&
 ((N'.zip cap).all fun p=>match p.2 with
  | none=>true
  | some i=>decide (N[i]?=some p.1) && (decide (scope.names.lookup p.1=some .free) && (decide (sc.names.lookup p.1=some .cell) || decide (sc.names.lookup p.1=some .free))))
theorem CapOk.of {N N':List Str}{sc scope:Scope}{cap:List (Option Nat)}(h:capB N N' sc scope cap=true):CapOk N N' sc scope cap:=by
 unfold capB at h
 simp only[Bool.and_eq_true,List.all_eq_true,Bool.or_eq_true,decide_eq_true_eq]at h
 obtain⟨⟨⟨h1,h2⟩,h3⟩,h4⟩:=h;refine⟨h1,fun y hy=>(h2 y hy).1.1,fun y hy e=>?_,fun y hy e=>?_,h3,fun p hp i e=>?_⟩
 ·rcases (h2 y hy).1.2 with z|z
  ·exact absurd e z
  ·exact z
 ·rcases (h2 y hy).2 with z|z
  ·exact absurd e z
  ·exact z
 ·have q:=h4 p hp
  rw[e]at q
  simp only[Bool.and_eq_true,Bool.or_eq_true,decide_eq_true_eq]at q
  exact q
def Nx (n i:Nat) (p:Prop):Prop:=∃ m',m'<n-i∧m'=n-(i+1)∧i+1≤n∧p
theorem nx {n i:Nat}{p:Prop}(h:i<n) (q:p):Nx n i p:=⟨n-(i+1),by lia,rfl,h,q⟩
theorem zhp {lo:Int}{n:Nat}{g:TG}{te:TE}{l:Addr}{σ:St}{H:Hp}{Q:VK}(Pv:Nat→List V→St→Hp→Prop) (h0:Pv 0 [] σ H) (hl:∀ i acc σ H,Pv i acc σ H→H l=some (.lst acc))
  (hs:∀ i acc σ H,i<n→Pv i acc σ H→g (.int (lo+i)) σ H fun σ3 H3=>te σ3 H3 fun y H5=>H5 l=some (.lst acc)∧acc.length<sizeLine∧Nx n i (Pv (i+1) (acc++[y]) σ3 (upd H5 l (.lst (acc++[y])))))
  (hd:∀ acc σ H,Pv n acc σ H→Q (.ref l) H):∃ W:Nat→Nat→List V→St→Hp→Prop,(∃ m,W 0 m [] σ H)∧LCW (Itr lo n) g tYes te l Q W:=by
 refine⟨fun i m acc σ H=>m=n-i∧i≤n∧Pv i acc σ H,⟨n,by simp,Nat.zero_le _,h0⟩,?_⟩
 rintro i m acc σ H ⟨rfl,hi,p⟩
 refine⟨hl i acc σ H p,?_⟩
 by_cases hlt:i<n
 ·refine .inr ⟨hlt,fun x H2 ⟨e,y⟩=>?_⟩
  subst e y
  exact hs i acc σ _ hlt p
 ·have e:i=n:=by lia
  subst e
  exact .inl ⟨Nat.le_refl _,hd acc σ H p⟩
section
variable {X:Cx}
theorem zf2 {ns:List Int}{its:List Value}(r:Vals (ns.map V.int) its) {i:Nat}{v:Value}(h:its[i]?=some v):i<ns.length∧∃ t,v=.int (ns.getD i 0) t:=by
 have hl:its.length=ns.length:=by rw[← r.length,List.length_map]
 have hi:=(List.getElem?_eq_some_iff.mp h).1
 have e:(List.map V.int ns)[i]?=some (V.int (ns.getD i 0)):=by
  rw[List.getElem?_map,List.getD_eq_getElem?_getD,List.getElem?_eq_getElem (by lia)];rfl
 obtain⟨u',e',⟨t,rfl⟩⟩:=r.get e
 rw[h]at e'
 exact⟨by lia,t,Option.some.inj e'⟩
theorem zhw {ns:List Int}{i:Nat}(h:i<ns.length):ns.getD i 0∈ns:=by
 rw[List.getD_eq_getElem?_getD,List.getElem?_eq_getElem h];exact List.getElem_mem h
theorem zhk {ns:List Int}{x:Int}(h:x∈ns):∃ i,i<ns.length∧ns.getD i 0=x:=by
 obtain⟨i,hi,e⟩:=List.getElem_of_mem h
 exact⟨i,hi,by rw[List.getD_eq_getElem?_getD,List.getElem?_eq_getElem hi];exact e⟩
theorem call_minB (hc:X.calm=true) (b:Bool):CallR X (.builtin "min") (fun vs H Q=>∃ a ns,vs=[.ref a]∧SqB b X.K H a (List.map V.int ns)∧0<ns.length∧∀ M,M∈ns→(∀ x∈ns,M≤x)→Q (.int M) H):=by
 intro pins s σ H vs us Q I rv h
 obtain⟨a,ns,rfl,hq,hpos,q⟩:=h
 obtain⟨u,rfl,ru⟩:=rv.one
 cases ru
 obtain⟨its,r,p⟩:=I.sq hq
 obtain⟨o,n,eo,_⟩:=p.ob
 have hl:its.length=ns.length:=by rw[← r.length,List.length_map]
 refine call_min_walk (zbd p ⟨s.heap.objs.size,[s.heap.objs.size,a],[s.heap.objs.size],_,_,_,fun i j=>decide (ns.getD i 0<ns.getD j 0),rfl,zjm (show X.A.in1.handled=none from I.ok.hd hc) b _ a (Nat.ne_of_lt (Heap.lt_size eo)) its.toArray,⟨?_,p.mv fun o e=>Heap.get?_push_of_some _ e⟩,fun c hm=>?_,by rw[List.size_toArray];lia,?_,?_⟩)
 ·cases b<;>exact⟨_,Heap.get?_push_size _ rfl,rfl,rfl⟩
 ·show c<(s.heap.push _).objs.size
  rw[Heap.size_push]
  rcases List.mem_cons.mp hm with z|z
  ·rw[z];exact Nat.lt_succ_self _
  ·rw[List.mem_singleton.mp z];exact Nat.lt_succ_of_lt (Heap.lt_size eo)
 ·intro i j vi vj s' Q' E' hi hj hQ
  obtain⟨_,t,rfl⟩:=zf2 r (i:=i) (by simpa using hi)
  obtain⟨_,t',rfl⟩:=zf2 r (i:=j) (by simpa using hj)
  exact lt_int hQ
 ·intro v h' tk hv hk
  have best:=argBest_lt (fun i=>ns.getD i 0) (its.toArray.size-1)
  obtain⟨li,t,rfl⟩:=zf2 r (by simpa using hv)
  refine⟨.int _,H,I.kept (t':=tk) fun c o e=>hk c o (fun z=>Nat.ne_of_lt (Heap.lt_size e) (List.mem_singleton.mp z)) (Heap.get?_push_of_some _ e),⟨t,rfl⟩,q _ (zhw li) fun x hx=>?_⟩
  obtain⟨j,hj,rfl⟩:=zhk hx
  exact best.2 j (by rw[List.size_toArray];lia)
end
end L2
namespace Own
open PySem PySem.Spec PyProof.Rows
section
variable {prog:Program}{w:World}{A:Around}{E:Value→Shared→Prop}{s:Shared}
theorem SqO.cl {b:Bool}{a:Addr}{xs:Array Value}(x:SqO b s.heap a xs):s.TypeIs (.ref a) (if b then "list" else "tuple"):=by
 cases b<;>(obtain⟨o,e,c,_⟩:=x;exact⟨o,e,c⟩)
theorem zj2 {b:Bool}{a:Addr}{vs:List Value}{Q:List Value→Shared→Prop}(sq:SqO b s.heap a vs.toArray) (hz:vs.length≤sizeLine)
  (h:∀ h',s.heap.objs.size≤h'.objs.size→(∀ c o,s.heap.get? c=some o→h'.get? c=some o)→Q vs { s with heap:=h' }):wpAny (model prog w) A (collect (.ref a)) Q E s:=by
 obtain⟨o,n,e,d⟩:=sq.ob
 have new:(s.heap.push (seqObj "list" #[] 0)).get? s.heap.objs.size=some (seqObj "list" #[] 0):=Heap.get?_push_size _ rfl
 have e':(s.heap.push (seqObj "list" #[] 0)).get? a=some o:=Heap.get?_push_of_some _ e
 have old:∀ c u,s.heap.get? c=some u→((s.heap.push (seqObj "list" #[] 0)).update s.heap.objs.size (Obj.mapSeq (·++vs.toArray))).get? c=some u:=fun c u q=>by
  rw[Heap.get?_update_other _ _ (Nat.ne_of_gt (Heap.lt_size q))];exact Heap.get?_push_of_some _ q
 have sq':SqO b (s.heap.push (seqObj "list" #[] 0)) a vs.toArray:=sq.mv fun o q=>Heap.get?_push_of_some _ q
 have short:((#[]:Array Value)++vs.toArray).size≤sizeLine+1:=by simp;lia
 unfold collect
 refine wpAny_bind (wpAny_runValue (codeAny_builtin entry_proto_collect' (wpAny_bind (wpAny_newList (wpAny_pure ⟨Code.quiet_builtin _ (by decide +kernel),codeAny_builtin entry_list_iadd' ?_⟩)))))
 show wpAny _ _ (Builtin.List.listExtendWith (.ref s.heap.objs.size) (.ref a) (.ref s.heap.objs.size)) _ _ ({ s with heap:=s.heap.push (seqObj "list" #[] 0) }:Shared)
 unfold Builtin.List.listExtendWith;have tyr:Shared.TypeIs ({ s with heap:=s.heap.push (seqObj "list" #[] 0) }:Shared) (.ref a) (if b then "list" else "tuple"):=SqO.cl sq'
 refine wpAny_bind (wpAny_typeOf tyr ?_)
 have yes:(Builtin.List.listSameRef (.ref s.heap.objs.size) (.ref a) || Value.type (if b then "list" else "tuple") == Value.type "list" || Value.type (if b then "list" else "tuple") == Value.type "tuple")=true:=by
  have c:∀ b:Bool,(Value.type (if b then "list" else "tuple") == Value.type "list" || Value.type (if b then "list" else "tuple") == Value.type "tuple")=true:=by decide
  rw[Bool.or_assoc,c b,Bool.or_true]
 rw[if_pos yes]
 refine wpAny_bind (listItems_at e' d (wpAny_bind (listItems_at new rfl ?_)))
 rw[if_neg (by simp)]
 refine wpAny_bind (listUpdate_at new rfl (wpAny_pure ?_) (Nat.zero_le _) short)
 refine wpAny_bind (wpAny_load (get?_update_seq new _) ?_)
 have all:((#[]:Array Value)++vs.toArray).toList=vs:=by simp
 have fin:wpAny (model prog w) A (pure ((#[]:Array Value)++vs.toArray).toList) Q E { s with heap:=(s.heap.push (seqObj "list" #[] 0)).update s.heap.objs.size (Obj.mapSeq (·++vs.toArray)) }:=by
  rw[all];exact wpAny_pure (h _ (by rw[Heap.size_update,size_push'];exact Nat.le_succ _) old)
 exact fin
theorem zim {b:Bool}{a:Addr}{vs:List Value}{ns:List Int}{Q:Value→Shared→Prop}(sq:SqO b s.heap a vs.toArray) (hI:IntsAre vs ns) (h64:vs.length<64)
  (h:∀ h' l ms e (out:Array Value),s.heap.objs.size≤l→h'.get? l=some (seqObj "list" out e)→IntsAre out.toList ms→ms.Perm ns→ms.Pairwise (·≤·)→(∀ c o,s.heap.get? c=some o→h'.get? c=some o)→Q (.ref l) { s with heap:=h' }) :
  wpAny (model prog w) A (call (.builtin "sorted") [.ref a]) Q E s:=by
 refine Calls.call_function_entry kind_sorted plain_sorted entry_sorted (args_sorted1 _) ?_;unfold Builtin.«sorted»
 have small:vs.length≤sizeLine:=Nat.le_trans (Nat.le_of_lt h64) (by decide)
 refine wpAny_bind (m:=checkCount "sorted" 1 1 _) (wpAny_pure (wpAny_bind (zj2 sq small fun h1 far k1=>wpAny_bind (wpAny_newList ?_))))
 have new:(h1.push (seqObj "list" vs.toArray 0)).get? h1.objs.size=some (seqObj "list" vs.toArray 0):=Heap.get?_push_size _ rfl
 refine wpAny_bind (wpAny_holding (wpAny_call_entry slot_list_sort ⟨_,new,rfl⟩ entry_list_sort (list_sort_tree new hI h64 fun out ms i1 i2 i3=>⟨_,rfl,?_⟩) (args_list_sort _)))
 obtain⟨e,he⟩:=sortedHeap_at (out:=out) new
 refine wpAny_pure ⟨_,rfl,h _ _ ms e out far he i1 i2 i3 fun c o q=>?_⟩
 have lt:=Heap.lt_size (k1 c o q)
 rw[sortedHeap_old (Nat.ne_of_lt lt) (by rw[size_push'];exact Nat.lt_succ_of_lt lt)]
 exact Heap.get?_push_of_some _ (k1 c o q)
end
end Own
namespace L2
open PySem PySem.Spec PyProof.Rows Own
section
variable {X:Cx}
theorem zi7 {ns:List Int}{us:List Value}(h:IntsAre us ns):Vals (ns.map V.int) us:=by
 induction h with
 | nil=>exact .nil
 | cons n t _ ih=>exact .cons ⟨t,rfl⟩ ih
theorem zfl:∀ {ns:List Int}{us:List Value},Vals (ns.map V.int) us→IntsAre us ns
 | [],_,.nil=>.nil
 | n::ns,_,.cons ⟨t,e⟩ r=>by subst e;exact .cons n t (zfl r)
theorem call_sortedB (b:Bool):CallR X (.builtin "sorted") (fun vs H Q=>∃ a ns,vs=[.ref a]∧SqB b X.K H a (List.map V.int ns)∧ns.length<64∧∀ (l:Addr) (ms:List Int),H l=none→ms.Perm ns→ms.Pairwise (·≤·)→Q (.ref l) (upd H l (.lst (ms.map V.int)))):=by
 intro pins s σ H vs us Q I rv h
 obtain⟨a,ns,rfl,hq,h64,q⟩:=h
 obtain⟨u,rfl,ru⟩:=rv.one
 cases ru
 obtain⟨its,r,p⟩:=I.sq hq
 have hl:its.length=ns.length:=by rw[← r.length,List.length_map]
 refine zim p (zfl r) (by lia) fun h' l ms e out far eo i1 i2 i3 k=>?_
 refine⟨.ref l,_,I.laid (t':=s.toks) (o:=.lst (ms.map V.int)) k far ⟨?_,out.toList,e,zi7 i1,by simpa [seqObj] using eo⟩,rfl,q l ms (I.hok.fresh far) i2 i3⟩
 rw[List.length_map,i2.length_eq]
 exact Nat.le_trans (Nat.le_of_lt h64) (by decide)
end
section
variable {X:Cx}
end
theorem zi2 {K:PySem.W.Frag}{a:Addr}{xs:List V}{g:TG}{te:TE}{l:Addr}{σ:St}{H:Hp}{Q:VK}(Pv:Nat→List V→St→Hp→Prop) (h0:Pv 0 [] σ H) (hl:∀ i acc σ H,Pv i acc σ H→H l=some (.lst acc)∧SqL K H a xs)
  (hs:∀ i x acc σ H,xs[i]?=some x→Pv i acc σ H→g x σ H fun σ3 H3=>te σ3 H3 fun y H5=>H5 l=some (.lst acc)∧acc.length<sizeLine∧Nx xs.length i (Pv (i+1) (acc++[y]) σ3 (upd H5 l (.lst (acc++[y])))))
  (hd:∀ acc σ H,Pv xs.length acc σ H→Q (.ref l) H):∃ W:Nat→Nat→List V→St→Hp→Prop,(∃ m,W 0 m [] σ H)∧LCW (Itl K a) g tYes te l Q W:=by
 refine⟨fun i m acc σ H=>m=xs.length-i∧i≤xs.length∧Pv i acc σ H,⟨_,rfl,Nat.zero_le _,h0⟩,?_⟩
 rintro i m acc σ H ⟨rfl,hi,p⟩
 obtain⟨q0,q1⟩:=hl i acc σ H p
 refine⟨q0,?_⟩
 by_cases hlt:i<xs.length
 ·refine .inr ⟨⟨xs,xs[i],q1,List.getElem?_eq_getElem hlt⟩,fun x H2 ⟨e,y⟩=>?_⟩
  subst e
  exact hs i x acc σ _ (y xs q1) p
 ·obtain rfl:i=xs.length:=by lia
  exact .inl ⟨⟨xs,q1,Nat.le_refl _⟩,hd acc σ H p⟩
theorem zgb {lo:Int}{n:Nat}{g:TG}{tt:TT}{te:TE}{l:Addr}{σ:St}{H:Hp}{Q:VK}(Pv:Nat→List V→St→Hp→Prop) (h0:Pv 0 [] σ H) (hl:∀ i acc σ H,Pv i acc σ H→H l=some (.lst acc))
  (hs:∀ i acc σ H,i<n→Pv i acc σ H→g (.int (lo+i)) σ H fun σ3 H3=>tt σ3 H3 fun b H4=>if b=true then te σ3 H4 fun y H5=>H5 l=some (.lst acc)∧acc.length<sizeLine∧Nx n i (Pv (i+1) (acc++[y]) σ3 (upd H5 l (.lst (acc++[y])))) else Nx n i (Pv (i+1) acc σ3 H4))
  (hd:∀ acc σ H,Pv n acc σ H→Q (.ref l) H):∃ W:Nat→Nat→List V→St→Hp→Prop,(∃ m,W 0 m [] σ H)∧LCW (Itr lo n) g tt te l Q W:=by
 refine⟨fun i m acc σ H=>m=n-i∧i≤n∧Pv i acc σ H,⟨_,rfl,Nat.zero_le _,h0⟩,?_⟩
 rintro i m acc σ H ⟨rfl,hi,p⟩
 refine⟨hl i acc σ H p,?_⟩
 by_cases hlt:i<n
 ·refine .inr ⟨hlt,fun x H2 ⟨e,y⟩=>?_⟩
  subst e y
  exact hs i acc σ _ hlt p
 ·obtain rfl:i=n:=by lia
  exact .inl ⟨Nat.le_refl _,hd acc σ H p⟩
end L2
namespace L2
open PySem PySem.Spec PyProof.Rows PySem.Calls PySem.NumText Own
theorem zdO {M:Model}{K:PySem.W.Frag}{h:Heap}(X:K.In h) (e:PySem.W.nsIn K cStatics "sys.int_max_str_digits" = some none):PySem.W.Looks M h Builtin.intMaxStrDigits 4300:=by
 show PySem.W.Looks M h (nsGet cStatics "sys.int_max_str_digits" >>= _) 4300
 exact(PySem.W.looks_nsIn X e).andThen .now
theorem zh8 {M:Model}{A:Around}{E:Value→Shared→Prop}{s:Shared}{Q:Value→Shared→Prop}{v:Value}{text:List Nat}{n:Int}
  (hl:PySem.W.Looks M s.heap Builtin.intMaxStrDigits 4300) (hs:¬(text.takeWhile (· != 0)).length≤640) (hr:(int_private% "readNumeral") 4300 10 (text.takeWhile (· != 0))=(int_private% "Numeral.value") n)
  (ha:((text.takeWhile (· != 0)).length == text.length)=true) (h:Q (.int n s.toks) { s with toks:=s.toks+1 }):wpAny M A ((int_private% "intFromText") v text 10) Q E s:=by
 cases s
 repeat (any_goals (first|assumption|(with_reducible refine wpAny_ite_false (decide_eq_false hs) ?_)|((with_reducible show wpAny _ _ Builtin.intMaxStrDigits _ _ _);refine PySem.W.Looks.at hl ?_)|wp_step))
 all_goals (try (rw[hr];dsimp only))
 repeat (any_goals (first|assumption|(with_reducible refine wpAny_ite_true (by rw[ha];rfl) ?_)|wp_step))
theorem zeO {K:PySem.W.Frag}{x:Str}{u:Tok}{n:Int}(e:PySem.W.nsIn K cStatics "sys.int_max_str_digits" = some none) (hl:x.length≤4300) (h6:¬(numSeenOf x).length≤640) (hn:intText? x=some n) :
  Meets (Builtin.«int.__new__» ⟨[.type "int",.str x u],[]⟩) (fun _ R s=>K.In s.heap∧R (.ok (.ret (.int n s.toks))) { s with toks:=s.toks+1 }) :=
 .of_wp fun prog w A R s h=>by
  cases s with
  | mk hp gs dr tk os =>
  obtain⟨KX,h⟩:=h
  have kinds:=And.intro PySem.W.KIN.str_int (And.intro PySem.W.KIN.str_idx PySem.W.KIN.str_trunc)
  obtain⟨k1,k2,k3⟩:=kinds
  have k4:=F.conv_sub_int;have k5:=F.madeHere_int
  have ofText:typeOf (.str x u)=pure (.type "str"):=rfl
  have lk:PySem.W.Looks (model prog w) hp Builtin.intMaxStrDigits 4300:=zdO KX e
  have rd:(int_private% "readNumeral") 4300 10 (numSeenOf x)=(int_private% "Numeral.value") n∧((numSeenOf x).length == (numTextOf x).length)=true:=by
   rcases read4300 x (Nat.le_trans hl (by decide)) with ⟨m,g1,g2,g3⟩|⟨g1,_⟩
   ·rw[hn]at g1;cases g1;exact⟨g3,g2⟩
   ·rw[hn]at g1;cases g1
  have all4:=PySem.W.KIN.Hid.mk (And.intro lk (And.intro h6 rd))
  clear lk h6 rd hl hn e KX
  repeat (any_goals (first|assumption|((with_reducible show wpAny _ _ ((int_private% "intFromText") _ _ _) _ _ _);refine zh8 all4.out.1 all4.out.2.1 all4.out.2.2.1 all4.out.2.2.2 ?_)|wp_step))
  all_goals (first|exact Exists.intro _ (And.intro rfl h)|skip)
section
variable {X:Cx}
theorem zdf (e:PySem.W.nsIn X.K cStatics "sys.int_max_str_digits" = some none):CallR X (.type "int") (fun vs H Q=>∃ x:Str,vs=[.str x]∧AllDigits x.cps.toList∧640<x.length∧x.length≤4300∧Q (.int (digitsVal x.cps.toList:Nat)) H):=by
 intro pins s σ H vs us Q I rv h
 obtain⟨x,rfl,hd,h6,h43,q⟩:=h
 obtain⟨u,rfl,t,rfl⟩:=rv.one
 have xl:x.cps.toList.length=x.length:=by simp[Str.length]
 have ne:x.cps.toList≠[]:=fun z=>by rw[z]at xl;simp at xl;lia
 have hn:=intText_digits hd ne h43
 have seen:(numSeenOf x).length=x.length:=by
  rcases read4300 x (Nat.le_trans h43 (by decide)) with ⟨m,g1,g2,g3⟩|⟨g1,_⟩
  ·have a128:x.cps.all (· < 128)=true:=by
    rw[← Array.all_toList];refine List.all_eq_true.mpr fun c hc=>?_
    have:=(hd c hc).2
    exact decide_eq_true (show c<128 by lia)
   have g2':=eq_of_beq g2
   rw[g2']
   show (if x.cps.all (· < 128)=true then x.cps.toList else _).length=_
   rw[if_pos a128,xl]
  ·rw[hn]at g1;cases g1
 exact call_int_1 (zeO (K:=X.K) e h43 (by lia) hn) ⟨I.kIn,(typeIs_int _ _ _),.int _,H,I.tok _,⟨_,rfl⟩,q⟩
theorem zfT:OpR X (binaryOp .Mult) (fun x y H Q=>∃ (c:Nat) (n:Int),x=.str ⟨#[c]⟩∧y=.int n∧0≤n∧n≤100000∧∀ z:Str,z.cps.toList=List.replicate n.toNat c→Q (.str z) H):=by
 intro pins s σ H x y v u Q I rx ry h
 obtain⟨c,n,rfl,rfl,n0,n1,q⟩:=h
 obtain⟨t,rfl⟩:=rx
 obtain⟨t',rfl⟩:=ry
 have one:(⟨#[c]⟩:Str).length=1:=rfl
 refine PySem.P.mul_str (by rw[decide_eq_false (by lia),decide_eq_false (by lia)];rfl) (fun a b=>?_) (fun a b=>?_) ?_
 ·rw[one]
  have:(1:Int)≤(2 ^ 63-1) / n:=by
   rw[Int.le_ediv_iff_mul_le (by lia)];lia
  lia
 ·rw[one]
  exact decide_eq_false (by have:=sizeLine_eq;lia)
 ·by_cases a:n<1
  ·rw[if_pos a]
   have e:n=0:=by lia
   subst e
   exact⟨by decide,.str _,H,I.tok _,⟨_,rfl⟩,q _ rfl⟩
  ·rw[if_neg a]
   by_cases b:n=1
   ·subst b
    rw[if_pos (show ((1:Int) == 1 || (⟨#[c]⟩:Str).length == 0)=true from rfl)]
    exact⟨.str _,H,I,⟨_,rfl⟩,q _ rfl⟩
   ·have nb:¬(n == 1 || (⟨#[c]⟩:Str).length == 0)=true:=by simp[b,one]
    rw[if_neg nb]
    have lst:∀ (k:Nat) (acc:Array Nat),((List.replicate k #[c]).foldl (·++·) acc).toList=acc.toList++List.replicate k c:=fun k=>by
     induction k with
     | zero=>intro acc;simp
     | succ k ih=>intro acc;rw[List.replicate_succ,List.foldl_cons,ih,List.replicate_succ];simp
    have l0:=lst n.toNat #[]
    refine⟨?_,.str _,H,I.tok _,⟨_,rfl⟩,q _ (by rw[l0];rfl)⟩
    have ln:=congrArg List.length l0
    simp only[Array.length_toList,List.length_append,List.length_replicate]at ln
    show (Array.size _)≤sizeLine
    rw[ln]
    have:=sizeLine_eq
    simp
    lia
end
end L2
namespace L2
open PySem PySem.Spec PyProof.Rows Own
section
variable {prog:Program}{w:World}{A:Around}{E:Value→Shared→Prop}{s:Shared}
end
def upTo (n:Nat):List V:=(List.range n).map fun (i:Nat)=>V.int i
theorem zcf {acc:Array Value}{n:Nat}(h:ItemsOf (fun i v=>∃ t,v=Value.int (0+i*1) t) acc n):Vals (upTo n) acc.toList:=by
 obtain⟨h1,h2⟩:=h
 have go:∀ (l:List Value) (k:Nat),(∀ (j:Nat) (v:Value),l[j]?=some v→∃ t,v=Value.int ((k+j:Nat):Int) t)→Vals ((List.range l.length).map fun (i:Nat)=>V.int ((k+i:Nat):Int)) l:=by
  intro l
  induction l with
  | nil=>intro k _;exact .nil
  | cons x l ih =>
   intro k hx
   rw[List.length_cons,List.range_succ_eq_map,List.map_cons,List.map_map]
   refine .cons (by obtain⟨t,e⟩:=hx 0 x rfl;exact⟨t,e⟩) ?_
   have:=ih (k+1) fun j v hj=>by
    obtain⟨t,e⟩:=hx (j+1) v (by simpa using hj)
    exact⟨t,by rw[e];congr 1;lia⟩
   refine cast (congrArg (fun z=>Vals z l) (List.map_congr_left fun i _=>?_)) this
   show V.int ((k+1+i:Nat):Int)=V.int ((k+(i+1):Nat):Int)
   congr 2;lia
 have:=go acc.toList 0 fun j v hj=>by
  obtain⟨t,e⟩:=h2 j v (by simpa using hj)
  exact⟨t,by rw[e];congr 1;lia⟩
 rw[Array.length_toList,h1]at this
 unfold upTo
 refine cast (congrArg (fun z=>Vals z acc.toList) (List.map_congr_left fun i _=>?_)) this
 show V.int ((0+i:Nat):Int)=V.int (i:Int)
 rw[Nat.zero_add]
theorem zgU (n:Nat):(upTo n).length=n:=by simp[upTo]
section
variable {X:Cx}
def zjs (b:Bool) (ta:TA):TE:=fun σ H Q=>ta σ H fun vs H1=>∃ j:Nat,vs=[.int j]∧j≤100000∧∀ l,H1 l=none→Q (.ref l) (upd H1 l (if b=true then .lst (upTo j) else .tup (upTo j)))
theorem zgZ {j:Nat}(h:j≤100000):Builtin.Range.small 0 (j:Int) 1=true:=small_one (by lia) (by lia) (by lia) (by lia)
theorem zir {j:Nat}:Builtin.Range.rangeSize 0 (j:Int) 1=((j:Nat):Int):=by rw[rangeSize_one];split<;>lia
theorem pe_lstRng {a:Expr}{ta:TA}{p p2 pos pos2:Pos}(hc:X.calm=true) (hgl:Gl X "list") (hml:X.mg "list" = none) (hgr:Gl X "range") (hmr:X.mg "range" = none) (ha:PA X [a] ta) (hs:starEach [a] X.env=[(false,eval a X.env)]:=by rfl)
  (hs2:starEach [.Call (.Name "range" p2) [a] [] pos2] X.env=[(false,eval (.Call (.Name "range" p2) [a] [] pos2) X.env)]:=by rfl):PE X (.Call (.Name "list" p) [.Call (.Name "range" p2) [a] [] pos2] [] pos) (zjs true ta):=by
 intro pins s σ H Q I h
 refine wpAny_Call_Name_kw (zaD I hgl hml (u:=.type "list") (by rfl) (PyProof.Rows.callWith_type1 ?_ hs2 rfl))
 rw[hs2]
 refine Calls.spliced_cons (Call_ (zaD I hgr hmr boot_range (PyProof.Rows.callWith_type1 (thn (ha pos2 pins s σ H _ I h) fun us s1 ⟨vs,H1,I1,r1,q1⟩=>?_) hs rfl)))
 obtain⟨j,rfl,hj,q⟩:=q1
 obtain⟨u,rfl,t,rfl⟩:=r1.one
 refine call_range_1 (Calls.spliced_nil ?_)
 refine call_list_range (n:=j) (I1.ok.hd hc) (IsRange.new ..) (zgZ hj) zir (Nat.le_trans hj (by decide)) fun h' tk acc' c' kk e it=>?_
 have k2:∀ b o,s1.heap.get? b=some o→h'.get? b=some o:=fun b o z=>kk b o (Heap.get?_push_of_some _ z)
 refine⟨.ref _,_,I1.laid (t':=tk) (o:=.lst (upTo j)) k2 ?_ ⟨by rw[zgU];exact Nat.le_trans hj (by decide),acc'.toList,c',zcf it,by simpa using e⟩,rfl,q _ (I1.hok.fresh ?_)⟩
 all_goals (show s1.heap.objs.size≤(s1.heap.push _).objs.size;rw[Heap.size_push];exact Nat.le_succ _)
theorem zhW (hu:X.A.units<cLine):OpR X (compareOp .NotEq) (fun x y H Q=>∃ a b xs,x=.ref a∧y=.ref b∧SqL X.K H a xs∧SqL X.K H b []∧Q (.bl (!xs.isEmpty)) H):=by
 intro pins s σ H x y v u Q I rx ry h
 obtain⟨a,b,xs,rfl,rfl,ha,hb,q⟩:=h
 cases rx;cases ry
 obtain⟨its,r1,p1,_⟩:=I.list ha
 obtain⟨jts,r2,p2,_⟩:=I.list hb
 cases r2
 have l1:=r1.length
 cases xs with
 | nil =>
  cases r1
  exact SeqAt.RcNeAt.lists (e:=fun _=>true) p1.isList p2.isList rfl hu (fun j h=>absurd h (Nat.not_lt_zero _)) X.prog X.w _ _ ⟨.bl _,H,I,rfl,q⟩
 | cons z zs =>
  exact SeqAt.RcNeAt.lists_lengths p1.isList p2.isList (by rw[List.size_toArray,← l1];simp) hu X.prog X.w _ _ ⟨.bl _,H,I,rfl,q⟩
end
section
variable {prog:Program}{w:World}{A:Around}{E:Value→Shared→Prop}{s:Shared}
theorem zdl {sl:Addr}{t:Tok}{Q:Int × Int × Nat→Shared→Prop}(hs:s.heap.IsSliceOf sl .none .none (.int (-1) t)) (h:Q (1,-1,2) s):wpAny (model prog w) A (Builtin.Slice.sliceApplied (.ref sl) (pure (2:Int))) Q E s:=by
 obtain⟨os,hos,hcs,hds⟩:=id hs
 unfold Builtin.Slice.sliceApplied Builtin.Slice.sliceFields
 refine wpAny_bind (wpAny_bind (wpAny_field hos hds (x:=.none) rfl (wpAny_bind (wpAny_field hos hds (x:=.none) rfl (wpAny_bind (wpAny_field hos hds (x:=.int (-1) t) rfl (wpAny_pure ?_)))))))
 refine wpAny_bind (slicePart_int ?_)
 show wpAny _ _ (if ((-1:Int) == 0)=true then _ else _) _ _ s
 rw[if_neg (by decide)]
 refine wpAny_bind (slicePart_none (wpAny_bind (slicePart_none (wpAny_bind (wpAny_pure ?_)))))
 show wpAny _ _ (match Builtin.Slice.sliceAdjust none none (-1) (2:Int) with|(lo,hi)=>pure (lo,(-1:Int),Builtin.Slice.slicePlaces lo hi (-1))) _ _ s
 have e:Builtin.Slice.sliceAdjust none none (-1) (2:Int)=(1,-1):=by decide
 rw[e]
 have e2:Builtin.Slice.slicePlaces (1:Int) (-1) (-1)=2:=by decide
 show wpAny _ _ (pure ((1:Int),(-1:Int),Builtin.Slice.slicePlaces (1:Int) (-1) (-1))) _ _ s
 rw[e2]
 exact wpAny_pure h
theorem zdb {t sl:Addr}{x y:Value}{tk:Tok}{Q:Value→Shared→Prop}(ht:IsTup s.heap t #[x,y]) (hs:s.heap.IsSliceOf sl .none .none (.int (-1) tk)) (h:Q (.ref s.heap.objs.size) { s with heap:=s.heap.push { cls:=.type "tuple",data:=.seq #[y,x] } }) :
  wpAny (model prog w) A (getItem (.ref t) (.ref sl)) Q E s:=by
 obtain⟨os,hos,hcs,hds⟩:=id hs
 have hTs:s.TypeIs (.ref sl) "slice":=⟨os,hos,hcs⟩
 unfold getItem
 try with_reducible refine wpAny_holding ?_
 first|refine wpAny_bind (wpAny_pure ?_)|skip
 refine wpAny_bind (wpAny_sequenceKey ht.typeIs (by decide) (wpAny_bind (wpAny_callSpecial?_slot (name:=Str.ofString "__getitem__") ht.typeIs PyProof.Rows.slot_tuple_getitem (wpAny_call_entry PyProof.Rows.slot_tuple_getitem ht.typeIs PyProof.Rows.entry_tuple_getitem ?_ (PyProof.Rows.args_tuple_getitem _ _)))))
 show wpAny _ _ (Builtin.Tuple.tupleItemsOf (.ref t) >>= _) _ _ s
 refine wpAny_bind (tupleItemsOf_ ht (wpAny_bind (wpAny_typeOf hTs ?_)))
 rw[if_pos (by decide)]
 refine wpAny_bind (zdl hs ?_)
 show wpAny _ _ (if ((1:Int) == 0 && (-1:Int) == 1 && (2:Nat) == 2)=true then _ else _) _ _ s
 rw[if_neg (by decide)]
 have pk:((List.range 2).filterMap fun (k:Nat)=>(#[x,y]:Array Value)[((1:Int)+(k:Int)*(-1)).toNat]?).toArray = #[y,x]:=rfl
 rw[pk]
 first
  | exact wpAny_bind (m:=Builtin.Tuple.tupleExact _) (wpAny_newObj_type (wpAny_pure ⟨_,rfl,wpAny_pure h⟩) (by show 2≤sizeLine;decide))
  | exact wpAny_bind (m:=Builtin.Tuple.tupleExact _) (wpAny_newObj_type (wpAny_bind (wpAny_pure (wpAny_pure ⟨_,rfl,wpAny_pure h⟩))) (by show 2≤sizeLine;decide))
  | exact wpAny_bind (wpAny_bind (m:=Builtin.Tuple.tupleExact _) (wpAny_newObj_type (wpAny_pure (wpAny_pure ⟨_,rfl,wpAny_pure h⟩)) (by show 2≤sizeLine;decide)))
  | exact wpAny_bind (wpAny_bind (m:=Builtin.Tuple.tupleExact _) (wpAny_newObj_type (wpAny_pure ⟨_,rfl,wpAny_pure h⟩) (by show 2≤sizeLine;decide)))
end
section
variable {X:Cx}
end
theorem zeN (l:Addr) (o:Obj) (items:Array Value) (n:Nat) (x:Value) (j:Nat) (hc:o.cls=.type "tuple") (hd:o.data=.seq items n) (e:Nat→Bool) (h0:∀ i,i<j→e i=false) (h1:e j=true) (hj:j<items.size) :
  Meets (Builtin.«tuple.index» ⟨[.ref l,x],[]⟩) (fun A R s=>s.heap.get? l=some o∧(∀ i (h:i<items.size),SeqAt.EqAt A.in1 s items[i] x (e i))∧R (.ok (.ret (.int j s.toks))) { s with toks:=s.toks+1 }) :=
 .of_wp fun prog w A R s h=>by
  cases s with
  | mk hp gs dr tk os =>
  obtain⟨hl,he,h⟩:=h
  unfold Builtin.«tuple.index»
  simp only[Std.Legacy.Range.forIn_eq_forIn_range']
  wp_walk using wpAny_seqItems hl hd,wpAny_forIn_list _ (fun rest b s'=>s'=⟨hp,gs,dr,tk,os⟩∧b.1=none∧∃ i,i≤j∧rest=List.range' i (items.size-i)) _
  case turn =>
   rintro i rest b s' ⟨rfl,hb,i',hi,hz⟩
   have hs:items.size-i'=(items.size-(i'+1))+1:=by lia
   rw[hs,List.range'_succ]at hz
   injection hz with e1 e2
   subst e1
   have il:i<items.size:=by lia
   have hg:items[i]?=some items[i]:=by simp[il]
   simp only[hg]
   refine wpAny_bind (he i il prog w _ _ ?_)
   by_cases q:i=j
   ·subst q;rw[h1];wp_walk;exact⟨_,rfl,h⟩
   ·rw[h0 i (by lia)];wp_walk;exact⟨rfl,rfl,i+1,by lia,e2⟩
  case fin =>
   rintro b s' ⟨rfl,hb,i',hi,hz⟩
   have:=congrArg List.length hz
   simp at this
   lia
  case h=>exact⟨rfl,rfl,0,Nat.zero_le _,by simp[Std.Legacy.Range.size]⟩
section
variable {X:Cx}
theorem zca:∀ {ns:List Int}{k:Int}{i:Nat},i<ns.idxOf k→(ns.getD i 0 == k)=false
 | [],k,i,h=>by simp at h
 | n::ns,k,i,h=>by
  rw[List.idxOf_cons]at h
  cases e:n == k with
  | true=>rw[e]at h;simp at h
  | false =>
   rw[e]at h
   simp only[cond_false]at h
   cases i with
   | zero=>exact e
   | succ i=>exact zca (ns:=ns) (i:=i) (by lia)
def zkd (to:TE) (t:TA):TE:=fun σ H Q=>to σ H fun x H1=>∃ a ns,x=.ref a∧H1 a=some (.tup (List.map V.int ns))∧t σ H1 fun vs H2=>∃ k:Int,vs=[.int k]∧H2 a=some (.tup (List.map V.int ns))∧k∈ns∧Q (.int (ns.idxOf k:Nat)) H2
theorem pe_tidx {o e:Expr}{to:TE}{t:TA}{apos cpos:Pos}(hu:X.A.units+64<cLine) (ho:PE X o to) (ha:PA X [e] t)
  (hbase:attributeBase o "index" X.env (eval o X.env)=eval o X.env:=by rfl)
  (hfew:((backTo cpos (starEach [e] X.env)).all (fun x=>!x.1) && (backToKw cpos (keywordEach [] X.env)).all (fun x=>x.1.isSome) && decide ([e].length+([]:List Keyword).length+(if ([]:List Keyword).isEmpty then 0 else 1)<30))=true:=by rfl)
  (hline:(apos.endLine == cpos.line)=true:=by rfl) (hs:starEach [e] X.env=(false,eval e X.env)::starEach [] X.env:=by rfl):PE X (.Call (.Attribute o "index" apos) [e] [] cpos) (zkd to t):=by
 intro pins s σ H Q I h
 refine wpAny_Call_method_late hbase hfew hline rfl (thn (ho pins s σ H _ I h) fun v s1 ⟨x,H1,I1,r1,a,ns,ex,hx,q1⟩=>?_)
 subst ex
 cases r1
 obtain⟨_,its,_,⟨ob,eo,c1,n1,d1,nd⟩⟩:=(show ObjOk X.prog X.w H1 s1.heap a (.tup (List.map V.int ns)) from I1.hok a _ hx)
 refine⟨"tuple","tuple.index",PySem.F.plainAttrs_tuple,PySem.F.slot_tuple_index,PySem.F.type_tuple_index,⟨ob,eo,c1⟩,fun a' e'=>by cases e';exact⟨ob,eo,nd⟩,?_⟩
 have hA:=ha cpos pins s1 σ H1 _ I1 q1
 rw[hs]at hA ⊢
 refine Calls.callWith_builtin rfl (Calls.evalArgs_plain ?_)
 refine thn hA fun us s2 ⟨vs,H2,I2,r2,k,ev,hx2,km,q⟩=>?_
 subst ev
 obtain⟨u,rfl,tk,rfl⟩:=r2.one
 obtain⟨_,jts,rj,⟨ob2,eo2,c2,n2,d2,nd2⟩⟩:=(show ObjOk X.prog X.w H2 s2.heap a (.tup (List.map V.int ns)) from I2.hok a _ hx2)
 have hlen:jts.toArray.size=ns.length:=by rw[List.size_toArray,← rj.length,List.length_map]
 have hj:=List.idxOf_lt_length_of_mem km
 refine call_meets PySem.F.slot_tuple_index ⟨ob2,eo2,c2⟩ PySem.F.entry_tuple_index (PySem.F.args_tuple_index_2 _ _)
  (zeN a ob2 jts.toArray n2 (.int k tk) (ns.idxOf k) c2 d2 (fun i=>ns.getD i 0 == k) (fun i hi=>?_) ?_ (by rw[hlen];exact hj)) ⟨eo2,fun i hi=>?_,?_⟩
 ·exact zca hi
 ·rw[List.getD_eq_getElem?_getD,List.getElem?_eq_getElem hj]
  simp
 ·have hi':i<ns.length:=by rw[← hlen];exact hi
  obtain⟨w1,e1,t1,rfl⟩:=rj.get (show (List.map V.int ns)[i]?=some (V.int (ns.getD i 0)) by rw[List.getElem?_map,List.getD_eq_getElem?_getD,List.getElem?_eq_getElem hi'];rfl)
  have g1:jts.toArray[i]=.int (ns.getD i 0) t1:=by simpa using (List.getElem?_eq_some_iff.mp e1).2
  rw[g1]
  exact(MeetsSeq.EqGives.int _ _ _ _).at _ _
 ·exact⟨.int _,H2,I2.tok _,⟨_,rfl⟩,q⟩
end
section
variable {X:Cx}
end
end L2
namespace Bn
open PySem L2 Own
def Tups (H H':Hp):Prop:=∀ a xs,H a=some (.tup xs)→H' a=some (.tup xs)
theorem Tups.trans {H H1 H2:Hp}(x:Tups H H1) (y:Tups H1 H2):Tups H H2:=fun a xs e=>y a xs (x a xs e)
theorem Tups.of {H H':Hp}(s:Same H H'):Tups H H':=fun a _ e=>s a _ e
theorem Tups.lst {H:Hp}{l:Addr}{xs ys:List V}(h:H l=some (.lst xs)):Tups H (upd H l (.lst ys)):=fun a zs e=>by
 rw[zac (by rintro rfl;rw[h]at e;cases e)];exact e
def But (l:Addr) (H H':Hp):Prop:=∀ b o,H b=some o→b≠l→H' b=some o
theorem But.trans {l:Addr}{H H1 H2:Hp}(x:But l H H1) (y:But l H1 H2):But l H H2:=fun b o e n=>y b o (x b o e n) n
theorem But.of {l:Addr}{H H1:Hp}(x:Same H H1):But l H H1:=fun b o e _=>x b o e
structure PkAt (H:Hp) (l:Addr):Prop where
 ex:∃ a b:Int,H l=some (.lst [.int a,.int b])∧0≤a∧0≤b∧b<2 ^ 31
theorem PkAt.keep {H H':Hp}{l:Addr}(S:PkAt H l) (s:Same H H'):PkAt H' l:=by
 obtain⟨a,b,h,r⟩:=S.ex
 exact⟨a,b,s _ _ h,r⟩
theorem PkAt.ne {H:Hp}{l p:Addr}(S:PkAt H l) (h:H p=none):l≠p:=by
 obtain⟨a,b,e,_⟩:=S.ex
 exact zad e h
theorem PkAt.upd {H:Hp}{l p:Addr}{o:HO}(S:PkAt H l) (h:l≠p):PkAt (upd H p o) l:=by
 obtain⟨a,b,e,r⟩:=S.ex
 exact⟨a,b,by rw[zac h];exact e,r⟩
theorem But.tups {H H':Hp}{l:Addr}(x:But l H H') (S:PkAt H l):Tups H H':=fun a xs e=>x a _ e (by
 rintro rfl
 obtain⟨_,_,z,_⟩:=S.ex
 rw[z]at e;cases e)
def Prs (H:Hp):List V→List (Nat × Nat)→Prop
 | [],[]=>True
 | p::ps,f::fs=>(∃ a,p=.ref a∧H a=some (.tup [.int f.1,.int f.2]))∧Prs H ps fs
 | _,_=>False
theorem Prs.tups {H H':Hp}(t:Tups H H'):∀ {ps:List V}{fs:List (Nat × Nat)},Prs H ps fs→Prs H' ps fs
 | [],[],_=>trivial
 | _::_,_::_,⟨⟨a,e,h⟩,r⟩=>⟨⟨a,e,t _ _ h⟩,r.tups t⟩
theorem Prs.len {H:Hp}:∀ {ps:List V}{fs:List (Nat × Nat)},Prs H ps fs→ps.length=fs.length
 | [],[],_=>rfl
 | _::_,_::_,⟨_,r⟩=>congrArg (· + 1) r.len
theorem Prs.add {H:Hp}{a:Addr}{f:Nat × Nat}(h:H a=some (.tup [.int f.1,.int f.2])):∀ {ps:List V}{fs:List (Nat × Nat)},Prs H ps fs→Prs H (ps++[.ref a]) (fs++[f])
 | [],[],_=>⟨⟨a,rfl,h⟩,trivial⟩
 | _::_,_::_,⟨x,r⟩=>⟨x,r.add h⟩
theorem Prs.get {H:Hp}:∀ {ps:List V}{fs:List (Nat × Nat)}{i:Nat}{p:V},Prs H ps fs→ps[i]?=some p→∃ a f,p=.ref a∧fs[i]?=some f∧H a=some (.tup [.int f.1,.int f.2])
 | [],[],_,_,_,e=>by simp at e
 | _::_,f::_,0,p,⟨⟨a,e1,h⟩,_⟩,e=>by
  have:_=p:=Option.some.inj e
  subst this
  exact⟨a,f,e1,rfl,h⟩
 | _::_,_::_,i+1,p,⟨_,r⟩,e=>r.get (i:=i) (by simpa using e)
structure Nt where
 lanes:Nat
 forks:List (Nat × Nat)
 ends:List Nat
structure Nt.Ok (N:Nt):Prop where
 l1:1≤N.lanes
 l16:N.lanes≤16
 fm:N.forks.length≤128
 fk:∀ f∈N.forks,f.1<N.lanes∧f.2<N.lanes∧f.1≠f.2
 en:N.ends.Perm (List.range N.lanes)
def nums (es:List Nat):List V:=es.map fun (e:Nat)=>V.int e
structure NetAt (H:Hp) (r fr er:Addr) (ps:List V) (N:Nt):Prop where
 net:H r=some (.tup [.int N.lanes,.ref fr,.ref er])
 forks:H fr=some (.tup ps)
 prs:Prs H ps N.forks
 ends:H er=some (.tup (nums N.ends))
theorem NetAt.tups {H H':Hp}{r fr er:Addr}{ps:List V}{N:Nt}(t:Tups H H') (h:NetAt H r fr er ps N):NetAt H' r fr er ps N:=⟨t _ _ h.net,t _ _ h.forks,h.prs.tups t,t _ _ h.ends⟩
theorem zgN {cs:List Int}{i:Nat}(h:i<cs.length):atI (cs.map V.int) ((i:Nat):Int)=some (.int (cs.getD i 0)):=by
 refine zah ?_
 rw[List.getElem?_map,List.getD_eq_getElem?_getD,List.getElem?_eq_getElem h];rfl
theorem zbW {α:Type}{xs:List α}{i:Nat}(h:i<xs.length):ixN xs.length ((i:Nat):Int)=some i:=by
 unfold ixN
 rw[if_pos (by lia),if_pos (by lia)];simp
theorem zd9 (cs:List Int) (i:Nat) (a:Int):(cs.map V.int).set i (.int a)=(cs.set i a).map V.int:=by rw[List.map_set]
structure Mgs (mg:Str→Option Value):Prop where
 len:mg "len" = none
 range:mg "range" = none
 tuple:mg "tuple" = none
 enum:mg "enumerate" = none
 abs:mg "abs" = none
 zip:mg "zip" = none
 isi:mg "isinstance" = none
 all:mg "all" = none
 sum:mg "sum" = none
 bool:mg "bool" = none
 int:mg "int" = none
 str:mg "str" = none
 max:mg "max" = none
 min:mg "min" = none
 sorted:mg "sorted" = none
 list:mg "list" = none
structure Use (P:Program) (w:World) (K:PySem.W.Frag) (mg:Str→Option Value) (base:Heap) (x:Str) (ps:List Str) (k:Nat) (sp:Sp) (f:Addr) (fd:FuncData):Prop where
 ok:FnOk P w K mg base CX0 k f fd ps sp
 b:Binds K fd ps []
 kp:PySem.W.keepIn K (.ref f)=true
 m:mg x=some (.ref f)
def zfr (K:PySem.W.Frag):Sp:=fun vs H Q _=>∃ (a:Addr) (ns:List Int) (k:Int),vs=[.ref a,.int k]∧SqL K H a (ns.map V.int)∧0≤k∧∀ x:Int,Q (.int x) H
def zfp (K:PySem.W.Frag):Sp:=fun vs H Q _=>∃ (a:Addr) (ns:List Int) (k:Int),vs=[.ref a,.int k]∧SqL K H a (ns.map V.int)∧ns.length≤63∧0≤k∧k≤1000∧∀ l H',H l=none→Same H H'→PkAt H' l→Q (.ref l) H'
def zbg:Sp:=fun vs H Q _=>∃ (l:Addr) (m:Int),vs=[.ref l,.int m]∧0<m∧m<1073741824∧PkAt H l∧∀ (v:Nat) H',(v:Int)<m→PkAt H' l→But l H H'→Q (.int v) H'
def Frs (l:Addr) (H:Hp) (x:Addr):Prop:=∀ b o,H b=some o→b≠l→b≠x
theorem But.frs {l x:Addr}{H H1:Hp}(B:But l H H1) (h:H1 x=none):Frs l H x:=fun b o e n=>zad (B b o e n) h
theorem But.upd {l x:Addr}{H H1:Hp}{o:HO}(B:But l H H1) (f:Frs l H x):But l H (upd H1 x o):=fun b u e n=>by rw[zac (f b u e n)];exact B b u e n
theorem ziH {xs:List Nat}{v:Nat}(h:v<xs.length):∃ n,n∈xs∧atI (nums xs) ((v:Nat):Int)=some (.int n):=by
 refine⟨xs[v],List.getElem_mem h,zah ?_⟩
 unfold nums
 rw[List.getElem?_map,List.getElem?_eq_getElem h];rfl
theorem zag (es:List Nat):(nums es).length=es.length:=by simp[nums]
theorem zg6 {one d lanes:Nat}(h1:one<lanes) (h2:d+1<lanes):(one+1+d)%lanes<lanes∧one≠(one+1+d)%lanes:=by
 refine⟨Nat.mod_lt _ (by lia),fun e=>?_⟩
 by_cases z:one+1+d<lanes
 ·rw[Nat.mod_eq_of_lt z]at e;lia
 ·rw[Nat.mod_eq_sub_mod (by lia),Nat.mod_eq_of_lt (by lia)]at e;lia
theorem zg8 (k:Nat):0<PySem.NumText.digitsVal (49::List.replicate k 48):=by
 unfold PySem.NumText.digitsVal
 have go:∀ (k acc:Nat),0<acc→0<(List.replicate k 48).foldl (fun acc c=>acc*10+(c-48)) acc:=fun k=>by
  induction k with
  | zero=>intro acc h;exact h
  | succ k ih=>intro acc h;rw[List.replicate_succ,List.foldl_cons];exact ih _ (by lia)
 rw[List.foldl_cons]
 exact go k _ (by decide)
theorem zf8 {z:Str}{k:Nat}(hz:z.cps.toList=List.replicate k 48):PySem.NumText.AllDigits ((("1":Str)++z).cps.toList)∧(("1":Str)++z).length=k+1∧0<PySem.NumText.digitsVal ((("1":Str)++z).cps.toList):=by
 have e:(("1":Str)++z).cps.toList=49::List.replicate k 48:=by
  show ((("1":Str).cps++z.cps).toList)=_
  rw[Array.toList_append,hz];rfl
 refine⟨?_,?_,?_⟩
 ·rw[e]
  intro c hc
  rcases List.mem_cons.mp hc with q|q
  ·lia
  ·have:=List.eq_of_mem_replicate q;lia
 ·have:=congrArg List.length e
  rw[Array.length_toList]at this
  show (("1":Str)++z).cps.size=k+1
  rw[this,List.length_cons,List.length_replicate]
 ·rw[e];exact zg8 k
end Bn
namespace L2
open PySem PySem.Spec PyProof.Rows Own
section
variable {X:Cx}
theorem zhz {x:V}(h:zbQ x=true):eqV x x=true:=by
 cases x<;>first|rfl|(simp[eqV];done)|exact absurd (show false=true from h) Bool.false_ne_true
theorem zgt {A:Around}{s:Shared}{x:V}{u v:Value}(f:zbQ x=true) (r1:RelV x u) (r2:RelV x v):SeqAt.EqAt A s u v true:=by
 have:=zde (A:=A) (s:=s) r1 r2 f f
 rwa [zhz f]at this
end
section
variable {prog:Program}{w:World}{A:Around}{E:Value→Shared→Prop}{s:Shared}
theorem zdT {t sl:Addr}{items:Array Value}{vl vu:Value}{lo hi:Option Int}{Q:Value→Shared→Prop}(ht:IsTup s.heap t items) (hs:s.heap.IsSliceOf sl vl vu .none) (pl:IsPart vl lo) (pu:IsPart vu hi)
  (e0:HT.sIx items.size 0 lo=0) (e1:HT.sIx items.size items.size hi=items.size) (h:Q (.ref t) s):wpAny (model prog w) A (getItem (.ref t) (.ref sl)) Q E s:=by
 obtain⟨os,hos,hcs,hds⟩:=id hs
 have hTs:s.TypeIs (.ref sl) "slice":=⟨os,hos,hcs⟩
 unfold getItem
 try with_reducible refine wpAny_holding ?_
 first|refine wpAny_bind (wpAny_pure ?_)|skip
 refine wpAny_bind (wpAny_sequenceKey ht.typeIs (by decide) (wpAny_bind (wpAny_callSpecial?_slot (name:=Str.ofString "__getitem__") ht.typeIs PyProof.Rows.slot_tuple_getitem (wpAny_call_entry PyProof.Rows.slot_tuple_getitem ht.typeIs PyProof.Rows.entry_tuple_getitem ?_ (PyProof.Rows.args_tuple_getitem _ _)))))
 show wpAny _ _ (Builtin.Tuple.tupleItemsOf (.ref t) >>= _) _ _ s
 refine wpAny_bind (tupleItemsOf_ ht (wpAny_bind (wpAny_typeOf hTs ?_)))
 rw[if_pos (by decide)]
 refine wpAny_bind (HT.sliceApplied_gen hs pl pu ?_)
 rw[e0,e1]
 show wpAny _ _ (if (((0:Nat):Int) == 0 && (1:Int) == 1 && (items.size-0) == items.size)=true then _ else _) _ _ s
 rw[if_pos (by simp)]
 refine wpAny_bind ?_
 unfold Builtin.Tuple.tupleIsExact
 refine wpAny_bind (wpAny_typeOf ht.typeIs (wpAny_pure ?_))
 rw[if_pos (by decide)]
 exact wpAny_bind (wpAny_rule (wpAny_pure ⟨_,rfl,wpAny_pure h⟩))
end
section
variable {X:Cx}
end
section
variable {prog:Program}{w:World}{A:Around}{R:Result→Shared→Prop}{I S:Addr}{fp wr:List Addr}{n:Nat}{P B:Nat→Value→Prop}{St:Nat→Heap→Prop}
end
section
variable {prog:Program}{w:World}{A:Around}{E:Value→Shared→Prop}{s:Shared}
end
section
variable {X:Cx}{e e2:Expr}{ta tb:TE}{p kp pos:Pos}
end
section
variable {X:Cx}
theorem ziq:SlR X (fun x lo hi H Q=>∃ a xs,x=.ref a∧H a=some (.tup xs)∧∀ p H',Same H H'→H' p=some (.tup (cutV xs lo hi))→Q (.ref p) H'):=by
 intro pins s σ H x v vl vu lo hi sl Q I rx hs pl pu h
 obtain⟨a,xs,rfl,hx,q⟩:=h
 by_cases hw:HT.sIx xs.length 0 lo=0∧HT.sIx xs.length xs.length hi=xs.length
 ·cases rx
  obtain⟨its,r,ht,hz⟩:=I.tuple (SqT.of hx)
  have hlen:its.toArray.size=xs.length:=by rw[List.size_toArray];exact r.length.symm
  refine⟨"tuple",_,PyProof.Rows.slot_tuple_getitem.lookup,ht.typeIs,zdT ht hs pl pu (by rw[hlen];exact hw.1) (by rw[hlen];exact hw.2) ⟨.ref a,H,I,rfl,q a H (Same.refl H) ?_⟩⟩
  unfold cutV
  rw[hw.1,hw.2,List.drop_zero,Nat.sub_zero,List.take_length]
  exact hx
 ·exact zjA pins s σ H _ v vl vu lo hi sl Q I rx hs pl pu ⟨a,xs,rfl,SqT.of hx,hw,fun p hp=>q p _ (zaa hp _) zab⟩
end
theorem zer (xs:List V) (i:Nat) (h:i≤xs.length):cutV xs none (some (i:Int))=xs.take i:=by
 unfold cutV
 rw[HT.sIx_none,HT.sIx_nat,List.drop_zero,Nat.sub_zero,Nat.min_eq_left h]
theorem zes (xs:List V) (i:Nat) (h:i≤xs.length):cutV xs (some (i:Int)) none=xs.drop i:=by
 unfold cutV
 rw[HT.sIx_none,HT.sIx_nat,Nat.min_eq_left h]
 exact List.take_of_length_le (by rw[List.length_drop];exact Nat.le_refl _)
section
variable {X:Cx}
theorem zgo {A:Around}{s:Shared}{ns ms:List Int}{its jts:List Value}(r1:Vals (ns.map V.int) its) (r2:Vals (ms.map V.int) jts) (j:Nat) (h1:j<its.toArray.size) (h2:j<jts.toArray.size) :
  SeqAt.EqAt A s its.toArray[j] jts.toArray[j] (eqV ((ns.map V.int).getD j .non) ((ms.map V.int).getD j .non)):=by
 have k1:j<(ns.map V.int).length:=by rw[r1.length];simpa using h1
 have k2:j<(ms.map V.int).length:=by rw[r2.length];simpa using h2
 obtain⟨a,ea,qa⟩:=r1.get (List.getElem?_eq_getElem k1)
 obtain⟨b,eb,qb⟩:=r2.get (List.getElem?_eq_getElem k2)
 have ga:its.toArray[j]=a:=by simpa using (List.getElem?_eq_some_iff.mp ea).2
 have gb:jts.toArray[j]=b:=by simpa using (List.getElem?_eq_some_iff.mp eb).2
 have fl:=zdd ns
 have fm:=zdd ms
 rw[ga,gb,List.getD_eq_getElem?_getD,List.getD_eq_getElem?_getD,List.getElem?_eq_getElem k1,List.getElem?_eq_getElem k2]
 exact zde qa qb (List.all_eq_true.mp fl _ (List.getElem_mem k1)) (List.all_eq_true.mp fm _ (List.getElem_mem k2))
theorem zhI {ns ms:List Int}(h:ns.length=ms.length):((List.range ns.length).all fun j=>eqV ((ns.map V.int).getD j .non) ((ms.map V.int).getD j .non))=decide (ns=ms):=by
 rw[← zkb ns ms,List.length_map,List.length_map,h,Nat.min_self,beq_self_eq_true,Bool.and_true]
theorem op_eqLi (hu:X.A.units<cLine):OpR X (compareOp .Eq) (fun x y H Q=>∃ a b ns ms,x=.ref a∧y=.ref b∧SqL X.K H a (List.map V.int ns)∧SqL X.K H b (List.map V.int ms)∧Q (.bl (decide (ns=ms))) H):=by
 rintro pins s σ H x y v u Q I rx ry ⟨a,b,ns,ms,rfl,rfl,ha,hb,q⟩
 cases rx;cases ry
 obtain⟨its,r1,p1,_⟩:=I.list ha
 obtain⟨jts,r2,p2,_⟩:=I.list hb
 have l1:its.length=ns.length:=by rw[← r1.length,List.length_map]
 have l2:jts.length=ms.length:=by rw[← r2.length,List.length_map]
 by_cases e:ns.length=ms.length
 ·refine SeqAt.RcAt.lists p1.isList p2.isList (by simpa [l1,l2] using e) hu (zgo r1 r2) X.prog X.w _ _ ?_
  rw[List.size_toArray,l1,zhI e]
  exact⟨.bl _,H,I,rfl,q⟩
 ·refine SeqAt.RcAt.lists_lengths p1.isList p2.isList (by simpa [l1,l2] using e) hu X.prog X.w _ _ ?_
  rw[decide_eq_false (fun z=>e (congrArg List.length z))]at q
  exact⟨.bl _,H,I,rfl,q⟩
end
theorem zcW {h:Heap}:∀ (vs:List Value) (ds:List PyData),vs.length=ds.length→(∀ (j:Nat) (v:Value) (d:PyData),vs[j]?=some v→ds[j]?=some d→∃ as,Reads h v d as)→∃ as,ReadsAll h vs ds as
 | [],[],_,_=>⟨_,.nil⟩
 | v::vs,d::ds,hl,q=>by
  obtain⟨as,r⟩:=q 0 v d rfl rfl
  obtain⟨bs,r'⟩:=zcW vs ds (by simpa using hl) fun j v' d' e1 e2=>q (j+1) v' d' (by simpa using e1) (by simpa using e2)
  exact⟨_,.cons r r'⟩
section
variable {X:Cx}
end
theorem zdp (ts:List Str):(tupleText ts).length≤piled ts+3:=by
 unfold tupleText;rw[strLen_append,strLen_append]
 have e1:(("(":String):Str).length=1:=rfl
 have e3:(((if ts.length == 1 then ",)" else ")":String):Str)).length≤2:=by split<;>decide
 rw[e1]
 by_cases h:ts=[]
 ·subst h
  have:(Str.join ", " ([]:List Str)).length=0:=rfl
  lia
 ·have jl:=join_length_add ts h
  lia
theorem zb3 {m:Nat}:∀ {ts:List Str},(∀ t∈ts,t.length≤m)→piled ts≤ts.length*(m+2)
 | [],_=>Nat.zero_le _
 | t::ts,h=>by
  have a:=h t List.mem_cons_self
  have b:=zb3 (ts:=ts) fun x hx=>h x (List.mem_cons_of_mem _ hx)
  rw[piled_cons,List.length_cons,Nat.add_one_mul]
  lia
end L2
namespace L2
open PySem PySem.Spec PyProof.Rows PySem.Calls PySem.NumText Own
section
variable {prog:Program}{w:World}{A:Around}{E:Value→Shared→Prop}{s:Shared}
theorem zd1 {sl:Addr}{t:Tok}{Q:Int × Int × Nat→Shared→Prop}(hs:s.heap.IsSliceOf sl .none .none (.int 1 t)) (h:Q (0,1,2) s):wpAny (model prog w) A (Builtin.Slice.sliceApplied (.ref sl) (pure (2:Int))) Q E s:=by
 have hs':=hs;obtain⟨os,hos,hcs,hds⟩:=hs'
 unfold Builtin.Slice.sliceApplied Builtin.Slice.sliceFields
 refine wpAny_bind (wpAny_bind (wpAny_field hos hds (x:=.none) rfl (wpAny_bind (wpAny_field hos hds (x:=.none) rfl (wpAny_bind (wpAny_field hos hds (x:=.int 1 t) rfl (wpAny_pure ?_)))))))
 refine wpAny_bind (slicePart_int ?_);show wpAny _ _ (if ((1:Int) == 0)=true then _ else _) _ _ s
 rw[if_neg (by decide)]
 refine wpAny_bind (slicePart_none (wpAny_bind (slicePart_none (wpAny_bind (wpAny_pure ?_)))))
 show wpAny _ _ (match Builtin.Slice.sliceAdjust none none 1 (2:Int) with|(lo,hi)=>pure (lo,(1:Int),Builtin.Slice.slicePlaces lo hi 1)) _ _ s
 have e:Builtin.Slice.sliceAdjust none none 1 (2:Int)=(0,2):=by decide
 have e2:Builtin.Slice.slicePlaces (0:Int) 2 1=2:=by decide
 rw[e];show wpAny _ _ (pure ((0:Int),(1:Int),Builtin.Slice.slicePlaces (0:Int) 2 1)) _ _ s
 rw[e2];exact wpAny_pure h
theorem zdS {t sl:Addr}{x y:Value}{tk:Tok}{Q:Value→Shared→Prop}(ht:IsTup s.heap t #[x,y]) (hs:s.heap.IsSliceOf sl .none .none (.int 1 tk)) (h:Q (.ref t) s) :
  wpAny (model prog w) A (getItem (.ref t) (.ref sl)) Q E s:=by
 have hs':=hs;obtain⟨os,hos,hcs,hds⟩:=hs'
 have hTs:s.TypeIs (.ref sl) "slice":=⟨os,hos,hcs⟩
 unfold getItem;try with_reducible refine wpAny_holding ?_
 first|refine wpAny_bind (wpAny_pure ?_)|skip
 refine wpAny_bind (wpAny_sequenceKey ht.typeIs (by decide) (wpAny_bind (wpAny_callSpecial?_slot (name:=Str.ofString "__getitem__") ht.typeIs PyProof.Rows.slot_tuple_getitem (wpAny_call_entry PyProof.Rows.slot_tuple_getitem ht.typeIs PyProof.Rows.entry_tuple_getitem ?_ (PyProof.Rows.args_tuple_getitem _ _)))))
 show wpAny _ _ (Builtin.Tuple.tupleItemsOf (.ref t) >>= _) _ _ s
 refine wpAny_bind (tupleItemsOf_ ht (wpAny_bind (wpAny_typeOf hTs ?_)));rw[if_pos (by decide)]
 refine wpAny_bind (zd1 hs ?_);show wpAny _ _ (if ((0:Int) == 0 && (1:Int) == 1 && (2:Nat) == 2)=true then _ else _) _ _ s
 rw[if_pos (by decide)]
 refine wpAny_bind (?_:wpAny _ _ (Builtin.Tuple.tupleIsExact (.ref t)) _ _ s)
 unfold Builtin.Tuple.tupleIsExact;refine wpAny_bind (wpAny_typeOf ht.typeIs (wpAny_pure ?_))
 rw[if_pos (by decide)];exact wpAny_bind (wpAny_rule (wpAny_pure ⟨_,rfl,wpAny_pure h⟩))
end
section
variable {X:Cx}
def zkc (K:PySem.W.Frag) (te:TE) (ts:TO):TE:=fun σ H Q=>te σ H fun x H1=>ts σ H1 fun o H2=>∃ a u v,x=.ref a∧SqT K H2 a [u,v]∧((o=some 1∧Q (.ref a) H2)∨(o=some (-1)∧∀ p,H2 p=none→Q (.ref p) (upd H2 p (.tup [v,u]))))
theorem ziK {e st:Expr}{te:TE}{ts:TO}{p2 pos:Pos}(he:PE X e te) (hs:PO X (some st) ts):PE X (.Subscript e (.Slice none none (some st) p2) pos) (zkc X.K te ts):=by
 intro pins s σ H Q I h
 refine Subscript_ (thn (he pins s σ H _ I h) fun v s1 ⟨x,H1,I1,r1,q1⟩=>wpAny_Slice ?_)
 rw[evalPart_none];refine wpAny_pure (wpAny_pure (thn (hs pins s1 σ H1 _ I1 q1) fun vst s2 ⟨o,H2,I2,po,q2⟩=>?_))
 obtain⟨a,u1,u2,rfl,hq,k⟩:=q2
 cases r1
 rcases k with ⟨rfl,k⟩|⟨rfl,k⟩
 ·obtain⟨t,rfl⟩:∃ t,vst=.int 1 t:=by cases po;exact⟨_,rfl⟩
  have I3:Inv X pins σ H2 { s2 with heap:=s2.heap.push { cls:=.type "slice",data:=.fields #[.none,.none,.int 1 t] } }:=I2.kept (t':=s2.toks) fun b ob q=>Heap.get?_push_of_some _ q
  obtain⟨its,r,ht,hz⟩:=I3.tuple hq
  obtain⟨w1,w2,rfl,g1,g2⟩:=r.two
  show wpAny (model X.prog X.w) X.A (subscriptTail e (.Slice none none (some st) p2) (.ref a) (.ref s2.heap.objs.size)) (EP X pins σ Q) X.xe { s2 with heap:=s2.heap.push { cls:=.type "slice",data:=.fields #[.none,.none,.int 1 t] } }
  refine tail_any (ops:=[.ref a,.ref s2.heap.objs.size]) ht.typeIs PyProof.Rows.slot_tuple_getitem.lookup (zdS ht (Heap.IsSliceOf.new ..) ?_) (by with_unfolding_all rfl)
  exact⟨.ref _,_,I3,rfl,k⟩
 ·obtain⟨t,rfl⟩:∃ t,vst=.int (-1) t:=by cases po;exact⟨_,rfl⟩
  have I3:Inv X pins σ H2 { s2 with heap:=s2.heap.push { cls:=.type "slice",data:=.fields #[.none,.none,.int (-1) t] } }:=I2.kept (t':=s2.toks) fun b ob q=>Heap.get?_push_of_some _ q
  obtain⟨its,r,ht,hz⟩:=I3.tuple hq
  obtain⟨w1,w2,rfl,g1,g2⟩:=r.two
  show wpAny (model X.prog X.w) X.A (subscriptTail e (.Slice none none (some st) p2) (.ref a) (.ref s2.heap.objs.size)) (EP X pins σ Q) X.xe { s2 with heap:=s2.heap.push { cls:=.type "slice",data:=.fields #[.none,.none,.int (-1) t] } }
  refine tail_any (ops:=[.ref a,.ref s2.heap.objs.size]) ht.typeIs PyProof.Rows.slot_tuple_getitem.lookup (zdb ht (Heap.IsSliceOf.new ..) ?_) (by with_unfolding_all rfl)
  exact⟨.ref _,_,I3.laid (t':=s2.toks) (o:=.tup [u2,u1]) (fun b ob q=>Heap.get?_push_of_some _ q) (Nat.le_refl _) ⟨by show 2≤sizeLine;decide,[w2,w1],.cons g2 (.cons g1 .nil),TupX.new _ _⟩,rfl,k _ (I3.hok.fresh (Nat.le_refl _))⟩
theorem zcK:CallR X (.type "int") (fun vs H Q=>∃ x:Str,vs=[.str x]∧AllDigits x.cps.toList∧0<x.length∧x.length≤640∧Q (.int (digitsVal x.cps.toList:Nat)) H):=by
 rintro pins s σ H vs us Q I rv ⟨x,rfl,hd,h0,h6,q⟩
 obtain⟨u,rfl,t,rfl⟩:=rv.one
 have xl:x.cps.toList.length=x.length:=by simp[Str.length]
 have ne:x.cps.toList≠[]:=fun z=>by rw[z]at xl;simp at xl;lia
 exact PySem.W.KIN.call_text (intText_digits hd ne (by lia)) h6 ⟨.int _,H,I.tok _,⟨_,rfl⟩,q⟩
end
end L2
namespace Bn
open PySem L2 Own
def nm (ns:List Nat) (i:Nat):Nat:=ns.getD i 0
section
variable {ns:List Nat}{n:Nat}(pm:ns.Perm (List.range n))
include pm
end
def Nt.again (N:Nt) (f:Nat × Nat):Nt:=⟨N.lanes,N.forks++[f],N.ends⟩
end Bn
namespace K98
open PySem L2 Own Bn
def top (i:Nat):Stmt:=PySem.Challenge.pw_stairlanes_k98_numbers_that_cross.main.body.getD i (.Pass ⟨0,0,0,0⟩)
abbrev ziB:Stmt:=top 29
abbrev zix:Stmt:=top 30
abbrev ziv:Stmt:=top 31
section
variable {P:Program}{w:World}{K:PySem.W.Frag}{mg:Str→Option Value}{base:Heap}
theorem scC:FnScope ["_law_script","_law_k"] ["_law_script","_law_k"] (zae ziB):=⟨rfl,rfl,rfl,by decide +kernel,rfl,by decide +kernel,by decide +kernel⟩
theorem ziT {f:Addr}{fd:FuncData}(F:Fun K "_law_cell_at" "_law_cell_at" ziB f fd) (G:Mgs mg):FnOk P w K mg base CX0 1 f fd ["_law_script","_law_k"] (zfr K):=by
 refine F.ok scC (fun vs H Q E h=>?_) (fun cdv A outer s H vs Q E hr h=>?_)
 ·obtain⟨a,ns,k,rfl,_⟩:=h
  rfl
 obtain⟨a,ns,k,rfl,hS,k0,q⟩:=h
 refine⟨_,(@pss_cons _ _ _ _ _ (@ps_if _ _ _ _ _ _ _ _ (@pt_cmpR _ _ _ _ _ _ _ _ zc2 (@pv _ 1 _ _ (by rfl) (by first|exact Or.inl rfl|exact Or.inr (.inl rfl)|exact Or.inr (.inr rfl)) (by decide) (by decide)) (@pe_callB _ _ _ _ _ _ _ _ _ call_len_seq (by rfl) G.len PySem.boot_len (@pa_cons _ _ _ _ _ (@pv _ 0 _ _ (by rfl) (by first|exact Or.inl rfl|exact Or.inr (.inl rfl)|exact Or.inr (.inr rfl)) (by decide) (by decide)) pa_nil (by rfl)) (by decide) (by decide) (by rfl) (by rfl)) (nomark _)) (@pss_one _ _ _ (@ps_ret _ _ _ _ (@pe_ix _ _ _ _ _ _ _ ix_list (@pv _ 0 _ _ (by rfl) (by first|exact Or.inl rfl|exact Or.inr (.inl rfl)|exact Or.inr (.inr rfl)) (by decide) (by decide)) (@pv _ 1 _ _ (by rfl) (by first|exact Or.inl rfl|exact Or.inr (.inl rfl)|exact Or.inr (.inr rfl)) (by decide) (by decide)) (fun _ _=>rfl)))) pss_nil) (@pss_one _ _ _ (@ps_ret _ _ _ _ pe_int))),?_⟩
 refine⟨_,rfl,_,rfl,a,_,rfl,.inl hS,_,_,rfl,rfl,_,rfl,ite2 (fun z=>?_) (fun z=>?_)⟩
 ·obtain⟨j,rfl⟩:=Int.eq_ofNat_of_zero_le k0
  have hj:j<ns.length:=by have:=of_decide_eq_true z;rw[List.length_map]at this;lia
  exact⟨_,rfl,_,rfl,a,_,_,_,rfl,rfl,hS,zgN hj,q _⟩
 ·exact q 0
theorem scK:FnScope ["_law_left_here","_law_many","_law_digit"] ["_law_left_here","_law_many"] (zae ziv):=⟨rfl,rfl,rfl,by decide +kernel,rfl,by decide +kernel,by decide +kernel⟩
theorem ziO {f:Addr}{fd:FuncData}(F:Fun K "_law_pick" "_law_pick" ziv f fd):FnOk P w K mg base CX0 1 f fd ["_law_left_here","_law_many"] zbg:=by
 refine F.ok scK (fun vs H Q E h=>?_) (fun cdv A outer s H vs Q E hr h=>?_)
 ·obtain⟨l,m,rfl,_⟩:=h
  rfl
 obtain⟨l,m,rfl,m0,m1,S,k⟩:=h
 obtain⟨a,b,hl,a0,b0,b1⟩:=S.ex
 refine⟨_,(@pss_cons _ _ _ _ _ (@ps_if _ _ _ _ _ _ _ _ (@pt_cmpR _ _ _ _ _ _ _ _ zg7 (@pe_ix _ _ _ _ _ _ _ ix_list (@pv _ 0 _ _ (by rfl) (by first|exact Or.inl rfl|exact Or.inr (.inl rfl)|exact Or.inr (.inr rfl)) (by decide) (by decide)) pe_int (fun _ _=>rfl)) pe_int (nomark _)) (@pss_cons _ _ _ _ _ (@ps_set _ _ 2 _ _ _ _ scK.nd rfl (.inl rfl) (@pe_op _ _ _ _ _ _ _ _ op_mod (@pe_ix _ _ _ _ _ _ _ ix_list (@pv _ 0 _ _ (by rfl) (by first|exact Or.inl rfl|exact Or.inr (.inl rfl)|exact Or.inr (.inr rfl)) (by decide) (by decide)) pe_int (fun _ _=>rfl)) (@pv _ 1 _ _ (by rfl) (by first|exact Or.inl rfl|exact Or.inr (.inl rfl)|exact Or.inr (.inr rfl)) (by decide) (by decide))) (by rfl) (by first|exact .inl rfl|exact .inr rfl|assumption)) (@pss_cons _ _ _ _ _ (@ps_asg _ _ _ _ _ _ (@pe_op _ _ _ _ _ _ _ _ zdG (@pe_ix _ _ _ _ _ _ _ ix_list (@pv _ 0 _ _ (by rfl) (by first|exact Or.inl rfl|exact Or.inr (.inl rfl)|exact Or.inr (.inr rfl)) (by decide) (by decide)) pe_int (fun _ _=>rfl)) (@pv _ 1 _ _ (by rfl) (by first|exact Or.inl rfl|exact Or.inr (.inl rfl)|exact Or.inr (.inr rfl)) (by decide) (by decide))) (@pg_sub _ _ _ _ _ _ _ (@pv _ 0 _ _ (by rfl) (by first|exact Or.inl rfl|exact Or.inr (.inl rfl)|exact Or.inr (.inr rfl)) (by decide) (by decide)) pe_int set_list (by intro _;rfl)) (by rfl) (by rfl) (by rfl)) (@pss_one _ _ _ (@ps_ret _ _ _ _ (@pv _ 2 _ _ (by rfl) (by first|exact Or.inl rfl|exact Or.inr (.inl rfl)|exact Or.inr (.inr rfl)) (by decide) (by decide)))))) pss_nil) (@pss_cons _ _ _ _ _ (@ps_asg _ _ _ _ _ _ (@pe_op _ _ _ _ _ _ _ _ op_mod (@pe_op _ _ _ _ _ _ _ _ op_add (@pe_op _ _ _ _ _ _ _ _ op_mul (@pe_ix _ _ _ _ _ _ _ ix_list (@pv _ 0 _ _ (by rfl) (by first|exact Or.inl rfl|exact Or.inr (.inl rfl)|exact Or.inr (.inr rfl)) (by decide) (by decide)) pe_int (fun _ _=>rfl)) pe_int) pe_int) pe_int) (@pg_sub _ _ _ _ _ _ _ (@pv _ 0 _ _ (by rfl) (by first|exact Or.inl rfl|exact Or.inr (.inl rfl)|exact Or.inr (.inr rfl)) (by decide) (by decide)) pe_int set_list (by intro _;rfl)) (by rfl) (by rfl) (by rfl)) (@pss_one _ _ _ (@ps_ret _ _ _ _ (@pe_op _ _ _ _ _ _ _ _ op_mod (@pe_op _ _ _ _ _ _ _ _ op_mod (@pe_op _ _ _ _ _ _ _ _ op_mul (@pe_ix _ _ _ _ _ _ _ ix_list (@pv _ 0 _ _ (by rfl) (by first|exact Or.inl rfl|exact Or.inr (.inl rfl)|exact Or.inr (.inr rfl)) (by decide) (by decide)) pe_int (fun _ _=>rfl)) (@pe_ix _ _ _ _ _ _ _ ix_list (@pv _ 0 _ _ (by rfl) (by first|exact Or.inl rfl|exact Or.inr (.inl rfl)|exact Or.inr (.inr rfl)) (by decide) (by decide)) pe_int (fun _ _=>rfl))) pe_int) (@pv _ 1 _ _ (by rfl) (by first|exact Or.inl rfl|exact Or.inr (.inl rfl)|exact Or.inr (.inr rfl)) (by decide) (by decide))))))),?_⟩
 have fin:∀ (x:Int) (H':Hp),0≤x→x<m→PkAt H' l→But l H H'→Q (.int x) H':=fun x H' x0 x1 S' B'=>by
  obtain⟨v,rfl⟩:=Int.eq_ofNat_of_zero_le x0
  exact k v H' x1 S' B'
 refine⟨_,rfl,l,_,_,_,rfl,rfl,SqL.of hl,rfl,_,_,rfl,rfl,_,rfl,ite2 (fun q=>?_) (fun q=>?_)⟩
 ·refine⟨_,rfl,l,_,_,_,rfl,rfl,SqL.of hl,rfl,_,rfl,_,_,rfl,rfl,m0,?_⟩
  refine⟨_,rfl,l,_,_,_,rfl,rfl,SqL.of hl,rfl,_,rfl,_,_,rfl,rfl,⟨m0,m1⟩,_,rfl,l,_,_,0,rfl,rfl,hl,rfl,_,rfl,?_⟩
  exact fin _ _ (Int.emod_nonneg _ (by lia)) (Int.emod_lt_of_pos _ m0) ⟨a / m,b,zab,Int.ediv_nonneg a0 (by lia),b0,b1⟩ fun x o e ne=>by rw[zac ne];exact e
 ·refine⟨_,rfl,l,_,_,_,rfl,rfl,SqL.of hl,rfl,_,_,rfl,rfl,.inr ⟨by decide,by decide⟩,_,_,rfl,rfl,_,_,rfl,rfl,(by show (0:Int)<2147483647;decide),_,rfl,l,_,_,1,rfl,rfl,hl,rfl,?_⟩
  have g0:0≤(b*48271+12345)%2147483647:=Int.emod_nonneg _ (by decide)
  have g1:(b*48271+12345)%2147483647<2147483647:=Int.emod_lt_of_pos _ (by decide)
  generalize hH:upd H l (HO.lst ([V.int a,V.int b].set 1 (V.int ((b*48271+12345)%2147483647))))=H1
  have h1:H1 l=some (.lst [.int a,.int ((b*48271+12345)%2147483647)]):=by rw[← hH];exact zab
  refine⟨_,rfl,l,_,_,_,rfl,rfl,SqL.of h1,rfl,_,rfl,l,_,_,_,rfl,rfl,SqL.of h1,rfl,_,_,rfl,rfl,.inl ⟨by lia,by lia⟩,_,_,rfl,rfl,(by show (0:Int)<1999999973;decide),_,rfl,_,_,rfl,rfl,m0,?_⟩
  exact fin _ _ (Int.emod_nonneg _ (by lia)) (Int.emod_lt_of_pos _ m0) ⟨a,_,h1,a0,g0,by lia⟩ fun x o e ne=>by rw[← hH,zac ne];exact e
theorem scL:FnScope ["_law_script","_law_k","_law_cell","_law_seed"] ["_law_script","_law_k"] (zae zix):=⟨rfl,rfl,rfl,by decide +kernel,rfl,by decide +kernel,by decide +kernel⟩
theorem ziR {f fC:Addr}{fd dC:FuncData}(F:Fun K "_law_left" "_law_left" zix f fd) (G:Mgs mg) (zd:PySem.W.nsIn K cStatics "sys.int_max_str_digits" = some none) (UC:Use P w K mg base "_law_cell_at" ["_law_script","_law_k"] 1 (zfr K) fC dC):FnOk P w K mg base CX0 2 f fd ["_law_script","_law_k"] (zfp K):=by
 refine F.ok scL (fun vs H Q E h=>?_) (fun cdv A outer s H vs Q E hr h=>?_)
 ·obtain⟨a,ns,k,rfl,_⟩:=h
  rfl
 obtain⟨a,ns,k,rfl,hS,h63,k0,k1,q⟩:=h
 refine⟨_,(@pss_cons _ _ _ _ _ (@ps_set _ _ 2 _ _ _ _ scL.nd rfl (.inl rfl) (@pe_call _ _ _ _ _ _ _ _ _ _ _ _ _ _ _ _ UC.ok hr (by rfl) UC.m UC.kp UC.b .nil pass0 (@pa_cons _ _ _ _ _ (@pv _ 0 _ _ (by rfl) (by first|exact Or.inl rfl|exact Or.inr (.inl rfl)|exact Or.inr (.inr rfl)) (by decide) (by decide)) (@pa_cons _ _ _ _ _ (@pe_op _ _ _ _ _ _ _ _ op_mod (@pv _ 1 _ _ (by rfl) (by first|exact Or.inl rfl|exact Or.inr (.inl rfl)|exact Or.inr (.inr rfl)) (by decide) (by decide)) (@pe_callB _ _ _ _ _ _ _ _ _ (za6 rfl) (by rfl) G.max (by rfl) (@pa_cons _ _ _ _ _ pe_int (@pa_cons _ _ _ _ _ (@pe_callB _ _ _ _ _ _ _ _ _ call_len_seq (by rfl) G.len PySem.boot_len (@pa_cons _ _ _ _ _ (@pv _ 0 _ _ (by rfl) (by first|exact Or.inl rfl|exact Or.inr (.inl rfl)|exact Or.inr (.inr rfl)) (by decide) (by decide)) pa_nil (by rfl)) (by decide) (by decide) (by rfl) (by rfl)) pa_nil (by rfl)) (by rfl)) (by decide) (by decide) (by rfl) (by rfl))) pa_nil (by rfl)) (by rfl)) (by decide) (by rfl) (by rfl)) (by rfl) (by first|exact .inl rfl|exact .inr rfl|assumption)) (@pss_cons _ _ _ _ _ (@ps_set _ _ 3 _ _ _ _ scL.nd rfl (.inl rfl) (@pe_op _ _ _ _ _ _ _ _ op_mod (@pe_op _ _ _ _ _ _ _ _ op_mul (@pe_op _ _ _ _ _ _ _ _ op_add (@pe_op _ _ _ _ _ _ _ _ op_add (@pe_op _ _ _ _ _ _ _ _ op_mod (@pv _ 2 _ _ (by rfl) (by first|exact Or.inl rfl|exact Or.inr (.inl rfl)|exact Or.inr (.inr rfl)) (by decide) (by decide)) pe_int) (@pe_op _ _ _ _ _ _ _ _ op_mul (@pe_op _ _ _ _ _ _ _ _ op_mul pe_int (@pv _ 1 _ _ (by rfl) (by first|exact Or.inl rfl|exact Or.inr (.inl rfl)|exact Or.inr (.inr rfl)) (by decide) (by decide))) (@pv _ 1 _ _ (by rfl) (by first|exact Or.inl rfl|exact Or.inr (.inl rfl)|exact Or.inr (.inr rfl)) (by decide) (by decide)))) pe_int) pe_int) pe_int) (by rfl) (by first|exact .inl rfl|exact .inr rfl|assumption)) (@pss_one _ _ _ (@ps_ret _ _ _ _ (@pe_lst _ _ _ _ (@pa_cons _ _ _ _ _ (@pe_op _ _ _ _ _ _ _ _ op_mod (@pe_op _ _ _ _ _ _ _ _ op_mul (@pe_callB _ _ _ _ _ _ _ _ _ zev (by rfl) G.abs (by rfl) (@pa_cons _ _ _ _ _ (@pv _ 2 _ _ (by rfl) (by first|exact Or.inl rfl|exact Or.inr (.inl rfl)|exact Or.inr (.inr rfl)) (by decide) (by decide)) pa_nil (by rfl)) (by decide) (by decide) (by rfl) (by rfl)) (@pe_callTy _ _ _ _ _ _ _ _ _ zdg (by rfl) G.int (by rfl) (@pa_cons _ _ _ _ _ (@zfS _ _ _ _ _ _ _ _ zku (@pe_callB _ _ _ _ _ _ _ _ _ zev (by rfl) G.abs (by rfl) (@pa_cons _ _ _ _ _ (@pv _ 2 _ _ (by rfl) (by first|exact Or.inl rfl|exact Or.inr (.inl rfl)|exact Or.inr (.inr rfl)) (by decide) (by decide)) pa_nil (by rfl)) (by decide) (by decide) (by rfl) (by rfl)) (@pe_op _ _ _ _ _ _ _ _ zhV pe_int pe_int) (nomark _)) pa_nil (by rfl)) (by decide) (by decide) (by rfl) (by rfl))) (@pe_callTy _ _ _ _ _ _ _ _ _ (zdf zd) (by rfl) G.int (by rfl) (@pa_cons _ _ _ _ _ (@pe_op _ _ _ _ _ _ _ _ zb4 zeh (@pe_op _ _ _ _ _ _ _ _ zfT zeh pe_int)) pa_nil (by rfl)) (by decide) (by decide) (by rfl) (by rfl))) (@pa_cons _ _ _ _ _ (@pv _ 3 _ _ (by rfl) (by first|exact Or.inl rfl|exact Or.inr (.inl rfl)|exact Or.inr (.inr rfl)) (by decide) (by decide)) pa_nil (by rfl)) (by rfl))))))),?_⟩
 refine⟨_,rfl,_,rfl,_,rfl,a,_,rfl,.inl hS,_,_,rfl,_,_,rfl,rfl,?_,?_⟩
 ·split<;>lia
 refine⟨a,ns,_,rfl,hS,Int.emod_nonneg _ (by split<;>lia),fun x=>?_⟩
 refine⟨_,rfl,_,_,rfl,rfl,(by show (0:Int)<2147483629;decide),_,rfl,_,_,rfl,rfl,.inl ⟨by decide,by decide⟩,_,rfl,_,_,rfl,rfl,.inr ⟨by lia,by lia⟩,_,_,rfl,rfl,_,_,rfl,rfl,_,_,rfl,rfl,.inr ⟨by decide,by decide⟩,_,_,rfl,rfl,(by show (0:Int)<2147483647;decide),?_⟩
 have g0:=Int.emod_nonneg ((x%2147483629+7919*k*k+11)*48271) (show (2147483647:Int)≠0 by decide)
 have g1:=Int.emod_lt_of_pos ((x%2147483629+7919*k*k+11)*48271) (show (0:Int)<2147483647 by decide)
 refine⟨_,rfl,_,rfl,_,rfl,_,rfl,_,_,rfl,rfl,⟨by decide,by decide,by decide⟩,_,_,rfl,rfl,.inr ⟨_,rfl,_,_,rfl,rfl,.inr ?_,?_⟩⟩
 ·have c:∀ b:Bool,-2 ^ 64<(if b=true then (1:Int) else 0)∧(if b=true then (1:Int) else 0)<2 ^ 64:=by decide
  exact c _
 refine⟨48,2000,rfl,rfl,by decide,by decide,fun z hz=>?_⟩
 obtain⟨d1,d2,d3⟩:=zf8 hz
 have zl:z.length=2000:=by
  have:=congrArg List.length hz
  rw[Array.length_toList,List.length_replicate]at this
  exact this
 refine⟨_,_,rfl,rfl,by rw[zl];decide,_,rfl,d1,by lia,by lia,_,_,rfl,rfl,by lia,_,rfl,(by show 2≤sizeLine;decide),fun l hl=>?_⟩
 exact q l _ hl (zaa hl _) ⟨_,_,zab,Int.emod_nonneg _ (by lia),g0,by lia⟩
end
end K98
namespace L2
open PySem PySem.Spec PyProof.Rows Own
section
variable {X:Cx}
theorem ps_dead {st:Stmt}:PS X st (fun _ _ _=>False):=fun _ _ _ _ _ _ h=>h.elim
end
def AnyT (K:PySem.W.Frag) (H:Hp) (x:V):Prop:=∃ T,TyOf K H x T∧∃ t:String,T=.type t
def zjl:V→Bool
 | .int _=>true
 | _=>false
def zgM (b:Int):V→Bool
 | .int i=>decide (0≤i) && decide (i<b)
 | _=>false
def zcU (H:Hp):V→Option (List V)
 | .ref a=>match H a with
  | some (.tup xs)=>some xs
  | _=>none
 | _=>none
structure Isi (K:PySem.W.Frag) (H:Hp) (x:V) (t:Value):Prop where
 ty:TyOf K H x t
 int:PySem.W.kitOne K t (.type "int")=some (match x with|.int _=>true|.bl _=>true|_=>false)
 bool:PySem.W.kitOne K t (.type "bool")=some (match x with|.bl _=>true|_=>false)
 str:PySem.W.kitOne K t (.type "str")=some (match x with|.str _=>true|_=>false)
 tup:PySem.W.kitOne K t (.type "tuple")=some (zcU H x).isSome
theorem zjZ {K:PySem.W.Frag}{H:Hp}{x:V}{T:Value}(h:TyOf K H x T) (et:∃ t,T=.type t):Isi K H x T:=by
 cases h with
 | ins e _ _ _ _ _=>obtain⟨t,et⟩:=et;cases et
 | lst e=>exact⟨.lst e,rfl,rfl,rfl,by simp only[zcU,e];rfl⟩
 | frz e=>exact⟨.frz e,rfl,rfl,rfl,by simp only[zcU,e];rfl⟩
 | tup e=>exact⟨.tup e,rfl,rfl,rfl,by simp only[zcU,e];rfl⟩
 | dK e=>exact⟨.dK e,rfl,rfl,rfl,by simp only[zcU,e];rfl⟩
 | dT e=>exact⟨.dT e,rfl,rfl,rfl,by simp only[zcU,e];rfl⟩
 | non=>exact⟨.non,rfl,rfl,rfl,rfl⟩
 | bl b=>exact⟨.bl b,rfl,rfl,rfl,rfl⟩
 | int i=>exact⟨.int i,rfl,rfl,rfl,rfl⟩
 | str x=>exact⟨.str x,rfl,rfl,rfl,rfl⟩
 | flt x=>exact⟨.flt x,rfl,rfl,rfl,rfl⟩
theorem AnyT.isi {K:PySem.W.Frag}{H:Hp}{x:V}(h:AnyT K H x):∃ t,Isi K H x t :=
 let ⟨T,h,et⟩:=h
 ⟨T,zjZ h et⟩
end L2
namespace K98
open PySem L2 Own Bn
abbrev zfy:Stmt:=top 2
abbrev zfF:Stmt:=top 3
def zds (K:PySem.W.Frag):Sp:=fun vs H Q _=>∃ x,vs=[x]∧AnyT K H x∧Q (.bl (zjl x)) H
def zcn (K:PySem.W.Frag):Sp:=fun vs H Q _=>∃ x b,vs=[x,.int b]∧AnyT K H x∧Q (.bl (zgM b x)) H
section
variable {P:Program}{w:World}{K:PySem.W.Frag}{mg:Str→Option Value}{base:Heap}
theorem scKw:FnScope ["thing"] ["thing"] (zae zfy):=⟨rfl,rfl,rfl,by decide +kernel,rfl,by decide +kernel,by decide +kernel⟩
theorem zha {f:Addr}{fd:FuncData}(F:Fun K "is_whole" "is_whole" zfy f fd) (G:Mgs mg):FnOk P w K mg base CX0 1 f fd ["thing"] (zds K):=by
 refine F.ok scKw (fun vs H Q E h=>?_) (fun cdv A outer s H vs Q E hr h=>?_)
 ·obtain⟨x,rfl,_⟩:=h
  rfl
 obtain⟨x,rfl,ax,k⟩:=h
 refine⟨_,(@pss_one _ _ _ (@ps_ret _ _ _ _ (@zhU _ _ _ _ _ _ _ (@pe_callB _ _ _ _ _ _ _ _ _ zcJ (by rfl) G.isi (by rfl) (@pa_cons _ _ _ _ _ (@pv _ 0 _ _ (by rfl) (by first|exact Or.inl rfl|exact Or.inr (.inl rfl)|exact Or.inr (.inr rfl)) (by decide) (by decide)) (@pa_cons _ _ _ _ _ (@zdF _ _ (.ty "int") (.type "int") _ (by rfl) G.int (by rfl) rfl (by decide) (by decide)) pa_nil (by rfl)) (by rfl)) (by decide) (by decide) (by rfl) (by rfl)) (@zhS _ _ _ _ _ (@zjJ _ _ _ _ (@pe_callB _ _ _ _ _ _ _ _ _ zcJ (by rfl) G.isi (by rfl) (@pa_cons _ _ _ _ _ (@pv _ 0 _ _ (by rfl) (by first|exact Or.inl rfl|exact Or.inr (.inl rfl)|exact Or.inr (.inr rfl)) (by decide) (by decide)) (@pa_cons _ _ _ _ _ (@zdF _ _ (.ty "bool") (.type "bool") _ (by rfl) G.bool (by rfl) rfl (by decide) (by decide)) pa_nil (by rfl)) (by rfl)) (by decide) (by decide) (by rfl) (by rfl))))))),?_⟩
 obtain⟨t,I⟩:=ax.isi
 refine⟨_,rfl,_,"int",_,_,rfl,I.ty,I.int,_,rfl,?_⟩
 cases x with
 | int i=>exact iteT ⟨_,rfl,_,"bool",_,_,rfl,I.ty,I.bool,_,rfl,k⟩
 | bl b=>exact iteT ⟨_,rfl,_,"bool",_,_,rfl,I.ty,I.bool,_,rfl,k⟩
 | non=>exact iteF k
 | str z=>exact iteF k
 | flt z=>exact iteF k
 | byt z=>exact iteF k
 | ref z=>exact iteF k
 | ty z=>exact iteF k
theorem scKb:FnScope ["thing","bound"] ["thing","bound"] (zae zfF):=⟨rfl,rfl,rfl,by decide +kernel,rfl,by decide +kernel,by decide +kernel⟩
theorem zhh {f fW:Addr}{fd dW:FuncData}(F:Fun K "is_below" "is_below" zfF f fd) (G:Mgs mg) (UW:Use P w K mg base "is_whole" ["thing"] 1 (zds K) fW dW):FnOk P w K mg base CX0 2 f fd ["thing","bound"] (zcn K):=by
 refine F.ok scKb (fun vs H Q E h=>?_) (fun cdv A outer s H vs Q E hr h=>?_)
 ·obtain⟨x,b,rfl,_⟩:=h
  rfl
 obtain⟨x,b,rfl,ax,k⟩:=h
 refine⟨_,(@pss_one _ _ _ (@ps_ret _ _ _ _ (@zhU _ _ _ _ _ _ _ (@pe_call _ _ _ _ _ _ _ _ _ _ _ _ _ _ _ _ UW.ok hr (by rfl) UW.m UW.kp UW.b .nil pass0 (@pa_cons _ _ _ _ _ (@pv _ 0 _ _ (by rfl) (by first|exact Or.inl rfl|exact Or.inr (.inl rfl)|exact Or.inr (.inr rfl)) (by decide) (by decide)) pa_nil (by rfl)) (by decide) (by rfl) (by rfl)) (@zhS _ _ _ _ _ (@zg5 _ _ _ _ _ _ _ _ _ _ _ _ zkt zc2 pe_int (@pv _ 0 _ _ (by rfl) (by first|exact Or.inl rfl|exact Or.inr (.inl rfl)|exact Or.inr (.inr rfl)) (by decide) (by decide)) (@pv _ 1 _ _ (by rfl) (by first|exact Or.inl rfl|exact Or.inr (.inl rfl)|exact Or.inr (.inr rfl)) (by decide) (by decide)) (by with_unfolding_all rfl)))))),?_⟩
 refine⟨_,rfl,_,rfl,ax,_,rfl,?_⟩
 cases x with
 | int i =>
  refine iteT ⟨_,rfl,_,_,rfl,rfl,_,rfl,?_⟩
  have e:zgM b (.int i)=(decide (0≤i) && decide (i<b)):=rfl
  rw[e]at k
  by_cases z:(0:Int)≤i
  ·rw[decide_eq_true z]at k ⊢
   exact iteT ⟨_,rfl,_,_,rfl,rfl,k⟩
  ·rw[decide_eq_false z]at k ⊢
   exact iteF k
 | bl z=>exact iteF k
 | non=>exact iteF k
 | str z=>exact iteF k
 | flt z=>exact iteF k
 | byt z=>exact iteF k
 | ref z=>exact iteF k
 | ty z=>exact iteF k
end
end K98
namespace Bn
open PySem L2 Own
theorem zcC (k:Nat):∀ es:List Nat,(es.map fun (e:Nat)=>(e:Int)).idxOf (k:Int)=es.idxOf k
 | []=>rfl
 | e::es=>by
  rw[List.map_cons,List.idxOf_cons,List.idxOf_cons,zcC k es]
  have:((e:Int) == (k:Int))=(e == k):=by
   rw[Bool.eq_iff_iff,beq_iff_eq];rw[beq_iff_eq];lia
  rw[this]
theorem zej (es:List Nat):nums es=(es.map fun (e:Nat)=>(e:Int)).map V.int:=by unfold nums;rw[List.map_map];rfl
def zik:Sp:=fun vs H Q _=>∃ r fr er ps N,∃ lane:Nat,vs=[.ref r,.int lane]∧Nt.Ok N∧NetAt H r fr er ps N∧lane<N.lanes∧Q (.int (N.ends.idxOf lane:Nat)) H
end Bn
namespace K98
open PySem L2 Own Bn
abbrev sEnd:Stmt:=top 11
section
variable {P:Program}{w:World}{K:PySem.W.Frag}{mg:Str→Option Value}{base:Heap}
theorem scD:FnScope ["net","lane"] ["net","lane"] (zae sEnd):=⟨rfl,rfl,rfl,by decide +kernel,rfl,by decide +kernel,by decide +kernel⟩
theorem zjO {f:Addr}{fd:FuncData}(F:Fun K "end_of" "end_of" sEnd f fd):FnOk P w K mg base CX0 1 f fd ["net","lane"] zik:=by
 refine F.ok scD (fun vs H Q E h=>?_) (fun cdv A outer s H vs Q E hr h=>?_)
 ·obtain⟨r,fr,er,ps,N,lane,rfl,_⟩:=h
  rfl
 obtain⟨r,fr,er,ps,N,lane,rfl,ok,na,hl,k⟩:=h
 refine⟨_,(@pss_one _ _ _ (@ps_ret _ _ _ _ (@pe_tidx _ _ _ _ _ _ _ hr.units (@pe_ix _ _ _ _ _ _ _ ix_tup (@pv _ 0 _ _ (by rfl) (by first|exact Or.inl rfl|exact Or.inr (.inl rfl)|exact Or.inr (.inr rfl)) (by decide) (by decide)) pe_int (fun _ _=>rfl)) (@pa_cons _ _ _ _ _ (@pv _ 1 _ _ (by rfl) (by first|exact Or.inl rfl|exact Or.inr (.inl rfl)|exact Or.inr (.inr rfl)) (by decide) (by decide)) pa_nil (by rfl)) (by rfl) (by rfl) (by rfl) (by rfl)))),?_⟩
 have he:=na.ends
 rw[zej]at he
 refine⟨_,rfl,r,_,_,_,rfl,rfl,SqT.of na.net,rfl,er,_,rfl,he,_,rfl,(lane:Int),rfl,he,?_,?_⟩
 ·exact List.mem_map.mpr ⟨lane,ok.en.mem_iff.mpr (List.mem_range.mpr hl),rfl⟩
 ·rw[zcC];exact k
end
end K98
namespace Bn
open PySem L2 Own
theorem zkE (h a b:Nat):inV (V.int h) [V.int a,V.int b]=decide (h=a∨h=b):=by
 by_cases e1:h=a
 ·subst e1;simp[inV,eqV]
 ·by_cases e2:h=b
  ·subst e2;simp[inV,eqV]
  ·have n1:¬((h:Int)=a):=by lia
   have n2:¬((h:Int)=b):=by lia
   simp[inV,eqV,e1,e2];lia
structure IsNext (fs:List (Nat × Nat)) (lane n k:Nat):Prop where
 from_:n≤k
 upto:k≤fs.length
 none:∀ j g,n≤j→j<k→fs[j]?=some g→¬(lane=g.1∨lane=g.2)
 here:∀ g,fs[k]?=some g→lane=g.1∨lane=g.2
theorem IsNext.one {fs:List (Nat × Nat)}{lane n k m:Nat}(h:IsNext fs lane n k) (g:IsNext fs lane n m):k=m:=by
 have go:∀ k m,IsNext fs lane n k→IsNext fs lane n m→¬ k<m:=fun k m h g z=>by
  have kl:k<fs.length:=Nat.lt_of_lt_of_le z g.upto
  exact g.none k fs[k] h.from_ z (List.getElem?_eq_getElem kl) (h.here _ (List.getElem?_eq_getElem kl))
 have a:=go k m h g
 have b:=go m k g h
 lia
structure Grp where
 many:Int
 lane:Nat
 fork:Nat
end Bn
namespace K98
open PySem L2 Own Bn
abbrev ziw:Stmt:=top 10
def zd8:Sp:=fun vs H Q _=>∃ r fr er ps N,∃ lane n:Nat,vs=[.ref r,.int lane,.int n]∧Nt.Ok N∧NetAt H r fr er ps N∧n≤N.forks.length∧∀ k:Nat,IsNext N.forks lane n k→Q (.int k) H
section
variable {P:Program}{w:World}{K:PySem.W.Frag}{mg:Str→Option Value}{base:Heap}
theorem scNx:FnScope ["net","lane","number","forks"] ["net","lane","number"] (zae ziw):=⟨rfl,rfl,rfl,by decide +kernel,rfl,by decide +kernel,by decide +kernel⟩
theorem ziP {f:Addr}{fd:FuncData}(F:Fun K "next_fork" "next_fork" ziw f fd) (G:Mgs mg):FnOk P w K mg base CX0 1 f fd ["net","lane","number"] zd8:=by
 refine F.ok scNx (fun vs H Q E h=>?_) (fun cdv A outer s H vs Q E hr h=>?_)
 ·obtain⟨r,fr,er,ps,N,lane,n,rfl,_⟩:=h
  rfl
 obtain⟨r,fr,er,ps,N,lane,n,rfl,ok,na,nl,k⟩:=h
 refine⟨_,(@pss_cons _ _ _ _ _ (@ps_set _ _ 3 _ _ _ _ scNx.nd rfl (.inl rfl) (@pe_ix _ _ _ _ _ _ _ ix_tup (@pv _ 0 _ _ (by rfl) (by first|exact Or.inl rfl|exact Or.inr (.inl rfl)|exact Or.inr (.inr rfl)) (by decide) (by decide)) pe_int (fun _ _=>rfl)) (by rfl) (by first|exact .inl rfl|exact .inr rfl|assumption)) (@pss_cons _ _ _ _ _ (@ps_while _ _ _ _ _ _ PassesOwn.never (@zed _ _ _ _ _ _ _ (@pt_cmpR _ _ _ _ _ _ _ _ zc2 (@pv _ 2 _ _ (by rfl) (by first|exact Or.inl rfl|exact Or.inr (.inl rfl)|exact Or.inr (.inr rfl)) (by decide) (by decide)) (@pe_callB _ _ _ _ _ _ _ _ _ call_len_seq (by rfl) G.len PySem.boot_len (@pa_cons _ _ _ _ _ (@pv _ 3 _ _ (by rfl) (by first|exact Or.inl rfl|exact Or.inr (.inl rfl)|exact Or.inr (.inr rfl)) (by decide) (by decide)) pa_nil (by rfl)) (by decide) (by decide) (by rfl) (by rfl)) (nomark _)) (@zcu _ _ _ _ (@pt_cmpR _ _ _ _ _ _ _ _ zc1 (@pv _ 1 _ _ (by rfl) (by first|exact Or.inl rfl|exact Or.inr (.inl rfl)|exact Or.inr (.inr rfl)) (by decide) (by decide)) (@pe_ix _ _ _ _ _ _ _ ix_tup (@pv _ 3 _ _ (by rfl) (by first|exact Or.inl rfl|exact Or.inr (.inl rfl)|exact Or.inr (.inr rfl)) (by decide) (by decide)) (@pv _ 2 _ _ (by rfl) (by first|exact Or.inl rfl|exact Or.inr (.inl rfl)|exact Or.inr (.inr rfl)) (by decide) (by decide)) (fun _ _=>rfl)) (by rfl)))).pt (@pss_one _ _ _ (@zhQ _ _ 2 _ _ _ _ _ _ scNx.nd rfl (.inl rfl) pe_int zgm (by first|exact .inl rfl|exact .inr rfl|assumption)))) (@pss_one _ _ _ (@ps_ret _ _ _ _ (@pv _ 2 _ _ (by rfl) (by first|exact Or.inl rfl|exact Or.inr (.inl rfl)|exact Or.inr (.inr rfl)) (by decide) (by decide)))))),?_⟩
 have pl:=na.prs.len
 have fm:=ok.fm
 refine⟨_,rfl,r,_,_,_,rfl,rfl,SqT.of na.net,rfl,?_⟩
 refine⟨fun m σ H1=>H1=H∧∃ q:Nat,σ=[some (.ref r),some (.int lane),some (.int q),some (.ref fr)]∧n≤q∧q≤N.forks.length∧m=N.forks.length-q∧∀ j g,n≤j→j<q→N.forks[j]?=some g→¬(lane=g.1∨lane=g.2),
  ⟨_,rfl,n,rfl,Nat.le_refl _,nl,rfl,fun j g h1 h2=>by lia⟩,?_⟩
 rintro m σ H1 ⟨rfl,q,rfl,nq,ql,em,hno⟩
 refine⟨_,rfl,_,rfl,fr,_,rfl,.inr (SqT.of na.forks),_,_,rfl,rfl,_,rfl,?_⟩
 by_cases z:q<N.forks.length
 ·rw[decide_eq_true (show (q:Int)<ps.length by lia)]
  obtain⟨a,g,ex,eg,ha⟩:=na.prs.get (i:=q) (List.getElem?_eq_getElem (show q<ps.length by lia))
  have hat:atI ps ((q:Nat):Int)=some (.ref a):=zah (by rw[List.getElem?_eq_getElem (show q<ps.length by lia),ex])
  refine iteT ⟨_,rfl,_,rfl,_,rfl,fr,_,_,_,rfl,rfl,SqT.of na.forks,hat,a,_,rfl,.inr (SqT.of ha),rfl,rfl,_,rfl,?_⟩
  show if (if true=true then !inV (V.int (lane:Nat)) [V.int (g.1:Nat),V.int (g.2:Nat)] else inV (V.int (lane:Nat)) [V.int (g.1:Nat),V.int (g.2:Nat)])=true then _ else _
  rw[if_pos rfl,zkE]
  by_cases on:lane=g.1∨lane=g.2
  ·rw[decide_eq_true on]
   refine iteF ⟨_,rfl,k q ⟨nq,ql,hno,fun g' eg'=>?_⟩⟩
   rw[eg]at eg';obtain rfl:=Option.some.inj eg';exact on
  ·rw[decide_eq_false on]
   refine iteT ⟨_,fun σ' H' hN=>⟨m-1,by lia,hN⟩,?_⟩
   refine⟨_,rfl,_,_,rfl,rfl,rfl,q+1,rfl,by lia,by lia,by lia,fun j g' h1 h2 h3=>?_⟩
   by_cases e:j=q
   ·subst e;rw[eg]at h3;obtain rfl:=Option.some.inj h3;exact on
   ·exact hno j g' h1 (by lia) h3
 ·rw[decide_eq_false (show ¬(q:Int)<ps.length by lia)]
  refine iteF (iteF ⟨_,rfl,k q ⟨nq,ql,hno,fun g' eg'=>?_⟩⟩)
  have:=(List.getElem?_eq_some_iff.mp eg').1
  lia
end
end K98
namespace Ts
open PySem PyProof.Rows
structure Cmp (prog:Program) (w:World) (A:Around) (s:Shared) (κ:SortKind) (P:Keyed→Prop) (rk:Keyed→Int):Prop where
 ask:∀ (x y:Keyed),P x→P y→∀ {Q:Bool→Shared→Prop}{E:Value→Shared→Prop},Q (decide (rk x<rk y)) s→wpAny (model prog w) A (keyLt' κ x.1 y.1) Q E s
def R (rk:Keyed→Int) (xs:Array Keyed) (i:Nat):Int:=match xs[i]? with
 | some p=>rk p
 | none=>0
theorem R_congr {rk:Keyed→Int}{xs ys:Array Keyed}{i j:Nat}(h:xs[i]?=ys[j]?):R rk xs i=R rk ys j:=by unfold R;rw[h]
def Up (rk:Keyed→Int) (xs:Array Keyed) (lo n:Nat):Prop:=∀ i j,lo≤i→i≤j→j<lo+n→R rk xs i≤R rk xs j
def Dn (rk:Keyed→Int) (xs:Array Keyed) (lo n:Nat):Prop:=∀ i j,lo≤i→i≤j→j<lo+n→R rk xs j≤R rk xs i
structure Bs (κ:SortKind) (P:Keyed→Prop) (a₀:Array Keyed) (st:SortSt):Prop where
 kind:kindOf st=κ
 fail:failedOf st=none
 perm:(arrOf st).Perm a₀
 all:∀ p∈a₀.toList,P p
theorem Bs.size {κ:SortKind}{P:Keyed→Prop}{a₀:Array Keyed}{st:SortSt}(h:Bs κ P a₀ st):(arrOf st).size=a₀.size:=h.perm.size_eq
theorem Bs.at {κ:SortKind}{P:Keyed→Prop}{a₀:Array Keyed}{st:SortSt}(h:Bs κ P a₀ st) {i:Nat}(hi:i<a₀.size) (rk:Keyed→Int):∃ p,(arrOf st)[i]?=some p∧P p∧R rk (arrOf st) i=rk p:=by
 have e:(arrOf st)[i]?=some ((arrOf st)[i]'(by rw[h.size];exact hi)):=getElem?_pos (arrOf st) i (by rw[h.size];exact hi)
 refine⟨_,e,h.all _ ((Array.perm_iff_toList_perm.mp h.perm).mem_iff.mp (by simp)),?_⟩
 unfold R;rw[e]
theorem Bs.arr {κ:SortKind}{P:Keyed→Prop}{a₀:Array Keyed}{st:SortSt}(h:Bs κ P a₀ st) {xs:Array Keyed}(hp:xs.Perm (arrOf st)):Bs κ P a₀ (setArr st xs):=⟨h.kind,h.fail,hp.trans h.perm,h.all⟩
section
variable {prog:Program}{w:World}{A:Around}{E:Value→Shared→Prop}{s:Shared}{κ:SortKind}{P:Keyed→Prop}{rk:Keyed→Int}{a₀:Array Keyed}
theorem zkA (C:Cmp prog w A s κ P rk) {st:SortSt}{x y:Keyed}{Q:Option Bool→SortSt→Prop}(hk:kindOf st=κ) (px:P x) (py:P y) (h:Q (some (decide (rk x<rk y))) st):wpS (model prog w) A E s (lt' x y) Q st:=by
 rw[lt'_eq]
 refine wpS_bind (wpS_get (wpS_bind (wpS_lift (wpAny_attempt ?_))))
 rw[hk]
 exact C.ask x y px py ⟨rfl,wpS_pure h⟩
theorem zfG {r:String}{st:SortSt}{Q:Unit→SortSt→Prop}(h:Q () st):wpS (model prog w) A E s (liftM (rule r):StateT SortSt Sem Unit) Q st:=wpS_lift (wpAny_rule ⟨rfl,h⟩)
theorem zgu {st:SortSt}{arr:Array Keyed}{i:Nat}{p:Keyed}{Q:Keyed→SortSt→Prop}(e:arr[i]?=some p) (h:Q p st):wpS (model prog w) A E s (elem' arr i) Q st:=by
 rw[elem'_eq,e];exact wpS_pure h
theorem zf6 (C:Cmp prog w A s κ P rk) {st:SortSt}{i j:Nat}{Q:Option Bool→SortSt→Prop}(hB:Bs κ P a₀ st) (hi:i<a₀.size) (hj:j<a₀.size) (h:Q (some (decide (R rk (arrOf st) i<R rk (arrOf st) j))) st):wpS (model prog w) A E s (ltAt' i j) Q st:=by
 obtain⟨p,e1,pp,r1⟩:=hB.at hi rk
 obtain⟨q,e2,pq,r2⟩:=hB.at hj rk
 rw[r1,r2]at h
 rw[ltAt'_eq]
 exact wpS_bind (wpS_get (wpS_bind (zgu e1 (wpS_bind (zgu e2 (zkA C hB.kind pp pq h))))))
structure Keep (κ:SortKind) (P:Keyed→Prop) (rk:Keyed→Int) (a₀:Array Keyed) (lo:Nat) (st st':SortSt):Prop where
 b:Bs κ P a₀ st'
 pend:pendingOf st'=pendingOf st
 low:∀ k,k<lo→R rk (arrOf st') k=R rk (arrOf st) k
theorem Keep.refl {lo:Nat}{st:SortSt}(h:Bs κ P a₀ st):Keep κ P rk a₀ lo st st:=⟨h,rfl,fun _ _=>rfl⟩
theorem Keep.trans {lo:Nat}{st st1 st2:SortSt}(h:Keep κ P rk a₀ lo st st1) (g:Keep κ P rk a₀ lo st1 st2):Keep κ P rk a₀ lo st st2:=⟨g.b,g.pend.trans h.pend,fun k hk=>(g.low k hk).trans (h.low k hk)⟩
theorem R_mirror {xs:Array Keyed}{i j:Nat}(hj:j≤xs.size) (k:Nat):R rk (mirror xs i j ((j-i) / 2)) k=if i≤k∧k<j then R rk xs (i+j-1-k) else R rk xs k:=by
 have e:=getElem?_mirror_all (xs:=xs) (i:=i) hj k
 split at e
 ·next h=>rw[if_pos h];exact R_congr e
 ·next h=>rw[if_neg h];exact R_congr e
theorem zea {lo i j:Nat}{st:SortSt}{Q:Unit→SortSt→Prop}(hB:Bs κ P a₀ st) (hl:lo≤i) (hj:j≤a₀.size)
  (h:∀ st',Keep κ P rk a₀ lo st st'→(∀ k,R rk (arrOf st') k=if i≤k∧k<j then R rk (arrOf st) (i+j-1-k) else R rk (arrOf st) k)→Q () st'):wpS (model prog w) A E s (reverseSlice' i j) Q st:=by
 rw[reverseSlice'_eq]
 refine wpS_modify (h _ ⟨hB.arr (mirror_perm _ _ _ _),rfl,fun k hk=>?_⟩ fun k=>?_)
 ·show R rk (mirror (arrOf st) i j ((j-i) / 2)) k=_
  rw[R_mirror (by rw[hB.size];exact hj),if_neg (by lia)]
 ·exact R_mirror (by rw[hB.size];exact hj) k
theorem zhF (C:Cmp prog w A s κ P rk) {st:SortSt}{lo nrem:Nat}{Q:Option Nat→SortSt→Prop}(hB:Bs κ P a₀ st) (h1:1≤nrem) (hn:lo+nrem≤a₀.size)
  (h:∀ st' m,Keep κ P rk a₀ lo st st'→1≤m→m≤nrem→Up rk (arrOf st') lo m→Q (some m) st'):wpS (model prog w) A E s (countRun' lo nrem) Q st:=by
 have asc:∀ (st:SortSt) (n0:Nat) {Q':Option (Option Nat) × Nat→SortSt→Prop},Bs κ P a₀ st→1≤n0→Up rk (arrOf st) lo n0 →
   (∀ n,n0≤n→n≤max n0 nrem→Up rk (arrOf st) lo n→(n<nrem→R rk (arrOf st) (lo+n)<R rk (arrOf st) (lo+n-1))→Q' (none,n) st)→
   ∀ f:Nat→Option (Option Nat) × Nat→StateT SortSt Sem (ForInStep (Option (Option Nat) × Nat)),(∀ i n,f i (none,n)=(do
    let some smaller ← ltAt' (lo+n) (lo+n-1)|pure (.done (some none,n))
    if smaller then pure (.done (none,n)) else pure (.yield (none,n+1))))→wpS (model prog w) A E s (forIn [n0:nrem] (none,n0) f) Q' st:=by
  intro st n0 Q' hB h0 hu hq f hf
  refine wpS_forRange (I:=fun i c st'=>st'=st∧c=(none,i)∧n0≤i∧Up rk (arrOf st) lo i) ?_ ?_ ⟨rfl,rfl,Nat.le_refl _,hu⟩
  ·rintro i c st' hi hi2 ⟨rfl,rfl,h3,hu'⟩
   rw[hf]
   refine wpS_bind (zf6 C hB (by lia) (by lia) ?_)
   by_cases z:R rk (arrOf st') (lo+i)<R rk (arrOf st') (lo+i-1)
   ·rw[decide_eq_true z]
    exact wpS_pure (hq i h3 (by lia) hu' fun _=>z)
   ·rw[decide_eq_false z]
    refine wpS_pure ⟨rfl,rfl,by lia,fun a b ha hab hb=>?_⟩
    by_cases q:b<lo+i
    ·exact hu' a b ha hab q
    ·obtain rfl:b=lo+i:=by lia
     by_cases q2:a=lo+i
     ·rw[q2];exact Int.le_refl _
     ·have:=hu' a (lo+i-1) ha (by lia) (by lia)
      lia
  ·rintro c st' ⟨rfl,rfl,h3,hu'⟩
   exact hq _ h3 (Nat.le_refl _) hu' fun q=>by lia
 rw[countRun'_eq]
 refine wpS_bind (asc st 1 hB (Nat.le_refl _) (fun a b h1 h2 h3=>by rw[show a=b by lia];exact Int.le_refl _) (fun n n1 n2 hu hs=>?_) _ (fun i n=>rfl))
 dsimp only
 by_cases z:n=nrem
 ·subst z
  rw[if_pos (beq_self_eq_true _)]
  exact wpS_pure (h _ _ (Keep.refl hB) n1 (Nat.le_refl _) hu)
 rw[if_neg (by simpa using z)]
 have nl:n<nrem:=by lia
 have hs:=hs nl
 generalize hT:(bind (liftM (rule "list.sort.descending-run")) _:StateT SortSt Sem (Option Nat))=T
 have tail:∀ st1,Keep κ P rk a₀ lo st st1→Dn rk (arrOf st1) lo n→R rk (arrOf st1) (lo+n)<R rk (arrOf st1) (lo+n-1)→wpS (model prog w) A E s T Q st1:=by
  intro st1 K1 d1 l1
  rw[← hT]
  refine wpS_bind (zfG ?_)
  have last:∀ st2 m,Keep κ P rk a₀ lo st st2→1≤m→m≤nrem→Dn rk (arrOf st2) lo m→∀ st3,Keep κ P rk a₀ lo st2 st3→(∀ k,R rk (arrOf st3) k=if lo≤k∧k<lo+m then R rk (arrOf st2) (lo+(lo+m)-1-k) else R rk (arrOf st2) k)→Up rk (arrOf st3) lo m:=by
   intro st2 m K2 m1 m2 d2 st3 K3 r3 a b ha hab hb
   rw[r3,r3,if_pos ⟨by lia,by lia⟩,if_pos ⟨by lia,by lia⟩]
   exact d2 _ _ (by lia) (by lia) (by lia)
  refine wpS_bind (wpS_mono (wpS_forRange (I:=fun i c st2=>∃ m q,c=(none,m,q)∧m=i∧q+1≤m∧Keep κ P rk a₀ lo st st2∧(i≤nrem→Dn rk (arrOf st2) lo m∧∀ k,lo+m-(q+1)≤k→k<lo+m→R rk (arrOf st2) k=R rk (arrOf st2) (lo+m-1)))
   (Q:=fun c st2=>∃ m q,c=(none,m,q)∧1≤m∧m≤nrem∧q+1≤m∧Keep κ P rk a₀ lo st st2∧Dn rk (arrOf st2) lo m∧∀ k,lo+m-(q+1)≤k→k<lo+m→R rk (arrOf st2) k=R rk (arrOf st2) (lo+m-1)) ?step ?fin ?init) ?post)
  case init =>
   refine⟨n+1,0,rfl,rfl,by lia,K1,fun _=>⟨fun a b ha hab hb=>?_,fun k k1 k2=>by rw[show k=lo+(n+1)-1 by lia]⟩⟩
   by_cases q:b<lo+n
   ·exact d1 a b ha hab q
   ·obtain rfl:b=lo+n:=by lia
    by_cases q2:a=lo+n
    ·rw[q2];exact Int.le_refl _
    ·have:=d1 a (lo+n-1) ha (by lia) (by lia)
     lia
  case fin =>
   rintro c st2 ⟨m,q,rfl,e,hq,K2,hd⟩
   obtain⟨d2,eq2⟩:=hd (by lia)
   exact⟨m,q,rfl,by lia,by lia,hq,K2,d2,eq2⟩
  case step =>
   rintro i c st2 hi hi2 ⟨m,q,rfl,rfl,hq,K2,hd⟩
   obtain⟨d2,eq2⟩:=hd (by lia)
   dsimp only
   refine wpS_bind (zf6 C K2.b (by lia) (by lia) ?_)
   have more:∀ st3,Dn rk (arrOf st3) lo m→R rk (arrOf st3) (lo+m)≤R rk (arrOf st3) (lo+m-1)→Dn rk (arrOf st3) lo (m+1):=by
    intro st3 d3 le a b ha hab hb
    by_cases q:b<lo+m
    ·exact d3 a b ha hab q
    ·obtain rfl:b=lo+m:=by lia
     by_cases q2:a=lo+m
     ·rw[q2];exact Int.le_refl _
     ·have:=d3 a (lo+m-1) ha (by lia) (by lia)
      lia
   by_cases z1:R rk (arrOf st2) (lo+m)<R rk (arrOf st2) (lo+m-1)
   ·rw[decide_eq_true z1]
    dsimp only
    rw[if_pos rfl]
    by_cases zq:q > 0
    ·rw[if_pos zq]
     refine wpS_bind (zea (rk:=rk) (lo:=lo) K2.b (by lia) (by lia) fun st3 K3 r3=>wpS_pure ?_)
     have same:∀ k,R rk (arrOf st3) k=R rk (arrOf st2) k:=fun k=>by
      rw[r3]
      split
      ·rw[eq2 _ (by lia) (by lia),eq2 k (by lia) (by lia)]
      ·rfl
     refine⟨m+1,0,rfl,rfl,by lia,K2.trans K3,fun _=>⟨more st3 (fun a b ha hab hb=>by rw[same,same];exact d2 a b ha hab hb) (by rw[same,same];lia),fun k k1 k2=>by rw[show k=lo+(m+1)-1 by lia]⟩⟩
    ·rw[if_neg zq]
     exact wpS_pure ⟨m+1,0,rfl,rfl,by lia,K2,fun _=>⟨more st2 d2 (by lia),fun k k1 k2=>by rw[show k=lo+(m+1)-1 by lia]⟩⟩
   ·rw[decide_eq_false z1]
    dsimp only
    rw[if_neg Bool.false_ne_true]
    refine wpS_bind (zf6 C K2.b (by lia) (by lia) ?_)
    by_cases z2:R rk (arrOf st2) (lo+m-1)<R rk (arrOf st2) (lo+m)
    ·rw[decide_eq_true z2]
     dsimp only
     rw[if_pos rfl]
     exact wpS_pure ⟨m,q,rfl,by lia,by lia,hq,K2,d2,eq2⟩
    ·rw[decide_eq_false z2]
     dsimp only
     rw[if_neg Bool.false_ne_true]
     have e:R rk (arrOf st2) (lo+m)=R rk (arrOf st2) (lo+m-1):=by lia
     refine wpS_pure ⟨m+1,q+1,rfl,rfl,by lia,K2,fun _=>⟨more st2 d2 (by lia),fun k k1 k2=>?_⟩⟩
     rw[show lo+(m+1)-1=lo+m by lia]
     by_cases q3:k=lo+m
     ·rw[q3]
     ·rw[eq2 k (by lia) (by lia),e]
  case post =>
   rintro c st2 ⟨m,q,rfl,m1,m2,hq,K2,d2,eq2⟩
   dsimp only
   generalize hT2:(bind (reverseSlice' lo (lo+m)) _:StateT SortSt Sem (Option Nat))=T2
   have on:∀ st3,Keep κ P rk a₀ lo st st3→Dn rk (arrOf st3) lo m→wpS (model prog w) A E s T2 Q st3:=by
    intro st3 K3 d3
    rw[← hT2]
    refine wpS_bind (zea (rk:=rk) (lo:=lo) K3.b (by lia) (by lia) fun st4 K4 r4=>?_)
    refine wpS_bind (asc st4 m K4.b m1 (last st3 m K3 m1 m2 d3 st4 K4 r4) (fun n' a1 a2 hu' _=>?_) _ (fun i n=>rfl))
    exact wpS_pure (h _ _ (K3.trans K4) (by lia) (by lia) hu')
   by_cases zq:q > 0
   ·rw[if_pos zq]
    refine wpS_bind (zea (rk:=rk) (lo:=lo) K2.b (by lia) (by lia) fun st3 K3 r3=>?_)
    have same:∀ k,R rk (arrOf st3) k=R rk (arrOf st2) k:=fun k=>by
     rw[r3]
     split
     ·rw[eq2 _ (by lia) (by lia),eq2 k (by lia) (by lia)]
     ·rfl
    exact on st3 (K2.trans K3) (fun a b ha hab hb=>by rw[same,same];exact d2 a b ha hab hb)
   ·rw[if_neg zq]
    exact on st2 K2 d2
 by_cases z2:n > 1
 ·rw[if_pos z2]
  refine wpS_bind (zf6 C hB (by lia) (by lia) ?_)
  by_cases z3:R rk (arrOf st) lo<R rk (arrOf st) (lo+n-1)
  ·rw[decide_eq_true z3]
   exact wpS_pure (h _ _ (Keep.refl hB) n1 (by lia) hu)
  ·rw[decide_eq_false z3]
   dsimp only
   rw[if_neg Bool.false_ne_true]
   refine wpS_bind (zea (rk:=rk) (lo:=lo) hB (by lia) (by lia) fun st1 K1 r1=>tail st1 K1 (fun a b ha hab hb=>?_) ?_)
   ·rw[r1,r1,if_pos ⟨by lia,by lia⟩,if_pos ⟨by lia,by lia⟩]
    exact hu _ _ (by lia) (by lia) (by lia)
   ·rw[r1,r1,if_neg (by lia),if_pos ⟨by lia,by lia⟩]
    have:=hu (lo+(lo+n)-1-(lo+n-1)) (lo+n-1) (by lia) (by lia) (by lia)
    have e:lo+(lo+n)-1-(lo+n-1)=lo:=by lia
    rw[e]at this ⊢
    have:=hu lo (lo+n-1) (by lia) (by lia) (by lia)
    lia
 ·rw[if_neg z2]
  exact tail st (Keep.refl hB) (fun a b ha hab hb=>by rw[show a=b by lia];exact Int.le_refl _) hs
end
section
variable {prog:Program}{w:World}{A:Around}{E:Value→Shared→Prop}{s:Shared}{κ:SortKind}{P:Keyed→Prop}{rk:Keyed→Int}{a₀:Array Keyed}
theorem R_bubble {xs:Array Keyed}{src d:Nat}(hs:src<xs.size) (hd:d≤src) (k:Nat):R rk (bubble xs src d) k=if k=src-d then R rk xs src else if src-d<k∧k≤src then R rk xs (k-1) else R rk xs k:=by
 have e:=getElem?_bubble (xs:=xs) hs d hd k
 by_cases h1:k=src-d
 ·rw[if_pos h1]at e ⊢;exact R_congr e
 ·rw[if_neg h1]at e ⊢
  by_cases h2:(src-d<k∧k≤src)
  ·rw[if_pos h2]at e ⊢;exact R_congr e
  ·rw[if_neg h2]at e ⊢;exact R_congr e
theorem zj8 (C:Cmp prog w A s κ P rk) {st:SortSt}{lo n ok:Nat}{Q:Bool→SortSt→Prop}(hB:Bs κ P a₀ st) (h1:1≤ok) (hok:ok≤n) (hn:lo+n≤a₀.size) (hu:Up rk (arrOf st) lo ok)
  (h:∀ st',Keep κ P rk a₀ lo st st'→Up rk (arrOf st') lo n→Q true st'):wpS (model prog w) A E s (binarySort' lo n ok) Q st:=by
 rw[binarySort'_eq]
 rw[show max ok 1=ok by lia]
 refine wpS_bind (wpS_mono (wpS_forRange (I:=fun k c st1=>c=(none,())∧Keep κ P rk a₀ lo st st1∧Up rk (arrOf st1) lo (min k n)) (Q:=fun c st1=>c=(none,())∧Keep κ P rk a₀ lo st st1∧Up rk (arrOf st1) lo n) ?step ?fin ?init) ?post)
 case init=>exact⟨rfl,Keep.refl hB,by rwa [Nat.min_eq_left hok]⟩
 case fin =>
  rintro c st1 ⟨rfl,K1,u1⟩
  rw[show min (max ok n) n=n by lia]at u1
  exact⟨rfl,K1,u1⟩
 case post =>
  rintro c st1 ⟨rfl,K1,u1⟩
  exact wpS_pure (h st1 K1 u1)
 case step =>
  rintro k c st1 hk1 hk2 ⟨rfl,K1,u1⟩
  rw[show min k n=k by lia]at u1
  refine wpS_bind (wpS_mono (wpS_forRange (I:=fun x c st2=>st2=st1∧∃ l r,c=(none,l,r)∧l≤r∧r≤k∧r-l≤k-x∧(∀ i,lo≤i→i<lo+l→R rk (arrOf st1) i≤R rk (arrOf st1) (lo+k))∧(∀ i,lo+r≤i→i<lo+k→R rk (arrOf st1) (lo+k)≤R rk (arrOf st1) i))
   (Q:=fun c st2=>st2=st1∧∃ l r,c=(none,l,r)∧l≤k∧(∀ i,lo≤i→i<lo+l→R rk (arrOf st1) i≤R rk (arrOf st1) (lo+k))∧(∀ i,lo+l≤i→i<lo+k→R rk (arrOf st1) (lo+k)≤R rk (arrOf st1) i)) ?istep ?ifin ?iinit) ?ipost)
  case iinit=>exact⟨rfl,0,k,rfl,by lia,by lia,by lia,fun i _ _=>by lia,fun i _ _=>by lia⟩
  case ifin =>
   rintro c st2 ⟨rfl,l,r,rfl,lr,rk',m,h2,h3⟩
   obtain rfl:l=r:=by lia
   exact⟨rfl,l,l,rfl,rk',h2,h3⟩
  case istep =>
   rintro x c st2 _ hx ⟨rfl,l,r,rfl,lr,rk',m,h2,h3⟩
   dsimp only
   by_cases ge:l≥r
   ·rw[if_pos ge]
    obtain rfl:l=r:=by lia
    exact wpS_pure ⟨rfl,l,l,rfl,rk',h2,h3⟩
   ·rw[if_neg ge]
    refine wpS_bind (zf6 C K1.b (by lia) (by lia) ?_)
    by_cases z:R rk (arrOf st2) (lo+k)<R rk (arrOf st2) (lo+(l+r) / 2)
    ·rw[decide_eq_true z]
     refine wpS_pure ⟨rfl,l,(l+r) / 2,rfl,by lia,by lia,by lia,h2,fun i i1 i2=>?_⟩
     have:=u1 (lo+(l+r) / 2) i (by lia) i1 (by lia)
     lia
    ·rw[decide_eq_false z]
     refine wpS_pure ⟨rfl,(l+r) / 2+1,r,rfl,by lia,by lia,by lia,fun i i1 i2=>?_,h3⟩
     have:=u1 i (lo+(l+r) / 2) i1 (by lia) (by lia)
     lia
  case ipost =>
   rintro c st2 ⟨rfl,l,r,rfl,lk,h2,h3⟩
   dsimp only
   rw[moveDown'_eq]
   have sz:=K1.b.size
   have rb:∀ j,R rk (arrOf (setArr st2 (bubble (arrOf st2) (lo+k) (lo+k-(lo+l))))) j=if j=lo+l then R rk (arrOf st2) (lo+k) else if lo+l<j∧j≤lo+k then R rk (arrOf st2) (j-1) else R rk (arrOf st2) j:=fun j=>by
    have:=R_bubble (rk:=rk) (xs:=arrOf st2) (src:=lo+k) (d:=lo+k-(lo+l)) (by rw[sz];lia) (by lia) j
    rw[show lo+k-(lo+k-(lo+l))=lo+l by lia]at this
    exact this
   refine wpS_bind (wpS_modify (wpS_pure ⟨rfl,K1.trans ⟨K1.b.arr (bubble_perm _ _ _),rfl,fun j hj=>?_⟩,fun i j hi hij hj=>?_⟩))
   ·rw[rb,if_neg (by lia),if_neg (by lia)]
   ·rw[show min (k+1) n=k+1 by lia]at hj
    rw[rb,rb]
    by_cases a1:i=lo+l
    ·rw[if_pos a1]
     by_cases b1:j=lo+l
     ·rw[if_pos b1];exact Int.le_refl _
     ·rw[if_neg b1,if_pos ⟨by lia,by lia⟩]
      exact h3 _ (by lia) (by lia)
    ·rw[if_neg a1]
     by_cases a2:lo+l<i∧i≤lo+k
     ·rw[if_pos a2,if_neg (by lia),if_pos ⟨by lia,by lia⟩]
      exact u1 _ _ (by lia) (by lia) (by lia)
     ·rw[if_neg a2]
      by_cases b1:j=lo+l
      ·rw[if_pos b1];exact h2 _ hi (by lia)
      ·rw[if_neg b1]
       by_cases b2:lo+l<j∧j≤lo+k
       ·rw[if_pos b2];exact u1 _ _ hi (by lia) (by lia)
       ·rw[if_neg b2];exact u1 _ _ hi hij (by lia)
end
def bd (left:Bool) (k r:Int):Bool:=if left=true then decide (r<k) else !decide (k<r)
section
variable {prog:Program}{w:World}{A:Around}{E:Value→Shared→Prop}{s:Shared}{κ:SortKind}{P:Keyed→Prop}{rk:Keyed→Int}{a₀:Array Keyed}
end
def Srt (rk:Keyed→Int) (l:List Keyed):Prop:=l.Pairwise fun x y=>rk x≤rk y
section
variable {rk:Keyed→Int}{T out a b c:List Keyed}
theorem R_at {arr:Array Keyed}{i:Nat}{p:Keyed}(e:arr[i]?=some p):R rk arr i=rk p:=by unfold R;rw[e]
end
section
variable {rk:Keyed→Int}{T:List Keyed}{out a b:Array Keyed}{ia ib k:Nat}{p q:Keyed}
end
section
variable {prog:Program}{w:World}{A:Around}{E:Value→Shared→Prop}{s:Shared}{κ:SortKind}{P:Keyed→Prop}{rk:Keyed→Int}{a₀:Array Keyed}
end
section
variable {rk:Keyed→Int}{T out a b c:List Keyed}
theorem zj7 (arr:Array Keyed) (n:Nat):(arr.extract 0 n).toList=arr.toList.take n:=by
 rw[Array.toList_extract,List.extract_eq_take_drop,List.drop_zero,Nat.sub_zero]
end
section
variable {rk:Keyed→Int}{T:List Keyed}{out a b:Array Keyed}{na nb i:Nat}{p q:Keyed}
end
section
variable {prog:Program}{w:World}{A:Around}{E:Value→Shared→Prop}{s:Shared}{κ:SortKind}{P:Keyed→Prop}{rk:Keyed→Int}{a₀:Array Keyed}
end
section
variable {rk:Keyed→Int}
theorem zjy {arr:Array Keyed}{lo n:Nat}(h:Up rk arr lo n) (hn:lo+n≤arr.size):Srt rk (arr.extract lo (lo+n)).toList:=by
 refine List.pairwise_iff_getElem.mpr fun i j hi hj ij=>?_
 have hs:(arr.extract lo (lo+n)).size=n:=by rw[Array.size_extract];lia
 rw[Array.length_toList,hs]at hi hj
 have:=h (lo+i) (lo+j) (by lia) (by lia) (by lia)
 rw[R_at (getElem?_pos arr (lo+i) (by lia)),R_at (getElem?_pos arr (lo+j) (by lia))]at this
 simpa using this
end
section
variable {prog:Program}{w:World}{A:Around}{E:Value→Shared→Prop}{s:Shared}{κ:SortKind}{P:Keyed→Prop}{rk:Keyed→Int}{a₀:Array Keyed}
end
section
variable {prog:Program}{w:World}{A:Around}{E:Value→Shared→Prop}{s:Shared}{κ:SortKind}{P:Keyed→Prop}{rk:Keyed→Int}{a₀:Array Keyed}
theorem ziC (C:Cmp prog w A s κ P rk) {st:SortSt}{Q:Unit→SortSt→Prop}(hs:a₀.size<64) (hB:Bs κ P a₀ st) (hp:pendingOf st = #[])
  (h:∀ st',Bs κ P a₀ st'→Up rk (arrOf st') 0 a₀.size→Q () st'):wpS (model prog w) A E s sortRuns' Q st:=by
 rw[sortRuns'_eq]
 refine wpS_bind (wpS_get ?_)
 dsimp only
 rw[hB.size]
 have mr:∀ n,n<64→minRun' n n 0=n:=fun n hn=>by
  cases n with
  | zero=>rfl
  | succ n=>rw[minRun'_succ,if_pos hn]
 rw[mr _ hs]
 refine wpS_bind (wpS_mono (wpS_forRange (I:=fun i c st1=>∃ lo,c=(none,lo)∧((lo=0∧i=0∧Bs κ P a₀ st1∧pendingOf st1 = #[])∨(lo=a₀.size∧Bs κ P a₀ st1∧(pendingOf st1).size≤1∧Up rk (arrOf st1) 0 a₀.size)))
  (Q:=fun c st1=>∃ lo,c=(none,lo)∧Bs κ P a₀ st1∧(pendingOf st1).size≤1∧Up rk (arrOf st1) 0 a₀.size) ?step ?fin ?init) ?post)
 case init=>exact⟨0,rfl,.inl ⟨rfl,rfl,hB,hp⟩⟩
 case fin =>
  rintro c st1 ⟨lo,rfl,⟨_,z,b,p⟩|⟨_,b,p,u⟩⟩
  ·exact⟨lo,rfl,b,by rw[p];exact Nat.zero_le _,fun c d hc hcd hd=>by lia⟩
  ·exact⟨lo,rfl,b,p,u⟩
 case step =>
  rintro i c st1 _ hi ⟨lo,rfl,⟨rfl,rfl,b,p⟩|⟨rfl,b,p,u⟩⟩
  ·dsimp only
   rw[if_neg (show ¬ 0≥a₀.size by lia)]
   refine wpS_bind (zhF C b (by lia) (by lia) fun st2 n K2 n1 n2 u2=>?_)
   dsimp only
   have last:∀ st4,Bs κ P a₀ st4→pendingOf st4 = #[]→Up rk (arrOf st4) 0 a₀.size→wpS (model prog w) A E s (do
     modify fun st5=>setPending st5 ((pendingOf st5).push (0,a₀.size,0))
     pure (ForInStep.yield ((none:Option Unit),0+a₀.size))) (fun r st'=>match r with|.done c'=>∃ lo,c'=(none,lo)∧Bs κ P a₀ st'∧(pendingOf st').size≤1∧Up rk (arrOf st') 0 a₀.size|.yield c'=>∃ lo,c'=(none,lo)∧((lo=0∧0+1=0∧Bs κ P a₀ st'∧pendingOf st' = #[])∨(lo=a₀.size∧Bs κ P a₀ st'∧(pendingOf st').size≤1∧Up rk (arrOf st') 0 a₀.size))) st4:=by
    intro st4 b4 p4 u4
    refine wpS_bind (wpS_modify (wpS_pure ⟨0+a₀.size,rfl,.inr ⟨Nat.zero_add _,⟨b4.kind,b4.fail,b4.perm,b4.all⟩,?_,u4⟩⟩))
    show ((pendingOf st4).push (0,a₀.size,0)).size≤1
    rw[p4];exact Nat.le_refl _
   by_cases zm:n<a₀.size
   ·rw[if_pos zm]
    refine wpS_bind (zfG ?_)
    refine wpS_bind (zj8 C K2.b n1 (by lia) (by lia) u2 fun st3 K3 u3=>?_)
    have em:min (a₀.size-0) a₀.size=a₀.size:=by lia
    rw[em]at u3 ⊢
    rw[if_neg (show ¬(!true)=true by decide)]
    refine wpS_bind (wpS_get ?_)
    have p3:pendingOf st3 = #[]:=by rw[K3.pend,K2.pend,p]
    rw[p3]
    exact last st3 K3.b p3 u3
   ·rw[if_neg zm]
    have en:n=a₀.size:=by lia
    subst en
    refine wpS_bind (wpS_get ?_)
    have p3:pendingOf st2 = #[]:=by rw[K2.pend,p]
    rw[p3]
    exact last st2 K2.b p3 u2
  ·dsimp only
   rw[if_pos (Nat.le_refl _)]
   exact wpS_pure ⟨_,rfl,b,p,u⟩
 case post =>
  rintro c st1 ⟨lo,rfl,b,p,u⟩
  dsimp only
  refine wpS_bind (wpS_mono (wpS_forRange (I:=fun i c st2=>c=(none,())∧st2=st1) (Q:=fun c st2=>c=(none,())∧st2=st1) ?_ (fun c st2 hh=>hh) ⟨rfl,rfl⟩) ?_)
  ·rintro i c st2 _ hi ⟨rfl,rfl⟩
   refine wpS_bind (wpS_get ?_)
   rw[if_pos p]
   exact wpS_pure ⟨rfl,rfl⟩
  ·rintro c st2 ⟨rfl,rfl⟩
   exact wpS_pure (h st2 b u)
end
end Ts
namespace L2
open PySem PySem.Spec PyProof.Rows Own
theorem zhE {P:Program}{w:World}{H:Hp}(h:Heap) (hb:sysModules<h.objs.size):ObjOk P w H (h.push { cls:=.type "dict",data:=.dict #[] }) h.objs.size (.dK []) :=
 ⟨Nat.zero_le _,beq_eq_false_iff_ne.mpr (Ne.symm (Nat.ne_of_lt hb)),[],.nil,Heap.DictOf.new h⟩
def zjv:TE:=fun _ H Q=>∀ p,H p=none→Q (.ref p) (upd H p (.dK []))
section
variable {X:Cx}{pos:Pos}
theorem Inv.big {pins:List (Addr × Obj)}{σ:St}{H:Hp}{s:Shared}(I:Inv X pins σ H s):sysModules<s.heap.objs.size:=by
 have h:mainGlobals<s.heap.objs.size:=(I.mod.glob.keeps I.bk).lt
 exact Nat.lt_trans (by decide) h
theorem pe_dnewK:PE X (.Dict [] [] pos) zjv:=fun pins s σ H Q I h =>
 wpAny_Dict_empty ⟨.ref s.heap.objs.size,_,I.laid (a:=s.heap.objs.size) (o:=.dK []) (t':=s.toks) (fun _ _ q=>Heap.get?_push_of_some _ q) (Nat.le_refl _) (zhE s.heap I.big),rfl,h _ (I.hok.fresh (Nat.le_refl _))⟩
end
end L2
namespace Bn
open PySem L2 Own
end Bn
namespace L2
open PySem PySem.Spec PyProof.Rows Own
def LtAt (A:Around) (s:Shared) (y x:Value) (b:Bool):Prop:=∀ (prog:Program) (w:World) (E:Value→Shared→Prop) (Q:Value→Shared→Prop),Q (.bool b) s→wpAny (model prog w) A (richCompare .Lt y x) Q E s
theorem LtAt.ints {A:Around}{s:Shared}(a b:Int) (t u:Tok):LtAt A s (.int a t) (.int b u) (decide (a<b)):=fun _ _ _ _ h=>lt_int h
theorem zdN (l b:Addr) (xs ys:Array Value) (n m:Nat) (d1 d2:Option Addr) (sl1 sl2:Array (Option Value)) (k:Nat) (k1:k<xs.size) (k2:k<ys.size) (c:Bool) :
  Meets (Builtin.«tuple.__lt__» ⟨[.ref l,.ref b],[]⟩)
   (fun A R s=>s.heap.get? l=some { cls:=.type "tuple",dict:=d1,data:=.seq xs n,slots:=sl1 }∧s.heap.get? b=some { cls:=.type "tuple",dict:=d2,data:=.seq ys m,slots:=sl2 } ∧
    (∀ j (h1:j<xs.size) (h2:j<ys.size),j<k→SeqAt.EqAt A.in1 s xs[j] ys[j] true)∧SeqAt.EqAt A.in1 s xs[k] ys[k] false∧LtAt A.in1 s xs[k] ys[k] c∧R (.ok (.ret (.bool c))) s) :=
 .of_wp fun prog w A R s h=>by
  obtain⟨hp,g,d,tk,os⟩:=s;obtain⟨hl,hb,he,hk,hc,h⟩:=h
  have kinds:=AutoSeq1.sub_tuple_tuple
  have zl:(xs.toList.zip ys.toList).length=min xs.size ys.size:=by simp
  wp_walk using wpAny_loadPart' hl,wpAny_loadPart' hb,wpAny_forIn_list _ (fun rest b s'=>b.1=none∧s'=⟨hp,g,d,tk,os⟩∧∃ i,i≤k∧rest=(xs.toList.zip ys.toList).drop i) _
  case turn =>
   rintro⟨y,x⟩ rest b s' ⟨hb',rfl,i,ik,hz⟩
   have i1:i<xs.size:=by lia
   have i2:i<ys.size:=by lia
   have il:i<(xs.toList.zip ys.toList).length:=by rw[zl];lia
   rw[List.drop_eq_getElem_cons il]at hz
   obtain⟨e1,e2⟩:=List.cons.inj hz
   have ey:y=xs[i]:=by simpa using congrArg Prod.fst e1
   have ex:x=ys[i]:=by simpa using congrArg Prod.snd e1
   subst ey ex
   by_cases z:i=k
   ·subst z
    refine wpAny_bind (hk prog w _ _ ?_)
    simp only[if_true,Bool.not_false]
    refine wpAny_bind (wpAny_rule (wpAny_bind (hc prog w _ _ ?_)))
    wp_walk
    exact⟨_,rfl,h⟩
   ·refine wpAny_bind (he i i1 i2 (by lia) prog w _ _ ?_)
    wp_walk
    exact⟨rfl,rfl,i+1,by lia,e2⟩
  case fin =>
   rintro⟨b1,b2⟩ s' ⟨hb',rfl,i,ik,hz⟩
   have il:i<(xs.toList.zip ys.toList).length:=by rw[zl];lia
   rw[List.drop_eq_getElem_cons il]at hz;cases hz
  case h =>
   exact⟨rfl,rfl,0,Nat.zero_le _,rfl⟩
theorem LtAt.tuples {A:Around}{s:Shared}{l b:Addr}{xs ys:Array Value}{k:Nat}{c:Bool}(hl:IsTup s.heap l xs) (hb:IsTup s.heap b ys) (hu:A.units<cLine) (k1:k<xs.size) (k2:k<ys.size)
  (he:∀ j (h1:j<xs.size) (h2:j<ys.size),j<k→SeqAt.EqAt A.in1 s xs[j] ys[j] true) (hk:SeqAt.EqAt A.in1 s xs[k] ys[k] false) (hc:LtAt A.in1 s xs[k] ys[k] c):LtAt A s (.ref l) (.ref b) c:=fun prog w E Q h=>by
 obtain⟨⟨cl1,dd1,da1,sl1⟩,o1,c1,n,e1⟩:=hl
 obtain⟨⟨cl2,dd2,da2,sl2⟩,o2,c2,m,e2⟩:=hb
 simp only at c1 e1 c2 e2;subst c1 e1 c2 e2
 exact richCompare_meets_room (op:=.Lt) ⟨_,o1,rfl⟩ ⟨_,o2,rfl⟩ F.slot_tuple_lt F.entry_tuple_lt (F.args_tuple_lt_2 _ _) (zdN l b xs ys n m dd1 dd2 sl1 sl2 k k1 k2 c) ⟨o1,o2,he,hk,hc,show Value.bool c≠Value.notImplemented∧Q (.bool c) s from⟨(fun x=>nomatch x),h⟩⟩ hu
section
variable {prog:Program}{w:World}{A:Around}{R:Result→Shared→Prop}{I S:Addr}{fp wr:List Addr}{n:Nat}{P:Nat→Value→Prop}{St:Nat→Heap→Prop}
end
section
variable {prog:Program}{w:World}{A:Around}{E:Value→Shared→Prop}{s:Shared}
end
section
variable {X:Cx}
end
end L2
namespace Ts
open PySem PyProof.Rows
section
variable {prog:Program}{w:World}{A:Around}{E:Value→Shared→Prop}{s:Shared}
theorem zfs {a:Addr}{vs:List Value}{n:Nat}{Pp:Fin→Shared→Prop}(ho:s.heap.get? a=some (seqObj "list" vs.toArray n)) (hz:vs.length≤63) (κ:SortKind) (rv:Value→Int)
  (hkind:∀ h',(∀ c o,c≠a→s.heap.get? c=some o→h'.get? c=some o)→2≤vs.length→∀ {Q:SortKind→Shared→Prop}{E:Value→Shared→Prop},Q κ { s with heap:=h' }→wpAny (model prog w) A (keyKind' vs.toArray) Q E { s with heap:=h' })
  (hcmp:∀ h',(∀ c o,c≠a→s.heap.get? c=some o→h'.get? c=some o)→Cmp prog w A { s with heap:=h' } κ (fun p=>p.1∈vs) (fun p=>rv p.1))
  (h:∀ out:List Value,out.Perm vs→out.Pairwise (fun x y=>rv x≤rv y)→Pp (.done (.ret .none)) { s with heap:=sortedHeap s.heap a vs out.toArray }) :
  wpAny (model prog w) A (Builtin.«list.sort» ⟨[.ref a],[]⟩) Pp E s:=by
 have al:a<s.heap.objs.size:=Heap.lt_size ho
 have ln:vs.toArray.size=vs.length:=List.size_toArray ..
 have sl:vs.length≤sizeLine:=Nat.le_trans hz (by decide)
 rw[list_sort_plain]
 refine wpAny_bind (listItems_at ho rfl (wpAny_bind (listUpdate_at ho rfl ?_ (hsz:=by rw[ln];exact sl))))
 obtain⟨ep,e1⟩:∃ ep,(s.heap.update a (Obj.mapSeq fun _=>#[])).get? a=some (seqObj "list" #[] ep):=⟨_,get?_update_seq ho fun _=>#[]⟩
 refine wpAny_bind (seqEpoch_at e1 rfl (wpAny_bind (wpAny_newTuple (wpAny_bind (wpAny_newList (wpAny_holding ?_))))))
 have e6:(((s.heap.update a (Obj.mapSeq fun _=>#[])).push (seqObj "tuple" vs.toArray 0)).push (seqObj "list" #[] 0)).get? a=some (seqObj "list" #[] ep) :=
  Heap.get?_push_of_some _ (Heap.get?_push_of_some _ e1)
 have old:∀ c o,c≠a→s.heap.get? c=some o→(((s.heap.update a (Obj.mapSeq fun _=>#[])).push (seqObj "tuple" vs.toArray 0)).push (seqObj "list" #[] 0)).get? c=some o:=fun c o nc q =>
  Heap.get?_push_of_some _ (Heap.get?_push_of_some _ ((Heap.get?_update_other _ _ (Ne.symm nc)).trans q))
 show wpAny (model prog w) A _ Pp E { s with heap:=((s.heap.update a (Obj.mapSeq fun _=>#[])).push (seqObj "tuple" vs.toArray 0)).push (seqObj "list" #[] 0) }
 have lo:∀ out:List Value,out.Perm vs→out.toArray.size≤sizeLine+1:=fun out p1=>by rw[List.size_toArray,p1.length_eq];lia
 generalize hH:((s.heap.update a (Obj.mapSeq fun _=>#[])).push (seqObj "tuple" vs.toArray 0)).push (seqObj "list" #[] 0)=h6 at e6 old ⊢
 have back:∀ out:Array Value,sortedHeap s.heap a vs out=h6.update a (Obj.mapSeq fun _=>out):=fun out=>by rw[← hH];rfl
 by_cases few:vs.toArray.size<2
 ·rw[if_pos few,if_pos few]
  refine wpAny_bind (wpAny_pure (?_:wpAny _ _ _ _ _ _))
  refine wpAny_bind (wpAny_pure ?_)
  have em:(vs.toArray.zip vs.toArray).map (·.2)=vs.toArray:=by
   apply Array.ext'
   rw[Array.toList_map,Array.toList_zip]
   exact List.map_snd_zip (Nat.le_refl _)
  have one:vs.Pairwise (fun x y=>rv x≤rv y):=by
   match vs,few with
   | [],_=>exact List.Pairwise.nil
   | [x],_=>exact List.pairwise_singleton _ _
   | _::_::_,z=>simp at z;lia
  have k:=h vs (List.Perm.refl _) one
  rw[back]at k
  dsimp only
  rw[em]
  refine wpAny_bind (seqEpoch_at e6 rfl (wpAny_bind (listUpdate_at e6 rfl ?_ (hsz:=Nat.zero_le _) (hsz2:=lo vs (List.Perm.refl _)))))
  simp only[if_false,bne_self_eq_false,Bool.false_eq_true]
  exact wpAny_pure k
 rw[if_neg few,if_neg few]
 refine wpAny_bind (hkind h6 old (by lia) ?_)
 have C:=hcmp h6 old
 refine wpAny_bind (wpAny_mono (ziC C (hs:=by simp;lia) (a₀:=vs.toArray.zip vs.toArray) (st:=SortSt.mk' κ (vs.toArray.zip vs.toArray) #[] 7 none)
  (Q:=fun _ st'=>Bs κ (fun p=>p.1∈vs) (vs.toArray.zip vs.toArray) st'∧Up (fun p=>rv p.1) (arrOf st') 0 (vs.toArray.zip vs.toArray).size) ⟨rfl,rfl,Array.Perm.refl _,fun p hp=>?_⟩ rfl fun st' b u=>⟨b,u⟩) ?_ fun _ _ e=>e)
 ·have:(vs.toArray.zip vs.toArray).toList=vs.zip vs:=by simp
  rw[this]at hp
  exact(List.of_mem_zip hp).1
 rintro⟨⟨⟩,st'⟩ s' ⟨rfl,b,u⟩
 have pl:(arrOf st').toList.Perm (vs.zip vs):=by
  have:=Array.perm_iff_toList_perm.mp b.perm
  simpa using this
 have same:∀ p∈(arrOf st').toList,p.1=p.2:=fun p hp=>by
  have h1:=pl.mem_iff.mp hp
  obtain⟨i,hi⟩:=List.mem_iff_getElem?.mp h1
  rw[List.getElem?_zip_eq_some]at hi
  have:=hi.1.symm.trans hi.2
  exact Option.some.inj this
 have so:Srt (fun p=>rv p.1) (arrOf st').toList:=by
  have:=zjy (arr:=arrOf st') (lo:=0) (n:=(arrOf st').size) (by rw[b.size];exact u) (by lia)
  rw[Nat.zero_add,zj7,← Array.length_toList,List.take_length]at this
  exact this
 have pm:((arrOf st').toList.map (·.2)).Perm vs:=by
  have:=pl.map (·.2)
  rwa [List.map_snd_zip (Nat.le_refl _)]at this
 have em:(arrOf st').map (·.2)=((arrOf st').toList.map (·.2)).toArray:=by
  apply Array.ext';simp
 have k:=h _ pm (by
  refine List.pairwise_map.mpr (List.Pairwise.imp_of_mem ?_ so)
  intro x y hx hy le
  rw[← same x hx,← same y hy];exact le)
 rw[back]at k
 dsimp only
 rw[em,b.fail]
 refine wpAny_bind (seqEpoch_at e6 rfl (wpAny_bind (listUpdate_at e6 rfl ?_ (hsz:=Nat.zero_le _) (hsz2:=lo _ pm))))
 simp only[if_false,bne_self_eq_false,Bool.false_eq_true]
 exact wpAny_pure k
end
end Ts
namespace Own
open PySem PySem.Spec PyProof.Rows
abbrev IsZipN (h:Heap) (z TI TO t:Addr) (c:Bool):Prop:=h.get? z=some { cls:=.type "zip",dict:=none,data:=.fields #[rawInt t,.bool c,.bool false,.ref TI,.ref TO],slots:=#[] }
section
variable {prog:Program}{w:World}{A:Around}{E:Value→Shared→Prop}{s:Shared}{z TI TO i1 i2:Addr}{f1 f2:List Addr}{n1 n2 k:Nat}{P1 P2:Nat→Value→Prop}{S1 S2:Nat→Heap→Prop}{a b:Value}
theorem zcd {α:Type}{t:Addr}{c:Bool}{o:Obj}{f:Bool→Sem α}{Q:α→Shared→Prop}(hz:IsZipN s.heap z TI TO t c) (ho:s.heap.get? t=some o) (h:∀ h',IsZipN h' z TI TO t true→Heap.SameBut z s.heap h'→wpAny (model prog w) A (f false) Q E { s with heap:=h' }) :
  wpAny (model prog w) A (Builtin.SmallTypes.ownedTupleIsFree (.ref z) >>= f) Q E s:=by
 refine wpAny_bind ?_;unfold Builtin.SmallTypes.ownedTupleIsFree
 refine rf 0 hz rfl rfl ?_
 show wpAny _ _ (loadIfAlive ((t:Int).toNat) >>= _) _ _ _
 rw[Int.toNat_natCast]
 refine wpAny_bind (PySem.W.kdx_alive ho ?_)
 simp only[Bool.false_eq_true,if_false,Option.isNone_some]
 refine rf (x:=.bool c) 1 hz rfl rfl ?_
 have eT:(Value.bool true != Value.bool true)=false:=rfl
 have eF:(Value.bool false != Value.bool true)=true:=rfl
 cases c with
 | true =>
  rw[eT]
  exact wpAny_pure (h s.heap hz (Heap.SameBut.refl _ _))
 | false =>
  rw[eF]
  exact wpAny_bind (wpAny_setField_rec hz (show 1<5 by decide) fun h' z' sb=>wpAny_pure (h h' z' sb))
theorem ze5 {t:Addr}{c:Bool}{o:Obj}(S:Sep z TI TO i1 i2 f1 f2) (D1:Draws prog w A i1 f1 n1 P1 S1) (D2:Draws prog w A i2 f2 n2 P2 S2) {Q:Value→Shared→Prop}
  (hz:IsZipN s.heap z TI TO t c) (ho:s.heap.get? t=some o) (hI:IsPair s.heap TI (.ref i1) (.ref i2)) (d1:S1 k s.heap) (d2:S2 k s.heap) (l1:k<n1) (l2:k<n2)
  (h:∀ x y h' tk,P1 k x→P2 k y→IsZipN h' z TI TO t true→S1 (k+1) h'→S2 (k+1) h'→IsPair h' s.heap.objs.size x y →
   (∀ c o,c∉[z,TO,i1,i2]→s.heap.get? c=some o→h'.get? c=some o)→Q (.ref s.heap.objs.size) { s with heap:=h',toks:=tk }) :
  wpAny (model prog w) A (Builtin.«zip.__next__» ⟨[.ref z],[]⟩) (fun r s'=>∃ v,r=.done (.ret v)∧Q v s') E s:=by
 have nd:=S.all
 simp only[List.nodup_cons,List.mem_cons,List.not_mem_nil,or_false,not_or]at nd
 obtain⟨⟨zI,zO,z1,z2⟩,⟨IO,I1,I2⟩,⟨O1,O2⟩,n12,_⟩:=nd
 refine rf 2 hz rfl rfl (rf 3 hz rfl rfl (wpAny_bind (wpAny_seqItems hI rfl (zcd hz ho fun ha za sa=>?_))))
 rw[if_neg Bool.false_ne_true]
 refine wpAny_bind ?_
 simp only[List.forIn_toArray,List.forIn_cons,List.forIn_nil]
 refine wpAny_bind (wpAny_bind (wpAny_holding (wpAny_bind (D1.item k _ _ _ l1 (D1.frame _ _ _ d1 fun c hc o e=>(sa.2 c fun q=>S.z1 (q ▸ hc)).trans e) fun x hb tb px db sb=>wpAny_pure (wpAny_pure ?_)))))
 have st2:S2 k hb:=D2.frame _ _ _ d2 fun c hm o e=>(sb.2 c fun q=>S.o2 (q ▸ hm)).trans ((sa.2 c fun q=>S.z2 (q ▸ hm)).trans e)
 refine wpAny_bind (wpAny_bind (wpAny_holding (wpAny_bind (D2.item k _ _ _ l2 st2 fun y hd td py dd sd=>wpAny_pure (wpAny_pure (wpAny_pure ?_))))))
 refine wpAny_bind (wpAny_newTuple (wpAny_pure ⟨_,rfl,?_⟩) (hsz:=by show 2≤sizeLine;decide))
 have sz:hd.objs.size=s.heap.objs.size:=by rw[sd.1,sb.1,sa.1]
 show Q (.ref hd.objs.size) _
 rw[sz]
 have zd:IsZipN hd z TI TO t true:=(sd.2 z z2).trans ((sb.2 z z1).trans za)
 have new:(hd.push { cls:=.type "tuple",data:=.seq #[x,y] }).get? s.heap.objs.size=some { cls:=.type "tuple",data:=.seq #[x,y] }:=by rw[← sz];exact Heap.get?_push_size _ rfl
 refine h x y _ td px py (Heap.get?_push_of_some _ zd) ?_ ?_ new fun c o hc e=>?_
 ·exact D1.frame _ _ _ db fun c hm o e=>Heap.get?_push_of_some _ ((sd.2 c fun q=>S.o1 (q ▸ hm)).trans e)
 ·exact D2.frame _ _ _ dd fun c hm o e=>Heap.get?_push_of_some _ e
 ·simp only[List.mem_cons,List.not_mem_nil,or_false,not_or]at hc
  exact Heap.get?_push_of_some _ ((sd.2 c hc.2.2.2).trans ((sb.2 c hc.2.2.1).trans ((sa.2 c hc.1).trans e)))
theorem zcL {t:Addr}{c:Bool}{o:Obj}(S:Sep z TI TO i1 i2 f1 f2) (D1:Draws prog w A i1 f1 n1 P1 S1) {Q:Fin→Shared→Prop}(hz:IsZipN s.heap z TI TO t c) (ho:s.heap.get? t=some o) (hI:IsPair s.heap TI (.ref i1) (.ref i2)) (d1:S1 n1 s.heap)
  (h:∀ h' x,(∀ c o,c∉[z,TO,i1,i2]→s.heap.get? c=some o→h'.get? c=some o)→(∃ o,h'.get? x=some o∧o.cls=.type "StopIteration")→E (.ref x) { s with heap:=h' }):wpAny (model prog w) A (Builtin.«zip.__next__» ⟨[.ref z],[]⟩) Q E s:=by
 refine rf 2 hz rfl rfl (rf 3 hz rfl rfl (wpAny_bind (wpAny_seqItems hI rfl (zcd hz ho fun ha za sa=>?_))))
 rw[if_neg Bool.false_ne_true]
 refine wpAny_bind ?_
 simp only[List.forIn_toArray,List.forIn_cons,List.forIn_nil]
 refine wpAny_bind (wpAny_bind (wpAny_holding (wpAny_bind (D1.done _ _ _ (D1.frame _ _ _ d1 fun c hc o e=>(sa.2 c fun q=>S.z1 (q ▸ hc)).trans e) fun hb x kb ex=>?_))))
 refine h hb x (fun c o hm e=>?_) ex
 simp only[List.mem_cons,List.not_mem_nil,or_false,not_or]at hm
 exact kb c o hm.2.2.1 ((sa.2 c hm.1).trans e)
end
theorem zcM:typeLookup (.type "zip") "__len__" = pure none:=by rw[typeLookup_type,builtinLookup_eq_fast];kernel_rfl
theorem zbX:typeLookup (.type "zip") "__length_hint__" = pure none:=by rw[typeLookup_type,builtinLookup_eq_fast];kernel_rfl
def ZSt (z TI TO i1 i2:Addr) (S1 S2:Nat→Heap→Prop) (k:Nat) (acc:Array Value) (h:Heap):Prop :=
 IsPair h TI (.ref i1) (.ref i2)∧S1 k h∧S2 k h∧((k=0∧IsZip h z TI TO .none∧∃ a b,IsPair h TO a b)∨(1≤k∧∃ t c,acc[0]?=some (.ref t)∧IsZipN h z TI TO t c))
def Kept (far:List Addr) (P1 P2:Nat→Value→Prop) (acc:Array Value) (h:Heap):Prop:=∀ j v,acc[j]?=some v→∃ t x y,v=.ref t∧t∉far∧IsPair h t x y∧P1 j x∧P2 j y
section
variable {prog:Program}{w:World}{A:Around}{E:Value→Shared→Prop}{s:Shared}{z TI TO i1 i2 L:Addr}{f1 f2:List Addr}{n n2 k:Nat}{P1 P2:Nat→Value→Prop}{S1 S2:Nat→Heap→Prop}
theorem zjk {acc:Array Value}(S:Sep z TI TO i1 i2 f1 f2) (D1:Draws prog w A.in1 i1 f1 n P1 S1) (D2:Draws prog w A.in1 i2 f2 n2 P2 S2) (hle:n≤n2) {Q:Option Value→Shared→Prop}(Z:ZSt z TI TO i1 i2 S1 S2 k acc s.heap) (K:Kept [z,TI,TO,i1,i2,L] P1 P2 acc s.heap) (ha:acc.size=k) (hL:L<s.heap.objs.size) (hTO:TO<s.heap.objs.size) (lk:k<n)
  (h:∀ h' tk x y,P1 k x→P2 k y→IsPair h' s.heap.objs.size x y→ZSt z TI TO i1 i2 S1 S2 (k+1) (acc.push (.ref s.heap.objs.size)) h'→Kept [z,TI,TO,i1,i2,L] P1 P2 (acc.push (.ref s.heap.objs.size)) h' →
   (∀ c o,c∉[z,TO,i1,i2]→s.heap.get? c=some o→h'.get? c=some o)→Q (some (.ref s.heap.objs.size)) { s with heap:=h',toks:=tk }):wpAny (model prog w) A (pyNext (.ref z)) Q E s:=by
 obtain⟨hI,d1,d2,st⟩:=Z
 have nd:=S.all
 simp only[List.nodup_cons,List.mem_cons,List.not_mem_nil,or_false,not_or]at nd
 obtain⟨⟨zI,zO,z1,z2⟩,⟨IO,I1,I2⟩,⟨O1,O2⟩,n12,_⟩:=nd
 obtain⟨o1,e1⟩:=D1.live _ _ d1
 obtain⟨o2,e2⟩:=D2.live _ _ d2
 have old:∀ h':Heap,(∀ c o,c∉[z,TO,i1,i2]→s.heap.get? c=some o→h'.get? c=some o)→∀ x y,IsPair h' s.heap.objs.size x y→P1 k x→P2 k y→(∃ oz,s.heap.get? z=some oz)→TO<s.heap.objs.size→Kept [z,TI,TO,i1,i2,L] P1 P2 (acc.push (.ref s.heap.objs.size)) h':=by
  intro h' kk x y new px py ⟨oz,ez⟩ lt j v hv
  by_cases q:j<acc.size
  ·rw[Array.getElem?_push_lt q]at hv
   obtain⟨t,x',y',rfl,nt,ht,p1,p2⟩:=K j v ((getElem?_pos acc j q).trans hv)
   refine⟨t,x',y',rfl,nt,kk t _ (fun m=>nt ?_) ht,p1,p2⟩
   simp only[List.mem_cons,List.not_mem_nil,or_false]at m ⊢
   rcases m with m|m|m|m<;>simp[m]
  ·have jl:j<(acc.push (.ref s.heap.objs.size)).size:=(Array.getElem?_eq_some_iff.mp hv).1
   rw[Array.size_push]at jl
   obtain rfl:j=acc.size:=by lia
   rw[Array.getElem?_push_size]at hv
   obtain rfl:=Option.some.inj hv
   refine⟨_,x,y,rfl,fun m=>?_,new,by rw[ha];exact px,by rw[ha];exact py⟩
   simp only[List.mem_cons,List.not_mem_nil,or_false]at m
   have b1:=Heap.lt_size ez
   have b2:=Heap.lt_size hI
   have b3:=Heap.lt_size e1
   have b4:=Heap.lt_size e2
   rcases m with m|m|m|m|m|m
   ·exact Nat.ne_of_gt b1 m
   ·exact Nat.ne_of_gt b2 m
   ·exact Nat.ne_of_gt lt m
   ·exact Nat.ne_of_gt b3 m
   ·exact Nat.ne_of_gt b4 m
   ·exact Nat.ne_of_gt hL m
 have first:∀ t,acc[0]?=some (Value.ref t)→(acc.push (.ref s.heap.objs.size))[0]?=some (Value.ref t):=fun t e=>by
  have q:=(Array.getElem?_eq_some_iff.mp e).1
  rw[Array.getElem?_push_lt q];exact(getElem?_pos acc 0 q).symm.trans e
 rcases st with ⟨rfl,hz,a,b,hO⟩|⟨k1,t,c,ht,hz⟩
 ·have tyz:s.TypeIs (.ref z) "zip":=⟨_,hz,rfl⟩
  unfold pyNext
  refine wpAny_bind (wpAny_attempt (wpAny_callSpecial?_slot (name:="__next__") tyz F.slot_zip_next (wpAny_call_entry F.slot_zip_next tyz F.entry_zip_next (zd3 S D1 D2 hz hI hO d1 d2 lk (by lia)
   fun x y h' tk p1 p2 zh Oh s1 s2 new kk=>wpAny_pure ?_) (F.args_zip_next_1 _))))
  have acc0:acc = #[]:=Array.size_eq_zero_iff.mp ha
  subst acc0
  exact h h' tk x y p1 p2 new ⟨kk TI _ (by simp[Ne.symm zI,IO,I1,I2]) hI,s1,s2,.inr ⟨by lia,s.heap.objs.size,false,rfl,zh⟩⟩ (old h' kk x y new p1 p2 ⟨_,hz⟩ (Heap.lt_size hO)) kk
 ·have tyz:s.TypeIs (.ref z) "zip":=⟨_,hz,rfl⟩
  obtain⟨t',x0,y0,et,nt,ht',_,_⟩:=K 0 _ ht
  cases et
  unfold pyNext
  refine wpAny_bind (wpAny_attempt (wpAny_callSpecial?_slot (name:="__next__") tyz F.slot_zip_next (wpAny_call_entry F.slot_zip_next tyz F.entry_zip_next (ze5 S D1 D2 hz ht' hI d1 d2 lk (by lia)
   fun x y h' tk p1 p2 zh s1 s2 new kk=>wpAny_pure ?_) (F.args_zip_next_1 _))))
  exact h h' tk x y p1 p2 new ⟨kk TI _ (by simp[Ne.symm zI,IO,I1,I2]) hI,s1,s2,.inr ⟨by lia,t,true,first t ht,zh⟩⟩ (old h' kk x y new p1 p2 ⟨_,hz⟩ hTO) kk
theorem zh7 {acc:Array Value}(S:Sep z TI TO i1 i2 f1 f2) (D1:Draws prog w A.in1 i1 f1 n P1 S1) {Q:Option Value→Shared→Prop}(Z:ZSt z TI TO i1 i2 S1 S2 n acc s.heap) (K:Kept [z,TI,TO,i1,i2,L] P1 P2 acc s.heap)
  (h:∀ h',(∀ c o,c∉[z,TO,i1,i2]→s.heap.get? c=some o→h'.get? c=some o)→Q none { s with heap:=h' }):wpAny (model prog w) A (pyNext (.ref z)) Q E s:=by
 obtain⟨hI,d1,d2,st⟩:=Z
 rcases st with ⟨rfl,hz,a,b,hO⟩|⟨k1,t,c,ht,hz⟩
 ·have tyz:s.TypeIs (.ref z) "zip":=⟨_,hz,rfl⟩
  unfold pyNext
  refine wpAny_bind (wpAny_attempt (wpAny_callSpecial?_slot (name:="__next__") tyz F.slot_zip_next (wpAny_call_entry F.slot_zip_next tyz F.entry_zip_next (zd2 S D1 hz hI d1 fun h' x kk ⟨o,eo,co⟩=>?_) (F.args_zip_next_1 _))))
  exact wpAny_bind (wpAny_isInstance (T:="StopIteration") (b:=true) ⟨o,eo,co⟩ isSubtype_stop (wpAny_pure (h h' kk)))
 ·have tyz:s.TypeIs (.ref z) "zip":=⟨_,hz,rfl⟩
  obtain⟨t',x0,y0,et,nt,ht',_,_⟩:=K 0 _ ht
  cases et
  unfold pyNext
  refine wpAny_bind (wpAny_attempt (wpAny_callSpecial?_slot (name:="__next__") tyz F.slot_zip_next (wpAny_call_entry F.slot_zip_next tyz F.entry_zip_next (zcL S D1 hz ht' hI d1 fun h' x kk ⟨o,eo,co⟩=>?_) (F.args_zip_next_1 _))))
  exact wpAny_bind (wpAny_isInstance (T:="StopIteration") (b:=true) ⟨o,eo,co⟩ isSubtype_stop (wpAny_pure (h h' kk)))
theorem zgs {res:Value}{R:Result→Shared→Prop}{J:Array Value→Shared→Prop}(S:Sep z TI TO i1 i2 f1 f2) (D1:Draws prog w A.in1.in1 i1 f1 n P1 S1) (D2:Draws prog w A.in1.in1 i2 f2 n2 P2 S2) (hle:n≤n2) (nL:L∉[z,TI,TO,i1,i2]++f1++f2) (hn:n≤sizeLine)
  (jn:∀ (acc:Array Value) (s:Shared) (h':Heap) tk x y,J acc s→L<s.heap.objs.size→P1 acc.size x→P2 acc.size y→IsPair h' s.heap.objs.size x y→(∀ c o,c∉[z,TO,i1,i2]→s.heap.get? c=some o→h'.get? c=some o)→J (acc.push (.ref s.heap.objs.size)) { s with heap:=h',toks:=tk })
  (jf:∀ (acc:Array Value) (s:Shared) (h':Heap) tk,J acc s→(∀ c o,c∉[z,TO,i1,i2,L]→s.heap.get? c=some o→h'.get? c=some o)→J acc { s with heap:=h',toks:=tk }) :
  ∀ (m k:Nat) (s:Shared) (acc:Array Value) (c:Nat),k+m=n→acc.size=k→ZSt z TI TO i1 i2 S1 S2 k acc s.heap→Kept [z,TI,TO,i1,i2,L] P1 P2 acc s.heap→s.heap.get? L=some { cls:=.type "list",dict:=none,data:=.seq acc c,slots:=#[] }→TO<s.heap.objs.size→J acc s →
   (∀ h' tk acc' c',acc'.size=n→J acc' { s with heap:=h',toks:=tk }→Kept [z,TI,TO,i1,i2,L] P1 P2 acc' h'→h'.get? L=some { cls:=.type "list",dict:=none,data:=.seq acc' c',slots:=#[] }→(∀ b o,b∉[z,TO,i1,i2,L]→s.heap.get? b=some o→h'.get? b=some o)→R (.ok (.ret res)) { s with heap:=h',toks:=tk }) →
   codeAny (model prog w) A (.builtin "list.extend.loop" ⟨[.ref L,.ref z,res],[]⟩) R s:=by
 simp only[List.mem_append,List.mem_cons,List.not_mem_nil,or_false,not_or]at nL
 obtain⟨⟨⟨Lz,LI,LO,L1,L2⟩,Lf1⟩,Lf2⟩:=nL
 intro m
 induction m with
 | zero =>
  intro k s acc c km ha Z K hs hTO j0 fin
  obtain rfl:k=n:=by lia
  refine codeAny_builtin F.entry_extend_loop (by
   refine Around.under_plainId F.plain_extend_loop _ ▸ (show wpAny _ A.in1 (pyNext (.ref z) >>= _) _ _ _ from wpAny_bind (zh7 S D1 Z K fun h' kk=>?_))
   refine wpAny_pure (fin h' s.toks acc c ha (jf acc s h' s.toks j0 fun c o hc e=>kk c o (fun m=>hc (by simp only[List.mem_cons,List.not_mem_nil,or_false]at m ⊢;rcases m with m|m|m|m<;>simp[m])) e) (fun j v hv=>?_) (kk L _ (by simp[Lz,LO,L1,L2]) hs) fun b o hb e=>kk b o (fun m=>hb ?_) e)
   ·obtain⟨t,x,y,rfl,nt,ht,p1,p2⟩:=K j v hv
    refine⟨t,x,y,rfl,nt,kk t _ (fun m=>nt ?_) ht,p1,p2⟩
    simp only[List.mem_cons,List.not_mem_nil,or_false]at m ⊢
    rcases m with m|m|m|m<;>simp[m]
   ·simp only[List.mem_cons,List.not_mem_nil,or_false]at m ⊢
    rcases m with m|m|m|m<;>simp[m])
 | succ m ih =>
  intro k s acc c km ha Z K hs hTO j0 fin
  have Ls:=Heap.lt_size hs
  refine codeAny_builtin F.entry_extend_loop (by
   refine Around.under_plainId F.plain_extend_loop _ ▸ (show wpAny _ A.in1 (pyNext (.ref z) >>= _) _ _ _ from wpAny_bind (zjk (L:=L) S D1 D2 hle Z K ha Ls hTO (by lia) fun h1 tk x y px py new Z1 K1 kk=>?_))
   have hs1:=kk L _ (by simp[Lz,LO,L1,L2]) hs
   show wpAny _ A.in1 (updateSeq L (·.push (.ref s.heap.objs.size)) >>= _) _ _ _
   refine wpAny_bind (wpAny_updateSeq hs1 rfl ?_ (hz:=by rw[ha];lia) (_hz':=by rw[Array.size_push,ha];lia))
   have oth:∀ b o,b≠L→h1.get? b=some o→(h1.update L (Obj.mapSeq (·.push (.ref s.heap.objs.size)))).get? b=some o:=fun b o hb e=>(Heap.get?_update_other _ _ (Ne.symm hb)).trans e
   obtain⟨hI,d1,d2,st⟩:=Z1
   have hs2:=Heap.get?_update_self (Obj.mapSeq (·.push (.ref s.heap.objs.size))) hs1 rfl
   refine wpAny_pure ⟨plainId_quiet F.plain_extend_loop _,ih (k+1) _ (acc.push (.ref s.heap.objs.size)) _ (by lia) (by rw[Array.size_push,ha]) ⟨oth _ _ (Ne.symm LI) hI,D1.frame _ _ _ d1 fun b hb o e=>oth b o (fun q=>Lf1 (q ▸ hb)) e,D2.frame _ _ _ d2 fun b hb o e=>oth b o (fun q=>Lf2 (q ▸ hb)) e,?_⟩ (fun j v hv=>?_) hs2 ?_ (jf _ _ _ tk (jn acc s h1 tk x y j0 Ls (by rw[ha];exact px) (by rw[ha];exact py) new kk) fun c o hc e=>oth c o (fun q=>hc (by simp[q])) e) fun h' tk' acc' c' a1 j1 a2 a3 a4=>fin h' tk' acc' c' a1 j1 a2 a3 fun b o hb e=>a4 b o hb ?_⟩
   ·rcases st with ⟨q,_⟩|⟨q,t,c',e,hz⟩
    ·lia
    ·exact .inr ⟨q,t,c',e,oth _ _ (Ne.symm Lz) hz⟩
   ·obtain⟨t,x,y,rfl,nt,ht,p1,p2⟩:=K1 j v hv
    exact⟨t,x,y,rfl,nt,oth t _ (fun q=>nt (by simp[q])) ht,p1,p2⟩
   ·rw[Heap.size_update]
    obtain⟨t,x,y,e,_,ht,_,_⟩:=K1 acc.size _ Array.getElem?_push_size
    cases e
    exact Nat.lt_trans hTO (Heap.lt_size ht)
   ·simp only[List.mem_cons,List.not_mem_nil,or_false,not_or]at hb
    exact oth b o hb.2.2.2.2 (kk b o (by simp[hb]) e))
theorem zeZ {Q:List Value→Shared→Prop}{J:Array Value→Shared→Prop}(S:Sep z TI TO i1 i2 f1 f2) (D1:Draws prog w A.in1.in1 i1 f1 n P1 S1) (D2:Draws prog w A.in1.in1 i2 f2 n2 P2 S2) (hle:n≤n2) (hz:IsZip s.heap z TI TO .none) (hI:IsPair s.heap TI (.ref i1) (.ref i2)) {a b:Value}(hO:IsPair s.heap TO a b) (d1:S1 0 s.heap) (d2:S2 0 s.heap)
  (low:∀ c∈f1++f2,c<s.heap.objs.size) (hn:n≤sizeLine)
  (jn:∀ (acc:Array Value) (s':Shared) (h':Heap) tk x y,J acc s'→s.heap.objs.size<s'.heap.objs.size→P1 acc.size x→P2 acc.size y→IsPair h' s'.heap.objs.size x y→(∀ c o,c∉[z,TO,i1,i2]→s'.heap.get? c=some o→h'.get? c=some o)→J (acc.push (.ref s'.heap.objs.size)) { s' with heap:=h',toks:=tk })
  (jf:∀ (acc:Array Value) (s':Shared) (h':Heap) tk,J acc s'→(∀ c o,c∉[z,TO,i1,i2,s.heap.objs.size]→s'.heap.get? c=some o→h'.get? c=some o)→J acc { s' with heap:=h',toks:=tk })
  (j0:J #[] s)
  (h:∀ h' tk (acc:Array Value),acc.size=n→J acc { s with heap:=h',toks:=tk }→Kept [z,TI,TO,i1,i2,s.heap.objs.size] P1 P2 acc h'→(∀ b o,b∉[z,TO,i1,i2]→s.heap.get? b=some o→h'.get? b=some o)→s.heap.objs.size<h'.objs.size→Q acc.toList { s with heap:=h',toks:=tk }):wpAny (model prog w) A (collect (.ref z)) Q E s:=by
 obtain⟨o1,e1⟩:=D1.live _ _ d1
 obtain⟨o2,e2⟩:=D2.live _ _ d2
 have nL:s.heap.objs.size∉[z,TI,TO,i1,i2]++f1++f2:=fun m=>by
  simp only[List.mem_append,List.mem_cons,List.not_mem_nil,or_false]at m
  rcases m with ((m|m|m|m|m)|m)|m
  ·exact Nat.ne_of_gt (Heap.lt_size hz) m
  ·exact Nat.ne_of_gt (Heap.lt_size hI) m
  ·exact Nat.ne_of_gt (Heap.lt_size hO) m
  ·exact Nat.ne_of_gt (Heap.lt_size e1) m
  ·exact Nat.ne_of_gt (Heap.lt_size e2) m
  ·exact Nat.lt_irrefl _ (low _ (List.mem_append_left _ m))
  ·exact Nat.lt_irrefl _ (low _ (List.mem_append_right _ m))
 have p1:∀ c o,s.heap.get? c=some o→(s.heap.push (seqObj "list" #[] 0)).get? c=some o:=fun c o e=>Heap.get?_push_of_some _ e
 have tyz:Shared.TypeIs ({ s with heap:=s.heap.push (seqObj "list" #[] 0) }:Shared) (.ref z) "zip":=⟨_,p1 _ _ hz,rfl⟩
 have new:(s.heap.push (seqObj "list" #[] 0)).get? s.heap.objs.size=some (seqObj "list" #[] 0):=Heap.get?_push_size _ rfl
 unfold collect
 refine wpAny_bind (wpAny_runValue (codeAny_builtin entry_proto_collect' (Around.under_plainId F.plain_proto_collect _ ▸ (wpAny_bind (wpAny_newList (wpAny_pure ⟨Code.quiet_builtin _ (by decide +kernel),codeAny_builtin entry_list_iadd' (Around.under_plainId F.plain_list_iadd _ ▸ ?_)⟩))))))
 show wpAny _ A.in1 (Builtin.List.listExtendWith (.ref s.heap.objs.size) (.ref z) (.ref s.heap.objs.size)) _ _ ({ s with heap:=s.heap.push (seqObj "list" #[] 0) }:Shared)
 unfold Builtin.List.listExtendWith;refine wpAny_bind (wpAny_typeOf tyz ?_)
 have no:(Builtin.List.listSameRef (.ref s.heap.objs.size) (.ref z) || Value.type "zip" == Value.type "list" || Value.type "zip" == Value.type "tuple")=false:=by
  have:Builtin.List.listSameRef (.ref s.heap.objs.size) (.ref z)=false:=by simp[Builtin.List.listSameRef,Nat.ne_of_gt (Heap.lt_size hz)]
  rw[this];decide
 rw[no,if_neg Bool.false_ne_true]
 refine wpAny_bind (wpAny_pyIter_zip (p1 _ _ hz) (wpAny_bind (wpAny_holding ?_)))
 unfold Builtin.List.listLengthHint;refine wpAny_bind (wpAny_specialOf tyz zcM ?_)
 show wpAny _ A.in1 (specialOf (Value.ref z) (Str.ofString "__length_hint__") >>= _) _ _ _
 refine wpAny_bind (wpAny_specialOf tyz zbX (wpAny_pure ?_))
 refine wpAny_bind (wpAny_rule (wpAny_bind ?_))
 unfold Builtin.List.listTouch Builtin.List.listUpdate;refine wpAny_bind (wpAny_updateSeq new rfl ?_)
 have n2:=Heap.get?_update_self (Obj.mapSeq (·.push Value.none)) new rfl
 refine wpAny_updateSeq n2 rfl ?_
 have n3:=Heap.get?_update_self (Obj.mapSeq (·.pop)) n2 rfl
 have oth:∀ b o,s.heap.get? b=some o→(((s.heap.push (seqObj "list" #[] 0)).update s.heap.objs.size (Obj.mapSeq (·.push Value.none))).update s.heap.objs.size (Obj.mapSeq (·.pop))).get? b=some o :=
  fun b o e=>by
   have hb:=Nat.ne_of_gt (Heap.lt_size e)
   exact(Heap.get?_update_other _ _ hb).trans ((Heap.get?_update_other _ _ hb).trans (p1 b o e))
 refine wpAny_pure ⟨plainId_quiet F.plain_extend_loop _,zgs (J:=J) (L:=s.heap.objs.size) S D1 D2 hle nL hn jn jf n 0 _ #[] _ (by lia) rfl ⟨oth _ _ hI,D1.frame _ _ _ d1 fun b _ o e=>oth b o e,D2.frame _ _ _ d2 fun b _ o e=>oth b o e,.inl ⟨rfl,oth _ _ hz,_,_,oth _ _ hO⟩⟩ (fun j v hv=>by simp at hv) n3 ?_ (jf #[] s _ s.toks j0 fun c o _ e=>oth c o e) fun h' tk acc' c' a1 j1 a2 a3 a4=>?_⟩
 ·rw[Heap.size_update,Heap.size_update,size_push']
  exact Nat.lt_succ_of_lt (Heap.lt_size hO)
 ·refine wpAny_bind (wpAny_load a3 (wpAny_pure (h h' tk acc' a1 j1 a2 (fun b o hb e=>a4 b o (fun m=>?_) (oth b o e)) (Heap.lt_size a3))))
  simp only[List.mem_cons,List.not_mem_nil,or_false]at m hb
  rcases m with m|m|m|m|m
  ·exact hb (.inl m)
  ·exact hb (.inr (.inl m))
  ·exact hb (.inr (.inr (.inl m)))
  ·exact hb (.inr (.inr (.inr m)))
  ·exact Nat.ne_of_gt (Heap.lt_size e) m.symm
theorem zgR {res:Value}{R:Result→Shared→Prop}{J:Array Value→Shared→Prop}{c0:Nat}(S:Sep z TI TO i1 i2 f1 f2) (D1:Draws prog w A.in1.in1 i1 f1 n P1 S1) (D2:Draws prog w A.in1.in1 i2 f2 n2 P2 S2) (hle:n≤n2) (hz:IsZip s.heap z TI TO .none) (hI:IsPair s.heap TI (.ref i1) (.ref i2)) {a b:Value}(hO:IsPair s.heap TO a b) (d1:S1 0 s.heap) (d2:S2 0 s.heap)
  (hL:s.heap.get? L=some (seqObj "list" #[] c0)) (nL:L∉[z,TI,TO,i1,i2]++f1++f2) (hn:n≤sizeLine)
  (jn:∀ (acc:Array Value) (s':Shared) (h':Heap) tk x y,J acc s'→L<s'.heap.objs.size→P1 acc.size x→P2 acc.size y→IsPair h' s'.heap.objs.size x y→(∀ c o,c∉[z,TO,i1,i2]→s'.heap.get? c=some o→h'.get? c=some o)→J (acc.push (.ref s'.heap.objs.size)) { s' with heap:=h',toks:=tk })
  (jf:∀ (acc:Array Value) (s':Shared) (h':Heap) tk,J acc s'→(∀ c o,c∉[z,TO,i1,i2,L]→s'.heap.get? c=some o→h'.get? c=some o)→J acc { s' with heap:=h',toks:=tk })
  (j0:J #[] s)
  (h:∀ h' tk acc' c',acc'.size=n→J acc' { s with heap:=h',toks:=tk }→Kept [z,TI,TO,i1,i2,L] P1 P2 acc' h'→h'.get? L=some (seqObj "list" acc' c')→R (.ok (.ret res)) { s with heap:=h',toks:=tk }) :
  wpAny (model prog w) A.in1 (Builtin.List.listExtendWith (.ref L) (.ref z) res) (fun fin s'=>match fin with|.done f=>R (.ok f) s'|.again c'=>c'.quiet=true∧codeAny (model prog w) A c' R s') (fun e s'=>R (.error e) s') s:=by
 have Lz:L≠z:=fun q=>nL (by simp[q])
 have tyz:s.TypeIs (.ref z) "zip":=⟨_,hz,rfl⟩
 unfold Builtin.List.listExtendWith;refine wpAny_bind (wpAny_typeOf tyz ?_)
 have no:(Builtin.List.listSameRef (.ref L) (.ref z) || Value.type "zip" == Value.type "list" || Value.type "zip" == Value.type "tuple")=false:=by
  have:Builtin.List.listSameRef (.ref L) (.ref z)=false:=by simp[Builtin.List.listSameRef,Lz]
  rw[this];decide
 rw[no,if_neg Bool.false_ne_true]
 refine wpAny_bind (wpAny_pyIter_zip hz (wpAny_bind (wpAny_holding ?_)))
 unfold Builtin.List.listLengthHint;refine wpAny_bind (wpAny_specialOf tyz zcM ?_)
 show wpAny _ A.in1 (specialOf (Value.ref z) (Str.ofString "__length_hint__") >>= _) _ _ _
 refine wpAny_bind (wpAny_specialOf tyz zbX (wpAny_pure ?_))
 refine wpAny_bind (wpAny_rule (wpAny_bind ?_))
 unfold Builtin.List.listTouch Builtin.List.listUpdate;refine wpAny_bind (wpAny_updateSeq hL rfl ?_)
 have m2:=Heap.get?_update_self (Obj.mapSeq (·.push Value.none)) hL rfl
 refine wpAny_updateSeq m2 rfl ?_
 have m3:=Heap.get?_update_self (Obj.mapSeq (·.pop)) m2 rfl
 have oth:∀ b o,b≠L→s.heap.get? b=some o→((s.heap.update L (Obj.mapSeq (·.push Value.none))).update L (Obj.mapSeq (·.pop))).get? b=some o :=
  fun _ _ away was=>(Heap.get?_update_other _ _ (Ne.symm away)).trans ((Heap.get?_update_other _ _ (Ne.symm away)).trans was)
 have ne:=fun c (hc:c∈[z,TI,TO,i1,i2]++f1++f2)=>(fun q=>nL (q ▸ hc):c≠L)
 refine wpAny_pure ⟨plainId_quiet F.plain_extend_loop _,zgs (J:=J) (L:=L) S D1 D2 hle nL hn jn jf n 0 _ #[] _ (by lia) rfl ⟨oth _ _ (ne TI (by simp)) hI,D1.frame _ _ _ d1 fun b hb o e=>oth b o (ne b (by simp[hb])) e,D2.frame _ _ _ d2 fun b hb o e=>oth b o (ne b (by simp[hb])) e,.inl ⟨rfl,oth _ _ (ne z (by simp)) hz,_,_,oth _ _ (ne TO (by simp)) hO⟩⟩ (fun j v hv=>by simp at hv) m3 ?_ (jf #[] s _ s.toks j0 fun c o hc e=>oth c o (fun q=>hc (by simp[q])) e) fun h' tk acc' c' a1 j1 a2 a3 a4=>h h' tk acc' c' a1 j1 a2 a3⟩
 rw[Heap.size_update,Heap.size_update]
 exact Heap.lt_size hO
theorem zhn {Q:Value→Shared→Prop}{J:Array Value→Shared→Prop}(S:Sep z TI TO i1 i2 f1 f2) (D1:Draws prog w A.in1.in1.in1 i1 f1 n P1 S1) (D2:Draws prog w A.in1.in1.in1 i2 f2 n2 P2 S2) (hle:n≤n2) (hz:IsZip s.heap z TI TO .none) (hI:IsPair s.heap TI (.ref i1) (.ref i2)) {a b:Value}(hO:IsPair s.heap TO a b) (d1:S1 0 s.heap) (d2:S2 0 s.heap)
  (low:∀ c∈f1++f2,c<s.heap.objs.size) (hn:n≤sizeLine)
  (jn:∀ (acc:Array Value) (s':Shared) (h':Heap) tk x y,J acc s'→s.heap.objs.size<s'.heap.objs.size→P1 acc.size x→P2 acc.size y→IsPair h' s'.heap.objs.size x y→(∀ c o,c∉[z,TO,i1,i2]→s'.heap.get? c=some o→h'.get? c=some o)→J (acc.push (.ref s'.heap.objs.size)) { s' with heap:=h',toks:=tk })
  (jf:∀ (acc:Array Value) (s':Shared) (h':Heap) tk,J acc s'→(∀ c o,c∉[z,TO,i1,i2,s.heap.objs.size]→s'.heap.get? c=some o→h'.get? c=some o)→J acc { s' with heap:=h',toks:=tk })
  (j0:J #[] s)
  (h:∀ h' tk acc' c',acc'.size=n→J acc' { s with heap:=h',toks:=tk }→Kept [z,TI,TO,i1,i2,s.heap.objs.size] P1 P2 acc' h'→h'.get? s.heap.objs.size=some (seqObj "list" acc' c')→Q (.ref s.heap.objs.size) { s with heap:=h',toks:=tk }):wpAny (model prog w) A (call (.type "list") [.ref z]) Q E s:=by
 obtain⟨o1,e1⟩:=D1.live _ _ d1
 obtain⟨o2,e2⟩:=D2.live _ _ d2
 have nL:s.heap.objs.size∉[z,TI,TO,i1,i2]++f1++f2:=fun m=>by
  simp only[List.mem_append,List.mem_cons,List.not_mem_nil,or_false]at m
  rcases m with ((m|m|m|m|m)|m)|m
  ·exact Nat.ne_of_gt (Heap.lt_size hz) m
  ·exact Nat.ne_of_gt (Heap.lt_size hI) m
  ·exact Nat.ne_of_gt (Heap.lt_size hO) m
  ·exact Nat.ne_of_gt (Heap.lt_size e1) m
  ·exact Nat.ne_of_gt (Heap.lt_size e2) m
  ·exact Nat.lt_irrefl _ (low _ (List.mem_append_left _ m))
  ·exact Nat.lt_irrefl _ (low _ (List.mem_append_right _ m))
 refine callType_codes (Q₁:=fun obj t=>obj=.ref s.heap.objs.size∧t={ s with heap:=s.heap.push (seqObj "list" #[] 0) }) F.called_list (F.typeCall_list_1 _) F.entry_list_init (code_list_new _ ⟨rfl,rfl⟩) fun obj t ht=>?_
 obtain⟨rfl,rfl⟩:=ht
 have new:(s.heap.push (seqObj "list" #[] 0)).get? s.heap.objs.size=some (seqObj "list" #[] 0):=Heap.get?_push_size _ rfl
 have old:∀ c o,s.heap.get? c=some o→((s.heap.push (seqObj "list" #[] 0)).update s.heap.objs.size (Obj.mapSeq (fun _=>(#[]:Array Value)))).get? c=some o:=fun c o e=>(Heap.get?_update_other _ _ (Nat.ne_of_gt (Heap.lt_size e))).trans (Heap.get?_push_of_some _ e)
 have m2:=Heap.get?_update_self (Obj.mapSeq (fun _=>(#[]:Array Value))) new rfl
 refine⟨⟨_,new,rfl⟩,F.args_list_init_2 _ _,?_⟩
 show wpAny _ _ (do let was ← Builtin.List.listItems (.ref s.heap.objs.size);Builtin.List.listUpdate (.ref s.heap.objs.size) (fun _=>#[]);letGo was.toList.reverse;Builtin.List.listExtendWith (.ref s.heap.objs.size) (.ref z) .none) _ _ _
 refine wpAny_bind (m:=Builtin.List.listItems _) ?_
 unfold Builtin.List.listItems;refine wpAny_bind (wpAny_seqItems new rfl (wpAny_pure ?_))
 refine wpAny_bind (m:=updateSeq _ _) (wpAny_updateSeq new rfl (wpAny_bind (wpAny_letGo ?_)))
 refine zgR (A:=A.in1) (J:=J) (L:=s.heap.objs.size) S D1 D2 hle (old _ _ hz) (old _ _ hI) (old _ _ hO) (D1.frame _ _ _ d1 fun c _ o e=>old c o e) (D2.frame _ _ _ d2 fun c _ o e=>old c o e) m2 nL hn jn jf (jf #[] s _ s.toks j0 fun c o _ e=>old c o e) fun h' tk acc' c' a1 j1 a2 a3=>?_
 exact⟨rfl,h h' tk acc' c' a1 j1 a2 a3⟩
end
end Own
namespace Own
open PySem PySem.Spec PyProof.Rows Ts
section
variable {prog:Program}{w:World}{A:Around}{E:Value→Shared→Prop}{s:Shared}
theorem zin {x:Value}{Q:Value→Shared→Prop}
  (h:wpAny (model prog w) A.in1 (collect x) (fun vs s1=>∃ (κ:SortKind) (rv:Value→Int),vs.length≤63 ∧
   (∀ h':Heap,(∀ c o,s1.heap.get? c=some o→h'.get? c=some o)→2≤vs.length→∀ (A':Around) {Q:SortKind→Shared→Prop}{E:Value→Shared→Prop},Q κ { s1 with heap:=h' }→wpAny (model prog w) A' (keyKind' vs.toArray) Q E { s1 with heap:=h' }) ∧
   (∀ h':Heap,(∀ c o,s1.heap.get? c=some o→h'.get? c=some o)→∀ (A':Around),A'.units≤A.units+8→Cmp prog w A' { s1 with heap:=h' } κ (fun p=>p.1∈vs) (fun p=>rv p.1)) ∧
   ∀ (h':Heap) (l:Addr) (e:Nat) (out:List Value),s1.heap.objs.size≤l→h'.get? l=some (seqObj "list" out.toArray e)→out.Perm vs→out.Pairwise (fun x y=>rv x≤rv y)→(∀ c o,s1.heap.get? c=some o→h'.get? c=some o)→Q (.ref l) { s1 with heap:=h' }) E s) :
  wpAny (model prog w) A (call (.builtin "sorted") [x]) Q E s:=by
 refine Calls.call_function_entry kind_sorted plain_sorted entry_sorted (args_sorted1 _) ?_;unfold Builtin.«sorted»
 refine wpAny_bind (m:=checkCount "sorted" 1 1 _) (wpAny_pure (wpAny_bind (wpAny_mono h (fun vs s1 z=>?_) fun _ _ e=>e)))
 obtain⟨κ,rv,hz,hk,hc,fin⟩:=z
 have sl:vs.length≤sizeLine:=Nat.le_trans hz (by decide)
 refine wpAny_bind (wpAny_newList ?_ (hsz:=sl))
 have new:(s1.heap.push (seqObj "list" vs.toArray 0)).get? s1.heap.objs.size=some (seqObj "list" vs.toArray 0):=Heap.get?_push_size _ rfl
 have up:∀ h':Heap,(∀ c o,c≠s1.heap.objs.size→(s1.heap.push (seqObj "list" vs.toArray 0)).get? c=some o→h'.get? c=some o)→∀ c o,s1.heap.get? c=some o→h'.get? c=some o:=fun h' k c o e=>k c o (Nat.ne_of_lt (Heap.lt_size e)) (Heap.get?_push_of_some _ e)
 refine wpAny_bind (wpAny_holding (wpAny_call_entry slot_list_sort ⟨_,new,rfl⟩ entry_list_sort (zfs new hz κ rv (fun h' k l2=>hk h' (up h' k) l2 _) (fun h' k=>hc h' (up h' k) _ ?_) fun out p1 p2=>⟨_,rfl,?_⟩) (args_list_sort _)))
 ·show A.units+1+1≤A.units+8
  lia
 obtain⟨e,he⟩:=sortedHeap_at (out:=out.toArray) new
 refine wpAny_pure ⟨_,rfl,fin _ _ e out (Nat.le_refl _) he p1 p2 fun c o q=>?_⟩
 have lt:=Heap.lt_size q
 rw[sortedHeap_old (Nat.ne_of_lt lt) (by rw[size_push'];exact Nat.lt_succ_of_lt lt)]
 exact Heap.get?_push_of_some _ q
end
end Own
namespace L2
open PySem PySem.Spec PyProof.Rows Own Ts
inductive Lx (H:Hp):Nat→V→V→Ordering→Prop where
 | int (n:Nat) (i j:Int):Lx H n (.int i) (.int j) (compare i j)
 | row {n:Nat}{a b:Addr}{xs ys:List V}{cs:List Ordering}(ha:H a=some (.tup xs)) (hb:H b=some (.tup ys)) (l1:xs.length=cs.length) (l2:ys.length=cs.length) (h:∀ (i:Nat) u v c,xs[i]?=some u→ys[i]?=some v→cs[i]?=some c→Lx H n u v c) :
   Lx H (n+1) (.ref a) (.ref b) (cs.foldr Ordering.then .eq)
theorem Lx.pair {H:Hp}{n:Nat}{a b:Addr}{x1 x2 y1 y2:V}{c1 c2:Ordering}(ha:H a=some (.tup [x1,x2])) (hb:H b=some (.tup [y1,y2])) (h1:Lx H n x1 y1 c1) (h2:Lx H n x2 y2 c2):Lx H (n+1) (.ref a) (.ref b) (c1.then c2):=by
 have e:c1.then c2=[c1,c2].foldr Ordering.then .eq:=by cases c1<;>cases c2<;>rfl
 rw[e]
 refine .row ha hb rfl rfl fun i u v c hu hv hc=>?_
 rcases i with _|_|i
 ·cases hu;cases hv;cases hc;exact h1
 ·cases hu;cases hv;cases hc;exact h2
 ·simp at hu
theorem zch:∀ {cs:List Ordering},cs.foldr Ordering.then .eq=.eq↔∀ c∈cs,c=.eq
 | []=>by simp
 | c::cs=>by
  rw[List.foldr_cons]
  constructor
  ·intro h
   cases c<;>simp[Ordering.then]at h
   intro d hd
   rcases List.mem_cons.mp hd with rfl|hd2
   ·rfl
   ·exact zch.mp h d hd2
  ·intro h
   rw[h c List.mem_cons_self]
   exact zch.mpr fun d hd=>h d (List.mem_cons_of_mem _ hd)
theorem zdr:∀ {cs:List Ordering},cs.foldr Ordering.then .eq≠.eq→∃ (k:Nat) (c:Ordering),cs[k]?=some c∧c≠.eq∧cs.foldr Ordering.then .eq=c∧∀ j:Nat,j<k→cs[j]?=some Ordering.eq
 | [],h=>absurd rfl h
 | c::cs,h=>by
  by_cases z:c=.eq
  ·subst z
   have e:(Ordering.eq::cs).foldr Ordering.then .eq=cs.foldr Ordering.then .eq:=rfl
   rw[e]at h ⊢
   obtain⟨k,d,h1,h2,h3,h4⟩:=zdr h
   refine⟨k+1,d,by simpa using h1,h2,h3,fun j hj=>?_⟩
   cases j with
   | zero=>rfl
   | succ j=>simpa using h4 j (by lia)
  ·refine⟨0,c,rfl,z,?_,fun j hj=>by lia⟩
   rw[List.foldr_cons]
   cases c<;>first|rfl|exact absurd rfl z
section
variable {X:Cx}
theorem zbF (i j:Int):(compare i j == .eq)=decide (i=j)∧(compare i j == .lt)=decide (i<j):=by
 rw[show compare i j=compareOfLessAndEq i j from rfl]
 unfold compareOfLessAndEq
 by_cases h1:i<j
 ·rw[if_pos h1,decide_eq_true h1,decide_eq_false (by lia)];exact⟨rfl,rfl⟩
 ·rw[if_neg h1,decide_eq_false h1]
  by_cases h2:i=j
  ·rw[if_pos h2,decide_eq_true h2];exact⟨rfl,rfl⟩
  ·rw[if_neg h2,decide_eq_false h2];exact⟨rfl,rfl⟩
theorem Lx.refl {H:Hp}{n:Nat}{x y:V}{c:Ordering}(h:Lx H n x y c):x=y→c=.eq:=by
 induction h with
 | int n i j =>
  intro e
  cases e
  have:=(zbF i i).1
  rw[decide_eq_true rfl]at this
  simpa using this
 | @row n a b xs ys cs ha hb l1 l2 h ih =>
  intro e
  cases e
  rw[ha]at hb
  cases hb
  refine zch.mpr fun c hc=>?_
  obtain⟨i,hi⟩:=List.mem_iff_getElem?.mp hc
  have il:=(List.getElem?_eq_some_iff.mp hi).1
  exact ih i _ _ c (List.getElem?_eq_getElem (by lia)) (List.getElem?_eq_getElem (by lia)) hi rfl
theorem ziZ {pins:List (Addr × Obj)}{σ:St}{H:Hp}{s:Shared}(I:Inv X pins σ H s) {n:Nat}{x y:V}{c:Ordering}(h:Lx H n x y c):∀ (A:Around) (u v:Value),A.units+n<cLine→RelV x u→RelV y v→SeqAt.EqAt A s u v (c == .eq):=by
 induction h with
 | int n i j =>
  intro A u v _ r1 r2
  have:=zde (A:=A) (s:=s) (x:=.int j) (y:=.int i) r1 r2 rfl rfl
  rw[(zbF i j).1]
  have e:eqV (.int i) (.int j)=decide (i=j):=by
   show (i == j)=decide (i=j)
   by_cases z:i=j<;>simp[z]
  rwa [e]at this
 | @row n a b xs ys cs ha hb l1 l2 h ih =>
  intro A u v hu r1 r2
  cases r1;cases r2
  by_cases ab:a=b
  ·subst ab
   have:cs.foldr Ordering.then .eq=.eq:=Lx.refl (.row ha hb l1 l2 h) rfl
   rw[this];exact SeqAt.EqAt.same _
  ·obtain⟨its,g1,p1,_⟩:=I.tuple (SqT.of ha)
   obtain⟨jts,g2,p2,_⟩:=I.tuple (SqT.of hb)
   have m1:=g1.length
   have m2:=g2.length
   refine SeqAt.EqAt.of_refs ab ?_
   have e:((List.range (min its.toArray.size jts.toArray.size)).all (fun j=>(cs.getD j .eq) == .eq) && its.toArray.size == jts.toArray.size)=(cs.foldr Ordering.then .eq == .eq):=by
    rw[List.size_toArray,List.size_toArray,← m1,← m2,l1,l2,beq_self_eq_true,Bool.and_true,Nat.min_self]
    by_cases z:cs.foldr Ordering.then .eq=.eq
    ·rw[z]
     refine(List.all_eq_true.mpr fun j hj=>?_).trans rfl
     have jl:=List.mem_range.mp hj
     rw[List.getD_eq_getElem?_getD,List.getElem?_eq_getElem jl,Option.getD_some,zch.mp z _ (List.getElem_mem jl)];rfl
    ·obtain⟨k,d,h1,h2,h3,_⟩:=zdr z
     have kl:=(List.getElem?_eq_some_iff.mp h1).1
     rw[h3]
     have f1:(d == Ordering.eq)=false:=by simpa using h2
     rw[f1]
     refine Bool.eq_false_iff.mpr fun t=>?_
     have:=List.all_eq_true.mp t k (List.mem_range.mpr kl)
     rw[List.getD_eq_getElem?_getD,h1,Option.getD_some,f1]at this
     cases this
   have:=SeqAt.RcAt.tuples (e:=fun j=>(cs.getD j .eq) == .eq) p1 p2 (A:=A) (s:=s) (by lia) (fun j k1 k2=>?_)
   ·rwa [e]at this
   ·have k1':j<xs.length:=by simpa [m1] using k1
    have k2':j<ys.length:=by simpa [m2] using k2
    obtain⟨w1,e1,q1⟩:=g1.get (List.getElem?_eq_getElem k1')
    obtain⟨w2,e2,q2⟩:=g2.get (List.getElem?_eq_getElem k2')
    have z1:its.toArray[j]=w1:=by simpa using (List.getElem?_eq_some_iff.mp e1).2
    have z2:jts.toArray[j]=w2:=by simpa using (List.getElem?_eq_some_iff.mp e2).2
    have kc:j<cs.length:=by lia
    rw[z1,z2,List.getD_eq_getElem?_getD,List.getElem?_eq_getElem kc,Option.getD_some]
    exact ih j _ _ _ (List.getElem?_eq_getElem k1') (List.getElem?_eq_getElem k2') (List.getElem?_eq_getElem kc) A.in1 _ _ (by show A.units+1+n<cLine;lia) q1 q2
theorem zkz {pins:List (Addr × Obj)}{σ:St}{H:Hp}{s:Shared}(I:Inv X pins σ H s) {n:Nat}{x y:V}{c:Ordering}(h:Lx H n x y c):c≠.eq→∀ (A:Around) (u v:Value),A.units+n<cLine→RelV x u→RelV y v→LtAt A s u v (c == .lt):=by
 induction h with
 | int n i j =>
  intro _ A u v _ ⟨t1,e1⟩ ⟨t2,e2⟩
  subst e1 e2
  rw[(zbF i j).2]
  exact LtAt.ints i j t1 t2
 | @row n a b xs ys cs ha hb l1 l2 h ih =>
  intro ne A u v hu r1 r2
  cases r1;cases r2
  obtain⟨its,g1,p1,_⟩:=I.tuple (SqT.of ha)
  obtain⟨jts,g2,p2,_⟩:=I.tuple (SqT.of hb)
  have m1:=g1.length
  have m2:=g2.length
  obtain⟨k,d,h1,h2,h3,h4⟩:=zdr ne
  have kl:=(List.getElem?_eq_some_iff.mp h1).1
  have at_:∀ j (k1:j<its.toArray.size) (k2:j<jts.toArray.size),∃ (j1:j<xs.length) (j2:j<ys.length),RelV xs[j] its.toArray[j]∧RelV ys[j] jts.toArray[j]:=fun j k1 k2=>by
   have k1':j<xs.length:=by simpa [m1] using k1
   have k2':j<ys.length:=by simpa [m2] using k2
   obtain⟨w1,e1,q1⟩:=g1.get (List.getElem?_eq_getElem k1')
   obtain⟨w2,e2,q2⟩:=g2.get (List.getElem?_eq_getElem k2')
   have z1:its.toArray[j]=w1:=by simpa using (List.getElem?_eq_some_iff.mp e1).2
   have z2:jts.toArray[j]=w2:=by simpa using (List.getElem?_eq_some_iff.mp e2).2
   rw[z1,z2]
   exact⟨k1',k2',q1,q2⟩
  rw[h3]
  have b1:k<its.toArray.size:=by rw[List.size_toArray];lia
  have b2:k<jts.toArray.size:=by rw[List.size_toArray];lia
  obtain⟨j1,j2,r1,r2⟩:=at_ k b1 b2
  refine LtAt.tuples (k:=k) p1 p2 (by lia) b1 b2 (fun j k1 k2 hj=>?_) ?_ ?_
  ·obtain⟨j1,j2,r1,r2⟩:=at_ j k1 k2
   exact ziZ I (h j _ _ _ (List.getElem?_eq_getElem j1) (List.getElem?_eq_getElem j2) (h4 j hj)) A.in1 _ _ (by show A.units+1+n<cLine;lia) r1 r2
  ·have:=ziZ I (h k _ _ _ (List.getElem?_eq_getElem j1) (List.getElem?_eq_getElem j2) h1) A.in1 _ _ (by show A.units+1+n<cLine;lia) r1 r2
   rwa [show (d == Ordering.eq)=false from by simpa using h2]at this
  ·exact ih k _ _ _ (List.getElem?_eq_getElem j1) (List.getElem?_eq_getElem j2) h1 h2 A.in1 _ _ (by show A.units+1+n<cLine;lia) r1 r2
end
def Rk (H:Hp) (xs:List V) (rk:V→Int):Prop:=(∀ x∈xs,∃ i,x=.int i∧rk x=i)∨∃ n,n≤20∧∀ x∈xs,(∃ a f r,x=.ref a∧H a=some (.tup (.int f::r)))∧∀ y∈xs,Lx H n x y (compare (rk x) (rk y))
def vOf:Value→V
 | .int i _=>.int i
 | .ref a=>.ref a
 | _=>.non
theorem zdn:∀ {xs:List V}{us:List Value},Vals xs us→(∀ x∈xs,(∃ i,x=.int i)∨∃ a,x=.ref a)→xs=us.map vOf∧∀ u∈us,RelV (vOf u) u
 | _,_,.nil,_=>⟨rfl,fun u hu=>by simp at hu⟩
 | x::xs,u::us,.cons r rs,h=>by
  obtain⟨e,f⟩:=zdn rs fun y hy=>h y (List.mem_cons_of_mem _ hy)
  have one:vOf u=x∧RelV (vOf u) u:=by
   rcases h x List.mem_cons_self with ⟨i,rfl⟩|⟨a,rfl⟩
   ·obtain⟨t,rfl⟩:=r;exact⟨rfl,t,rfl⟩
   ·cases r;exact⟨rfl,rfl⟩
  refine⟨by rw[List.map_cons,one.1,← e],fun v hv=>?_⟩
  rcases List.mem_cons.mp hv with rfl|hv2
  ·exact one.2
  ·exact f v hv2
theorem zcO:∀ {us:List Value},(∀ u∈us,RelV (vOf u) u)→Vals (us.map vOf) us
 | [],_=>.nil
 | u::us,h=>.cons (h u List.mem_cons_self) (zcO fun v hv=>h v (List.mem_cons_of_mem _ hv))
theorem Rk.kinds {H:Hp}{xs:List V}{rk:V→Int}(h:Rk H xs rk):∀ x∈xs,(∃ i,x=.int i)∨∃ a,x=.ref a:=fun x hx=>by
 rcases h with h|⟨n,_,h⟩
 ·obtain⟨i,e,_⟩:=h x hx;exact .inl ⟨i,e⟩
 ·obtain⟨⟨a,_,_,e,_⟩,_⟩:=h x hx;exact .inr ⟨a,e⟩
section
variable {prog:Program}{w:World}{A:Around}{E:Value→Shared→Prop}{s:Shared}
theorem zg9 {u v:Value}{b:Bool}{Q:Bool→Shared→Prop}(l:LtAt A s u v b) (h:Q b s):wpAny (model prog w) A (oneLt' false u v) Q E s:=by
 rw[oneLt'_eq,if_neg Bool.false_ne_true]
 exact wpAny_bind (l prog w _ _ (wpAny_truthy_bool h))
theorem zi5 {Q:Bool→Shared→Prop}(cs:List Ordering):∀ (us vs:List Value) (i:Nat),us.length=cs.length→vs.length=cs.length→(∀ (j:Nat) u v c,us[j]?=some u→vs[j]?=some v→cs[j]?=some c→SeqAt.EqAt A s u v (c == .eq)∧(c≠.eq→LtAt A s u v (c == .lt))) →
  (i=0→∀ u v c,us[0]?=some u→vs[0]?=some v→cs[0]?=some c→∃ a b t t',u=.int a t∧v=.int b t'∧c=compare a b)→Q (cs.foldr Ordering.then .eq == .lt) s→PySem.W.KatLex prog w A true false Q (us.zip vs) i s:=by
 induction cs with
 | nil =>
  intro us vs i l1 l2 _ _ q
  rw[List.length_eq_zero_iff.mp l1]
  exact PySem.W.kat_nil q
 | cons c cs ih =>
  intro us vs i l1 l2 h h0 q
  obtain⟨u,us,rfl⟩:∃ u us',us=u::us':=by
   cases us with
   | nil=>simp at l1
   | cons u us=>exact⟨u,us,rfl⟩
  obtain⟨v,vs,rfl⟩:∃ v vs',vs=v::vs':=by
   cases vs with
   | nil=>simp at l2
   | cons v vs=>exact⟨v,vs,rfl⟩
  have hh:=h 0 u v c rfl rfl rfl
  refine PySem.W.kat_cons (hh.1 prog w _ _ ?_)
  by_cases z:c=.eq
  ·subst z
   refine PySem.W.kat_yes (ih us vs (i+1) (by simpa using l1) (by simpa using l2) (fun j u v c a1 a2 a3=>h (j+1) u v c (by simpa using a1) (by simpa using a2) (by simpa using a3)) (fun e=>by lia) q)
  ·have e1:(c == Ordering.eq)=false:=by simpa using z
   have e2:(c::cs).foldr Ordering.then .eq=c:=by
    rw[List.foldr_cons]
    cases c<;>first|rfl|exact absurd rfl z
   rw[e2]at q
   rw[e1]
   refine PySem.W.kat_no ?_
   by_cases i0:i=0
   ·obtain⟨a,b,t,t',rfl,rfl,ec⟩:=h0 i0 u v c rfl rfl rfl
    subst i0
    rw[ec,(zbF a b).2]at q
    exact oneLt_int q
   ·have:(true && i == 0)=false:=by simpa using i0
    rw[this]
    exact zg9 (hh.2 z) q
end
section
variable {X:Cx}
theorem asks {pins:List (Addr × Obj)}{σ:St}{H:Hp}{s1:Shared}(I:Inv X pins σ H s1) (hu:X.A.units+64<cLine) {xs:List V}{vs:List Value}{rk:V→Int}(r:Vals xs vs) (R:Rk H xs rk) :
  ∃ κ:SortKind,(∀ h':Heap,(∀ c o,s1.heap.get? c=some o→h'.get? c=some o)→2≤vs.length→∀ (A':Around) {Q:SortKind→Shared→Prop}{E:Value→Shared→Prop},Q κ { s1 with heap:=h' }→wpAny (model X.prog X.w) A' (keyKind' vs.toArray) Q E { s1 with heap:=h' }) ∧
   (∀ h':Heap,(∀ c o,s1.heap.get? c=some o→h'.get? c=some o)→∀ (A':Around),A'.units≤X.A.units+8→Cmp X.prog X.w A' { s1 with heap:=h' } κ (fun p=>p.1∈vs) (fun p=>rk (vOf p.1))):=by
 obtain⟨ex,rel⟩:=zdn r R.kinds
 have mem:∀ u∈vs,vOf u∈xs:=fun u hu=>by rw[ex];exact List.mem_map.mpr ⟨u,hu,rfl⟩
 rcases R with R|⟨n,hn,R⟩
 ·have nms:∀ u∈vs,∃ i t,u=.int i t∧rk (vOf u)=i:=fun u hu=>by
   obtain⟨i,e,ei⟩:=R _ (mem u hu)
   have ru:=rel u hu
   rw[e]at ru
   obtain⟨t,rfl⟩:=ru
   exact⟨i,t,rfl,ei⟩
  refine⟨oneType',fun h' k l2 A' Q E q=>PySem.W.kas_kind l2 (T:=.type "int") (fun v hv=>?_) (by decide) (by decide) q,fun h' k A' _=>⟨fun x y hx hy Q E q=>?_⟩⟩
  ·obtain⟨i,t,rfl,_⟩:=nms v hv
   exact PySem.W.Looks.of_pure rfl
  ·obtain⟨x1,x2⟩:=x
   obtain⟨y1,y2⟩:=y
   obtain⟨i,t,e1,r1⟩:=nms x1 hx
   obtain⟨j,t',e2,r2⟩:=nms y1 hy
   simp only at q
   rw[r1,r2]at q
   subst e1 e2
   show wpAny _ _ (keyLt' oneType' (.int i t) (.int j t')) _ _ _
   rw[keyLt'_oneType]
   exact oneLt_int q
 ·refine⟨tuples' (Value.type "int" != Value.type "tuple"),fun h' k l2 A' Q E q=>?_,fun h' k A' hA=>⟨fun x y hx hy Q E q=>?_⟩⟩
  ·have I':Inv X pins σ H { s1 with heap:=h',toks:=s1.toks }:=I.kept k
   have kt:∀ us:List Value,(∀ u∈us,vOf u∈xs∧RelV (vOf u) u)→∃ fs,PySem.W.KatTups h' us fs∧fs.length=us.length∧∀ f∈fs,∃ i t,f=Value.int i t:=by
    intro us
    induction us with
    | nil=>intro _;exact⟨[],PySem.W.KatTups.nil,rfl,fun f hf=>by simp at hf⟩
    | cons u us ih =>
     intro h
     obtain⟨fs,k1,k2,k3⟩:=ih fun v hv=>h v (List.mem_cons_of_mem _ hv)
     obtain⟨m1,r1⟩:=h u List.mem_cons_self
     obtain⟨⟨a,f,rr,e,ha⟩,_⟩:=R _ m1
     rw[e]at r1
     cases r1
     obtain⟨its,g,⟨o,eo,co,no,dt⟩,_⟩:=I'.tuple (SqT.of ha)
     obtain⟨f0,ef,⟨t0,rfl⟩⟩:=g.get (i:=0) (x:=.int f) rfl
     exact⟨_,PySem.W.KatTups.cons eo co dt (by simpa using ef) k1,by rw[List.length_cons,List.length_cons,k2],fun f' hf=>by
      rcases List.mem_cons.mp hf with rfl|hf
      ·exact⟨_,_,rfl⟩
      ·exact k3 f' hf⟩
   obtain⟨fs,k1,k2,k3⟩:=kt vs fun u hu=>⟨mem u hu,rel u hu⟩
   refine PySem.W.kat_kind (T:=.type "int") k1 (by lia) (fun v hv=>?_) (by decide) q
   obtain⟨i,t,rfl⟩:=k3 v hv
   exact PySem.W.Looks.of_pure rfl
  ·have I':Inv X pins σ H { s1 with heap:=h',toks:=s1.toks }:=I.kept k
   obtain⟨x1,x2⟩:=x
   obtain⟨y1,y2⟩:=y
   have rx:=rel x1 hx
   have ry:=rel y1 hy
   obtain⟨⟨a,f,xr,ea,ha⟩,lx⟩:=R _ (mem x1 hx)
   obtain⟨⟨b,g,yr,eb,hb⟩,_⟩:=R _ (mem y1 hy)
   have L:=lx _ (mem y1 hy)
   simp only at q
   rw[ea]at rx L q
   rw[eb]at ry L q
   cases rx;cases ry
   generalize hc:compare (rk (V.ref a)) (rk (V.ref b))=c at L
   rw[← (zbF (rk (V.ref a)) (rk (V.ref b))).2,hc]at q
   cases L with
   | @row n _ _ xs' ys' cs ha' hb' l1 l2 hL =>
    rw[ha]at ha';cases ha'
    rw[hb]at hb';cases hb'
    obtain⟨its,g1,⟨o1,eo1,co1,no1,dt1⟩,_⟩:=I'.tuple (SqT.of ha)
    obtain⟨jts,g2,⟨o2,eo2,co2,no2,dt2⟩,_⟩:=I'.tuple (SqT.of hb)
    have m1:=g1.length
    have m2:=g2.length
    show wpAny _ _ (keyLt' (tuples' true) (.ref a) (.ref b)) _ _ _
    refine PySem.W.kat_lt eo1 dt1 eo2 dt2 ?_
    have ds:decide (its.toArray.size<jts.toArray.size)=false:=decide_eq_false (by rw[List.size_toArray,List.size_toArray];lia)
    rw[ds]
    refine zi5 cs its jts 0 (by lia) (by lia) (fun j u v c hu' hv hc'=>?_) (fun _ u v c hu' hv hc'=>?_) q
    ·have j1:j<(V.int f::xr).length:=by have:=(List.getElem?_eq_some_iff.mp hu').1;lia
     have j2:j<(V.int g::yr).length:=by have:=(List.getElem?_eq_some_iff.mp hv).1;lia
     obtain⟨u',e1,q1⟩:=g1.get (List.getElem?_eq_getElem j1)
     obtain⟨v',e2,q2⟩:=g2.get (List.getElem?_eq_getElem j2)
     rw[hu']at e1;obtain rfl:=Option.some.inj e1
     rw[hv]at e2;obtain rfl:=Option.some.inj e2
     have LL:=hL j _ _ c (List.getElem?_eq_getElem j1) (List.getElem?_eq_getElem j2) hc'
     exact⟨ziZ I' LL A' _ _ (by lia) q1 q2,fun ne=>zkz I' LL ne A' _ _ (by lia) q1 q2⟩
    ·obtain⟨u',e1,t1,r1⟩:=g1.get (i:=0) (x:=.int f) rfl
     obtain⟨v',e2,t2,r2⟩:=g2.get (i:=0) (x:=.int g) rfl
     rw[hu']at e1;obtain rfl:=Option.some.inj e1
     rw[hv]at e2;obtain rfl:=Option.some.inj e2
     have LL:=hL 0 (.int f) (.int g) c rfl rfl hc'
     cases LL
     exact⟨f,g,t1,t2,r1,r2,rfl⟩
end
section
variable {X:Cx}
end
end L2
namespace L2
open PySem PySem.Spec PyProof.Rows Own
section
variable {prog:Program}{w:World}{A:Around}{E:Value→Shared→Prop}{s:Shared}
end
section
variable {X:Cx}
end
section
variable {X:Cx}
end
section
variable {X:Cx}
end
theorem zhq {K:PySem.W.Frag}{b:Bool}{a:Addr}{xs:List V}{g:TG}{tt:TT}{te:TE}{l:Addr}{σ:St}{H:Hp}{Q:VK}(Pv:Nat→List V→St→Hp→Prop) (h0:Pv 0 [] σ H) (hl:∀ i acc σ H,Pv i acc σ H→H l=some (.lst acc)∧SqB b K H a xs)
  (hs:∀ (i:Nat) acc σ H x T,xs[i]?=some x→H T=none→Pv i acc σ H→g (.ref T) σ (upd H T (.tup [.int i,x])) fun σ3 H3=>tt σ3 H3 fun b H4=>if b=true then te σ3 H4 fun z H5=>H5 l=some (.lst acc)∧acc.length<sizeLine∧Nx xs.length i (Pv (i+1) (acc++[z]) σ3 (upd H5 l (.lst (acc++[z])))) else Nx xs.length i (Pv (i+1) acc σ3 H4))
  (hd:∀ acc σ H,Pv xs.length acc σ H→Q (.ref l) H):∃ W:Nat→Nat→List V→St→Hp→Prop,(∃ m,W 0 m [] σ H)∧LCW (Ite K b a) g tt te l Q W:=by
 refine⟨fun i m acc σ H=>m=xs.length-i∧i≤xs.length∧Pv i acc σ H,⟨_,rfl,Nat.zero_le _,h0⟩,?_⟩
 rintro i m acc σ H ⟨rfl,hi,p⟩
 obtain⟨q0,q1⟩:=hl i acc σ H p
 refine⟨q0,?_⟩
 by_cases hlt:i<xs.length
 ·refine .inr ⟨⟨xs,_,q1,List.getElem?_eq_getElem hlt⟩,fun v H2 ⟨y,ey,T,hT,e1,e2⟩=>?_⟩
  subst e1 e2
  exact hs i acc σ H y T (ey xs q1) hT p
 ·obtain rfl:i=xs.length:=by lia
  exact .inl ⟨⟨xs,q1,rfl⟩,hd acc σ H p⟩
end L2
namespace Bn
open PySem L2 Own
def big (x y:Int):Int:=if y > x then y else x
def zaS (st:List Int × List Int) (f:Nat × Nat):List Int × List Int :=
 ((st.1.set f.1 (1+big (st.1.getD f.1 0) (st.1.getD f.2 0))).set f.2 (1+big (st.1.getD f.1 0) (st.1.getD f.2 0)),st.2++[1+big (st.1.getD f.1 0) (st.1.getD f.2 0)])
def lay (n:Nat) (fs:List (Nat × Nat)):List Int × List Int:=fs.foldl zaS (List.replicate n 0,[])
theorem zem {n:Nat}{fs:List (Nat × Nat)}{i:Nat}{f:Nat × Nat}(h:fs[i]?=some f):lay n (fs.take (i+1))=zaS (lay n (fs.take i)) f:=by
 have w:=List.getElem?_eq_some_iff.mp h
 rw[List.take_succ_eq_append_getElem w.1,w.2]
 unfold lay
 rw[List.foldl_append];rfl
theorem zcz {n:Nat}:∀ (i:Nat) (fs:List (Nat × Nat)),i≤fs.length→(lay n (fs.take i)).1.length=n∧(lay n (fs.take i)).2.length=i
 | 0,fs,_=>by simp[lay]
 | i+1,fs,h=>by
  have ih:=zcz (n:=n) i fs (by lia)
  rw[zem (List.getElem?_eq_getElem (by lia))]
  unfold zaS
  simp[ih.1,ih.2]
def zkx (g f:Nat × Nat):Bool:=decide (g.1=f.1∨g.1=f.2) || decide (g.2=f.1∨g.2=f.2)
def ahead (fs:List (Nat × Nat)) (fo:List Int) (f:Nat × Nat) (i:Nat):List Int:=((List.range i).filter fun j=>zkx (fs.getD j (0,0)) f).map fun j=>fo.getD j 0
def zc9 (N:Nt):List Int:=(lay N.lanes N.forks).2
theorem zeS (N:Nt):(zc9 N).length=N.forks.length:=by
 have:=(zcz (n:=N.lanes) N.forks.length N.forks (Nat.le_refl _)).2
 rwa [List.take_length]at this
abbrev Fk:=Nat × Nat
def run {σ α:Type}(step:σ→Fk→σ × α):σ→List Fk→σ × List (α × Fk)
 | s,[]=>(s,[])
 | s,f::fs=>((run step (step s f).1 fs).1,((step s f).2,f)::(run step (step s f).1 fs).2)
theorem zcT {σ α:Type}(step:σ→Fk→σ × α):∀ (s:σ) (fs:List Fk),(run step s fs).2.map Prod.snd=fs
 | _,[]=>rfl
 | s,f::fs=>by
  show f::((run step (step s f).1 fs).2.map Prod.snd)=f::fs
  rw[zcT step]
def layS (re:List Int) (f:Fk):List Int × Int:=((re.set f.1 (1+big (re.getD f.1 0) (re.getD f.2 0))).set f.2 (1+big (re.getD f.1 0) (re.getD f.2 0)),1+big (re.getD f.1 0) (re.getD f.2 0))
theorem zge:∀ (fs:List Fk) (re fo:List Int),fs.foldl zaS (re,fo)=((run layS re fs).1,fo++(run layS re fs).2.map Prod.fst)
 | [],re,fo=>by
  show (re,fo)=(re,fo++[])
  rw[List.append_nil]
 | f::fs,re,fo=>by
  rw[List.foldl_cons]
  show fs.foldl zaS ((layS re f).1,fo++[(layS re f).2])=_
  rw[zge fs]
  show (_,fo++[(layS re f).2]++_)=(_,fo++((layS re f).2::_))
  rw[List.append_assoc];rfl
def pz (N:Nt):List (Int × Fk):=(run layS (List.replicate N.lanes 0) N.forks).2
theorem zfH (N:Nt):(pz N).map Prod.fst=zc9 N:=by
 unfold zc9 lay pz
 rw[zge];rfl
theorem zct (N:Nt):(pz N).map Prod.snd=N.forks:=zcT _ _ _
def rnk (x:Int × Fk):Int:=x.1*1024+x.2.1*32+x.2.2
def ins (x:Int × Fk):List (Int × Fk)→List (Int × Fk)
 | []=>[x]
 | y::l=>if rnk x≤rnk y then x::y::l else y::ins x l
def zeV:List (Int × Fk)→List (Int × Fk)
 | []=>[]
 | x::l=>ins x (zeV l)
theorem insP (x:Int × Fk):∀ l,(ins x l).Perm (x::l)
 | []=>.refl _
 | y::l=>by
  unfold ins
  split
  ·exact .refl _
  ·exact((insP x l).cons y).trans (List.Perm.swap x y l)
theorem zaL:∀ l,(zeV l).Perm l
 | []=>.refl _
 | x::l=>(insP x _).trans ((zaL l).cons x)
theorem zb9 (x:Int × Fk):∀ l:List (Int × Fk),l.Pairwise (fun a b=>rnk a≤rnk b)→(ins x l).Pairwise (fun a b=>rnk a≤rnk b)
 | [],_=>List.pairwise_singleton _ _
 | y::l,h=>by
  obtain⟨h1,h2⟩:=List.pairwise_cons.mp (id h)
  unfold ins
  split
  ·next le =>
   refine List.pairwise_cons.mpr ⟨fun z hz=>?_,h⟩
   rcases List.mem_cons.mp hz with rfl|hz2
   ·exact le
   ·exact Int.le_trans le (h1 z hz2)
  ·next gt =>
   refine List.pairwise_cons.mpr ⟨fun z hz=>?_,zb9 x l h2⟩
   rcases List.mem_cons.mp ((insP x l).mem_iff.mp hz) with rfl|hz
   ·lia
   ·exact h1 z hz
theorem zbk:∀ l,(zeV l).Pairwise (fun a b=>rnk a≤rnk b)
 | []=>List.Pairwise.nil
 | x::l=>zb9 x _ (zbk l)
theorem zco {a b:List (Int × Fk)}(p:a.Perm b) (bd:∀ y∈b,y.2.1<32∧y.2.2<32) (sa:a.Pairwise (fun x y=>rnk x≤rnk y)) (sb:b.Pairwise (fun x y=>rnk x≤rnk y)):a=b:=by
 refine List.Perm.eq_of_pairwise (le:=fun x y=>rnk x≤rnk y) (fun x y hx hy h1 h2=>?_) sa sb p
 have bx:=bd x (p.mem_iff.mp hx)
 have by':=bd y hy
 obtain⟨x1,x2,x3⟩:=x
 obtain⟨y1,y2,y3⟩:=y
 unfold rnk at h1 h2
 simp only at h1 h2 bx by'
 have e1:x1=y1:=by lia
 have e2:x2=y2:=by lia
 have e3:x3=y3:=by lia
 rw[e1,e2,e3]
def zcZ (N:Nt):List Fk:=(zeV (pz N)).map Prod.snd
def zcY (N:Nt):Nt:=⟨N.lanes,zcZ N,N.ends⟩
theorem zjF {N:Nt}{y:Int × Fk}(h:y∈pz N):y.2∈N.forks:=by
 rw[← zct N];exact List.mem_map.mpr ⟨y,h,rfl⟩
theorem zhP {N:Nt}(ok:N.Ok):∀ y∈pz N,y.2.1<32∧y.2.2<32:=fun y hy=>by
 have:=ok.fk y.2 (zjF hy)
 have:=ok.l16
 lia
theorem zb2 (N:Nt):(zcZ N).Perm N.forks:=by
 have:=(zaL (pz N)).map Prod.snd
 rwa [zct]at this
theorem zbp {N:Nt}(ok:N.Ok):(zcY N).Ok:=⟨ok.l1,ok.l16,by
 show (zcZ N).length≤128
 rw[(zb2 N).length_eq];exact ok.fm,fun f hf=>ok.fk f ((zb2 N).mem_iff.mp hf),ok.en⟩
theorem zbC {N:Nt}(ok:N.Ok) {zs:List (Int × Fk)}(p:zs.Perm (pz N)) (so:zs.Pairwise (fun a b=>rnk a≤rnk b)):zs=zeV (pz N) :=
 zco (p.trans (zaL _).symm) (fun y hy=>zhP ok y ((zaL _).mem_iff.mp hy)) so (zbk _)
end Bn
namespace L2
open PySem PySem.Spec PyProof.Rows Own Ts
def Zip2 (H:Hp) (ts xs ys:List V):Prop:=ts.length=xs.length∧∀ (i:Nat) t,ts[i]?=some t→∃ a x y,t=.ref a∧xs[i]?=some x∧ys[i]?=some y∧H a=some (.tup [x,y])
def zgW (K:PySem.W.Frag) (b1 b2:Bool) (ta:TA):TE:=fun σ H Q=>ta σ H fun vs H1=>∃ a1 a2 xs ys,vs=[.ref a1,.ref a2]∧SqB b1 K H1 a1 xs∧SqB b2 K H1 a2 ys∧ys.length=xs.length∧xs.length≤63 ∧
 ∀ ts H2,Same H1 H2→Zip2 H2 ts xs ys→∃ rk,Rk H2 ts rk∧∀ l zs,H2 l=none→zs.Perm ts→zs.Pairwise (fun x y=>rk x≤rk y)→Q (.ref l) (upd H2 l (.lst zs))
theorem zeG {X:Cx}{a b:Expr}{ta:TA}{p p2 pos pos2:Pos}(b1 b2:Bool) (hg:Gl X "sorted") (hm:X.mg "sorted" = none) (hg2:Gl X "zip") (hm2:X.mg "zip" = none) (hc:X.calm=true) (hu:X.A.units+64<cLine) (ha:PA X [a,b] ta)
  (he:starEach [Expr.Call (.Name "zip" p2) [a,b] [] pos2] X.env=[(false,eval (Expr.Call (.Name "zip" p2) [a,b] [] pos2) X.env)]:=by rfl)
  (hs:starEach [a,b] X.env=[(false,eval a X.env),(false,eval b X.env)]:=by rfl) (hs2:starEach [b] X.env=[(false,eval b X.env)]:=by rfl) :
  PE X (.Call (.Name "sorted" p) [.Call (.Name "zip" p2) [a,b] [] pos2] [] pos) (zgW X.K b1 b2 ta):=by
 intro pins s σ H Q I h
 refine wpAny_Call_Name_kw (zaD I hg hm (u:=.builtin "sorted") (by rfl) (PyProof.Rows.callWith_builtin1 ?_ he rfl))
 rw[he]
 show wpAny _ _ (spliced ((false,eval (Expr.Call (.Name "zip" p2) [a,b] [] pos2) X.env)::[])) _ _ s
 refine Calls.spliced_cons ?_
 refine Call_ (zaD I hg2 hm2 (u:=.type "zip") (by rfl) (PyProof.Rows.callWith_type1 (thn (ha pos2 pins s σ H _ I h) fun us s1 ⟨vs,H1,I1,r1,q1⟩=>?_) (by rw[hs,hs2]) (by rw[hs2];rfl)))
 obtain⟨a1,a2,xs,ys,rfl,hq1,hq2,hl,hz,q⟩:=q1
 obtain⟨u,v,rfl,ru,rv⟩:=r1.two
 cases ru
 cases rv
 obtain⟨its,rx,pl1⟩:=I1.sq hq1
 obtain⟨jts,ry,pl2⟩:=I1.sq hq2
 have lx:=rx.length
 have ly:=ry.length
 refine callType_new F.called_zip (by decide) (F.typeCall_zip_2 _ _) (F.newCall_zip_2 _ _) (fun obj=>F.args_object_init_3 obj _ _) F.entry_zip_new (zdm b1 b2 a1 a2 its.toArray jts.toArray) ⟨pl1,pl2,fun h' z ⟨TI,TO,i1,i2,nd,far,hzz,hI,hO,h1,h2⟩ hk=>⟨⟨_,hzz,rfl⟩,?_⟩⟩
 refine Calls.spliced_nil ?_
 have I2:Inv X pins σ H1 { s1 with heap:=h',toks:=s1.toks }:=I1.kept hk
 have fp:∀ c∈[z,TI,TO,i1,i2],FpOk X pins H1 c:=fun c hc=>I1.fpOk (far c hc) (I1.hok.fresh (far c hc))
 have na1:∀ c∈[z,TI,TO,i1,i2],c≠a1:=fun c hm=>I1.sq_ne hq1 (fp c hm)
 have na2:∀ c∈[z,TI,TO,i1,i2],c≠a2:=fun c hm=>I1.sq_ne hq2 (fp c hm)
 have nd':=nd
 simp only[List.nodup_cons,List.mem_cons,List.not_mem_nil,or_false,not_or]at nd'
 obtain⟨⟨zI,zO,z1,z2⟩,⟨IO,iI1,iI2⟩,⟨O1,O2⟩,n12,_⟩:=nd'
 have S:Sep z TI TO i1 i2 [i1,a1] [i2,a2]:=⟨nd,by simp[z1,na1 z (by simp)],by simp[O1,na1 TO (by simp)],by simp[Ne.symm n12,na1 i2 (by simp)],by simp[z2,na2 z (by simp)],by simp[O2,na2 TO (by simp)],by simp[n12,na2 i1 (by simp)]⟩
 have hd:=I1.ok.hd hc
 have q1':SqO b1 h' a1 its.toArray:=pl1.mv fun o e=>hk _ _ e
 have q2':SqO b2 h' a2 jts.toArray:=pl2.mv fun o e=>hk _ _ e
 have n12s:its.toArray.size=jts.toArray.size:=by rw[List.size_toArray,List.size_toArray];lia
 have D1:=zcD (prog:=X.prog) (w:=X.w) (A:=X.A.in1.in1.in1) hd b1 i1 a1 its.toArray (q1'.ne h1)
 have D2:=zcD (prog:=X.prog) (w:=X.w) (A:=X.A.in1.in1.in1) hd b2 i2 a2 jts.toArray (q2'.ne h2)
 rw[← n12s]at D2
 have low:∀ c∈[i1,a1]++[i2,a2],c<h'.objs.size:=fun c hc=>by
  obtain⟨o1,n1,e1,_⟩:=q1'.ob
  obtain⟨o2,n2,e2,_⟩:=q2'.ob
  simp only[List.cons_append,List.nil_append,List.mem_cons,List.not_mem_nil,or_false]at hc
  rcases hc with rfl|rfl|rfl|rfl
  ·exact Heap.lt_size h1
  ·exact Heap.lt_size e1
  ·exact Heap.lt_size h2
  ·exact Heap.lt_size e2
 have fpL:FpOk X pins H1 h'.objs.size:=I2.fpOk (Nat.le_refl _) (I2.hok.fresh (Nat.le_refl _))
 have lows:∀ c∈[z,TO,i1,i2],c<h'.objs.size:=fun c hc=>by
  simp only[List.mem_cons,List.not_mem_nil,or_false]at hc
  rcases hc with rfl|rfl|rfl|rfl
  ·exact Heap.lt_size hzz
  ·exact Heap.lt_size hO
  ·exact Heap.lt_size h1
  ·exact Heap.lt_size h2
 refine zin (zeZ (J:=fun acc s'=>∃ (ts:List Addr) (Hk:Hp),Inv X pins σ Hk s'∧Same H1 Hk∧acc.toList=ts.map Value.ref∧(∀ (i:Nat) t,ts[i]?=some t→∃ x y,xs[i]?=some x∧ys[i]?=some y∧Hk t=some (.tup [x,y]))∧(∀ c∈[z,TO,i1,i2,h'.objs.size],FpOk X pins Hk c)) S D1 D2 (Nat.le_refl _) hzz hI hO ⟨h1,q1'⟩ ⟨h2,q2'⟩ low ?_ ?_ ?_ ?_ ?_)
 ·rw[List.size_toArray];exact Nat.le_trans (show _≤63 by lia) (by decide)
 ·rintro acc s' h2' tk x y ⟨ts,Hk,Ik,sm,ea,ht,fk⟩ lt px py new kk
  have il:acc.size<xs.length:=by
   have b:acc.size<its.toArray.size:=(Array.getElem?_eq_some_iff.mp px).1
   have b2:its.toArray.size=its.length:=List.size_toArray ..
   lia
  obtain⟨u,e1,r1⟩:=rx.get (List.getElem?_eq_getElem il)
  obtain⟨v,e2,r2⟩:=ry.get (List.getElem?_eq_getElem (show acc.size<ys.length by lia))
  have px':its[acc.size]?=some x:=by simpa using px
  have py':jts[acc.size]?=some y:=by simpa using py
  rw[px']at e1;obtain rfl:=Option.some.inj e1
  rw[py']at e2;obtain rfl:=Option.some.inj e2
  have nT:∀ c∈[z,TO,i1,i2,h'.objs.size],c≠s'.heap.objs.size:=fun c hc=>by
   simp only[List.mem_cons,List.not_mem_nil,or_false]at hc
   rcases hc with rfl|rfl|rfl|rfl|rfl
   ·exact Nat.ne_of_lt (Nat.lt_trans (Heap.lt_size hzz) lt)
   ·exact Nat.ne_of_lt (Nat.lt_trans (Heap.lt_size hO) lt)
   ·exact Nat.ne_of_lt (Nat.lt_trans (Heap.lt_size h1) lt)
   ·exact Nat.ne_of_lt (Nat.lt_trans (Heap.lt_size h2) lt)
   ·exact Nat.ne_of_lt lt
  have fk4:∀ c∈[z,TO,i1,i2],FpOk X pins Hk c:=fun c hc=>fk c (by simp only[List.mem_cons,List.not_mem_nil,or_false]at hc ⊢;rcases hc with m|m|m|m<;>simp[m])
  have fr:Hk s'.heap.objs.size=none:=Ik.fresh
  have al:acc.size=ts.length:=by rw[← Array.length_toList,ea,List.length_map]
  refine⟨ts++[s'.heap.objs.size],_,Ik.spunN (fp:=[z,TO,i1,i2]) kk fk4 (Nat.le_refl _) (zbD new r1 r2),sm.trans (zaa fr _),by rw[Array.toList_push,ea,List.map_append];rfl,fun i t hi=>?_,fun c hc=>⟨by rw[zac (nT c hc)];exact(fk c hc).1,(fk c hc).2⟩⟩
  by_cases q:i<ts.length
  ·rw[List.getElem?_append_left q]at hi
   obtain⟨x',y',a1',a2',a3'⟩:=ht i t hi
   exact⟨x',y',a1',a2',zaa fr _ _ _ a3'⟩
  ·have il2:=(List.getElem?_eq_some_iff.mp hi).1
   rw[List.length_append]at il2
   have il3:i=ts.length:=by simp at il2;lia
   subst il3
   rw[List.getElem?_append_right (Nat.le_refl _),Nat.sub_self]at hi
   obtain rfl:s'.heap.objs.size=t:=by simpa using hi
   rw[← al]
   exact⟨_,_,List.getElem?_eq_getElem il,List.getElem?_eq_getElem (show acc.size<ys.length by lia),zab⟩
 ·rintro acc s' h2' tk ⟨ts,Hk,Ik,sm,ea,ht,fk⟩ kk
  exact⟨ts,Hk,Ik.spun (fp:=[z,TO,i1,i2,h'.objs.size]) kk fk,sm,ea,ht,fk⟩
 ·refine⟨[],H1,I2,Same.refl _,rfl,fun i t hi=>by simp at hi,fun c hc=>?_⟩
  simp only[List.mem_cons,List.not_mem_nil,or_false]at hc
  rcases hc with rfl|rfl|rfl|rfl|rfl
  ·exact fp _ (by simp)
  ·exact fp _ (by simp)
  ·exact fp _ (by simp)
  ·exact fp _ (by simp)
  ·exact fpL
 ·rintro h2' tk acc hn ⟨ts,Hk,Ik,sm,ea,ht,fk⟩ _ kk lt
  have tl:ts.length=xs.length:=by
   have:acc.toList.length=ts.length:=by rw[ea,List.length_map]
   rw[Array.length_toList,hn,List.size_toArray]at this;lia
  obtain⟨rk,Rr,fin⟩:=q (ts.map V.ref) Hk sm ⟨by rw[List.length_map];exact tl,fun i t hi=>by
   rw[List.getElem?_map]at hi
   obtain⟨t',e',rfl⟩:=Option.map_eq_some_iff.mp hi
   obtain⟨x,y,a1',a2',a3'⟩:=ht i t' e'
   exact⟨t',x,y,rfl,a1',a2',a3'⟩⟩
  have vr:Vals (ts.map V.ref) acc.toList:=by
   rw[ea]
   clear ht ea tl Rr fin
   induction ts with
   | nil=>exact .nil
   | cons t ts ih=>exact .cons rfl ih
  obtain⟨κ,ak,ac⟩:=asks Ik hu vr Rr
  refine⟨κ,fun u=>rk (vOf u),by rw[Array.length_toList,hn,List.size_toArray];lia,ak,ac,fun h3 l e out lo eo pm so k3=>?_⟩
  obtain⟨ex,rel⟩:=zdn vr Rr.kinds
  have vo:Vals (out.map vOf) out:=zcO fun u hu=>rel u (pm.mem_iff.mp hu)
  refine⟨.ref l,_,Ik.laid (t':=tk) (o:=.lst (out.map vOf)) k3 lo ⟨?_,out,e,vo,eo⟩,rfl,fin l _ (Ik.hok.fresh lo) ?_ ?_⟩
  ·rw[List.length_map,pm.length_eq,Array.length_toList,hn,List.size_toArray];exact Nat.le_trans (show _≤63 by lia) (by decide)
  ·rw[ex];exact pm.map vOf
  ·exact List.pairwise_map.mpr so
end L2
namespace Bn
open PySem L2 Own
theorem atNew {H:Hp}{a:Addr}(_:H a=none) (o:HO):L2.upd H a o a=some o:=zab
def decF (H:Hp):V→Fk
 | .ref g=>match H g with
  | some (.tup [.int a,.int b])=>(a.toNat,b.toNat)
  | _=>(0,0)
 | _=>(0,0)
def dec (H:Hp):V→Int × Fk
 | .ref t=>match H t with
  | some (.tup [.int l,x])=>(l,decF H x)
  | _=>(0,(0,0))
 | _=>(0,(0,0))
theorem zgA {H:Hp}{g:Addr}{f:Fk}(h:H g=some (.tup [.int f.1,.int f.2])):decF H (.ref g)=f:=by
 simp only[decF,h]
 obtain⟨a,b⟩:=f
 simp
theorem zj6 {H:Hp}{t g:Addr}{l:Int}{f:Fk}(h:H t=some (.tup [.int l,.ref g])) (hg:H g=some (.tup [.int f.1,.int f.2])):dec H (.ref t)=(l,f):=by
 show (match H t with|some (.tup [.int l,x])=>(l,decF H x)|_=>(0,(0,0)))=(l,f)
 rw[h]
 show (l,decF H (.ref g))=(l,f)
 rw[zgA hg]
def Trp (H:Hp) (x:V) (p:Int × Fk):Prop:=∃ t g,x=.ref t∧H t=some (.tup [.int p.1,.ref g])∧H g=some (.tup [.int p.2.1,.int p.2.2])
theorem Trp.dec {H:Hp}{x:V}{p:Int × Fk}(h:Trp H x p):dec H x=p:=by
 obtain⟨t,g,rfl,h1,h2⟩:=h
 exact zj6 h1 h2
theorem zaG {i j:Int}:(compare i j=.lt↔i<j)∧(compare i j=.eq↔i=j)∧(compare i j=.gt↔j<i):=by
 rw[show compare i j=compareOfLessAndEq i j from rfl]
 unfold compareOfLessAndEq
 by_cases h1:i<j
 ·rw[if_pos h1];simp[h1];lia
 ·rw[if_neg h1]
  by_cases h2:i=j
  ·rw[if_pos h2];simp[h2]
  ·rw[if_neg h2];simp[h1,h2];lia
theorem zh4 {i j:Int}{c:Ordering}(h:(c=.lt→i<j)∧(c=.eq→i=j)∧(c=.gt→j<i)):compare i j=c:=by
 cases c with
 | lt=>exact zaG.1.mpr (h.1 rfl)
 | eq=>exact zaG.2.1.mpr (h.2.1 rfl)
 | gt=>exact zaG.2.2.mpr (h.2.2 rfl)
theorem cmp2 {a b a' b':Int}(h1:0≤b∧b<32) (h2:0≤b'∧b'<32):compare (a*32+b) (a'*32+b')=(compare a a').then (compare b b'):=by
 apply zh4
 have c1:=@zaG a a'
 have c2:=@zaG b b'
 cases e:compare a a'<;>rw[e]at c1<;>simp at c1
 ·refine⟨fun _=>by lia,fun z=>?_,fun z=>?_⟩<;>cases z
 ·cases f:compare b b'<;>rw[f]at c2<;>simp at c2
  ·refine⟨fun _=>by lia,fun z=>?_,fun z=>?_⟩<;>cases z
  ·refine⟨fun z=>?_,fun _=>by lia,fun z=>?_⟩<;>cases z
  ·refine⟨fun z=>?_,fun z=>?_,fun _=>by lia⟩<;>cases z
 ·refine⟨fun z=>?_,fun z=>?_,fun _=>by lia⟩<;>cases z
theorem ziY {H:Hp}{n:Nat}{g g':Addr}{f f':Fk}(h:H g=some (.tup [.int f.1,.int f.2])) (h':H g'=some (.tup [.int f'.1,.int f'.2])) (b:f.2<32) (b':f'.2<32) :
  Lx H (n+1) (.ref g) (.ref g') (compare ((f.1:Int)*32+f.2) ((f'.1:Int)*32+f'.2)):=by
 rw[cmp2 (by lia) (by lia)]
 exact Lx.pair h h' (.int _ _ _) (.int _ _ _)
theorem zjT {H:Hp}{x y:V}{p q:Int × Fk}(hx:Trp H x p) (hy:Trp H y q) (b:p.2.1<32∧p.2.2<32) (b':q.2.1<32∧q.2.2<32):Lx H 2 x y (compare (rnk p) (rnk q)):=by
 obtain⟨t,g,rfl,h1,h2⟩:=hx
 obtain⟨t',g',rfl,h3,h4⟩:=hy
 have e:compare (rnk p) (rnk q)=(compare p.1 q.1).then (compare ((p.2.1:Int)*32+p.2.2) ((q.2.1:Int)*32+q.2.2)):=by
  apply zh4
  have c1:=@zaG p.1 q.1
  have c2:=@zaG ((p.2.1:Int)*32+p.2.2) ((q.2.1:Int)*32+q.2.2)
  unfold rnk
  cases e:compare p.1 q.1<;>rw[e]at c1<;>simp at c1
  ·refine⟨fun _=>by lia,fun z=>?_,fun z=>?_⟩<;>cases z
  ·cases f:compare ((p.2.1:Int)*32+p.2.2) ((q.2.1:Int)*32+q.2.2)<;>rw[f]at c2<;>simp at c2
   ·refine⟨fun _=>by lia,fun z=>?_,fun z=>?_⟩<;>cases z
   ·refine⟨fun z=>?_,fun _=>by lia,fun z=>?_⟩<;>cases z
   ·refine⟨fun z=>?_,fun z=>?_,fun _=>by lia⟩<;>cases z
  ·refine⟨fun z=>?_,fun z=>?_,fun _=>by lia⟩<;>cases z
 rw[e]
 exact Lx.pair h1 h3 (.int _ _ _) (ziY h2 h4 b.2 b'.2)
theorem zh6 {H:Hp}{ts ps:List V}{ls:List Int}{fs:List Fk}(z:Zip2 H ts (ls.map V.int) ps) (pr:Prs H ps fs):ts.map (dec H)=ls.zip fs∧∀ x∈ts,Trp H x (dec H x):=by
 have pl:=pr.len
 have tl:=z.1
 rw[List.length_map]at tl
 have at_:∀ (i:Nat) t,ts[i]?=some t→∃ l f,ls[i]?=some l∧fs[i]?=some f∧Trp H t (l,f):=fun i t ht=>by
  obtain⟨a,x,y,rfl,hx,hy,ha⟩:=z.2 i t ht
  rw[List.getElem?_map]at hx
  obtain⟨l,hl,rfl⟩:=Option.map_eq_some_iff.mp hx
  obtain⟨g,f,rfl,hf,hg⟩:=pr.get hy
  exact⟨l,f,hl,hf,a,g,rfl,ha,hg⟩
 refine⟨List.ext_getElem? fun i=>?_,fun x hx=>?_⟩
 ·rw[List.getElem?_map]
  cases e:ts[i]? with
  | none =>
   have il:=List.getElem?_eq_none_iff.mp e
   exact(List.getElem?_eq_none_iff.mpr (by rw[List.length_zip];lia)).symm
  | some t =>
   obtain⟨l,f,hl,hf,tr⟩:=at_ i t e
   rw[Option.map_some,tr.dec]
   exact(List.getElem?_zip_eq_some.mpr ⟨hl,hf⟩).symm
 ·obtain⟨i,hi⟩:=List.mem_iff_getElem?.mp hx
  obtain⟨l,f,_,_,tr⟩:=at_ i x hi
  rw[tr.dec];exact tr
def IsFk (H:Hp) (x:V) (f:Fk):Prop:=∃ g,x=.ref g∧H g=some (.tup [.int f.1,.int f.2])
theorem IsFk.dec {H:Hp}{x:V}{f:Fk}(h:IsFk H x f):decF H x=f:=by
 obtain⟨g,rfl,e⟩:=h
 exact zgA e
theorem zhR {H:Hp}:∀ {ps:List V},(∀ x∈ps,IsFk H x (decF H x))→Prs H ps (ps.map (decF H))
 | [],_=>trivial
 | x::ps,h=>by
  obtain⟨g,e,hg⟩:=h x List.mem_cons_self
  exact⟨⟨g,e,hg⟩,zhR fun y hy=>h y (List.mem_cons_of_mem _ hy)⟩
theorem Prs.app {H:Hp}:∀ {ps qs:List V}{fs gs:List Fk},Prs H ps fs→Prs H qs gs→Prs H (ps++qs) (fs++gs)
 | [],_,[],_,_,h=>h
 | _::_,_,_::_,_,⟨x,r⟩,h=>⟨x,Prs.app r h⟩
theorem zjE (N:Nt):pz N=(zc9 N).zip N.forks:=by
 rw[← zfH,← zct]
 induction pz N with
 | nil=>rfl
 | cons x l ih=>rw[List.map_cons,List.map_cons,List.zip_cons_cons,← ih]
end Bn
namespace L2
open PySem PySem.Spec PyProof.Rows Own
def zks (K:PySem.W.Frag):V→V→Hp→VK→Prop:=fun o i H Q=>∃ (p:Addr) (xs:List V) (j:Nat) (v:V),o=.ref p∧i=.int j∧SqL K H p xs∧xs[j]?=some v∧Q v H
theorem zen {X:Cx}:PGet X (zks X.K):=by
 intro pins s σ H o i ov iv Q I ro ri h
 obtain⟨p,xs,j,v,rfl,rfl,hq,hx,q⟩:=h
 cases ro
 obtain⟨t,rfl⟩:=ri
 obtain⟨its,r,pl,hz⟩:=I.list hq
 obtain⟨u,eu,ru⟩:=r.get hx
 have jl:=(List.getElem?_eq_some_iff.mp hx).1
 have z63:sizeLine<2 ^ 63:=by rw[sizeLine_eq];decide
 exact wpAny_getItem_list pl.isList (Int.natCast_nonneg _) (by lia) (by simpa using eu) ⟨v,H,I,ru,q⟩
structure UseM (P:Program) (w:World) (K:PySem.W.Frag) (mg:Str→Option Value) (base:Heap) (C:Addr) (x:Str) (ps:List Str) (k:Nat) (sp:Sp) (f:Addr) (fd:FuncData):Prop where
 ok:FnOk P w K mg base CX0 k f fd ps sp
 b:Binds K fd ps []
 mt:Meth K C x f
end L2
namespace Bn
open PySem L2 Own
def zaE (n s p c u:Addr):List (Str × V):=putF "numbers" (.ref u) (putF "came" (.ref c) (putF "spots" (.ref p) (putF "settings" (.ref s) (putF "net" (.ref n) []))))
section
variable {n s p c u:Addr}
theorem zbS:(zaE n s p c u).lookup ("net":Str)=some (.ref n):=by
 unfold zaE
 rw[zaf,if_neg (by decide +kernel),zaf,if_neg (by decide +kernel),zaf,if_neg (by decide +kernel),zaf,if_neg (by decide +kernel),zaf,if_pos rfl]
theorem zh0:(zaE n s p c u).lookup ("settings":Str)=some (.ref s):=by
 unfold zaE
 rw[zaf,if_neg (by decide +kernel),zaf,if_neg (by decide +kernel),zaf,if_neg (by decide +kernel),zaf,if_pos rfl]
theorem zbR:(zaE n s p c u).lookup ("spots":Str)=some (.ref p):=by
 unfold zaE
 rw[zaf,if_neg (by decide +kernel),zaf,if_neg (by decide +kernel),zaf,if_pos rfl]
theorem zh1:(zaE n s p c u).lookup ("came":Str)=some (.ref c):=by
 unfold zaE
 rw[zaf,if_neg (by decide +kernel),zaf,if_pos rfl]
theorem zj3:(zaE n s p c u).lookup ("numbers":Str)=some (.ref u):=by
 unfold zaE
 rw[zaf,if_pos rfl]
theorem zja {m:Str}(h1:¬ m = "numbers") (h2:¬ m = "came") (h3:¬ m = "spots") (h4:¬ m = "settings") (h5:¬ m = "net"):(zaE n s p c u).lookup m=none:=by
 unfold zaE
 rw[zaf,if_neg h1,zaf,if_neg h2,zaf,if_neg h3,zaf,if_neg h4,zaf,if_neg h5];rfl
end
structure Tst where
 sets:List Nat
 spots:List (Option (Nat × Nat))
 came:List Nat
 nms:List Nat
structure Tad where
 t:Addr
 r:Addr
 fr:Addr
 er:Addr
 ps:List V
 ls:Addr
 lp:Addr
 lc:Addr
 ln:Addr
def SpotAt (H:Hp) (v:V):Option (Nat × Nat)→Prop
 | none=>v=.non
 | some (l,k)=>∃ q,v=.ref q∧H q=some (.tup [.int (l:Nat),.int (k:Nat)])
def Spots (H:Hp) (sp:List V) (os:List (Option (Nat × Nat))):Prop:=sp.length=os.length∧∀ (i:Nat) (v:V) (o:Option (Nat × Nat)),sp[i]?=some v→os[i]?=some o→SpotAt H v o
theorem SpotAt.tups {H H':Hp}(t:Tups H H') {v:V}:∀ {o:Option (Nat × Nat)},SpotAt H v o→SpotAt H' v o
 | none,h=>h
 | some (l,k),⟨q,e,h⟩=>⟨q,e,t _ _ h⟩
theorem Spots.tups {H H':Hp}(t:Tups H H') {sp:List V}{os:List (Option (Nat × Nat))}(h:Spots H sp os):Spots H' sp os:=⟨h.1,fun i v o a b=>(h.2 i v o a b).tups t⟩
theorem Spots.add {H:Hp}{sp:List V}{os:List (Option (Nat × Nat))}(h:Spots H sp os) {v:V}{o:Option (Nat × Nat)}(hv:SpotAt H v o):Spots H (sp++[v]) (os++[o]):=by
 refine⟨by rw[List.length_append,List.length_append,h.1];rfl,fun i v' o' a b=>?_⟩
 by_cases c:i<sp.length
 ·rw[List.getElem?_append_left c]at a
  rw[List.getElem?_append_left (by rw[← h.1];exact c)]at b
  exact h.2 i v' o' a b
 ·rw[List.getElem?_append_right (by lia)]at a
  rw[List.getElem?_append_right (by rw[← h.1];lia),← h.1]at b
  obtain⟨z,e⟩:=List.getElem?_eq_some_iff.mp a
  have zi:i-sp.length=0:=by simpa using z
  rw[zi]at a b
  cases a;cases b;exact hv
theorem Spots.set {H:Hp}{sp:List V}{os:List (Option (Nat × Nat))}(h:Spots H sp os) {v:V}{o:Option (Nat × Nat)}(hv:SpotAt H v o) (k:Nat):Spots H (sp.set k v) (os.set k o):=by
 refine⟨by rw[List.length_set,List.length_set,h.1],fun i v' o' a b=>?_⟩
 rw[List.getElem?_set]at a b
 by_cases c:k=i
 ·rw[if_pos c]at a b
  by_cases d:k<sp.length
  ·rw[if_pos d]at a
   rw[if_pos (by rw[← h.1];exact d)]at b
   cases a;cases b;exact hv
  ·rw[if_neg d]at a;cases a
 ·rw[if_neg c]at a b
  exact h.2 i v' o' a b
structure TelAt (C:Addr) (H:Hp) (A:Tad) (N:Nt) (S:Tst):Prop where
 ob:∃ dx,H A.t=some (.ins C dx (zaE A.r A.ls A.lp A.lc A.ln))
 na:NetAt H A.r A.fr A.er A.ps N
 hs:H A.ls=some (.lst (nums S.sets))
 hp:∃ sp,H A.lp=some (.lst sp)∧Spots H sp S.spots
 hc:H A.lc=some (.lst (nums S.came))
 hn:H A.ln=some (.lst (nums S.nms))
 d1:A.ls≠A.lp
 d2:A.ls≠A.lc
 d3:A.ls≠A.ln
 d4:A.lp≠A.lc
 d5:A.lp≠A.ln
 d6:A.lc≠A.ln
def But4 (A:Tad) (H H':Hp):Prop:=∀ b o,H b=some o→b≠A.ls→b≠A.lp→b≠A.lc→b≠A.ln→H' b=some o
theorem TelAt.keep {C:Addr}{H H':Hp}{A:Tad}{N:Nt}{S:Tst}(T:TelAt C H A N S) (s:Same H H'):TelAt C H' A N S:=by
 obtain⟨dx,e⟩:=T.ob
 obtain⟨sp,h1,h2⟩:=T.hp
 exact⟨⟨dx,s _ _ e⟩,T.na.tups (Tups.of s),s _ _ T.hs,⟨sp,s _ _ h1,h2.tups (Tups.of s)⟩,s _ _ T.hc,s _ _ T.hn,T.d1,T.d2,T.d3,T.d4,T.d5,T.d6⟩
structure OkS (N:Nt) (S:Tst):Prop where
 sl:S.sets.length=N.forks.length
 sv:∀ x∈S.sets,x<2
 sp:∀ l k,some (l,k)∈S.spots→l<N.lanes∧k≤N.forks.length
 cl:S.came.length=N.lanes
def wayL (os:List (Option (Nat × Nat))):List Nat:=(List.range os.length).filter fun i=>(os.getD i none).isSome
def S0 (N:Nt):Tst:=⟨List.replicate N.forks.length 0,[],List.replicate N.lanes 0,[]⟩
def endN (N:Nt) (lane:Nat):Nat:=N.ends.idxOf lane
theorem zep {N:Nt}(ok:N.Ok) {lane:Nat}(h:lane<N.lanes):endN N lane<N.lanes:=by
 have el:N.ends.length=N.lanes:=by rw[ok.en.length_eq,List.length_range]
 rw[← el]
 exact List.idxOf_lt_length_of_mem (ok.en.mem_iff.mpr (List.mem_range.mpr h))
def outT (N:Nt) (S:Tst) (ball lane:Nat):Tst:=⟨S.sets,S.spots.set ball none,S.came.set (endN N lane) (S.came.getD (endN N lane) 0+1),S.nms++[endN N lane+N.lanes*S.came.getD (endN N lane) 0]⟩
def onT (N:Nt) (S:Tst) (ball k:Nat):Nat:=if S.sets.getD k 0=0 then (N.forks.getD k (0,0)).1 else (N.forks.getD k (0,0)).2
def goT (N:Nt) (S:Tst) (ball k k':Nat):Tst:=⟨S.sets.set k (1-S.sets.getD k 0),S.spots.set ball (some (onT N S ball k,k')),S.came,S.nms⟩
theorem zcx {α:Type}{l:List α}{i:Nat}{a x:α}(h:x∈l.set i a):x∈l∨x=a:=by
 obtain⟨j,hj⟩:=List.mem_iff_getElem?.mp h
 rw[List.getElem?_set]at hj
 split at hj
 ·split at hj
  ·exact .inr (Option.some.inj hj).symm
  ·cases hj
 ·exact .inl (List.mem_of_getElem? hj)
theorem OkS.out {N:Nt}{S:Tst}(h:OkS N S) (ball lane:Nat):OkS N (outT N S ball lane):=by
 refine⟨h.sl,h.sv,fun l k m=>?_,?_⟩
 ·rcases zcx m with m|m
  ·exact h.sp l k m
  ·cases m
 ·show (S.came.set _ _).length=_
  rw[List.length_set];exact h.cl
theorem OkS.go {N:Nt}{S:Tst}(ok:N.Ok) (h:OkS N S) {ball k k':Nat}(hk:k<N.forks.length) (hk':k'≤N.forks.length):onT N S ball k<N.lanes∧OkS N (goT N S ball k k'):=by
 have f:=ok.fk _ (List.getElem_mem hk)
 have ef:N.forks.getD k (0,0)=N.forks[k]:=by rw[List.getD_eq_getElem?_getD,List.getElem?_eq_getElem hk];rfl
 have on:onT N S ball k<N.lanes:=by
  unfold onT
  rw[ef]
  split
  ·exact f.1
  ·exact f.2.1
 refine⟨on,by show (S.sets.set _ _).length=_;rw[List.length_set];exact h.sl,fun x m=>?_,fun l q m=>?_,h.cl⟩
 ·rcases zcx m with m|m
  ·exact h.sv x m
  ·lia
 ·rcases zcx m with m|m
  ·exact h.sp l q m
  ·cases m;exact⟨on,hk'⟩
def KpT (t:Addr) (H0 H:Hp):Prop:=∀ b o,H0 b=some o→b≠t→H b=some o
theorem KpT.step {t:Addr}{H0 H H':Hp}(k:KpT t H0 H) (s:Same H H') (o:HO):KpT t H0 (L2.upd H' t o):=fun b o' e ne=>by rw[zac ne];exact s _ _ (k b o' e ne)
theorem KpT.free {t a:Addr}{H0 H:Hp}{o:HO}(k:KpT t H0 H) (ht:H t=some o) (h:H a=none):H0 a=none∧a≠t:=by
 have ne:a≠t:=fun e=>by rw[e,ht]at h;cases h
 refine⟨?_,ne⟩
 cases e:H0 a with
 | none=>rfl
 | some o'=>rw[k a o' e ne]at h;cases h
end Bn
namespace K98
open PySem L2 Own Bn
abbrev zfA:Stmt:=zcB (top 13) 0
abbrev zdy:Stmt:=zcB (top 13) 1
abbrev zfz:Stmt:=zcB (top 13) 2
abbrev zcr:Stmt:=zcB (top 13) 3
def zdu (C:Addr):Sp:=fun vs H Q _=>∃ (t dx r fr er:Addr) (ps:List V) (N:Nt),vs=[.ref t,.ref r]∧H t=some (.ins C dx [])∧Nt.Ok N∧NetAt H r fr er ps N∧∀ (ls lp lc ln:Addr) (H':Hp),H ls=none→H lp=none→H lc=none→H ln=none →
 TelAt C H' ⟨t,r,fr,er,ps,ls,lp,lc,ln⟩ N (S0 N)→(∀ b o,H b=some o→b≠t→H' b=some o)→Q .non H'
def zcj (C:Addr):Sp:=fun vs H Q _=>∃ (A:Tad) (N:Nt) (S:Tst) (lane:Nat),vs=[.ref A.t,.int lane]∧Nt.Ok N∧TelAt C H A N S∧OkS N S∧lane<N.lanes∧S.spots.length≤1000 ∧
 ∀ (k:Nat) (H':Hp),IsNext N.forks lane 0 k→TelAt C H' A N { S with spots:=S.spots++[some (lane,k)] }→But4 A H H'→Q (.int (S.spots.length:Nat)) H'
def zbz (C:Addr):Sp:=fun vs H Q _=>∃ (A:Tad) (N:Nt) (S:Tst) (e:Nat),vs=[.ref A.t,.int e]∧Nt.Ok N∧TelAt C H A N S∧OkS N S∧e<N.lanes∧S.nms.length≤1000 ∧
 ∀ (H':Hp),TelAt C H' A N { S with came:=S.came.set e (S.came.getD e 0+1),nms:=S.nms++[e+N.lanes*S.came.getD e 0] }→But4 A H H'→Q (.int (e+N.lanes*S.came.getD e 0:Nat)) H'
def zdt (C:Addr):Sp:=fun vs H Q _=>∃ (A:Tad) (N:Nt) (S:Tst) (ball lane k:Nat),vs=[.ref A.t,.int ball]∧Nt.Ok N∧TelAt C H A N S∧OkS N S∧S.spots[ball]?=some (some (lane,k))∧S.spots.length≤1000∧S.nms.length≤1000 ∧
 (k=N.forks.length→∀ H',TelAt C H' A N (outT N S ball lane)→But4 A H H'→Q (.int (endN N lane+N.lanes*S.came.getD (endN N lane) 0:Nat)) H') ∧
 (k<N.forks.length→∀ k' H',IsNext N.forks (onT N S ball k) (k+1) k'→TelAt C H' A N (goT N S ball k k')→But4 A H H'→Q .non H')
structure Txt (K:PySem.W.Frag) (mg:Str→Option Value) (C:Addr):Prop where
 cl:Cls K C
 nN:NoAttr K C "net"
 nS:NoAttr K C "settings"
 nP:NoAttr K C "spots"
 nC:NoAttr K C "came"
 nU:NoAttr K C "numbers"
 mgC:mg "Teller" = some (.ref C)
theorem zgP {K:PySem.W.Frag}{H:Hp}(i:Int):AnyT K H (.int i):=⟨_,.int i,_,rfl⟩
theorem zew {i b:Nat}(h:i<b):zgM (b:Nat) (.int (i:Nat))=true:=by
 show (decide ((0:Int)≤(i:Nat)) && decide (((i:Nat):Int)<(b:Nat)))=true
 rw[decide_eq_true (by lia),decide_eq_true (by lia)];rfl
theorem zeb (n:Nat):(List.replicate n [V.int 0]).flatten=nums (List.replicate n 0):=by
 induction n with
 | zero=>rfl
 | succ n ih=>rw[List.replicate_succ,List.flatten_cons,ih,List.replicate_succ];rfl
theorem zbr (row:List Nat) (i:Nat) (h:i<row.length):(nums row)[i]?=some (.int ((row.getD i 0:Nat):Int)):=by
 unfold nums
 rw[List.getElem?_map,List.getElem?_eq_getElem h,List.getD_eq_getElem?_getD,List.getElem?_eq_getElem h];rfl
theorem zbq (row:List Nat) (i x:Nat):(nums row).set i (.int (x:Nat))=nums (row.set i x):=by
 unfold nums
 rw[List.map_set]
section
variable {P:Program}{w:World}{K:PySem.W.Frag}{mg:Str→Option Value}{base:Heap}{C:Addr}
theorem scTi:FnScope ["self","net"] ["self","net"] (zae zfA):=⟨rfl,rfl,rfl,by decide +kernel,rfl,by decide +kernel,by decide +kernel⟩
theorem zhc {f:Addr}{fd:FuncData}(F:Fun K "__init__" "Teller.__init__" zfA f fd) (G:Mgs mg) (T:Txt K mg C):FnOk P w K mg base CX0 1 f fd ["self","net"] (zdu C):=by
 refine F.ok scTi (fun vs H Q E h=>?_) (fun cdv A outer s H vs Q E hr h=>?_)
 ·obtain⟨t,dx,r,fr,er,ps,N,rfl,_⟩:=h
  rfl
 obtain⟨t,dx,r,fr,er,ps,N,rfl,ht,ok,na,k⟩:=h
 refine⟨_,(@pss_cons _ _ _ _ _ (@zcX _ _ _ _ _ _ _ _ (@pv _ 0 _ _ (by rfl) (by first|exact Or.inl rfl|exact Or.inr (.inl rfl)|exact Or.inr (.inr rfl)) (by decide) (by decide)) (@pv _ 1 _ _ (by rfl) (by first|exact Or.inl rfl|exact Or.inr (.inl rfl)|exact Or.inr (.inr rfl)) (by decide) (by decide)) rfl) (@pss_cons _ _ _ _ _ (@zcX _ _ _ _ _ _ _ _ (@pv _ 0 _ _ (by rfl) (by first|exact Or.inl rfl|exact Or.inr (.inl rfl)|exact Or.inr (.inr rfl)) (by decide) (by decide)) (@pe_op _ _ _ _ _ _ _ _ op_rep (@pe_lst _ _ _ _ (@pa_cons _ _ _ _ _ pe_int pa_nil (by rfl))) (@pe_callB _ _ _ _ _ _ _ _ _ call_len_seq (by rfl) G.len PySem.boot_len (@pa_cons _ _ _ _ _ (@pe_ix _ _ _ _ _ _ _ ix_tup (@pv _ 1 _ _ (by rfl) (by first|exact Or.inl rfl|exact Or.inr (.inl rfl)|exact Or.inr (.inr rfl)) (by decide) (by decide)) pe_int (fun _ _=>rfl)) pa_nil (by rfl)) (by decide) (by decide) (by rfl) (by rfl))) rfl) (@pss_cons _ _ _ _ _ (@zcX _ _ _ _ _ _ _ _ (@pv _ 0 _ _ (by rfl) (by first|exact Or.inl rfl|exact Or.inr (.inl rfl)|exact Or.inr (.inr rfl)) (by decide) (by decide)) (@pe_lst _ _ _ _ pa_nil) rfl) (@pss_cons _ _ _ _ _ (@zcX _ _ _ _ _ _ _ _ (@pv _ 0 _ _ (by rfl) (by first|exact Or.inl rfl|exact Or.inr (.inl rfl)|exact Or.inr (.inr rfl)) (by decide) (by decide)) (@pe_op _ _ _ _ _ _ _ _ op_rep (@pe_lst _ _ _ _ (@pa_cons _ _ _ _ _ pe_int pa_nil (by rfl))) (@pe_ix _ _ _ _ _ _ _ ix_tup (@pv _ 1 _ _ (by rfl) (by first|exact Or.inl rfl|exact Or.inr (.inl rfl)|exact Or.inr (.inr rfl)) (by decide) (by decide)) pe_int (fun _ _=>rfl))) rfl) (@pss_one _ _ _ (@zcX _ _ _ _ _ _ _ _ (@pv _ 0 _ _ (by rfl) (by first|exact Or.inl rfl|exact Or.inr (.inl rfl)|exact Or.inr (.inr rfl)) (by decide) (by decide)) (@pe_lst _ _ _ _ pa_nil) rfl)))))),?_⟩
 have pl:=na.prs.len
 have fm:=ok.fm
 have l16:=ok.l16
 have rt:r≠t:=fun e=>by have:=na.net;rw[e,ht]at this;cases this
 have ft:fr≠t:=fun e=>by have:=na.forks;rw[e,ht]at this;cases this
 refine⟨_,rfl,_,rfl,t,C,dx,[],rfl,ht,T.cl,T.nN,(by show 0<1000;decide),?_⟩
 have k1:KpT t H (L2.upd H t (.ins C dx (putF "net" (.ref r) []))):=fun b o e ne=>by rw[zac ne];exact e
 have t1:L2.upd H t (.ins C dx (putF "net" (.ref r) [])) t=some (.ins C dx (putF "net" (.ref r) [])):=zab
 generalize L2.upd H t (.ins C dx (putF "net" (.ref r) []))=H1 at k1 t1
 refine⟨(by show 1≤sizeLine;decide),fun a1 ha1=>?_⟩
 have s1:=zaa ha1 (.lst [.int 0])
 refine⟨_,rfl,r,_,1,_,rfl,rfl,SqT.of (s1 _ _ (k1 _ _ na.net rt)),rfl,fr,_,rfl,.inr (SqT.of (s1 _ _ (k1 _ _ na.forks ft))),a1,_,_,rfl,rfl,atNew ha1 _,by lia,by lia,(by rw[Int.toNat_natCast,sizeLine_eq];show 1*_≤_;lia),fun ls hls=>?_⟩
 rw[Int.toNat_natCast,zeb]
 have s2:=zaa hls (.lst (nums (List.replicate ps.length 0)))
 have u2:=s1.trans s2
 have t2:=u2 _ _ t1
 obtain⟨fls,nls⟩:=KpT.free (fun b o e ne=>s1 _ _ (k1 b o e ne)) (s1 _ _ t1) hls
 refine⟨_,rfl,t,C,dx,_,rfl,t2,T.cl,T.nS,(by show 1<1000;decide),?_⟩
 have k3:=k1.step u2 (.ins C dx (putF "settings" (.ref ls) (putF "net" (.ref r) [])))
 have hs3:L2.upd (L2.upd (L2.upd H1 a1 (.lst [.int 0])) ls (.lst (nums (List.replicate ps.length 0)))) t (.ins C dx (putF "settings" (.ref ls) (putF "net" (.ref r) []))) ls=some (.lst (nums (List.replicate ps.length 0))):=by rw[zac nls];exact atNew hls _
 have t3:=zab (H:=L2.upd (L2.upd H1 a1 (.lst [.int 0])) ls (.lst (nums (List.replicate ps.length 0)))) (a:=t) (o:=.ins C dx (putF "settings" (.ref ls) (putF "net" (.ref r) [])))
 generalize L2.upd (L2.upd (L2.upd H1 a1 (.lst [.int 0])) ls (.lst (nums (List.replicate ps.length 0)))) t (.ins C dx (putF "settings" (.ref ls) (putF "net" (.ref r) [])))=H3 at k3 hs3 t3
 refine⟨(by show 0≤sizeLine;decide),fun lp hlp=>?_⟩
 have s4:=zaa hlp (.lst [])
 obtain⟨flp,nlp⟩:=k3.free t3 hlp
 refine⟨_,rfl,t,C,dx,_,rfl,s4 _ _ t3,T.cl,T.nP,(by show 2<1000;decide),?_⟩
 have k5:=k3.step s4 (.ins C dx (putF "spots" (.ref lp) (putF "settings" (.ref ls) (putF "net" (.ref r) []))))
 have hs5:L2.upd (L2.upd H3 lp (.lst [])) t (.ins C dx (putF "spots" (.ref lp) (putF "settings" (.ref ls) (putF "net" (.ref r) [])))) ls=some (.lst (nums (List.replicate ps.length 0))):=by rw[zac nls];exact s4 _ _ hs3
 have hp5:L2.upd (L2.upd H3 lp (.lst [])) t (.ins C dx (putF "spots" (.ref lp) (putF "settings" (.ref ls) (putF "net" (.ref r) [])))) lp=some (.lst []):=by rw[zac nlp];exact atNew hlp _
 have t5:=zab (H:=L2.upd H3 lp (.lst [])) (a:=t) (o:=.ins C dx (putF "spots" (.ref lp) (putF "settings" (.ref ls) (putF "net" (.ref r) []))))
 generalize L2.upd (L2.upd H3 lp (.lst [])) t (.ins C dx (putF "spots" (.ref lp) (putF "settings" (.ref ls) (putF "net" (.ref r) []))))=H5 at k5 hs5 hp5 t5
 refine⟨(by show 1≤sizeLine;decide),fun a6 ha6=>?_⟩
 have s6:=zaa ha6 (.lst [.int 0])
 refine⟨_,rfl,r,_,0,_,rfl,rfl,SqT.of (s6 _ _ (k5 _ _ na.net rt)),rfl,a6,_,_,rfl,rfl,atNew ha6 _,by lia,by lia,(by rw[Int.toNat_natCast,sizeLine_eq];show 1*_≤_;lia),fun lc hlc=>?_⟩
 rw[Int.toNat_natCast,zeb]
 have s7:=zaa hlc (.lst (nums (List.replicate N.lanes 0)))
 have u7:=s6.trans s7
 obtain⟨flc,nlc⟩:=KpT.free (fun b o e ne=>s6 _ _ (k5 b o e ne)) (s6 _ _ t5) hlc
 refine⟨_,rfl,t,C,dx,_,rfl,u7 _ _ t5,T.cl,T.nC,(by show 3<1000;decide),?_⟩
 have d2:ls≠lc:=zad (s6 _ _ hs5) hlc
 have d4:lp≠lc:=zad (s6 _ _ hp5) hlc
 have k8:=k5.step u7 (.ins C dx (putF "came" (.ref lc) (putF "spots" (.ref lp) (putF "settings" (.ref ls) (putF "net" (.ref r) [])))))
 have hs8:L2.upd (L2.upd (L2.upd H5 a6 (.lst [.int 0])) lc (.lst (nums (List.replicate N.lanes 0)))) t (.ins C dx (putF "came" (.ref lc) (putF "spots" (.ref lp) (putF "settings" (.ref ls) (putF "net" (.ref r) []))))) ls=some (.lst (nums (List.replicate ps.length 0))):=by rw[zac nls];exact u7 _ _ hs5
 have hp8:L2.upd (L2.upd (L2.upd H5 a6 (.lst [.int 0])) lc (.lst (nums (List.replicate N.lanes 0)))) t (.ins C dx (putF "came" (.ref lc) (putF "spots" (.ref lp) (putF "settings" (.ref ls) (putF "net" (.ref r) []))))) lp=some (.lst []):=by rw[zac nlp];exact u7 _ _ hp5
 have hc8:L2.upd (L2.upd (L2.upd H5 a6 (.lst [.int 0])) lc (.lst (nums (List.replicate N.lanes 0)))) t (.ins C dx (putF "came" (.ref lc) (putF "spots" (.ref lp) (putF "settings" (.ref ls) (putF "net" (.ref r) []))))) lc=some (.lst (nums (List.replicate N.lanes 0))):=by rw[zac nlc];exact atNew hlc _
 have t8:=zab (H:=L2.upd (L2.upd H5 a6 (.lst [.int 0])) lc (.lst (nums (List.replicate N.lanes 0)))) (a:=t) (o:=.ins C dx (putF "came" (.ref lc) (putF "spots" (.ref lp) (putF "settings" (.ref ls) (putF "net" (.ref r) [])))))
 generalize L2.upd (L2.upd (L2.upd H5 a6 (.lst [.int 0])) lc (.lst (nums (List.replicate N.lanes 0)))) t (.ins C dx (putF "came" (.ref lc) (putF "spots" (.ref lp) (putF "settings" (.ref ls) (putF "net" (.ref r) [])))))=H8 at k8 hs8 hp8 hc8 t8
 refine⟨(by show 0≤sizeLine;decide),fun ln hln=>?_⟩
 have s9:=zaa hln (.lst [])
 obtain⟨fln,nln⟩:=k8.free t8 hln
 refine⟨_,rfl,t,C,dx,_,rfl,s9 _ _ t8,T.cl,T.nU,(by show 4<1000;decide),?_⟩
 have d1:ls≠lp:=zad hs3 hlp
 refine k ls lp lc ln _ fls flp flc fln ⟨⟨dx,zab⟩,?_,?_,⟨[],?_,rfl,fun i v o a=>by simp at a⟩,?_,?_,d1,d2,zad hs8 hln,d4,zad hp8 hln,zad hc8 hln⟩ (k8.step s9 _)
 ·refine na.tups (fun a xs e=>?_)
  have ne:a≠t:=fun z=>by rw[z,ht]at e;cases e
  exact k8.step s9 _ _ _ e ne
 ·show L2.upd (L2.upd H8 ln (.lst [])) t _ ls=some (.lst (nums (List.replicate N.forks.length 0)))
  rw[zac nls,← pl];exact s9 _ _ hs8
 ·rw[zac nlp];exact s9 _ _ hp8
 ·rw[zac nlc];exact s9 _ _ hc8
 ·rw[zac nln];exact atNew hln _
theorem scTs:FnScope ["self","lane"] ["self","lane"] (zae zdy):=⟨rfl,rfl,rfl,by decide +kernel,rfl,by decide +kernel,by decide +kernel⟩
theorem zfV {f fB fN:Addr}{fd dB dN:FuncData}(F:Fun K "start" "Teller.start" zdy f fd) (G:Mgs mg) (T:Txt K mg C) (UB:Use P w K mg base "is_below" ["thing","bound"] 2 (zcn K) fB dB) (UN:Use P w K mg base "next_fork" ["net","lane","number"] 1 zd8 fN dN):FnOk P w K mg base CX0 3 f fd ["self","lane"] (zcj C):=by
 refine F.ok scTs (fun vs H Q E h=>?_) (fun cdv A outer s H vs Q E hr h=>?_)
 ·obtain⟨A',N,S,lane,rfl,_⟩:=h
  rfl
 obtain⟨A',N,S,lane,rfl,ok,te,os,hl,hz,k⟩:=h
 have hr1:Room 1 _:=hr.mono (by decide)
 refine⟨_,(@pss_cons _ _ _ _ _ (@ps_if _ _ _ _ _ _ _ _ (@zfK _ _ _ _ (@zfJ _ _ _ (@pe_call _ _ _ _ _ _ _ _ _ _ _ _ _ _ _ _ UB.ok hr (by rfl) UB.m UB.kp UB.b .nil pass0 (@pa_cons _ _ _ _ _ (@pv _ 1 _ _ (by rfl) (by first|exact Or.inl rfl|exact Or.inr (.inl rfl)|exact Or.inr (.inr rfl)) (by decide) (by decide)) (@pa_cons _ _ _ _ _ (@pe_ix _ _ _ _ _ _ _ ix_tup (@pe_fld _ _ _ _ _ (@pv _ 0 _ _ (by rfl) (by first|exact Or.inl rfl|exact Or.inr (.inl rfl)|exact Or.inr (.inr rfl)) (by decide) (by decide)) rfl) pe_int (fun _ _=>rfl)) pa_nil (by rfl)) (by rfl)) (by decide) (by rfl) (by rfl)) (by intro _;rfl))) (@pss_one _ _ _ ps_dead) pss_nil) (@pss_cons _ _ _ _ _ (@ps_expr _ _ _ _ (@pe_bm _ _ _ _ _ _ _ _ _ _ _ _ PySem.F.plainAttrs_list PySem.F.slot_list_append PySem.F.type_list_append mt_append (@pe_fld _ _ _ _ _ (@pv _ 0 _ _ (by rfl) (by first|exact Or.inl rfl|exact Or.inr (.inl rfl)|exact Or.inr (.inr rfl)) (by decide) (by decide)) rfl) (@pa_cons _ _ _ _ _ (@pe_tup _ _ _ _ _ (@pa_cons _ _ _ _ _ (@pv _ 1 _ _ (by rfl) (by first|exact Or.inl rfl|exact Or.inr (.inl rfl)|exact Or.inr (.inr rfl)) (by decide) (by decide)) (@pa_cons _ _ _ _ _ (@pe_call _ _ _ _ _ _ _ _ _ _ _ _ _ _ _ _ UN.ok hr1 (by rfl) UN.m UN.kp UN.b .nil pass0 (@pa_cons _ _ _ _ _ (@pe_fld _ _ _ _ _ (@pv _ 0 _ _ (by rfl) (by first|exact Or.inl rfl|exact Or.inr (.inl rfl)|exact Or.inr (.inr rfl)) (by decide) (by decide)) rfl) (@pa_cons _ _ _ _ _ (@pv _ 1 _ _ (by rfl) (by first|exact Or.inl rfl|exact Or.inr (.inl rfl)|exact Or.inr (.inr rfl)) (by decide) (by decide)) (@pa_cons _ _ _ _ _ pe_int pa_nil (by rfl)) (by rfl)) (by rfl)) (by decide) (by rfl) (by rfl)) pa_nil (by rfl)) (by rfl))) pa_nil (by rfl)) (by rfl) (by rfl) (by rfl) (by rfl) (by rfl)) (by rfl)) (@pss_one _ _ _ (@ps_ret _ _ _ _ (@pe_op _ _ _ _ _ _ _ _ op_sub (@pe_callB _ _ _ _ _ _ _ _ _ call_len_seq (by rfl) G.len PySem.boot_len (@pa_cons _ _ _ _ _ (@pe_fld _ _ _ _ _ (@pv _ 0 _ _ (by rfl) (by first|exact Or.inl rfl|exact Or.inr (.inl rfl)|exact Or.inr (.inr rfl)) (by decide) (by decide)) rfl) pa_nil (by rfl)) (by decide) (by decide) (by rfl) (by rfl)) pe_int))))),?_⟩
 obtain⟨dx,ob⟩:=te.ob
 obtain⟨sp,hp,sr⟩:=te.hp
 refine⟨_,rfl,_,rfl,A'.t,C,dx,_,_,rfl,ob,T.cl,T.nN,zbS,A'.r,_,0,_,rfl,rfl,SqT.of te.na.net,rfl,_,_,rfl,zgP _,_,rfl,?_⟩
 rw[zew hl]
 refine iteF ?_
 refine⟨_,rfl,A'.t,C,dx,_,_,rfl,ob,T.cl,T.nP,zbR,.inl ⟨rfl,_,SqL.of hp⟩,_,rfl,_,rfl,A'.t,C,dx,_,_,rfl,ob,T.cl,T.nN,zbS,_,rfl,A'.r,A'.fr,A'.er,A'.ps,N,lane,0,rfl,ok,te.na,Nat.zero_le _,fun m nm=>?_⟩
 refine⟨(by show 2≤sizeLine;decide),fun q hq=>?_⟩
 have s1:=zaa hq (.tup [.int (lane:Nat),.int (m:Nat)])
 have sl:=sr.1
 refine⟨A'.lp,sp,_,rfl,rfl,s1 _ _ hp,by rw[sizeLine_eq];lia,?_⟩
 have te1:=te.keep s1
 have tp:Tups (L2.upd H q (.tup [.int (lane:Nat),.int (m:Nat)])) (L2.upd (L2.upd H q (.tup [.int (lane:Nat),.int (m:Nat)])) A'.lp (.lst (sp++[.ref q]))):=Tups.lst (s1 _ _ hp)
 have tne:A'.t≠A'.lp:=ne_of ob hp (by intro z;cases z)
 have te2:TelAt C (L2.upd (L2.upd H q (.tup [.int (lane:Nat),.int (m:Nat)])) A'.lp (.lst (sp++[.ref q]))) A' N { S with spots:=S.spots++[some (lane,m)] }:=by
  obtain⟨dx',ob'⟩:=te1.ob
  refine⟨⟨dx',by rw[zac tne];exact ob'⟩,te1.na.tups tp,by rw[zac te.d1];exact te1.hs,⟨_,zab,?_⟩,by rw[zac te.d4.symm];exact te1.hc,by rw[zac te.d5.symm];exact te1.hn,te.d1,te.d2,te.d3,te.d4,te.d5,te.d6⟩
  exact((sr.tups (Tups.of s1)).tups tp).add ⟨q,rfl,tp _ _ (atNew hq _)⟩
 have ob2:L2.upd (L2.upd H q (.tup [.int (lane:Nat),.int (m:Nat)])) A'.lp (.lst (sp++[.ref q])) A'.t=some (.ins C dx (zaE A'.r A'.ls A'.lp A'.lc A'.ln)):=by rw[zac tne];exact s1 _ _ ob
 refine⟨_,rfl,A'.t,C,dx,_,_,rfl,ob2,T.cl,T.nP,zbR,A'.lp,_,rfl,.inl (SqL.of zab),_,_,rfl,rfl,?_⟩
 have e:(((sp++[V.ref q]).length:Nat):Int)-1=((S.spots.length:Nat):Int):=by rw[List.length_append,sl];simp only[List.length_cons,List.length_nil];lia
 have kk:=k m _ nm te2 fun b o e1 _ n2 _ _=>by rw[zac n2];exact s1 _ _ e1
 show Q (.int _) _
 rw[e];exact kk
theorem scTn:FnScope ["self","end","number"] ["self","end"] (zae zcr):=⟨rfl,rfl,rfl,by decide +kernel,rfl,by decide +kernel,by decide +kernel⟩
theorem zeJ {f:Addr}{fd:FuncData}(F:Fun K "number_at" "Teller.number_at" zcr f fd) (G:Mgs mg) (T:Txt K mg C):FnOk P w K mg base CX0 1 f fd ["self","end"] (zbz C):=by
 refine F.ok scTn (fun vs H Q E h=>?_) (fun cdv A outer s H vs Q E hr h=>?_)
 ·obtain⟨A',N,S,e,rfl,_⟩:=h
  rfl
 obtain⟨A',N,S,e,rfl,ok,te,os,he,hz,k⟩:=h
 refine⟨_,(@pss_cons _ _ _ _ _ (@ps_set _ _ 2 _ _ _ _ scTn.nd rfl (.inl rfl) (@pe_op _ _ _ _ _ _ _ _ op_add (@pv _ 1 _ _ (by rfl) (by first|exact Or.inl rfl|exact Or.inr (.inl rfl)|exact Or.inr (.inr rfl)) (by decide) (by decide)) (@pe_op _ _ _ _ _ _ _ _ op_mul (@pe_ix _ _ _ _ _ _ _ ix_tup (@pe_fld _ _ _ _ _ (@pv _ 0 _ _ (by rfl) (by first|exact Or.inl rfl|exact Or.inr (.inl rfl)|exact Or.inr (.inr rfl)) (by decide) (by decide)) rfl) pe_int (fun _ _=>rfl)) (@pe_ix _ _ _ _ _ _ _ ix_list (@pe_fld _ _ _ _ _ (@pv _ 0 _ _ (by rfl) (by first|exact Or.inl rfl|exact Or.inr (.inl rfl)|exact Or.inr (.inr rfl)) (by decide) (by decide)) rfl) (@pv _ 1 _ _ (by rfl) (by first|exact Or.inl rfl|exact Or.inr (.inl rfl)|exact Or.inr (.inr rfl)) (by decide) (by decide)) (fun _ _=>rfl)))) (by rfl) (by first|exact .inl rfl|exact .inr rfl|assumption)) (@pss_cons _ _ _ _ _ (@zfL _ _ _ _ _ _ _ _ _ _ _ _ _ (@pe_fld _ _ _ _ _ (@pv _ 0 _ _ (by rfl) (by first|exact Or.inl rfl|exact Or.inr (.inl rfl)|exact Or.inr (.inr rfl)) (by decide) (by decide)) rfl) (@pv _ 1 _ _ (by rfl) (by first|exact Or.inl rfl|exact Or.inr (.inl rfl)|exact Or.inr (.inr rfl)) (by decide) (by decide)) zen pe_int zgm set_list (by intros;rfl)) (@pss_cons _ _ _ _ _ (@ps_expr _ _ _ _ (@pe_bm _ _ _ _ _ _ _ _ _ _ _ _ PySem.F.plainAttrs_list PySem.F.slot_list_append PySem.F.type_list_append mt_append (@pe_fld _ _ _ _ _ (@pv _ 0 _ _ (by rfl) (by first|exact Or.inl rfl|exact Or.inr (.inl rfl)|exact Or.inr (.inr rfl)) (by decide) (by decide)) rfl) (@pa_cons _ _ _ _ _ (@pv _ 2 _ _ (by rfl) (by first|exact Or.inl rfl|exact Or.inr (.inl rfl)|exact Or.inr (.inr rfl)) (by decide) (by decide)) pa_nil (by rfl)) (by rfl) (by rfl) (by rfl) (by rfl) (by rfl)) (by rfl)) (@pss_one _ _ _ (@ps_ret _ _ _ _ (@pv _ 2 _ _ (by rfl) (by first|exact Or.inl rfl|exact Or.inr (.inl rfl)|exact Or.inr (.inr rfl)) (by decide) (by decide))))))),?_⟩
 obtain⟨dx,ob⟩:=te.ob
 obtain⟨sp,hp,sr⟩:=te.hp
 have cl:=os.cl
 have l16:=ok.l16
 have ec:e<S.came.length:=by lia
 have at1:=zbr S.came e ec
 refine⟨_,rfl,_,rfl,A'.t,C,dx,_,_,rfl,ob,T.cl,T.nN,zbS,A'.r,_,0,_,rfl,rfl,SqT.of te.na.net,rfl,_,rfl,A'.t,C,dx,_,_,rfl,ob,T.cl,T.nC,zh1,_,rfl,A'.lc,_,_,_,rfl,rfl,SqL.of te.hc,zah at1,_,_,rfl,rfl,.inl ⟨by lia,by lia⟩,_,_,rfl,rfl,?_⟩
 have ev:((e:Nat):Int)+((N.lanes:Nat):Int)*((S.came.getD e 0:Nat):Int)=((e+N.lanes*S.came.getD e 0:Nat):Int):=by rw[Int.natCast_add,Int.natCast_mul]
 simp only[ev]
 refine⟨_,rfl,A'.t,C,dx,_,_,rfl,ob,T.cl,T.nC,zh1,_,rfl,A'.lc,_,e,_,rfl,rfl,SqL.of te.hc,at1,_,_,rfl,rfl,A'.lc,_,_,e,rfl,rfl,te.hc,zbW (by rw[zag];exact ec),?_⟩
 have e1:((S.came.getD e 0:Nat):Int)+1=((S.came.getD e 0+1:Nat):Int):=by lia
 dsimp only
 rw[e1,zbq]
 have tne:A'.t≠A'.lc:=ne_of ob te.hc (by intro z;cases z)
 have tne2:A'.t≠A'.ln:=ne_of ob te.hn (by intro z;cases z)
 have ob1:L2.upd H A'.lc (.lst (nums (S.came.set e (S.came.getD e 0+1)))) A'.t=some (.ins C dx (zaE A'.r A'.ls A'.lp A'.lc A'.ln)):=by rw[zac tne];exact ob
 have hn1:L2.upd H A'.lc (.lst (nums (S.came.set e (S.came.getD e 0+1)))) A'.ln=some (.lst (nums S.nms)):=by rw[zac te.d6.symm];exact te.hn
 refine⟨_,rfl,A'.t,C,dx,_,_,rfl,ob1,T.cl,T.nU,zj3,.inl ⟨rfl,_,SqL.of hn1⟩,_,rfl,A'.ln,_,_,rfl,rfl,hn1,by rw[zag,sizeLine_eq];lia,?_⟩
 have tp1:Tups H (L2.upd H A'.lc (.lst (nums (S.came.set e (S.came.getD e 0+1))))):=Tups.lst te.hc
 have tp2:=Tups.lst (ys:=nums S.nms++[.int ((e+N.lanes*S.came.getD e 0:Nat):Int)]) hn1
 have en:nums S.nms++[V.int ((e+N.lanes*S.came.getD e 0:Nat):Int)]=nums (S.nms++[e+N.lanes*S.came.getD e 0]):=by unfold nums;rw[List.map_append];rfl
 refine⟨_,rfl,?_⟩
 refine k _ ⟨⟨dx,by rw[zac tne2];exact ob1⟩,(te.na.tups tp1).tups tp2,?_,⟨sp,?_,(sr.tups tp1).tups tp2⟩,?_,?_,te.d1,te.d2,te.d3,te.d4,te.d5,te.d6⟩ fun b o e1 _ _ n3 n4=>?_
 ·rw[zac te.d3,zac te.d2];exact te.hs
 ·rw[zac te.d5,zac te.d4];exact hp
 ·rw[zac te.d6,zab]
 ·rw[zab,en]
 ·rw[zac n4,zac n3];exact e1
end
theorem zhK (f:Nat × Nat) (t:Nat) (h:t<2):([V.int (f.1:Nat),V.int (f.2:Nat)]:List V)[t]?=some (.int ((if t=0 then f.1 else f.2:Nat):Int)):=by
 match t,h with
 | 0,_=>rfl
 | 1,_=>rfl
section
variable {P:Program}{w:World}{K:PySem.W.Frag}{mg:Str→Option Value}{base:Heap}{C:Addr}
theorem scTp:FnScope ["self","ball","lane","number","turn","onward"] ["self","ball"] (zae zfz):=⟨rfl,rfl,rfl,by decide +kernel,rfl,by decide +kernel,by decide +kernel⟩
theorem zhb {f fB fN fE fM:Addr}{fd dB dN dE dM:FuncData}(F:Fun K "step" "Teller.step" zfz f fd) (G:Mgs mg) (T:Txt K mg C) (UB:Use P w K mg base "is_below" ["thing","bound"] 2 (zcn K) fB dB) (UN:Use P w K mg base "next_fork" ["net","lane","number"] 1 zd8 fN dN) (UE:Use P w K mg base "end_of" ["net","lane"] 1 zik fE dE)
  (UM:UseM P w K mg base C "number_at" ["self","end"] 1 (zbz C) fM dM):FnOk P w K mg base CX0 3 f fd ["self","ball"] (zdt C):=by
 refine F.ok scTp (fun vs H Q E h=>?_) (fun cdv A outer s H vs Q E hr h=>?_)
 ·obtain⟨A',N,S,ball,lane,k,rfl,_⟩:=h
  rfl
 obtain⟨A',N,S,ball,lane,k,rfl,ok,te,os,hb,hz,hn,kout,kgo⟩:=h
 have hr1:Room 1 _:=hr.mono (by decide)
 refine⟨_,(@pss_cons _ _ _ _ _ (@ps_if _ _ _ _ _ _ _ _ (@pw_or _ _ _ _ _ _ _ (@zfK _ _ _ _ (@zfJ _ _ _ (@pe_call _ _ _ _ _ _ _ _ _ _ _ _ _ _ _ _ UB.ok hr (by rfl) UB.m UB.kp UB.b .nil pass0 (@pa_cons _ _ _ _ _ (@pv _ 1 _ _ (by rfl) (by first|exact Or.inl rfl|exact Or.inr (.inl rfl)|exact Or.inr (.inr rfl)) (by decide) (by decide)) (@pa_cons _ _ _ _ _ (@pe_callB _ _ _ _ _ _ _ _ _ call_len_seq (by rfl) G.len PySem.boot_len (@pa_cons _ _ _ _ _ (@pe_fld _ _ _ _ _ (@pv _ 0 _ _ (by rfl) (by first|exact Or.inl rfl|exact Or.inr (.inl rfl)|exact Or.inr (.inr rfl)) (by decide) (by decide)) rfl) pa_nil (by rfl)) (by decide) (by decide) (by rfl) (by rfl)) pa_nil (by rfl)) (by rfl)) (by decide) (by rfl) (by rfl)) (by intro _;rfl))) (@pw_or1 _ _ _ _ (@pt_cmpR _ _ _ _ _ _ _ _ op_isN (@pe_ix _ _ _ _ _ _ _ ix_list (@pe_fld _ _ _ _ _ (@pv _ 0 _ _ (by rfl) (by first|exact Or.inl rfl|exact Or.inr (.inl rfl)|exact Or.inr (.inr rfl)) (by decide) (by decide)) rfl) (@pv _ 1 _ _ (by rfl) (by first|exact Or.inl rfl|exact Or.inr (.inl rfl)|exact Or.inr (.inr rfl)) (by decide) (by decide)) (fun _ _=>rfl)) pe_non (by rfl)))).pt (@pss_one _ _ _ ps_dead) pss_nil) (@pss_cons _ _ _ _ _ (@ps_asg _ _ _ _ _ _ (@pe_ix _ _ _ _ _ _ _ ix_list (@pe_fld _ _ _ _ _ (@pv _ 0 _ _ (by rfl) (by first|exact Or.inl rfl|exact Or.inr (.inl rfl)|exact Or.inr (.inr rfl)) (by decide) (by decide)) rfl) (@pv _ 1 _ _ (by rfl) (by first|exact Or.inl rfl|exact Or.inr (.inl rfl)|exact Or.inr (.inr rfl)) (by decide) (by decide)) (fun _ _=>rfl)) (@pg_tup _ _ _ _ _ _ rfl (@pgs_cons _ _ _ _ _ (@pg_name _ _ 2 _ scTp.nd rfl (.inl rfl) (by first|exact .inl rfl|exact .inr rfl|assumption)) (@pgs_cons _ _ _ _ _ (@pg_name _ _ 3 _ scTp.nd rfl (.inl rfl) (by first|exact .inl rfl|exact .inr rfl|assumption)) pgs_nil (by rfl)) (by rfl)) (by rfl) (by rfl)) (by rfl) (by rfl) (by rfl)) (@pss_cons _ _ _ _ _ (@ps_if _ _ _ _ _ _ _ _ (@pt_cmpR _ _ _ _ _ _ _ _ op_eq (@pv _ 3 _ _ (by rfl) (by first|exact Or.inl rfl|exact Or.inr (.inl rfl)|exact Or.inr (.inr rfl)) (by decide) (by decide)) (@pe_callB _ _ _ _ _ _ _ _ _ call_len_seq (by rfl) G.len PySem.boot_len (@pa_cons _ _ _ _ _ (@pe_ix _ _ _ _ _ _ _ ix_tup (@pe_fld _ _ _ _ _ (@pv _ 0 _ _ (by rfl) (by first|exact Or.inl rfl|exact Or.inr (.inl rfl)|exact Or.inr (.inr rfl)) (by decide) (by decide)) rfl) pe_int (fun _ _=>rfl)) pa_nil (by rfl)) (by decide) (by decide) (by rfl) (by rfl)) (nomark _)) (@pss_cons _ _ _ _ _ (@ps_asg _ _ _ _ _ _ pe_non (@pg_sub _ _ _ _ _ _ _ (@pe_fld _ _ _ _ _ (@pv _ 0 _ _ (by rfl) (by first|exact Or.inl rfl|exact Or.inr (.inl rfl)|exact Or.inr (.inr rfl)) (by decide) (by decide)) rfl) (@pv _ 1 _ _ (by rfl) (by first|exact Or.inl rfl|exact Or.inr (.inl rfl)|exact Or.inr (.inr rfl)) (by decide) (by decide)) set_list (by intro _;rfl)) (by rfl) (by rfl) (by rfl)) (@pss_one _ _ _ (@ps_ret _ _ _ _ (@pe_meth _ _ _ _ _ _ _ _ _ _ _ _ _ _ _ _ _ _ _ _ (@pv _ 0 _ _ (by rfl) (by first|exact Or.inl rfl|exact Or.inr (.inl rfl)|exact Or.inr (.inr rfl)) (by decide) (by decide)) T.cl UM.mt UM.ok hr1 UM.b .nil pass0 (@pa_cons _ _ _ _ _ (@pe_call _ _ _ _ _ _ _ _ _ _ _ _ _ _ _ _ UE.ok hr1 (by rfl) UE.m UE.kp UE.b .nil pass0 (@pa_cons _ _ _ _ _ (@pe_fld _ _ _ _ _ (@pv _ 0 _ _ (by rfl) (by first|exact Or.inl rfl|exact Or.inr (.inl rfl)|exact Or.inr (.inr rfl)) (by decide) (by decide)) rfl) (@pa_cons _ _ _ _ _ (@pv _ 2 _ _ (by rfl) (by first|exact Or.inl rfl|exact Or.inr (.inl rfl)|exact Or.inr (.inr rfl)) (by decide) (by decide)) pa_nil (by rfl)) (by rfl)) (by decide) (by rfl) (by rfl)) pa_nil (by rfl)) (by rfl) (by rfl) (by rfl))))) pss_nil) (@pss_cons _ _ _ _ _ (@ps_set _ _ 4 _ _ _ _ scTp.nd rfl (.inl rfl) (@pe_ix _ _ _ _ _ _ _ ix_list (@pe_fld _ _ _ _ _ (@pv _ 0 _ _ (by rfl) (by first|exact Or.inl rfl|exact Or.inr (.inl rfl)|exact Or.inr (.inr rfl)) (by decide) (by decide)) rfl) (@pv _ 3 _ _ (by rfl) (by first|exact Or.inl rfl|exact Or.inr (.inl rfl)|exact Or.inr (.inr rfl)) (by decide) (by decide)) (fun _ _=>rfl)) (by rfl) (by first|exact .inl rfl|exact .inr rfl|assumption)) (@pss_cons _ _ _ _ _ (@ps_asg _ _ _ _ _ _ (@pe_op _ _ _ _ _ _ _ _ op_sub pe_int (@pv _ 4 _ _ (by rfl) (by first|exact Or.inl rfl|exact Or.inr (.inl rfl)|exact Or.inr (.inr rfl)) (by decide) (by decide))) (@pg_sub _ _ _ _ _ _ _ (@pe_fld _ _ _ _ _ (@pv _ 0 _ _ (by rfl) (by first|exact Or.inl rfl|exact Or.inr (.inl rfl)|exact Or.inr (.inr rfl)) (by decide) (by decide)) rfl) (@pv _ 3 _ _ (by rfl) (by first|exact Or.inl rfl|exact Or.inr (.inl rfl)|exact Or.inr (.inr rfl)) (by decide) (by decide)) set_list (by intro _;rfl)) (by rfl) (by rfl) (by rfl)) (@pss_cons _ _ _ _ _ (@ps_set _ _ 5 _ _ _ _ scTp.nd rfl (.inl rfl) (@pe_ix _ _ _ _ _ _ _ ix_tup (@pe_ix _ _ _ _ _ _ _ ix_tup (@pe_ix _ _ _ _ _ _ _ ix_tup (@pe_fld _ _ _ _ _ (@pv _ 0 _ _ (by rfl) (by first|exact Or.inl rfl|exact Or.inr (.inl rfl)|exact Or.inr (.inr rfl)) (by decide) (by decide)) rfl) pe_int (fun _ _=>rfl)) (@pv _ 3 _ _ (by rfl) (by first|exact Or.inl rfl|exact Or.inr (.inl rfl)|exact Or.inr (.inr rfl)) (by decide) (by decide)) (fun _ _=>rfl)) (@pv _ 4 _ _ (by rfl) (by first|exact Or.inl rfl|exact Or.inr (.inl rfl)|exact Or.inr (.inr rfl)) (by decide) (by decide)) (fun _ _=>rfl)) (by rfl) (by first|exact .inl rfl|exact .inr rfl|assumption)) (@pss_cons _ _ _ _ _ (@ps_asg _ _ _ _ _ _ (@pe_tup _ _ _ _ _ (@pa_cons _ _ _ _ _ (@pv _ 5 _ _ (by rfl) (by first|exact Or.inl rfl|exact Or.inr (.inl rfl)|exact Or.inr (.inr rfl)) (by decide) (by decide)) (@pa_cons _ _ _ _ _ (@pe_call _ _ _ _ _ _ _ _ _ _ _ _ _ _ _ _ UN.ok hr1 (by rfl) UN.m UN.kp UN.b .nil pass0 (@pa_cons _ _ _ _ _ (@pe_fld _ _ _ _ _ (@pv _ 0 _ _ (by rfl) (by first|exact Or.inl rfl|exact Or.inr (.inl rfl)|exact Or.inr (.inr rfl)) (by decide) (by decide)) rfl) (@pa_cons _ _ _ _ _ (@pv _ 5 _ _ (by rfl) (by first|exact Or.inl rfl|exact Or.inr (.inl rfl)|exact Or.inr (.inr rfl)) (by decide) (by decide)) (@pa_cons _ _ _ _ _ (@pe_op _ _ _ _ _ _ _ _ op_add (@pv _ 3 _ _ (by rfl) (by first|exact Or.inl rfl|exact Or.inr (.inl rfl)|exact Or.inr (.inr rfl)) (by decide) (by decide)) pe_int) pa_nil (by rfl)) (by rfl)) (by rfl)) (by decide) (by rfl) (by rfl)) pa_nil (by rfl)) (by rfl))) (@pg_sub _ _ _ _ _ _ _ (@pe_fld _ _ _ _ _ (@pv _ 0 _ _ (by rfl) (by first|exact Or.inl rfl|exact Or.inr (.inl rfl)|exact Or.inr (.inr rfl)) (by decide) (by decide)) rfl) (@pv _ 1 _ _ (by rfl) (by first|exact Or.inl rfl|exact Or.inr (.inl rfl)|exact Or.inr (.inr rfl)) (by decide) (by decide)) set_list (by intro _;rfl)) (by rfl) (by rfl) (by rfl)) (@pss_one _ _ _ (@ps_ret _ _ _ _ pe_non))))))))),?_⟩
 obtain⟨dx,ob⟩:=te.ob
 obtain⟨sp,hp,sr⟩:=te.hp
 have sl:=sr.1
 have bl:=(List.getElem?_eq_some_iff.mp hb).1
 have bs:ball<sp.length:=by lia
 obtain⟨hl,hk⟩:=os.sp lane k (List.mem_of_getElem? hb)
 have hx:sp[ball]?=some sp[ball]:=List.getElem?_eq_getElem bs
 obtain⟨q,eq,hq⟩:=sr.2 ball _ _ hx hb
 rw[eq]at hx
 have pl:=te.na.prs.len
 refine⟨_,rfl,_,rfl,A'.t,C,dx,_,_,rfl,ob,T.cl,T.nP,zbR,A'.lp,_,rfl,.inl (SqL.of hp),_,_,rfl,zgP _,_,rfl,?_⟩
 rw[zew bs]
 refine iteF ⟨_,rfl,A'.t,C,dx,_,_,rfl,ob,T.cl,T.nP,zbR,_,rfl,A'.lp,_,_,_,rfl,rfl,SqL.of hp,zah hx,rfl,_,rfl,?_⟩
 rw[decide_eq_false (by intro z;cases z)]
 refine iteF ⟨_,rfl,A'.t,C,dx,_,_,rfl,ob,T.cl,T.nP,zbR,_,rfl,A'.lp,_,_,_,rfl,rfl,SqL.of hp,zah hx,q,_,rfl,SqT.of hq,rfl,_,_,rfl,_,_,rfl,rfl,?_⟩
 refine⟨_,rfl,_,rfl,A'.t,C,dx,_,_,rfl,ob,T.cl,T.nN,zbS,A'.r,_,1,_,rfl,rfl,SqT.of te.na.net,rfl,A'.fr,_,rfl,.inr (SqT.of te.na.forks),rfl,_,rfl,?_⟩
 have tnp:A'.t≠A'.lp:=ne_of ob hp (by intro z;cases z)
 by_cases ke:k=N.forks.length
 ·rw[decide_eq_true (show V.int ((k:Nat):Int)=V.int ((A'.ps.length:Nat):Int) by rw[pl,ke])]
  refine iteT ⟨_,rfl,A'.t,C,dx,_,_,rfl,ob,T.cl,T.nP,zbR,_,rfl,A'.lp,_,_,ball,rfl,rfl,hp,zbW bs,?_⟩
  have tp:Tups H (L2.upd H A'.lp (.lst (sp.set ball .non))):=Tups.lst hp
  have te1:TelAt C (L2.upd H A'.lp (.lst (sp.set ball .non))) A' N { S with spots:=S.spots.set ball none } :=
   ⟨⟨dx,by rw[zac tnp];exact ob⟩,te.na.tups tp,by rw[zac te.d1];exact te.hs,⟨_,zab,(sr.tups tp).set (o:=none) rfl ball⟩,by rw[zac te.d4.symm];exact te.hc,by rw[zac te.d5.symm];exact te.hn,te.d1,te.d2,te.d3,te.d4,te.d5,te.d6⟩
  have os1:OkS N { S with spots:=S.spots.set ball none }:=by
   refine⟨os.sl,os.sv,fun l k' m=>?_,os.cl⟩
   rcases zcx m with m|m
   ·exact os.sp l k' m
   ·cases m
  have ob1:L2.upd H A'.lp (.lst (sp.set ball .non)) A'.t=some (.ins C dx (zaE A'.r A'.ls A'.lp A'.lc A'.ln)):=by rw[zac tnp];exact ob
  refine⟨_,rfl,A'.t,dx,_,rfl,ob1,zja (by decide +kernel) (by decide +kernel) (by decide +kernel) (by decide +kernel) (by decide +kernel),_,rfl,A'.t,C,dx,_,_,rfl,ob1,T.cl,T.nN,zbS,_,rfl,A'.r,A'.fr,A'.er,A'.ps,N,lane,rfl,ok,te1.na,hl,?_⟩
  refine⟨A',N,_,endN N lane,rfl,ok,te1,os1,zep ok hl,hn,fun H2 te2 b2=>?_⟩
  exact kout ke H2 te2 fun b o e n1 n2 n3 n4=>b2 b o (by rw[zac n2];exact e) n1 n2 n3 n4
 ·have kl:k<N.forks.length:=by lia
  rw[decide_eq_false (show ¬ V.int ((k:Nat):Int)=V.int ((A'.ps.length:Nat):Int) by intro z;injection z with z;rw[pl]at z;lia)]
  refine iteF ?_
  have ks:k<S.sets.length:=by rw[os.sl];exact kl
  have at1:=zbr S.sets k ks
  have t2:S.sets.getD k 0<2:=by
   rw[List.getD_eq_getElem?_getD,List.getElem?_eq_getElem ks]
   exact os.sv _ (List.getElem_mem ks)
  refine⟨_,rfl,A'.t,C,dx,_,_,rfl,ob,T.cl,T.nS,zh0,_,rfl,A'.ls,_,_,_,rfl,rfl,SqL.of te.hs,zah at1,?_⟩
  refine⟨_,rfl,_,_,rfl,rfl,_,rfl,A'.t,C,dx,_,_,rfl,ob,T.cl,T.nS,zh0,_,rfl,A'.ls,_,_,k,rfl,rfl,te.hs,zbW (by rw[zag];exact ks),?_⟩
  have e1:(1:Int)-((S.sets.getD k 0:Nat):Int)=((1-S.sets.getD k 0:Nat):Int):=by lia
  dsimp only
  rw[e1,zbq]
  have tns:A'.t≠A'.ls:=ne_of ob te.hs (by intro z;cases z)
  have tp1:Tups H (L2.upd H A'.ls (.lst (nums (S.sets.set k (1-S.sets.getD k 0))))):=Tups.lst te.hs
  have na1:=te.na.tups tp1
  have ob1:L2.upd H A'.ls (.lst (nums (S.sets.set k (1-S.sets.getD k 0)))) A'.t=some (.ins C dx (zaE A'.r A'.ls A'.lp A'.lc A'.ln)):=by rw[zac tns];exact ob
  have hp1:L2.upd H A'.ls (.lst (nums (S.sets.set k (1-S.sets.getD k 0)))) A'.lp=some (.lst sp):=by rw[zac te.d1.symm];exact hp
  obtain⟨g,f,eg,ef,hg⟩:=na1.prs.get (i:=k) (List.getElem?_eq_getElem (show k<A'.ps.length by lia))
  have hat:A'.ps[k]?=some (.ref g):=by rw[List.getElem?_eq_getElem (show k<A'.ps.length by lia),eg]
  have eon:onT N S ball k=if S.sets.getD k 0=0 then f.1 else f.2:=by
   unfold onT
   rw[List.getD_eq_getElem?_getD (l:=N.forks),ef];rfl
  have at2:=zhK f _ t2
  rw[← eon]at at2
  have on:onT N S ball k<N.lanes:=(OkS.go (ball:=ball) (k':=0) ok os kl (Nat.zero_le _)).1
  refine⟨_,rfl,A'.t,C,dx,_,_,rfl,ob1,T.cl,T.nN,zbS,A'.r,_,1,_,rfl,rfl,SqT.of na1.net,rfl,_,rfl,A'.fr,_,_,_,rfl,rfl,SqT.of na1.forks,zah hat,_,rfl,g,_,_,_,rfl,rfl,SqT.of hg,zah at2,?_⟩
  refine⟨_,rfl,_,rfl,A'.t,C,dx,_,_,rfl,ob1,T.cl,T.nN,zbS,_,rfl,_,rfl,_,_,rfl,rfl,A'.r,A'.fr,A'.er,A'.ps,N,onT N S ball k,k+1,rfl,ok,na1,kl,fun k' nk=>?_⟩
  refine⟨(by show 2≤sizeLine;decide),fun q2 hq2=>?_⟩
  have s2:=zaa hq2 (.tup [.int (onT N S ball k:Nat),.int (k':Nat)])
  refine⟨_,rfl,A'.t,C,dx,_,_,rfl,s2 _ _ ob1,T.cl,T.nP,zbR,_,rfl,A'.lp,_,_,ball,rfl,rfl,s2 _ _ hp1,zbW bs,?_⟩
  have tp3:=Tups.lst (ys:=sp.set ball (.ref q2)) (s2 _ _ hp1)
  refine kgo kl k' _ nk ⟨⟨dx,by rw[zac tnp];exact s2 _ _ ob1⟩,(na1.tups (Tups.of s2)).tups tp3,?_,⟨_,zab,?_⟩,?_,?_,te.d1,te.d2,te.d3,te.d4,te.d5,te.d6⟩ fun b o e n1 n2 n3 n4=>?_
  ·rw[zac te.d1];exact s2 _ _ zab
  ·exact(((sr.tups tp1).tups (Tups.of s2)).tups tp3).set (v:=.ref q2) (o:=some (onT N S ball k,k')) ⟨q2,rfl,tp3 _ _ (atNew hq2 _)⟩ ball
  ·rw[zac te.d4.symm];refine s2 _ _ ?_;rw[zac te.d2.symm];exact te.hc
  ·rw[zac te.d5.symm];refine s2 _ _ ?_;rw[zac te.d3.symm];exact te.hn
  ·rw[zac n2];refine s2 _ _ ?_;rw[zac n1];exact e
end
end K98
namespace L2
open PySem
end L2
namespace Bn
open PySem L2 Own
theorem zet {p p':Nat→Bool}{b:Nat}(hp:p b=true) (hp':p' b=false) (h:∀ i,i≠b→p' i=p i):∀ n,((List.range n).filter p).length=((List.range n).filter p').length+(if b<n then 1 else 0)
 | 0=>by simp
 | n+1=>by
  rw[List.range_succ,List.filter_append,List.filter_append,List.length_append,List.length_append,zet hp hp' h n]
  by_cases e:n=b
  ·subst e
   rw[List.filter_cons,List.filter_cons,hp,hp']
   simp
  ·rw[List.filter_cons,List.filter_cons,h n e]
   have:(if b<n+1 then 1 else 0)=(if b<n then 1 else 0):=by
    by_cases c:b<n
    ·rw[if_pos c,if_pos (by lia)]
    ·rw[if_neg c,if_neg (by lia)]
   rw[this,List.filter_nil,List.filter_nil];lia
theorem zdR (os:List (Option (Nat × Nat))) (b:Nat) (o:Option (Nat × Nat)) (i:Nat):(os.set b o).getD i none=if b=i∧b<os.length then o else os.getD i none:=by
 rw[List.getD_eq_getElem?_getD,List.getD_eq_getElem?_getD,List.getElem?_set]
 by_cases e:b=i
 ·subst e
  by_cases c:b<os.length
  ·rw[if_pos rfl,if_pos c,if_pos ⟨rfl,c⟩];rfl
  ·rw[if_pos rfl,if_neg c,if_neg (fun z=>c z.2),List.getElem?_eq_none (by lia)]
 ·rw[if_neg e,if_neg (fun z=>e z.1)]
theorem zh9 {os:List (Option (Nat × Nat))}{b:Nat}{o:Nat × Nat}(h:os[b]?=some (some o)):(wayL os).length=(wayL (os.set b none)).length+1:=by
 have bl:=(List.getElem?_eq_some_iff.mp h).1
 have gb:os.getD b none=some o:=by rw[List.getD_eq_getElem?_getD,h];rfl
 unfold wayL
 rw[List.length_set,zet (p:=fun i=>(os.getD i none).isSome) (p':=fun i=>((os.set b none).getD i none).isSome) (b:=b) (by show (os.getD b none).isSome=true;rw[gb];rfl) (by show ((os.set b none).getD b none).isSome=false;rw[zdR,if_pos ⟨rfl,bl⟩];rfl) (fun i hi=>by show ((os.set b none).getD i none).isSome=(os.getD i none).isSome;rw[zdR,if_neg (fun z=>hi z.1.symm)]),if_pos bl]
theorem zd5 {os:List (Option (Nat × Nat))}{b:Nat}{o o':Nat × Nat}(h:os[b]?=some (some o)):wayL (os.set b (some o'))=wayL os:=by
 have gb:os.getD b none=some o:=by rw[List.getD_eq_getElem?_getD,h];rfl
 unfold wayL
 rw[List.length_set]
 refine List.filter_congr fun i _=>?_
 rw[zdR]
 by_cases c:b=i∧b<os.length
 ·rw[if_pos c,← c.1,gb];rfl
 ·rw[if_neg c]
structure Fine (N:Nt) (S:Tst):Prop where
 num:∀ e,e<N.lanes→(S.nms.filter fun n=>decide (n%N.lanes=e))=(List.range (S.came.getD e 0)).map fun j=>e+N.lanes*j
 cnt:S.nms.length+(wayL S.spots).length=S.spots.length
 all:∀ n∈S.nms,n%N.lanes<N.lanes
theorem zkK {N:Nt}(h:1≤N.lanes):Fine N (S0 N):=by
 refine⟨fun e he=>?_,rfl,fun n hn=>by simp[S0]at hn⟩
 show _=(List.range ((List.replicate N.lanes 0).getD e 0)).map _
 rw[List.getD_eq_getElem?_getD,List.getElem?_replicate,if_pos he];rfl
theorem Fine.out {N:Nt}{S:Tst}(ok:N.Ok) (os:OkS N S) (f:Fine N S) {ball lane k:Nat}(hb:S.spots[ball]?=some (some (lane,k))) (hl:lane<N.lanes) :
  Fine N (outT N S ball lane)∧(endN N lane+N.lanes*S.came.getD (endN N lane) 0)∉S.nms:=by
 have el:=zep ok hl
 generalize ee:endN N lane=e at el
 have l1:=ok.l1
 have em:(e+N.lanes*S.came.getD e 0)%N.lanes=e:=by rw[Nat.add_mul_mod_self_left,Nat.mod_eq_of_lt el]
 refine⟨⟨fun e' he'=>?_,?_,fun n hn=>Nat.mod_lt _ (by lia)⟩,fun h=>?_⟩
 ·show ((S.nms++[endN N lane+N.lanes*S.came.getD (endN N lane) 0]).filter _)=(List.range ((S.came.set (endN N lane) (S.came.getD (endN N lane) 0+1)).getD e' 0)).map _
  rw[ee,List.filter_append,List.filter_cons,em,f.num e' he',List.getD_eq_getElem?_getD (l:=S.came.set _ _),List.getElem?_set]
  by_cases c:e=e'
  ·subst c
   have ec:e<S.came.length:=by rw[os.cl];exact el
   rw[if_pos rfl,if_pos ec,if_pos (decide_eq_true rfl)]
   show _=(List.range (S.came.getD e 0+1)).map _
   rw[List.range_succ,List.map_append];rfl
  ·have cd:¬ decide (e=e')=true:=by simpa using c
   rw[if_neg c,if_neg cd,← List.getD_eq_getElem?_getD,List.filter_nil,List.append_nil]
 ·show (S.nms++[_]).length+(wayL (S.spots.set ball none)).length=(S.spots.set ball none).length
  have:=zh9 hb
  rw[List.length_set,List.length_append,← f.cnt]
  simp only[List.length_nil,List.length_cons];lia
 ·have m:(e+N.lanes*S.came.getD e 0)∈S.nms.filter fun n=>decide (n%N.lanes=e):=List.mem_filter.mpr ⟨h,by rw[em,decide_eq_true rfl]⟩
  rw[f.num e el]at m
  obtain⟨j,hj,ej⟩:=List.mem_map.mp m
  have hj:=List.mem_range.mp hj
  have:N.lanes*j=N.lanes*S.came.getD e 0:=by lia
  have:=Nat.eq_of_mul_eq_mul_left (by lia) this
  lia
theorem Fine.go {N:Nt}{S:Tst}(f:Fine N S) {ball lane k k':Nat}(hb:S.spots[ball]?=some (some (lane,k))):Fine N (goT N S ball k k'):=by
 refine⟨f.num,?_,f.all⟩
 show S.nms.length+(wayL (S.spots.set ball (some _))).length=(S.spots.set ball (some _)).length
 rw[zd5 hb,List.length_set];exact f.cnt
def dl (lane l:Nat):Int:=if l=lane then 1 else 0
def isAt (p:Nat × Nat→Bool):Option (Nat × Nat)→Bool
 | some o=>p o
 | none=>false
def cnt (os:List (Option (Nat × Nat))) (p:Nat × Nat→Bool):Int:=(os.countP (isAt p):Nat)
def goes (n:Nat):Option (Nat × Nat)→Nat
 | none=>0
 | some o=>n+1-o.2
def pot (n:Nat) (os:List (Option (Nat × Nat))):Nat:=(os.map (goes n)).sum
theorem zdD (n:Nat):∀ (os:List (Option (Nat × Nat))) (i:Nat) (old x:Option (Nat × Nat)),os[i]?=some old→pot n (os.set i x)+goes n old=pot n os+goes n x
 | [],i,old,x,h=>by simp at h
 | a::os,0,old,x,h=>by
  obtain rfl:=Option.some.inj h
  unfold pot
  rw[List.set_cons_zero,List.map_cons,List.map_cons,List.sum_cons,List.sum_cons];lia
 | a::os,i+1,old,x,h=>by
  have ih:=zdD n os i old x (by simpa using h)
  unfold pot at ih ⊢
  rw[List.set_cons_succ,List.map_cons,List.map_cons,List.sum_cons,List.sum_cons];lia
theorem TelAt.tupk {C:Addr}{H H':Hp}{B:Tad}{N:Nt}{S:Tst}(T:TelAt C H B N S) (b:But4 B H H'):Tups H H':=fun a xs e=>by
 obtain⟨sp,hp,_⟩:=T.hp
 exact b _ _ e (ne_of e T.hs (by intro z;cases z)) (ne_of e hp (by intro z;cases z)) (ne_of e T.hc (by intro z;cases z)) (ne_of e T.hn (by intro z;cases z))
end Bn
namespace L2
open PySem PySem.Spec PyProof.Rows Own Bn
end L2
namespace Bn
open PySem L2 Own
def part (m:Int) (lane k:Nat):List Grp:=if m=0 then [] else [⟨m,lane,k⟩]
theorem zdK (fs:List (Nat × Nat)) (lane:Nat):∀ n,n≤fs.length→∃ k,IsNext fs lane n k:=by
 have go:∀ d n,n+d=fs.length→∃ k,IsNext fs lane n k:=by
  intro d
  induction d with
  | zero =>
   intro n h
   refine⟨n,Nat.le_refl _,by lia,fun j g a b=>by lia,fun g e=>?_⟩
   rw[List.getElem?_eq_none (by lia)]at e;cases e
  | succ d ih =>
   intro n h
   have nl:n<fs.length:=by lia
   by_cases z:lane=fs[n].1∨lane=fs[n].2
   ·refine⟨n,Nat.le_refl _,by lia,fun j g a b=>by lia,fun g e=>?_⟩
    rw[List.getElem?_eq_getElem nl]at e
    rw[← Option.some.inj e];exact z
   ·obtain⟨k,hk⟩:=ih (n+1) (by lia)
    refine⟨k,by have:=hk.from_;lia,hk.upto,fun j g a b e=>?_,hk.here⟩
    by_cases y:j=n
    ·subst y
     rw[List.getElem?_eq_getElem nl]at e
     rw[← Option.some.inj e];exact z
    ·exact hk.none j g (by lia) b e
 exact fun n h=>go (fs.length-n) n (by lia)
end Bn
namespace L2
open PySem PySem.Spec PyProof.Rows
section
variable {κ:Type} [DecidableEq κ]
def valV (kvs:List (κ × V)) (k:κ):Option V:=(kvs.find? fun kv=>decide (kv.1=k)).map (·.2)
def putK (kvs:List (κ × V)) (k:κ) (v:V):List (κ × V) :=
 if (kvs.any fun kv=>decide (kv.1=k))=true then kvs.map (fun kv=>if kv.1=k then (kv.1,v) else kv) else kvs++[(k,v)]
def zal (kvs:List (κ × V)) (k:κ):List (κ × V):=kvs.filter fun kv=>decide (kv.1≠k)
theorem zan {p:κ × V}{r:List (κ × V)}{k:κ}(e:p.1=k):valV (p::r) k=some p.2:=by simp[valV,List.find?_cons,e]
theorem zao {p:κ × V}{r:List (κ × V)}{k:κ}(e:¬ p.1=k):valV (p::r) k=valV r k:=by simp[valV,List.find?_cons,e]
theorem zaT (k:κ):∀ kvs:List (κ × V),(kvs.any fun kv=>decide (kv.1=k))=(valV kvs k).isSome
 | []=>rfl
 | p::r=>by
  rw[List.any_cons]
  by_cases e:p.1=k
  ·simp only[zan e,decide_eq_true e,Bool.true_or,Option.isSome_some]
  ·rw[zao e,decide_eq_false e,Bool.false_or];exact zaT k r
theorem zd6 (k j:κ) (y:V):∀ kvs:List (κ × V),valV (kvs.map fun kv=>if kv.1=k then (kv.1,y) else kv) j=(valV kvs j).map fun x=>if j=k then y else x
 | []=>rfl
 | p::r=>by
  have ih:=zd6 k j y r
  rw[List.map_cons]
  by_cases h:p.1=k
  ·rw[if_pos h]
   by_cases e:p.1=j
   ·rw[zan (p:=(p.1,y)) e,zan e,Option.map_some,if_pos (e.symm.trans h)]
   ·rw[zao (p:=(p.1,y)) e,zao e,ih]
  ·rw[if_neg h]
   by_cases e:p.1=j
   ·rw[zan (p:=p) e,zan e,Option.map_some,if_neg (fun z=>h (e.trans z))]
   ·rw[zao (p:=p) e,zao e,ih]
theorem zcQ (k j:κ) (y:V):∀ kvs:List (κ × V),valV kvs k=none→valV (kvs++[(k,y)]) j=if j=k then some y else valV kvs j
 | [],_=>by
  by_cases e:k=j
  ·rw[if_pos e.symm];exact zan (p:=(k,y)) e
  ·rw[if_neg (fun z=>e z.symm)];exact zao (p:=(k,y)) e
 | p::r,hn=>by
  rw[List.cons_append]
  have hk:¬ p.1=k:=fun z=>by rw[zan z]at hn;cases hn
  rw[zao hk]at hn
  have ih:=zcQ k j y r hn
  by_cases e:p.1=j
  ·rw[zan e,zan e,if_neg (fun z=>hk (e.trans z))]
  ·rw[zao e,zao e,ih]
theorem zgT (kvs:List (κ × V)) (k j:κ) (y:V):valV (putK kvs k y) j=if j=k then some y else valV kvs j:=by
 unfold putK
 by_cases a:(kvs.any fun kv=>decide (kv.1=k))=true
 ·rw[if_pos a,zd6]
  rw[zaT]at a
  by_cases e:j=k
  ·obtain⟨x,hx⟩:=Option.isSome_iff_exists.mp a
   rw[if_pos e,e,hx,Option.map_some,if_pos rfl]
  ·rw[if_neg e]
   cases valV kvs j with
   | none=>rfl
   | some x=>rw[Option.map_some,if_neg e]
 ·rw[if_neg a]
  refine zcQ k j y kvs ?_
  rw[zaT]at a
  cases q:valV kvs k with
  | none=>rfl
  | some x=>rw[q]at a;exact(a rfl).elim
theorem zaR (kvs:List (κ × V)) (k:κ) (v:V):(putK kvs k v).length≤kvs.length+1:=by
 unfold putK
 split
 ·rw[List.length_map];lia
 ·rw[List.length_append,List.length_cons,List.length_nil];lia
theorem RelO.isSome_eq {o:Option V}{u:Option Value}(r:RelO o u):o.isSome=u.isSome:=by
 cases o with
 | none=>cases u with
  | none=>rfl
  | some _=>exact(show False from r).elim
 | some _=>cases u with
  | none=>exact(show False from r).elim
  | some _=>rfl
theorem KV.val {kvs:List (κ × V)}{vs:List (κ × Value)}(r:KV kvs vs) (k:κ):RelO (valV kvs k) (valueAt vs k):=by
 unfold KV at r
 induction r with
 | nil=>exact True.intro
 | @cons p q ps qs h t ih =>
  obtain⟨h1,h2⟩:=h
  by_cases e:p.1=k
  ·have e':q.1=k:=h1.symm.trans e
   have b:valueAt (q::qs) k=some q.2:=by simp[valueAt,List.find?_cons,e']
   rw[zan e,b];exact h2
  ·have e':¬ q.1=k:=fun z=>e (h1.trans z)
   have b:valueAt (q::qs) k=valueAt qs k:=by simp[valueAt,List.find?_cons,e']
   rw[zao e,b];exact ih
theorem KV.any {kvs:List (κ × V)}{vs:List (κ × Value)}(r:KV kvs vs) (k:κ):(kvs.any fun kv=>decide (kv.1=k))=vs.any fun kv=>decide (kv.1=k):=by
 unfold KV at r
 induction r with
 | nil=>rfl
 | cons h t ih=>rw[List.any_cons,List.any_cons,ih,h.1]
theorem KV.repl {kvs:List (κ × V)}{vs:List (κ × Value)}(r:KV kvs vs) (k:κ) {y:V}{u:Value}(ry:RelV y u) :
  KV (kvs.map fun kv=>if kv.1=k then (kv.1,y) else kv) (vs.map fun kv=>if kv.1=k then (kv.1,u) else kv):=by
 unfold KV at r ⊢
 induction r with
 | nil=>exact .nil
 | @cons p q ps qs h t ih =>
  rw[List.map_cons,List.map_cons]
  refine .cons ?_ ih
  obtain⟨h1,h2⟩:=h
  by_cases e:p.1=k
  ·rw[if_pos e,if_pos (h1.symm.trans e)];exact⟨h1,ry⟩
  ·rw[if_neg e,if_neg (fun z=>e (h1.trans z))];exact⟨h1,h2⟩
theorem KV.put {kvs:List (κ × V)}{vs:List (κ × Value)}(r:KV kvs vs) (k:κ) {y:V}{u:Value}(ry:RelV y u):KV (putK kvs k y) (stored vs k u):=by
 unfold putK stored
 rw[r.any k]
 by_cases e:(vs.any fun kv=>decide (kv.1=k))=true
 ·rw[if_pos e,if_pos e];exact r.repl k ry
 ·rw[if_neg e,if_neg e];exact Paired.snoc r ⟨rfl,ry⟩
theorem KV.drop {kvs:List (κ × V)}{vs:List (κ × Value)}(r:KV kvs vs) (k:κ):KV (zal kvs k) (without vs k):=by
 unfold KV at r ⊢
 unfold zal without
 induction r with
 | nil=>exact .nil
 | @cons p q ps qs h t ih =>
  obtain⟨h1,h2⟩:=h
  rw[List.filter_cons,List.filter_cons]
  by_cases e:p.1=k
  ·have a:¬ decide (p.1≠k)=true:=by simp[e]
   have b:¬ decide (q.1≠k)=true:=by simp[h1.symm.trans e]
   rw[if_neg a,if_neg b];exact ih
  ·have e':¬ q.1=k:=fun z=>e (h1.trans z)
   have a:decide (p.1≠k)=true:=by simp[e]
   have b:decide (q.1≠k)=true:=by simp[e']
   rw[if_pos a,if_pos b];exact .cons ⟨h1,h2⟩ ih
theorem KV.length {kvs:List (κ × V)}{vs:List (κ × Value)}(r:KV kvs vs):kvs.length=vs.length:=Paired.length r
theorem dropK_le (kvs:List (κ × V)) (k:κ):(zal kvs k).length≤kvs.length:=List.length_filter_le _ _
end
theorem zeU {P:Program}{w:World}{k:Key}{u:Value}(r:RelV (kV k) u):(zai P w).is k u=true:=by
 cases k with
 | inl i=>obtain⟨t,e⟩:=(show ∃ t,u=Value.int i t from r);subst e;exact zdM P w i t
 | inr x=>obtain⟨t,e⟩:=(show ∃ t,u=Value.str x t from r);subst e;exact zdL P w x t
theorem zda {P:Program}{w:World}:∀ {ks:List Key}{us:List Value},Vals (ks.map kV) us→ItemsAre (zai P w) ks us
 | [],_,r=>by rw[List.map_nil]at r;cases r;exact .nil
 | k::ks,_,r=>by
  rw[List.map_cons]at r
  cases r with
  | cons h t=>exact .cons (zeU h) (zda t)
abbrev KT (H:Hp):List (List Key × V)→List (List Key × Addr × Value)→Prop:=Paired fun p q=>p.1=q.1∧H q.2.1=some (.tup (p.1.map kV))∧RelV p.2 q.2.2
theorem KT.val {H:Hp}{kvs:List (List Key × V)}{xs:List (List Key × Addr × Value)}(r:KT H kvs xs) (k:List Key):RelO (valV kvs k) ((atKey xs k).map (·.2)):=by
 induction r with
 | nil=>exact True.intro
 | @cons p q ps qs h t ih =>
  obtain⟨h1,_,h2⟩:=h
  by_cases e:p.1=k
  ·have e':q.1=k:=h1.symm.trans e
   have b:atKey (q::qs) k=some q.2:=by simp[atKey,List.find?_cons,e']
   rw[zan e,b];exact h2
  ·have e':¬ q.1=k:=fun z=>e (h1.trans z)
   have b:atKey (q::qs) k=atKey qs k:=by simp[atKey,List.find?_cons,e']
   rw[zao e,b];exact ih
theorem KT.repl {H:Hp}{kvs:List (List Key × V)}{xs:List (List Key × Addr × Value)}(r:KT H kvs xs) (k:List Key) {y:V}{u:Value}(ry:RelV y u) :
  KT H (kvs.map fun kv=>if kv.1=k then (kv.1,y) else kv) (xs.map (putAt k u)):=by
 induction r with
 | nil=>exact .nil
 | @cons p q ps qs h t ih =>
  rw[List.map_cons,List.map_cons]
  refine .cons ?_ ih
  obtain⟨h1,h2,h3⟩:=h
  unfold putAt
  by_cases e:p.1=k
  ·rw[if_pos e,if_pos (h1.symm.trans e)];exact⟨h1,h2,ry⟩
  ·rw[if_neg e,if_neg (fun z=>e (h1.trans z))];exact⟨h1,h2,h3⟩
theorem KT.put {H:Hp}{kvs:List (List Key × V)}{xs:List (List Key × Addr × Value)}(r:KT H kvs xs) (k:List Key) {b:Addr}{y:V}{u:Value}(hb:H b=some (.tup (k.map kV))) (ry:RelV y u) :
  KT H (putK kvs k y) (storedH xs k b u):=by
 have e:(kvs.any fun kv=>decide (kv.1=k))=(atKey xs k).isSome:=by
  rw[zaT,(r.val k).isSome_eq,Option.isSome_map]
 unfold putK storedH
 rw[e]
 by_cases q:(atKey xs k).isSome=true
 ·rw[if_pos q,if_pos q];exact r.repl k ry
 ·rw[if_neg q,if_neg q];exact Paired.snoc r ⟨rfl,hb,ry⟩
theorem KT.keeps {H H':Hp}{kvs:List (List Key × V)}{xs:List (List Key × Addr × Value)}(r:KT H kvs xs) (ht:∀ b ys,H b=some (.tup ys)→H' b=some (.tup ys)):KT H' kvs xs :=
 Paired.mapP r fun _ _ z=>⟨z.1,ht _ _ z.2.1,z.2.2⟩
section
variable {P:Program}{w:World}{H:Hp}{h:Heap}{a:Addr}
theorem zjC {u:HO}(ok:HOk P w H h) (e:Rd H a u):ObjOk P w H h a u:=e.ok ok
theorem zhD {kvs:List (Key × V)}(ok:HOk P w H h) (e:Rd H a (.dK kvs)):kvs.length≤sizeLine∧(a == sysModules)=false∧∃ vs,KV kvs vs∧h.DictOf (zai P w) a vs :=
 show ObjOk P w H h a (.dK kvs) from zjC ok e
theorem zdW {kvs:List (Key × V)}(ok:HOk P w H h) (e:H a=some (.dK kvs)):kvs.length≤sizeLine∧(a == sysModules)=false∧∃ vs,KV kvs vs∧h.DictOf (zai P w) a vs:=zhD ok (.inl e)
theorem zgg {ks:List Key}(ok:HOk P w H h) (e:H a=some (.tup (ks.map kV))):(tupleKind (zai P w)).is h ks a:=by
 obtain⟨_,its,r,o,h1,h2,n,h3⟩:=(show ObjOk P w H h a (.tup (ks.map kV)) from ok a _ e)
 exact⟨o,its.toArray,n,h1,h2,h3.1,by simpa using zda r⟩
theorem zhC {kvs:List (List Key × V)}(ok:HOk P w H h) (e:Rd H a (.dT kvs)):kvs.length≤sizeLine∧(a == sysModules)=false ∧
  ∃ xs,KT H kvs xs∧h.DictOfH (tupleKind (zai P w)) a xs:=by
 obtain⟨z,y,xs,r,o,es,ep,h1,h2,h3,h4,h5⟩:=(show ObjOk P w H h a (.dT kvs) from zjC ok e)
 refine⟨z,y,xs,r,o,es,ep,h1,h2,h3,h4,fun x hx=>?_,h5⟩
 have all:∀ {l:List (List Key × V)}{m:List (List Key × Addr × Value)},KT H l m→∀ x∈m,(tupleKind (zai P w)).is h x.1 x.2.1:=by
  intro l m q
  induction q with
  | nil=>intro x hx;exact nomatch hx
  | @cons p q ps qs hq t ih =>
   intro x hx
   rcases List.mem_cons.mp hx with e|hx
   ·subst e
    exact zgg ok (by rw[← hq.1];exact hq.2.1)
   ·exact ih x hx
 exact all r x hx
theorem zkL {kvs:List (List Key × V)}(ok:HOk P w H h) (e:H a=some (.dT kvs)):kvs.length≤sizeLine∧(a == sysModules)=false ∧
  ∃ xs,KT H kvs xs∧h.DictOfH (tupleKind (zai P w)) a xs:=zhC ok (.inl e)
end
def DGet (H:Hp) (a:Addr) (y:V) (r:Option V):Prop :=
 (∃ kvs k,Rd H a (.dK kvs)∧y=kV k∧r=valV kvs k)∨∃ kvs k b,Rd H a (.dT kvs)∧y=.ref b∧H b=some (.tup (k.map kV))∧r=valV kvs k
def DPut (H:Hp) (a:Addr) (y v:V) (H':Hp):Prop :=
 (∃ kvs k,H a=some (.dK kvs)∧y=kV k∧kvs.length<sizeLine∧H'=upd H a (.dK (putK kvs k v))) ∨
 ∃ kvs k b,H a=some (.dT kvs)∧y=.ref b∧H b=some (.tup (k.map kV))∧kvs.length<sizeLine∧H'=upd H a (.dT (putK kvs k v))
theorem DGet.k {H:Hp}{a:Addr}{kvs:List (Key × V)}{k:Key}(e:H a=some (.dK kvs)):DGet H a (kV k) (valV kvs k):=.inl ⟨kvs,k,.inl e,rfl,rfl⟩
theorem DPut.k {H:Hp}{a:Addr}{kvs:List (Key × V)}{k:Key}{v:V}(e:H a=some (.dK kvs)) (hl:kvs.length<sizeLine):DPut H a (kV k) v (upd H a (.dK (putK kvs k v))):=.inl ⟨kvs,k,e,rfl,hl,rfl⟩
section
variable {X:Cx}{pins:List (Addr × Obj)}{σ:St}{H:Hp}{s:Shared}{a:Addr}{y v:V}{u r:Value}{o:Option V}{A:Around}{E:Value→Shared→Prop}
theorem zgE {Q:Value→Shared→Prop}(hu:A.units+1<cLine) (I:Inv X pins σ H s) (g:DGet H a y (some v)) (ry:RelV y u) (h:∀ w' s',Inv X pins σ H s'→RelV v w'→Q w' s') :
  wpAny (model X.prog X.w) A (getItem (.ref a) u) Q E s:=by
 rcases g with ⟨kvs,k,e,ey,l⟩|⟨kvs,k,b,e,ey,eb,l⟩
 ·subst ey
  obtain⟨z,hd,vs,rel,dd⟩:=zhD I.hok e
  obtain⟨w',hw,rw'⟩:=RelO.some_of (v:=v) (o:=valueAt vs k) (by rw[l];exact rel.val k)
  exact wpAny_getItem_of (zeU ry) dd.mapOf hw (h w' _ (I.tok _) rw')
 ·subst ey
  cases (show u=Value.ref b from ry)
  obtain⟨z,hd,xs,rel,dd⟩:=zhC I.hok e
  obtain⟨w',hw,rw'⟩:=RelO.some_of (v:=v) (o:=(atKey xs k).map (·.2)) (by rw[l];exact rel.val k)
  obtain⟨p,hp,hp2⟩:=Option.map_eq_some_iff.mp hw
  refine wpAny_getItem_heap (tupleKind_room_in1 hu) (zgg I.hok eb) dd hp ?_
  rw[hp2]
  exact h w' _ (I.tok _) rw'
theorem zcF {h':Heap}{t':Nat}{ob:HO}(I:Inv X pins σ H s) (mu:Mut (H a)) (hs:Heap.SameBut a s.heap h') (he:∃ q,h'.get? a=some q) (new:ObjOk X.prog X.w (upd H a ob) h' a ob) :
  Inv X pins σ (upd H a ob) { s with heap:=h',toks:=t' } :=
 I.write (x:=a) (e:=a) mu (.inl rfl) (fun b q hb z=>(hs.2 b hb).trans z) he new
theorem dk_new {P:Program}{w:World}{H':Hp}{h':Heap}{kvs:List (Key × V)}{vs:List (Key × Value)}(z:kvs.length≤sizeLine) (hd:(a == sysModules)=false) (rel:KV kvs vs) (dd:h'.DictOf (zai P w) a vs) :
  ObjOk P w H' h' a (.dK kvs):=⟨z,hd,vs,rel,dd⟩
theorem zgD {H':Hp}{Q:Unit→Shared→Prop}(hu:A.units+1<cLine) (I:Inv X pins σ H s) (g:DPut H a y v H') (ry:RelV y u) (rv:RelV v r) (h:∀ s',Inv X pins σ H' s'→Q () s') :
  wpAny (model X.prog X.w) A (setItem (.ref a) u r) Q E s:=by
 rcases g with ⟨kvs,k,e,ey,l,eH⟩|⟨kvs,k,b,e,ey,eb,l,eH⟩
 ·subst ey eH
  obtain⟨z,hd,vs,rel,dd⟩:=zdW I.hok e
  have hz:vs.length≤sizeLine:=by rw[← rel.length];exact z
  have hl:(putK kvs k v).length≤sizeLine:=by have:=zaR kvs k v;lia
  refine wpAny_setItem_pairs (hsz:=hz) (zeU ry) dd fun h' dd' hs=>h _ ?_
  have he:∃ q,h'.get? a=some q:=let ⟨q,_,_,hq,_⟩:=dd';⟨q,hq⟩
  exact zcF I (by rw[e];exact True.intro) hs he (dk_new hl hd (rel.put k rv) dd')
 ·subst ey eH
  cases (show u=Value.ref b from ry)
  obtain⟨z,hd,xs,rel,dd⟩:=zkL I.hok e
  have hz:xs.length≤sizeLine:=by rw[← Paired.length rel];exact z
  have hl:(putK kvs k v).length≤sizeLine:=by have:=zaR kvs k v;lia
  refine wpAny_setItem_heap (hsz:=hz) (tupleKind_room_in1 hu) (zgg I.hok eb) dd fun h' dd' hs=>h _ ?_
  obtain⟨q,es,ep,hq,h2,h3,h4,_,h5⟩:=dd'
  refine zcF I (by rw[e];exact True.intro) hs ⟨q,hq⟩ ⟨hl,hd,_,(rel.put k eb rv).keeps fun c ys ec=>?_,q,es,ep,hq,h2,h3,h4,h5⟩
  rw[zac (ne_of ec e (fun z=>nomatch z))]
  exact ec
end
section
variable {X:Cx}{pins:List (Addr × Obj)}{σ:St}{H:Hp}{s:Shared}{a:Addr}{kvs:List (Key × V)}{k:Key}{u:Value}{A:Around}{E:Value→Shared→Prop}
theorem zgF {Q:Unit→Shared→Prop}(I:Inv X pins σ H s) (e:H a=some (.dK kvs)) (ry:RelV (kV k) u) (l:(valV kvs k).isSome=true) (h:∀ s',Inv X pins σ (upd H a (.dK (zal kvs k))) s'→Q () s') :
  wpAny (model X.prog X.w) A (delItem (.ref a) u) Q E s:=by
 obtain⟨z,hd,vs,rel,dd⟩:=zdW I.hok e
 refine wpAny_delItem_slot dd.typeIs (by decide) PySem.F.slot_dict_delitem
  (call_meetsIn PySem.F.slot_dict_delitem dd.typeIs PySem.F.entry_dict_delitem (PySem.F.args_dict_delitem_2 _ _) (meets_dict_delitem_pairs (zai X.prog X.w) a (zeU ry)) ⟨vs,dd,by rw[← rel.length];exact z,by rw[← (rel.val k).isSome_eq];exact l,fun h' dd' hs=>h _ ?_⟩)
 have he:∃ q,h'.get? a=some q:=let ⟨q,_,_,hq,_⟩:=dd';⟨q,hq⟩
 exact zcF I (by rw[e];exact True.intro) hs he (dk_new (Nat.le_trans (dropK_le kvs k) z) hd (rel.drop k) dd')
theorem zkN {v:V}{more:List Value}{Q:Value→Shared→Prop}(I:Inv X pins σ H s) (e:H a=some (.dK kvs)) (ry:RelV (kV k) u) (l:valV kvs k=some v) (hm:more=[]∨∃ x,more=[x])
  (h:∀ w' s',Inv X pins σ (upd H a (.dK (zal kvs k))) s'→RelV v w'→Q w' s'):wpAny (model X.prog X.w) A (call (.builtin "dict.pop") (.ref a::u::more)) Q E s:=by
 obtain⟨z,hd,vs,rel,dd⟩:=zdW I.hok e
 obtain⟨w',hw,rw'⟩:=RelO.some_of (v:=v) (o:=valueAt vs k) (by rw[← l];exact rel.val k)
 have hp:(keyPart u).isSome=true:=by
  cases k with
  | inl i=>obtain⟨t,q⟩:=(show ∃ t,u=Value.int i t from ry);subst q;rfl
  | inr x=>obtain⟨t,q⟩:=(show ∃ t,u=Value.str x t from ry);subst q;rfl
 have ha:argsOk "dict.pop" ⟨.ref a::u::more,[]⟩:=by
  rcases hm with q|⟨x,q⟩
  ·subst q;exact PySem.F.args_dict_pop_2 _ _
  ·subst q;exact PySem.F.args_dict_pop_3 _ _ _
 refine call_meetsIn PySem.F.slot_dict_pop dd.typeIs PySem.F.entry_dict_pop ha (meets_dict_pop_there (zai X.prog X.w) a (zeU ry) more hm hp)
  ⟨vs,w',dd,by rw[← rel.length];exact z,hw,fun h' dd' hs=>h w' _ ?_ rw'⟩
 have he:∃ q,h'.get? a=some q:=let ⟨q,_,_,hq,_⟩:=dd';⟨q,hq⟩
 exact zcF I (by rw[e];exact True.intro) hs he (dk_new (Nat.le_trans (dropK_le kvs k) z) hd (rel.drop k) dd')
end
def NoSl (i:Expr):Prop:=∀ ov iv,subscripted i false ov iv=operate [ov,iv] (getItem ov iv)
theorem zig {prog:Program}{w:World}{A:Around}{E:Value→Shared→Prop}{s:Shared}{env:Env}{value slice:Expr}{pos:Pos}{T id:String}{Q:Value→Shared→Prop}
  (hl:typeLookup (.type T) "__getitem__" = pure (some (.builtin id))) (hs:NoSl slice)
  (h:wpAny (model prog w) A (eval value env) (fun o s₁=>wpAny (model prog w) A (eval slice env) (fun i s₂=>s₂.TypeIs o T∧wpAny (model prog w) A (getItem o i) Q E s₂) E s₁) E s) :
  wpAny (model prog w) A (eval (.Subscript value slice pos) env) Q E s:=by
 refine Subscript_ (wpAny_mono h (fun o s₁ h₁=>wpAny_mono h₁ (fun i s₂ h₂=>?_) fun _ _ x=>x) fun _ _ x=>x)
 obtain⟨hT,h₂⟩:=h₂
 unfold subscriptTail
 refine wpAny_bind ?_
 rw[getitemInPython_of_ne hT.not_modules]
 refine wpAny_bind (wpAny_specialOf hT hl ?_)
 have fin:wpAny (model prog w) A (subscripted slice false o i) (fun r s₃=>wpAny (model prog w) A (letTemporaryGo value o r >>= fun _=>pure r) Q E s₃) E s₂:=by
  rw[hs o i]
  exact wpAny_operating (wpAny_mono h₂ (fun r s₃ h₃=>wpAny_bind (wpAny_letTemporaryGo (wpAny_pure h₃))) fun _ _ x=>x)
 first
  | exact wpAny_pure (wpAny_bind fin)
  | exact wpAny_bind (wpAny_pure (wpAny_bind fin))
  | exact wpAny_bind fin
theorem zdX {X:Cx}{pins:List (Addr × Obj)}{σ:St}{H:Hp}{s:Shared}{a:Addr}{y:V}{o:Option V}(I:Inv X pins σ H s) (g:DGet H a y o):s.TypeIs (.ref a) "dict":=by
 rcases g with ⟨kvs,k,e,_,_⟩|⟨kvs,k,b,e,_,_,_⟩
 ·obtain⟨_,_,vs,_,dd⟩:=zhD I.hok e
  exact dd.typeIs
 ·obtain⟨_,_,xs,_,dd⟩:=zhC I.hok e
  exact dd.typeIs
def zkl (td ty:TE):TE:=fun σ H Q=>td σ H fun x H1=>ty σ H1 fun y H2=>∃ a v,x=.ref a∧DGet H2 a y (some v)∧Q v H2
def zkp (td ty tv:TE):TS:=fun D σ H=>tv σ H fun v H1=>td σ H1 fun x H2=>ty σ H2 fun y H3=>∃ a H4,x=.ref a∧DPut H3 a y v H4∧D.nx σ H4
def zkq (td ty:TE):TS:=fun D σ H=>td σ H fun x H1=>ty σ H1 fun y H2=>∃ a kvs k,x=.ref a∧H2 a=some (.dK kvs)∧y=kV k∧(valV kvs k).isSome=true∧D.nx σ (upd H2 a (.dK (zal kvs k)))
section
variable {X:Cx}{o i e value:Expr}{pos pos' tpos:Pos}{td ty tv:TE}
theorem zfR (hu:X.A.units+1<cLine) (ho:PE X o td) (hi:PE X i ty) (hs:NoSl i):PE X (.Subscript o i pos) (zkl td ty):=by
 intro pins s σ H Q I h
 refine zig PySem.F.slot_dict_getitem.lookup hs (thn (ho pins s σ H _ I h) fun u s1 ⟨x,H1,I1,rx,q1⟩=>thn (hi pins s1 σ H1 _ I1 q1) fun iv s2 ⟨y,H2,I2,ry,a,v,ex,g,q2⟩=>?_)
 subst ex
 obtain rfl:u=Value.ref a:=rx
 exact⟨zdX I2 g,zgE hu I2 g ry fun w' s3 I3 rw'=>⟨v,H2,I3,rw',q2⟩⟩
theorem ps_dput (hu:X.A.units+1<cLine) (ho:PE X o td) (hi:PE X i ty) (hv:PE X value tv) (hs:swapsWith value (some (.Subscript o i pos')) pos.line X.env=pure false) :
  PS X (.Assign [.Subscript o i pos'] value pos) (zkp td ty tv):=by
 intro pins s σ H D I h
 refine wpAny_Assign_Subscript (thn (hv pins s σ H _ I h) fun r s1 ⟨v,H1,I1,rv,q1⟩=>thn (ho pins s1 σ H1 _ I1 q1) fun u s2 ⟨x,H2,I2,rx,q2⟩=>thn (hi pins s2 σ H2 _ I2 q2) fun iv s3 ⟨y,H3,I3,ry,a,H4,ex,g,q3⟩=>?_) hs
 subst ex
 obtain rfl:u=Value.ref a:=rx
 exact zgD hu I3 g ry rv fun s4 I4=>⟨σ,H4,I4,q3⟩
theorem ps_ddel (ho:PE X o td) (hi:PE X i ty):PS X (.Delete [.Subscript o i tpos] pos) (zkq td ty):=by
 intro pins s σ H D I h
 refine wpAny_Delete (wpAny_deleteEach_cons (wpAny_delete_Subscript (thn (ho pins s σ H _ I h) fun u s1 ⟨x,H1,I1,rx,q1⟩=>thn (hi pins s1 σ H1 _ I1 q1) fun iv s2 ⟨y,H2,I2,ry,a,kvs,k,ex,e,ey,l,q2⟩=>?_)))
 subst ex ey
 obtain rfl:u=Value.ref a:=rx
 exact zgF I2 e ry l fun s3 I3=>wpAny_deleteEach_nil ⟨σ,_,I3,q2⟩
end
section
variable {X:Cx}{pos:Pos}
end
def zbJ (kvs more:List (Key × V)):List (Key × V):=more.foldl (fun acc kv=>putK acc kv.1 kv.2) kvs
theorem KV.merge:∀ {more:List (Key × V)}{rs:List (Key × Value)}{kvs:List (Key × V)}{vs:List (Key × Value)},KV more rs→KV kvs vs→KV (zbJ kvs more) (merged vs rs):=by
 intro more rs kvs vs r
 unfold KV at r
 induction r generalizing kvs vs with
 | nil=>intro q;exact q
 | @cons p q ps qs h t ih =>
  intro r0
  have e:KV (putK kvs p.1 p.2) (stored vs q.1 q.2):=by
   have:=r0.put p.1 h.2
   rw[← h.1];exact this
  exact ih e
theorem za3:∀ (more kvs:List (Key × V)),(zbJ kvs more).length≤kvs.length+more.length
 | [],kvs=>by show kvs.length≤kvs.length+0;lia
 | p::r,kvs=>by
  have h1:=za3 r (putK kvs p.1 p.2)
  have h2:=zaR kvs p.1 p.2
  show (zbJ (putK kvs p.1 p.2) r).length≤_
  rw[List.length_cons];lia
structure M1 (X:Cx) (o:Expr) (m:Str) (apos:Pos) (e:Expr) (cpos:Pos):Prop where
 base:attributeBase o m X.env (eval o X.env)=eval o X.env
 few:((backTo cpos (starEach [e] X.env)).all (fun x=>!x.1) && (backToKw cpos (keywordEach [] X.env)).all (fun x=>x.1.isSome)
  && decide (([e]:List Expr).length+([]:List Keyword).length+(if ([]:List Keyword).isEmpty then 0 else 1)<30))=true
 line:(apos.endLine == cpos.line)=true
 trees:backTo cpos (starEach [e] X.env)=[(false,eval e X.env)]
structure M2 (X:Cx) (o:Expr) (m:Str) (apos:Pos) (e f:Expr) (cpos:Pos):Prop where
 base:attributeBase o m X.env (eval o X.env)=eval o X.env
 few:((backTo cpos (starEach [e,f] X.env)).all (fun x=>!x.1) && (backToKw cpos (keywordEach [] X.env)).all (fun x=>x.1.isSome)
  && decide (([e,f]:List Expr).length+([]:List Keyword).length+(if ([]:List Keyword).isEmpty then 0 else 1)<30))=true
 line:(apos.endLine == cpos.line)=true
 trees:backTo cpos (starEach [e,f] X.env)=[(false,eval e X.env),(false,eval f X.env)]
def IsD (H:Hp) (a:Addr):Prop:=(∃ kvs,Rd H a (.dK kvs))∨∃ kvs,Rd H a (.dT kvs)
theorem zgl {X:Cx}{pins:List (Addr × Obj)}{σ:St}{H:Hp}{s:Shared}{a:Addr}(I:Inv X pins σ H s) (d:IsD H a) :
  s.TypeIs (.ref a) "dict"∧(∀ b,Value.ref a=.ref b→∃ ob,s.heap.get? b=some ob∧ob.dict=none)∧(a == sysModules)=false:=by
 rcases d with ⟨kvs,e⟩|⟨kvs,e⟩
 ·obtain⟨_,hd,vs,_,dd⟩:=zhD I.hok e
  refine⟨dd.typeIs,fun b q=>?_,hd⟩
  cases q
  obtain⟨ob,_,_,h1,h2,_⟩:=dd
  exact⟨ob,h1,h2.2.1⟩
 ·obtain⟨_,hd,xs,_,dd⟩:=zhC I.hok e
  refine⟨dd.typeIs,fun b q=>?_,hd⟩
  cases q
  obtain⟨ob,_,_,h1,h2,_⟩:=dd
  exact⟨ob,h1,h2.2.1⟩
section
variable {X:Cx}{pins:List (Addr × Obj)}{σ:St}{H:Hp}{s:Shared}{a:Addr}{y d:V}{u r:Value}{o:Option V}{A:Around}{E:Value→Shared→Prop}
end
def zju (td ty:TE):TE:=fun σ H Q=>td σ H fun x H1=>∃ a,x=.ref a∧IsD H1 a∧ty σ H1 fun y H2=>∃ kvs k v,H2 a=some (.dK kvs)∧y=kV k∧valV kvs k=some v∧Q v (upd H2 a (.dK (zal kvs k)))
section
variable {X:Cx}{o e f:Expr}{apos cpos:Pos}{td ty tx:TE}
theorem pe_dpop1 (ho:PE X o td) (he:PE X e ty) (m:M1 X o "pop" apos e cpos):PE X (.Call (.Attribute o "pop" apos) [e] [] cpos) (zju td ty):=by
 intro pins s σ H Q I h
 refine wpAny_Call_method m.base m.few m.line PySem.F.plainAttrs_dict PySem.F.slot_dict_pop PySem.F.type_dict_pop (thn (ho pins s σ H _ I h) fun u s1 ⟨x,H1,I1,rx,a,ex,d,q1⟩=>?_)
 subst ex
 obtain rfl:u=Value.ref a:=rx
 obtain⟨t1,t2,_⟩:=zgl I1 d
 refine⟨t1,t2,?_⟩
 rw[m.trees]
 refine Calls.callWith_builtin rfl (Calls.evalArgs_plain (Calls.spliced_cons (thn (he pins s1 σ H1 _ I1 q1) fun iv s2 ⟨y,H2,I2,ry,kvs,k,v,ea,ey,l,q2⟩=>Calls.spliced_nil ?_)))
 subst ey
 exact zkN I2 ea ry l (.inl rfl) fun w' s3 I3 rw'=>⟨v,_,I3,rw',q2⟩
end
section
variable {X:Cx}{pins:List (Addr × Obj)}{σ:St}{H:Hp}{s:Shared}{a:Addr}{kvs:List (Key × V)}{A:Around}{E:Value→Shared→Prop}
end
section
variable {X:Cx}{pins:List (Addr × Obj)}{σ:St}{H:Hp}{s:Shared}{a:Addr}{y:V}{u:Value}{A:Around}{E:Value→Shared→Prop}
end
end L2
namespace Bn
open PySem L2 Own
structure KAd where
 d:Addr
 db:Addr
 lo:Addr
 lg:Addr
 lt:Addr
section
variable {A:KAd}{n:Int}
end
theorem za7 {os:List (Option (Nat × Nat))}{b:Nat}:b∈wayL os↔∃ o,os[b]?=some (some o):=by
 unfold wayL
 rw[List.mem_filter,List.mem_range]
 constructor
 ·rintro⟨l,h⟩
  rw[List.getD_eq_getElem?_getD,List.getElem?_eq_getElem l]at h
  cases e:os[b] with
  | none=>rw[e]at h;cases h
  | some o=>exact⟨o,by rw[List.getElem?_eq_getElem l,e]⟩
 ·rintro⟨o,h⟩
  obtain⟨l,e⟩:=List.getElem?_eq_some_iff.mp h
  refine⟨l,?_⟩
  rw[List.getD_eq_getElem?_getD,h];rfl
theorem zce {os:List (Option (Nat × Nat))}{b:Nat}:wayL (os.set b none)=(wayL os).filter fun c=>decide (c≠b):=by
 unfold wayL
 rw[List.length_set,List.filter_filter]
 refine List.filter_congr fun c hc=>?_
 rw[List.getD_eq_getElem?_getD,List.getD_eq_getElem?_getD,List.getElem?_set]
 by_cases e:b=c
 ·subst e
  simp
  split<;>rfl
 ·have e2:¬ c=b:=fun z=>e z.symm
  simp[e,e2]
theorem zfI {kvs:List (Key × V)}{k:Key}{v:V}(h:∀ p∈kvs,¬ p.1=k):putK kvs k v=kvs++[(k,v)]:=by
 unfold putK
 rw[if_neg]
 intro z
 obtain⟨p,hp,q⟩:=List.any_eq_true.mp z
 exact h p hp (of_decide_eq_true q)
def onB (lane:Nat) (f:Nat × Nat):Bool:=decide (lane=f.1) || decide (lane=f.2)
def lfL (fs:List (Nat × Nat)) (lane:Nat) (last:Int) (j:Nat):List Nat:=(List.range j).filter fun i=>decide (last<(i:Int)) && onB lane (fs.getD i (0,0))
theorem zbK (fs:List (Nat × Nat)) (lane:Nat) (last:Int) (j:Nat):lfL fs lane last (j+1)=lfL fs lane last j++(if (decide (last<(j:Int)) && onB lane (fs.getD j (0,0)))=true then [j] else []):=by
 unfold lfL
 rw[List.range_succ,List.filter_append]
 congr 1
 rw[List.filter_cons,List.filter_nil]
theorem zjU (fs:List (Nat × Nat)) (lane:Nat) (last:Int) (j:Nat):(lfL fs lane last j).length≤j:=by
 unfold lfL
 exact Nat.le_trans (List.length_filter_le _ _) (by rw[List.length_range];exact Nat.le_refl _)
theorem zi0 {fs:List (Nat × Nat)}{lane k:Nat}{last:Int}(l0:-1≤last) (h:IsNext fs lane (last+1).toNat k):(k=fs.length→lfL fs lane last fs.length=[])∧(k<fs.length→∃ r,lfL fs lane last fs.length=k::r):=by
 have no:∀ i,i<k→i<fs.length→(decide (last<(i:Int)) && onB lane (fs.getD i (0,0)))=false:=fun i ik il=>by
  by_cases z:last<(i:Int)
  ·have:=h.none i fs[i] (by lia) ik (List.getElem?_eq_getElem il)
   rw[decide_eq_true z,Bool.true_and,List.getD_eq_getElem?_getD,List.getElem?_eq_getElem il]
   show onB lane fs[i]=false
   unfold onB
   rw[decide_eq_false (fun q=>this (.inl q)),decide_eq_false (fun q=>this (.inr q))];rfl
  ·rw[decide_eq_false z];rfl
 have upto:∀ j,j≤k→j≤fs.length→lfL fs lane last j=[]:=fun j=>by
  induction j with
  | zero=>intro _ _;rfl
  | succ j ih =>
   intro a b
   rw[zbK,ih (by lia) (by lia),no j (by lia) (by lia)];rfl
 refine⟨fun e=>upto _ (by lia) (Nat.le_refl _),fun kl=>?_⟩
 have here:=h.here fs[k] (List.getElem?_eq_getElem kl)
 have yes:(decide (last<(k:Int)) && onB lane (fs.getD k (0,0)))=true:=by
  have:=h.from_
  rw[decide_eq_true (by lia),Bool.true_and,List.getD_eq_getElem?_getD,List.getElem?_eq_getElem kl]
  show onB lane fs[k]=true
  unfold onB
  rcases here with q|q
  ·rw[decide_eq_true q];rfl
  ·rw[decide_eq_true q,Bool.or_true]
 have more:∀ j,k+1+j≤fs.length→∃ r,lfL fs lane last (k+1+j)=k::r:=fun j=>by
  induction j with
  | zero =>
   intro _
   exact⟨[],by rw[Nat.add_zero,zbK,upto k (Nat.le_refl _) (by lia),yes];rfl⟩
  | succ j ih =>
   intro b
   obtain⟨r,e⟩:=ih (by lia)
   exact⟨_,by rw[show k+1+(j+1)=(k+1+j)+1 by lia,zbK,e];rfl⟩
 obtain⟨r,e⟩:=more (fs.length-(k+1)) (by lia)
 rw[show k+1+(fs.length-(k+1))=fs.length by lia]at e
 exact⟨r,e⟩
end Bn
namespace Own
open PySem PySem.Spec PyProof.Rows
theorem zc5:typeLookup (.type "list") "keys" = pure none:=by
 exact(by rw[typeLookup_type,builtinLookup_eq_fast];kernel_rfl)
theorem zc6:typeLookup (.type "list") "__getattr__" = pure none:=by
 exact(by rw[typeLookup_type,builtinLookup_eq_fast];kernel_rfl)
section
variable {prog:Program}{w:World}{A:Around}{E:Value→Shared→Prop}{s:Shared}{l:Addr}{its:Array Value}{n:Nat}
theorem zeT {u:Tok}{Q:Fin→Shared→Prop}(hx:s.heap.get? l=some { cls:=.type "list",data:=.seq its n }) (hA:A.handled=none)
  (h:∀ h' tk e,Heap.NewAttrErr s.heap h' e (.ref l) "keys"→E (.ref e) { s with heap:=h',toks:=tk }) :
  wpAny (model prog w) A (Builtin.«object.__getattribute__» ⟨[.ref l,.str "keys" u],[]⟩) Q E s:=by
 obtain⟨hp,gs,dr,tk,os⟩:=s
 have ty:(⟨hp,gs,dr,tk,os⟩:Shared).TypeIs (.ref l) "list":=⟨_,hx,rfl⟩
 have f4:=zc5;unfold Builtin.«object.__getattribute__»
 repeat any_goals (first|assumption|wp_step)
 repeat any_goals (first|assumption|wp_step)
 exact wpAny_raiseAttrError hA h (attrMsg_fits (by decide +kernel) (by size_fits))
theorem zgf {u:Tok}{R:Result→Shared→Prop}(hx:s.heap.get? l=some { cls:=.type "list",data:=.seq its n }) (hA:A.handled=none)
  (h:∀ h' tk e,Heap.NewAttrErr s.heap h' e (.ref l) "keys"→R (.error (.ref e)) { s with heap:=h',toks:=tk }) :
  codeAny (model prog w) A (.call (.builtin "list.__getattribute__") ⟨[.ref l,.str "keys" u],[]⟩) R s :=
 codeAny_call_builtin F.slot_list_getattribute.plain F.entry_list_ga (F.slot_list_getattribute.check _ _ _ _ _ _ _ _ (show s.TypeIs (.ref l) "list" from⟨_,hx,rfl⟩) (F.args_list_getattribute_2 _ _) (zeT (A:=A.in1) hx hA h))
theorem zf9 {Q:Option Value→Shared→Prop}(hx:s.heap.get? l=some { cls:=.type "list",data:=.seq its n }) (hA:A.handled=none)
  (h:∀ h' tk,(∀ b o,s.heap.get? b=some o→h'.get? b=some o)→Q none { s with heap:=h',toks:=tk }) :
  wpAny (model prog w) A (getAttr? (.ref l) "keys") Q E s:=by
 obtain⟨hp,gs,dr,tk,os⟩:=s
 have ty:(⟨hp,gs,dr,tk,os⟩:Shared).TypeIs (.ref l) "list":=⟨_,hx,rfl⟩
 have f1:=sub_AttributeError
 have g2:=F.slot_list_getattribute.lookup
 have f3:=F.slot_list_getattribute.bind (.ref l)
 have f5:=zc6;unfold getAttr? getAttrBy? getAttrBy
 repeat any_goals (first|assumption|wp_step)
 refine zgf hx hA fun h' tk' e ne=>?_
 obtain⟨t',u',he⟩:=ne.there
 have te:({ heap:=h',gens:=gs,drawn:=dr,toks:=tk',os:=os }:Shared).TypeIs (.ref e) "AttributeError":=⟨_,he,rfl⟩
 dsimp only
 unfold getattributeRaised
 repeat any_goals (first|assumption|wp_step)
 exact h h' tk' ne.keeps
end
theorem zaO:entryFor table "dict.update.loop" = some Builtin.«dict.update.loop»:=entryFor_of_fast (by kernel_rfl)
theorem zas:plainId "dict.update.loop" = true:=by decide +kernel
section
variable {prog:Program}{w:World}{K:Type} [DecidableEq K] {knd:KeyKind prog w K}{A:Around}{E:Value→Shared→Prop}{d it l:Addr}{its:Array Value}{ps:List (K × Value)}{res:Value}
def PairsIn (knd:KeyKind prog w K) (h:Heap) (its:Array Value) (ps:List (K × Value)):Prop :=
 its.size=ps.length∧∀ (i:Nat) (x:Value),its[i]?=some x→∃ t key v k ob m,x=.ref t∧h.get? t=some ob∧ob.cls=.type "tuple"∧ob.data=.seq #[key,v] m∧knd.is k key=true∧ps[i]?=some (k,v)
theorem PairsIn.keep {h h':Heap}(p:PairsIn knd h its ps) (f:∀ b o,o.cls=.type "tuple"→h.get? b=some o→h'.get? b=some o):PairsIn knd h' its ps :=
 ⟨p.1,fun i x e=>let ⟨t,key,v,k,ob,m,e1,e2,e3,e4⟩:=p.2 i x e;⟨t,key,v,k,ob,m,e1,f t ob e3 e2,e3,e4⟩⟩
theorem zeD (kvs:List (K × Value)) (k:K) (v:Value):(stored kvs k v).length≤kvs.length+1:=by
 unfold stored
 split
 ·rw[List.length_map];lia
 ·rw[List.length_append];exact Nat.le_refl _
theorem zeH {R:Result→Shared→Prop}(hh:A.handled=none):∀ (m i:Nat) (s:Shared) (kvs:List (K × Value)),i+m=its.size→s.heap.IsListIter it l i→s.heap.IsList l its→s.heap.DictOf knd d kvs→PairsIn knd s.heap its ps→it≠d→kvs.length+m≤sizeLine →
  (∀ h' tk,h'.DictOf knd d (merged kvs (ps.drop i))→(∀ b o,b≠d→b≠it→s.heap.get? b=some o→h'.get? b=some o)→R (.ok (.ret res)) { s with heap:=h',toks:=tk }) →
  codeAny (model prog w) A (.builtin "dict.update.loop" ⟨[.ref d,.ref it,rawInt (i:Int),res],[]⟩) R s:=by
 intro m
 induction m with
 | zero =>
  intro i s kvs im hit hl hd hp ne hz fin
  refine codeAny_builtin zaO ?_
  rw[Around.under_plainId zas]
  show wpAny _ A.in1 (pyNext (Value.ref it) >>= _) _ _ _
  refine wpAny_bind (wpAny_pyNext_list_end (A:=A.in1) hh hit hl (Array.getElem?_eq_none (by lia)) fun h' kk=>?_)
  refine wpAny_bind (wpAny_pure (wpAny_pure (fin h' s.toks ?_ fun b o _ nb e=>kk b o nb e)))
  rw[List.drop_eq_nil_of_le (by rw[← hp.1];lia)]
  exact hd.extBut kk (Ne.symm ne)
 | succ m ih =>
  intro i s kvs im hit hl hd hp ne hz fin
  obtain⟨x,ex⟩:∃ x,its[i]?=some x:=⟨_,getElem?_pos its i (by lia)⟩
  obtain⟨t,key,v,k,ob,mm,rfl,et,ct,dt,hk,epk⟩:=hp.2 i x ex
  refine codeAny_builtin zaO ?_
  rw[Around.under_plainId zas]
  show wpAny _ A.in1 (pyNext (Value.ref it) >>= _) _ _ _
  refine wpAny_bind (wpAny_pyNext_list_item (A:=A.in1) hit hl ex fun h1 hit1 sb1=>?_)
  have nt:t≠it:=by
   rintro rfl
   obtain⟨o,e,c,_⟩:=hit
   rw[et]at e
   obtain rfl:=Option.some.inj e
   rw[ct]at c;exact absurd (Value.type.inj c) (by decide)
  have nd:t≠d:=by
   rintro rfl
   obtain⟨o,es,ep,e,_,dd,_⟩:=hd
   rw[et]at e
   obtain rfl:=Option.some.inj e
   rw[dt]at dd;cases dd
  have nl:l≠it:=by
   rintro rfl
   obtain⟨o,e,c,_⟩:=hit
   obtain⟨o',e',c',_⟩:=hl
   rw[e']at e
   obtain rfl:=Option.some.inj e
   rw[c']at c;exact absurd (Value.type.inj c) (by decide)
  have nld:l≠d:=by
   rintro rfl
   obtain⟨o',e',c',n',d'⟩:=hl
   obtain⟨o,es,ep,e,_,dd,_⟩:=hd
   rw[e']at e
   obtain rfl:=Option.some.inj e
   rw[d']at dd;cases dd
  have et1:h1.get? t=some ob:=(sb1.2 t nt).trans et
  have ty:({ s with heap:=h1 }:Shared).TypeIs (.ref t) "tuple":=⟨ob,et1,ct⟩
  have hd1:=hd.sameBut sb1 (Ne.symm ne)
  refine wpAny_bind (wpAny_holding (wpAny_bind (wpAny_tryCatch ?_)))
  unfold Builtin.Dict.pairItems
  refine wpAny_bind (wpAny_typeOf ty ?_)
  rw[if_pos (by decide)]
  refine wpAny_bind (wpAny_seqItems et1 dt (wpAny_pure ?_))
  refine wpAny_holding (wpAny_dictSet_pairs hk hd1 (fun h2 hd2 sb2=>?_) (by lia))
  refine wpAny_pure ⟨plainId_quiet zas _,?_⟩
  have oth:∀ b o,b≠d→b≠it→s.heap.get? b=some o→h2.get? b=some o:=fun b o b1 b2 e=>(sb2.2 b b1).trans ((sb1.2 b b2).trans e)
  have sl:=zeD kvs k v
  have hit2:h2.IsListIter it l (i+1):=by
   obtain⟨o,e,r⟩:=hit1
   exact⟨o,(sb2.2 it ne).trans e,r⟩
  have hl2:h2.IsList l its:=by
   obtain⟨o,e,r⟩:=hl
   exact⟨o,oth l o nld nl e,r⟩
  have hp2:PairsIn knd h2 its ps:=⟨hp.1,fun j y ey=>by
   obtain⟨t',key',v',k',ob',m',e1,e2,e3,e4,e5⟩:=hp.2 j y ey
   refine⟨t',key',v',k',ob',m',e1,oth t' ob' ?_ ?_ e2,e3,e4,e5⟩
   ·rintro rfl
    obtain⟨o,es,ep,e,_,dd,_⟩:=hd
    rw[e2]at e
    obtain rfl:=Option.some.inj e
    rw[e4]at dd;cases dd
   ·rintro rfl
    obtain⟨o,e,c,_⟩:=hit
    rw[e2]at e
    obtain rfl:=Option.some.inj e
    rw[e3]at c;exact absurd (Value.type.inj c) (by decide)⟩
  have eq:rawInt ((i:Int)+1)=rawInt (((i+1:Nat):Int)):=rfl
  refine ih (i+1) _ (stored kvs k v) (by lia) hit2 hl2 hd2 hp2 ne (by lia) fun h' tk d' kk=>fin h' tk ?_ fun b o b1 b2 e=>kk b o b1 b2 (oth b o b1 b2 e)
  have il:i<ps.length:=by rw[← hp.1];lia
  rw[List.drop_eq_getElem_cons il,show ps[i]=(k,v) from (List.getElem?_eq_some_iff.mp epk).2]
  exact d'
theorem ze0 {s:Shared}{n:Nat}{Q:Value→Shared→Prop}(hh:A.handled=none) (hl:s.heap.get? l=some { cls:=.type "list",data:=.seq its n }) (hp:PairsIn knd s.heap its ps) (hz:its.size≤sizeLine)
  (h:∀ h' tk,h'.DictOf knd s.heap.objs.size (merged [] ps)→(∀ b o,s.heap.get? b=some o→h'.get? b=some o)→Q (.ref s.heap.objs.size) { s with heap:=h',toks:=tk }) :
  wpAny (model prog w) A (call (.type "dict") [.ref l]) Q E s:=by
 refine callType_codes (Q₁:=fun ob s1=>ob=.ref s.heap.objs.size∧s1={ s with heap:=s.heap.push { cls:=.type "dict",data:=.dict #[] } }) F.kt_called_dict (F.kt_typeCall_dict_1 _) F.entry_dict_init (kt_code_dict_new _ ⟨rfl,rfl⟩) ?_
 rintro ob s1 ⟨rfl,rfl⟩
 have nw:(s.heap.push { cls:=.type "dict",data:=.dict #[] }).DictOf knd s.heap.objs.size []:=Heap.DictOf.new s.heap
 have hl1:=Heap.get?_push_of_some ({ cls:=.type "dict",data:=.dict #[] }:Obj) hl
 have tl:({ s with heap:=s.heap.push { cls:=.type "dict",data:=.dict #[] } }:Shared).TypeIs (.ref l) "list":=⟨_,hl1,rfl⟩
 refine⟨nw.typeIs,F.args_dict_init_2 _ _,?_⟩
 unfold Builtin.«dict.__init__» Builtin.Dict.selfAndRest
 refine wpAny_bind (wpAny_bind (wpAny_notOrdered_dict nw.typeIs (wpAny_pure ?_)))
 show wpAny _ _ (Builtin.Dict.updateFrom "dict.__init__" s.heap.objs.size (Value.ref l) [] Value.none) _ _ _
 unfold Builtin.Dict.updateFrom;refine wpAny_bind (wpAny_typeOf tl ?_)
 rw[if_pos (by decide)]
 refine wpAny_bind (zf9 hl1 hh fun h2 tk2 kk2=>?_)
 rw[if_pos (by rfl)]
 refine wpAny_bind (wpAny_rule ?_)
 have hl2:=kk2 _ _ hl1
 refine wpAny_bind (wpAny_pyIter_list ⟨_,hl2,rfl,_,rfl⟩ ?_)
 refine wpAny_pure ⟨plainId_quiet zas _,?_⟩
 have kk3:∀ b o,(s.heap.push { cls:=.type "dict",data:=.dict #[] }).get? b=some o→(h2.push ({ cls:=.type "list_iterator",data:=.fields #[.ref l,.int 0 0] }:Obj)).get? b=some o:=fun b o e=>Heap.get?_push_of_some _ (kk2 b o e)
 have dl:s.heap.objs.size<h2.objs.size:=by
  obtain⟨o,_,_,e,_⟩:=nw
  exact Heap.lt_size (kk2 _ _ e)
 refine zeH (A:=A.in1) (R:=wants (fun r s₂=>r=Value.none∧Q (.ref s.heap.objs.size) s₂) E) (knd:=knd) (it:=h2.objs.size) (ps:=ps) (l:=l) (its:=its) hh its.size 0 { s with heap:=h2.push { cls:=.type "list_iterator",data:=.fields #[.ref l,.int 0 0] },toks:=tk2 } [] (by lia) ⟨_,Heap.get?_push_size _ rfl,rfl,rfl⟩ ⟨_,Heap.get?_push_of_some _ hl2,rfl,_,rfl⟩ (nw.keep kk3) (hp.keep fun b o _ e=>kk3 b o (Heap.get?_push_of_some _ e)) (Nat.ne_of_gt dl) (by simpa using hz) fun h' tk dd kk=>⟨rfl,h h' tk dd fun b o e=>?_⟩
 have bl:=Heap.lt_size e
 exact kk b o (Nat.ne_of_lt bl) (Nat.ne_of_lt (Nat.lt_trans bl dl)) (kk3 b o (Heap.get?_push_of_some _ e))
end
end Own
namespace L2
open PySem PySem.Spec PyProof.Rows Own
def PrK (H:Hp) (ts:List V) (kvs:List (Key × V)):Prop:=ts.length=kvs.length∧∀ (i:Nat) t,ts[i]?=some t→∃ a k v,t=.ref a∧kvs[i]?=some (k,v)∧H a=some (.tup [kV k,v])
section
variable {X:Cx}{pins:List (Addr × Obj)}{σ:St}{H:Hp}{s:Shared}{A:Around}{E:Value→Shared→Prop}
theorem zee (I:Inv X pins σ H s):∀ {ts:List V}{kvs:List (Key × V)}{its:List Value},Vals ts its→PrK H ts kvs→∃ ps,KV kvs ps∧its.length=ps.length∧∀ (i:Nat) (x:Value),its[i]?=some x→∃ t key v k ob m,x=.ref t∧s.heap.get? t=some ob∧ob.cls=.type "tuple"∧ob.data=.seq #[key,v] m∧(zai X.prog X.w).is k key=true∧ps[i]?=some (k,v)
 | [],[],_,.nil,_=>⟨[],.nil,rfl,fun i x e=>by simp at e⟩
 | [],_::_,_,_,h=>by have:=h.1;simp at this
 | _::_,[],_,_,h=>by have:=h.1;simp at this
 | t::ts,kv::kvs,_,.cons (b:=u) r rs,h=>by
  obtain⟨ps,rel,len,hp⟩:=zee I rs ⟨by have:=h.1;simpa using this,fun i t' e=>by
   have:=h.2 (i+1) t' (by simpa using e)
   simpa using this⟩
  obtain⟨a,k,v,rfl,e2,ha⟩:=h.2 0 t rfl
  obtain rfl:kv=(k,v):=by simpa using e2
  cases r
  obtain⟨its2,g,⟨o,eo,co,m,dm⟩,_⟩:=I.tuple (SqT.of (K:=X.K) ha)
  obtain⟨x,y,rfl,rx,ry⟩:=zia g
  refine⟨(k,y)::ps,.cons ⟨rfl,ry⟩ rel,by simp[len],fun i z e=>?_⟩
  cases i with
  | zero =>
   obtain rfl:Value.ref a=z:=by simpa using e
   exact⟨a,x,y,k,o,m,rfl,eo,co,dm,zeU rx,rfl⟩
  | succ i=>exact hp i z (by simpa using e)
theorem zje {l:Addr}{ts:List V}{kvs:List (Key × V)}{Q:Value→Shared→Prop}(hh:A.handled=none) (I:Inv X pins σ H s) (e:H l=some (.lst ts)) (p:PrK H ts kvs)
  (h:∀ q s',H q=none→Inv X pins σ (upd H q (.dK (zbJ [] kvs))) s'→Q (.ref q) s'):wpAny (model X.prog X.w) A (call (.type "dict") [.ref l]) Q E s:=by
 obtain⟨z,its,n,r,el⟩:=I.hok _ _ e
 obtain⟨ps,rel,len,hp⟩:=zee I r p
 have zl:kvs.length≤sizeLine:=by rw[← p.1];exact z
 refine ze0 (knd:=zai X.prog X.w) (ps:=ps) hh el ⟨by simpa using len,fun i x ex=>hp i x (by simpa using ex)⟩ (by rw[List.size_toArray,← r.length];exact z) fun h' tk dd kk=>?_
 refine h _ _ (I.hok.fresh (Nat.le_refl _)) (I.laid (a:=s.heap.objs.size) (t':=tk) kk (Nat.le_refl _) (dk_new ?_ (beq_eq_false_iff_ne.mpr (Ne.symm (Nat.ne_of_lt I.big))) (rel.merge .nil) dd))
 have:=za3 kvs []
 simp at this
 lia
end
def ziE:List V→Hp→VK→Prop:=fun vs H Q=>∃ l ts kvs,vs=[.ref l]∧H l=some (.lst ts)∧PrK H ts kvs∧∀ q,H q=none→Q (.ref q) (upd H q (.dK (zbJ [] kvs)))
section
variable {X:Cx}{o e:Expr}{td ty:TE}{apos cpos:Pos}
theorem ze1 (hc:X.calm=true):CallR X (.type "dict") ziE:=by
 intro pins s σ H vs us Q I r h
 obtain⟨l,ts,kvs,rfl,el,p,q⟩:=h
 obtain⟨u,rfl,rx⟩:=zcP r
 obtain rfl:u=Value.ref l:=rx
 exact zje (I.ok.hd hc) I el p fun x s' hx I'=>⟨.ref x,_,I',rfl,q x hx⟩
end
structure MgD (mg:Str→Option Value):Prop where
 dict:mg "dict" = none
end L2
namespace L2
open PySem PySem.Spec PyProof.Rows Own Ts
section
variable {X:Cx}{pins:List (Addr × Obj)}{σ:St}{H:Hp}{s:Shared}
theorem Inv.adopt {T:Addr}{o:HO}(I:Inv X pins σ H s) (hf:FpOk X pins H T) (new:ObjOk X.prog X.w (upd H T o) s.heap T o):Inv X pins σ (upd H T o) s:=by
 have hn:=hf.1
 have J:Inv X pins σ (upd H T o) { s with heap:=s.heap,gens:=s.gens,drawn:=s.drawn,toks:=s.toks }:=by
  refine I.step (ch:=[T]) (fun b hb=>?_) (fun b u _ _ _ e _=>e) (fun b u _ _ _ e _=>⟨u.slots,e⟩) (fun b u hc _ n=>by rw[zac fun q=>hc (List.mem_singleton.mpr q)];exact n)
   (fun b u _ e=>⟨u,e⟩) (fun b xs e=>by rw[zac (zad e hn)];exact e) (fun b u x e=>by rw[zac (zad e hn)];exact e) (fun b ps e=>⟨#[],by rw[zac (zad e hn),e];simp⟩) (fun m hm=>hm) (fun b u e=>?_) I.bare
  ·have only:=List.mem_singleton.mp hb
   subst only
   exact⟨hf.2.2.2.1,hf.2.1,hf.2.2.2.2.1,hf.2.2.2.2.2⟩
  ·by_cases hb:b=T
   ·subst hb;rw[zab]at e;cases e;exact new
   ·rw[zac hb]at e
    exact(I.hok b u e).stay (fun c v _ q=>q) (fun c q=>by rw[zac (zad q hn)];exact q) fun c xs q=>by rw[zac (zad q hn)];exact q
 exact J
end
def zif (K:PySem.W.Frag) (b1 b2:Bool) (ta:TA):TE:=fun σ H Q=>ta σ H fun vs H1=>∃ a1 a2 xs ys,vs=[.ref a1,.ref a2]∧SqB b1 K H1 a1 xs∧SqB b2 K H1 a2 ys∧xs.length≤ys.length∧xs.length≤10000 ∧
 ∀ l ts H2,Same H1 H2→H1 l=none→H2 l=none→Zip2 H2 ts xs ys→Q (.ref l) (upd H2 l (.lst ts))
theorem zc0 {X:Cx}{a b:Expr}{ta:TA}{p p2 pos pos2:Pos}(b1 b2:Bool) (hg:Gl X "list") (hm:X.mg "list" = none) (hg2:Gl X "zip") (hm2:X.mg "zip" = none) (hc:X.calm=true) (ha:PA X [a,b] ta)
  (he:starEach [Expr.Call (.Name "zip" p2) [a,b] [] pos2] X.env=[(false,eval (Expr.Call (.Name "zip" p2) [a,b] [] pos2) X.env)]:=by rfl)
  (hs:starEach [a,b] X.env=[(false,eval a X.env),(false,eval b X.env)]:=by rfl) (hs2:starEach [b] X.env=[(false,eval b X.env)]:=by rfl) :
  PE X (.Call (.Name "list" p) [.Call (.Name "zip" p2) [a,b] [] pos2] [] pos) (zif X.K b1 b2 ta):=by
 intro pins s σ H Q I h
 refine wpAny_Call_Name_kw (zaD I hg hm (u:=.type "list") (by rfl) (PyProof.Rows.callWith_type1 ?_ he rfl))
 rw[he]
 refine Calls.spliced_cons ?_
 refine Call_ (zaD I hg2 hm2 (u:=.type "zip") (by rfl) (PyProof.Rows.callWith_type1 (thn (ha pos2 pins s σ H _ I h) fun us s1 ⟨vs,H1,I1,r1,q1⟩=>?_) (by rw[hs,hs2]) (by rw[hs2];rfl)))
 obtain⟨a1,a2,xs,ys,rfl,hq1,hq2,hl,hz,q⟩:=q1
 obtain⟨u,v,rfl,ru,rv⟩:=r1.two
 cases ru
 cases rv
 obtain⟨its,rx,pl1⟩:=I1.sq hq1
 obtain⟨jts,ry,pl2⟩:=I1.sq hq2
 have lx:=rx.length
 have ly:=ry.length
 refine callType_new F.called_zip (by decide) (F.typeCall_zip_2 _ _) (F.newCall_zip_2 _ _) (fun obj=>F.args_object_init_3 obj _ _) F.entry_zip_new (zdm b1 b2 a1 a2 its.toArray jts.toArray) ⟨pl1,pl2,fun h' z ⟨TI,TO,i1,i2,nd,far,hzz,hI,hO,h1,h2⟩ hk=>⟨⟨_,hzz,rfl⟩,?_⟩⟩
 refine Calls.spliced_nil ?_
 have I2:Inv X pins σ H1 { s1 with heap:=h',toks:=s1.toks }:=I1.kept hk
 have fp:∀ c∈[z,TI,TO,i1,i2],FpOk X pins H1 c:=fun c hc=>I1.fpOk (far c hc) (I1.hok.fresh (far c hc))
 have na1:∀ c∈[z,TI,TO,i1,i2],c≠a1:=fun c hm=>I1.sq_ne hq1 (fp c hm)
 have na2:∀ c∈[z,TI,TO,i1,i2],c≠a2:=fun c hm=>I1.sq_ne hq2 (fp c hm)
 have nd':=nd
 simp only[List.nodup_cons,List.mem_cons,List.not_mem_nil,or_false,not_or]at nd'
 obtain⟨⟨zI,zO,z1,z2⟩,⟨IO,iI1,iI2⟩,⟨O1,O2⟩,n12,_⟩:=nd'
 have S:Sep z TI TO i1 i2 [i1,a1] [i2,a2]:=⟨nd,by simp[z1,na1 z (by simp)],by simp[O1,na1 TO (by simp)],by simp[Ne.symm n12,na1 i2 (by simp)],by simp[z2,na2 z (by simp)],by simp[O2,na2 TO (by simp)],by simp[n12,na2 i1 (by simp)]⟩
 have hd:=I1.ok.hd hc
 have q1':SqO b1 h' a1 its.toArray:=pl1.mv fun o e=>hk _ _ e
 have q2':SqO b2 h' a2 jts.toArray:=pl2.mv fun o e=>hk _ _ e
 have D1:=zcD (prog:=X.prog) (w:=X.w) (A:=X.A.in1.in1.in1) hd b1 i1 a1 its.toArray (q1'.ne h1)
 have D2:=zcD (prog:=X.prog) (w:=X.w) (A:=X.A.in1.in1.in1) hd b2 i2 a2 jts.toArray (q2'.ne h2)
 have low:∀ c∈[i1,a1]++[i2,a2],c<h'.objs.size:=fun c hc=>by
  obtain⟨o1,n1,e1,_⟩:=q1'.ob
  obtain⟨o2,n2,e2,_⟩:=q2'.ob
  simp only[List.cons_append,List.nil_append,List.mem_cons,List.not_mem_nil,or_false]at hc
  rcases hc with rfl|rfl|rfl|rfl
  ·exact Heap.lt_size h1
  ·exact Heap.lt_size e1
  ·exact Heap.lt_size h2
  ·exact Heap.lt_size e2
 have fpL:FpOk X pins H1 h'.objs.size:=I2.fpOk (Nat.le_refl _) (I2.hok.fresh (Nat.le_refl _))
 refine zhn (J:=fun acc s'=>∃ (ts:List Addr) (Hk:Hp),Inv X pins σ Hk s'∧Same H1 Hk∧acc.toList=ts.map Value.ref∧(∀ (i:Nat) t,ts[i]?=some t→∃ x y,xs[i]?=some x∧ys[i]?=some y∧Hk t=some (.tup [x,y]))∧(∀ c∈[z,TO,i1,i2,h'.objs.size],FpOk X pins Hk c)) S D1 D2 (by rw[List.size_toArray,List.size_toArray];lia) hzz hI hO ⟨h1,q1'⟩ ⟨h2,q2'⟩ low ?_ ?_ ?_ ?_ ?_
 ·rw[List.size_toArray];exact Nat.le_trans (show _≤10000 by lia) (by decide)
 ·rintro acc s' h2' tk x y ⟨ts,Hk,Ik,sm,ea,ht,fk⟩ lt px py new kk
  have il:acc.size<xs.length:=by
   have b:acc.size<its.toArray.size:=(Array.getElem?_eq_some_iff.mp px).1
   have b2:its.toArray.size=its.length:=List.size_toArray ..
   lia
  obtain⟨u,e1,r1⟩:=rx.get (List.getElem?_eq_getElem il)
  obtain⟨v,e2,r2⟩:=ry.get (List.getElem?_eq_getElem (show acc.size<ys.length by lia))
  have px':its[acc.size]?=some x:=by simpa using px
  have py':jts[acc.size]?=some y:=by simpa using py
  rw[px']at e1;obtain rfl:=Option.some.inj e1
  rw[py']at e2;obtain rfl:=Option.some.inj e2
  have nT:∀ c∈[z,TO,i1,i2,h'.objs.size],c≠s'.heap.objs.size:=fun c hc=>by
   simp only[List.mem_cons,List.not_mem_nil,or_false]at hc
   rcases hc with rfl|rfl|rfl|rfl|rfl
   ·exact Nat.ne_of_lt (Nat.lt_trans (Heap.lt_size hzz) lt)
   ·exact Nat.ne_of_lt (Nat.lt_trans (Heap.lt_size hO) lt)
   ·exact Nat.ne_of_lt (Nat.lt_trans (Heap.lt_size h1) lt)
   ·exact Nat.ne_of_lt (Nat.lt_trans (Heap.lt_size h2) lt)
   ·exact Nat.ne_of_lt lt
  have fk4:∀ c∈[z,TO,i1,i2],FpOk X pins Hk c:=fun c hc=>fk c (by simp only[List.mem_cons,List.not_mem_nil,or_false]at hc ⊢;rcases hc with m|m|m|m<;>simp[m])
  have fr:Hk s'.heap.objs.size=none:=Ik.fresh
  have al:acc.size=ts.length:=by rw[← Array.length_toList,ea,List.length_map]
  refine⟨ts++[s'.heap.objs.size],_,Ik.spunN (fp:=[z,TO,i1,i2]) kk fk4 (Nat.le_refl _) (zbD new r1 r2),sm.trans (zaa fr _),by rw[Array.toList_push,ea,List.map_append];rfl,fun i t hi=>?_,fun c hc=>⟨by rw[zac (nT c hc)];exact(fk c hc).1,(fk c hc).2⟩⟩
  by_cases q:i<ts.length
  ·rw[List.getElem?_append_left q]at hi
   obtain⟨x',y',a1',a2',a3'⟩:=ht i t hi
   exact⟨x',y',a1',a2',zaa fr _ _ _ a3'⟩
  ·have il2:=(List.getElem?_eq_some_iff.mp hi).1
   rw[List.length_append]at il2
   have il3:i=ts.length:=by simp at il2;lia
   subst il3
   rw[List.getElem?_append_right (Nat.le_refl _),Nat.sub_self]at hi
   obtain rfl:s'.heap.objs.size=t:=by simpa using hi
   rw[← al]
   exact⟨_,_,List.getElem?_eq_getElem il,List.getElem?_eq_getElem (show acc.size<ys.length by lia),zab⟩
 ·rintro acc s' h2' tk ⟨ts,Hk,Ik,sm,ea,ht,fk⟩ kk
  exact⟨ts,Hk,Ik.spun (fp:=[z,TO,i1,i2,h'.objs.size]) kk fk,sm,ea,ht,fk⟩
 ·refine⟨[],H1,I2,Same.refl _,rfl,fun i t hi=>by simp at hi,fun c hc=>?_⟩
  simp only[List.mem_cons,List.not_mem_nil,or_false]at hc
  rcases hc with rfl|rfl|rfl|rfl|rfl
  ·exact fp _ (by simp)
  ·exact fp _ (by simp)
  ·exact fp _ (by simp)
  ·exact fp _ (by simp)
  ·exact fpL
 ·rintro h2' tk acc c' an ⟨ts,Hk,Ik,sm,ea,ht,fk⟩ K a3
  have fL:=fk h'.objs.size (by simp)
  have tl:ts.length=xs.length:=by
   have:acc.size=ts.length:=by rw[← Array.length_toList,ea,List.length_map]
   have b2:its.toArray.size=its.length:=List.size_toArray ..
   lia
  have vals:∀ l:List Addr,Vals (l.map V.ref) (l.map Value.ref):=fun l=>by
   induction l with
   | nil=>exact .nil
   | cons x l ih=>exact .cons rfl ih
  have new:ObjOk X.prog X.w (upd Hk h'.objs.size (.lst (ts.map V.ref))) h2' h'.objs.size (.lst (ts.map V.ref)):=⟨by rw[List.length_map,tl];exact Nat.le_trans hz (by decide),ts.map Value.ref,c',vals ts,by rw[a3,← ea]⟩
  refine⟨.ref _,_,Ik.adopt fL new,rfl,q h'.objs.size (ts.map V.ref) Hk sm fpL.1 fL.1 ⟨by rw[List.length_map];exact tl,fun i t hi=>?_⟩⟩
  rw[List.getElem?_map]at hi
  obtain⟨t',et,rfl⟩:=Option.map_eq_some_iff.mp hi
  obtain⟨x,y,e1,e2,e3⟩:=ht i t' et
  exact⟨t',x,y,rfl,e1,e2,e3⟩
end L2
namespace L2
open PySem PySem.Spec PyProof.Rows Own Ts PySem.W
section
variable {X:Cx}
end
end L2
namespace L2
open PySem PySem.Spec PyProof.Rows Own
section
variable {X:Cx}{pins:List (Addr × Obj)}{σ:St}{H:Hp}{s:Shared}{d:Addr}{o:Obj}{kvs:List (Key × V)}
theorem Inv.reword {u v:HO}(I:Inv X pins σ H s) (hd:H d=some u) (nt:∀ xs,u≠.tup xs) (nb:∀ ps,u≠.tbl ps) (no:∀ a,u≠.own a) (nz:∀ o' u',X.H₀ d≠some (.frz o' u')) (new:ObjOk X.prog X.w (upd H d v) s.heap d v):Inv X pins σ (upd H d v) s:=by
 have ne:∀ {b},H b=none→b≠d:=fun e z=>by rw[z,hd]at e;cases e
 have oth:∀ {b} {q:HO},H b=some q→q≠u→upd H d v b=some q:=fun {b q} e n=>by
  rw[zac];· exact e
  ·intro z
   rw[z,hd]at e
   exact n (Option.some.inj e).symm
 refine⟨I.ok,I.os,I.bare,⟨I.base.keep,I.base.slot,fun b q e n hx=>?_,I.base.there,fun b xs e=>oth (I.base.tups b xs e) fun z=>nt xs z.symm,fun b q w e=>?_,fun b ps e=>?_⟩,I.loc,I.cell,?_,fun x c e=>?_,fun p hp=>?_,fun b q e=>?_,I.len⟩
 ·have z:=I.base.free b q e n hx
  rw[zac (ne z)];exact z
 ·rw[zac]
  ·exact I.base.frzs b q w e
  ·rintro rfl;exact nz q w e
 ·obtain⟨more,z⟩:=I.base.tbls b ps e
  exact⟨more,oth z fun q=>nb _ q.symm⟩
 ·rw[zac (ne I.free)];exact I.free
 ·have z:=I.freeC x c e
  rw[zac (ne z)];exact z
 ·obtain⟨p1,p2,p3⟩:=I.pin p hp
  exact⟨p1,by rw[zac (ne p2)];exact p2,p3⟩
 ·by_cases z:b=d
  ·subst z
   rw[zab]at e
   cases e;exact new
  ·rw[zac z]at e
   exact(I.hok b q e).stay (fun c w _ r=>r) (fun c r=>oth r fun z=>no _ z.symm) fun c xs r=>oth r fun z=>nt _ z.symm
theorem Inv.freeze (I:Inv X pins σ H s) (hd:H d=some (.dK kvs)):∃ o es ep,s.heap.get? d=some o∧o.data=.dict es ep∧Inv X pins σ (upd H d (.frz o (.dK kvs))) s:=by
 obtain⟨z,hm,vs,kv,dd⟩:=zdW I.hok hd
 have dd2:=dd
 obtain⟨o,es,ep,h1,h2,h3,_⟩:=dd2
 refine⟨o,es,ep,h1,h3,I.reword hd (fun xs q=>by cases q) (fun xs q=>by cases q) (fun xs q=>by cases q) (fun o' u' q=>?_) ⟨h1,z,hm,vs,kv,dd⟩⟩
 have:=I.base.frzs d o' u' q
 rw[hd]at this;cases this
theorem Inv.thaw (I:Inv X pins σ H s) (hd:H d=some (.frz o (.dK kvs))) (nz:∀ o' u',X.H₀ d≠some (.frz o' u')):Inv X pins σ (upd H d (.dK kvs)) s:=by
 obtain⟨_,z,hm,vs,kv,dd⟩:=(show ObjOk X.prog X.w H s.heap d (.frz o (.dK kvs)) from I.hok d _ hd)
 exact I.reword hd (fun xs q=>by cases q) (fun xs q=>by cases q) (fun xs q=>by cases q) nz ⟨z,hm,vs,kv,dd⟩
theorem Inv.melted (I:Inv X pins σ H s) {kvs':List (Key × V)}(hd:H d=some (.dK kvs')):∀ o' u',X.H₀ d≠some (.frz o' u'):=fun o' u' q=>by
 have:=I.base.frzs d o' u' q
 rw[hd]at this;cases this
theorem Inv.walked {es:Array DictEntry}{ep:Nat}(I:Inv X pins σ H s) (hd:H d=some (.frz o (.dK kvs))) (ho:o.data=.dict es ep):∃ vs,KV kvs vs∧s.heap.DictAt (zai X.prog X.w) d vs ep:=by
 obtain⟨g,z,hm,vs,kv,o2,es2,ep2,h1,h2,h3,h4⟩:=(show ObjOk X.prog X.w H s.heap d (.frz o (.dK kvs)) from I.hok d _ hd)
 rw[g]at h1
 obtain rfl:=Option.some.inj h1
 rw[ho]at h3
 cases h3
 exact⟨vs,kv,o,_,g,h2,ho,h4⟩
end
theorem zhY {k:Key}{v:Value}(h:zdP k v=true):RelV (kV k) v:=by
 rcases zak h with ⟨i,t,rfl,rfl⟩|⟨x,t,rfl,rfl⟩
 ·exact⟨t,rfl⟩
 ·exact⟨t,rfl⟩
theorem KV.at {kvs:List (Key × V)}{vs:List (Key × Value)}(r:KV kvs vs):∀ {i:Nat}{k:Key}{u:Value},vs[i]?=some (k,u)→∃ v,kvs[i]?=some (k,v)∧RelV v u:=by
 unfold KV at r
 induction r with
 | nil=>intro i k u h;cases h
 | cons q t ih =>
  intro i k u h
  cases i with
  | zero =>
   rename_i a b _ _
   obtain⟨k',v'⟩:=a
   cases Option.some.inj h
   obtain⟨q1,q2⟩:=q
   cases q1
   exact⟨v',rfl,q2⟩
  | succ i=>exact ih h
def Itk (d:Addr) (o:Obj) (kvs:List (Key × V)):It:=⟨fun i H=>H d=some (.frz o (.dK kvs))∧i<kvs.length,fun i H x H'=>H'=H∧∃ p,kvs[i]?=some p∧x=kV p.1,fun i H=>H d=some (.frz o (.dK kvs))∧i=kvs.length⟩
def Itv (d:Addr) (o:Obj) (kvs:List (Key × V)):It:=⟨fun i H=>H d=some (.frz o (.dK kvs))∧i<kvs.length,fun i H x H'=>H'=H∧∃ p,kvs[i]?=some p∧x=p.2,fun i H=>H d=some (.frz o (.dK kvs))∧i=kvs.length⟩
def Iti (d:Addr) (o:Obj) (kvs:List (Key × V)):It:=⟨fun i H=>H d=some (.frz o (.dK kvs))∧i<kvs.length,fun i H x H'=>∃ p T,kvs[i]?=some p∧H T=none∧x=.ref T∧H'=upd H T (.tup [kV p.1,p.2]),fun i H=>H d=some (.frz o (.dK kvs))∧i=kvs.length⟩
theorem zhx {X:Cx}{pins:List (Addr × Obj)}{H:Hp}{d it:Addr}{u:HO}(f:FpOk X pins H it) (hd:H d=some u):d≠it:=fun z=>by
 have:=f.1
 rw[← z,hd]at this;cases this
theorem zeC {P:Program}{w:World}{K:PySem.W.Frag}{tg:Expr}(d it:Addr) (o:Obj) (kvs:List (Key × V)) {es:Array DictEntry}{ep:Nat}(ho:o.data=.dict es ep):Turn P w K tg (Itk d o kvs) [it] it (fun i h=>h.IsKeyIter it d i kvs.length ep) where
 mem:=List.mem_singleton.mpr rfl
 obj:=fun i h st b hb=>by
  cases List.mem_singleton.mp hb
  obtain⟨q,e,c,dt⟩:=st
  exact⟨q,e,fun v z=>by rw[dt]at z;cases z⟩
 keep:=fun i h h' st k=>st.at (k it (List.mem_singleton.mpr rfl))
 item:=by
  intro X hP hw hK hc i pins s σ H E I hf st hg
  subst hP hw hK
  obtain⟨hd,il⟩:=hg
  obtain⟨vs,kv,da⟩:=I.walked hd ho
  have f:=hf it (List.mem_singleton.mpr rfl)
  obtain⟨f0,f1,f2,f3,f4,f5⟩:=id f
  have vl:=kv.length
  rw[vl]at st il ⊢
  refine(Walks.dictKeys (knd:=zai X.prog X.w) (I.ok.hd hc) it d (zhx f hd) vs ep).item i s _ _ il ⟨st,da⟩ fun v h' tk ⟨k,x,hx,hk⟩ ⟨st',_⟩ kk=>?_
  obtain⟨y,hy,_⟩:=kv.at hx
  have I1:Inv X pins σ H { s with heap:=h',toks:=tk }:=I.turned (fun b u hb e=>kk b u (fun z=>hb (List.mem_singleton.mp z)) e) f0 f1 f3 f4 f5
  obtain⟨q,e,c,dt⟩:=id st'
  exact⟨v,rfl,zgr (s:={ s with heap:=h',toks:=tk }) e c dt (by decide) ⟨kV k,H,I1,zhY hk,⟨rfl,(k,y),hy,rfl⟩,st',fun b hb=>(hf b hb).1⟩⟩
 done:=by
  intro X hP hw hK hc i pins s σ H E I hf st hg
  subst hP hw hK
  obtain⟨hd,il⟩:=hg
  obtain⟨vs,kv,da⟩:=I.walked hd ho
  have f:=hf it (List.mem_singleton.mpr rfl)
  obtain⟨f0,f1,f2,f3,f4,f5⟩:=id f
  have vl:=kv.length
  rw[il,vl]at st
  exact(Walks.dictKeys (knd:=zai X.prog X.w) (I.ok.hd hc) it d (zhx f hd) vs ep).done s _ _ ⟨st,da⟩ fun h' tk kk=>⟨rfl,I.turned (fun b u hb e=>kk b u (fun z=>hb (List.mem_singleton.mp z)) e) f0 f1 f3 f4 f5⟩
 self:=fun _ _ _ _ _ st h=>wpAny_pyIter_keyiter st h
theorem zeB {P:Program}{w:World}{K:PySem.W.Frag}{tg:Expr}(d it:Addr) (o:Obj) (kvs:List (Key × V)) {es:Array DictEntry}{ep:Nat}(ho:o.data=.dict es ep):Turn P w K tg (Itv d o kvs) [it] it (fun i h=>h.IsValIter it d i kvs.length ep) where
 mem:=List.mem_singleton.mpr rfl
 obj:=fun i h st b hb=>by
  cases List.mem_singleton.mp hb
  obtain⟨q,e,c,dt⟩:=st
  exact⟨q,e,fun v z=>by rw[dt]at z;cases z⟩
 keep:=fun i h h' st k=>st.at (k it (List.mem_singleton.mpr rfl))
 item:=by
  intro X hP hw hK hc i pins s σ H E I hf st hg
  subst hP hw hK
  obtain⟨hd,il⟩:=hg
  obtain⟨vs,kv,da⟩:=I.walked hd ho
  have f:=hf it (List.mem_singleton.mpr rfl)
  obtain⟨f0,f1,f2,f3,f4,f5⟩:=id f
  have vl:=kv.length
  rw[vl]at st il ⊢
  refine(Walks.dictValues (knd:=zai X.prog X.w) (I.ok.hd hc) it d (zhx f hd) vs ep).item i s _ _ il ⟨st,da⟩ fun v h' tk ⟨k,hx⟩ ⟨st',_⟩ kk=>?_
  obtain⟨y,hy,ry⟩:=kv.at hx
  have I1:Inv X pins σ H { s with heap:=h',toks:=tk }:=I.turned (fun b u hb e=>kk b u (fun z=>hb (List.mem_singleton.mp z)) e) f0 f1 f3 f4 f5
  obtain⟨q,e,c,dt⟩:=id st'
  exact⟨v,rfl,zgr (s:={ s with heap:=h',toks:=tk }) e c dt (by decide) ⟨y,H,I1,ry,⟨rfl,(k,y),hy,rfl⟩,st',fun b hb=>(hf b hb).1⟩⟩
 done:=by
  intro X hP hw hK hc i pins s σ H E I hf st hg
  subst hP hw hK
  obtain⟨hd,il⟩:=hg
  obtain⟨vs,kv,da⟩:=I.walked hd ho
  have f:=hf it (List.mem_singleton.mpr rfl)
  obtain⟨f0,f1,f2,f3,f4,f5⟩:=id f
  have vl:=kv.length
  rw[il,vl]at st
  exact(Walks.dictValues (knd:=zai X.prog X.w) (I.ok.hd hc) it d (zhx f hd) vs ep).done s _ _ ⟨st,da⟩ fun h' tk kk=>⟨rfl,I.turned (fun b u hb e=>kk b u (fun z=>hb (List.mem_singleton.mp z)) e) f0 f1 f3 f4 f5⟩
 self:=fun _ _ _ _ _ st h=>wpAny_pyIter_valiter st h
theorem zdo {P:Program}{w:World}{K:PySem.W.Frag}{els:List Expr}{k1} {p1:Pos}(d it:Addr) (o:Obj) (kvs:List (Key × V)) {es:Array DictEntry}{ep:Nat}(ho:o.data=.dict es ep):Turn P w K (.Tuple els k1 p1) (Iti d o kvs) [it] it (fun i h=>∃ a b,IsItemIter h it d i kvs.length ep a b) where
 mem:=List.mem_singleton.mpr rfl
 obj:=fun i h ⟨a,b,st⟩ c hc=>by
  cases List.mem_singleton.mp hc
  exact⟨_,st,fun v z=>by cases z⟩
 keep:=fun i h h' ⟨a,b,st⟩ k=>⟨a,b,k it (List.mem_singleton.mpr rfl) _ st⟩
 item:=by
  intro X hP hw hK hc i pins s σ H E I hf ⟨a,b,st⟩ ⟨hd,il⟩
  subst hP hw hK
  obtain⟨vs,kv,da⟩:=I.walked hd ho
  have f:=hf it (List.mem_singleton.mpr rfl)
  have vl:=kv.length
  rw[vl]at st il ⊢
  obtain⟨⟨k,u⟩,hx⟩:∃ p,vs[i]?=some p:=⟨_,List.getElem?_eq_getElem il⟩
  obtain⟨y,hy,ry⟩:=kv.at hx
  have nT:s.heap.objs.size≠it:=Nat.ne_of_gt (Heap.lt_size st)
  refine wpAny_pyNext_items_item st da hx fun key h1 hk ht hT _ kk=>⟨_,rfl,wpAny_letOwnedTupleGo_items ht fun h2 he2 s2=>?_⟩
  refine⟨.ref s.heap.objs.size,upd H s.heap.objs.size (.tup [kV k,y]),I.spunN (t':=s.toks) (fp:=[it]) (fun c q hm e=>?_) hf (Nat.le_refl _) (zbD ((s2.2 _ nT).trans hT) (zhY hk) ry),rfl,⟨(k,y),_,hy,I.fresh,rfl,rfl⟩,⟨_,_,he2⟩,fun c hm=>?_⟩
  ·have ne:c≠it:=fun z=>hm (List.mem_singleton.mpr z)
   exact(s2.2 c ne).trans (kk c q ne e)
  ·cases List.mem_singleton.mp hm
   rw[zac nT.symm];exact f.1
 done:=by
  intro X hP hw hK hc i pins s σ H E I hf ⟨a,b,st⟩ ⟨hd,il⟩
  subst hP hw hK
  obtain⟨vs,kv,da⟩:=I.walked hd ho
  obtain⟨f0,f1,f2,f3,f4,f5⟩:=hf it (List.mem_singleton.mpr rfl)
  have vl:=kv.length
  rw[vl]at st il
  exact wpAny_pyNext_items_end (I.ok.hd hc) st da (List.getElem?_eq_none (by lia)) fun h' kk=>⟨rfl,I.turned (t':=s.toks) (fun c u hb e=>kk c u hb e) f0 f1 f3 f4 f5⟩
 self:=fun _ _ _ _ _ ⟨_,_,st⟩ h=>PySem.W.kcp_self st h
section
variable {X:Cx}{tg:Expr}
def zkI (te:TE):TI:=fun σ H R=>te σ H fun x H1=>∃ d kvs,x=.ref d∧H1 d=some (.dK kvs)∧∀ o,R (Itk d o kvs) (upd H1 d (.frz o (.dK kvs)))
theorem ziJ {l:Expr}{tl:TE}(hl:PE X l tl):PI X tg l (zkI tl):=by
 intro pins s σ H R I h
 refine thn (hl pins s σ H _ I h) fun v s1 ⟨x,H1,I1,r1,d,kvs,ex,hd,q⟩=>?_
 subst ex
 cases r1
 obtain⟨o,es,ep,g,ho,I2⟩:=I1.freeze hd
 obtain⟨vs,kv,da⟩:=I2.walked zab ho
 obtain⟨_,hs,_⟩:=zdW I1.hok hd
 refine wpAny_pyIter_dict hs da ?_
 rw[← kv.length]
 refine⟨s1.heap.objs.size,[s1.heap.objs.size],_,_,_,rfl,I2.kept (t':=s1.toks) fun b u e=>Heap.get?_push_of_some _ e,zeC d _ o kvs ho,⟨_,Heap.get?_push_size _ rfl,rfl,rfl⟩,fun b hb=>?_,q o⟩
 cases List.mem_singleton.mp hb
 exact I2.fpOk (Nat.le_refl _) (I2.hok.fresh (Nat.le_refl _))
def zj1 (te:TE):TI:=fun σ H R=>te σ H fun x H1=>∃ d kvs,x=.ref d∧H1 d=some (.dK kvs)∧∀ o,R (Itv d o kvs) (upd H1 d (.frz o (.dK kvs)))
def zi8 (te:TE):TI:=fun σ H R=>te σ H fun x H1=>∃ d kvs,x=.ref d∧H1 d=some (.dK kvs)∧∀ o,R (Iti d o kvs) (upd H1 d (.frz o (.dK kvs)))
theorem zg4 {l:Expr}{tl:TE}{apos cpos:Pos}(hl:PE X l tl) (hbase:attributeBase l "values" X.env (eval l X.env)=eval l X.env:=by rfl) (hline:(apos.endLine == cpos.line)=true:=by rfl):PI X tg (.Call (.Attribute l "values" apos) [] [] cpos) (zj1 tl):=by
 intro pins s σ H R I h
 refine wpAny_Call_method0_late hbase hline (thn (hl pins s σ H _ I h) fun v s1 ⟨x,H1,I1,r1,d,kvs,ex,hd,q⟩=>?_)
 subst ex
 cases r1
 obtain⟨t1,t2,hs⟩:=zgl I1 (.inl ⟨kvs,.inl hd⟩)
 obtain⟨o,es,ep,g,ho,I2⟩:=I1.freeze hd
 obtain⟨vs,kv,da⟩:=I2.walked zab ho
 refine⟨"dict","dict.values",PySem.F.plainAttrs_dict,PySem.F.slot_dict_values,PySem.F.type_dict_values,t1,t2,Calls.callWith_builtin rfl (PySem.evalArgs_none ?_)⟩
 refine call_meetsIn PySem.F.slot_dict_values t1 PySem.F.entry_dict_values (PySem.F.args_dict_values_1 _) (meets_dict_values (zai X.prog X.w) d hs) ⟨⟨vs,da.dictOf⟩,?_⟩
 have I3:=I2.kept (t':=s1.toks) (h':=s1.heap.push { cls:=.type "dict_values",data:=.fields #[.ref d] }) fun b u e=>Heap.get?_push_of_some _ e
 have da3:=da.push { cls:=.type "dict_values",data:=.fields #[.ref d] }
 refine wpAny_pyIter_values (s:={ s1 with heap:=s1.heap.push { cls:=.type "dict_values",data:=.fields #[.ref d] } }) ⟨_,Heap.get?_push_size _ rfl,rfl,rfl⟩ da3 ?_
 rw[← kv.length]
 refine⟨_,[_],_,_,_,rfl,I3.kept (t':=s1.toks) fun b u e=>Heap.get?_push_of_some _ e,zeB d _ o kvs ho,⟨_,Heap.get?_push_size _ rfl,rfl,rfl⟩,fun b hb=>?_,q o⟩
 cases List.mem_singleton.mp hb
 exact I3.fpOk (Nat.le_refl _) (I3.hok.fresh (Nat.le_refl _))
theorem zfQ {l:Expr}{tl:TE}{apos cpos p1:Pos}{els:List Expr}{k1} (hl:PE X l tl) (hbase:attributeBase l "items" X.env (eval l X.env)=eval l X.env:=by rfl) (hline:(apos.endLine == cpos.line)=true:=by rfl):PI X (.Tuple els k1 p1) (.Call (.Attribute l "items" apos) [] [] cpos) (zi8 tl):=by
 intro pins s σ H R I h
 refine wpAny_Call_method0_late hbase hline (thn (hl pins s σ H _ I h) fun v s1 ⟨x,H1,I1,r1,d,kvs,ex,hd,q⟩=>?_)
 subst ex
 cases r1
 obtain⟨t1,t2,hs⟩:=zgl I1 (.inl ⟨kvs,.inl hd⟩)
 obtain⟨o,es,ep,g,ho,I2⟩:=I1.freeze hd
 obtain⟨vs,kv,da⟩:=I2.walked zab ho
 refine⟨"dict","dict.items",PySem.F.plainAttrs_dict,PySem.F.slot_dict_items,PySem.F.type_dict_items,t1,t2,Calls.callWith_builtin rfl (PySem.evalArgs_none ?_)⟩
 refine call_meetsIn PySem.F.slot_dict_items t1 PySem.F.entry_dict_items (PySem.F.args_dict_items_1 _) (meets_dict_items (zai X.prog X.w) d hs) ⟨⟨vs,da.dictOf⟩,?_⟩
 have I3:=I2.kept (t':=s1.toks) (h':=s1.heap.push { cls:=.type "dict_items",data:=.fields #[.ref d] }) fun b u e=>Heap.get?_push_of_some _ e
 have da3:=da.push { cls:=.type "dict_items",data:=.fields #[.ref d] }
 refine wpAny_pyIter_items (s:={ s1 with heap:=s1.heap.push { cls:=.type "dict_items",data:=.fields #[.ref d] } }) ⟨_,Heap.get?_push_size _ rfl,rfl,rfl⟩ da3 ?_
 rw[← kv.length]
 refine⟨_,[_],_,_,_,rfl,I3.kept (t':=s1.toks) fun b u e=>Heap.get?_push_of_some _ e,zdo d _ o kvs ho,⟨_,_,Heap.get?_push_size _ rfl⟩,fun b hb=>?_,q o⟩
 cases List.mem_singleton.mp hb
 exact I3.fpOk (Nat.le_refl _) (I3.hok.fresh (Nat.le_refl _))
def zke (t:TE):TE:=fun σ H Q=>t σ H fun x H1=>∃ d o kvs kvs',H d=some (.dK kvs')∧H1 d=some (.frz o (.dK kvs))∧Q x (upd H1 d (.dK kvs))
theorem pe_thaw {e:Expr}{t:TE}(h:PE X e t):PE X e (zke t):=by
 intro pins s σ H Q I hw
 refine thn (h pins s σ H _ I hw) fun v s1 ⟨x,H1,I1,r1,d,o,kvs,kvs',hd,hz,q⟩=>?_
 exact⟨x,_,I1.thaw hz (I.melted hd),r1,q⟩
theorem op_neDE (hu:X.A.units<cLine):OpR X (compareOp .NotEq) (fun x y H Q=>∃ a b kvs,x=.ref a∧y=.ref b∧H a=some (.dK kvs)∧H b=some (.dK [])∧Q (.bl (!kvs.isEmpty)) H):=by
 intro pins s σ H x y v u Q I rx ry h
 obtain⟨a,b,kvs,rfl,rfl,ha,hb,q⟩:=h
 cases rx;cases ry
 obtain⟨_,h1,vs,kv,d1⟩:=zdW I.hok ha
 obtain⟨_,h2,ws,kw,d2⟩:=zdW I.hok hb
 cases kw
 have vl:=kv.length
 cases kvs with
 | nil =>
  cases vs with
  | nil=>exact PySem.W.keq_ne (r:=true) h1 h2 d1 d2 hu (fun _=>.nil) ⟨.bl _,H,I,rfl,q⟩
  | cons p r=>cases vl
 | cons p r =>
  cases vs with
  | nil=>cases vl
  | cons p' r'=>exact PySem.W.keq_ne (r:=false) h1 h2 d1 d2 hu (fun z=>by cases z) ⟨.bl _,H,I,rfl,q⟩
end
theorem zkC {d:Addr}{o:Obj}{kvs:List (Key × V)}{g:TG}{tt:TT}{te:TE}{l:Addr}{σ:St}{H:Hp}{Q:VK}(Pv:Nat→List V→St→Hp→Prop) (h0:Pv 0 [] σ H) (hl:∀ i acc σ H,Pv i acc σ H→H l=some (.lst acc)∧H d=some (.frz o (.dK kvs)))
  (hs:∀ (i:Nat) acc σ H p,kvs[i]?=some p→Pv i acc σ H→g (kV p.1) σ H fun σ3 H3=>tt σ3 H3 fun b H4=>if b=true then te σ3 H4 fun z H5=>H5 l=some (.lst acc)∧acc.length<sizeLine∧Nx kvs.length i (Pv (i+1) (acc++[z]) σ3 (upd H5 l (.lst (acc++[z])))) else Nx kvs.length i (Pv (i+1) acc σ3 H4))
  (hd:∀ acc σ H,Pv kvs.length acc σ H→Q (.ref l) H):∃ W:Nat→Nat→List V→St→Hp→Prop,(∃ m,W 0 m [] σ H)∧LCW (Itk d o kvs) g tt te l Q W:=by
 refine⟨fun i m acc σ H=>m=kvs.length-i∧i≤kvs.length∧Pv i acc σ H,⟨_,rfl,Nat.zero_le _,h0⟩,?_⟩
 rintro i m acc σ H ⟨rfl,hi,pv⟩
 obtain⟨q0,q1⟩:=hl i acc σ H pv
 refine⟨q0,?_⟩
 by_cases lt:i<kvs.length
 ·refine .inr ⟨⟨q1,lt⟩,fun x H2 ⟨e,p,hp,ex⟩=>?_⟩
  subst e ex
  exact hs i acc σ _ p hp pv
 ·have ei:i=kvs.length:=by lia
  subst ei
  exact .inl ⟨⟨q1,rfl⟩,hd acc σ H pv⟩
theorem zkB {d:Addr}{o:Obj}{kvs:List (Key × V)}{g:TG}{te:TE}{l:Addr}{σ:St}{H:Hp}{Q:VK}(Pv:Nat→List V→St→Hp→Prop) (h0:Pv 0 [] σ H) (hl:∀ i acc σ H,Pv i acc σ H→H l=some (.lst acc)∧H d=some (.frz o (.dK kvs)))
  (hs:∀ (i:Nat) acc σ H p,kvs[i]?=some p→Pv i acc σ H→g p.2 σ H fun σ3 H3=>te σ3 H3 fun z H5=>H5 l=some (.lst acc)∧acc.length<sizeLine∧Nx kvs.length i (Pv (i+1) (acc++[z]) σ3 (upd H5 l (.lst (acc++[z])))))
  (hd:∀ acc σ H,Pv kvs.length acc σ H→Q (.ref l) H):∃ W:Nat→Nat→List V→St→Hp→Prop,(∃ m,W 0 m [] σ H)∧LCW (Itv d o kvs) g tYes te l Q W:=by
 refine⟨fun i m acc σ H=>m=kvs.length-i∧i≤kvs.length∧Pv i acc σ H,⟨_,rfl,Nat.zero_le _,h0⟩,?_⟩
 rintro i m acc σ H ⟨rfl,hi,pv⟩
 obtain⟨q0,q1⟩:=hl i acc σ H pv
 refine⟨q0,?_⟩
 by_cases lt:i<kvs.length
 ·refine .inr ⟨⟨q1,lt⟩,fun x H2 ⟨e,p,hp,ex⟩=>?_⟩
  subst e ex
  exact hs i acc σ _ p hp pv
 ·have ei:i=kvs.length:=by lia
  subst ei
  exact .inl ⟨⟨q1,rfl⟩,hd acc σ H pv⟩
theorem zkD {d:Addr}{o:Obj}{kvs:List (Key × V)}{g:TG}{te:TE}{l:Addr}{σ:St}{H:Hp}{Q:VK}(Pv:Nat→List V→St→Hp→Prop) (h0:Pv 0 [] σ H) (hl:∀ i acc σ H,Pv i acc σ H→H l=some (.lst acc)∧H d=some (.frz o (.dK kvs)))
  (hs:∀ (i:Nat) acc σ H p T,kvs[i]?=some p→H T=none→Pv i acc σ H→g (.ref T) σ (upd H T (.tup [kV p.1,p.2])) fun σ3 H3=>te σ3 H3 fun z H5=>H5 l=some (.lst acc)∧acc.length<sizeLine∧Nx kvs.length i (Pv (i+1) (acc++[z]) σ3 (upd H5 l (.lst (acc++[z])))))
  (hd:∀ acc σ H,Pv kvs.length acc σ H→Q (.ref l) H):∃ W:Nat→Nat→List V→St→Hp→Prop,(∃ m,W 0 m [] σ H)∧LCW (Iti d o kvs) g tYes te l Q W:=by
 refine⟨fun i m acc σ H=>m=kvs.length-i∧i≤kvs.length∧Pv i acc σ H,⟨_,rfl,Nat.zero_le _,h0⟩,?_⟩
 rintro i m acc σ H ⟨rfl,hi,pv⟩
 obtain⟨q0,q1⟩:=hl i acc σ H pv
 refine⟨q0,?_⟩
 by_cases lt:i<kvs.length
 ·refine .inr ⟨⟨q1,lt⟩,fun x H2 ⟨p,T,hp,hT,ex,e⟩=>?_⟩
  subst e ex
  exact hs i acc σ _ p T hp hT pv
 ·have ei:i=kvs.length:=by lia
  subst ei
  exact .inl ⟨⟨q1,rfl⟩,hd acc σ H pv⟩
section
variable {prog:Program}{w:World}{A:Around}{R:Result→Shared→Prop}{I S:Addr}{fp wr:List Addr}{n:Nat}{P:Nat→Value→Prop}{St:Nat→Heap→Prop}
theorem zf5 (W:Walks prog w A.in1 I fp wr n P St) (away:S∉fp) (h0:Heap) (Bst:Nat→Value→Prop)
  (more:∀ j v vb,0<j→P j v→Bst j vb→∃ c:Bool,Bst (j+1) (if c=true then v else vb)∧∀ (s:Shared) (Q:Value→Shared→Prop) (E:Value→Shared→Prop),(∀ b o,b∉wr→b≠S→h0.get? b=some o→s.heap.get? b=some o)→Q (.bool c) s→wpAny (model prog w) A.in1 (richCompare .Lt v vb) Q E s) :
  ∀ (m j:Nat) (s:Shared) (c:Nat) (vb:Value),j+m=n→0<j→Bst j vb→St j s.heap→s.heap.get? S=some { cls:=.type "list",dict:=none,data:=.seq #[vb,vb] c,slots:=#[] }→(∀ b o,b∉wr→b≠S→h0.get? b=some o→s.heap.get? b=some o) →
   (∀ u h' tk,Bst n u→(∀ b o,b∉wr→b≠S→s.heap.get? b=some o→h'.get? b=some o)→R (.ok (.ret u)) { s with heap:=h',toks:=tk })→codeAny (model prog w) A (.builtin "min.loop" ⟨[.ref I,.none,.ref S],[]⟩) R s:=by
 have out:S∉wr:=fun z=>away (W.sub _ z)
 have nm:(toString "min"++toString ".loop":String) = "min.loop":=by decide
 intro m
 induction m with
 | zero =>
  intro j s c vb jm jp bs st hs old k
  have ej:j=n:=by lia
  subst ej
  refine codeAny_builtin F.entry_min_loop (by
   refine Around.under_plainId F.plain_min_loop _ ▸ (show wpAny _ A.in1 (seqItems? (.ref S) >>= _) _ _ _ from ?_)
   refine wpAny_bind (wpAny_seqItems hs rfl (show wpAny _ A.in1 (tryCatch (pyNext (.ref I)) _ >>= _) _ _ _ from wpAny_bind (wpAny_tryCatch (W.done s _ _ st fun h1 tk1 keep=>?_))))
   have hs1:=keep S _ out hs
   show wpAny _ A.in1 (updateSeq S (fun _=>#[]) >>= _) _ _ _;exact wpAny_bind (wpAny_updateSeq hs1 rfl (wpAny_bind (wpAny_letGo (wpAny_pure (k _ _ tk1 bs fun b o hb bS e=>(Heap.get?_update_other _ _ (Ne.symm bS)).trans (keep b o hb e)))))))
 | succ m ih =>
  intro j s c vb jm jp bs st hs old k
  refine codeAny_builtin F.entry_min_loop (by
   refine Around.under_plainId F.plain_min_loop _ ▸ (show wpAny _ A.in1 (seqItems? (.ref S) >>= _) _ _ _ from ?_)
   refine wpAny_bind (wpAny_seqItems hs rfl (show wpAny _ A.in1 (tryCatch (pyNext (.ref I)) _ >>= _) _ _ _ from wpAny_bind (wpAny_tryCatch (W.item j s _ _ (by lia) st fun v h1 tk1 pv st1 keep=>?_))))
   have hs1:=keep S _ out hs
   obtain⟨c',bs',ask⟩:=more j v vb jp pv bs
   show wpAny _ A.in1 (tryCatch (holding [v,v] (richCompare .Lt v vb >>= _)) _ >>= _) _ _ _;refine wpAny_bind (wpAny_tryCatch (wpAny_holding (wpAny_bind (ask _ _ _ (fun b o hb bS e=>keep b o hb (old b o hb bS e)) (wpAny_bind (wpAny_holding (wpAny_truthy_bool (wpAny_bind (wpAny_letGo (wpAny_pure ?_))))))))))
   cases c' with
   | false =>
    rw[if_neg Bool.false_ne_true]at bs'
    rw[if_neg Bool.false_ne_true]
    refine wpAny_bind (wpAny_letGo ?_)
    rw[nm]
    exact wpAny_pure ⟨plainId_quiet F.plain_min_loop _,ih (j+1) _ _ vb (by lia) (by lia) bs' st1 hs1 (fun b o hb bS e=>keep b o hb (old b o hb bS e)) fun u h2 tk2 bu keep2=>k u h2 tk2 bu fun b o hb bS e=>keep2 b o hb bS (keep b o hb e)⟩
   | true =>
    rw[if_pos rfl]at bs'
    rw[if_pos rfl]
    refine wpAny_bind (wpAny_updateSeq hs1 rfl (wpAny_bind (wpAny_letGo ?_)))
    rw[nm]
    have up:∀ b o,b∉wr→b≠S→s.heap.get? b=some o→(h1.update S (Obj.mapSeq fun _=>#[v,v])).get? b=some o:=fun b o hb bS e=>(Heap.get?_update_other _ _ (Ne.symm bS)).trans (keep b o hb e)
    exact wpAny_pure ⟨plainId_quiet F.plain_min_loop _,ih (j+1) _ _ v (by lia) (by lia) bs' (W.frame _ _ _ st1 fun b hb o e=>(Heap.get?_update_other _ _ (fun z=>away (by rw[z];exact hb))).trans e) (Heap.get?_update_self _ hs1 rfl) (fun b o hb bS e=>up b o hb bS (old b o hb bS e)) fun u h2 tk2 bu keep2=>k u h2 tk2 bu fun b o hb bS e=>keep2 b o hb bS (up b o hb bS e)⟩)
end
section
variable {prog:Program}{w:World}{A:Around}{E:Value→Shared→Prop}{s:Shared}
theorem zf4 {x:Value}{Q:Value→Shared→Prop}
  (h:wpAny (model prog w) A.in1 (pyIter x) (fun it s2=>∃ (I:Addr) (fp wr:List Addr) (n:Nat) (P:Nat→Value→Prop) (St:Nat→Heap→Prop),it=.ref I∧Walks prog w A.in1 I fp wr n P St∧St 0 s2.heap∧(∀ b∈fp,b<s2.heap.objs.size)∧0<n ∧
   ∃ Bst:Nat→Value→Prop,(∀ v,P 0 v→Bst 1 v)∧(∀ j v vb,0<j→P j v→Bst j vb→∃ c:Bool,Bst (j+1) (if c=true then v else vb)∧∀ (s:Shared) (Q:Value→Shared→Prop) (E:Value→Shared→Prop),(∀ b o,b∉wr→s2.heap.get? b=some o→s.heap.get? b=some o)→Q (.bool c) s→wpAny (model prog w) A.in1 (richCompare .Lt v vb) Q E s) ∧
   ∀ u h' tk,Bst n u→(∀ b o,b∉wr→s2.heap.get? b=some o→h'.get? b=some o)→Q u { s2 with heap:=h',toks:=tk }) E s):wpAny (model prog w) A (call (.builtin "min") [x]) Q E s:=by
 have nm:(toString "min"++toString ".loop":String) = "min.loop":=by decide
 refine call_function_tree F.kind_min F.plain_min F.entry_min (F.args_min1 _) ?_;show wpAny _ A.in1 (Builtin.Builtins.bindParams "min" ["key","default"] 0 ⟨[],[]⟩ >>= _) _ _ s
 refine wpAny_bind (wpAny_of_eq (show Builtin.Builtins.bindParams "min" ["key","default"] 0 ⟨[],[]⟩=pure [none,none] from rfl) (wpAny_bind (wpAny_pure (wpAny_bind (wpAny_mono h (fun it s2 z=>?_) fun _ _ e=>e)))))
 obtain⟨I,fp,wr,n,P,St,rfl,W,st,low,pos,Bst,first,more,k⟩:=z
 have away:s2.heap.objs.size∉fp:=fun z=>Nat.lt_irrefl _ (low _ z)
 have out:s2.heap.objs.size∉wr:=fun z=>away (W.sub _ z)
 refine wpAny_bind (wpAny_newObj_type ?_);rw[nm]
 refine wpAny_pure ⟨plainId_quiet F.plain_min_loop _,codeAny_builtin F.entry_min_loop ?_⟩
 have new:(s2.heap.push { cls:=.type "list",data:=.seq #[] }).get? s2.heap.objs.size=some { cls:=.type "list",dict:=none,data:=.seq #[] 0,slots:=#[] }:=Heap.get?_push_size _ rfl
 have st':St 0 (s2.heap.push { cls:=.type "list",data:=.seq #[] }):=W.frame _ _ _ st fun b _ o e=>Heap.get?_push_of_some _ e
 refine Around.under_plainId F.plain_min_loop _ ▸ (show wpAny _ A.in1 (seqItems? (.ref s2.heap.objs.size) >>= _) _ _ _ from ?_)
 refine wpAny_bind (wpAny_seqItems new rfl (show wpAny _ A.in1 (tryCatch (pyNext (.ref I)) _ >>= _) _ _ _ from wpAny_bind (wpAny_tryCatch (W.item 0 _ _ _ pos st' fun v h1 tk1 pv st1 keep=>?_))))
 have b1:=first v pv
 have new1:=keep _ _ out new
 show wpAny _ A.in1 (updateSeq s2.heap.objs.size (fun _=>#[v,v]) >>= _) _ _ _
 refine wpAny_bind (wpAny_updateSeq new1 rfl ?_)
 rw[nm]
 have up:∀ b o,b∉wr→b≠s2.heap.objs.size→s2.heap.get? b=some o→(h1.update s2.heap.objs.size (Obj.mapSeq fun _=>#[v,v])).get? b=some o:=fun b o hb bS e=>(Heap.get?_update_other _ _ (Ne.symm bS)).trans (keep b o hb (Heap.get?_push_of_some _ e))
 refine wpAny_pure ⟨plainId_quiet F.plain_min_loop _,zf5 W away s2.heap Bst (fun j u vb jp pu bb=>?_) (n-1) 1 _ _ v (by lia) (by lia) b1 (W.frame _ _ _ st1 fun b hb o e=>(Heap.get?_update_other _ _ (fun z=>away (by rw[z];exact hb))).trans e) (Heap.get?_update_self _ new1 rfl) up fun u h2 tk2 bu keep2=>?_⟩
 ·obtain⟨c,b2,ask⟩:=more j u vb jp pu bb
  exact⟨c,b2,fun s' Q' E' old q=>ask s' Q' E' (fun b o hb e=>old b o hb (Nat.ne_of_lt (Heap.lt_size e)) e) q⟩
 ·exact k u h2 tk2 bu fun b o hb e=>keep2 b o hb (Nat.ne_of_lt (Heap.lt_size e)) (up b o hb (Nat.ne_of_lt (Heap.lt_size e)) e)
end
section
variable {X:Cx}
def Pr2 (H:Hp) (x:V) (p q:Int):Prop:=∃ t,x=.ref t∧H t=some (.tup [.int p,.int q])
def le2 (p q p' q':Int):Prop:=p<p'∨p=p'∧q≤q'
theorem zef {a b:Int}{bts:List Value}(rb:Vals [.int a,.int b] bts):∃ t1 t2,bts=[.int a t1,.int b t2]:=by
 cases rb with
 | cons r1 rb=>cases rb with
  | cons r2 rb =>
   cases rb
   obtain⟨t1,rfl⟩:=r1
   obtain⟨t2,rfl⟩:=r2
   exact⟨t1,t2,rfl⟩
theorem zgI (hc:X.calm=true) (hu:X.A.units+64<cLine):CallR X (.builtin "min") (fun vs H Q=>∃ a xs,vs=[.ref a]∧SqL X.K H a xs∧0<xs.length∧(∀ x∈xs,∃ p q,Pr2 H x p q)∧(∀ (i j:Nat) x y p q,i<j→xs[i]?=some x→xs[j]?=some y→Pr2 H x p q→¬ Pr2 H y p q) ∧
  ∀ x p q,x∈xs→Pr2 H x p q→(∀ y∈xs,∀ p' q',Pr2 H y p' q'→le2 p q p' q')→Q x H):=by
 rintro pins s σ H vs us Q I rv ⟨a,xs,rfl,hq,xp,hxs,dst,k⟩
 obtain⟨u,rfl,ru⟩:=rv.one
 cases ru
 obtain⟨its,rr,pp⟩:=I.sq (b:=true) hq
 obtain⟨o,n,eo,_⟩:=pp.ob
 have hl:its.length=xs.length:=rr.length.symm
 refine zf4 (zbd pp ⟨s.heap.objs.size,[s.heap.objs.size,a],[s.heap.objs.size],its.toArray.size,(fun i v=>its.toArray[i]?=some v),_,rfl,zjm (show X.A.in1.handled=none from I.ok.hd hc) true _ a (Nat.ne_of_lt (Heap.lt_size eo)) its.toArray,⟨⟨_,Heap.get?_push_size _ rfl,rfl,rfl⟩,pp.mv fun o e=>Heap.get?_push_of_some _ e⟩,fun c hm=>?_,by rw[List.size_toArray];lia,(fun j v=>∃ (i:Nat) (x:V) (p q:Int),(i<j∧xs[i]?=some x)∧RelV x v∧Pr2 H x p q∧∀ (i:Nat) y p' q',i<j→xs[i]?=some y→Pr2 H y p' q'→le2 p q p' q'),fun v hv=>?_,?_,?_⟩)
 ·show c<(s.heap.push _).objs.size
  rw[Heap.size_push]
  rcases List.mem_cons.mp hm with z|z
  ·exact z ▸ Nat.lt_succ_self _
  ·exact List.mem_singleton.mp z ▸ Nat.lt_succ_of_lt (Heap.lt_size eo)
 ·have hx:xs[0]?=some xs[0]:=List.getElem?_eq_getElem xp
  obtain⟨u',e',ru⟩:=rr.get hx
  have hv':its[0]?=some v:=by simpa using hv
  rw[hv']at e'
  cases e'
  obtain⟨p,q,pr⟩:=hxs _ (List.getElem_mem xp)
  refine⟨0,_,p,q,⟨Nat.lt_succ_self _,hx⟩,ru,pr,fun i y p' q' il hy pr'=>?_⟩
  obtain rfl:i=0:=by lia
  rw[hx]at hy
  obtain rfl:=Option.some.inj hy
  obtain⟨t,e1,h1⟩:=pr
  obtain⟨t',e2,h2⟩:=pr'
  rw[e1]at e2;cases e2
  rw[h1]at h2;cases h2
  exact .inr ⟨rfl,Int.le_refl _⟩
 ·intro j v vb jp hv ⟨i0,x,p,q,⟨i0j,xi⟩,rx,⟨t,et,ht⟩,least⟩
  have hv':its[j]?=some v:=by simpa using hv
  have jl:j<xs.length:=by
   have:=(List.getElem?_eq_some_iff.mp hv').1
   lia
  have hy:xs[j]?=some xs[j]:=List.getElem?_eq_getElem jl
  obtain⟨u',e',ru⟩:=rr.get hy
  rw[hv']at e'
  cases e'
  obtain⟨p',q',⟨t',et',ht'⟩⟩:=hxs _ (List.getElem_mem jl)
  rw[et']at ru
  cases ru
  rw[et]at rx
  cases rx
  obtain⟨bts,rb,pb,_⟩:=I.tuple (SqT.of ht)
  obtain⟨cts,rc,pc,_⟩:=I.tuple (SqT.of ht')
  obtain⟨k1,k2,rfl⟩:=zef rb
  obtain⟨m1,m2,rfl⟩:=zef rc
  have hu1:X.A.in1.units<cLine:=by show X.A.units+1<cLine;lia
  have key:∀ (c:Bool),(c=true↔p'<p∨p'=p∧q'<q)→(∀ (s':Shared) (Q':Value→Shared→Prop) (E':Value→Shared→Prop),(∀ b o,b∉[s.heap.objs.size]→(s.heap.push { cls:=.type (cN true),data:=.fields #[.ref a,.int 0 0] }).get? b=some o→s'.heap.get? b=some o)→Q' (.bool c) s'→wpAny (model X.prog X.w) X.A.in1 (richCompare .Lt (.ref t') (.ref t)) Q' E' s'):=by
   intro c hcc s' Q' E' old q''
   have mv:∀ {c:Addr}{zs:Array Value},IsTup s.heap c zs→IsTup s'.heap c zs:=fun {c zs} z=>by
    obtain⟨o',e1,e2⟩:=z
    refine⟨o',old c o' (fun z=>?_) (Heap.get?_push_of_some _ e1),e2⟩
    exact Nat.ne_of_lt (Heap.lt_size e1) (List.mem_singleton.mp z)
   have T1:=mv pc
   have T2:=mv pb
   have ne:∀ {A':Around}(i j:Int) (t1 t2:Tok),i≠j→SeqAt.EqAt A' s' (.int i t1) (.int j t2) false:=fun {A'} i j t1 t2 h=>by
    have:=zde (A:=A') (s:=s') (x:=.int j) (y:=.int i) ⟨t1,rfl⟩ ⟨t2,rfl⟩ rfl rfl
    have e:eqV (.int i) (.int j)=false:=by simp[eqV,h]
    rwa [e]at this
   have eq:∀ {A':Around}(i:Int) (t1 t2:Tok),SeqAt.EqAt A' s' (.int i t1) (.int i t2) true:=fun {A'} i t1 t2=>zgt (x:=.int i) rfl ⟨t1,rfl⟩ ⟨t2,rfl⟩
   have lt:∀ {A':Around}(i j:Int) (t1 t2:Tok) (c:Bool),(c=true↔i<j)→LtAt A' s' (.int i t1) (.int j t2) c:=fun {A'} i j t1 t2 c h=>by
    have:=LtAt.ints (A:=A') (s:=s') i j t1 t2
    rwa [show decide (i<j)=c from by rw[Bool.eq_iff_iff,decide_eq_true_iff];exact h.symm]at this
   by_cases e1:p'=p
   ·subst e1
    by_cases e2:q'=q
    ·subst e2
     exact absurd ⟨t',et',ht'⟩ (dst i0 j _ _ _ _ i0j xi hy ⟨t,et,ht⟩)
    ·refine LtAt.tuples (k:=1) T1 T2 hu1 (by show 1<2;decide) (by show 1<2;decide) (fun j _ _ h=>?_) (ne _ _ _ _ e2) (lt _ _ _ _ c ?_) X.prog X.w _ _ q''
     ·have j0:j=0:=by lia
      subst j0
      exact eq _ _ _
     ·rw[hcc];lia
   ·refine LtAt.tuples (k:=0) T1 T2 hu1 (by show 0<2;decide) (by show 0<2;decide) (fun j _ _ h=>absurd h (Nat.not_lt_zero _)) (ne _ _ _ _ e1) (lt _ _ _ _ c ?_) X.prog X.w _ _ q''
    rw[hcc];lia
  refine⟨decide (p'<p∨p'=p∧q'<q),?_,key _ (by rw[decide_eq_true_iff])⟩
  by_cases c:p'<p∨p'=p∧q'<q
  ·rw[decide_eq_true c,if_pos rfl]
   refine⟨j,_,p',q',⟨Nat.lt_succ_self _,hy⟩,et' ▸ rfl,⟨t',et',ht'⟩,fun i y p2 q2 il hy2 pr2=>?_⟩
   by_cases ij:i<j
   ·have:=least i y p2 q2 ij hy2 pr2
    unfold le2 at this ⊢
    lia
   ·have ei:i=j:=by lia
    subst ei
    rw[hy]at hy2
    obtain⟨t2,et2,ht2⟩:=pr2
    rw[← Option.some.inj hy2,et']at et2
    cases et2
    rw[ht']at ht2
    cases ht2
    exact .inr ⟨rfl,Int.le_refl _⟩
  ·rw[decide_eq_false c,if_neg Bool.false_ne_true]
   refine⟨i0,x,p,q,⟨by lia,xi⟩,et ▸ rfl,⟨t,et,ht⟩,fun i y p2 q2 il hy2 pr2=>?_⟩
   by_cases ij:i<j
   ·exact least i y p2 q2 ij hy2 pr2
   ·have ei:i=j:=by lia
    subst ei
    rw[hy]at hy2
    obtain⟨t2,et2,ht2⟩:=pr2
    rw[← Option.some.inj hy2,et']at et2
    cases et2
    rw[ht']at ht2
    cases ht2
    unfold le2
    lia
 ·intro u h' tk ⟨i0,x,p,q,⟨i0j,xi⟩,rx,pr,least⟩ hk
  refine⟨x,H,I.kept (t':=tk) fun c o e=>hk c o (fun z=>Nat.ne_of_lt (Heap.lt_size e) (List.mem_singleton.mp z)) (Heap.get?_push_of_some _ e),rx,k x p q (List.mem_of_getElem? xi) pr fun y hy p' q' pr'=>?_⟩
  obtain⟨i,il,ei⟩:=List.mem_iff_getElem.mp hy
  exact least i y p' q' (by rw[List.size_toArray];lia) (by rw[List.getElem?_eq_getElem il,ei]) pr'
end
end L2
namespace Bn
open PySem L2 Own
structure PSt where
 S:Tst
 t:Nat→Int
 told:Nat→Option (Nat × Nat × Int)
def put1 {α:Type}(f:Nat→α) (b:Nat) (x:α):Nat→α:=fun c=>if c=b then x else f c
theorem zaB {α:Type}{f:Nat→α}{b:Nat}{x:α}:put1 f b x b=x:=if_pos rfl
theorem zaP {α:Type}{f:Nat→α}{b c:Nat}{x:α}(h:c≠b):put1 f b x c=f c:=if_neg h
def Adv (N:Nt) (pc:Nat→Int) (a:PSt) (b:Nat) (z:PSt):Prop:=∃ lane k,a.S.spots[b]?=some (some (lane,k)) ∧
 ((k=N.forks.length∧z=⟨outT N a.S b lane,a.t,put1 a.told b (some (endN N lane+N.lanes*a.S.came.getD (endN N lane) 0,endN N lane,a.t b))⟩) ∨
  (k<N.forks.length∧∃ k',IsNext N.forks (onT N a.S b k) (k+1) k'∧z=⟨goT N a.S b k k',put1 a.t b (a.t b+pc b),a.told⟩))
def Least (a:PSt) (b:Nat):Prop:=b∈wayL a.S.spots∧∀ c∈wayL a.S.spots,le2 (a.t b) b (a.t c) c
inductive Chain (N:Nt) (pc:Nat→Int):PSt→PSt→Prop
 | nil (a:PSt):Chain N pc a a
 | cons {a b z:PSt}{x:Nat}:Least a x→Adv N pc a x b→Chain N pc b z→Chain N pc a z
theorem Chain.snoc {N:Nt}{pc:Nat→Int}{a b z:PSt}{x:Nat}(c:Chain N pc a b) (l:Least b x) (d:Adv N pc b x z):Chain N pc a z:=by
 induction c with
 | nil a=>exact .cons l d (.nil _)
 | cons l' d' _ ih=>exact .cons l' d' (ih l d)
theorem Least.one {a:PSt}{b c:Nat}(h:Least a b) (g:Least a c):b=c:=by
 have h1:=h.2 c g.1
 have h2:=g.2 b h.1
 unfold le2 at h1 h2
 lia
theorem Adv.one {N:Nt}{pc:Nat→Int}{a y z:PSt}{b:Nat}(h:Adv N pc a b y) (g:Adv N pc a b z):y=z:=by
 obtain⟨lane,k,e,h⟩:=h
 obtain⟨lane',k',e',g⟩:=g
 rw[e]at e'
 cases e'
 rcases h with ⟨h1,h2⟩|⟨h1,q,hq,h2⟩<;>rcases g with ⟨g1,g2⟩|⟨g1,r,gr,g2⟩
 ·rw[h2,g2]
 ·lia
 ·lia
 ·rw[hq.one gr]at h2
  rw[h2,g2]
theorem Chain.one {N:Nt}{pc:Nat→Int}{a y z:PSt}(c:Chain N pc a y) (d:Chain N pc a z) (hy:wayL y.S.spots=[]) (hz:wayL z.S.spots=[]):y=z:=by
 induction c with
 | nil a =>
  cases d with
  | nil=>rfl
  | cons l _ _=>have:=l.1;rw[hy]at this;exact(List.not_mem_nil this).elim
 | cons l e _ ih =>
  cases d with
  | nil=>have:=l.1;rw[hz]at this;exact(List.not_mem_nil this).elim
  | cons l' e' d' =>
   have eb:=l.one l'
   subst eb
   have ez:=e.one e'
   subst ez
   exact ih d' hy
structure PIn (N:Nt) (n:Nat) (a:PSt):Prop where
 os:OkS N a.S
 fi:Fine N a.S
 ln:a.S.spots.length=n
 tl:∀ b,b<n→(a.S.spots[b]?=some none↔a.told b≠none)
theorem PIn.way {N:Nt}{n:Nat}{a:PSt}(h:PIn N n a) {b:Nat}(hb:b∈wayL a.S.spots):b<n∧∃ lane k,a.S.spots[b]?=some (some (lane,k))∧lane<N.lanes∧k≤N.forks.length:=by
 obtain⟨⟨lane,k⟩,e⟩:=za7.mp hb
 have:=(List.getElem?_eq_some_iff.mp e).1
 exact⟨by rw[← h.ln];exact this,lane,k,e,h.os.sp lane k (List.mem_of_getElem? e)⟩
theorem PIn.few {N:Nt}{n:Nat}{a:PSt}(h:PIn N n a):a.S.nms.length≤n∧∀ e,e<N.lanes→a.S.came.getD e 0≤n:=by
 have c:=h.fi.cnt
 have l:=h.ln
 refine⟨by lia,fun e he=>?_⟩
 have q:=congrArg List.length (h.fi.num e he)
 rw[List.length_map,List.length_range]at q
 have:=List.length_filter_le (fun n=>decide (n%N.lanes=e)) a.S.nms
 lia
theorem PIn.adv {N:Nt}{n:Nat}{pc:Nat→Int}{a z:PSt}{b:Nat}(ok:N.Ok) (h:PIn N n a) (d:Adv N pc a b z):PIn N n z∧pot N.forks.length z.S.spots+1≤pot N.forks.length a.S.spots:=by
 obtain⟨lane,k,e,d⟩:=d
 have bl:=(List.getElem?_eq_some_iff.mp e).1
 have bn:b<n:=by rw[← h.ln];exact bl
 obtain⟨hl,hk⟩:=h.os.sp lane k (List.mem_of_getElem? e)
 rcases d with ⟨h1,rfl⟩|⟨h1,k',nk,rfl⟩
 ·refine⟨⟨h.os.out _ _,(Fine.out ok h.os h.fi e hl).1,by show (a.S.spots.set b none).length=n;rw[List.length_set];exact h.ln,fun c cn=>?_⟩,?_⟩
  ·show (a.S.spots.set b none)[c]?=some none↔put1 a.told b _ c≠none
   by_cases cb:c=b
   ·subst cb
    rw[zaB,List.getElem?_set_self bl]
    exact Iff.intro (fun _ q=>nomatch q) (fun _=>rfl)
   ·rw[zaP cb,List.getElem?_set_ne (fun z=>cb z.symm)]
    exact h.tl c cn
  ·have:=zdD N.forks.length a.S.spots b _ none e
   show pot _ (a.S.spots.set b none)+1≤_
   unfold goes at this
   simp only at this
   lia
 ·refine⟨⟨(OkS.go ok h.os h1 nk.upto).2,h.fi.go e,by show (a.S.spots.set b _).length=n;rw[List.length_set];exact h.ln,fun c cn=>?_⟩,?_⟩
  ·show (a.S.spots.set b _)[c]?=some none↔a.told c≠none
   by_cases cb:c=b
   ·subst cb
    rw[List.getElem?_set_self bl]
    have:=h.tl c cn
    rw[e]at this
    exact Iff.intro (fun q=>nomatch q) (fun q=>nomatch this.mpr q)
   ·rw[List.getElem?_set_ne (fun z=>cb z.symm)]
    exact h.tl c cn
  ·have:=zdD N.forks.length a.S.spots b _ (some (onT N a.S b k,k')) e
   have f:=nk.from_
   show pot _ (a.S.spots.set b (some (onT N a.S b k,k')))+1≤_
   unfold goes at this
   simp only at this
   lia
noncomputable def nxt (fs:List (Nat × Nat)) (lane:Nat):Nat:=Classical.choose (zdK fs lane 0 (Nat.zero_le _))
theorem zf0 (fs:List (Nat × Nat)) (lane:Nat):IsNext fs lane 0 (nxt fs lane):=Classical.choose_spec (zdK fs lane 0 (Nat.zero_le _))
structure RunP where
 lane:Nat
 start:Int
 pace:Int
instance:Inhabited RunP:=⟨⟨0,0,0⟩⟩
noncomputable def zav (N:Nt) (rs:List RunP):List (Option (Nat × Nat)):=rs.map fun r=>some (r.lane,nxt N.forks r.lane)
noncomputable def Sn (N:Nt) (rs:List RunP):Tst:=⟨List.replicate N.forks.length 0,zav N rs,List.replicate N.lanes 0,[]⟩
noncomputable def a0 (N:Nt) (rs:List RunP):PSt:=⟨Sn N rs,fun b=>(rs.getD b default).start,fun _=>none⟩
def zbE (rs:List RunP):Nat→Int:=fun b=>(rs.getD b default).pace
theorem zio (N:Nt) (rs:List RunP) (r:RunP) {k:Nat}(h:IsNext N.forks r.lane 0 k):{ Sn N rs with spots:=(Sn N rs).spots++[some (r.lane,k)] }=Sn N (rs++[r]):=by
 unfold Sn zav
 rw[List.map_append,h.one (zf0 _ _)];rfl
theorem zbx (N:Nt) (rs:List RunP) {b:Nat}{r:RunP}(h:rs[b]?=some r):(zav N rs)[b]?=some (some (r.lane,nxt N.forks r.lane)):=by
 unfold zav
 rw[List.getElem?_map,h];rfl
theorem way0 (N:Nt) (rs:List RunP):wayL (zav N rs)=List.range rs.length:=by
 unfold wayL
 have l:(zav N rs).length=rs.length:=List.length_map ..
 rw[l,List.filter_eq_self.mpr]
 intro b hb
 rw[List.getD_eq_getElem?_getD,zbx N rs (List.getElem?_eq_getElem (List.mem_range.mp hb))];rfl
theorem pin0 {N:Nt}(ok:N.Ok) {rs:List RunP}(h:∀ r∈rs,r.lane<N.lanes):PIn N rs.length (a0 N rs):=by
 have l:(zav N rs).length=rs.length:=List.length_map ..
 refine⟨⟨List.length_replicate,fun x hx=>by rw[List.eq_of_mem_replicate hx];decide,fun lane k hm=>?_,List.length_replicate⟩,⟨(zkK ok.l1).num,?_,fun n hn=>by cases hn⟩,l,fun b hb=>?_⟩
 ·obtain⟨r,hr,e⟩:=List.mem_map.mp hm
  cases Option.some.inj e
  exact⟨h r hr,(zf0 _ _).upto⟩
 ·show 0+(wayL (zav N rs)).length=(zav N rs).length
  rw[way0,l,List.length_range,Nat.zero_add]
 ·show (zav N rs)[b]?=some none↔(none:Option (Nat × Nat × Int))≠none
  rw[zbx N rs (List.getElem?_eq_getElem hb)]
  exact Iff.intro (fun q=>nomatch q) (fun q=>absurd rfl q)
structure Batch (now:Int) (bs:List Nat) (a:PSt):Prop where
 so:bs.Pairwise (· < ·)
 mem:∀ b∈bs,b∈wayL a.S.spots∧a.t b=now
 all:∀ c∈wayL a.S.spots,now≤a.t c∧(a.t c=now→c∈bs)
theorem Batch.least {now:Int}{b:Nat}{bs:List Nat}{a:PSt}(h:Batch now (b::bs) a):Least a b:=by
 obtain⟨m,e⟩:=h.mem b (.head _)
 refine⟨m,fun c hc=>?_⟩
 obtain⟨g,q⟩:=h.all c hc
 unfold le2
 by_cases z:a.t c=now
 ·rcases List.mem_cons.mp (q z) with y|y
  ·rw[y];exact .inr ⟨rfl,Int.le_refl _⟩
  ·have:=(List.pairwise_cons.mp h.so).1 c y
   right;lia
 ·left;lia
theorem Batch.next {N:Nt}{pc:Nat→Int}{now:Int}{b:Nat}{bs:List Nat}{a z:PSt}(p:1≤pc b) (h:Batch now (b::bs) a) (d:Adv N pc a b z):Batch now bs z:=by
 obtain⟨m,e⟩:=h.mem b (.head _)
 obtain⟨so1,so2⟩:=List.pairwise_cons.mp h.so
 obtain⟨lane,k,es,d⟩:=d
 have nb:∀ c∈bs,c≠b:=fun c hc z=>by have:=so1 c hc;lia
 rcases d with ⟨h1,rfl⟩|⟨h1,k',nk,rfl⟩
 ·have w:∀ c,c∈wayL (a.S.spots.set b none)↔c∈wayL a.S.spots∧c≠b:=fun c=>by
   rw[zce,List.mem_filter,decide_eq_true_iff]
  refine⟨so2,fun c hc=>⟨(w c).mpr ⟨(h.mem c (.tail _ hc)).1,nb c hc⟩,(h.mem c (.tail _ hc)).2⟩,fun c hc=>?_⟩
  obtain⟨w1,w2⟩:=(w c).mp hc
  obtain⟨g,q⟩:=h.all c w1
  exact⟨g,fun z=>(List.mem_cons.mp (q z)).resolve_left w2⟩
 ·have w:wayL (a.S.spots.set b (some (onT N a.S b k,k')))=wayL a.S.spots:=zd5 es
  refine⟨so2,fun c hc=>⟨?_,?_⟩,fun c hc=>?_⟩
  ·show c∈wayL (a.S.spots.set b _)
   rw[w];exact(h.mem c (.tail _ hc)).1
  ·show put1 a.t b _ c=now
   rw[zaP (nb c hc)];exact(h.mem c (.tail _ hc)).2
  ·replace hc:c∈wayL (a.S.spots.set b (some (onT N a.S b k,k'))):=hc
   rw[w]at hc
   show now≤put1 a.t b _ c∧(put1 a.t b _ c=now→c∈bs)
   by_cases cb:c=b
   ·subst cb
    rw[zaB]
    exact⟨by lia,fun z=>by lia⟩
   ·rw[zaP cb]
    obtain⟨g,q⟩:=h.all c hc
    exact⟨g,fun z=>(List.mem_cons.mp (q z)).resolve_left cb⟩
def zdU (f:Nat × Nat):PyData:=.tuple [.int f.1,.int f.2]
end Bn
namespace L2
open PySem PySem.Spec PyProof.Rows Own
section
variable {X:Cx}
end
end L2
namespace Bn
open PySem L2 Own
end Bn
namespace L2
open PySem PySem.Spec PyProof.Rows Own
section
variable {prog:Program}{w:World}{A:Around}{E:Value→Shared→Prop}{it l:Addr}{items:Array Value}
end
section
variable {X:Cx}
end
end L2
namespace L2
open PySem
theorem Room.u1 {k:Nat}{A:Around}(r:Room k A):A.units+1<cLine:=by have:=r.un;lia
end L2
namespace Bn
open PySem L2 Own
section
variable {H0 H H':Hp}{l d lt lg lo:Addr}{qa:List Addr}{ts os:List Int}{gs:List Grp}
end
end Bn
namespace L2
open PySem
end L2
namespace K98
open PySem L2 Own Bn
abbrev sRan:Stmt:=top 15
def RunsAt (H:Hp) (qs:List V) (rs:List RunP):Prop:=qs.length=rs.length∧∀ (i:Nat) q r,qs[i]?=some q→rs[i]?=some r→∃ p,q=.ref p∧H p=some (.tup [.int (r.lane:Nat),.int r.start,.int r.pace])
theorem RunsAt.tups {H H':Hp}{qs:List V}{rs:List RunP}(h:RunsAt H qs rs) (t:Tups H H'):RunsAt H' qs rs:=⟨h.1,fun i q r a b=>by
 obtain⟨p,e,z⟩:=h.2 i q r a b
 exact⟨p,e,t _ _ z⟩⟩
theorem RunsAt.at_ {H:Hp}{qs:List V}{rs:List RunP}(h:RunsAt H qs rs) {i:Nat}(il:i<rs.length):∃ p,qs[i]?=some (.ref p)∧H p=some (.tup [.int ((rs.getD i default).lane:Nat),.int (rs.getD i default).start,.int (rs.getD i default).pace]):=by
 have er:rs[i]?=some (rs.getD i default):=by rw[List.getD_eq_getElem?_getD,List.getElem?_eq_getElem il];rfl
 have iq:i<qs.length:=by rw[h.1];exact il
 have eq:qs[i]?=some qs[i]:=List.getElem?_eq_getElem iq
 obtain⟨p,e,z⟩:=h.2 i _ _ eq er
 exact⟨p,by rw[eq,e],z⟩
def TldV (H:Hp) (v:V):Option (Nat × Nat × Int)→Prop
 | none=>v=.non
 | some (n,e,m)=>∃ q,v=.ref q∧H q=some (.tup [.int (n:Nat),.int (e:Nat),.int m])
def TldL (H:Hp) (xs:List V) (told:Nat→Option (Nat × Nat × Int)) (n:Nat):Prop:=xs.length=n∧∀ (i:Nat) v,xs[i]?=some v→TldV H v (told i)
theorem TldV.tups {H H':Hp}{v:V}(t:Tups H H'):∀ {o:Option (Nat × Nat × Int)},TldV H v o→TldV H' v o
 | none,h=>h
 | some (n,e,m),⟨q,a,b⟩=>⟨q,a,t _ _ b⟩
theorem TldL.tups {H H':Hp}{xs:List V}{told:Nat→Option (Nat × Nat × Int)}{n:Nat}(h:TldL H xs told n) (t:Tups H H'):TldL H' xs told n:=⟨h.1,fun i v e=>(h.2 i v e).tups t⟩
theorem TldL.put {H:Hp}{xs:List V}{told:Nat→Option (Nat × Nat × Int)}{n b:Nat}{v:V}{o:Option (Nat × Nat × Int)}(h:TldL H xs told n) (hv:TldV H v o):TldL H (xs.set b v) (put1 told b o) n:=by
 refine⟨by rw[List.length_set];exact h.1,fun i u e=>?_⟩
 by_cases c:i=b
 ·subst c
  have il:i<xs.length:=by have:=(List.getElem?_eq_some_iff.mp e).1;rwa [List.length_set]at this
  rw[List.getElem?_set_self il]at e
  rw[zaB,← Option.some.inj e];exact hv
 ·rw[List.getElem?_set_ne (fun z=>c z.symm)]at e
  rw[zaP c];exact h.2 i u e
def TldAt (H:Hp) (p:Addr) (told:Nat→Option (Nat × Nat × Int)) (n:Nat):Prop:=∃ xs,H p=some (.tup xs)∧TldL H xs told n∧∀ i,i<n→told i≠none
def dkL (ws:List Nat) (t:Nat→Int):List (Key × V):=ws.map fun (b:Nat)=>((Sum.inl (b:Int):Key),V.int (t b))
theorem zgw (ws:List Nat) (t:Nat→Int) (b:Nat):((dkL ws t).any fun kv=>decide (kv.1=(Sum.inl (b:Int):Key)))=decide (b∈ws):=by
 rw[Bool.eq_iff_iff,decide_eq_true_iff,List.any_eq_true]
 unfold dkL
 constructor
 ·rintro⟨p,hp,e⟩
  obtain⟨c,hc,rfl⟩:=List.mem_map.mp hp
  have:(c:Int)=b:=Sum.inl.inj (of_decide_eq_true e)
  rwa [show b=c by lia]
 ·intro h
  exact⟨_,List.mem_map.mpr ⟨b,h,rfl⟩,decide_eq_true rfl⟩
theorem dk_new (ws:List Nat) (t:Nat→Int) (b:Nat) (h:b∉ws):putK (dkL ws t) (.inl (b:Int)) (.int (t b))=dkL (ws++[b]) t:=by
 unfold putK
 rw[zgw,decide_eq_false h,if_neg Bool.false_ne_true]
 unfold dkL
 rw[List.map_append];rfl
theorem zj5 (ws:List Nat) (t:Nat→Int) (b:Nat) (h:b∈ws) (m:Int):putK (dkL ws t) (.inl (b:Int)) (.int m)=dkL ws (put1 t b m):=by
 unfold putK
 rw[zgw,decide_eq_true h,if_pos rfl]
 unfold dkL
 rw[List.map_map]
 refine List.map_congr_left fun c _=>?_
 show (if (Sum.inl (c:Int):Key)=Sum.inl (b:Int) then _ else _)=_
 by_cases e:c=b
 ·subst e;rw[if_pos rfl,zaB]
 ·rw[if_neg (fun z=>e (by have:=Sum.inl.inj z;lia)),zaP e]
theorem zjb (ws:List Nat) (t:Nat→Int) (b:Nat):zal (dkL ws t) (.inl (b:Int))=dkL (ws.filter fun c=>decide (c≠b)) t:=by
 unfold zal dkL
 rw[List.filter_map]
 congr 1
 refine List.filter_congr fun c _=>?_
 show decide ((Sum.inl (c:Int):Key)≠Sum.inl (b:Int))=_
 exact decide_eq_decide.mpr ⟨fun h z=>h (by rw[z]),fun h z=>h (by have:=Sum.inl.inj z;lia)⟩
theorem zj4 (ws:List Nat) (t:Nat→Int) (b:Nat) (h:b∈ws):(valV (dkL ws t) (.inl (b:Int))).isSome=true:=by
 rw[← zaT,zgw];exact decide_eq_true h
theorem zkM {ws:List Nat}{t:Nat→Int}{i:Nat}{p:Key × V}(h:(dkL ws t)[i]?=some p):∃ b,ws[i]?=some b∧p=(.inl (b:Int),.int (t b)):=by
 unfold dkL at h
 rw[List.getElem?_map]at h
 cases e:ws[i]? with
 | none=>rw[e]at h;cases h
 | some b=>rw[e]at h;exact⟨b,rfl,(Option.some.inj h).symm⟩
theorem no_a {n s p c u:Addr}:(zaE n s p c u).lookup ("start":Str)=none:=zja (by decide +kernel) (by decide +kernel) (by decide +kernel) (by decide +kernel) (by decide +kernel)
theorem no_s {n s p c u:Addr}:(zaE n s p c u).lookup ("step":Str)=none:=zja (by decide +kernel) (by decide +kernel) (by decide +kernel) (by decide +kernel) (by decide +kernel)
theorem ze9 (os:List (Option (Nat × Nat))):(wayL os).Nodup:=by
 unfold wayL
 exact List.Nodup.sublist List.filter_sublist List.nodup_range
theorem zci {C:Addr}{H:Hp}{A:Tad}{N:Nt}{S:Tst}{d:Addr}{kvs:List (Key × V)}(T:TelAt C H A N S) (hd:H d=some (.dK kvs)) (o:HO):TelAt C (L2.upd H d o) A N S:=by
 obtain⟨dx,e⟩:=T.ob
 obtain⟨sp,h1,h2⟩:=T.hp
 have ls:∀ {b:Addr}{xs:List V},H b=some (.lst xs)→L2.upd H d o b=some (.lst xs):=fun e=>by rw[zac (ne_of e hd (fun z=>by cases z))];exact e
 have tp:Tups H (L2.upd H d o):=fun b xs e=>by rw[zac (ne_of e hd (fun z=>by cases z))];exact e
 exact⟨⟨dx,by rw[zac (ne_of e hd (fun z=>by cases z))];exact e⟩,T.na.tups tp,ls T.hs,⟨sp,ls h1,h2.tups tp⟩,ls T.hc,ls T.hn,T.d1,T.d2,T.d3,T.d4,T.d5,T.d6⟩
def PrL (H:Hp) (acc:List V) (ws:List Nat) (t:Nat→Int):Prop:=∀ (i:Nat) v,acc[i]?=some v→∃ b q,ws[i]?=some b∧v=.ref q∧H q=some (.tup [.int (t b),.int (b:Nat)])
theorem PrL.same {H H':Hp}{acc:List V}{ws:List Nat}{t:Nat→Int}(h:PrL H acc ws t) (s:Tups H H'):PrL H' acc ws t:=fun i v e=>by
 obtain⟨b,q,h1,h2,h3⟩:=h i v e
 exact⟨b,q,h1,h2,s _ _ h3⟩
def zdv:Sp:=fun vs H Q _=>∃ (r fr er:Addr) (ps:List V) (N:Nt) (pr:Addr) (qs:List V) (rs:List RunP),vs=[.ref r,.ref pr]∧Nt.Ok N∧NetAt H r fr er ps N∧H pr=some (.tup qs)∧RunsAt H qs rs∧rs.length≤60∧(∀ x∈rs,x.lane<N.lanes∧1≤x.pace) ∧
 ∀ p a H',Same H H'→Chain N (zbE rs) (a0 N rs) a→wayL a.S.spots=[]→PIn N rs.length a→TldAt H' p a.told rs.length→Q (.ref p) H'
section
variable {P:Program}{w:World}{K:PySem.W.Frag}{mg:Str→Option Value}{base:Heap}{C:Addr}
theorem scRa:FnScope ["net","runs","teller","due","lane","start","pace","told","moment","ball","number"] ["net","runs"] (zae sRan):=⟨rfl,rfl,rfl,by decide +kernel,rfl,by decide +kernel,by decide +kernel⟩
theorem zjK {f fI fS fP:Addr}{fd dI dS dP:FuncData}(F:Fun K "ran" "ran" sRan f fd) (G:Mgs mg) (T:Txt K mg C) (MT:Mk K C fI) (UI:UseM P w K mg base C "__init__" ["self","net"] 1 (zdu C) fI dI) (US:UseM P w K mg base C "start" ["self","lane"] 3 (zcj C) fS dS) (UP:UseM P w K mg base C "step" ["self","ball"] 3 (zdt C) fP dP):FnOk P w K mg base CX0 4 f fd ["net","runs"] zdv:=by
 refine F.ok scRa (fun vs H Q E h=>?_) (fun cdv A outer s H vs Q E hr h=>?_)
 ·obtain⟨r,fr,er,ps,N,pr,qs,rs,rfl,_⟩:=h
  rfl
 obtain⟨r,fr,er,ps,N,pr,qs,rs,rfl,ok,na,hpr,ra,r100,rok,k⟩:=h
 have hr2:Room 2 _:=hr.mono (by decide)
 have hr3:Room 3 _:=hr.mono (by decide)
 refine⟨_,(@pss_cons _ _ _ _ _ (@ps_set _ _ 2 _ _ _ _ scRa.nd rfl (.inl rfl) (@ziL _ _ _ _ _ _ _ _ _ _ _ _ _ _ _ _ _ MT UI.ok hr2 rfl T.mgC UI.b .nil pass0 (@pa_cons _ _ _ _ _ (@pv _ 0 _ _ (by rfl) (by first|exact Or.inl rfl|exact Or.inr (.inl rfl)|exact Or.inr (.inr rfl)) (by decide) (by decide)) pa_nil (by rfl)) (by decide) (by rfl) (by rfl)) (by rfl) (by first|exact .inl rfl|exact .inr rfl|assumption)) (@pss_cons _ _ _ _ _ (@ps_set _ _ 3 _ _ _ _ scRa.nd rfl (.inl rfl) pe_dnewK (by rfl) (by first|exact .inl rfl|exact .inr rfl|assumption)) (@pss_cons _ _ _ _ _ (@ps_for _ _ _ _ _ _ _ _ PassesOwn.never rfl (@zeg _ _ _ _ (@pv _ 1 _ _ (by rfl) (by first|exact Or.inl rfl|exact Or.inr (.inl rfl)|exact Or.inr (.inr rfl)) (by decide) (by decide))) (@pg_tup _ _ _ _ _ _ rfl (@pgs_cons _ _ _ _ _ (@pg_name _ _ 4 _ scRa.nd rfl (.inl rfl) (by first|exact .inl rfl|exact .inr rfl|assumption)) (@pgs_cons _ _ _ _ _ (@pg_name _ _ 5 _ scRa.nd rfl (.inl rfl) (by first|exact .inl rfl|exact .inr rfl|assumption)) (@pgs_cons _ _ _ _ _ (@pg_name _ _ 6 _ scRa.nd rfl (.inl rfl) (by first|exact .inl rfl|exact .inr rfl|assumption)) pgs_nil (by rfl)) (by rfl)) (by rfl)) (by rfl) (by rfl)) (@pss_one _ _ _ (@ps_dput _ _ _ _ _ _ _ _ _ hr.u1 (@pv _ 3 _ _ (by rfl) (by first|exact Or.inl rfl|exact Or.inr (.inl rfl)|exact Or.inr (.inr rfl)) (by decide) (by decide)) (@pe_meth _ _ _ _ _ _ _ _ _ _ _ _ _ _ _ _ _ _ _ _ (@pv _ 2 _ _ (by rfl) (by first|exact Or.inl rfl|exact Or.inr (.inl rfl)|exact Or.inr (.inr rfl)) (by decide) (by decide)) T.cl US.mt US.ok hr3 US.b .nil pass0 (@pa_cons _ _ _ _ _ (@pv _ 4 _ _ (by rfl) (by first|exact Or.inl rfl|exact Or.inr (.inl rfl)|exact Or.inr (.inr rfl)) (by decide) (by decide)) pa_nil (by rfl)) (by rfl) (by rfl) (by rfl)) (@pv _ 5 _ _ (by rfl) (by first|exact Or.inl rfl|exact Or.inr (.inl rfl)|exact Or.inr (.inr rfl)) (by decide) (by decide)) (by rfl))) (by intro _;rfl)) (@pss_cons _ _ _ _ _ (@ps_set _ _ 7 _ _ _ _ scRa.nd rfl (.inl rfl) (@pe_op _ _ _ _ _ _ _ _ op_rep (@pe_lst _ _ _ _ (@pa_cons _ _ _ _ _ pe_non pa_nil (by rfl))) (@pe_callB _ _ _ _ _ _ _ _ _ call_len_seq (by rfl) G.len PySem.boot_len (@pa_cons _ _ _ _ _ (@pv _ 1 _ _ (by rfl) (by first|exact Or.inl rfl|exact Or.inr (.inl rfl)|exact Or.inr (.inr rfl)) (by decide) (by decide)) pa_nil (by rfl)) (by decide) (by decide) (by rfl) (by rfl))) (by rfl) (by first|exact .inl rfl|exact .inr rfl|assumption)) (@pss_cons _ _ _ _ _ (@ps_while _ _ _ _ _ _ PassesOwn.never (@pt_truth _ _ _ (@pv _ 3 _ _ (by rfl) (by first|exact Or.inl rfl|exact Or.inr (.inl rfl)|exact Or.inr (.inr rfl)) (by decide) (by decide)) (fun _=>rfl)) (@pss_cons _ _ _ _ _ (@ps_asg _ _ _ _ _ _ (@pe_callB _ _ _ _ _ _ _ _ _ (zgI rfl hr.units) (by rfl) G.min (by rfl) (@pa_cons _ _ _ _ _ (@pe_thaw _ _ _ (@pe_lc _ _ _ _ none _ _ _ (gTup K 2 (gCons (gName 0) (gCons (gName 1) gNil))) _ _ ["place","when"] [none,none] rfl (@zfQ _ _ _ _ _ _ _ _ (@pv _ 3 _ _ (by rfl) (by first|exact Or.inl rfl|exact Or.inr (.inl rfl)|exact Or.inr (.inr rfl)) (by decide) (by decide)) (by rfl) (by rfl)) (CapOk.of (by kernel_rfl)) (fun _ _ _ _ _=>(@pg_tup _ _ _ _ _ _ rfl (@pgs_cons _ _ _ _ _ (@pg_name _ _ 0 _ (show (["place","when"]:List Str).Nodup from by decide +kernel) rfl (.inl rfl) (.inr rfl)) (@pgs_cons _ _ _ _ _ (@pg_name _ _ 1 _ (show (["place","when"]:List Str).Nodup from by decide +kernel) rfl (.inl rfl) (.inr rfl)) pgs_nil (by rfl)) (by rfl)) (by rfl) (by rfl))) (fun _ _ _ _ _=>zbb) (fun _ _ _ _ _=>(@pe_tup _ _ _ _ _ (@pa_cons _ _ _ _ _ (@pv _ 1 _ _ (by rfl) (by first|exact Or.inl rfl|exact Or.inr (.inl rfl)|exact Or.inr (.inr rfl)) (by decide) (by decide)) (@pa_cons _ _ _ _ _ (@pv _ 0 _ _ (by rfl) (by first|exact Or.inl rfl|exact Or.inr (.inl rfl)|exact Or.inr (.inr rfl)) (by decide) (by decide)) pa_nil (by rfl)) (by rfl)))) (by intro _;rfl))) pa_nil (by rfl)) (by decide) (by decide) (by rfl) (by rfl)) (@pg_tup _ _ _ _ _ _ rfl (@pgs_cons _ _ _ _ _ (@pg_name _ _ 8 _ scRa.nd rfl (.inl rfl) (by first|exact .inl rfl|exact .inr rfl|assumption)) (@pgs_cons _ _ _ _ _ (@pg_name _ _ 9 _ scRa.nd rfl (.inl rfl) (by first|exact .inl rfl|exact .inr rfl|assumption)) pgs_nil (by rfl)) (by rfl)) (by rfl) (by rfl)) (by rfl) (by rfl) (by rfl)) (@pss_cons _ _ _ _ _ (@ps_set _ _ 10 _ _ _ _ scRa.nd rfl (.inl rfl) (@pe_meth _ _ _ _ _ _ _ _ _ _ _ _ _ _ _ _ _ _ _ _ (@pv _ 2 _ _ (by rfl) (by first|exact Or.inl rfl|exact Or.inr (.inl rfl)|exact Or.inr (.inr rfl)) (by decide) (by decide)) T.cl UP.mt UP.ok hr3 UP.b .nil pass0 (@pa_cons _ _ _ _ _ (@pv _ 9 _ _ (by rfl) (by first|exact Or.inl rfl|exact Or.inr (.inl rfl)|exact Or.inr (.inr rfl)) (by decide) (by decide)) pa_nil (by rfl)) (by rfl) (by rfl) (by rfl)) (by rfl) (by first|exact .inl rfl|exact .inr rfl|assumption)) (@pss_one _ _ _ (@ps_if _ _ _ _ _ _ _ _ (@pt_cmpR _ _ _ _ _ _ _ _ op_isN (@pv _ 10 _ _ (by rfl) (by first|exact Or.inl rfl|exact Or.inr (.inl rfl)|exact Or.inr (.inr rfl)) (by decide) (by decide)) pe_non (by rfl)) (@pss_one _ _ _ (@ps_dput _ _ _ _ _ _ _ _ _ hr.u1 (@pv _ 3 _ _ (by rfl) (by first|exact Or.inl rfl|exact Or.inr (.inl rfl)|exact Or.inr (.inr rfl)) (by decide) (by decide)) (@pv _ 9 _ _ (by rfl) (by first|exact Or.inl rfl|exact Or.inr (.inl rfl)|exact Or.inr (.inr rfl)) (by decide) (by decide)) (@pe_op _ _ _ _ _ _ _ _ op_add (@pv _ 8 _ _ (by rfl) (by first|exact Or.inl rfl|exact Or.inr (.inl rfl)|exact Or.inr (.inr rfl)) (by decide) (by decide)) (@pe_ix _ _ _ _ _ _ _ ix_tup (@pe_ix _ _ _ _ _ _ _ ix_tup (@pv _ 1 _ _ (by rfl) (by first|exact Or.inl rfl|exact Or.inr (.inl rfl)|exact Or.inr (.inr rfl)) (by decide) (by decide)) (@pv _ 9 _ _ (by rfl) (by first|exact Or.inl rfl|exact Or.inr (.inl rfl)|exact Or.inr (.inr rfl)) (by decide) (by decide)) (fun _ _=>rfl)) pe_int (fun _ _=>rfl))) (by rfl))) (@pss_cons _ _ _ _ _ (@ps_asg _ _ _ _ _ _ (@pe_tup _ _ _ _ _ (@pa_cons _ _ _ _ _ (@pv _ 10 _ _ (by rfl) (by first|exact Or.inl rfl|exact Or.inr (.inl rfl)|exact Or.inr (.inr rfl)) (by decide) (by decide)) (@pa_cons _ _ _ _ _ (@pe_op _ _ _ _ _ _ _ _ op_mod (@pv _ 10 _ _ (by rfl) (by first|exact Or.inl rfl|exact Or.inr (.inl rfl)|exact Or.inr (.inr rfl)) (by decide) (by decide)) (@pe_ix _ _ _ _ _ _ _ ix_tup (@pv _ 0 _ _ (by rfl) (by first|exact Or.inl rfl|exact Or.inr (.inl rfl)|exact Or.inr (.inr rfl)) (by decide) (by decide)) pe_int (fun _ _=>rfl))) (@pa_cons _ _ _ _ _ (@pv _ 8 _ _ (by rfl) (by first|exact Or.inl rfl|exact Or.inr (.inl rfl)|exact Or.inr (.inr rfl)) (by decide) (by decide)) pa_nil (by rfl)) (by rfl)) (by rfl))) (@pg_sub _ _ _ _ _ _ _ (@pv _ 7 _ _ (by rfl) (by first|exact Or.inl rfl|exact Or.inr (.inl rfl)|exact Or.inr (.inr rfl)) (by decide) (by decide)) (@pv _ 9 _ _ (by rfl) (by first|exact Or.inl rfl|exact Or.inr (.inl rfl)|exact Or.inr (.inr rfl)) (by decide) (by decide)) set_list (by intro _;rfl)) (by rfl) (by rfl) (by rfl)) (@pss_one _ _ _ (@ps_ddel _ _ _ _ _ _ _ (@pv _ 3 _ _ (by rfl) (by first|exact Or.inl rfl|exact Or.inr (.inl rfl)|exact Or.inr (.inr rfl)) (by decide) (by decide)) (@pv _ 9 _ _ (by rfl) (by first|exact Or.inl rfl|exact Or.inr (.inl rfl)|exact Or.inr (.inr rfl)) (by decide) (by decide)))))))))) (@pss_one _ _ _ (@ps_ret _ _ _ _ (@pe_callTy _ _ _ _ _ _ _ _ _ call_tuple_of (by rfl) G.tuple (by rfl) (@pa_cons _ _ _ _ _ (@pv _ 7 _ _ (by rfl) (by first|exact Or.inl rfl|exact Or.inr (.inl rfl)|exact Or.inr (.inr rfl)) (by decide) (by decide)) pa_nil (by rfl)) (by decide) (by decide) (by rfl) (by rfl))))))))),?_⟩
 have l1:=ok.l1
 have l16:=ok.l16
 have ql:=ra.1
 refine⟨_,rfl,?_⟩
 intro t dx nt ndx nex
 have s1:Same H (L2.upd (L2.upd H dx (.own t)) t (.ins C dx [])):=fun b o e=>by
  rw[zac (zad e nt),zac (zad e ndx)];exact e
 refine⟨t,dx,r,fr,er,ps,N,rfl,zab,ok,na.tups (Tups.of s1),fun ls lp lc ln H2 f1 f2 f3 f4 te2 kp2=>⟨rfl,?_⟩⟩
 have s2:Same H H2:=fun b o e=>kp2 b o (s1 b o e) (zad e nt)
 generalize hA:(⟨t,r,fr,er,ps,ls,lp,lc,ln⟩:Tad)=A1 at te2
 have eT:A1.t=t:=by rw[← hA]
 have eR:A1.r=r:=by rw[← hA]
 have fA:∀ {b:Addr}{o:HO},H b=some o→b≠A1.ls∧b≠A1.lp∧b≠A1.lc∧b≠A1.ln:=fun {b o} e=>by
  rw[← hA]
  exact⟨zad (s1 _ _ e) f1,zad (s1 _ _ e) f2,zad (s1 _ _ e) f3,zad (s1 _ _ e) f4⟩
 clear hA f1 f2 f3 f4 kp2
 subst eT eR
 intro d hd
 have s3:=zaa hd (.dK [])
 have te3:=te2.keep s3
 have hd3:=atNew hd (.dK [])
 have u3:=s2.trans s3
 have nd:∀ {b:Addr}{o:HO},H2 b=some o→b≠d:=fun e=>zad e hd
 generalize L2.upd H2 d (.dK [])=H3 at s3 te3 hd3 u3 ⊢
 refine⟨_,rfl,pr,rfl,⟨_,SqT.of (u3 _ _ hpr)⟩,?_⟩
 have pi0:=pin0 ok fun x hx=>(rok x hx).1
 have dA:d≠A1.ls∧d≠A1.lp∧d≠A1.lc∧d≠A1.ln:=by
  obtain⟨sp,h1,_⟩:=te2.hp
  exact⟨(nd te2.hs).symm,(nd h1).symm,(nd te2.hc).symm,(nd te2.hn).symm⟩
 have sBut:∀ {H4 H5:Hp},Same H H4→But4 A1 H4 H5→Same H H5:=fun s b x o e=>by
  obtain⟨a1,a2,a3,a4⟩:=fA e
  exact b x o (s x o e) a1 a2 a3 a4
 have sUpd:∀ {H4:Hp}(o:HO),Same H H4→Same H (L2.upd H4 d o):=fun o s x u e=>by
  rw[zac (nd (s2 _ _ e))];exact s x u e
 refine zdV (K:=K) (a:=pr) (xs:=qs) (fun j σ H4=>(∃ v4 v5 v6 v7 v8 v9 v10,σ=[some (.ref A1.r),some (.ref pr),some (.ref A1.t),some (.ref d),v4,v5,v6,v7,v8,v9,v10])∧TelAt C H4 A1 N (Sn N (rs.take j))∧H4 d=some (.dK (dkL (List.range j) (a0 N rs).t))∧Same H H4) ⟨⟨_,_,_,_,_,_,_,rfl⟩,te3,hd3,u3⟩ (fun j σ H4 _ z=>SqT.of (z.2.2.2 _ _ hpr)) ?_ ?_
 ·rintro j x σ H4 hx ⟨⟨v4,v5,v6,v7,v8,v9,v10,rfl⟩,te4,hd4,u4⟩
  have jl:j<rs.length:=by have:=(List.getElem?_eq_some_iff.mp hx).1;lia
  obtain⟨p,hp1,hp2⟩:=(ra.tups (Tups.of u4)).at_ jl
  rw[hp1]at hx
  obtain rfl:=Option.some.inj hx
  have er:rs[j]?=some (rs.getD j default):=by rw[List.getD_eq_getElem?_getD,List.getElem?_eq_getElem jl];rfl
  have rm:=List.mem_of_getElem? er
  have et:rs.take (j+1)=rs.take j++[rs.getD j default]:=by
   rw[List.take_succ,er];rfl
  have os4:=(pin0 (rs:=rs.take j) ok fun x hx=>(rok x (List.mem_of_mem_take hx)).1).os
  have sl4:(Sn N (rs.take j)).spots.length=j:=by
   show (zav N (rs.take j)).length=j
   unfold zav
   rw[List.length_map,List.length_take];lia
  refine⟨p,_,rfl,SqT.of hp2,rfl,_,_,rfl,_,_,rfl,_,_,rfl,rfl,?_⟩
  obtain⟨dxa,oba⟩:=te4.ob
  refine⟨_,rfl,_,rfl,_,rfl,A1.t,dxa,_,rfl,oba,no_a,_,rfl,A1,N,_,(rs.getD j default).lane,rfl,ok,te4,os4,(rok _ rm).1,by lia,fun k5 H5 nk te5 b5=>?_⟩
  rw[zio N _ _ nk,← et]at te5
  have hd5:=b5 _ _ hd4 dA.1 dA.2.1 dA.2.2.1 dA.2.2.2
  rw[sl4]
  refine⟨d,_,rfl,DPut.k (k:=.inl (j:Nat)) hd5 (by unfold dkL;rw[List.length_map,List.length_range,sizeLine_eq];lia),?_⟩
  refine⟨⟨_,_,_,_,_,_,_,rfl⟩,zci te5 hd5 _,?_,sUpd _ (sBut u4 b5)⟩
  rw[zab]
  have:=dk_new (List.range j) (a0 N rs).t j (by rw[List.mem_range];lia)
  rw[List.range_succ,← this]
  rfl
 rintro σ H4 ⟨⟨v4,v5,v6,v7,v8,v9,v10,rfl⟩,te4,hd4,u4⟩
 rw[ql]at te4 hd4
 rw[List.take_length]at te4
 refine⟨(by show 1≤sizeLine;decide),fun p1 hp1=>?_⟩
 have s5:=zaa hp1 (.lst [.non])
 refine⟨_,rfl,pr,_,rfl,.inr (SqT.of (s5 _ _ (u4 _ _ hpr))),p1,qs.length,_,rfl,rfl,zab,by lia,by lia,by show 1*_≤sizeLine;rw[sizeLine_eq];lia,fun lt hlt=>?_⟩
 have zz:∀ m:Nat,(List.replicate m [V.non]).flatten=List.replicate m V.non:=fun m=>by
  induction m with
  | zero=>rfl
  | succ m ih=>rw[List.replicate_succ,List.flatten_cons,ih,List.replicate_succ];rfl
 rw[Int.toNat_natCast,zz,ql]
 have s6:=zaa hlt (.lst (List.replicate rs.length V.non))
 have u6:=(u4.trans s5).trans s6
 have te6:=(te4.keep s5).keep s6
 have hd6:=s6 _ _ (s5 _ _ hd4)
 have hl6:=atNew hlt (.lst (List.replicate rs.length V.non))
 have ltA:lt≠A1.ls∧lt≠A1.lp∧lt≠A1.lc∧lt≠A1.ln:=by
  have te5:=te4.keep s5
  obtain⟨sp,h1,_⟩:=te5.hp
  exact⟨(zad te5.hs hlt).symm,(zad h1 hlt).symm,(zad te5.hc hlt).symm,(zad te5.hn hlt).symm⟩
 have nlt:∀ {b:Addr}{o:HO},H b=some o→b≠lt:=fun e=>zad ((u4.trans s5) _ _ e) hlt
 generalize L2.upd _ lt (.lst (List.replicate rs.length V.non))=H6 at s6 u6 te6 hd6 hl6 ⊢
 have td6:TldL H6 (List.replicate rs.length V.non) (a0 N rs).told rs.length:=⟨List.length_replicate,fun i v e=>by
  have:=List.mem_of_getElem? e
  exact List.eq_of_mem_replicate this⟩
 refine⟨fun m σ H7=>(∃ w8 w9 w10,σ=[some (.ref A1.r),some (.ref pr),some (.ref A1.t),some (.ref d),v4,v5,v6,some (.ref lt),w8,w9,w10])∧∃ (a:PSt) (xs:List V),m=pot N.forks.length a.S.spots∧Chain N (zbE rs) (a0 N rs) a∧PIn N rs.length a∧TelAt C H7 A1 N a.S∧H7 d=some (.dK (dkL (wayL a.S.spots) a.t))∧H7 lt=some (.lst xs)∧TldL H7 xs a.told rs.length∧Same H H7,
  ⟨_,⟨_,_,_,rfl⟩,a0 N rs,_,rfl,.nil _,pi0,te6,by rw[hd6];show _=some (HO.dK (dkL (wayL (zav N rs)) _));rw[way0],hl6,td6,u6⟩,?_⟩
 rintro m σ H7 ⟨⟨w8,w9,w10,rfl⟩,a,xs,rfl,ch,pi,te7,hd7,hl7,td7,u7⟩
 refine⟨_,rfl,_,.inr (.inr ⟨_,hd7,rfl⟩),?_⟩
 have wl:(wayL a.S.spots).length≤rs.length:=by have:=pi.fi.cnt;have:=pi.ln;lia
 by_cases we:wayL a.S.spots=[]
 ·rw[show (!(dkL (wayL a.S.spots) a.t).isEmpty)=false by rw[we];rfl]
  refine iteF ⟨_,rfl,lt,_,rfl,.inl ⟨SqL.of hl7,fun p hp=>?_⟩⟩
  have s8:=zaa hp (.tup xs)
  refine k p a _ (u7.trans s8) ch we pi ⟨xs,zab,td7.tups (Tups.of s8),fun i il=>?_⟩
  refine(pi.tl i il).mp ?_
  have:i∉wayL a.S.spots:=by rw[we];exact List.not_mem_nil
  cases e:a.S.spots[i]? with
  | none=>rw[List.getElem?_eq_none_iff]at e;have:=pi.ln;lia
  | some o =>
   cases o with
   | none=>rfl
   | some y=>exact absurd (za7.mpr ⟨y,e⟩) this
 rw[show (!(dkL (wayL a.S.spots) a.t).isEmpty)=true by
  unfold dkL
  cases e:wayL a.S.spots with
  | nil=>exact absurd e we
  | cons x y=>rfl]
 refine iteT ⟨_,fun σ' H' h=>h,?_⟩
 refine⟨_,rfl,d,_,rfl,hd7,fun o l hl=>?_⟩
 refine zkD (d:=d) (o:=o) (kvs:=dkL (wayL a.S.spots) a.t) (fun i acc σ H8=>(∃ u0 u1,σ=[u0,u1])∧Same (L2.upd H7 d (.frz o (.dK (dkL (wayL a.S.spots) a.t)))) H8∧H8 l=some (.lst acc)∧acc.length=i∧PrL H8 acc (wayL a.S.spots) a.t) ⟨⟨_,_,rfl⟩,zaa hl _,zab,rfl,fun i v e=>by simp at e⟩ (fun i acc σ H8 z=>⟨z.2.2.1,z.2.1 _ _ zab⟩) ?_ ?_
 ·rintro i acc σ H8 p T hp hT ⟨⟨u0,u1,rfl⟩,s8,h8,al,pl⟩
  have il:i<(dkL (wayL a.S.spots) a.t).length:=(List.getElem?_eq_some_iff.mp hp).1
  obtain⟨b,hb,rfl⟩:=zkM hp
  have s9:=zaa hT (.tup [kV (.inl (b:Int)),.int (a.t b)])
  refine⟨T,_,rfl,SqT.of zab,rfl,_,_,rfl,_,_,rfl,rfl,?_⟩
  refine⟨_,rfl,_,rfl,by show 2≤sizeLine;decide,fun q hq=>?_⟩
  have s10:=zaa hq (.tup [.int (a.t b),.int (b:Nat)])
  have u10:=s9.trans s10
  have h10:=u10 _ _ h8
  have iw:i<(wayL a.S.spots).length:=(List.getElem?_eq_some_iff.mp hb).1
  refine⟨h10,by rw[al,sizeLine_eq];lia,nx il ⟨⟨_,_,rfl⟩,fun x u e=>?_,zab,by rw[List.length_append,al];rfl,fun i' v e=>?_⟩⟩
  ·rw[zac (zad e hl)];exact u10 _ _ (s8 x u e)
  ·have tl:Tups _ (L2.upd _ l _):=Tups.lst (ys:=acc++[.ref q]) h10
   by_cases c:i'<acc.length
   ·rw[List.getElem?_append_left c]at e
    exact(pl.same ((Tups.of u10).trans tl)) i' v e
   ·rw[List.getElem?_append_right (by lia)]at e
    have i0:i'-acc.length=0:=by
     have:=(List.getElem?_eq_some_iff.mp e).1
     simp at this;lia
    rw[i0]at e
    obtain rfl:=Option.some.inj e
    exact⟨b,q,by rw[show i'=i by lia];exact hb,rfl,tl _ _ (atNew hq _)⟩
 rintro acc σ H8 ⟨⟨u0,u1,rfl⟩,s8,h8,al,pl⟩
 have hd8:=s8 _ _ (zab (H:=H7) (a:=d) (o:=.frz o (.dK (dkL (wayL a.S.spots) a.t))))
 refine⟨d,o,_,_,hd7,hd8,?_⟩
 have s9:Same H7 (L2.upd H8 d (.dK (dkL (wayL a.S.spots) a.t))):=fun x u e=>by
  by_cases c:x=d
  ·subst c;rw[zab];rw[hd7]at e;exact e
  ·rw[zac c];exact s8 _ _ (by rw[zac c];exact e)
 have nld:l≠d:=by
  rintro rfl
  rw[zab]at hl;cases hl
 have h9:L2.upd H8 d (.dK (dkL (wayL a.S.spots) a.t)) l=some (.lst acc):=by rw[zac nld];exact h8
 have pl9:PrL (L2.upd H8 d (.dK (dkL (wayL a.S.spots) a.t))) acc (wayL a.S.spots) a.t:=pl.same fun x u e=>by rw[zac (ne_of e hd8 (fun z=>by cases z))];exact e
 generalize L2.upd H8 d (.dK (dkL (wayL a.S.spots) a.t))=H9 at s9 h9 pl9 ⊢
 have dl:(dkL (wayL a.S.spots) a.t).length=(wayL a.S.spots).length:=List.length_map ..
 rw[dl]at al
 have prx:∀ {i:Nat}{x:V}{p q:Int},acc[i]?=some x→Pr2 H9 x p q→∃ b:Nat,(wayL a.S.spots)[i]?=some b∧p=a.t b∧q=b:=fun {i x p q} e pr=>by
  obtain⟨b,z,h1,h2,h3⟩:=pl9 i x e
  obtain⟨z',h4,h5⟩:=pr
  rw[h2]at h4;cases h4
  rw[h3]at h5;cases h5
  exact⟨b,h1,rfl,rfl⟩
 refine⟨l,acc,rfl,SqL.of h9,by rw[al];exact List.length_pos_iff.mpr we,fun x hx=>?_,fun i j x y p q ij hx hy px py=>?_,fun x p q hx px least=>?_⟩
 ·obtain⟨i,il,e⟩:=List.mem_iff_getElem.mp hx
  obtain⟨b,z,h1,h2,h3⟩:=pl9 i x (by rw[List.getElem?_eq_getElem il,e])
  exact⟨_,_,z,h2,h3⟩
 ·obtain⟨b,hb,_,eb⟩:=prx hx px
  obtain⟨c,hc,_,ec⟩:=prx hy py
  have:b=c:=by lia
  subst this
  have:=(List.getElem?_inj (List.getElem?_eq_some_iff.mp hb).1 (ze9 _)).mp (hb.trans hc.symm)
  lia
 obtain⟨i,il,e⟩:=List.mem_iff_getElem.mp hx
 have ex:acc[i]?=some x:=by rw[List.getElem?_eq_getElem il,e]
 obtain⟨b,hb,rfl,rfl⟩:=prx ex px
 have bm:b∈wayL a.S.spots:=List.mem_of_getElem? hb
 have le:Least a b:=⟨bm,fun c hc=>by
  obtain⟨j,jl,ej⟩:=List.mem_iff_getElem.mp hc
  have hj:(wayL a.S.spots)[j]?=some c:=by rw[List.getElem?_eq_getElem jl,ej]
  have ja:j<acc.length:=by lia
  obtain⟨c',z,h1,h2,h3⟩:=pl9 j _ (List.getElem?_eq_getElem ja)
  rw[hj]at h1
  cases h1
  exact least _ (List.getElem_mem ja) _ _ ⟨z,h2,h3⟩⟩
 obtain⟨z,ez,hz⟩:=px
 subst ez
 refine⟨z,_,rfl,SqT.of hz,rfl,_,_,rfl,_,_,rfl,rfl,?_⟩
 have te9:=te7.keep s9
 have hd9:=s9 _ _ hd7
 have hl9:=s9 _ _ hl7
 have td9:=td7.tups (Tups.of s9)
 have u9:=u7.trans s9
 obtain⟨bn,lane,k0,hs,hlane,hk0⟩:=pi.way bm
 obtain⟨fw1,fw2⟩:=pi.few
 have pln:=pi.ln
 obtain⟨dx9,ob9⟩:=te9.ob
 refine⟨_,rfl,A1.t,dx9,_,rfl,ob9,no_s,_,rfl,A1,N,a.S,b,lane,k0,rfl,ok,te9,pi.os,hs,by lia,by lia,fun ke H10 te10 b10=>?_,fun kl k' H10 nk te10 b10=>?_⟩
 ·have hd10:=b10 _ _ hd9 dA.1 dA.2.1 dA.2.2.1 dA.2.2.2
  have hl10:=b10 _ _ hl9 ltA.1 ltA.2.1 ltA.2.2.1 ltA.2.2.2
  have u10:=sBut u9 b10
  have td10:=td9.tups (te9.tupk b10)
  have ad:Adv N (zbE rs) a b _:=⟨lane,k0,hs,.inl ⟨ke,rfl⟩⟩
  obtain⟨pi2,pt2⟩:=pi.adv ok ad
  refine⟨_,rfl,rfl,_,rfl,?_⟩
  rw[decide_eq_false (fun z=>by cases z)]
  refine iteF ?_
  have ee:endN N lane<N.lanes:=zep ok hlane
  have em:(((endN N lane+N.lanes*a.S.came.getD (endN N lane) 0:Nat)):Int)%((N.lanes:Nat):Int)=((endN N lane:Nat):Int):=by
   rw[← Int.natCast_emod,Nat.add_mul_mod_self_left,Nat.mod_eq_of_lt ee]
  refine⟨_,rfl,_,rfl,_,rfl,A1.r,_,0,_,rfl,rfl,SqT.of te10.na.net,rfl,_,_,rfl,rfl,by lia,_,rfl,by show 3≤sizeLine;decide,fun q hq=>?_⟩
  dsimp only
  rw[em]
  have s11:=zaa hq (.tup [.int (endN N lane+N.lanes*a.S.came.getD (endN N lane) 0:Nat),.int (endN N lane:Nat),.int (a.t b)])
  have xl:b<xs.length:=by rw[td10.1];exact bn
  refine⟨_,rfl,_,rfl,lt,_,_,b,rfl,rfl,s11 _ _ hl10,zbW xl,?_⟩
  have hd11:=s11 _ _ hd10
  have hl11:=s11 _ _ hl10
  have ntd:d≠lt:=ne_of hd11 hl11 (fun z=>by cases z)
  have tpl:=Tups.lst (ys:=xs.set b (.ref q)) hl11
  have td12:=((td10.tups (Tups.of s11)).tups tpl).put (b:=b) (v:=.ref q) (o:=some (endN N lane+N.lanes*a.S.came.getD (endN N lane) 0,endN N lane,a.t b)) ⟨q,rfl,tpl _ _ (atNew hq _)⟩
  have te12:TelAt C (L2.upd (L2.upd H10 q (.tup [.int (endN N lane+N.lanes*a.S.came.getD (endN N lane) 0:Nat),.int (endN N lane:Nat),.int (a.t b)])) lt (.lst (xs.set b (.ref q)))) A1 N (outT N a.S b lane):=by
   have te11:=te10.keep s11
   obtain⟨dx,e⟩:=te11.ob
   obtain⟨sp,h1,h2⟩:=te11.hp
   exact⟨⟨dx,by rw[zac (ne_of e hl11 (fun z=>by cases z))];exact e⟩,te11.na.tups tpl,by rw[zac ltA.1.symm];exact te11.hs,⟨sp,by rw[zac ltA.2.1.symm];exact h1,h2.tups tpl⟩,by rw[zac ltA.2.2.1.symm];exact te11.hc,by rw[zac ltA.2.2.2.symm];exact te11.hn,te11.d1,te11.d2,te11.d3,te11.d4,te11.d5,te11.d6⟩
  have u12:Same H (L2.upd (L2.upd H10 q (.tup [.int (endN N lane+N.lanes*a.S.came.getD (endN N lane) 0:Nat),.int (endN N lane:Nat),.int (a.t b)])) lt (.lst (xs.set b (.ref q)))):=fun x u e=>by
   rw[zac (nlt e)];exact(u10.trans s11) x u e
  have hd12:L2.upd (L2.upd H10 q (.tup [.int (endN N lane+N.lanes*a.S.came.getD (endN N lane) 0:Nat),.int (endN N lane:Nat),.int (a.t b)])) lt (.lst (xs.set b (.ref q))) d=_:=(zac ntd).trans hd11
  have hl12:L2.upd (L2.upd H10 q (.tup [.int (endN N lane+N.lanes*a.S.came.getD (endN N lane) 0:Nat),.int (endN N lane:Nat),.int (a.t b)])) lt (.lst (xs.set b (.ref q))) lt=_:=zab
  generalize L2.upd (L2.upd H10 q _) lt (.lst (xs.set b (.ref q)))=H12 at td12 te12 u12 hd12 hl12 ⊢
  refine⟨_,rfl,_,rfl,d,_,.inl (b:Nat),rfl,hd12,rfl,zj4 _ _ _ bm,?_⟩
  rw[zjb]
  refine⟨_,by lia,⟨_,_,_,rfl⟩,_,xs.set b (.ref q),rfl,ch.snoc le ad,pi2,zci te12 hd12 _,?_,(zac ntd.symm).trans hl12,td12.tups fun x u e=>by rw[zac (ne_of e hd12 (fun z=>by cases z))];exact e,sUpd _ u12⟩
  rw[zab]
  show _=some (HO.dK (dkL (wayL (a.S.spots.set b none)) a.t))
  rw[zce]
 ·have hd10:=b10 _ _ hd9 dA.1 dA.2.1 dA.2.2.1 dA.2.2.2
  have hl10:=b10 _ _ hl9 ltA.1 ltA.2.1 ltA.2.2.1 ltA.2.2.2
  have u10:=sBut u9 b10
  have td10:=td9.tups (te9.tupk b10)
  have ad:Adv N (zbE rs) a b _:=⟨lane,k0,hs,.inr ⟨kl,k',nk,rfl⟩⟩
  obtain⟨pi2,pt2⟩:=pi.adv ok ad
  refine⟨_,rfl,rfl,_,rfl,?_⟩
  rw[decide_eq_true rfl]
  refine iteT ?_
  obtain⟨p,hq1,hq2⟩:=(ra.tups (Tups.of u10)).at_ bn
  refine⟨_,rfl,_,rfl,_,rfl,pr,_,_,_,rfl,rfl,SqT.of (u10 _ _ hpr),zah hq1,p,_,2,_,rfl,rfl,SqT.of hq2,rfl,_,_,rfl,rfl,?_⟩
  refine⟨_,rfl,_,rfl,d,_,rfl,DPut.k (k:=.inl (b:Nat)) hd10 (by rw[dl,sizeLine_eq];lia),?_⟩
  have ntd:d≠lt:=ne_of hd10 hl10 (fun z=>by cases z)
  refine⟨_,by lia,⟨_,_,_,rfl⟩,_,xs,rfl,ch.snoc le ad,pi2,zci te10 hd10 _,?_,(zac ntd.symm).trans hl10,td10.tups fun x u e=>by rw[zac (ne_of e hd10 (fun z=>by cases z))];exact e,sUpd _ u10⟩
  rw[zab]
  show _=some (HO.dK (dkL (wayL (a.S.spots.set b (some (onT N a.S b k0,k')))) (put1 a.t b (a.t b+zbE rs b))))
  rw[zd5 hs,← zj5 _ _ _ bm]
  rfl
end
end K98
namespace Bn
open PySem L2 Own
theorem zbY {kvs:List (Key × V)}{k:Key}{v:V}(nd:(kvs.map (·.1)).Nodup) (h:(k,v)∈kvs):valV kvs k=some v:=by
 induction kvs with
 | nil=>cases h
 | cons p r ih =>
  rw[List.map_cons,List.nodup_cons]at nd
  rcases List.mem_cons.mp h with rfl|z
  ·exact zan rfl
  ·rw[zao (fun e=>nd.1 (List.mem_map.mpr ⟨_,z,e.symm⟩))]
   exact ih nd.2 z
theorem zc4:∀ (more kvs:List (Key × V)),((kvs++more).map (·.1)).Nodup→zbJ kvs more=kvs++more
 | [],kvs,_=>(List.append_nil _).symm
 | p::r,kvs,nd=>by
  have e:putK kvs p.1 p.2=kvs++[p]:=zfI fun q hq z=>by
   rw[List.map_append,List.nodup_append]at nd
   exact nd.2.2 _ (List.mem_map.mpr ⟨q,hq,rfl⟩) _ (List.mem_map.mpr ⟨p,.head _,rfl⟩) z
  show zbJ (putK kvs p.1 p.2) r=_
  rw[e,zc4 r (kvs++[p]) (by rw[List.append_assoc];exact nd),List.append_assoc];rfl
structure DueK (H:Hp) (N:Nt) (kvs:List (Key × V)) (a:PSt):Prop where
 nd:(kvs.map (·.1)).Nodup
 mem:∀ p∈kvs,∃ (b:Nat) (q:Addr) (lane k ahead:Nat),p=(.inl (b:Int),.ref q)∧a.S.spots[b]?=some (some (lane,k))∧H q=some (.tup [.int (a.t b),.int (lane:Nat),.int (ahead:Nat)])∧IsNext N.forks lane ahead k
 all:∀ b∈wayL a.S.spots,∃ v,((.inl (b:Int):Key),v)∈kvs
 len:kvs.length≤a.S.spots.length
theorem DueK.tups {H H':Hp}{N:Nt}{kvs:List (Key × V)}{a:PSt}(h:DueK H N kvs a) (t:Tups H H'):DueK H' N kvs a:=⟨h.nd,fun p hp=>by
 obtain⟨b,q,lane,k,ahead,h1,h2,h3,h4⟩:=h.mem p hp
 exact⟨b,q,lane,k,ahead,h1,h2,t _ _ h3,h4⟩,h.all,h.len⟩
theorem DueK.at_ {H:Hp}{N:Nt}{kvs:List (Key × V)}{a:PSt}(h:DueK H N kvs a) {b:Nat}(hb:b∈wayL a.S.spots):∃ (q:Addr) (lane k ahead:Nat),valV kvs (.inl (b:Int))=some (.ref q)∧a.S.spots[b]?=some (some (lane,k))∧H q=some (.tup [.int (a.t b),.int (lane:Nat),.int (ahead:Nat)])∧IsNext N.forks lane ahead k:=by
 obtain⟨v,hv⟩:=h.all b hb
 obtain⟨b',q,lane,k,ahead,h1,h2,h3,h4⟩:=h.mem _ hv
 have e1:(b:Int)=b':=Sum.inl.inj (congrArg Prod.fst h1)
 have eb:b'=b:=by lia
 subst eb
 have e2:v=.ref q:=congrArg Prod.snd h1
 subst e2
 exact⟨q,lane,k,ahead,zbY h.nd hv,h2,h3,h4⟩
theorem DueK.empty {H:Hp}{N:Nt}{a:PSt}(h:DueK H N [] a):wayL a.S.spots=[]:=List.eq_nil_iff_forall_not_mem.mpr fun b hb=>by
 obtain⟨v,hv⟩:=h.all b hb
 exact List.not_mem_nil hv
theorem zaM {kvs:List (Key × V)}{k:Key}{p:Key × V}:p∈zal kvs k↔p∈kvs∧p.1≠k:=by
 unfold zal
 rw[List.mem_filter,decide_eq_true_iff]
theorem zgv {kvs:List (Key × V)}{k:Key}(h:(kvs.map (·.1)).Nodup):((zal kvs k).map (·.1)).Nodup:=by
 unfold zal
 exact h.sublist (List.filter_sublist.map _)
theorem DueK.out {H:Hp}{N:Nt}{kvs:List (Key × V)}{a:PSt}(h:DueK H N kvs a) {b lane:Nat}{told:Nat→Option (Nat × Nat × Int)}:DueK H N (zal kvs (.inl (b:Int))) ⟨outT N a.S b lane,a.t,told⟩:=by
 refine⟨zgv h.nd,fun p hp=>?_,fun c hc=>?_,?_⟩
 ·obtain⟨p1,p2⟩:=zaM.mp hp
  obtain⟨c,q,lane',k,ahead,rfl,h2,h3,h4⟩:=h.mem p p1
  have cb:b≠c:=fun z=>p2 (by rw[z])
  exact⟨c,q,lane',k,ahead,rfl,by show (a.S.spots.set b none)[c]?=_;rw[List.getElem?_set_ne cb];exact h2,h3,h4⟩
 ·replace hc:c∈wayL (a.S.spots.set b none):=hc
  rw[zce,List.mem_filter,decide_eq_true_iff]at hc
  obtain⟨v,hv⟩:=h.all c hc.1
  exact⟨v,zaM.mpr ⟨hv,fun z=>hc.2 (by have:=Sum.inl.inj z;lia)⟩⟩
 ·show _≤(a.S.spots.set b none).length
  rw[List.length_set]
  exact Nat.le_trans (List.length_filter_le _ _) h.len
theorem DueK.go {H:Hp}{N:Nt}{kvs:List (Key × V)}{a:PSt}(h:DueK H N kvs a) {b lane k k':Nat}{t':Nat→Int}{told:Nat→Option (Nat × Nat × Int)}{q:Addr}{m:Int}(hs:a.S.spots[b]?=some (some (lane,k))) (ht:t'=put1 a.t b m) (nk:IsNext N.forks (onT N a.S b k) (k+1) k') (hq:H q=some (.tup [.int m,.int (onT N a.S b k:Nat),.int ((k:Nat)+1)])) :
  DueK H N (putK (zal kvs (.inl (b:Int))) (.inl (b:Int)) (.ref q)) ⟨goT N a.S b k k',t',told⟩:=by
 have bl:=(List.getElem?_eq_some_iff.mp hs).1
 have e:putK (zal kvs (.inl (b:Int))) (.inl (b:Int)) (.ref q)=zal kvs (.inl (b:Int))++[(.inl (b:Int),.ref q)]:=zfI fun p hp=>(zaM.mp hp).2
 rw[e]
 refine⟨?_,fun p hp=>?_,fun c hc=>?_,?_⟩
 ·rw[List.map_append]
  rw[List.nodup_append]
  refine⟨zgv h.nd,List.nodup_cons.mpr ⟨List.not_mem_nil,List.nodup_nil⟩,fun x hx y hy z=>?_⟩
  obtain⟨p,hp,rfl⟩:=List.mem_map.mp hx
  have:=List.mem_singleton.mp hy
  exact(zaM.mp hp).2 (z.trans this)
 ·rcases List.mem_append.mp hp with z|z
  ·obtain⟨p1,p2⟩:=zaM.mp z
   obtain⟨c,r,lane',k2,ahead,rfl,h2,h3,h4⟩:=h.mem p p1
   have cb:b≠c:=fun z=>p2 (by rw[z])
   refine⟨c,r,lane',k2,ahead,rfl,by show (a.S.spots.set b _)[c]?=_;rw[List.getElem?_set_ne cb];exact h2,?_,h4⟩
   show H r=some (.tup [.int (t' c),_,_])
   rw[h3,ht,zaP (fun z=>cb z.symm)]
  ·have:=List.mem_singleton.mp z
   subst this
   refine⟨b,q,onT N a.S b k,k',k+1,rfl,by show (a.S.spots.set b _)[b]?=_;rw[List.getElem?_set_self bl],?_,nk⟩
   show H q=some (.tup [.int (t' b),_,_])
   rw[hq,ht,zaB];rfl
 ·replace hc:c∈wayL (a.S.spots.set b (some (onT N a.S b k,k'))):=hc
  rw[zd5 hs]at hc
  by_cases cb:c=b
  ·subst cb;exact⟨.ref q,List.mem_append.mpr (.inr (List.mem_singleton.mpr rfl))⟩
  ·obtain⟨v,hv⟩:=h.all c hc
   exact⟨v,List.mem_append.mpr (.inl (zaM.mpr ⟨hv,fun z=>cb (by have:=Sum.inl.inj z;lia)⟩))⟩
 ·show _≤(a.S.spots.set b _).length
  rw[List.length_set,List.length_append]
  have l:=h.len
  obtain⟨v,hv⟩:=h.all b (za7.mpr ⟨_,hs⟩)
  have:(zal kvs (.inl (b:Int))).length<kvs.length:=List.length_filter_lt_length_iff_exists.mpr ⟨_,hv,by simp⟩
  show _+1≤_
  lia
def FndK (H:Hp) (kvs:List (Key × V)) (told:Nat→Option (Nat × Nat × Int)):Prop:=∀ (b n e:Nat) (m:Int),told b=some (n,e,m)→∃ q,valV kvs (.inl (b:Int))=some (.ref q)∧H q=some (.tup [.int (n:Nat),.int (e:Nat),.int m])
theorem FndK.tups {H H':Hp}{kvs:List (Key × V)}{told:Nat→Option (Nat × Nat × Int)}(h:FndK H kvs told) (t:Tups H H'):FndK H' kvs told:=fun b n e m z=>by
 obtain⟨q,h1,h2⟩:=h b n e m z
 exact⟨q,h1,t _ _ h2⟩
theorem FndK.put {H:Hp}{kvs:List (Key × V)}{told:Nat→Option (Nat × Nat × Int)}(h:FndK H kvs told) {b n e:Nat}{m:Int}{q:Addr}(hq:H q=some (.tup [.int (n:Nat),.int (e:Nat),.int m])):FndK H (putK kvs (.inl (b:Int)) (.ref q)) (put1 told b (some (n,e,m))):=fun c n' e' m' z=>by
 rw[zgT]
 by_cases cb:c=b
 ·subst cb
  rw[zaB]at z
  cases z
  rw[if_pos rfl]
  exact⟨q,rfl,hq⟩
 ·rw[zaP cb]at z
  rw[if_neg (fun y=>cb (by have:=Sum.inl.inj y;lia))]
  exact h c n' e' m' z
theorem zhX (fs:List (Nat × Nat)) (lane ahead:Nat):∀ j,j≤ahead→lfL fs lane ((ahead:Int)-1) j=[]
 | 0,_=>rfl
 | j+1,h=>by
  rw[zbK,zhX fs lane ahead j (by lia),decide_eq_false (by lia),Bool.false_and,if_neg Bool.false_ne_true];rfl
theorem zho {fs:List (Nat × Nat)}{lane k ahead:Nat}(h:IsNext fs lane ahead k):(k=fs.length→lfL fs lane ((ahead:Int)-1) fs.length=[])∧(k<fs.length→∃ r,lfL fs lane ((ahead:Int)-1) fs.length=k::r) :=
 zi0 (by lia) (by rw[show ((ahead:Int)-1+1).toNat=ahead by lia];exact h)
end Bn
namespace K98
open PySem L2 Own Bn
abbrev ziy:Stmt:=top 37
theorem reps (n:Nat):(List.replicate n [V.int 0]).flatten=nums (List.replicate n 0):=by
 induction n with
 | zero=>rfl
 | succ n ih=>rw[List.replicate_succ,List.flatten_cons,ih,List.replicate_succ];rfl
structure LrAt (H:Hp) (N:Nt) (ltn lcm dd df:Addr) (a:PSt):Prop where
 ht:H ltn=some (.lst (nums a.S.sets))
 hc:H lcm=some (.lst (nums a.S.came))
 hd:∃ kvs,H dd=some (.dK kvs)∧DueK H N kvs a
 hf:∃ kvs,H df=some (.dK kvs)∧FndK H kvs a.told∧kvs.length≤a.S.nms.length
 n1:ltn≠lcm
 n2:dd≠df
theorem LrAt.same {H H':Hp}{N:Nt}{ltn lcm dd df:Addr}{a:PSt}(h:LrAt H N ltn lcm dd df a) (s:Same H H'):LrAt H' N ltn lcm dd df a:=by
 obtain⟨k1,a1,a2⟩:=h.hd
 obtain⟨k2,b1,b2,b3⟩:=h.hf
 exact⟨s _ _ h.ht,s _ _ h.hc,⟨k1,s _ _ a1,a2.tups (Tups.of s)⟩,⟨k2,s _ _ b1,b2.tups (Tups.of s),b3⟩,h.n1,h.n2⟩
theorem ziG (kvs:List (Key × V)) (k:Key) (v:V):(putK kvs k v).length≤kvs.length+1:=by
 unfold putK
 split
 ·rw[List.length_map];lia
 ·rw[List.length_append];exact Nat.le_refl _
def keyN:Key→Int
 | .inl n=>n
 | .inr _=>0
def sel (now:Int) (a:PSt) (kvs:List (Key × V)):List Int:=(kvs.map fun p=>keyN p.1).filter fun n=>decide (a.t n.toNat=now)
theorem zg0 (now:Int) (a:PSt) (kvs:List (Key × V)) {i:Nat}{p:Key × V}(h:kvs[i]?=some p):sel now a (kvs.take (i+1))=sel now a (kvs.take i)++(if decide (a.t (keyN p.1).toNat=now)=true then [keyN p.1] else []):=by
 unfold sel
 rw[List.take_succ,h,Option.toList_some,List.map_append,List.filter_append]
 congr 1
 rw[List.map_cons,List.map_nil,List.filter_cons,List.filter_nil]
theorem zfw (now:Int) (a:PSt) (kvs:List (Key × V)):(sel now a kvs).length≤kvs.length:=Nat.le_trans (List.length_filter_le _ _) (by rw[List.length_map];exact Nat.le_refl _)
theorem zhB {H:Hp}{N:Nt}{kvs:List (Key × V)}{a:PSt}(h:DueK H N kvs a):(kvs.map fun p=>keyN p.1).Nodup:=by
 have e:(kvs.map fun p=>keyN p.1)=(kvs.map (·.1)).map keyN:=by rw[List.map_map];rfl
 rw[e]
 refine List.pairwise_map.mpr (List.Pairwise.imp_of_mem (fun {x y} hx hy n z=>?_) h.nd)
 obtain⟨p,hp,rfl⟩:=List.mem_map.mp hx
 obtain⟨q,hq,rfl⟩:=List.mem_map.mp hy
 obtain⟨b,_,_,_,_,rfl,_⟩:=h.mem p hp
 obtain⟨c,_,_,_,_,rfl,_⟩:=h.mem q hq
 exact n (by have:(b:Int)=c:=z;rw[this])
theorem zhG {H:Hp}{N:Nt}{kvs:List (Key × V)}{a:PSt}{now:Int}{ms:List Int}(h:DueK H N kvs a) (low:∀ b∈wayL a.S.spots,now≤a.t b) (pm:ms.Perm (sel now a kvs)) (so:ms.Pairwise (·≤·)):∃ bs:List Nat,ms=bs.map (fun (b:Nat)=>(b:Int))∧Batch now bs a:=by
 have mm:∀ x∈ms,∃ b:Nat,x=b∧b∈wayL a.S.spots∧a.t b=now:=fun x hx=>by
  obtain⟨m1,m2⟩:=List.mem_filter.mp (pm.mem_iff.mp hx)
  obtain⟨p,hp,rfl⟩:=List.mem_map.mp m1
  obtain⟨b,q,lane,k,ahead,rfl,h2,_⟩:=h.mem p hp
  exact⟨b,rfl,za7.mpr ⟨_,h2⟩,of_decide_eq_true m2⟩
 have nd:ms.Nodup:=pm.nodup_iff.mpr ((zhB h).sublist List.filter_sublist)
 have e:ms=(ms.map Int.toNat).map fun (b:Nat)=>(b:Int):=by
  rw[List.map_map]
  refine(List.map_id ms).symm.trans (List.map_congr_left fun x hx=>?_)
  obtain⟨b,rfl,_⟩:=mm x hx
  rfl
 refine⟨ms.map Int.toNat,e,⟨List.pairwise_map.mpr ?_,fun b hb=>?_,fun c hc=>⟨low c hc,fun z=>?_⟩⟩⟩
 ·refine List.Pairwise.imp_of_mem (fun {x y} hx hy n=>?_) (so.and nd)
  obtain⟨b,rfl,_⟩:=mm x hx
  obtain⟨c,rfl,_⟩:=mm y hy
  have:=n.1
  have:=n.2
  lia
 ·obtain⟨x,hx,rfl⟩:=List.mem_map.mp hb
  obtain⟨b,rfl,h1,h2⟩:=mm x hx
  exact⟨h1,h2⟩
 ·obtain⟨v,hv⟩:=h.all c hc
  refine List.mem_map.mpr ⟨(c:Int),pm.mem_iff.mpr (List.mem_filter.mpr ⟨List.mem_map.mpr ⟨_,hv,rfl⟩,decide_eq_true z⟩),rfl⟩
theorem due0 {H:Hp}{N:Nt}{rs:List RunP}{kvs:List (Key × V)}(l:kvs.length=rs.length) (h:∀ (j:Nat) p,kvs[j]?=some p→∃ q,p=(.inl (j:Int),.ref q)∧H q=some (.tup [.int (rs.getD j default).start,.int ((rs.getD j default).lane:Nat),.int 0])):DueK H N kvs (a0 N rs):=by
 refine⟨List.pairwise_map.mpr (List.pairwise_iff_getElem.mpr fun i j hi hj ij z=>?_),fun p hp=>?_,fun b hb=>?_,by show _≤(zav N rs).length;unfold zav;rw[List.length_map];lia⟩
 ·obtain⟨q,e,_⟩:=h i _ (List.getElem?_eq_getElem hi)
  obtain⟨q',e',_⟩:=h j _ (List.getElem?_eq_getElem hj)
  rw[e,e']at z
  have:=Sum.inl.inj z
  lia
 ·obtain⟨j,jl,e⟩:=List.mem_iff_getElem.mp hp
  obtain⟨q,e1,e2⟩:=h j p (by rw[List.getElem?_eq_getElem jl,e])
  have er:rs[j]?=some (rs.getD j default):=by rw[List.getD_eq_getElem?_getD,List.getElem?_eq_getElem (by lia)];rfl
  exact⟨j,q,_,_,0,e1,zbx N rs er,e2,zf0 _ _⟩
 ·replace hb:b∈wayL (zav N rs):=hb
  rw[way0,List.mem_range]at hb
  obtain⟨q,e1,_⟩:=h b _ (List.getElem?_eq_getElem (by lia:b<kvs.length))
  exact⟨.ref q,e1 ▸ List.getElem_mem _⟩
section
variable {P:Program}{w:World}{K:PySem.W.Frag}{mg:Str→Option Value}{base:Heap}{C:Addr}
theorem scLr:FnScope ["_law_net_here","_law_runs_here","_law_turns","_law_came","_law_due_here","_law_found","_law_now","_law_ball","_law_moment","_law_lane","_law_ahead","_law_some","_law_end","_law_fork"] ["_law_net_here","_law_runs_here"] (zae ziy):=⟨rfl,rfl,rfl,by decide +kernel,rfl,by decide +kernel,by decide +kernel⟩
theorem ziQ {f:Addr}{fd:FuncData}(F:Fun K "_law_ran" "_law_ran" ziy f fd) (G:Mgs mg) (GD:MgD mg):FnOk P w K mg base CX0 1 f fd ["_law_net_here","_law_runs_here"] zdv:=by
 refine F.ok scLr (fun vs H Q E h=>?_) (fun cdv A outer s H vs Q E hr h=>?_)
 ·obtain⟨r,fr,er,ps,N,pr,qs,rs,rfl,_⟩:=h
  rfl
 obtain⟨r,fr,er,ps,N,pr,qs,rs,rfl,ok,na,hpr,ra,r100,rok,k⟩:=h
 refine⟨_,(@pss_cons _ _ _ _ _ (@zjG _ _ 2 3 _ _ _ _ _ _ _ _ _ _ _ rfl scLr.nd rfl rfl (by decide) rfl rfl (@pa_cons _ _ _ _ _ (@pe_op _ _ _ _ _ _ _ _ op_rep (@pe_lst _ _ _ _ (@pa_cons _ _ _ _ _ pe_int pa_nil (by rfl))) (@pe_callB _ _ _ _ _ _ _ _ _ call_len_seq (by rfl) G.len PySem.boot_len (@pa_cons _ _ _ _ _ (@pe_ix _ _ _ _ _ _ _ ix_tup (@pv _ 0 _ _ (by rfl) (by first|exact Or.inl rfl|exact Or.inr (.inl rfl)|exact Or.inr (.inr rfl)) (by decide) (by decide)) pe_int (fun _ _=>rfl)) pa_nil (by rfl)) (by decide) (by decide) (by rfl) (by rfl))) (@pa_cons _ _ _ _ _ (@pe_op _ _ _ _ _ _ _ _ op_rep (@pe_lst _ _ _ _ (@pa_cons _ _ _ _ _ pe_int pa_nil (by rfl))) (@pe_ix _ _ _ _ _ _ _ ix_tup (@pv _ 0 _ _ (by rfl) (by first|exact Or.inl rfl|exact Or.inr (.inl rfl)|exact Or.inr (.inr rfl)) (by decide) (by decide)) pe_int (fun _ _=>rfl))) pa_nil (by rfl)) (by rfl)) (by rfl) (by rfl)) (@pss_cons _ _ _ _ _ (@ps_set _ _ 4 _ _ _ _ scLr.nd rfl (.inr rfl) (@pe_callTy _ _ _ _ _ _ _ _ _ (ze1 rfl) (by rfl) GD.dict (by rfl) (@pa_cons _ _ _ _ _ (@pe_lc _ _ _ _ none _ _ _ (gTup K 2 (gCons (gName 0) (gCons (gName 1) gNil))) _ _ ["_law_ball","_law_run"] [none,none] rfl (@zdE _ _ _ _ _ _ _ _ false rfl G.enum (@pa_cons _ _ _ _ _ (@pv _ 1 _ _ (by rfl) (by first|exact Or.inl rfl|exact Or.inr (.inl rfl)|exact Or.inr (.inr rfl)) (by decide) (by decide)) pa_nil (by rfl)) (by rfl)) (CapOk.of (by kernel_rfl)) (fun _ _ _ _ _=>(@pg_tup _ _ _ _ _ _ rfl (@pgs_cons _ _ _ _ _ (@pg_name _ _ 0 _ (show (["_law_ball","_law_run"]:List Str).Nodup from by decide +kernel) rfl (.inl rfl) (.inr rfl)) (@pgs_cons _ _ _ _ _ (@pg_name _ _ 1 _ (show (["_law_ball","_law_run"]:List Str).Nodup from by decide +kernel) rfl (.inl rfl) (.inr rfl)) pgs_nil (by rfl)) (by rfl)) (by rfl) (by rfl))) (fun _ _ _ _ _=>zbb) (fun _ _ _ _ _=>(@pe_tup _ _ _ _ _ (@pa_cons _ _ _ _ _ (@pv _ 0 _ _ (by rfl) (by first|exact Or.inl rfl|exact Or.inr (.inl rfl)|exact Or.inr (.inr rfl)) (by decide) (by decide)) (@pa_cons _ _ _ _ _ (@pe_tup _ _ _ _ _ (@pa_cons _ _ _ _ _ (@pe_ix _ _ _ _ _ _ (rIxT K) ix_tup (@pv _ 1 _ _ (by rfl) (by first|exact Or.inl rfl|exact Or.inr (.inl rfl)|exact Or.inr (.inr rfl)) (by decide) (by decide)) pe_int (fun _ _=>rfl)) (@pa_cons _ _ _ _ _ (@pe_ix _ _ _ _ _ _ (rIxT K) ix_tup (@pv _ 1 _ _ (by rfl) (by first|exact Or.inl rfl|exact Or.inr (.inl rfl)|exact Or.inr (.inr rfl)) (by decide) (by decide)) pe_int (fun _ _=>rfl)) (@pa_cons _ _ _ _ _ pe_int pa_nil (by rfl)) (by rfl)) (by rfl))) pa_nil (by rfl)) (by rfl)))) (by intro _;rfl)) pa_nil (by rfl)) (by decide) (by decide) (by rfl) (by rfl)) (by rfl) (by first|exact .inl rfl|exact .inr rfl|assumption)) (@pss_cons _ _ _ _ _ (@ps_set _ _ 5 _ _ _ _ scLr.nd rfl (.inr rfl) pe_dnewK (by rfl) (by first|exact .inl rfl|exact .inr rfl|assumption)) (@pss_cons _ _ _ _ _ (@ps_while _ _ _ _ _ _ PassesOwn.never (@pt_cmpR _ _ _ _ _ _ _ _ (op_neDE hr.units0) (@pv _ 4 _ _ (by rfl) (by first|exact Or.inl rfl|exact Or.inr (.inl rfl)|exact Or.inr (.inr rfl)) (by decide) (by decide)) pe_dnewK (nomark _)) (@pss_cons _ _ _ _ _ (@ps_set _ _ 6 _ _ _ _ scLr.nd rfl (.inr rfl) (@pe_callB _ _ _ _ _ _ _ _ _ (call_minB rfl true) (by rfl) G.min (by rfl) (@pa_cons _ _ _ _ _ (@pe_thaw _ _ _ (@pe_lc _ _ _ _ none _ _ _ (gTup K 3 (gCons (gName 0) (gCons (gName 1) (gCons (gName 2) gNil)))) _ _ ["_law_moment","_law_lane","_law_ahead"] [none,none,none] rfl (@zg4 _ _ _ _ _ _ (@pv _ 4 _ _ (by rfl) (by first|exact Or.inl rfl|exact Or.inr (.inl rfl)|exact Or.inr (.inr rfl)) (by decide) (by decide)) (by rfl) (by rfl)) (CapOk.of (by kernel_rfl)) (fun _ _ _ _ _=>(@pg_tup _ _ _ _ _ _ rfl (@pgs_cons _ _ _ _ _ (@pg_name _ _ 0 _ (show (["_law_moment","_law_lane","_law_ahead"]:List Str).Nodup from by decide +kernel) rfl (.inl rfl) (.inr rfl)) (@pgs_cons _ _ _ _ _ (@pg_name _ _ 1 _ (show (["_law_moment","_law_lane","_law_ahead"]:List Str).Nodup from by decide +kernel) rfl (.inl rfl) (.inr rfl)) (@pgs_cons _ _ _ _ _ (@pg_name _ _ 2 _ (show (["_law_moment","_law_lane","_law_ahead"]:List Str).Nodup from by decide +kernel) rfl (.inl rfl) (.inr rfl)) pgs_nil (by rfl)) (by rfl)) (by rfl)) (by rfl) (by rfl))) (fun _ _ _ _ _=>zbb) (fun _ _ _ _ _=>(@pv _ 0 _ _ (by rfl) (by first|exact Or.inl rfl|exact Or.inr (.inl rfl)|exact Or.inr (.inr rfl)) (by decide) (by decide))) (by intro _;rfl))) pa_nil (by rfl)) (by decide) (by decide) (by rfl) (by rfl)) (by rfl) (by first|exact .inl rfl|exact .inr rfl|assumption)) (@pss_one _ _ _ (@ps_for _ _ _ _ _ _ _ _ PassesOwn.never rfl (@pi_list _ _ _ _ (@pe_callB _ _ _ _ _ _ _ _ _ (call_sortedB true) (by rfl) G.sorted (by rfl) (@pa_cons _ _ _ _ _ (@pe_thaw _ _ _ (@pe_lc _ _ _ _ (some _) _ _ _ _ _ _ ["_law_one","_law_now","_law_due_here"] [none,some 6,some 4] rfl (@ziJ _ _ _ _ (@pv _ 4 _ _ (by rfl) (by first|exact Or.inl rfl|exact Or.inr (.inl rfl)|exact Or.inr (.inr rfl)) (by decide) (by decide))) (CapOk.of (by kernel_rfl)) (fun _ _ _ _ _=>(@pg_name _ _ 0 _ (show (["_law_one","_law_now","_law_due_here"]:List Str).Nodup from by decide +kernel) rfl (.inl rfl) (.inr rfl))) (fun _ _ _ _ _=>(@zdC _ _ _ (@pt_cmpR _ _ _ _ _ _ _ _ op_eq (@pe_ix _ _ _ _ _ _ (rIxT K) ix_tup (@zfR _ _ _ _ _ _ hr.u1 (@pv _ 2 _ _ (by rfl) (by first|exact Or.inl rfl|exact Or.inr (.inl rfl)|exact Or.inr (.inr rfl)) (by decide) (by decide)) (@pv _ 0 _ _ (by rfl) (by first|exact Or.inl rfl|exact Or.inr (.inl rfl)|exact Or.inr (.inr rfl)) (by decide) (by decide)) (fun _ _=>rfl)) pe_int (fun _ _=>rfl)) (@pv _ 1 _ _ (by rfl) (by first|exact Or.inl rfl|exact Or.inr (.inl rfl)|exact Or.inr (.inr rfl)) (by decide) (by decide)) (nomark _)))) (fun _ _ _ _ _=>(@pv _ 0 _ _ (by rfl) (by first|exact Or.inl rfl|exact Or.inr (.inl rfl)|exact Or.inr (.inr rfl)) (by decide) (by decide))) (by intro _;rfl))) pa_nil (by rfl)) (by decide) (by decide) (by rfl) (by rfl))) (@pg_name _ _ 7 _ scLr.nd rfl (.inl rfl) (by first|exact .inl rfl|exact .inr rfl|assumption)) (@pss_cons _ _ _ _ _ (@ps_asg _ _ _ _ _ _ (@pe_dpop1 _ _ _ _ _ _ _ (@pv _ 4 _ _ (by rfl) (by first|exact Or.inl rfl|exact Or.inr (.inl rfl)|exact Or.inr (.inr rfl)) (by decide) (by decide)) (@pv _ 7 _ _ (by rfl) (by first|exact Or.inl rfl|exact Or.inr (.inl rfl)|exact Or.inr (.inr rfl)) (by decide) (by decide)) ⟨rfl,rfl,rfl,rfl⟩) (@pg_tup _ _ _ _ _ _ rfl (@pgs_cons _ _ _ _ _ (@pg_name _ _ 8 _ scLr.nd rfl (.inl rfl) (by first|exact .inl rfl|exact .inr rfl|assumption)) (@pgs_cons _ _ _ _ _ (@pg_name _ _ 9 _ scLr.nd rfl (.inr rfl) (by first|exact .inl rfl|exact .inr rfl|assumption)) (@pgs_cons _ _ _ _ _ (@pg_name _ _ 10 _ scLr.nd rfl (.inl rfl) (by first|exact .inl rfl|exact .inr rfl|assumption)) pgs_nil (by rfl)) (by rfl)) (by rfl)) (by rfl) (by rfl)) (by rfl) (by rfl) (by rfl)) (@pss_cons _ _ _ _ _ (@ps_setLC _ 11 _ _ _ _ (some _) _ _ _ _ _ _ _ _ ["_law_k","_law_lane","_law_net_here"] [none,some 9,some 0] scLr.nd rfl rfl rfl (@zfP _ _ _ _ _ _ _ rfl G.range (@pa_cons _ _ _ _ _ (@pv _ 10 _ _ (by rfl) (by first|exact Or.inl rfl|exact Or.inr (.inl rfl)|exact Or.inr (.inr rfl)) (by decide) (by decide)) (@pa_cons _ _ _ _ _ (@pe_callB _ _ _ _ _ _ _ _ _ call_len_seq (by rfl) G.len PySem.boot_len (@pa_cons _ _ _ _ _ (@pe_ix _ _ _ _ _ _ _ ix_tup (@pv _ 0 _ _ (by rfl) (by first|exact Or.inl rfl|exact Or.inr (.inl rfl)|exact Or.inr (.inr rfl)) (by decide) (by decide)) pe_int (fun _ _=>rfl)) pa_nil (by rfl)) (by decide) (by decide) (by rfl) (by rfl)) pa_nil (by rfl)) (by rfl)) (by rfl) (by rfl)) (CapOk.of (by kernel_rfl)) (fun _ _ _ _ _=>(@pg_name _ _ 0 _ (show (["_law_k","_law_lane","_law_net_here"]:List Str).Nodup from by decide +kernel) rfl (.inl rfl) (.inr rfl))) (fun _ _ _ _ _=>(@zdC _ _ _ (@pt_cmpR _ _ _ _ _ _ _ (rIn K false) zfU (@pv _ 1 _ _ (by rfl) (by first|exact Or.inl rfl|exact Or.inr (.inl rfl)|exact Or.inr (.inr rfl)) (by decide) (by decide)) (@pe_ix _ _ _ _ _ _ (rIxT K) ix_tup (@pe_ix _ _ _ _ _ _ (rIxT K) ix_tup (@pv _ 2 _ _ (by rfl) (by first|exact Or.inl rfl|exact Or.inr (.inl rfl)|exact Or.inr (.inr rfl)) (by decide) (by decide)) pe_int (fun _ _=>rfl)) (@pv _ 0 _ _ (by rfl) (by first|exact Or.inl rfl|exact Or.inr (.inl rfl)|exact Or.inr (.inr rfl)) (by decide) (by decide)) (fun _ _=>rfl)) (by rfl)))) (fun _ _ _ _ _=>(@pv _ 0 _ _ (by rfl) (by first|exact Or.inl rfl|exact Or.inr (.inl rfl)|exact Or.inr (.inr rfl)) (by decide) (by decide))) (by intro _;rfl) (by with_unfolding_all rfl)) (@pss_one _ _ _ (@ps_if _ _ _ _ _ _ _ _ (@pt_cmpR _ _ _ _ _ _ _ _ (op_eqLi hr.units0) (@pv _ 11 _ _ (by rfl) (by first|exact Or.inl rfl|exact Or.inr (.inl rfl)|exact Or.inr (.inr rfl)) (by decide) (by decide)) (@pe_lst _ _ _ _ pa_nil) (nomark _)) (@pss_cons _ _ _ _ _ (@ps_set _ _ 12 _ _ _ _ scLr.nd rfl (.inl rfl) (@pe_tidx _ _ _ _ _ _ _ hr.units (@pe_ix _ _ _ _ _ _ _ ix_tup (@pv _ 0 _ _ (by rfl) (by first|exact Or.inl rfl|exact Or.inr (.inl rfl)|exact Or.inr (.inr rfl)) (by decide) (by decide)) pe_int (fun _ _=>rfl)) (@pa_cons _ _ _ _ _ (@pv _ 9 _ _ (by rfl) (by first|exact Or.inl rfl|exact Or.inr (.inl rfl)|exact Or.inr (.inr rfl)) (by decide) (by decide)) pa_nil (by rfl)) (by rfl) (by rfl) (by rfl) (by rfl)) (by rfl) (by first|exact .inl rfl|exact .inr rfl|assumption)) (@pss_cons _ _ _ _ _ (@ps_dput _ _ _ _ _ _ _ _ _ hr.u1 (@pv _ 5 _ _ (by rfl) (by first|exact Or.inl rfl|exact Or.inr (.inl rfl)|exact Or.inr (.inr rfl)) (by decide) (by decide)) (@pv _ 7 _ _ (by rfl) (by first|exact Or.inl rfl|exact Or.inr (.inl rfl)|exact Or.inr (.inr rfl)) (by decide) (by decide)) (@pe_tup _ _ _ _ _ (@pa_cons _ _ _ _ _ (@pe_op _ _ _ _ _ _ _ _ op_add (@pv _ 12 _ _ (by rfl) (by first|exact Or.inl rfl|exact Or.inr (.inl rfl)|exact Or.inr (.inr rfl)) (by decide) (by decide)) (@pe_op _ _ _ _ _ _ _ _ op_mul (@pe_ix _ _ _ _ _ _ _ ix_tup (@pv _ 0 _ _ (by rfl) (by first|exact Or.inl rfl|exact Or.inr (.inl rfl)|exact Or.inr (.inr rfl)) (by decide) (by decide)) pe_int (fun _ _=>rfl)) (@pe_ix _ _ _ _ _ _ _ ix_list (@pv _ 3 _ _ (by rfl) (by first|exact Or.inl rfl|exact Or.inr (.inl rfl)|exact Or.inr (.inr rfl)) (by decide) (by decide)) (@pv _ 12 _ _ (by rfl) (by first|exact Or.inl rfl|exact Or.inr (.inl rfl)|exact Or.inr (.inr rfl)) (by decide) (by decide)) (fun _ _=>rfl)))) (@pa_cons _ _ _ _ _ (@pv _ 12 _ _ (by rfl) (by first|exact Or.inl rfl|exact Or.inr (.inl rfl)|exact Or.inr (.inr rfl)) (by decide) (by decide)) (@pa_cons _ _ _ _ _ (@pv _ 6 _ _ (by rfl) (by first|exact Or.inl rfl|exact Or.inr (.inl rfl)|exact Or.inr (.inr rfl)) (by decide) (by decide)) pa_nil (by rfl)) (by rfl)) (by rfl))) (by rfl)) (@pss_one _ _ _ (@zfL _ _ _ _ _ _ _ _ _ _ _ _ _ (@pv _ 3 _ _ (by rfl) (by first|exact Or.inl rfl|exact Or.inr (.inl rfl)|exact Or.inr (.inr rfl)) (by decide) (by decide)) (@pv _ 12 _ _ (by rfl) (by first|exact Or.inl rfl|exact Or.inr (.inl rfl)|exact Or.inr (.inr rfl)) (by decide) (by decide)) zen pe_int zgm set_list (by intros;rfl))))) (@pss_cons _ _ _ _ _ (@ps_set _ _ 13 _ _ _ _ scLr.nd rfl (.inl rfl) (@pe_ix _ _ _ _ _ _ _ ix_list (@pv _ 11 _ _ (by rfl) (by first|exact Or.inl rfl|exact Or.inr (.inl rfl)|exact Or.inr (.inr rfl)) (by decide) (by decide)) pe_int (fun _ _=>rfl)) (by rfl) (by first|exact .inl rfl|exact .inr rfl|assumption)) (@pss_cons _ _ _ _ _ (@ps_dput _ _ _ _ _ _ _ _ _ hr.u1 (@pv _ 4 _ _ (by rfl) (by first|exact Or.inl rfl|exact Or.inr (.inl rfl)|exact Or.inr (.inr rfl)) (by decide) (by decide)) (@pv _ 7 _ _ (by rfl) (by first|exact Or.inl rfl|exact Or.inr (.inl rfl)|exact Or.inr (.inr rfl)) (by decide) (by decide)) (@pe_tup _ _ _ _ _ (@pa_cons _ _ _ _ _ (@pe_op _ _ _ _ _ _ _ _ op_add (@pv _ 6 _ _ (by rfl) (by first|exact Or.inl rfl|exact Or.inr (.inl rfl)|exact Or.inr (.inr rfl)) (by decide) (by decide)) (@pe_ix _ _ _ _ _ _ _ ix_tup (@pe_ix _ _ _ _ _ _ _ ix_tup (@pv _ 1 _ _ (by rfl) (by first|exact Or.inl rfl|exact Or.inr (.inl rfl)|exact Or.inr (.inr rfl)) (by decide) (by decide)) (@pv _ 7 _ _ (by rfl) (by first|exact Or.inl rfl|exact Or.inr (.inl rfl)|exact Or.inr (.inr rfl)) (by decide) (by decide)) (fun _ _=>rfl)) pe_int (fun _ _=>rfl))) (@pa_cons _ _ _ _ _ (@pe_ix _ _ _ _ _ _ _ ix_tup (@pe_ix _ _ _ _ _ _ _ ix_tup (@pe_ix _ _ _ _ _ _ _ ix_tup (@pv _ 0 _ _ (by rfl) (by first|exact Or.inl rfl|exact Or.inr (.inl rfl)|exact Or.inr (.inr rfl)) (by decide) (by decide)) pe_int (fun _ _=>rfl)) (@pv _ 13 _ _ (by rfl) (by first|exact Or.inl rfl|exact Or.inr (.inl rfl)|exact Or.inr (.inr rfl)) (by decide) (by decide)) (fun _ _=>rfl)) (@pe_ix _ _ _ _ _ _ _ ix_list (@pv _ 2 _ _ (by rfl) (by first|exact Or.inl rfl|exact Or.inr (.inl rfl)|exact Or.inr (.inr rfl)) (by decide) (by decide)) (@pv _ 13 _ _ (by rfl) (by first|exact Or.inl rfl|exact Or.inr (.inl rfl)|exact Or.inr (.inr rfl)) (by decide) (by decide)) (fun _ _=>rfl)) (fun _ _=>rfl)) (@pa_cons _ _ _ _ _ (@pe_op _ _ _ _ _ _ _ _ op_add (@pv _ 13 _ _ (by rfl) (by first|exact Or.inl rfl|exact Or.inr (.inl rfl)|exact Or.inr (.inr rfl)) (by decide) (by decide)) pe_int) pa_nil (by rfl)) (by rfl)) (by rfl))) (by rfl)) (@pss_one _ _ _ (@ps_asg _ _ _ _ _ _ (@pe_op _ _ _ _ _ _ _ _ op_sub pe_int (@pe_ix _ _ _ _ _ _ _ ix_list (@pv _ 2 _ _ (by rfl) (by first|exact Or.inl rfl|exact Or.inr (.inl rfl)|exact Or.inr (.inr rfl)) (by decide) (by decide)) (@pv _ 13 _ _ (by rfl) (by first|exact Or.inl rfl|exact Or.inr (.inl rfl)|exact Or.inr (.inr rfl)) (by decide) (by decide)) (fun _ _=>rfl))) (@pg_sub _ _ _ _ _ _ _ (@pv _ 2 _ _ (by rfl) (by first|exact Or.inl rfl|exact Or.inr (.inl rfl)|exact Or.inr (.inr rfl)) (by decide) (by decide)) (@pv _ 13 _ _ (by rfl) (by first|exact Or.inl rfl|exact Or.inr (.inl rfl)|exact Or.inr (.inr rfl)) (by decide) (by decide)) set_list (by intro _;rfl)) (by rfl) (by rfl) (by rfl))))))))) (by intro _;rfl))))) (@pss_one _ _ _ (@ps_ret _ _ _ _ (@pe_callTy _ _ _ _ _ _ _ _ _ call_tuple_of (by rfl) G.tuple (by rfl) (@pa_cons _ _ _ _ _ (@pe_lc _ _ _ _ none _ _ _ _ _ _ ["_law_ball","_law_found"] [none,some 5] rfl (@zat _ _ _ _ _ _ rfl G.range (@pa_cons _ _ _ _ _ (@pe_callB _ _ _ _ _ _ _ _ _ call_len_seq (by rfl) G.len PySem.boot_len (@pa_cons _ _ _ _ _ (@pv _ 1 _ _ (by rfl) (by first|exact Or.inl rfl|exact Or.inr (.inl rfl)|exact Or.inr (.inr rfl)) (by decide) (by decide)) pa_nil (by rfl)) (by decide) (by decide) (by rfl) (by rfl)) pa_nil (by rfl)) (by rfl)) (CapOk.of (by kernel_rfl)) (fun _ _ _ _ _=>(@pg_name _ _ 0 _ (show (["_law_ball","_law_found"]:List Str).Nodup from by decide +kernel) rfl (.inl rfl) (.inr rfl))) (fun _ _ _ _ _=>zbb) (fun _ _ _ _ _=>(@zfR _ _ _ _ _ _ hr.u1 (@pv _ 1 _ _ (by rfl) (by first|exact Or.inl rfl|exact Or.inr (.inl rfl)|exact Or.inr (.inr rfl)) (by decide) (by decide)) (@pv _ 0 _ _ (by rfl) (by first|exact Or.inl rfl|exact Or.inr (.inl rfl)|exact Or.inr (.inr rfl)) (by decide) (by decide)) (fun _ _=>rfl))) (by intro _;rfl)) pa_nil (by rfl)) (by decide) (by decide) (by rfl) (by rfl)))))))),?_⟩
 have l1:=ok.l1
 have l16:=ok.l16
 have fm:=ok.fm
 have ql:=ra.1
 have pl:=na.prs.len
 have pi0:=pin0 ok fun x hx=>(rok x hx).1
 refine⟨(by show 1≤sizeLine;decide),fun p1 hp1=>?_⟩
 have s1:=zaa hp1 (.lst [.int 0])
 refine⟨_,rfl,r,_,1,_,rfl,rfl,SqT.of (s1 _ _ na.net),rfl,fr,_,rfl,.inr (SqT.of (s1 _ _ na.forks)),p1,ps.length,_,rfl,rfl,zab,by lia,by lia,by show 1*_≤sizeLine;rw[sizeLine_eq];lia,fun ltn hltn=>?_⟩
 rw[Int.toNat_natCast,reps,pl]
 have s2:=zaa hltn (.lst (nums (List.replicate N.forks.length 0)))
 have ht2:=atNew hltn (.lst (nums (List.replicate N.forks.length 0)))
 have u2:=s1.trans s2
 generalize L2.upd _ ltn _=H2 at s2 ht2 u2 ⊢
 refine⟨(by show 1≤sizeLine;decide),fun p3 hp3=>?_⟩
 have s3:=zaa hp3 (.lst [.int 0])
 have u3:=u2.trans s3
 refine⟨_,rfl,r,_,0,_,rfl,rfl,SqT.of (u3 _ _ na.net),rfl,p3,N.lanes,_,rfl,rfl,zab,by lia,by lia,by show 1*_≤sizeLine;rw[sizeLine_eq];lia,fun lcm hlcm=>?_⟩
 rw[Int.toNat_natCast,reps]
 have s4:=zaa hlcm (.lst (nums (List.replicate N.lanes 0)))
 have hc4:=atNew hlcm (.lst (nums (List.replicate N.lanes 0)))
 have n1:ltn≠lcm:=zad (s3 _ _ ht2) hlcm
 have ht4:=s4 _ _ (s3 _ _ ht2)
 have u4:=u3.trans s4
 have fl:∀ {b:Addr}{o:HO},H b=some o→b≠ltn∧b≠lcm:=fun e=>⟨zad (s1 _ _ e) hltn,zad (u3 _ _ e) hlcm⟩
 generalize L2.upd _ lcm _=H4 at s4 hc4 ht4 u4 ⊢
 refine⟨_,_,rfl,?_⟩
 refine⟨_,rfl,pr,qs,rfl,SqT.of (u4 _ _ hpr),fun l0 hl0=>?_⟩
 refine zhq (K:=K) (b:=false) (a:=pr) (xs:=qs) (fun i acc σ H5=>(∃ w0 w1,σ=[w0,w1])∧Same H4 H5∧H5 l0=some (.lst acc)∧∃ kvs,PrK H5 acc kvs∧kvs.length=i∧∀ (j:Nat) p,kvs[j]?=some p→∃ q,p=(.inl (j:Int),.ref q)∧H5 q=some (.tup [.int (rs.getD j default).start,.int ((rs.getD j default).lane:Nat),.int 0])) ⟨⟨_,_,rfl⟩,zaa hl0 _,zab,[],⟨rfl,fun i t e=>by simp at e⟩,rfl,fun j p e=>by simp at e⟩ (fun i acc σ H5 z=>⟨z.2.2.1,SqT.of (z.2.1 _ _ (u4 _ _ hpr))⟩) ?_ ?_
 ·rintro i acc σ H5 x T hx hT ⟨⟨w0,w1,rfl⟩,s5,h5,kvs,pk,kl,ke⟩
  have il:i<qs.length:=(List.getElem?_eq_some_iff.mp hx).1
  obtain⟨q0,e1,e2⟩:=(ra.tups (Tups.of (u4.trans s5))).at_ (by lia:i<rs.length)
  rw[e1]at hx
  obtain rfl:=Option.some.inj hx
  have s6:=zaa hT (.tup [.int (i:Nat),.ref q0])
  have q6:=s6 _ _ e2
  refine⟨T,_,rfl,SqT.of zab,rfl,_,_,rfl,_,_,rfl,rfl,?_⟩
  dsimp only[tYes]
  rw[if_pos rfl]
  refine⟨_,rfl,_,rfl,q0,_,1,_,rfl,rfl,SqT.of q6,rfl,_,rfl,q0,_,0,_,rfl,rfl,SqT.of q6,rfl,by show 3≤sizeLine;decide,fun t1 ht1=>?_⟩
  have s7:=zaa ht1 (.tup [.int (rs.getD i default).start,.int ((rs.getD i default).lane:Nat),.int 0])
  refine⟨by show 2≤sizeLine;decide,fun t2 ht2=>?_⟩
  have s8:=zaa ht2 (.tup [.int (i:Nat),.ref t1])
  have u8:=(s6.trans s7).trans s8
  have h8:=u8 _ _ h5
  have al:acc.length=i:=by rw[pk.1,kl]
  have tl:=Tups.lst (ys:=acc++[.ref t2]) h8
  have tu:=(Tups.of u8).trans tl
  refine⟨h8,by rw[al,sizeLine_eq];lia,nx il ⟨⟨_,_,rfl⟩,fun b o e=>?_,zab,kvs++[(.inl (i:Int),.ref t1)],⟨by rw[List.length_append,List.length_append,pk.1];rfl,fun j y e=>?_⟩,by rw[List.length_append,kl];rfl,fun j p e=>?_⟩⟩
  ·rw[zac (zad e hl0)];exact(s5.trans u8) b o e
  ·by_cases c:j<acc.length
   ·rw[List.getElem?_append_left c]at e
    obtain⟨a',kk,vv,e3,e4,e5⟩:=pk.2 j y e
    exact⟨a',kk,vv,e3,by rw[List.getElem?_append_left (by lia)];exact e4,tu _ _ e5⟩
   ·rw[List.getElem?_append_right (by lia)]at e
    have i0:j-acc.length=0:=by
     have:=(List.getElem?_eq_some_iff.mp e).1
     simp at this;lia
    rw[i0]at e
    obtain rfl:=Option.some.inj e
    exact⟨t2,.inl (i:Int),.ref t1,rfl,by rw[List.getElem?_append_right (by lia),show j-kvs.length=0 by lia];rfl,tl _ _ (atNew ht2 _)⟩
  ·by_cases c:j<kvs.length
   ·rw[List.getElem?_append_left c]at e
    obtain⟨q,e3,e4⟩:=ke j p e
    exact⟨q,e3,tu _ _ e4⟩
   ·rw[List.getElem?_append_right (by lia)]at e
    have i0:j-kvs.length=0:=by
     have:=(List.getElem?_eq_some_iff.mp e).1
     simp at this;lia
    rw[i0]at e
    obtain rfl:=Option.some.inj e
    have ej:j=i:=by lia
    subst ej
    exact⟨t1,rfl,tl _ _ (s8 _ _ (atNew ht1 _))⟩
 rintro acc σ H5 ⟨⟨w0,w1,rfl⟩,s5,h5,kvs0,pk,kl,ke⟩
 refine⟨l0,acc,kvs0,rfl,h5,pk,fun dd hdd=>?_⟩
 have dk5:=due0 (N:=N) (kl.trans ql) ke
 rw[zc4 kvs0 [] (by rw[List.nil_append];exact dk5.nd),List.nil_append]
 have s6:=zaa hdd (.dK kvs0)
 have u6:=(u4.trans s5).trans s6
 have hd6:=atNew hdd (.dK kvs0)
 have ht6:=s6 _ _ (s5 _ _ ht4)
 have hc6:=s6 _ _ (s5 _ _ hc4)
 have dk6:=dk5.tups (Tups.of s6)
 have fdd:∀ {b:Addr}{o:HO},H b=some o→b≠dd:=fun e=>zad ((u4.trans s5) _ _ e) hdd
 generalize L2.upd H5 dd (.dK kvs0)=H6 at s6 u6 hd6 ht6 hc6 dk6 ⊢
 intro df hdf
 have s7:=zaa hdf (.dK [])
 have u7:=u6.trans s7
 have n2:dd≠df:=zad hd6 hdf
 have fdf:∀ {b:Addr}{o:HO},H b=some o→b≠df:=fun e=>zad (u6 _ _ e) hdf
 have lr7:LrAt (L2.upd H6 df (.dK [])) N ltn lcm dd df (a0 N rs):=⟨s7 _ _ ht6,s7 _ _ hc6,⟨kvs0,s7 _ _ hd6,dk6.tups (Tups.of s7)⟩,⟨[],zab,(fun b n e m z=>nomatch z),Nat.zero_le _⟩,n1,n2⟩
 generalize L2.upd H6 df (.dK [])=H7 at s7 u7 lr7 ⊢
 refine⟨fun m σ H8=>(∃ w6 w7 w8 w9 w10 w11 w12 w13,σ=[some (.ref r),some (.ref pr),some (.ref ltn),some (.ref lcm),some (.ref dd),some (.ref df),w6,w7,w8,w9,w10,w11,w12,w13])∧∃ a,m=pot N.forks.length a.S.spots∧Chain N (zbE rs) (a0 N rs) a∧PIn N rs.length a∧LrAt H8 N ltn lcm dd df a∧Same H H8,
  ⟨_,⟨_,_,_,_,_,_,_,_,rfl⟩,a0 N rs,rfl,.nil _,pi0,lr7,u7⟩,?_⟩
 rintro m σ H8 ⟨⟨w6,w7,w8,w9,w10,w11,w12,w13,rfl⟩,a,rfl,ch,pi,lr8,u8⟩
 refine⟨_,rfl,fun e he=>?_⟩
 have s9:=zaa he (.dK [])
 have lr9:=lr8.same s9
 have u9:=u8.trans s9
 have e9:=atNew he (.dK [])
 generalize L2.upd H8 e (.dK [])=H9 at s9 lr9 u9 e9 ⊢
 obtain⟨kvs,hd9,dk9⟩:=lr9.hd
 refine⟨dd,e,kvs,rfl,rfl,hd9,e9,_,rfl,?_⟩
 have pln:=pi.ln
 cases kn:kvs with
 | nil =>
  rw[kn]at dk9
  have we:=dk9.empty
  refine iteF ?_
  obtain⟨kf,hf9,fn9,_⟩:=lr9.hf
  refine⟨_,rfl,pr,_,rfl,.inr (SqT.of (u9 _ _ hpr)),_,rfl,by lia,by lia,fun lq hlq=>?_⟩
  have tln:∀ i,i<rs.length→a.told i≠none:=fun i il=>by
   refine(pi.tl i il).mp ?_
   have ni:i∉wayL a.S.spots:=by rw[we];exact List.not_mem_nil
   cases e:a.S.spots[i]? with
   | none=>rw[List.getElem?_eq_none_iff]at e;lia
   | some o =>
    cases o with
    | none=>rfl
    | some y=>exact absurd (za7.mpr ⟨y,e⟩) ni
  refine zhp (lo:=0) (n:=((qs.length:Nat):Int).toNat) (fun j acc σ H10=>(∃ x0,σ=[x0,some (.ref df)])∧Same H9 H10∧H10 lq=some (.lst acc)∧acc.length=j∧∀ (i:Nat) v,acc[i]?=some v→TldV H10 v (a.told i)) ⟨⟨_,rfl⟩,zaa hlq _,zab,rfl,fun i v e=>by simp at e⟩ (fun j acc σ H10 z=>z.2.2.1) ?_ ?_
  ·rintro j acc σ H10 hj ⟨⟨x0,rfl⟩,s10,h10,al,tv⟩
   have jl:j<rs.length:=by lia
   rw[Int.zero_add]
   cases et:a.told j with
   | none=>exact absurd et (tln j jl)
   | some y =>
    obtain⟨n,e',m⟩:=y
    obtain⟨q,hv,hq⟩:=fn9 j n e' m et
    refine⟨_,rfl,_,rfl,df,.ref q,rfl,hv ▸ DGet.k (k:=.inl (j:Int)) (s10 _ _ hf9),?_⟩
    have tl:=Tups.lst (ys:=acc++[.ref q]) h10
    refine⟨h10,by rw[al,sizeLine_eq];lia,nx hj ⟨⟨_,rfl⟩,fun b o e=>?_,zab,by rw[List.length_append,al];rfl,fun i v e=>?_⟩⟩
    ·rw[zac (zad e hlq)];exact s10 b o e
    ·by_cases c:i<acc.length
     ·rw[List.getElem?_append_left c]at e
      exact(tv i v e).tups tl
     ·rw[List.getElem?_append_right (by lia)]at e
      have i0:i-acc.length=0:=by
       have:=(List.getElem?_eq_some_iff.mp e).1
       simp at this;lia
      rw[i0]at e
      obtain rfl:=Option.some.inj e
      have ej:i=j:=by lia
      subst ej
      rw[et]
      exact⟨q,rfl,tl _ _ (s10 _ _ hq)⟩
  rintro acc σ H10 ⟨⟨x0,rfl⟩,s10,h10,al,tv⟩
  refine⟨lq,_,rfl,.inl ⟨SqL.of h10,fun p hp=>?_⟩⟩
  have s11:=zaa hp (.tup acc)
  exact k p a _ ((u9.trans s10).trans s11) ch we pi ⟨acc,zab,⟨by rw[al];lia,fun i v e=>(tv i v e).tups (Tups.of s11)⟩,tln⟩
 | cons p0 kr =>
  have kpos:0<kvs.length:=by rw[kn];exact Nat.succ_pos _
  refine iteT ?_
  clear kn
  refine⟨_,fun σ' H' h=>h,?_⟩
  refine⟨_,rfl,dd,kvs,rfl,hd9,fun o l hl=>?_⟩
  refine zkB (d:=dd) (o:=o) (kvs:=kvs) (fun i acc σ H10=>(∃ x0 x1 x2,σ=[x0,x1,x2])∧Same (L2.upd H9 dd (.frz o (.dK kvs))) H10∧H10 l=some (.lst acc)∧∃ ns:List Int,acc=ns.map V.int∧ns.length=i∧(∀ n∈ns,∃ b∈wayL a.S.spots,n=a.t b)∧∀ (j:Nat) (b:Nat) v,j<i→kvs[j]?=some (.inl (b:Int),v)→a.t b∈ns) ⟨⟨_,_,_,rfl⟩,zaa hl _,zab,[],rfl,rfl,fun n hn=>(List.not_mem_nil hn).elim,fun j b v jl=>by lia⟩ (fun i acc σ H10 z=>⟨z.2.2.1,z.2.1 _ _ zab⟩) ?_ ?_
  ·rintro i acc σ H10 p hp ⟨⟨x0,x1,x2,rfl⟩,s10,h10,ns,rfl,nl,nb,na'⟩
   have il:i<kvs.length:=(List.getElem?_eq_some_iff.mp hp).1
   obtain⟨b,q,lane,k',ahead,rfl,h2,h3,h4⟩:=dk9.mem p (List.mem_of_getElem? hp)
   have q10:=s10 _ _ (show L2.upd H9 dd (.frz o (.dK kvs)) q=_ by rw[zac (ne_of h3 hd9 (fun z=>by cases z))];exact h3)
   refine⟨q,_,rfl,SqT.of q10,rfl,_,_,rfl,_,_,rfl,_,_,rfl,rfl,_,rfl,?_⟩
   have lk:=dk9.len
   refine⟨h10,by rw[List.length_map,nl,sizeLine_eq];lia,nx il ⟨⟨_,_,_,rfl⟩,fun x u e=>?_,zab,ns++[a.t b],by rw[List.map_append];rfl,by rw[List.length_append,nl];rfl,fun n hn=>?_,fun j c v jl hj=>?_⟩⟩
   ·rw[zac (zad e hl)];exact s10 x u e
   ·rcases List.mem_append.mp hn with z|z
    ·exact nb n z
    ·exact⟨b,za7.mpr ⟨_,h2⟩,List.mem_singleton.mp z⟩
   ·by_cases c':j<i
    ·exact List.mem_append.mpr (.inl (na' j c v c' hj))
    ·have ej:j=i:=by lia
     subst ej
     rw[hp]at hj
     have ec:=Sum.inl.inj (congrArg Prod.fst (Option.some.inj hj))
     rw[show c=b by lia]
     exact List.mem_append.mpr (.inr (List.mem_singleton.mpr rfl))
  rintro acc σ H10 ⟨⟨x0,x1,x2,rfl⟩,s10,h10,ns,rfl,nl,nb,na'⟩
  have hd10:=s10 _ _ (zab (H:=H9) (a:=dd) (o:=.frz o (.dK kvs)))
  refine⟨dd,o,kvs,kvs,hd9,hd10,?_⟩
  have s11:Same H9 (L2.upd H10 dd (.dK kvs)):=fun x u e=>by
   by_cases c:x=dd
   ·subst c;rw[zab];rw[hd9]at e;exact e
   ·rw[zac c];exact s10 _ _ (by rw[zac c];exact e)
  have nld:l≠dd:=by
   rintro rfl
   rw[zab]at hl;cases hl
  have h11:L2.upd H10 dd (.dK kvs) l=some (.lst (ns.map V.int)):=by rw[zac nld];exact h10
  generalize L2.upd H10 dd (.dK kvs)=H11 at s11 h11 ⊢
  clear s10 hd10 hl nld
  refine⟨l,ns,rfl,SqL.of h11,by lia,fun now nm least=>?_⟩
  have low:∀ b∈wayL a.S.spots,now≤a.t b:=fun b hb=>by
   obtain⟨v,hv⟩:=dk9.all b hb
   obtain⟨j,jl,ej⟩:=List.mem_iff_getElem.mp hv
   exact least _ (na' j b v jl (by rw[List.getElem?_eq_getElem jl,ej]))
  obtain⟨b0,b0m,b0e⟩:=nb now nm
  have lr11:=lr9.same s11
  have hd11:=s11 _ _ hd9
  have dk11:=dk9.tups (Tups.of s11)
  have u11:=u9.trans s11
  clear nb na' nm least h11
  refine⟨_,rfl,dd,kvs,rfl,hd11,fun o2 l2 hl2=>?_⟩
  refine zkC (d:=dd) (o:=o2) (kvs:=kvs) (fun i acc σ H12=>(∃ x0,σ=[x0,some (.int now),some (.ref dd)])∧Same (L2.upd H11 dd (.frz o2 (.dK kvs))) H12∧H12 l2=some (.lst acc)∧acc=(sel now a (kvs.take i)).map V.int) ⟨⟨_,rfl⟩,zaa hl2 _,zab,rfl⟩ (fun i acc σ H12 z=>⟨z.2.2.1,z.2.1 _ _ zab⟩) ?_ ?_
  ·rintro i acc σ H12 p hp ⟨⟨x0,rfl⟩,s12,h12,rfl⟩
   have il:i<kvs.length:=(List.getElem?_eq_some_iff.mp hp).1
   obtain⟨b,q,lane,k',ahead,rfl,h2,h3,h4⟩:=dk11.mem p (List.mem_of_getElem? hp)
   have q12:=s12 _ _ (show L2.upd H11 dd (.frz o2 (.dK kvs)) q=_ by rw[zac (ne_of h3 hd11 (fun z=>by cases z))];exact h3)
   have hv:=zbY dk11.nd (List.mem_of_getElem? hp)
   have z12:=s12 _ _ (zab (H:=H11) (a:=dd) (o:=.frz o2 (.dK kvs)))
   have ss:=zg0 now a kvs hp
   have lk:=dk9.len
   have sl:=zfw now a (kvs.take i)
   rw[List.length_take]at sl
   refine⟨_,rfl,_,rfl,dd,.ref q,rfl,.inl ⟨kvs,.inl (b:Int),.inr ⟨o2,z12⟩,rfl,hv.symm⟩,q,_,0,_,rfl,rfl,SqT.of q12,rfl,_,rfl,rfl,_,rfl,?_⟩
   by_cases c:a.t b=now
   ·rw[decide_eq_true (show V.int (a.t b)=V.int now by rw[c])]
    rw[show decide (a.t (keyN (Sum.inl (b:Int):Key)).toNat=now)=true from decide_eq_true c,if_pos rfl]at ss
    refine iteT ⟨_,rfl,h12,by rw[List.length_map,sizeLine_eq];lia,nx il ⟨⟨_,rfl⟩,fun x u e=>?_,zab,?_⟩⟩
    ·rw[zac (zad e hl2)];exact s12 x u e
    ·rw[ss,List.map_append];rfl
   ·rw[decide_eq_false (show ¬ V.int (a.t b)=V.int now from fun z=>c (by injection z))]
    rw[show decide (a.t (keyN (Sum.inl (b:Int):Key)).toNat=now)=false from decide_eq_false c,if_neg Bool.false_ne_true,List.append_nil]at ss
    exact iteF (nx il ⟨⟨_,rfl⟩,s12,h12,by rw[ss]⟩)
  rintro acc σ H12 ⟨⟨x0,rfl⟩,s12,h12,rfl⟩
  rw[List.take_length]at h12
  have hd12:=s12 _ _ (zab (H:=H11) (a:=dd) (o:=.frz o2 (.dK kvs)))
  refine⟨dd,o2,kvs,kvs,hd11,hd12,?_⟩
  have s13:Same H11 (L2.upd H12 dd (.dK kvs)):=fun x u e=>by
   by_cases c:x=dd
   ·subst c;rw[zab];rw[hd11]at e;exact e
   ·rw[zac c];exact s12 _ _ (by rw[zac c];exact e)
  have nld:l2≠dd:=by
   rintro rfl
   rw[zab]at hl2;cases hl2
  have h13:L2.upd H12 dd (.dK kvs) l2=some (.lst ((sel now a kvs).map V.int)):=by rw[zac nld];exact h12
  generalize L2.upd H12 dd (.dK kvs)=H13 at s13 h13 ⊢
  clear s12 hd12 hl2 nld h12
  have lk:=dk9.len
  have sl:=zfw now a kvs
  refine⟨l2,sel now a kvs,rfl,SqL.of h13,by lia,fun lb ms hlb pm so=>?_⟩
  obtain⟨bs,rfl,bt⟩:=zhG dk9 low pm so
  have s14:=zaa hlb (.lst ((bs.map fun (b:Nat)=>(b:Int)).map V.int))
  have lr14:=(lr11.same s13).same s14
  have u14:=(u11.trans s13).trans s14
  have h14:=atNew hlb (.lst ((bs.map fun (b:Nat)=>(b:Int)).map V.int))
  have nlb:∀ {b:Addr}{o:HO},H13 b=some o→lb≠b:=fun e z=>by rw[z,e]at hlb;cases hlb
  have lr13:=lr11.same s13
  have lb1:=nlb lr13.ht
  have lb2:=nlb lr13.hc
  have lb3:lb≠dd:=by obtain⟨x,y,_⟩:=lr13.hd;exact nlb y
  have lb4:lb≠df:=by obtain⟨x,y,_⟩:=lr13.hf;exact nlb y
  generalize L2.upd H13 lb (.lst ((bs.map fun (b:Nat)=>(b:Int)).map V.int))=H14 at s14 lr14 u14 h14 ⊢
  refine⟨lb,rfl,⟨_,SqL.of h14⟩,?_⟩
  have bsp:0<bs.length:=List.length_pos_iff.mpr fun z=>by
   have:=(bt.all b0 b0m).2 b0e.symm
   rw[z]at this;exact List.not_mem_nil this
  refine zhy (K:=K) (a:=lb) (xs:=(bs.map fun (b:Nat)=>(b:Int)).map V.int) (fun j σ H15=>(∃ w7 w8 w9 w10 w11 w12 w13,σ=[some (.ref r),some (.ref pr),some (.ref ltn),some (.ref lcm),some (.ref dd),some (.ref df),some (.int now),w7,w8,w9,w10,w11,w12,w13])∧H15 lb=some (.lst ((bs.map fun (b:Nat)=>(b:Int)).map V.int))∧∃ a',pot N.forks.length a'.S.spots+j≤pot N.forks.length a.S.spots∧Chain N (zbE rs) (a0 N rs) a'∧PIn N rs.length a'∧LrAt H15 N ltn lcm dd df a'∧Same H H15∧Batch now (bs.drop j) a') ⟨⟨_,_,_,_,_,_,_,rfl⟩,h14,a,Nat.le_refl _,ch,pi,lr14,u14,bt⟩ (fun j σ H15 _ z=>SqL.of z.2.1) ?_ ?_
  ·rintro j x σ H15 hx ⟨⟨w7,w8,w9,w10,w11,w12,w13,rfl⟩,h15,a',pt',ch',pi',lr15,u15,bt'⟩
   have jl:j<bs.length:=by
    have:=(List.getElem?_eq_some_iff.mp hx).1
    rwa [List.length_map,List.length_map]at this
   rw[List.getElem?_map,List.getElem?_map,List.getElem?_eq_getElem jl]at hx
   obtain rfl:=Option.some.inj hx
   rw[List.drop_eq_getElem_cons jl]at bt'
   generalize bs[j]=b at bt'
   have le:=bt'.least
   have tb:=(bt'.mem b (.head _)).2
   have bt2:=bt'
   rw[← tb]at bt2
   obtain⟨kv,hd15,dk15⟩:=lr15.hd
   obtain⟨kf,hf15,fn15,kfl⟩:=lr15.hf
   obtain⟨q,lane,k0,ahead,vb,hs,hq15,nk0⟩:=dk15.at_ le.1
   have sp:=pi'.os.sp lane k0 (List.mem_of_getElem? hs)
   have bn:b<rs.length:=by have:=(List.getElem?_eq_some_iff.mp hs).1;have:=pi'.ln;lia
   obtain⟨few1,few2⟩:=pi'.few
   have up:=nk0.upto
   have frm:=nk0.from_
   have na15:=na.tups (Tups.of u15)
   refine⟨_,rfl,dd,rfl,.inl ⟨_,.inl hd15⟩,_,rfl,kv,.inl (b:Int),_,hd15,rfl,vb,?_⟩
   have nqd:q≠dd:=ne_of hq15 hd15 (fun z=>by cases z)
   have tp16:Tups H15 (L2.upd H15 dd (.dK (zal kv (.inl (b:Int))))):=fun x xs e=>by rw[zac (ne_of e hd15 (fun z=>by cases z))];exact e
   have ls16:∀ {x:Addr}{xs:List V},H15 x=some (.lst xs)→L2.upd H15 dd (.dK (zal kv (.inl (b:Int)))) x=some (.lst xs):=fun e=>by rw[zac (ne_of e hd15 (fun z=>by cases z))];exact e
   have ht16:=ls16 lr15.ht
   have hc16:=ls16 lr15.hc
   have hb16:=ls16 h15
   have hf16:L2.upd H15 dd (.dK (zal kv (.inl (b:Int)))) df=some (.dK kf):=by rw[zac lr15.n2.symm];exact hf15
   have hd16:L2.upd H15 dd (.dK (zal kv (.inl (b:Int)))) dd=some (.dK (zal kv (.inl (b:Int)))):=zab
   have u16:Same H (L2.upd H15 dd (.dK (zal kv (.inl (b:Int))))):=fun x u e=>by rw[zac (fdd e)];exact u15 x u e
   have q16:=tp16 _ _ hq15
   have dk16:=dk15.tups tp16
   have fn16:=fn15.tups tp16
   generalize L2.upd H15 dd (.dK (zal kv (.inl (b:Int))))=H16 at tp16 ht16 hc16 hb16 hf16 hd16 u16 q16 dk16 fn16 ⊢
   have na16:=na.tups (Tups.of u16)
   refine⟨q,_,rfl,SqT.of q16,rfl,_,_,rfl,_,_,rfl,_,_,rfl,rfl,?_⟩
   refine⟨_,rfl,_,rfl,r,_,1,_,rfl,rfl,SqT.of na16.net,rfl,fr,_,rfl,.inr (SqT.of na16.forks),_,_,rfl,⟨by lia,by lia,by lia,by lia⟩,fun ll hll=>?_⟩
   refine zgb (lo:=((ahead:Nat):Int)) (n:=(((ps.length:Nat):Int)-((ahead:Nat):Int)).toNat) (fun i acc σ H17=>(∃ x0,σ=[x0,some (.int (lane:Nat)),some (.ref r)])∧Same H16 H17∧H17 ll=some (.lst acc)∧acc=nums (lfL N.forks lane ((ahead:Int)-1) (ahead+i))) ⟨⟨_,rfl⟩,zaa hll _,zab,by rw[Nat.add_zero,zhX _ _ _ _ (Nat.le_refl _)];rfl⟩ (fun i acc σ H17 z=>z.2.2.1) ?_ ?_
   ·rintro i acc σ H17 hi ⟨⟨x0,rfl⟩,s17,h17,rfl⟩
    have ii:ahead+i<ps.length:=by lia
    have na17:=na16.tups (Tups.of s17)
    obtain⟨g,fk,eg,ef,hg⟩:=na17.prs.get (i:=ahead+i) (List.getElem?_eq_getElem ii)
    have hat:ps[ahead+i]?=some (.ref g):=by rw[List.getElem?_eq_getElem ii,eg]
    have ls:=zbK N.forks lane ((ahead:Int)-1) (ahead+i)
    have lln:=zjU N.forks lane ((ahead:Int)-1) (ahead+i)
    rw[decide_eq_true (show ((ahead:Int)-1<((ahead+i:Nat):Int)) by lia),Bool.true_and,List.getD_eq_getElem?_getD,ef]at ls
    replace ls:lfL N.forks lane ((ahead:Int)-1) (ahead+i+1)=lfL N.forks lane ((ahead:Int)-1) (ahead+i)++(if onB lane fk=true then [ahead+i] else []):=ls
    have ci:((ahead:Nat):Int)+((i:Nat):Int)=((ahead+i:Nat):Int):=by lia
    rw[ci]
    refine⟨_,rfl,_,rfl,r,_,1,_,rfl,rfl,SqT.of na17.net,rfl,_,rfl,fr,_,_,_,rfl,rfl,SqT.of na17.forks,zah hat,g,_,rfl,.inr (SqT.of hg),rfl,rfl,_,rfl,?_⟩
    have ei:inV (V.int (lane:Nat)) [V.int (fk.1:Nat),V.int (fk.2:Nat)]=onB lane fk:=by
     unfold inV onB
     rw[List.any_cons,List.any_cons,List.any_nil,Bool.or_false]
     congr 1
     ·exact decide_eq_decide.mpr ⟨fun q=>by lia,fun q=>by lia⟩
     ·exact decide_eq_decide.mpr ⟨fun q=>by lia,fun q=>by lia⟩
    rw[if_neg Bool.false_ne_true,ei]
    cases on:onB lane fk with
    | true =>
     rw[on,if_pos rfl]at ls
     refine iteT ⟨_,rfl,h17,by rw[zag,sizeLine_eq];lia,nx hi ⟨⟨_,rfl⟩,fun x u e=>?_,zab,?_⟩⟩
     ·rw[zac (zad e hll)];exact s17 x u e
     ·rw[← Nat.add_assoc,ls];unfold nums;rw[List.map_append];rfl
    | false =>
     rw[on,if_neg Bool.false_ne_true,List.append_nil]at ls
     exact iteF (nx hi ⟨⟨_,rfl⟩,s17,h17,by rw[← Nat.add_assoc,ls]⟩)
   rintro acc σ H17 ⟨⟨x0,rfl⟩,s17,h17,rfl⟩
   rw[show ahead+(((ps.length:Nat):Int)-((ahead:Nat):Int)).toNat=N.forks.length by lia]at h17
   obtain⟨ln1,ln2⟩:=zho nk0
   have ht17:=s17 _ _ ht16
   have hc17:=s17 _ _ hc16
   have hb17:=s17 _ _ hb16
   have hf17:=s17 _ _ hf16
   have hd17:=s17 _ _ hd16
   have u17:=u16.trans s17
   have dk17:=dk16.tups (Tups.of s17)
   have fn17:=fn16.tups (Tups.of s17)
   refine⟨_,rfl,by show 0≤sizeLine;decide,fun le0 hle0=>?_⟩
   have s18:=zaa hle0 (.lst [])
   have h18:=s18 _ _ h17
   have e18:=atNew hle0 (.lst [])
   have ht18:=s18 _ _ ht17
   have hc18:=s18 _ _ hc17
   have hb18:=s18 _ _ hb17
   have hf18:=s18 _ _ hf17
   have hd18:=s18 _ _ hd17
   have u18:=u17.trans s18
   have dk18:=dk17.tups (Tups.of s18)
   have fn18:=fn17.tups (Tups.of s18)
   generalize L2.upd H17 le0 (.lst [])=H18 at s18 h18 e18 ht18 hc18 hb18 hf18 hd18 u18 dk18 fn18 ⊢
   have na18:=na.tups (Tups.of u18)
   clear h17 ht17 hc17 hb17 hf17 hd17 u17 dk17 fn17 ht16 hc16 hb16 hf16 hd16 u16 dk16 fn16 s17 s18
   refine⟨ll,le0,(lfL N.forks lane ((ahead:Int)-1) N.forks.length).map (fun (i:Nat)=>(i:Int)),[],rfl,rfl,SqL.of (by rw[h18,List.map_map];rfl),SqL.of e18,_,rfl,?_⟩
   by_cases kf0:k0=N.forks.length
   ·dsimp only
    rw[ln1 kf0]
    refine iteT ?_
    have he:=na18.ends
    rw[zej]at he
    have lm:lane∈N.ends:=ok.en.mem_iff.mpr (List.mem_range.mpr sp.1)
    have ee:endN N lane<N.lanes:=zep ok sp.1
    have il:endN N lane<a'.S.came.length:=by rw[pi'.os.cl];exact ee
    refine⟨_,rfl,r,_,2,_,rfl,rfl,SqT.of na18.net,rfl,er,_,rfl,he,_,rfl,(lane:Int),rfl,he,List.mem_map.mpr ⟨lane,lm,rfl⟩,?_⟩
    rw[zcC]
    have at1:=zbr a'.S.came (endN N lane) il
    have cm:=few2 (endN N lane) ee
    have ie:N.ends.idxOf lane=endN N lane:=rfl
    rw[ie]
    refine⟨_,rfl,_,rfl,r,_,0,_,rfl,rfl,SqT.of na18.net,rfl,_,rfl,_,rfl,lcm,_,_,_,rfl,rfl,SqL.of hc18,zah at1,_,_,rfl,rfl,.inl ⟨by lia,by lia⟩,_,_,rfl,rfl,_,rfl,_,rfl,by show 3≤sizeLine;decide,fun q2 hq2=>?_⟩
    have ev:((endN N lane:Nat):Int)+((N.lanes:Nat):Int)*((a'.S.came.getD (endN N lane) 0:Nat):Int)=((endN N lane+N.lanes*a'.S.came.getD (endN N lane) 0:Nat):Int):=by rw[Int.natCast_add,Int.natCast_mul]
    dsimp only
    rw[ev,← tb]
    have s19:=zaa hq2 (.tup [.int (endN N lane+N.lanes*a'.S.came.getD (endN N lane) 0:Nat),.int (endN N lane:Nat),.int (a'.t b)])
    have t19:=atNew hq2 (.tup [.int (endN N lane+N.lanes*a'.S.came.getD (endN N lane) 0:Nat),.int (endN N lane:Nat),.int (a'.t b)])
    have ht19:=s19 _ _ ht18
    have hc19:=s19 _ _ hc18
    have hb19:=s19 _ _ hb18
    have hf19:=s19 _ _ hf18
    have hd19:=s19 _ _ hd18
    have u19:=u18.trans s19
    have dk19:=dk18.tups (Tups.of s19)
    have fn19:=(fn18.tups (Tups.of s19)).put (b:=b) t19
    generalize L2.upd H18 q2 _=H19 at s19 t19 ht19 hc19 hb19 hf19 hd19 u19 dk19 fn19 ⊢
    refine⟨_,rfl,_,rfl,df,_,rfl,DPut.k (k:=.inl (b:Int)) hf19 (by rw[sizeLine_eq];lia),?_⟩
    have ndf:dd≠df:=lr15.n2
    have tp20:Tups H19 (L2.upd H19 df (.dK (putK kf (.inl (b:Int)) (.ref q2)))):=fun x xs e=>by rw[zac (ne_of e hf19 (fun z=>by cases z))];exact e
    have ls20:∀ {x:Addr}{xs:List V},H19 x=some (.lst xs)→L2.upd H19 df (.dK (putK kf (.inl (b:Int)) (.ref q2))) x=some (.lst xs):=fun e=>by rw[zac (ne_of e hf19 (fun z=>by cases z))];exact e
    have ht20:=ls20 ht19
    have hc20:=ls20 hc19
    have hb20:=ls20 hb19
    have hd20:L2.upd H19 df (.dK (putK kf (.inl (b:Int)) (.ref q2))) dd=_:=(zac ndf).trans hd19
    have hf20:L2.upd H19 df (.dK (putK kf (.inl (b:Int)) (.ref q2))) df=_:=zab
    have u20:Same H (L2.upd H19 df (.dK (putK kf (.inl (b:Int)) (.ref q2)))):=fun x u e=>by rw[zac (fdf e)];exact u19 x u e
    have dk20:=dk19.tups tp20
    have fn20:=fn19.tups tp20
    generalize L2.upd H19 df (.dK (putK kf (.inl (b:Int)) (.ref q2)))=H20 at tp20 ht20 hc20 hb20 hd20 hf20 u20 dk20 fn20 ⊢
    refine⟨_,rfl,_,rfl,lcm,_,endN N lane,_,rfl,rfl,SqL.of hc20,at1,_,_,rfl,rfl,lcm,_,_,endN N lane,rfl,rfl,hc20,zbW (by rw[zag];exact il),?_⟩
    have e1:((a'.S.came.getD (endN N lane) 0:Nat):Int)+1=((a'.S.came.getD (endN N lane) 0+1:Nat):Int):=by lia
    dsimp only
    rw[e1,zbq]
    have ad:Adv N (zbE rs) a' b _:=⟨lane,k0,hs,.inl ⟨kf0,rfl⟩⟩
    obtain⟨pi2,pt2⟩:=pi'.adv ok ad
    have tp21:=Tups.lst (ys:=nums (a'.S.came.set (endN N lane) (a'.S.came.getD (endN N lane) 0+1))) hc20
    have pb:=(rok _ (List.mem_of_getElem? (show rs[b]?=some (rs.getD b default) by rw[List.getD_eq_getElem?_getD,List.getElem?_eq_getElem bn];rfl))).2
    refine⟨⟨_,_,_,_,_,_,_,rfl⟩,(zac lb2).trans hb20,_,by lia,ch'.snoc le ad,pi2,⟨(zac n1).trans ht20,zab,⟨_,(zac (ne_of hd20 hc20 (fun z=>by cases z))).trans hd20,(dk20.tups tp21).out⟩,⟨_,(zac (ne_of hf20 hc20 (fun z=>by cases z))).trans hf20,fn20.tups tp21,?_⟩,n1,ndf⟩,fun x u e=>?_,bt2.next pb ad⟩
    ·have:=ziG kf (.inl (b:Int)) (.ref q2)
     show _≤(a'.S.nms++[_]).length
     rw[List.length_append]
     show _≤a'.S.nms.length+1
     lia
    ·rw[zac (fl e).2];exact u20 x u e
   ·have kl:k0<N.forks.length:=by lia
    obtain⟨rest,er'⟩:=ln2 kl
    dsimp only
    rw[er',decide_eq_false (by simp)]
    refine iteF ?_
    have h18':H18 ll=some (.lst (.int (k0:Nat)::nums rest)):=by rw[h18,er'];rfl
    have ks:k0<a'.S.sets.length:=by rw[pi'.os.sl];exact kl
    have at1:=zbr a'.S.sets k0 ks
    have t2:a'.S.sets.getD k0 0<2:=by
     rw[List.getD_eq_getElem?_getD,List.getElem?_eq_getElem ks]
     exact pi'.os.sv _ (List.getElem_mem ks)
    obtain⟨g,fk,eg,ef,hg⟩:=na18.prs.get (i:=k0) (List.getElem?_eq_getElem (show k0<ps.length by lia))
    have hat:ps[k0]?=some (.ref g):=by rw[List.getElem?_eq_getElem (show k0<ps.length by lia),eg]
    have eon:onT N a'.S b k0=if a'.S.sets.getD k0 0=0 then fk.1 else fk.2:=by
     unfold onT
     rw[List.getD_eq_getElem?_getD (l:=N.forks),ef];rfl
    have at2:=zhK fk _ t2
    rw[← eon]at at2
    obtain⟨p,hq1,hq2'⟩:=(ra.tups (Tups.of u18)).at_ bn
    refine⟨_,rfl,ll,_,_,_,rfl,rfl,SqL.of h18',(zah (j:=0) rfl:atI _ ((0:Nat):Int)=_),?_⟩
    refine⟨_,rfl,_,rfl,_,rfl,pr,_,_,_,rfl,rfl,SqT.of (u18 _ _ hpr),zah hq1,p,_,2,_,rfl,rfl,SqT.of hq2',rfl,_,_,rfl,rfl,_,rfl,r,_,1,_,rfl,rfl,SqT.of na18.net,rfl,_,rfl,fr,_,_,_,rfl,rfl,SqT.of na18.forks,zah hat,_,rfl,_,rfl,ltn,_,_,_,rfl,rfl,SqL.of ht18,zah at1,g,_,_,_,rfl,rfl,SqT.of hg,zah at2,_,rfl,_,_,rfl,rfl,by show 3≤sizeLine;decide,fun q2 hq2=>?_⟩
    dsimp only
    rw[← tb]
    have s19:=zaa hq2 (.tup [.int (a'.t b+(rs.getD b default).pace),.int (onT N a'.S b k0:Nat),.int ((k0:Nat)+1)])
    have t19:=atNew hq2 (.tup [.int (a'.t b+(rs.getD b default).pace),.int (onT N a'.S b k0:Nat),.int ((k0:Nat)+1)])
    have ht19:=s19 _ _ ht18
    have hc19:=s19 _ _ hc18
    have hb19:=s19 _ _ hb18
    have hf19:=s19 _ _ hf18
    have hd19:=s19 _ _ hd18
    have u19:=u18.trans s19
    obtain⟨k',nk⟩:=zdK N.forks (onT N a'.S b k0) (k0+1) (by lia)
    have dk19:=(dk18.tups (Tups.of s19)).go (told:=a'.told) (t':=put1 a'.t b (a'.t b+zbE rs b)) hs rfl nk t19
    have fn19:=fn18.tups (Tups.of s19)
    generalize L2.upd H18 q2 _=H19 at s19 t19 ht19 hc19 hb19 hf19 hd19 u19 dk19 fn19 ⊢
    have dl:(zal kv (.inl (b:Int))).length≤kv.length:=List.length_filter_le _ _
    have kvl:=dk15.len
    have pln':=pi'.ln
    refine⟨_,rfl,_,rfl,dd,_,rfl,DPut.k (k:=.inl (b:Int)) hd19 (by rw[sizeLine_eq];lia),?_⟩
    have ndf:dd≠df:=lr15.n2
    have tp20:Tups H19 (L2.upd H19 dd (.dK (putK (zal kv (.inl (b:Int))) (.inl (b:Int)) (.ref q2)))):=fun x xs e=>by rw[zac (ne_of e hd19 (fun z=>by cases z))];exact e
    have ls20:∀ {x:Addr}{xs:List V},H19 x=some (.lst xs)→L2.upd H19 dd (.dK (putK (zal kv (.inl (b:Int))) (.inl (b:Int)) (.ref q2))) x=some (.lst xs):=fun e=>by rw[zac (ne_of e hd19 (fun z=>by cases z))];exact e
    have ht20:=ls20 ht19
    have hc20:=ls20 hc19
    have hb20:=ls20 hb19
    have hd20:L2.upd H19 dd (.dK (putK (zal kv (.inl (b:Int))) (.inl (b:Int)) (.ref q2))) dd=_:=zab
    have hf20:L2.upd H19 dd (.dK (putK (zal kv (.inl (b:Int))) (.inl (b:Int)) (.ref q2))) df=_:=(zac ndf.symm).trans hf19
    have u20:Same H (L2.upd H19 dd (.dK (putK (zal kv (.inl (b:Int))) (.inl (b:Int)) (.ref q2)))):=fun x u e=>by rw[zac (fdd e)];exact u19 x u e
    have dk20:=dk19.tups tp20
    have fn20:=fn19.tups tp20
    generalize L2.upd H19 dd (.dK (putK (zal kv (.inl (b:Int))) (.inl (b:Int)) (.ref q2)))=H20 at tp20 ht20 hc20 hb20 hd20 hf20 u20 dk20 fn20 ⊢
    refine⟨_,rfl,_,rfl,ltn,_,_,_,rfl,rfl,SqL.of ht20,zah at1,_,_,rfl,rfl,?_⟩
    refine⟨_,rfl,_,rfl,ltn,_,_,k0,rfl,rfl,ht20,zbW (by rw[zag];exact ks),?_⟩
    have e1:(1:Int)-((a'.S.sets.getD k0 0:Nat):Int)=((1-a'.S.sets.getD k0 0:Nat):Int):=by lia
    dsimp only
    rw[e1,zbq]
    have ad:Adv N (zbE rs) a' b _:=⟨lane,k0,hs,.inr ⟨kl,k',nk,rfl⟩⟩
    obtain⟨pi2,pt2⟩:=pi'.adv ok ad
    have tp21:=Tups.lst (ys:=nums (a'.S.sets.set k0 (1-a'.S.sets.getD k0 0))) ht20
    have pb:=(rok _ (List.mem_of_getElem? (show rs[b]?=some (rs.getD b default) by rw[List.getD_eq_getElem?_getD,List.getElem?_eq_getElem bn];rfl))).2
    refine⟨⟨_,_,_,_,_,_,_,rfl⟩,(zac lb1).trans hb20,_,by lia,ch'.snoc le ad,pi2,⟨zab,(zac n1.symm).trans hc20,⟨_,(zac (ne_of hd20 ht20 (fun z=>by cases z))).trans hd20,dk20.tups tp21⟩,⟨_,(zac (ne_of hf20 ht20 (fun z=>by cases z))).trans hf20,fn20.tups tp21,kfl⟩,n1,ndf⟩,fun x u e=>?_,bt2.next pb ad⟩
    rw[zac (fl e).1];exact u20 x u e
  ·rintro σ H15 ⟨⟨w7,w8,w9,w10,w11,w12,w13,rfl⟩,_,a',pt',ch',pi',lr15,u15,_⟩
   rw[List.length_map,List.length_map]at pt'
   exact⟨_,by lia,⟨_,_,_,_,_,_,_,_,rfl⟩,a',rfl,ch',pi',lr15,u15⟩
end
end K98
namespace L2
open PySem PySem.Spec PyProof.Rows
abbrev e2 (elt tg iter tg1 iter1:Expr) (ifs:List Expr) (scope:Scope) (pos:Pos):Expr:=.ListComp elt [⟨tg,iter,[],0⟩,⟨tg1,iter1,ifs,0⟩] scope pos
theorem zfh (elt tg iter tg1 iter1:Expr) (ifs:List Expr) (scope:Scope) (pos:Pos) (it acc:Value) (env:Env) :
  compTurn (e2 elt tg iter tg1 iter1 ifs scope pos) 0 it acc env=(standAt iter.pos >>= fun _=>pyNext it >>= fun r=>match r with
   | none=>pure (.done .next)
   | some v=>letOwnedTupleGo tg it v >>= fun _=>assign tg env v >>= fun _ =>
    (eval iter1 env >>= fun x=>standAt iter1.pos >>= fun _=>foldedSetIterable iter1 env x >>= fun x=>holding [x] (pyIter x) >>= fun i1=>runOwn (.compStart (e2 elt tg iter tg1 iter1 ifs scope pos) 1 i1 acc env) env >>= fun _ =>
     again (.compLoop (e2 elt tg iter tg1 iter1 ifs scope pos) 0 it acc env))):=by rfl
theorem zfg (elt tg iter tg1 iter1:Expr) (scope:Scope) (pos:Pos) (it acc:Value) (env:Env) :
  compTurn (e2 elt tg iter tg1 iter1 [] scope pos) 1 it acc env=(standAt iter1.pos >>= fun _=>pyNext it >>= fun r=>match r with
   | none=>pure (.done .next)
   | some v=>letOwnedTupleGo tg1 it v >>= fun _=>assign tg1 env v >>= fun _ =>
    ((eval elt env >>= fun x=>call (.builtin "list.append") [acc,x] >>= fun _=>pure ()) >>= fun _ =>
     again (.compLoop (e2 elt tg iter tg1 iter1 [] scope pos) 1 it acc env))):=by rfl
theorem zey (elt tg iter tg1 iter1 c:Expr) (scope:Scope) (pos:Pos) (it acc:Value) (env:Env) :
  compTurn (e2 elt tg iter tg1 iter1 [c] scope pos) 1 it acc env=(standAt iter1.pos >>= fun _=>pyNext it >>= fun r=>match r with
   | none=>pure (.done .next)
   | some v=>letOwnedTupleGo tg1 it v >>= fun _=>assign tg1 env v >>= fun _=>(forIn [c] true fun c r=>if r=true then (isTrue c env (eval c env) >>= fun ok=>pure (ForInStep.yield ok)) else pure (ForInStep.yield r)) >>= fun ok =>
    if ok=true then
    ((eval elt env >>= fun x=>call (.builtin "list.append") [acc,x] >>= fun _=>pure ()) >>= fun _ =>
     again (.compLoop (e2 elt tg iter tg1 iter1 [c] scope pos) 1 it acc env)) else again (.compLoop (e2 elt tg iter tg1 iter1 [c] scope pos) 1 it acc env)):=by rfl
section
variable {prog:Program}{w:World}{A:Around}{R:Result→Shared→Prop}{s:Shared}{elt tg iter tg1 iter1:Expr}{scope:Scope}{pos:Pos}{it acc:Value}{env:Env}
theorem zdZ {ifs:List Expr}
  (h0:codeAny (model prog w) A (.compLoop (e2 elt tg iter tg1 iter1 ifs scope pos) 1 it acc env) R s)
  (h:wpAny (model prog w) A (pyIter it) (fun i2 z=>codeAny (model prog w) A (.compLoop (e2 elt tg iter tg1 iter1 ifs scope pos) 1 i2 acc env) R z) NoX s) :
  codeAny (model prog w) A (.compStart (e2 elt tg iter tg1 iter1 ifs scope pos) 1 it acc env) R s:=by
 refine codeAny_of_tree ?_
 show wpAny _ A ((compStart (e2 elt tg iter tg1 iter1 ifs scope pos) 1 it acc env).onRaise (fun x=>do noteFrame x env;standAt theWindowsPlace)) _ _ s
 refine wpAny_notedAt ?_
 unfold compStart
 refine(show wpAny _ _ (ask >>= _) _ _ s from wpAny_bind (wpAny_askSetting (wpAny_ite ?_)))
 split
 ·first
   | exact wpAny_bind (wpAny_pure (wpAny_pure ⟨rfl,h0⟩))
   | exact wpAny_pure ⟨rfl,h0⟩
 ·apply wpAny_bind;refine wpAny_rule ?_
  first
   | exact wpAny_bind (wpAny_standAt (wpAny_bind (wpAny_mono h (fun it' s' h'=>wpAny_pure ⟨rfl,h'⟩) fun _ _ z=>z.elim)))
   | (show wpAny _ _ (standAt iter1.pos >>= _) _ _ s;exact wpAny_bind (wpAny_standAt (wpAny_bind (wpAny_mono h (fun it' s' h'=>wpAny_pure ⟨rfl,h'⟩) fun _ _ z=>z.elim))))
theorem zfd {o:Option Expr}(J:Nat→Shared→Prop)
  (turn:∀ n s,J n s→Go (model prog w) A tg1 elt o it acc env R (fun z=>∃ m,m<n∧J m z) s) (n:Nat) (h:J n s) :
  codeAny (model prog w) A (.compLoop (.ListComp elt [⟨tg,iter,[],0⟩,⟨tg1,iter1,o.toList,0⟩] scope pos) 1 it acc env) R s:=by
 cases o with
 | none =>
  refine codeAny_loop rfl J (fun n s hI=>?_) n h
  show wpAny _ A ((compTurn (e2 elt tg iter tg1 iter1 [] scope pos) 1 it acc env).onRaise (fun x=>do noteFrame x env;theTreesLotGoes x)) _ _ s
  refine wpAny_noted ?_
  rw[zfg]
  refine wpAny_bind (wpAny_standAt (wpAny_bind (wpAny_mono (turn n s hI) (fun r a h1=>?_) fun _ _ z=>z.elim)))
  cases r with
  | none=>exact wpAny_pure h1
  | some v =>
   refine wpAny_bind (wpAny_mono h1 (fun _ b h2=>?_) fun _ _ z=>z.elim)
   refine wpAny_bind (wpAny_mono h2 (fun _ c h3=>?_) fun _ _ z=>z.elim)
   have h3':wpAny (model prog w) A (eval elt env) (fun x e=>wpAny (model prog w) A (call (.builtin "list.append") [acc,x]) (fun _ f=>∃ m,m<n∧J m f) NoX e) NoX c:=h3
   exact wpAny_bind (wpAny_bind (wpAny_mono h3' (fun x d h4=>wpAny_bind (wpAny_mono h4 (fun _ e h5=>wpAny_pure (wpAny_pure ⟨rfl,h5⟩)) fun _ _ z=>z.elim)) fun _ _ z=>z.elim))
 | some t =>
  refine codeAny_loop rfl J (fun n s hI=>?_) n h
  show wpAny _ A ((compTurn (e2 elt tg iter tg1 iter1 [t] scope pos) 1 it acc env).onRaise (fun x=>do noteFrame x env;theTreesLotGoes x)) _ _ s
  refine wpAny_noted ?_
  rw[zey]
  refine wpAny_bind (wpAny_standAt (wpAny_bind (wpAny_mono (turn n s hI) (fun r a h1=>?_) fun _ _ z=>z.elim)))
  cases r with
  | none=>exact wpAny_pure h1
  | some v =>
   refine wpAny_bind (wpAny_mono h1 (fun _ b h2=>?_) fun _ _ z=>z.elim)
   refine wpAny_bind (wpAny_mono h2 (fun _ c h3=>?_) fun _ _ z=>z.elim)
   have h3':wpAny (model prog w) A (isTrue t env (eval t env)) (fun yes d=>if yes=true then wpAny (model prog w) A (eval elt env) (fun x e=>wpAny (model prog w) A (call (.builtin "list.append") [acc,x]) (fun _ f=>∃ m,m<n∧J m f) NoX e) NoX d else ∃ m,m<n∧J m d) NoX c:=h3
   refine wpAny_bind (wpAny_tests_one (wpAny_mono h3' (fun yes d h4=>?_) fun _ _ z=>z.elim))
   cases yes with
   | false=>exact wpAny_pure ⟨rfl,h4⟩
   | true=>exact wpAny_bind (wpAny_bind (wpAny_mono h4 (fun x e h5=>wpAny_bind (wpAny_mono h5 (fun _ f h6=>wpAny_pure (wpAny_pure ⟨rfl,h6⟩)) fun _ _ z=>z.elim)) fun _ _ z=>z.elim))
theorem zfe {ifs:List Expr}(J:Nat→Shared→Prop)
  (turn:∀ n s,J n s→wpAny (model prog w) A (pyNext it) (fun r a=>match r with
   | none=>R (.ok .next) a
   | some v=>wpAny (model prog w) A (letOwnedTupleGo tg it v) (fun _ b=>wpAny (model prog w) A (assign tg env v) (fun _ c=>wpAny (model prog w) A (eval iter1 env) (fun x d=>wpAny (model prog w) A (pyIter x) (fun i1 e =>
     codeAny (model prog w) A (.compStart (e2 elt tg iter tg1 iter1 ifs scope pos) 1 i1 acc env) (fun r f=>match r with|.ok _=>∃ m,m<n∧J m f|.error _=>False) e) NoX d) NoX c) NoX b) NoX a) NoX s) (n:Nat) (h:J n s)
  (hs:∀ x,foldedSetIterable iter1 env x=pure x) :
  codeAny (model prog w) A (.compLoop (e2 elt tg iter tg1 iter1 ifs scope pos) 0 it acc env) R s:=by
 refine codeAny_loop rfl J (fun n s hI=>?_) n h
 show wpAny _ A ((compTurn (e2 elt tg iter tg1 iter1 ifs scope pos) 0 it acc env).onRaise (fun x=>do noteFrame x env;theTreesLotGoes x)) _ _ s
 refine wpAny_noted ?_
 rw[zfh]
 refine wpAny_bind (wpAny_standAt (wpAny_bind (wpAny_mono (turn n s hI) (fun r a h1=>?_) fun _ _ z=>z.elim)))
 cases r with
 | none=>exact wpAny_pure h1
 | some v =>
  refine wpAny_bind (wpAny_mono h1 (fun _ b h2=>?_) fun _ _ z=>z.elim)
  refine wpAny_bind (wpAny_mono h2 (fun _ c h3=>?_) fun _ _ z=>z.elim)
  refine wpAny_bind (wpAny_mono h3 (fun x d h4=>?_) fun _ _ z=>z.elim)
  refine wpAny_bind (wpAny_standAt (wpAny_bind (wpAny_of_eq (hs x) (wpAny_bind (wpAny_holding (wpAny_mono h4 (fun i1 e h5=>?_) fun _ _ z=>z.elim))))))
  refine wpAny_bind (wpAny_runOwn (codeAny_mono h5 (fun r f h6=>?_)))
  cases r with
  | ok fl=>exact wpAny_pure ⟨rfl,h6⟩
  | error x=>exact h6.elim
end
def LCW1 (J:It) (g:TG) (tt:TT) (te:TE) (l:Addr) (Q:List V→St→Hp→Prop) (W:Nat→Nat→List V→St→Hp→Prop):Prop :=
 ∀ i m acc σ' H',W i m acc σ' H'→H' l=some (.lst acc) ∧
  ((J.stop i H'∧Q acc σ' H')∨(J.go i H'∧∀ x H2,J.yld i H' x H2→g x σ' H2 fun σ3 H3=>tt σ3 H3 fun b H4 =>
   if b=true then te σ3 H4 fun y H5=>H5 l=some (.lst acc)∧acc.length<sizeLine∧∃ m',m'<m∧W (i+1) m' (acc++[y]) σ3 (upd H5 l (.lst (acc++[y])))
   else ∃ m',m'<m∧W (i+1) m' acc σ3 H4))
def tLC2 (cap:List (Option Nat)) (wi:TI) (g:TG) (wi1:TI) (g1:TG) (tt:TT) (te:TE):TE:=fun σ H Q=>wi σ H fun J H1=>∀ l,H1 l=none →
 ∃ W:Nat→Nat→List V→St→Hp→Prop,(∃ m,W 0 m [] (capσ cap σ) (upd H1 l (.lst []))) ∧
  ∀ i m acc σ' H',W i m acc σ' H'→H' l=some (.lst acc)∧((J.stop i H'∧Q (.ref l) H')∨(J.go i H'∧∀ x H2,J.yld i H' x H2→g x σ' H2 fun σ3 H3=>wi1 σ3 H3 fun J1 H4 =>
   ∃ W1:Nat→Nat→List V→St→Hp→Prop,(∃ m1,W1 0 m1 acc σ3 H4)∧LCW1 J1 g1 tt te l (fun ac τ G=>∃ m',m'<m∧W (i+1) m' ac τ G) W1))
theorem zhr {X:Cx}{elt tg iter tg1 iter1:Expr}{o:Option Expr}{scope:Scope}{pos ppos:Pos}{wi wi1:TI}{g g1:TG}{tt:TT}{te:TE}{N':List Str}{cap:List (Option Nat)}{use:Option (Value→Sem Unit)}{Q0:Value→Shared→Prop}
  (hc:X.calm=true) (hi:PI X tg iter wi) (ck:CapOk X.N N' X.env.scope scope cap)
  (hg:∀ C s₀ H₀ fp pins,PG (zam X N' scope C s₀ H₀ fp pins) tg g)
  (hi1:∀ C s₀ H₀ fp pins,PI (zam X N' scope C s₀ H₀ fp pins) tg1 iter1 wi1)
  (hg1:∀ C s₀ H₀ fp pins,PG (zam X N' scope C s₀ H₀ fp pins) tg1 g1)
  (ht:∀ C s₀ H₀ fp pins,PTo (zam X N' scope C s₀ H₀ fp pins) o tt)
  (he:∀ C s₀ H₀ fp pins,PE (zam X N' scope C s₀ H₀ fp pins) elt te)
  (hs:∀ x,foldedSetIterable iter X.env x=pure x) (hs1:∀ C x,foldedSetIterable iter1 (compEnvC scope (clOf X.env.cells scope.names []) C X.env) x=pure x) {pins:List (Addr × Obj)}{s:Shared}{σ:St}{H:Hp}{Q:VK}(I:Inv X pins σ H s) (h:tLC2 cap wi g wi1 g1 tt te σ H Q)
  (fin:∀ (l C:Addr) (H4:Hp) (s5:Shared) (m:Str→Option Value),Inv X pins σ H4 s5→Q (.ref l) H4→s5.heap.Ns C m→FpOk X pins H4 C→compPost (model X.prog X.w) X.A X.xe use Q0 (.ref l) C (.ok .next) s5) :
  wpAny (model X.prog X.w) X.A (comprehension (.ListComp elt [⟨tg,iter,[],0⟩,⟨tg1,iter1,o.toList,0⟩] scope pos) scope X.env ppos (newList []) false (eval iter X.env) use) Q0 X.xe s:=by
 have hcells:∀ y∈scope.names,y.2=.free→∃ c,X.env.cells.lookup y.1=some c:=fun y hy hf=>I.ok.has y.1 (ck.free y hy hf)
 refine wpAny_comprehension_free (use:=use) rfl hs (zcc hcells) ck.kind ck.names (thn (hi pins s σ H _ I h) fun v s1 h1=>thn h1 fun itv s2 h2=>?_)
 obtain⟨it,fp,tn,J,H2,e,I2,T,st2,f2,body⟩:=h2
 subst e
 have hfr2:H2 s2.heap.objs.size=none:=I2.hok.fresh (Nat.le_refl _)
 obtain⟨W,⟨m0,w0⟩,turn⟩:=body s2.heap.objs.size hfr2
 have I3:Inv X pins σ (upd H2 s2.heap.objs.size (.lst [])) { s2 with heap:=s2.heap.push { cls:=.type "list",data:=.seq ([]:List Value).toArray },toks:=s2.toks }:=I2.lnew (its:=[]) (t':=s2.toks) .nil (Nat.zero_le _)
 refine wpAny_newObj_type (wpAny_newFunctionEnv ck.nocell (by intro y hy;simp at hy) (fun h₁ hns₁ hsb₁=>?_) ck.kind)
 dsimp only at hns₁ hsb₁ ⊢
 generalize hl:s2.heap.objs.size=l at *
 generalize hP:s2.heap.push { cls:=.type "list",dict:=none,data:=.seq ([]:List Value).toArray }=P2 at *
 generalize hH3:upd H2 l (.lst [])=H3 at *
 have old:∀ b o,P2.get? b=some o→h₁.get? b=some o:=fun b o e=>hsb₁.extBut b o (Nat.ne_of_lt (Heap.lt_size e)) (Heap.get?_push_of_some _ e)
 have old2:∀ b o,s2.heap.get? b=some o→P2.get? b=some o:=fun b o e=>hP ▸ Heap.get?_push_of_some _ e
 have fpl:∀ b∈fp,b<l:=fun b hb=>by
  obtain⟨o,e,_⟩:=T.obj _ _ st2 b hb
  rw[← hl];exact Heap.lt_size e
 have fp3:∀ b∈fp,H3 b=none:=fun b hb=>by
  rw[← hH3,zac (Nat.ne_of_lt (fpl b hb))];exact(f2 b hb).1
 have hPs:P2.objs.size=l+1:=by rw[← hP,Heap.size_push,hl]
 have subc:∀ x c,(clOf X.env.cells scope.names []).lookup x=some c→X.env.cells.lookup x=some c:=fun x c e=>zbu _ _ x c hcells (fun _ _ z=>by simp at z) e
 generalize hs3:({ s2 with heap:=P2,toks:=s2.toks }:Shared)=s3 at *
 have hs3h:s3.heap=P2:=by rw[← hs3]
 let Y:=zam X N' scope P2.objs.size s3 H3 fp pins
 have hYok:Y.Ok:=by
  refine⟨I3.ok.mod,ck.kind,I3.ok.glob,I3.ok.blt,by show s3.heap.objs.size≤P2.objs.size;rw[hs3h];exact Nat.le_refl _,fun x y c e1 e2=>I3.ok.inj x y c (subc x c e1) (subc y c e2),fun x hx=>?_,fun x c hx=>absurd (show false=true from hx) Bool.false_ne_true,I3.ok.hd,I3.ok.frames,.inl rfl,fun b hb=>⟨?_,fun x c e=>?_⟩,I3.bs,
   Nat.le_trans I3.ok.bsz I3.sz,fun b o e hb=>?_,fun b hb hz=>?_,I3.stack,I3.stkFree⟩
  ·have hx':scope.names.lookup x=some .free:=by
    rcases hx with hx|hx
    ·rcases zay hx with z|z
     ·exact absurd rfl (ck.nocell _ (zbc z))
     ·exact z.2
    ·rcases zay hx with z|z
     ·exact z
     ·exact z.2
   exact zaN _ _ x hx'
  ·exact Nat.ne_of_lt (by show b<P2.objs.size;rw[hPs];exact Nat.lt_succ_of_lt (fpl b hb))
  ·exact(f2 b hb).2.2.2.2.1 x c (subc x c e)
  ·rcases (f2 b hb).2.2.2.1 with z|z
   ·exact I3.ok.noex b o e z
   ·exact absurd (Nat.lt_of_lt_of_le (Heap.lt_size e) (Nat.le_trans I3.ok.bsz z)) (Nat.lt_irrefl _)
  ·rcases List.mem_cons.mp (I3.stkSub b hz) with z|z
   ·exact(f2 b hb).2.1 z
   ·exact(f2 b hb).2.2.1 z
 have hYi:Inv Y [] (capσ cap σ) H3 { s2 with heap:=h₁,toks:=s2.toks }:=by
  refine⟨hYok,by show s2.os=s3.os;rw[← hs3],I2.bare,by show Un _ _ _ _ s3.heap h₁;rw[hs3h];exact Un.kept old,⟨_,hns₁,fun j x v e1 e2 e3=>?_⟩,fun x c e=>?_,?_,fun x c e=>I3.freeC x c (subc x c e),fun p hp=>?_,fun b o e=>?_,?_⟩
  ·have e1':N'[j]?=some x:=e1
   unfold capσ at e2
   rw[List.getElem?_map]at e2
   cases ec:cap[j]? with
   | none=>rw[ec]at e2;cases e2
   | some oc =>
    rw[ec]at e2
    cases oc with
    | none=>cases e2
    | some i =>
     have e2':σ[i]?=some (some v):=by
      cases ei:σ[i]? with
      | none=>simp[ei]at e2
      | some v' =>
       simp[ei]at e2
       rw[e2]
     have hz:(x,some i)∈N'.zip cap:=by
      refine List.mem_of_getElem? (i:=j) ?_
      rw[List.getElem?_zip_eq_some]
      exact⟨e1',ec⟩
     obtain⟨hN,hf,hk⟩:=ck.cap _ hz i rfl
     obtain⟨m,hn,hlo⟩:=I3.loc
     obtain⟨u,r,lk⟩:=hlo i x v hN e2' (by rcases hk with z|z;exact .inr (.inl z);exact .inr (.inr z))
     refine⟨u,r,.inr ⟨?_,?_⟩⟩
     ·exact zbi hf
     ·rcases lk with ⟨z,_⟩|⟨_,c,hcx,hcell⟩
      ·have z':X.env.scope.names.lookup x=some .local:=z
       rcases hk with q|q
       ·rw[q]at z';cases z'
       ·rw[q]at z';cases z'
      ·obtain⟨c',hc'⟩:=zaN (cells:=X.env.cells) scope.names [] x hf
       have:=subc x c' hc'
       rw[hcx]at this;cases this
       obtain⟨ob,e,d⟩:=hcell
       rw[hs3h]at e
       exact⟨c,hc',ob,old c ob e,d⟩
  ·obtain⟨v,ob,e',d⟩:=I3.cell x c (subc x c e)
   rw[hs3h]at e'
   exact⟨v,ob,old c ob e',d⟩
  ·refine I3.hok.fresh ?_
   rw[hs3h];exact Nat.le_refl _
  ·have hp':p∈X.pn++pins:=(List.mem_append.mp hp).elim (fun z=>z) (fun z=>nomatch z)
   obtain⟨e,n,ne,nf,d⟩:=I3.pin p hp'
   rw[hs3h]at e
   refine⟨old _ _ e,n,Nat.ne_of_lt (Heap.lt_size e),fun z=>?_,d⟩
   rcases List.mem_cons.mp (I3.stkSub _ z) with q|q
   ·exact ne q
   ·exact nf q
  ·have:=I3.hok.kept (h':=h₁) (fun b u q=>old b u (by rw[← hs3h];exact q))
   exact this b o e
  ·show (cap.map _).length=N'.length
   rw[List.length_map,ck.len]
 have stat:∀ {H':Hp},(∀ b∈fp,H' b=none)→∀ b∈fp,FpOk Y [] H' b:=fun {H'} hn b hb=>by
  refine⟨hn b hb,(hYok.exf b hb).1,hYok.exfs b hb,.inl hb,(hYok.exf b hb).2,fun p hp=>?_⟩
  have hp':p∈X.pn++pins:=(List.mem_append.mp hp).elim (fun z=>z) (fun z=>nomatch z)
  exact(f2 b hb).2.2.2.2.2 p hp'
 have st1:tn 0 h₁:=T.keep 0 _ _ st2 fun b hb o e=>old b o (old2 b o e)
 have loop:codeAny (model X.prog X.w) X.A (.compLoop (.ListComp elt [⟨tg,iter,[],0⟩,⟨tg1,iter1,o.toList,0⟩] scope pos) 0 (.ref it) (.ref l) Y.env) (compPost (model X.prog X.w) X.A X.xe use Q0 (.ref l) P2.objs.size) { s2 with heap:=h₁,toks:=s2.toks }:=by
  refine zfe (fun n s'=>∃ i acc σ' H',Inv Y [] σ' H' s'∧tn i s'.heap∧(∀ b∈fp,H' b=none)∧W i n acc σ' H') ?_ m0 ⟨0,[],_,H3,hYi,st1,fp3,w0⟩ (hs1 _)
  rintro n s4 ⟨i,acc,σ4,H4,I4,st4,fr4,w4⟩
  obtain⟨hlst,q4⟩:=turn i n acc σ4 H4 w4
  rcases q4 with ⟨stop,qn⟩|⟨go,step⟩
  ·refine thn (T.done Y rfl rfl rfl hc i [] s4 σ4 H4 Y.xe I4 (stat fr4) st4 stop) fun r s5 ⟨hr,I5⟩=>?_
   subst hr
   obtain⟨m,hn,_⟩:=id I5.loc
   have un:Un (frs X.stack) fp H3 H4 s3.heap s5.heap:=I5.base
   have sz3:s3.heap.objs.size≤P2.objs.size:=by rw[hs3h];exact Nat.le_refl _
   have IX:Inv X pins σ H4 s5:=I3.call' (ch:=fp) I5.os un I5.hok I5.bare fun b hb=>⟨(f2 b hb).2.2.2.1,(f2 b hb).2.1,(f2 b hb).2.2.2.2.1,(f2 b hb).2.2.2.2.2⟩
   exact fin l P2.objs.size H4 s5 m IX qn hn (I3.fpOk sz3 I5.free)
  ·refine thn (T.item Y rfl rfl rfl hc i [] s4 σ4 H4 Y.xe I4 (stat fr4) st4 go) fun r s5 ⟨u,hr,h5⟩=>?_
   subst hr
   refine thn h5 fun _ s6 ⟨x,H6,I6,r6,y6,st6,fr6⟩=>?_
   have I6':=I6.pinned (stat fr6) (T.obj _ _ st6)
   refine thn (hg _ _ _ _ _ _ s6 σ4 H6 x u _ I6' r6 (step x H6 y6)) fun _ s7 ⟨σ7,H7,I7,q7⟩=>?_
   have again:∀ {σ9:St}{H9:Hp}{s9:Shared}{acc9:List V},Inv Y ([]++zbj fp s6.heap) σ9 H9 s9→(∃ m',m'<n∧W (i+1) m' acc9 σ9 H9)→∃ m,m<n∧∃ i acc σ' H',Inv Y [] σ' H' s9∧tn i s9.heap∧(∀ b∈fp,H' b=none)∧W i m acc σ' H':=fun {σ9 H9 s9 acc9} I9 ⟨m',hm,w9⟩=>by
    refine⟨m',hm,i+1,acc9,σ9,H9,I9.unpinned,T.keep _ _ _ st6 fun b hb o e=>(I9.pin (b,o) (List.mem_append_right _ (List.mem_append_right _ (zap hb e)))).1,fun b hb=>?_,w9⟩
    obtain⟨o,e,d⟩:=T.obj _ _ st6 b hb
    exact(I9.pin (b,o) (List.mem_append_right _ (List.mem_append_right _ (zap hb e)))).2.1
   generalize ([]++zbj fp s6.heap:List (Addr × Obj))=pz at again I7
   refine thn (hi1 _ _ _ _ _ _ s7 σ7 H7 _ I7 q7) fun v1 s8 h8=>thn h8 fun itv1 s9 h9=>?_
   obtain⟨it1,fp1,tn1,J1,H9,e1,I9,T1,st9,f9,W1,⟨m1,w1⟩,turn1⟩:=h9
   subst e1
   have stat1:∀ {H':Hp},(∀ b∈fp1,H' b=none)→∀ b∈fp1,FpOk Y pz H' b:=fun hn b hb=>⟨hn b hb,(f9 b hb).2⟩
   have loop1:codeAny (model X.prog X.w) X.A (.compLoop (.ListComp elt [⟨tg,iter,[],0⟩,⟨tg1,iter1,o.toList,0⟩] scope pos) 1 (.ref it1) (.ref l) Y.env) (fun r z=>match r with|.ok _=>∃ m,m<n∧∃ i acc σ' H',Inv Y [] σ' H' z∧tn i z.heap∧(∀ b∈fp,H' b=none)∧W i m acc σ' H'|.error _=>False) s9:=by
    refine zfd (fun n s'=>∃ i acc σ' H',Inv Y pz σ' H' s'∧tn1 i s'.heap∧(∀ b∈fp1,H' b=none)∧W1 i n acc σ' H') ?_ m1 ⟨0,acc,σ7,H9,I9,st9,fun b hb=>(f9 b hb).1,w1⟩
    rintro k t4 ⟨j,ac,τ4,G4,K4,u4,v4,z4⟩
    obtain⟨glst,p4⟩:=turn1 j k ac τ4 G4 z4
    rcases p4 with ⟨stop1,pn⟩|⟨go1,step1⟩
    ·refine thn (T1.done Y rfl rfl rfl hc j pz t4 τ4 G4 Y.xe K4 (stat1 v4) u4 stop1) fun r t5 ⟨hr,K5⟩=>?_
     subst hr
     exact again K5 pn
    ·refine thn (T1.item Y rfl rfl rfl hc j pz t4 τ4 G4 Y.xe K4 (stat1 v4) u4 go1) fun r t5 ⟨u,hr,h5⟩=>?_
     subst hr
     refine thn h5 fun _ t6 ⟨y,G6,K6,e6,d6,u6,v6⟩=>?_
     have K6':=K6.pinned (stat1 v6) (T1.obj _ _ u6)
     refine thn (hg1 _ _ _ _ _ _ t6 τ4 G6 y u _ K6' e6 (step1 y G6 d6)) fun _ t7 ⟨τ7,G7,K7,p7⟩=>?_
     refine zd7 (ht _ _ _ _ _ _ t7 τ7 G7 _ K7 p7) fun b t8 ⟨G8,K8,p8⟩=>?_
     have again1:∀ {τ9:St}{G9:Hp}{t9:Shared}{ac9:List V},Inv Y (pz++zbj fp1 t6.heap) τ9 G9 t9→(∃ m',m'<k∧W1 (j+1) m' ac9 τ9 G9)→∃ m,m<k∧∃ i acc σ' H',Inv Y pz σ' H' t9∧tn1 i t9.heap∧(∀ b∈fp1,H' b=none)∧W1 i m acc σ' H':=fun {τ9 G9 t9 ac9} K9 ⟨m',hm,z9⟩=>by
      refine⟨m',hm,j+1,ac9,τ9,G9,K9.unpinned,T1.keep _ _ _ u6 fun b hb o e=>(K9.pin (b,o) (List.mem_append_right _ (List.mem_append_right _ (zap hb e)))).1,fun b hb=>?_,z9⟩
      obtain⟨o,e,d⟩:=T1.obj _ _ u6 b hb
      exact(K9.pin (b,o) (List.mem_append_right _ (List.mem_append_right _ (zap hb e)))).2.1
     cases b with
     | false =>
      rw[if_neg Bool.false_ne_true]at p8 ⊢
      exact again1 K8 p8
     | true =>
      rw[if_pos rfl]at p8 ⊢
      refine thn (he _ _ _ _ _ _ t8 τ7 G8 _ K8 p8) fun yv t9 ⟨yy,G9,K9,e9,hl9,hz9,p9⟩=>?_
      refine thn (mt_append (X:=Y) _ t9 τ7 G9 (.ref l) [yy] (.ref l) [yv] (fun _ H'=>H'=upd G9 l (.lst (ac++[yy]))) K9 rfl (.cons e9 .nil) ⟨l,ac,yy,rfl,rfl,hl9,hz9,rfl⟩) fun _ t10 ⟨_,G10,K10,_,e10⟩=>?_
      subst e10
      exact again1 K10 p9
   exact zdZ loop1 (T1.self X.A 0 _ _ _ st9 loop1)
 exact codeAny_compStart_list loop (T.self X.A 0 _ _ _ st1 loop)
theorem zhT {X:Cx}{elt tg iter tg1 iter1:Expr}{o:Option Expr}{scope:Scope}{pos:Pos}{wi wi1:TI}{g g1:TG}{tt:TT}{te:TE}{N':List Str}{cap:List (Option Nat)}
  (hc:X.calm=true) (hi:PI X tg iter wi) (ck:CapOk X.N N' X.env.scope scope cap)
  (hg:∀ C s₀ H₀ fp pins,PG (zam X N' scope C s₀ H₀ fp pins) tg g)
  (hi1:∀ C s₀ H₀ fp pins,PI (zam X N' scope C s₀ H₀ fp pins) tg1 iter1 wi1)
  (hg1:∀ C s₀ H₀ fp pins,PG (zam X N' scope C s₀ H₀ fp pins) tg1 g1)
  (ht:∀ C s₀ H₀ fp pins,PTo (zam X N' scope C s₀ H₀ fp pins) o tt)
  (he:∀ C s₀ H₀ fp pins,PE (zam X N' scope C s₀ H₀ fp pins) elt te)
  (hs:∀ x,foldedSetIterable iter X.env x=pure x:=by intro _;rfl)
  (hs1:∀ C x,foldedSetIterable iter1 (compEnvC scope (clOf X.env.cells scope.names []) C X.env) x=pure x:=by intro _ _;rfl) :
  PE X (.ListComp elt [⟨tg,iter,[],0⟩,⟨tg1,iter1,o.toList,0⟩] scope pos) (tLC2 cap wi g wi1 g1 tt te):=by
 intro pins s σ H Q I h
 rw[eval_ListComp]
 exact zhr (use:=none) hc hi ck hg hi1 hg1 ht he hs hs1 I h fun l C H4 s5 m I5 q hn f=>⟨m,hn,fun h' sb=>⟨.ref l,H4,I5.gone f sb,rfl,q⟩⟩
end L2
namespace L2
open PySem PySem.Spec PyProof.Rows Own
def FlD (x:V) (d:PyData):Prop:=(∃ i,x=.int i∧d=.int i)∨(∃ z,x=.str z∧d=.str z∧(PyData.str z).canLay0=true)∨(∃ b,x=.bl b∧d=.bool b)∨(x=.non∧d=.none)
def DD (H:Hp):Nat→V→PyData→Prop
 | 0,x,d=>FlD x d
 | n+1,x,d=>FlD x d∨∃ a xs ds,x=.ref a∧xs.length=ds.length∧((d=.tuple ds∧H a=some (.tup xs))∨(d=.list ds∧H a=some (.lst xs)))∧∀ (j:Nat) (u:V) (e:PyData),xs[j]?=some u→ds[j]?=some e→DD H n u e
theorem DD.same {H H':Hp}(s:Same H H'):∀ {n:Nat}{x:V}{d:PyData},DD H n x d→DD H' n x d
 | 0,_,_,h=>h
 | n+1,_,_,h=>by
  rcases h with h|⟨a,xs,ds,e1,e2,h1,h2⟩
  ·exact .inl h
  ·refine .inr ⟨a,xs,ds,e1,e2,?_,fun j u e p q=>DD.same s (h2 j u e p q)⟩
   rcases h1 with ⟨y,z⟩|⟨y,z⟩
   ·exact .inl ⟨y,s _ _ z⟩
   ·exact .inr ⟨y,s _ _ z⟩
theorem DD.fl {H:Hp}{n:Nat}{x:V}{d:PyData}(h:FlD x d):DD H n x d:=by
 cases n
 ·exact h
 ·exact .inl h
theorem DD.up {H:Hp}:∀ {n m:Nat}{x:V}{d:PyData},n≤m→DD H n x d→DD H m x d
 | 0,m,_,_,_,h=>DD.fl h
 | n+1,0,_,_,l,_=>by lia
 | n+1,m+1,_,_,l,h=>by
  rcases h with h|⟨a,xs,ds,e1,e2,h1,h2⟩
  ·exact .inl h
  ·exact .inr ⟨a,xs,ds,e1,e2,h1,fun j u e p q=>DD.up (by lia) (h2 j u e p q)⟩
theorem DD.i {H:Hp}{n:Nat}(i:Int):DD H n (.int i) (.int i):=DD.fl (.inl ⟨i,rfl,rfl⟩)
theorem DD.tup {H:Hp}{n:Nat}{a:Addr}{xs:List V}{ds:List PyData}(h:H a=some (.tup xs)) (l:xs.length=ds.length) (f:∀ (j:Nat) (u:V) (e:PyData),xs[j]?=some u→ds[j]?=some e→DD H n u e):DD H (n+1) (.ref a) (.tuple ds):=.inr ⟨a,xs,ds,rfl,l,.inl ⟨rfl,h⟩,f⟩
theorem zgQ:∀ {ds:List PyData}{n:Nat},(∀ e∈ds,e.canLay0=true∧e.depth≤n)→PyData.canLayAll0 ds=true∧PyData.depthAll ds≤n
 | [],_,_=>⟨rfl,Nat.zero_le _⟩
 | d::ds,n,h=>by
  obtain⟨a1,a2⟩:=h d List.mem_cons_self
  obtain⟨b1,b2⟩:=zgQ (ds:=ds) fun e he=>h e (List.mem_cons_of_mem _ he)
  refine⟨?_,?_⟩
  ·show (d.canLay0 && PyData.canLayAll0 ds)=true
   rw[a1,b1];rfl
  ·show max d.depth (PyData.depthAll ds)≤n
   lia
theorem FlD.ok {x:V}{d:PyData}(h:FlD x d):d.canLay0=true∧d.depth≤0:=by
 rcases h with ⟨i,_,rfl⟩|⟨z,_,rfl,e⟩|⟨b,_,rfl⟩|⟨_,rfl⟩
 ·exact⟨rfl,Nat.le_refl _⟩
 ·exact⟨e,Nat.le_refl _⟩
 ·exact⟨rfl,Nat.le_refl _⟩
 ·exact⟨rfl,Nat.le_refl _⟩
theorem DD.ok {H:Hp}:∀ {n:Nat}{x:V}{d:PyData},DD H n x d→d.canLay0=true∧d.depth≤n
 | 0,_,_,h=>FlD.ok h
 | n+1,_,_,h=>by
  rcases h with h|⟨a,xs,ds,e1,e2,h1,h2⟩
  ·have:=FlD.ok h
   exact⟨this.1,by lia⟩
  ·obtain⟨p,q⟩:=zgQ (n:=n) (ds:=ds) fun e he=>by
    obtain⟨j,jl,ej⟩:=List.getElem_of_mem he
    exact(h2 j _ e (List.getElem?_eq_getElem (by lia)) (by rw[List.getElem?_eq_getElem jl,ej])).ok
   rcases h1 with ⟨rfl,_⟩|⟨rfl,_⟩
   ·exact⟨p,Nat.succ_le_succ q⟩
   ·exact⟨p,Nat.succ_le_succ q⟩
section
variable {X:Cx}
theorem FlD.reads {h:Heap}{x:V}{d:PyData}{v:Value}(f:FlD x d) (r:RelV x v):∃ as,Reads h v d as:=by
 rcases f with ⟨i,rfl,rfl⟩|⟨z,rfl,rfl,e⟩|⟨b,rfl,rfl⟩|⟨rfl,rfl⟩
 ·obtain⟨t,rfl⟩:=r
  exact⟨_,.int i t⟩
 ·obtain⟨t,rfl⟩:=r
  exact⟨_,.str z t⟩
 ·cases r
  exact⟨_,.bool b⟩
 ·cases r
  exact⟨_,.none⟩
theorem DD.reads {pins:List (Addr × Obj)}{σ:St}{H:Hp}{s:Shared}(I:Inv X pins σ H s):∀ (n:Nat) (x:V) (d:PyData) (v:Value),DD H n x d→RelV x v→∃ as,Reads s.heap v d as
 | 0,x,d,v,h,r=>FlD.reads h r
 | n+1,x,d,v,h,r=>by
  rcases h with h|⟨a,xs,ds,rfl,hl,h1,hx⟩
  ·exact FlD.reads h r
  ·cases r
   have key:∀ its:List Value,Vals xs its→∃ as,ReadsAll s.heap its ds as:=fun its g=>by
    have gl:=g.length
    exact zcW (h:=s.heap) its ds (by lia) fun j v' d' e1 e2=>by
     have jl:j<xs.length:=by have:=(List.getElem?_eq_some_iff.mp e1).1;lia
     obtain⟨w',f1,f2⟩:=g.get (List.getElem?_eq_getElem jl)
     obtain rfl:=Option.some.inj (e1.symm.trans f1)
     exact DD.reads I n _ _ _ (hx j _ _ (List.getElem?_eq_getElem jl) e2) f2
   rcases h1 with ⟨rfl,ha⟩|⟨rfl,ha⟩
   ·obtain⟨its,g,⟨o,eo,co,m,dm⟩,_⟩:=I.tuple (SqT.of ha)
    obtain⟨as,ra⟩:=key its g
    exact⟨as,.tuple eo co dm (by simpa using ra)⟩
   ·obtain⟨its,g,p,_⟩:=I.list (SqL.of ha)
    obtain⟨as,ra⟩:=key its g
    obtain⟨o,eo,co,m,dm⟩:=p.isList
    exact⟨_,.list eo co dm (by simpa using ra)⟩
def rDat (c:Bool):R2:=fun x y H Q=>∃ n d d',n≤20∧DD H n x d∧DD H n y d'∧Q (.bl (if c then PyData.eqv d d' else !PyData.eqv d d')) H
theorem op_neX (hu:X.A.units+64<cLine):OpR X (compareOp .NotEq) (rDat false):=by
 intro pins s σ H x y vx vy Q I rx ry ⟨n,d,d',hn,h1,h2,q⟩
 obtain⟨as,r1⟩:=h1.reads I _ _ _ _ rx
 obtain⟨bs,r2⟩:=h2.reads I _ _ _ _ ry
 have k1:=h1.ok
 have k2:=h2.ok
 exact PySem.SeqAt.compareNe_reads r1 r2 k1.1 k2.1 (by have:=k1.2;lia) ⟨.bl _,H,I,rfl,q⟩
end
section
variable {X:Cx}{e e2:Expr}{ta tb:TE}{p kp pos:Pos}
end
section
variable {X:Cx}
end
theorem zhs {K:PySem.W.Frag}{b:Bool}{a:Addr}{xs:List V}{g g1:TG}{wi1:TI}{tt:TT}{te:TE}{l:Addr}{σ:St}{H:Hp}{Q:VK}(Pv:Nat→List V→St→Hp→Prop) (h0:Pv 0 [] σ H)
  (hl:∀ i acc σ H,Pv i acc σ H→H l=some (.lst acc)∧SqB b K H a xs)
  (hs:∀ i acc σ H x T,xs[i]?=some x→H T=none→Pv i acc σ H→g (.ref T) σ (upd H T (.tup [.int i,x])) fun σ3 H3=>wi1 σ3 H3 fun J1 H4 =>
   ∃ W1:Nat→Nat→List V→St→Hp→Prop,(∃ m1,W1 0 m1 acc σ3 H4)∧LCW1 J1 g1 tt te l (fun ac τ G=>Nx xs.length i (Pv (i+1) ac τ G)) W1)
  (hd:∀ acc σ H,Pv xs.length acc σ H→Q (.ref l) H):∃ W:Nat→Nat→List V→St→Hp→Prop,(∃ m,W 0 m [] σ H) ∧
   ∀ i m acc σ' H',W i m acc σ' H'→H' l=some (.lst acc)∧(((Ite K b a).stop i H'∧Q (.ref l) H')∨((Ite K b a).go i H'∧∀ x H2,(Ite K b a).yld i H' x H2→g x σ' H2 fun σ3 H3=>wi1 σ3 H3 fun J1 H4 =>
    ∃ W1:Nat→Nat→List V→St→Hp→Prop,(∃ m1,W1 0 m1 acc σ3 H4)∧LCW1 J1 g1 tt te l (fun ac τ G=>∃ m',m'<m∧W (i+1) m' ac τ G) W1)):=by
 refine⟨fun i m acc σ H=>m=xs.length-i∧i≤xs.length∧Pv i acc σ H,⟨xs.length,by simp,Nat.zero_le _,h0⟩,?_⟩
 rintro i m acc σ H ⟨rfl,hi,p⟩
 obtain⟨q0,q1⟩:=hl i acc σ H p
 refine⟨q0,?_⟩
 by_cases hlt:i<xs.length
 ·refine .inr ⟨⟨xs,_,q1,List.getElem?_eq_getElem hlt⟩,fun v H2 ⟨y,ey,T,hT,e1,e2⟩=>?_⟩
  subst e1 e2
  exact hs i acc σ H y T (ey xs q1) hT p
 ·have e:i=xs.length:=by lia
  subst e
  exact .inl ⟨⟨xs,q1,rfl⟩,hd acc σ H p⟩
theorem zgd {K:PySem.W.Frag}{b:Bool}{a:Addr}{xs:List V}{g:TG}{tt:TT}{te:TE}{l:Addr}{ac:List V}{σ:St}{H:Hp}{Q:List V→St→Hp→Prop}(Pv:Nat→List V→St→Hp→Prop) (h0:Pv 0 ac σ H) (hl:∀ i acc σ H,Pv i acc σ H→H l=some (.lst acc)∧SqB b K H a xs)
  (hs:∀ i x acc σ H T,xs[i]?=some x→H T=none→Pv i acc σ H→g (.ref T) σ (upd H T (.tup [.int i,x])) fun σ3 H3=>tt σ3 H3 fun b H4 =>
   if b=true then te σ3 H4 fun y H5=>H5 l=some (.lst acc)∧acc.length<sizeLine∧Nx xs.length i (Pv (i+1) (acc++[y]) σ3 (upd H5 l (.lst (acc++[y])))) else Nx xs.length i (Pv (i+1) acc σ3 H4))
  (hd:∀ acc σ H,Pv xs.length acc σ H→Q acc σ H):∃ W:Nat→Nat→List V→St→Hp→Prop,(∃ m,W 0 m ac σ H)∧LCW1 (Ite K b a) g tt te l Q W:=by
 refine⟨fun i m acc σ H=>m=xs.length-i∧i≤xs.length∧Pv i acc σ H,⟨_,rfl,Nat.zero_le _,h0⟩,?_⟩
 rintro i m acc σ H ⟨rfl,hi,p⟩
 obtain⟨q0,q1⟩:=hl i acc σ H p
 refine⟨q0,?_⟩
 by_cases hlt:i<xs.length
 ·refine .inr ⟨⟨xs,_,q1,List.getElem?_eq_getElem hlt⟩,fun v H2 ⟨y,ey,T,hT,e1,e2⟩=>?_⟩
  subst e1 e2
  exact hs i y acc σ H T (ey xs q1) hT p
 ·obtain rfl:i=xs.length:=by lia
  exact .inl ⟨⟨xs,q1,rfl⟩,hd acc σ H p⟩
end L2
namespace Bn
open PySem L2 Own
theorem zeq {H:Hp}:∀ {ps:List V}{fs:List (Nat × Nat)},Prs H ps fs→ps.length=(fs.map zdU).length∧∀ (j:Nat) (u:V) (e:PyData),ps[j]?=some u→(fs.map zdU)[j]?=some e→DD H 1 u e
 | [],[],_=>⟨rfl,fun j u e h _=>by simp at h⟩
 | [],_::_,h=>h.elim
 | _::_,[],h=>h.elim
 | x::ps,f::fs,⟨⟨t,e,h⟩,r⟩=>by
  obtain⟨a,b⟩:=zeq r
  refine⟨by rw[List.map_cons,List.length_cons,List.length_cons,a],fun j u d hu hd=>?_⟩
  cases j with
  | zero =>
   obtain rfl:x=u:=by simpa using hu
   obtain rfl:zdU f=d:=by simpa using hd
   subst e
   refine DD.tup h rfl fun j u e p q=>?_
   match j,p,q with
   | 0,p,q=>obtain rfl:=Option.some.inj p;obtain rfl:=Option.some.inj q;exact DD.i _
   | 1,p,q=>obtain rfl:=Option.some.inj p;obtain rfl:=Option.some.inj q;exact DD.i _
   | j+2,p,q=>simp at p
  | succ j=>exact b j u d (by simpa using hu) (by simpa using hd)
def pw (e:Nat):Int:=((2 ^ e:Nat):Int)
def more (cs xs:List Int) (k:Int):List Int:=(List.range cs.length).map fun i=>cs.getD i 0+k*xs.getD i 0
def Deep (K:PySem.W.Frag) (H:Hp):Nat→V→Prop
 | 0,x=>AnyT K H x
 | n+1,x=>AnyT K H x∧∀ xs,zcU H x=some xs→xs.length≤1000∧∀ y∈xs,Deep K H n y
end Bn
namespace L2
open PySem PySem.Spec PyProof.Rows
section
variable {X:Cx}
end
end L2
namespace Bn
open PySem L2 Own
end Bn
namespace K98
open PySem L2 Own Bn
abbrev zfE:Stmt:=top 16
abbrev ziz:Stmt:=top 40
def tN (told:Nat→Option (Nat × Nat × Int)) (i:Nat):Int:=match told i with
 | some (a,_,_)=>a
 | none=>0
def tM (told:Nat→Option (Nat × Nat × Int)) (i:Nat):Int:=match told i with
 | some (_,_,c)=>c
 | none=>0
noncomputable def crB (told:Nat→Option (Nat × Nat × Int)) (rs:List RunP) (i j:Nat):Bool:=decide (tM told i<(rs.getD j default).start) && decide (tN told j<tN told i)
noncomputable def crR (told:Nat→Option (Nat × Nat × Int)) (rs:List RunP) (i j:Nat):List (Nat × Nat):=((List.range j).filter (crB told rs i)).map fun e=>(i,e)
noncomputable def crL (told:Nat→Option (Nat × Nat × Int)) (rs:List RunP) (i:Nat):List (Nat × Nat):=(List.range i).flatMap fun a=>crR told rs a rs.length
theorem zbt (told:Nat→Option (Nat × Nat × Int)) (rs:List RunP) (i j:Nat):crR told rs i (j+1)=crR told rs i j++if crB told rs i j=true then [(i,j)] else []:=by
 unfold crR
 rw[List.range_succ,List.filter_append,List.map_append]
 congr 1
 by_cases c:crB told rs i j=true
 ·rw[if_pos c,List.filter_cons_of_pos c];rfl
 ·rw[if_neg c,List.filter_cons_of_neg c];rfl
theorem zcG (told:Nat→Option (Nat × Nat × Int)) (rs:List RunP) (i:Nat):crL told rs (i+1)=crL told rs i++crR told rs i rs.length:=by
 unfold crL
 rw[List.range_succ,List.flatMap_append,List.flatMap_singleton]
theorem zdY (told:Nat→Option (Nat × Nat × Int)) (rs:List RunP) (i j:Nat):(crR told rs i j).length≤j:=by
 unfold crR
 rw[List.length_map]
 exact Nat.le_trans (List.length_filter_le ..) (by rw[List.length_range];exact Nat.le_refl _)
theorem zcH (told:Nat→Option (Nat × Nat × Int)) (rs:List RunP):∀ i,(crL told rs i).length≤i*rs.length
 | 0=>by simp[crL]
 | i+1=>by
  rw[zcG,List.length_append,Nat.succ_mul]
  have:=zcH told rs i
  have:=zdY told rs i rs.length
  lia
theorem zjg {told:Nat→Option (Nat × Nat × Int)}{rs:List RunP}{i:Nat}{g:Nat × Nat}(h:g∈crL told rs i):g.1<i∧g.2<rs.length:=by
 unfold crL crR at h
 obtain⟨a,ha,hg⟩:=List.mem_flatMap.mp h
 obtain⟨e,he,rfl⟩:=List.mem_map.mp hg
 exact⟨List.mem_range.mp ha,List.mem_range.mp (List.mem_filter.mp he).1⟩
theorem TldAt.at_ {H:Hp}{p:Addr}{told:Nat→Option (Nat × Nat × Int)}{n:Nat}(h:TldAt H p told n):∃ xs,H p=some (.tup xs)∧xs.length=n∧∀ i,i<n→∃ t e,xs[i]?=some (.ref t)∧H t=some (.tup [.int (tN told i),.int e,.int (tM told i)]):=by
 obtain⟨xs,h1,⟨h2,h3⟩,h4⟩:=h
 refine⟨xs,h1,h2,fun i il=>?_⟩
 have hu:=h3 i xs[i] (List.getElem?_eq_getElem (by lia))
 cases e:told i with
 | none=>exact absurd e (h4 i il)
 | some y =>
  obtain⟨a,b,c⟩:=y
  rw[e]at hu
  obtain⟨t,et,ht⟩:=hu
  refine⟨t,b,by rw[List.getElem?_eq_getElem (by lia),et],?_⟩
  unfold tN tM
  rw[e];exact ht
def zba:Sp:=fun vs H Q _=>∃ (r fr er:Addr) (ps:List V) (N:Nt) (pr:Addr) (qs:List V) (rs:List RunP),vs=[.ref r,.ref pr]∧Nt.Ok N∧NetAt H r fr er ps N∧H pr=some (.tup qs)∧RunsAt H qs rs∧rs.length≤60∧(∀ x∈rs,x.lane<N.lanes∧1≤x.pace) ∧
 ∀ p ts a H',Same H H'→Chain N (zbE rs) (a0 N rs) a→wayL a.S.spots=[]→H' p=some (.tup ts)→Prs H' ts (crL a.told rs rs.length)→Q (.ref p) H'
section
variable {P:Program}{w:World}{K:PySem.W.Frag}{mg:Str→Option Value}{base:Heap}{C:Addr}
theorem scCr:FnScope ["net","runs","told"] ["net","runs"] (zae zfE):=⟨rfl,rfl,rfl,by decide +kernel,rfl,by decide +kernel,by decide +kernel⟩
theorem zhg {f fR:Addr}{fd dR:FuncData}(F:Fun K "crossed" "crossed" zfE f fd) (G:Mgs mg) (UR:Use P w K mg base "ran" ["net","runs"] 4 zdv fR dR):FnOk P w K mg base CX0 5 f fd ["net","runs"] zba:=by
 refine F.ok scCr (fun vs H Q E h=>?_) (fun cdv A outer s H vs Q E hr h=>?_)
 ·obtain⟨r,fr,er,ps,N,pr,qs,rs,rfl,_⟩:=h
  rfl
 obtain⟨r,fr,er,ps,N,pr,qs,rs,rfl,ok,na,hp,ra,r60,rok,k⟩:=h
 refine⟨_,(@pss_cons _ _ _ _ _ (@ps_set _ _ 2 _ _ _ _ scCr.nd rfl (.inr rfl) (@pe_call _ _ _ _ _ _ _ _ _ _ _ _ _ _ _ _ UR.ok hr (by rfl) UR.m UR.kp UR.b .nil pass0 (@pa_cons _ _ _ _ _ (@pv _ 0 _ _ (by rfl) (by first|exact Or.inl rfl|exact Or.inr (.inl rfl)|exact Or.inr (.inr rfl)) (by decide) (by decide)) (@pa_cons _ _ _ _ _ (@pv _ 1 _ _ (by rfl) (by first|exact Or.inl rfl|exact Or.inr (.inl rfl)|exact Or.inr (.inr rfl)) (by decide) (by decide)) pa_nil (by rfl)) (by rfl)) (by decide) (by rfl) (by rfl)) (by rfl) (by first|exact .inl rfl|exact .inr rfl|assumption)) (@pss_one _ _ _ (@ps_ret _ _ _ _ (@pe_callTy _ _ _ _ _ _ _ _ _ call_tuple_of (by rfl) G.tuple (by rfl) (@pa_cons _ _ _ _ _ (@zhT _ _ _ _ _ _ (some _) _ _ _ (zj0 K false (zjw (tVar 7) tNil)) (gTup K 2 (gCons (gName 0) (gCons (gTup K 3 (gCons (gName 1) (gCons (gName 2) (gCons (gName 3) gNil)))) gNil))) (gTup K 2 (gCons (gName 4) (gCons (gName 5) gNil))) _ _ ["i","number","end","moment","j","run","told","runs"] [none,none,none,none,none,none,some 2,some 1] rfl (@zdE _ _ _ _ _ _ _ _ false rfl G.enum (@pa_cons _ _ _ _ _ (@pv _ 2 _ _ (by rfl) (by first|exact Or.inl rfl|exact Or.inr (.inl rfl)|exact Or.inr (.inr rfl)) (by decide) (by decide)) pa_nil (by rfl)) (by rfl)) (CapOk.of (by kernel_rfl)) (fun _ _ _ _ _=>(@pg_tup _ _ _ _ _ _ rfl (@pgs_cons _ _ _ _ _ (@pg_name _ _ 0 _ (show (["i","number","end","moment","j","run","told","runs"]:List Str).Nodup from by decide +kernel) rfl (.inl rfl) (.inr rfl)) (@pgs_cons _ _ _ _ _ (@pg_tup _ _ _ _ _ _ rfl (@pgs_cons _ _ _ _ _ (@pg_name _ _ 1 _ (show (["i","number","end","moment","j","run","told","runs"]:List Str).Nodup from by decide +kernel) rfl (.inl rfl) (.inr rfl)) (@pgs_cons _ _ _ _ _ (@pg_name _ _ 2 _ (show (["i","number","end","moment","j","run","told","runs"]:List Str).Nodup from by decide +kernel) rfl (.inl rfl) (.inr rfl)) (@pgs_cons _ _ _ _ _ (@pg_name _ _ 3 _ (show (["i","number","end","moment","j","run","told","runs"]:List Str).Nodup from by decide +kernel) rfl (.inl rfl) (.inr rfl)) pgs_nil (by rfl)) (by rfl)) (by rfl)) (by rfl) (by rfl)) pgs_nil (by rfl)) (by rfl)) (by rfl) (by rfl))) (fun _ _ _ _ _=>(@zdE _ _ _ _ _ _ _ _ false rfl G.enum (@pa_cons _ _ _ _ _ (@pv _ 7 _ _ (by rfl) (by first|exact Or.inl rfl|exact Or.inr (.inl rfl)|exact Or.inr (.inr rfl)) (by decide) (by decide)) pa_nil (by rfl)) (by rfl))) (fun _ _ _ _ _=>(@pg_tup _ _ _ _ _ _ rfl (@pgs_cons _ _ _ _ _ (@pg_name _ _ 4 _ (show (["i","number","end","moment","j","run","told","runs"]:List Str).Nodup from by decide +kernel) rfl (.inl rfl) (.inr rfl)) (@pgs_cons _ _ _ _ _ (@pg_name _ _ 5 _ (show (["i","number","end","moment","j","run","told","runs"]:List Str).Nodup from by decide +kernel) rfl (.inl rfl) (.inr rfl)) pgs_nil (by rfl)) (by rfl)) (by rfl) (by rfl))) (fun _ _ _ _ _=>(@zdC _ _ _ (@zed _ _ _ _ _ _ _ (@pt_cmpR _ _ _ _ _ _ _ _ zc2 (@pv _ 3 _ _ (by rfl) (by first|exact Or.inl rfl|exact Or.inr (.inl rfl)|exact Or.inr (.inr rfl)) (by decide) (by decide)) (@pe_ix _ _ _ _ _ _ (rIxT K) ix_tup (@pv _ 5 _ _ (by rfl) (by first|exact Or.inl rfl|exact Or.inr (.inl rfl)|exact Or.inr (.inr rfl)) (by decide) (by decide)) pe_int (fun _ _=>rfl)) (nomark _)) (@zcu _ _ _ _ (@pt_cmpR _ _ _ _ _ _ _ _ zg7 (@pv _ 1 _ _ (by rfl) (by first|exact Or.inl rfl|exact Or.inr (.inl rfl)|exact Or.inr (.inr rfl)) (by decide) (by decide)) (@pe_ix _ _ _ _ _ _ (rIxT K) ix_tup (@pe_ix _ _ _ _ _ _ (rIxT K) ix_tup (@pv _ 6 _ _ (by rfl) (by first|exact Or.inl rfl|exact Or.inr (.inl rfl)|exact Or.inr (.inr rfl)) (by decide) (by decide)) (@pv _ 4 _ _ (by rfl) (by first|exact Or.inl rfl|exact Or.inr (.inl rfl)|exact Or.inr (.inr rfl)) (by decide) (by decide)) (fun _ _=>rfl)) pe_int (fun _ _=>rfl)) (nomark _)))).pt)) (fun _ _ _ _ _=>(@pe_tup _ _ _ _ _ (@pa_cons _ _ _ _ _ (@pv _ 0 _ _ (by rfl) (by first|exact Or.inl rfl|exact Or.inr (.inl rfl)|exact Or.inr (.inr rfl)) (by decide) (by decide)) (@pa_cons _ _ _ _ _ (@pv _ 4 _ _ (by rfl) (by first|exact Or.inl rfl|exact Or.inr (.inl rfl)|exact Or.inr (.inr rfl)) (by decide) (by decide)) pa_nil (by rfl)) (by rfl)))) (by intro _;rfl) (by intro _ _;rfl)) pa_nil (by rfl)) (by decide) (by decide) (by rfl) (by rfl))))),?_⟩
 refine⟨_,rfl,_,rfl,r,fr,er,ps,N,pr,qs,rs,rfl,ok,na,hp,ra,r60,rok,fun p a H1 s1 ch we pin td=>?_⟩
 obtain⟨xs,hx,xl,hat⟩:=td.at_
 refine⟨_,rfl,p,xs,rfl,SqT.of hx,fun l hl=>?_⟩
 have hp1:=s1 _ _ hp
 have ra1:=ra.tups (Tups.of s1)
 refine zhs (K:=K) (b:=false) (a:=p) (xs:=xs) (Q:=fun x H1=>∃ p' ys,[x]=[V.ref p']∧((SqL K H1 p' ys∧∀ l',H1 l'=none→Q (.ref l') (upd H1 l' (.tup ys)))∨(SqT K H1 p' ys∧Q (.ref p') H1))) (fun i acc σ H3=>(∃ v0 v1 v2 v3 v4 v5,σ=[v0,v1,v2,v3,v4,v5,some (.ref p),some (.ref pr)])∧Same H1 H3∧H3 l=some (.lst acc)∧Prs H3 acc (crL a.told rs i)) ⟨⟨_,_,_,_,_,_,rfl⟩,zaa hl _,zab,trivial⟩ (fun i acc σ H3 z=>⟨z.2.2.1,SqT.of (z.2.1 _ _ hx)⟩) ?_ ?_
 ·rintro i acc σ H3 x T hxi hT ⟨⟨v0,v1,v2,v3,v4,v5,rfl⟩,s3,h3,pr3⟩
  have il:i<rs.length:=by have:=(List.getElem?_eq_some_iff.mp hxi).1;lia
  obtain⟨t,e,et,ht⟩:=hat i il
  obtain rfl:=Option.some.inj (hxi.symm.trans et)
  have sT:=zaa hT (.tup [.int i,.ref t])
  have s4:=s3.trans sT
  have lT:l≠T:=zad h3 hT
  refine⟨T,_,rfl,SqT.of zab,rfl,_,_,rfl,_,_,rfl,t,_,rfl,SqT.of (s4 _ _ ht),rfl,_,_,rfl,_,_,rfl,_,_,rfl,rfl,rfl,?_⟩
  refine⟨_,rfl,pr,_,rfl,SqT.of (s4 _ _ hp1),?_⟩
  refine zgd (K:=K) (b:=false) (a:=pr) (xs:=qs) (fun j acc σ H5=>(∃ v4 v5,σ=[some (.int i),some (.int (tN a.told i)),some (.int e),some (.int (tM a.told i)),v4,v5,some (.ref p),some (.ref pr)])∧Same H1 H5∧H5 l=some (.lst acc)∧Prs H5 acc (crL a.told rs i++crR a.told rs i j)) ⟨⟨_,_,rfl⟩,s4,sT _ _ h3,?_⟩ (fun j acc σ H5 z=>⟨z.2.2.1,SqT.of (z.2.1 _ _ hp1)⟩) ?_ ?_
  ·show Prs _ acc (crL a.told rs i++[])
   rw[List.append_nil];exact pr3.tups (Tups.of sT)
  ·rintro j y acc σ H5 T2 hy hT2 ⟨⟨v4,v5,rfl⟩,s5,h5,pr5⟩
   have jq:j<qs.length:=(List.getElem?_eq_some_iff.mp hy).1
   have jl:j<rs.length:=by have:=ra.1;lia
   obtain⟨q,eq,hq⟩:=ra1.at_ jl
   obtain rfl:=Option.some.inj (hy.symm.trans eq)
   obtain⟨tj,ej,etj,htj⟩:=hat j jl
   have sT2:=zaa hT2 (.tup [.int j,.ref q])
   have s6:=s5.trans sT2
   refine⟨T2,_,rfl,SqT.of zab,rfl,_,_,rfl,_,_,rfl,rfl,?_⟩
   have bound:=zcH a.told rs i
   have bound2:=zdY a.told rs i j
   have b3:i*rs.length≤60*60:=Nat.mul_le_mul (by lia) r60
   have pl:=pr5.len
   rw[List.length_append]at pl
   have stay:crB a.told rs i j=false→Prs (L2.upd H5 T2 (.tup [.int j,.ref q])) acc (crL a.told rs i++crR a.told rs i (j+1)):=fun c=>by
    rw[zbt,if_neg (by rw[c];exact Bool.false_ne_true),List.append_nil]
    exact pr5.tups (Tups.of sT2)
   refine⟨_,rfl,_,rfl,q,_,1,_,rfl,rfl,SqT.of (s6 _ _ hq),rfl,_,_,rfl,rfl,_,rfl,?_⟩
   have goL:decide (tM a.told i<(rs.getD j default).start)=false→crB a.told rs i j=false:=fun c=>by unfold crB;rw[c];rfl
   cases c1:decide (tM a.told i<(rs.getD j default).start) with
   | false=>exact iteF (iteF (nx (by exact jq) ⟨⟨_,_,rfl⟩,s6,sT2 _ _ h5,stay (goL c1)⟩))
   | true =>
    refine iteT ⟨_,rfl,_,rfl,_,rfl,p,_,_,_,rfl,rfl,SqT.of (s6 _ _ hx),zah etj,tj,_,0,_,rfl,rfl,SqT.of (s6 _ _ htj),rfl,_,_,rfl,rfl,_,rfl,?_⟩
    have eb:crB a.told rs i j=decide (tN a.told j<tN a.told i):=by unfold crB;rw[c1];rfl
    rw[← eb]
    refine ite2 (fun c=>?_) (fun c=>?_)
    ·refine⟨_,rfl,_,rfl,(by show 2≤sizeLine;decide),fun t2 ht2=>?_⟩
     have st:=zaa ht2 (.tup [.int i,.int j])
     have h7:=st _ _ (sT2 _ _ h5)
     refine⟨h7,by rw[pl,sizeLine_eq];lia,nx (by exact jq) ⟨⟨_,_,rfl⟩,fun b o e=>?_,zab,?_⟩⟩
     ·rw[zac (zad e hl)];exact st _ _ (s6 _ _ e)
     ·rw[zbt,if_pos c,← List.append_assoc]
      exact((pr5.tups (Tups.of (sT2.trans st))).tups (Tups.lst h7)).add (Tups.lst h7 _ _ zab)
    ·exact nx (by exact jq) ⟨⟨_,_,rfl⟩,s6,sT2 _ _ h5,stay (by simpa using c)⟩
  ·rintro acc σ H5 ⟨⟨v4,v5,rfl⟩,s5,h5,pr5⟩
   rw[ra.1,← zcG]at pr5
   exact nx (by rw[xl];exact il) ⟨⟨_,_,_,_,_,_,rfl⟩,s5,h5,pr5⟩
 ·rintro acc σ H3 ⟨_,s3,h3,pr3⟩
  rw[xl]at pr3
  refine⟨l,acc,rfl,.inl ⟨SqL.of h3,fun tc htc=>?_⟩⟩
  have s4:=zaa htc (.tup acc)
  exact k tc acc a _ ((s1.trans s3).trans s4) ch we (atNew htc _) (pr3.tups (Tups.of s4))
theorem scLd:FnScope ["_law_net_here","_law_runs_here","_law_told","_law_found","_law_i","_law_j"] ["_law_net_here","_law_runs_here"] (zae ziz):=⟨rfl,rfl,rfl,by decide +kernel,rfl,by decide +kernel,by decide +kernel⟩
theorem ziS {f fR:Addr}{fd dR:FuncData}(F:Fun K "_law_due" "_law_due" ziz f fd) (G:Mgs mg) (UR:Use P w K mg base "_law_ran" ["_law_net_here","_law_runs_here"] 1 zdv fR dR):FnOk P w K mg base CX0 2 f fd ["_law_net_here","_law_runs_here"] zba:=by
 refine F.ok scLd (fun vs H Q E h=>?_) (fun cdv A outer s H vs Q E hr h=>?_)
 ·obtain⟨r,fr,er,ps,N,pr,qs,rs,rfl,_⟩:=h
  rfl
 obtain⟨r,fr,er,ps,N,pr,qs,rs,rfl,ok,na,hp,ra,r60,rok,k⟩:=h
 refine⟨_,(@pss_cons _ _ _ _ _ (@ps_set _ _ 2 _ _ _ _ scLd.nd rfl (.inl rfl) (@pe_call _ _ _ _ _ _ _ _ _ _ _ _ _ _ _ _ UR.ok hr (by rfl) UR.m UR.kp UR.b .nil pass0 (@pa_cons _ _ _ _ _ (@pv _ 0 _ _ (by rfl) (by first|exact Or.inl rfl|exact Or.inr (.inl rfl)|exact Or.inr (.inr rfl)) (by decide) (by decide)) (@pa_cons _ _ _ _ _ (@pv _ 1 _ _ (by rfl) (by first|exact Or.inl rfl|exact Or.inr (.inl rfl)|exact Or.inr (.inr rfl)) (by decide) (by decide)) pa_nil (by rfl)) (by rfl)) (by decide) (by rfl) (by rfl)) (by rfl) (by first|exact .inl rfl|exact .inr rfl|assumption)) (@pss_cons _ _ _ _ _ (@ps_set _ _ 3 _ _ _ _ scLd.nd rfl (.inl rfl) (@pe_lst _ _ _ _ pa_nil) (by rfl) (by first|exact .inl rfl|exact .inr rfl|assumption)) (@pss_cons _ _ _ _ _ (@ps_for _ _ _ _ _ _ _ _ PassesOwn.never rfl (@zat _ _ _ _ _ _ rfl G.range (@pa_cons _ _ _ _ _ (@pe_callB _ _ _ _ _ _ _ _ _ call_len_seq (by rfl) G.len PySem.boot_len (@pa_cons _ _ _ _ _ (@pv _ 1 _ _ (by rfl) (by first|exact Or.inl rfl|exact Or.inr (.inl rfl)|exact Or.inr (.inr rfl)) (by decide) (by decide)) pa_nil (by rfl)) (by decide) (by decide) (by rfl) (by rfl)) pa_nil (by rfl)) (by rfl)) (@pg_name _ _ 4 _ scLd.nd rfl (.inl rfl) (by first|exact .inl rfl|exact .inr rfl|assumption)) (@pss_one _ _ _ (@ps_for _ _ _ _ _ _ _ _ PassesOwn.never rfl (@zat _ _ _ _ _ _ rfl G.range (@pa_cons _ _ _ _ _ (@pe_callB _ _ _ _ _ _ _ _ _ call_len_seq (by rfl) G.len PySem.boot_len (@pa_cons _ _ _ _ _ (@pv _ 1 _ _ (by rfl) (by first|exact Or.inl rfl|exact Or.inr (.inl rfl)|exact Or.inr (.inr rfl)) (by decide) (by decide)) pa_nil (by rfl)) (by decide) (by decide) (by rfl) (by rfl)) pa_nil (by rfl)) (by rfl)) (@pg_name _ _ 5 _ scLd.nd rfl (.inl rfl) (by first|exact .inl rfl|exact .inr rfl|assumption)) (@pss_one _ _ _ (@ps_if _ _ _ _ _ _ _ _ (@zed _ _ _ _ _ _ _ (@pt_cmpR _ _ _ _ _ _ _ _ zc2 (@pe_ix _ _ _ _ _ _ _ ix_tup (@pe_ix _ _ _ _ _ _ _ ix_tup (@pv _ 2 _ _ (by rfl) (by first|exact Or.inl rfl|exact Or.inr (.inl rfl)|exact Or.inr (.inr rfl)) (by decide) (by decide)) (@pv _ 4 _ _ (by rfl) (by first|exact Or.inl rfl|exact Or.inr (.inl rfl)|exact Or.inr (.inr rfl)) (by decide) (by decide)) (fun _ _=>rfl)) pe_int (fun _ _=>rfl)) (@pe_ix _ _ _ _ _ _ _ ix_tup (@pe_ix _ _ _ _ _ _ _ ix_tup (@pv _ 1 _ _ (by rfl) (by first|exact Or.inl rfl|exact Or.inr (.inl rfl)|exact Or.inr (.inr rfl)) (by decide) (by decide)) (@pv _ 5 _ _ (by rfl) (by first|exact Or.inl rfl|exact Or.inr (.inl rfl)|exact Or.inr (.inr rfl)) (by decide) (by decide)) (fun _ _=>rfl)) pe_int (fun _ _=>rfl)) (nomark _)) (@zcu _ _ _ _ (@pt_cmpR _ _ _ _ _ _ _ _ zg7 (@pe_ix _ _ _ _ _ _ _ ix_tup (@pe_ix _ _ _ _ _ _ _ ix_tup (@pv _ 2 _ _ (by rfl) (by first|exact Or.inl rfl|exact Or.inr (.inl rfl)|exact Or.inr (.inr rfl)) (by decide) (by decide)) (@pv _ 4 _ _ (by rfl) (by first|exact Or.inl rfl|exact Or.inr (.inl rfl)|exact Or.inr (.inr rfl)) (by decide) (by decide)) (fun _ _=>rfl)) pe_int (fun _ _=>rfl)) (@pe_ix _ _ _ _ _ _ _ ix_tup (@pe_ix _ _ _ _ _ _ _ ix_tup (@pv _ 2 _ _ (by rfl) (by first|exact Or.inl rfl|exact Or.inr (.inl rfl)|exact Or.inr (.inr rfl)) (by decide) (by decide)) (@pv _ 5 _ _ (by rfl) (by first|exact Or.inl rfl|exact Or.inr (.inl rfl)|exact Or.inr (.inr rfl)) (by decide) (by decide)) (fun _ _=>rfl)) pe_int (fun _ _=>rfl)) (nomark _)))).pt (@pss_one _ _ _ (@ps_expr _ _ _ _ (@pe_bm _ _ _ _ _ _ _ _ _ _ _ _ PySem.F.plainAttrs_list PySem.F.slot_list_append PySem.F.type_list_append mt_append (@pv _ 3 _ _ (by rfl) (by first|exact Or.inl rfl|exact Or.inr (.inl rfl)|exact Or.inr (.inr rfl)) (by decide) (by decide)) (@pa_cons _ _ _ _ _ (@pe_tup _ _ _ _ _ (@pa_cons _ _ _ _ _ (@pv _ 4 _ _ (by rfl) (by first|exact Or.inl rfl|exact Or.inr (.inl rfl)|exact Or.inr (.inr rfl)) (by decide) (by decide)) (@pa_cons _ _ _ _ _ (@pv _ 5 _ _ (by rfl) (by first|exact Or.inl rfl|exact Or.inr (.inl rfl)|exact Or.inr (.inr rfl)) (by decide) (by decide)) pa_nil (by rfl)) (by rfl))) pa_nil (by rfl)) (by rfl) (by rfl) (by rfl) (by rfl) (by rfl)) (by rfl))) pss_nil)) (by intro _;rfl))) (by intro _;rfl)) (@pss_one _ _ _ (@ps_ret _ _ _ _ (@pe_callTy _ _ _ _ _ _ _ _ _ call_tuple_of (by rfl) G.tuple (by rfl) (@pa_cons _ _ _ _ _ (@pv _ 3 _ _ (by rfl) (by first|exact Or.inl rfl|exact Or.inr (.inl rfl)|exact Or.inr (.inr rfl)) (by decide) (by decide)) pa_nil (by rfl)) (by decide) (by decide) (by rfl) (by rfl))))))),?_⟩
 refine⟨_,rfl,_,rfl,r,fr,er,ps,N,pr,qs,rs,rfl,ok,na,hp,ra,r60,rok,fun p a H1 s1 ch we pin td=>?_⟩
 obtain⟨xs,hx,xl,hat⟩:=td.at_
 have hp1:=s1 _ _ hp
 have ra1:=ra.tups (Tups.of s1)
 have ql:qs.length=rs.length:=ra.1
 refine⟨(by show 0≤sizeLine;decide),fun l hl=>?_⟩
 have s2:=zaa hl (.lst [])
 refine⟨_,rfl,pr,_,rfl,.inr (SqT.of (s2 _ _ hp1)),_,rfl,by lia,by lia,?_⟩
 refine zaw (lo:=0) (n:=((qs.length:Nat):Int).toNat) (fun i σ H3=>(∃ v4 v5,σ=[some (.ref r),some (.ref pr),some (.ref p),some (.ref l),v4,v5])∧Same H1 H3∧∃ acc,H3 l=some (.lst acc)∧Prs H3 acc (crL a.told rs i)) ⟨⟨_,_,rfl⟩,s2,[],zab,trivial⟩ ?_ ?_
 ·rintro i σ H3 hi ⟨⟨v4,v5,rfl⟩,s3,acc,h3,pr3⟩
  have il:i<rs.length:=by lia
  obtain⟨t,e,et,ht⟩:=hat i il
  refine⟨_,rfl,pr,_,rfl,.inr (SqT.of (s3 _ _ hp1)),_,rfl,by lia,by lia,?_⟩
  refine zaw (lo:=0) (n:=((qs.length:Nat):Int).toNat) (fun j σ H5=>(∃ v5,σ=[some (.ref r),some (.ref pr),some (.ref p),some (.ref l),some (.int (0+(i:Nat))),v5])∧Same H1 H5∧∃ acc,H5 l=some (.lst acc)∧Prs H5 acc (crL a.told rs i++crR a.told rs i j)) ⟨⟨_,rfl⟩,s3,acc,h3,?_⟩ ?_ ?_
  ·show Prs _ acc (crL a.told rs i++[])
   rw[List.append_nil];exact pr3
  ·rintro j σ H5 hj ⟨⟨v5,rfl⟩,s5,acc,h5,pr5⟩
   have jl:j<rs.length:=by lia
   obtain⟨q,eq,hq⟩:=ra1.at_ jl
   obtain⟨tj,ej,etj,htj⟩:=hat j jl
   have bound:=zcH a.told rs i
   have bound2:=zdY a.told rs i j
   have b3:i*rs.length≤60*60:=Nat.mul_le_mul (by lia) r60
   have pl:=pr5.len
   rw[List.length_append]at pl
   rw[show (0:Int)+(i:Nat)=(i:Nat) from Int.zero_add _,show (0:Int)+(j:Nat)=(j:Nat) from Int.zero_add _]
   have stay:crB a.told rs i j=false→Prs H5 acc (crL a.told rs i++crR a.told rs i (j+1)):=fun c=>by
    rw[zbt,if_neg (by rw[c];exact Bool.false_ne_true),List.append_nil]
    exact pr5
   refine⟨_,rfl,_,rfl,p,_,_,_,rfl,rfl,SqT.of (s5 _ _ hx),zah et,t,_,2,_,rfl,rfl,SqT.of (s5 _ _ ht),rfl,_,rfl,_,rfl,pr,_,_,_,rfl,rfl,SqT.of (s5 _ _ hp1),zah eq,q,_,1,_,rfl,rfl,SqT.of (s5 _ _ hq),rfl,_,_,rfl,rfl,_,rfl,?_⟩
   have goL:decide (tM a.told i<(rs.getD j default).start)=false→crB a.told rs i j=false:=fun c=>by unfold crB;rw[c];rfl
   cases c1:decide (tM a.told i<(rs.getD j default).start) with
   | false=>exact iteF (iteF ⟨⟨_,rfl⟩,s5,acc,h5,stay (goL c1)⟩)
   | true =>
    refine iteT ⟨_,rfl,_,rfl,p,_,_,_,rfl,rfl,SqT.of (s5 _ _ hx),zah et,t,_,0,_,rfl,rfl,SqT.of (s5 _ _ ht),rfl,_,rfl,_,rfl,p,_,_,_,rfl,rfl,SqT.of (s5 _ _ hx),zah etj,tj,_,0,_,rfl,rfl,SqT.of (s5 _ _ htj),rfl,_,_,rfl,rfl,_,rfl,?_⟩
    have eb:crB a.told rs i j=decide (tN a.told j<tN a.told i):=by unfold crB;rw[c1];rfl
    rw[← eb]
    refine ite2 (fun c=>?_) (fun c=>?_)
    ·refine⟨_,rfl,.inl ⟨rfl,_,SqL.of h5⟩,_,rfl,_,rfl,(by show 2≤sizeLine;decide),fun t2 ht2=>?_⟩
     have st:=zaa ht2 (.tup [.int i,.int j])
     have h7:=st _ _ h5
     refine⟨l,acc,_,rfl,rfl,h7,by rw[pl,sizeLine_eq];lia,⟨_,rfl⟩,fun b o e=>?_,_,zab,?_⟩
     ·rw[zac (zad e hl)];exact st _ _ (s5 _ _ e)
     ·rw[zbt,if_pos c,← List.append_assoc]
      exact((pr5.tups (Tups.of st)).tups (Tups.lst h7)).add (Tups.lst h7 _ _ zab)
    ·exact⟨⟨_,rfl⟩,s5,acc,h5,stay (by simpa using c)⟩
  ·rintro σ H5 ⟨⟨v5,rfl⟩,s5,acc,h5,pr5⟩
   rw[Int.toNat_natCast,ql,← zcG]at pr5
   exact⟨⟨_,_,rfl⟩,s5,acc,h5,pr5⟩
 ·rintro σ H3 ⟨⟨v4,v5,rfl⟩,s3,acc,h3,pr3⟩
  rw[Int.toNat_natCast,ql]at pr3
  refine⟨_,rfl,l,acc,rfl,.inl ⟨SqL.of h3,fun tc htc=>?_⟩⟩
  have s4:=zaa htc (.tup acc)
  exact k tc acc a _ ((s1.trans s3).trans s4) ch we (atNew htc _) (pr3.tups (Tups.of s4))
end
end K98
namespace Bn
open PySem L2 Own
theorem zj9 {ps:List V}{x:V}(h:ps[ps.length-1]?=some x):atI ps (-1)=some x:=by
 have ne:ps≠[]:=by rintro rfl;simp at h
 have g:ps.getLast ne=x:=by rw[List.getLast_eq_getElem];exact(List.getElem?_eq_some_iff.mp h).2
 have e:ps=ps.dropLast++[x]:=by rw[← g];exact(List.dropLast_concat_getLast ne).symm
 rw[e];exact zhH _ _
theorem zeM {ys zs:List V}(h:ys.Perm zs):∀ l:List Nat,zs=nums l→∃ es:List Nat,ys=nums es∧es.Perm l:=by
 induction h with
 | nil=>intro l e;cases l with
  | nil=>exact⟨[],rfl,.nil⟩
  | cons a b=>cases e
 | cons x _ ih=>intro l e;cases l with
  | nil=>cases e
  | cons a b =>
   have e':x=.int a∧_=nums b:=List.cons.inj e
   obtain⟨es,e1,p1⟩:=ih b e'.2
   exact⟨a::es,by rw[e'.1,e1];rfl,p1.cons a⟩
 | swap x y t=>intro l e;match l,e with
  | [],e=>cases e
  | [_],e=>cases (List.cons.inj e).2
  | a::b::c,e =>
   have e1:x=.int a∧y::t=nums (b::c):=List.cons.inj e
   have e2:y=.int b∧t=nums c:=List.cons.inj e1.2
   exact⟨b::a::c,by rw[e1.1,e2.1,e2.2];rfl,.swap a b c⟩
 | trans _ _ i1 i2 =>
  intro l e
  obtain⟨m,e1,p1⟩:=i2 l e
  obtain⟨n,e2,p2⟩:=i1 m e1
  exact⟨n,e2,p2.trans p1⟩
theorem zf1 {ys:List V}{l:List Nat}(h:ys.Perm (nums l)):∃ es:List Nat,ys=nums es∧es.Perm l:=zeM h l rfl
theorem zcb {α:Type}:∀ (xs:List α) (k:Nat) (h:k<xs.length),(xs[k]::xs.eraseIdx k).Perm xs
 | x::xs,0,_=>.refl _
 | x::xs,k+1,h=>by
  have hk:k<xs.length:=by simpa using h
  have ih:=zcb xs k hk
  exact(List.Perm.swap x xs[k] _).trans (ih.cons x)
end Bn
namespace K98
open PySem L2 Own Bn
abbrev sOf:Stmt:=top 32
abbrev zdz:Stmt:=top 33
abbrev sNet:Stmt:=top 34
def spOf:Sp:=fun vs H Q _=>∃ (l q:Addr) (xs:List V),vs=[.ref l,.ref q]∧PkAt H l∧q≠l∧H q=some (.lst xs)∧0<xs.length∧xs.length≤100000∧∀ (i:Nat) x H',xs[i]?=some x→PkAt H' l→But l H H'→Q x H'
def zcl:Sp:=fun vs H Q _=>∃ (l q:Addr) (xs:List V),vs=[.ref l,.ref q]∧PkAt H l∧q≠l∧H q=some (.lst xs)∧xs.length≤1000∧∀ r ys H',ys.Perm xs→H r=none→H' r=some (.lst ys)→PkAt H' l→But l H H'→Q (.ref r) H'
def zhL (most:Nat):Sp:=fun vs H Q _=>∃ (l:Addr) (lanes:Nat),vs=[.ref l,.int lanes,.int most]∧PkAt H l∧1≤lanes∧lanes≤16∧∀ r fr er ps N H',Nt.Ok N→N.lanes=lanes→N.forks.length≤most→NetAt H' r fr er ps N→PkAt H' l→But l H H'→Q (.ref r) H'
section
variable {P:Program}{w:World}{K:PySem.W.Frag}{mg:Str→Option Value}{base:Heap}
theorem scOf:FnScope ["_law_left_here","_law_some"] ["_law_left_here","_law_some"] (zae sOf):=⟨rfl,rfl,rfl,by decide +kernel,rfl,by decide +kernel,by decide +kernel⟩
theorem zkv {f fK:Addr}{fd dK:FuncData}(F:Fun K "_law_of" "_law_of" sOf f fd) (G:Mgs mg) (UK:Use P w K mg base "_law_pick" ["_law_left_here","_law_many"] 1 zbg fK dK):FnOk P w K mg base CX0 2 f fd ["_law_left_here","_law_some"] spOf:=by
 refine F.ok scOf (fun vs H Q E h=>?_) (fun cdv A outer s H vs Q E hr h=>?_)
 ·obtain⟨l,q,xs,rfl,_⟩:=h
  rfl
 obtain⟨l,q,xs,rfl,S,ne,hq,x0,xm,k⟩:=h
 refine⟨_,(@pss_one _ _ _ (@ps_ret _ _ _ _ (@pe_ix _ _ _ _ _ _ _ ix_list (@pv _ 1 _ _ (by rfl) (by first|exact Or.inl rfl|exact Or.inr (.inl rfl)|exact Or.inr (.inr rfl)) (by decide) (by decide)) (@pe_call _ _ _ _ _ _ _ _ _ _ _ _ _ _ _ _ UK.ok hr (by rfl) UK.m UK.kp UK.b .nil pass0 (@pa_cons _ _ _ _ _ (@pv _ 0 _ _ (by rfl) (by first|exact Or.inl rfl|exact Or.inr (.inl rfl)|exact Or.inr (.inr rfl)) (by decide) (by decide)) (@pa_cons _ _ _ _ _ (@pe_callB _ _ _ _ _ _ _ _ _ call_len_seq (by rfl) G.len PySem.boot_len (@pa_cons _ _ _ _ _ (@pv _ 1 _ _ (by rfl) (by first|exact Or.inl rfl|exact Or.inr (.inl rfl)|exact Or.inr (.inr rfl)) (by decide) (by decide)) pa_nil (by rfl)) (by decide) (by decide) (by rfl) (by rfl)) pa_nil (by rfl)) (by rfl)) (by decide) (by rfl) (by rfl)) (fun _ _=>rfl)))),?_⟩
 refine⟨_,rfl,_,rfl,_,rfl,q,_,rfl,.inl (SqL.of hq),l,_,rfl,by lia,by lia,S,fun v H1 hv S1 B1=>?_⟩
 have vl:v<xs.length:=by lia
 exact⟨q,_,_,_,rfl,rfl,SqL.of (B1 q _ hq ne),zah (List.getElem?_eq_getElem vl),k v _ H1 (List.getElem?_eq_getElem vl) S1 B1⟩
theorem scPl:FnScope ["_law_left_here","_law_some","_law_found"] ["_law_left_here","_law_some"] (zae zdz):=⟨rfl,rfl,rfl,by decide +kernel,rfl,by decide +kernel,by decide +kernel⟩
theorem zfW {f fK:Addr}{fd dK:FuncData}(F:Fun K "_law_placed" "_law_placed" zdz f fd) (G:Mgs mg) (UK:Use P w K mg base "_law_pick" ["_law_left_here","_law_many"] 1 zbg fK dK):FnOk P w K mg base CX0 2 f fd ["_law_left_here","_law_some"] zcl:=by
 refine F.ok scPl (fun vs H Q E h=>?_) (fun cdv A outer s H vs Q E hr h=>?_)
 ·obtain⟨l,q,xs,rfl,_⟩:=h
  rfl
 obtain⟨l,q,xs,rfl,S,ne,hq,xm,k⟩:=h
 refine⟨_,(@pss_cons _ _ _ _ _ (@ps_set _ _ 1 _ _ _ _ scPl.nd rfl (.inl rfl) (@pe_callTy _ _ _ _ _ _ _ _ _ zbl (by rfl) G.list (by rfl) (@pa_cons _ _ _ _ _ (@pv _ 1 _ _ (by rfl) (by first|exact Or.inl rfl|exact Or.inr (.inl rfl)|exact Or.inr (.inr rfl)) (by decide) (by decide)) pa_nil (by rfl)) (by decide) (by decide) (by rfl) (by rfl)) (by rfl) (by first|exact .inl rfl|exact .inr rfl|assumption)) (@pss_cons _ _ _ _ _ (@ps_set _ _ 2 _ _ _ _ scPl.nd rfl (.inl rfl) (@pe_lst _ _ _ _ pa_nil) (by rfl) (by first|exact .inl rfl|exact .inr rfl|assumption)) (@pss_cons _ _ _ _ _ (@ps_while _ _ _ _ _ _ PassesOwn.never (@pt_cmpR _ _ _ _ _ _ _ _ (zhW hr.units0) (@pv _ 1 _ _ (by rfl) (by first|exact Or.inl rfl|exact Or.inr (.inl rfl)|exact Or.inr (.inr rfl)) (by decide) (by decide)) (@pe_lst _ _ _ _ pa_nil) (nomark _)) (@pss_one _ _ _ (@ps_expr _ _ _ _ (@pe_bm _ _ _ _ _ _ _ _ _ _ _ _ PySem.F.plainAttrs_list PySem.F.slot_list_append PySem.F.type_list_append mt_append (@pv _ 2 _ _ (by rfl) (by first|exact Or.inl rfl|exact Or.inr (.inl rfl)|exact Or.inr (.inr rfl)) (by decide) (by decide)) (@pa_cons _ _ _ _ _ (@pe_bm _ _ _ _ _ _ _ _ _ _ _ _ PySem.F.plainAttrs_list PySem.F.slot_list_pop PySem.F.type_list_pop zhj (@pv _ 1 _ _ (by rfl) (by first|exact Or.inl rfl|exact Or.inr (.inl rfl)|exact Or.inr (.inr rfl)) (by decide) (by decide)) (@pa_cons _ _ _ _ _ (@pe_call _ _ _ _ _ _ _ _ _ _ _ _ _ _ _ _ UK.ok hr (by rfl) UK.m UK.kp UK.b .nil pass0 (@pa_cons _ _ _ _ _ (@pv _ 0 _ _ (by rfl) (by first|exact Or.inl rfl|exact Or.inr (.inl rfl)|exact Or.inr (.inr rfl)) (by decide) (by decide)) (@pa_cons _ _ _ _ _ (@pe_callB _ _ _ _ _ _ _ _ _ call_len_seq (by rfl) G.len PySem.boot_len (@pa_cons _ _ _ _ _ (@pv _ 1 _ _ (by rfl) (by first|exact Or.inl rfl|exact Or.inr (.inl rfl)|exact Or.inr (.inr rfl)) (by decide) (by decide)) pa_nil (by rfl)) (by decide) (by decide) (by rfl) (by rfl)) pa_nil (by rfl)) (by rfl)) (by decide) (by rfl) (by rfl)) pa_nil (by rfl)) (by rfl) (by rfl) (by rfl) (by rfl) (by rfl)) pa_nil (by rfl)) (by rfl) (by rfl) (by rfl) (by rfl) (by rfl)) (by rfl)))) (@pss_one _ _ _ (@ps_ret _ _ _ _ (@pv _ 2 _ _ (by rfl) (by first|exact Or.inl rfl|exact Or.inr (.inl rfl)|exact Or.inr (.inr rfl)) (by decide) (by decide))))))),?_⟩
 refine⟨_,rfl,q,_,rfl,.inl (SqL.of hq),fun lo hlo=>?_⟩
 have s1:=zaa hlo (.lst xs)
 have nlo:=S.ne hlo
 refine⟨(by show 0≤sizeLine;decide),fun lt hlt=>?_⟩
 have s2:=zaa hlt (.lst [])
 have nlt:=(S.keep s1).ne hlt
 have not:lo≠lt:=zad zab hlt
 have flo:Frs l H lo:=fun b o e _=>zad e hlo
 have flt:Frs l H lt:=fun b o e _=>zad (s1 _ _ e) hlt
 have hlt0:H lt=none:=by
  cases z:H lt with
  | none=>rfl
  | some o=>rw[s1 _ _ z]at hlt;cases hlt
 refine⟨fun m σ H3=>σ=[some (.ref l),some (.ref lo),some (.ref lt)]∧PkAt H3 l∧But l H H3∧∃ us ys,H3 lo=some (.lst us)∧us.length=m∧H3 lt=some (.lst ys)∧(ys++us).Perm xs,
  ⟨_,rfl,(S.keep s1).keep s2,(But.of s1).trans (But.of s2),xs,[],by rw[zac not];exact zab,rfl,zab,.refl _⟩,?_⟩
 rintro m σ H3 ⟨rfl,S3,B3,us,ys,hu,ul,hy,pm⟩
 refine⟨_,rfl,(by show 0≤sizeLine;decide),fun e he=>?_⟩
 have s4:=zaa he (.lst [])
 refine⟨lo,e,us,rfl,rfl,SqL.of (s4 _ _ hu),SqL.of zab,_,rfl,?_⟩
 have S4:=S3.keep s4
 have B4:But l H (L2.upd H3 e (.lst [])):=B3.trans (But.of s4)
 have hu4:=s4 _ _ hu
 have hy4:=s4 _ _ hy
 generalize L2.upd H3 e (.lst [])=H4 at *
 have tot:ys.length+us.length=xs.length:=by rw[← List.length_append];exact pm.length_eq
 by_cases un:us=[]
 ·rw[show (!us.isEmpty)=false by rw[un];rfl]
  refine iteF ⟨_,rfl,k lt ys H4 ?_ hlt0 hy4 S4 B4⟩
  rw[un,List.append_nil]at pm;exact pm
 have up:0<us.length:=List.length_pos_iff.mpr un
 rw[show (!us.isEmpty)=true by cases us with
  | nil=>exact absurd rfl un
  | cons a b=>rfl]
 refine iteT ⟨_,fun σ' H' hN=>⟨m-1,by lia,hN⟩,?_⟩
 refine⟨_,rfl,.inl ⟨rfl,_,SqL.of hy4⟩,_,rfl,.inl ⟨rfl,_,SqL.of hu4⟩,_,rfl,_,rfl,lo,_,rfl,.inl (SqL.of hu4),l,_,rfl,by lia,by lia,S4,fun kk H5 hk S5 B5=>?_⟩
 have kl:kk<us.length:=by lia
 have hu5:=B5 lo _ hu4 nlo.symm
 have hy5:=B5 lt _ hy4 nlt.symm
 refine⟨lo,_,_,kk,us[kk],rfl,rfl,hu5,by lia,by lia,(zdQ (zbW (xs:=us) (i:=kk) kl)).1,List.getElem?_eq_getElem kl,?_⟩
 have hy6:upd H5 lo (.lst (us.eraseIdx kk)) lt=some (.lst ys):=by rw[zac not.symm];exact hy5
 refine⟨lt,_,_,rfl,rfl,hy6,Nat.lt_of_lt_of_le (show ys.length<1001 by lia) (by decide),rfl,(S5.upd nlo).upd nlt,((B4.trans B5).upd flo).upd flt,us.eraseIdx kk,ys++[us[kk]],by rw[zac not];exact zab,by rw[List.length_eraseIdx,if_pos kl];lia,zab,?_⟩
 refine List.Perm.trans ?_ pm
 rw[List.append_assoc]
 refine List.Perm.append_left ys ?_
 exact zcb us kk kl
theorem scN:FnScope ["_law_left_here","_law_lanes_here","_law_most","_law_forks","_law_k","_law_a","_law_b","_law_ends"] ["_law_left_here","_law_lanes_here","_law_most"] (zae sNet):=⟨rfl,rfl,rfl,by decide +kernel,rfl,by decide +kernel,by decide +kernel⟩
theorem zjM {f fK fO fP:Addr}{fd dK dO dP:FuncData}(most:Nat) (hmost:most≤100) (F:Fun K "_law_net" "_law_net" sNet f fd) (G:Mgs mg) (UK:Use P w K mg base "_law_pick" ["_law_left_here","_law_many"] 1 zbg fK dK) (UO:Use P w K mg base "_law_of" ["_law_left_here","_law_some"] 2 spOf fO dO) (UP:Use P w K mg base "_law_placed" ["_law_left_here","_law_some"] 2 zcl fP dP):FnOk P w K mg base CX0 3 f fd ["_law_left_here","_law_lanes_here","_law_most"] (zhL most):=by
 refine F.ok scN (fun vs H Q E h=>?_) (fun cdv A outer s H vs Q E hr h=>?_)
 ·obtain⟨l,lanes,rfl,_⟩:=h
  rfl
 obtain⟨l,lanes,rfl,S,l1,l16,k⟩:=h
 have hr1:Room 1 _:=hr.mono (by decide)
 refine⟨_,(@pss_cons _ _ _ _ _ (@ps_set _ _ 3 _ _ _ _ scN.nd rfl (.inl rfl) (@pe_lst _ _ _ _ pa_nil) (by rfl) (by first|exact .inl rfl|exact .inr rfl|assumption)) (@pss_cons _ _ _ _ _ (@ps_for _ _ _ _ _ _ _ _ PassesOwn.never rfl (@zat _ _ _ _ _ _ rfl G.range (@pa_cons _ _ _ _ _ (@pe_op _ _ _ _ _ _ _ _ op_mul (@pe_call _ _ _ _ _ _ _ _ _ _ _ _ _ _ _ _ UK.ok hr1 (by rfl) UK.m UK.kp UK.b .nil pass0 (@pa_cons _ _ _ _ _ (@pv _ 0 _ _ (by rfl) (by first|exact Or.inl rfl|exact Or.inr (.inl rfl)|exact Or.inr (.inr rfl)) (by decide) (by decide)) (@pa_cons _ _ _ _ _ (@pe_op _ _ _ _ _ _ _ _ op_add (@pv _ 2 _ _ (by rfl) (by first|exact Or.inl rfl|exact Or.inr (.inl rfl)|exact Or.inr (.inr rfl)) (by decide) (by decide)) pe_int) pa_nil (by rfl)) (by rfl)) (by decide) (by rfl) (by rfl)) (@pe_callTy _ _ _ _ _ _ _ _ _ zdg (by rfl) G.int (by rfl) (@pa_cons _ _ _ _ _ (@zfS _ _ _ _ _ _ _ _ zg7 (@pv _ 1 _ _ (by rfl) (by first|exact Or.inl rfl|exact Or.inr (.inl rfl)|exact Or.inr (.inr rfl)) (by decide) (by decide)) pe_int (nomark _)) pa_nil (by rfl)) (by decide) (by decide) (by rfl) (by rfl))) pa_nil (by rfl)) (by rfl)) (@pg_name _ _ 4 _ scN.nd rfl (.inl rfl) (by first|exact .inl rfl|exact .inr rfl|assumption)) (@pss_cons _ _ _ _ _ (@ps_set _ _ 5 _ _ _ _ scN.nd rfl (.inl rfl) (@pe_call _ _ _ _ _ _ _ _ _ _ _ _ _ _ _ _ UK.ok hr1 (by rfl) UK.m UK.kp UK.b .nil pass0 (@pa_cons _ _ _ _ _ (@pv _ 0 _ _ (by rfl) (by first|exact Or.inl rfl|exact Or.inr (.inl rfl)|exact Or.inr (.inr rfl)) (by decide) (by decide)) (@pa_cons _ _ _ _ _ (@pv _ 1 _ _ (by rfl) (by first|exact Or.inl rfl|exact Or.inr (.inl rfl)|exact Or.inr (.inr rfl)) (by decide) (by decide)) pa_nil (by rfl)) (by rfl)) (by decide) (by rfl) (by rfl)) (by rfl) (by first|exact .inl rfl|exact .inr rfl|assumption)) (@pss_cons _ _ _ _ _ (@ps_set _ _ 6 _ _ _ _ scN.nd rfl (.inl rfl) (@pe_op _ _ _ _ _ _ _ _ op_mod (@pe_op _ _ _ _ _ _ _ _ op_add (@pe_op _ _ _ _ _ _ _ _ op_add (@pv _ 5 _ _ (by rfl) (by first|exact Or.inl rfl|exact Or.inr (.inl rfl)|exact Or.inr (.inr rfl)) (by decide) (by decide)) pe_int) (@pe_call _ _ _ _ _ _ _ _ _ _ _ _ _ _ _ _ UK.ok hr1 (by rfl) UK.m UK.kp UK.b .nil pass0 (@pa_cons _ _ _ _ _ (@pv _ 0 _ _ (by rfl) (by first|exact Or.inl rfl|exact Or.inr (.inl rfl)|exact Or.inr (.inr rfl)) (by decide) (by decide)) (@pa_cons _ _ _ _ _ (@pe_op _ _ _ _ _ _ _ _ op_sub (@pv _ 1 _ _ (by rfl) (by first|exact Or.inl rfl|exact Or.inr (.inl rfl)|exact Or.inr (.inr rfl)) (by decide) (by decide)) pe_int) pa_nil (by rfl)) (by rfl)) (by decide) (by rfl) (by rfl))) (@pv _ 1 _ _ (by rfl) (by first|exact Or.inl rfl|exact Or.inr (.inl rfl)|exact Or.inr (.inr rfl)) (by decide) (by decide))) (by rfl) (by first|exact .inl rfl|exact .inr rfl|assumption)) (@pss_cons _ _ _ _ _ (@ps_if _ _ _ _ _ _ _ _ (@zed _ _ _ _ _ _ _ (@pt_cmpR _ _ _ _ _ _ _ _ (zhW hr.units0) (@pv _ 3 _ _ (by rfl) (by first|exact Or.inl rfl|exact Or.inr (.inl rfl)|exact Or.inr (.inr rfl)) (by decide) (by decide)) (@pe_lst _ _ _ _ pa_nil) (nomark _)) (@zcu _ _ _ _ (@pt_cmpR _ _ _ _ _ _ _ _ op_eq (@pe_call _ _ _ _ _ _ _ _ _ _ _ _ _ _ _ _ UK.ok hr1 (by rfl) UK.m UK.kp UK.b .nil pass0 (@pa_cons _ _ _ _ _ (@pv _ 0 _ _ (by rfl) (by first|exact Or.inl rfl|exact Or.inr (.inl rfl)|exact Or.inr (.inr rfl)) (by decide) (by decide)) (@pa_cons _ _ _ _ _ pe_int pa_nil (by rfl)) (by rfl)) (by decide) (by rfl) (by rfl)) pe_int (nomark _)))).pt (@pss_one _ _ _ (@ps_asg _ _ _ _ _ _ (@ziK _ _ _ _ _ _ _ (@pe_ix _ _ _ _ _ _ _ ix_list (@pv _ 3 _ _ (by rfl) (by first|exact Or.inl rfl|exact Or.inr (.inl rfl)|exact Or.inr (.inr rfl)) (by decide) (by decide)) (@zjI _ _ _ _ _ _ zhJ pe_int) (fun _ _=>rfl)) (@zau _ _ _ (@pe_call _ _ _ _ _ _ _ _ _ _ _ _ _ _ _ _ UO.ok hr (by rfl) UO.m UO.kp UO.b .nil pass0 (@pa_cons _ _ _ _ _ (@pv _ 0 _ _ (by rfl) (by first|exact Or.inl rfl|exact Or.inr (.inl rfl)|exact Or.inr (.inr rfl)) (by decide) (by decide)) (@pa_cons _ _ _ _ _ (@pe_lst _ _ _ _ (@pa_cons _ _ _ _ _ pe_int (@pa_cons _ _ _ _ _ (@zjI _ _ _ _ _ _ zhJ pe_int) pa_nil (by rfl)) (by rfl))) pa_nil (by rfl)) (by rfl)) (by decide) (by rfl) (by rfl)))) (@pg_tup _ _ _ _ _ _ rfl (@pgs_cons _ _ _ _ _ (@pg_name _ _ 5 _ scN.nd rfl (.inl rfl) (by first|exact .inl rfl|exact .inr rfl|assumption)) (@pgs_cons _ _ _ _ _ (@pg_name _ _ 6 _ scN.nd rfl (.inl rfl) (by first|exact .inl rfl|exact .inr rfl|assumption)) pgs_nil (by rfl)) (by rfl)) (by rfl) (by rfl)) (by rfl) (by rfl) (by rfl))) pss_nil) (@pss_one _ _ _ (@ps_expr _ _ _ _ (@pe_bm _ _ _ _ _ _ _ _ _ _ _ _ PySem.F.plainAttrs_list PySem.F.slot_list_append PySem.F.type_list_append mt_append (@pv _ 3 _ _ (by rfl) (by first|exact Or.inl rfl|exact Or.inr (.inl rfl)|exact Or.inr (.inr rfl)) (by decide) (by decide)) (@pa_cons _ _ _ _ _ (@pe_tup _ _ _ _ _ (@pa_cons _ _ _ _ _ (@pv _ 5 _ _ (by rfl) (by first|exact Or.inl rfl|exact Or.inr (.inl rfl)|exact Or.inr (.inr rfl)) (by decide) (by decide)) (@pa_cons _ _ _ _ _ (@pv _ 6 _ _ (by rfl) (by first|exact Or.inl rfl|exact Or.inr (.inl rfl)|exact Or.inr (.inr rfl)) (by decide) (by decide)) pa_nil (by rfl)) (by rfl))) pa_nil (by rfl)) (by rfl) (by rfl) (by rfl) (by rfl) (by rfl)) (by rfl)))))) (by intro _;rfl)) (@pss_cons _ _ _ _ _ (@ps_set _ _ 7 _ _ _ _ scN.nd rfl (.inl rfl) (@pe_lstRng _ _ _ _ _ _ _ rfl (by rfl) G.list (by rfl) G.range (@pa_cons _ _ _ _ _ (@pv _ 1 _ _ (by rfl) (by first|exact Or.inl rfl|exact Or.inr (.inl rfl)|exact Or.inr (.inr rfl)) (by decide) (by decide)) pa_nil (by rfl)) (by rfl) (by rfl)) (by rfl) (by first|exact .inl rfl|exact .inr rfl|assumption)) (@pss_cons _ _ _ _ _ (@ps_if _ _ _ _ _ _ _ _ (@pt_cmpR _ _ _ _ _ _ _ _ op_eq (@pe_call _ _ _ _ _ _ _ _ _ _ _ _ _ _ _ _ UK.ok hr1 (by rfl) UK.m UK.kp UK.b .nil pass0 (@pa_cons _ _ _ _ _ (@pv _ 0 _ _ (by rfl) (by first|exact Or.inl rfl|exact Or.inr (.inl rfl)|exact Or.inr (.inr rfl)) (by decide) (by decide)) (@pa_cons _ _ _ _ _ pe_int pa_nil (by rfl)) (by rfl)) (by decide) (by rfl) (by rfl)) pe_int (nomark _)) (@pss_one _ _ _ (@ps_set _ _ 7 _ _ _ _ scN.nd rfl (.inl rfl) (@pe_call _ _ _ _ _ _ _ _ _ _ _ _ _ _ _ _ UP.ok hr (by rfl) UP.m UP.kp UP.b .nil pass0 (@pa_cons _ _ _ _ _ (@pv _ 0 _ _ (by rfl) (by first|exact Or.inl rfl|exact Or.inr (.inl rfl)|exact Or.inr (.inr rfl)) (by decide) (by decide)) (@pa_cons _ _ _ _ _ (@pv _ 7 _ _ (by rfl) (by first|exact Or.inl rfl|exact Or.inr (.inl rfl)|exact Or.inr (.inr rfl)) (by decide) (by decide)) pa_nil (by rfl)) (by rfl)) (by decide) (by rfl) (by rfl)) (by rfl) (by first|exact .inl rfl|exact .inr rfl|assumption))) pss_nil) (@pss_one _ _ _ (@ps_ret _ _ _ _ (@pe_tup _ _ _ _ _ (@pa_cons _ _ _ _ _ (@pv _ 1 _ _ (by rfl) (by first|exact Or.inl rfl|exact Or.inr (.inl rfl)|exact Or.inr (.inr rfl)) (by decide) (by decide)) (@pa_cons _ _ _ _ _ (@pe_callTy _ _ _ _ _ _ _ _ _ call_tuple_of (by rfl) G.tuple (by rfl) (@pa_cons _ _ _ _ _ (@pv _ 3 _ _ (by rfl) (by first|exact Or.inl rfl|exact Or.inr (.inl rfl)|exact Or.inr (.inr rfl)) (by decide) (by decide)) pa_nil (by rfl)) (by decide) (by decide) (by rfl) (by rfl)) (@pa_cons _ _ _ _ _ (@pe_callTy _ _ _ _ _ _ _ _ _ call_tuple_of (by rfl) G.tuple (by rfl) (@pa_cons _ _ _ _ _ (@pv _ 7 _ _ (by rfl) (by first|exact Or.inl rfl|exact Or.inr (.inl rfl)|exact Or.inr (.inr rfl)) (by decide) (by decide)) pa_nil (by rfl)) (by decide) (by decide) (by rfl) (by rfl)) pa_nil (by rfl)) (by rfl)) (by rfl))))))))),?_⟩
 refine⟨(by show 0≤sizeLine;decide),fun lf hlf=>?_⟩
 have nlf:=S.ne hlf
 have B0:But l H (L2.upd H lf (.lst [])):=But.of (zaa hlf _)
 have flf:Frs l H lf:=fun b o e _=>zad e hlf
 refine⟨_,rfl,_,rfl,_,_,rfl,rfl,l,_,rfl,by lia,by lia,S.upd nlf,fun kv H1 hkv S1 B1=>?_⟩
 refine⟨_,rfl,_,_,rfl,rfl,.inr ⟨_,rfl,_,_,rfl,rfl,.inl ⟨by lia,by lia⟩,?_⟩⟩
 have cb:((kv:Int)*(if decide ((1:Int)<lanes)=true then 1 else 0))=((if 1<lanes then kv else 0:Nat):Int):=by
  by_cases z:1<lanes
  ·rw[if_pos (decide_eq_true (by lia)),if_pos z];lia
  ·rw[if_neg (by rw[decide_eq_false (by lia)];exact Bool.false_ne_true),if_neg z];lia
 have cl:(if 1<lanes then kv else 0)≤most:=by split<;>lia
 refine⟨_,rfl,by rw[cb];lia,by rw[cb];lia,?_⟩
 rw[cb]
 generalize hcnt:(if 1<lanes then kv else 0)=cnt at cl
 refine zaw (lo:=0) (n:=((cnt:Nat):Int).toNat) (fun i σ H2=>(∃ w4 w5 w6 w7,σ=[some (.ref l),some (.int lanes),some (.int most),some (.ref lf),w4,w5,w6,w7])∧PkAt H2 l∧But l H H2∧∃ ps fs,H2 lf=some (.lst ps)∧Prs H2 ps fs∧fs.length=i∧∀ f∈fs,f.1<lanes∧f.2<lanes∧f.1≠f.2)
  ⟨⟨_,_,_,_,rfl⟩,S1,B0.trans B1,[],[],B1 lf _ zab nlf.symm,trivial,rfl,fun f hf=>by simp at hf⟩ ?_ ?_
 ·rintro i σ H2 hi ⟨⟨w4,w5,w6,w7,rfl⟩,S2,B2,ps,fs,h2,p2,fl,fok⟩
  have l2:1<lanes:=by
   by_cases z:1<lanes
   ·exact z
   ·rw[if_neg z]at hcnt;lia
  refine⟨_,rfl,_,rfl,l,lanes,rfl,by lia,by lia,S2,fun one H3 ho S3 B3=>?_⟩
  refine⟨_,rfl,_,_,rfl,rfl,_,rfl,_,rfl,_,_,rfl,rfl,l,_,rfl,by lia,by lia,S3,fun d H4 hd S4 B4=>?_⟩
  refine⟨_,_,rfl,rfl,_,rfl,_,_,rfl,rfl,by lia,?_⟩
  have hone:one<lanes:=by lia
  obtain⟨ok1,ok2⟩:=zg6 (one:=one) (d:=d) (lanes:=lanes) hone (by lia)
  have ec:((one:Int)+1+d)%lanes=(((one+1+d)%lanes:Nat):Int):=by rw[Int.natCast_emod,Int.natCast_add,Int.natCast_add];rfl
  dsimp only
  rw[ec]
  generalize (one+1+d)%lanes=oth at ok1 ok2
  have h4:=B4 lf _ (B3 lf _ h2 nlf.symm) nlf.symm
  have p4:=p2.tups ((B3.tups S2).trans (B4.tups S3))
  have B4':But l H H4:=(B2.trans B3).trans B4
  have fin:∀ (a b:Nat) (H5:Hp),a<lanes→b<lanes→a≠b→PkAt H5 l→But l H H5→H5 lf=some (.lst ps)→Prs H5 ps fs→∀ t:Addr,H5 t=none→ps.length<sizeLine∧PkAt (upd (upd H5 t (.tup [.int a,.int b])) lf (.lst (ps++[.ref t]))) l∧But l H (upd (upd H5 t (.tup [.int a,.int b])) lf (.lst (ps++[.ref t]))) ∧
    ∃ ps' fs',upd (upd H5 t (.tup [.int a,.int b])) lf (.lst (ps++[.ref t])) lf=some (.lst ps')∧Prs (upd (upd H5 t (.tup [.int a,.int b])) lf (.lst (ps++[.ref t]))) ps' fs'∧fs'.length=i+1∧∀ f∈fs',f.1<lanes∧f.2<lanes∧f.1≠f.2:=fun a b H5 ha hb ab S5 B5 h5 p5 t ht=>by
   have st:=zaa ht (.tup [.int a,.int b])
   have h6:=st _ _ h5
   have T6:Tups (upd H5 t (.tup [.int a,.int b])) (upd (upd H5 t (.tup [.int a,.int b])) lf (.lst (ps++[.ref t]))):=Tups.lst h6
   refine⟨by rw[p5.len,fl];exact Nat.lt_of_lt_of_le (show i<1000 by lia) (by decide),(S5.keep st).upd nlf,(B5.trans (But.of st)).upd flf,_,fs++[(a,b)],zab,((p5.tups (Tups.of st)).tups T6).add (f:=(a,b)) (T6 _ _ zab),by rw[List.length_append,fl];rfl,fun f hf=>?_⟩
   rcases List.mem_append.mp hf with z|z
   ·exact fok f z
   ·rw[List.mem_singleton.mp z];exact⟨ha,hb,ab⟩
  refine⟨_,rfl,(by show 0≤sizeLine;decide),fun e he=>?_⟩
  have s5:=zaa he (.lst [])
  refine⟨lf,e,ps,rfl,rfl,SqL.of (s5 _ _ h4),SqL.of zab,_,rfl,?_⟩
  have S5:=S4.keep s5
  have B5:But l H (L2.upd H4 e (.lst [])):=B4'.trans (But.of s5)
  have h5:=s5 _ _ h4
  have p5:=p4.tups (Tups.of s5)
  generalize L2.upd H4 e (.lst [])=H5 at *
  by_cases pn:ps=[]
  ·rw[show (!ps.isEmpty)=false by rw[pn];rfl]
   refine iteF ?_
   refine⟨_,rfl,.inl ⟨rfl,_,SqL.of h5⟩,_,rfl,_,rfl,(by show 2≤sizeLine;decide),fun t ht=>?_⟩
   obtain⟨z,a1,a2,a3⟩:=fin one oth H5 hone ok1 ok2 S5 B5 h5 p5 t ht
   exact⟨lf,_,_,rfl,rfl,zaa ht _ _ _ h5,z,⟨_,_,_,_,rfl⟩,a1,a2,a3⟩
  rw[show (!ps.isEmpty)=true by cases ps with
   | nil=>exact absurd rfl pn
   | cons a b=>rfl]
  refine iteT ⟨_,rfl,l,4,rfl,by decide,by decide,S5,fun y H6 hy S6 B6=>⟨rfl,_,rfl,?_⟩⟩
  have h6:=B6 lf _ h5 nlf.symm
  have p6:=p5.tups (B6.tups S5)
  have B6':But l H H6:=B5.trans B6
  refine ite2 (fun _=>?_) (fun _=>?_)
  ·-- the last one anew
   have pp:0<ps.length:=List.length_pos_iff.mpr pn
   have lx:ps[ps.length-1]?=some ps[ps.length-1]:=List.getElem?_eq_getElem (by lia)
   obtain⟨a,g,ea,eg,ha⟩:=p6.get lx
   have okg:=fok g (List.mem_of_getElem? eg)
   rw[ea]at lx
   refine⟨_,rfl,_,rfl,lf,_,_,_,rfl,rfl,SqL.of h6,zj9 lx,?_⟩
   refine⟨_,rfl,_,rfl,(by show 2≤sizeLine;decide),fun q hq=>?_⟩
   have s7:=zaa hq (.lst [.int 1,.int (-1)])
   have nlq:=S6.ne hq
   refine⟨l,q,_,rfl,S6.keep s7,nlq.symm,zab,by show 0<2;decide,by show 2≤100000;decide,fun j x H8 hx S8 B8=>?_⟩
   have T8:Tups H6 H8:=(Tups.of s7).trans (B8.tups (S6.keep s7))
   have h8:=B8 lf _ (s7 _ _ h6) nlf.symm
   have B8':But l H H8:=(B6'.trans (But.of s7)).trans B8
   have jl:=(List.getElem?_eq_some_iff.mp hx).1
   simp only[List.length_cons,List.length_nil]at jl
   rcases j with _|_|j
   ·obtain rfl:=Option.some.inj hx
    refine⟨_,rfl,a,_,_,rfl,SqT.of (T8 _ _ ha),.inl ⟨rfl,?_⟩⟩
    refine⟨a,_,rfl,SqT.of (T8 _ _ ha),rfl,_,_,rfl,_,_,rfl,rfl,?_⟩
    refine⟨_,rfl,.inl ⟨rfl,_,SqL.of h8⟩,_,rfl,_,rfl,(by show 2≤sizeLine;decide),fun t ht=>?_⟩
    obtain⟨z,a1,a2,a3⟩:=fin g.1 g.2 H8 okg.1 okg.2.1 okg.2.2 S8 B8' h8 (p6.tups T8) t ht
    exact⟨lf,_,_,rfl,rfl,zaa ht _ _ _ h8,z,⟨_,_,_,_,rfl⟩,a1,a2,a3⟩
   ·obtain rfl:=Option.some.inj hx
    refine⟨_,rfl,a,_,_,rfl,SqT.of (T8 _ _ ha),.inr ⟨rfl,fun b hb=>?_⟩⟩
    have s9:=zaa hb (.tup [.int g.2,.int g.1])
    refine⟨b,_,rfl,SqT.of zab,rfl,_,_,rfl,_,_,rfl,rfl,?_⟩
    refine⟨_,rfl,.inl ⟨rfl,_,SqL.of (s9 _ _ h8)⟩,_,rfl,_,rfl,(by show 2≤sizeLine;decide),fun t ht=>?_⟩
    obtain⟨z,a1,a2,a3⟩:=fin g.2 g.1 _ okg.2.1 okg.1 (Ne.symm okg.2.2) (S8.keep s9) (B8'.trans (But.of s9)) (s9 _ _ h8) ((p6.tups T8).tups (Tups.of s9)) t ht
    exact⟨lf,_,_,rfl,rfl,zaa ht _ _ _ (s9 _ _ h8),z,⟨_,_,_,_,rfl⟩,a1,a2,a3⟩
   ·lia
  ·refine⟨_,rfl,.inl ⟨rfl,_,SqL.of h6⟩,_,rfl,_,rfl,(by show 2≤sizeLine;decide),fun t ht=>?_⟩
   obtain⟨z,a1,a2,a3⟩:=fin one oth H6 hone ok1 ok2 S6 B6' h6 p6 t ht
   exact⟨lf,_,_,rfl,rfl,zaa ht _ _ _ h6,z,⟨_,_,_,_,rfl⟩,a1,a2,a3⟩
 ·rintro σ H2 ⟨⟨w4,w5,w6,w7,rfl⟩,S2,B2,ps,fs,h2,p2,fl,fok⟩
  refine⟨_,rfl,lanes,rfl,by lia,fun le hle=>?_⟩
  have s3:=zaa hle (if true=true then HO.lst (upTo lanes) else .tup (upTo lanes))
  have e3:upd H2 le (if true=true then HO.lst (upTo lanes) else .tup (upTo lanes)) le=some (.lst (nums (List.range lanes))):=zab
  have nle:=S2.ne hle
  have S3:=S2.keep s3
  have B3:But l H (upd H2 le (if true=true then HO.lst (upTo lanes) else .tup (upTo lanes))):=B2.trans (But.of s3)
  have h3:=s3 _ _ h2
  have p3:=p2.tups (Tups.of s3)
  generalize upd H2 le (if true=true then HO.lst (upTo lanes) else .tup (upTo lanes))=H3 at *
  have fin:∀ (el:Addr) (es:List Nat) (w4 w5 w6:Option V) (H4:Hp),es.Perm (List.range lanes)→H4 el=some (.lst (nums es))→PkAt H4 l→But l H H4→H4 lf=some (.lst ps)→Prs H4 ps fs→∀ fr,H4 fr=none→∀ er,upd H4 fr (.tup ps) er=none→∀ r,upd (upd H4 fr (.tup ps)) er (.tup (nums es)) r=none→Q (.ref r) (upd (upd (upd H4 fr (.tup ps)) er (.tup (nums es))) r (.tup [.int lanes,.ref fr,.ref er])):=fun el es w4 w5 w6 H4 pe he S4 B4 h4 p4 fr hfr er her r hr'=>by
   have t1:=zaa hfr (.tup ps)
   have t2:=zaa her (.tup (nums es))
   have t3:=zaa hr' (.tup [.int lanes,.ref fr,.ref er])
   have t:=(t1.trans t2).trans t3
   exact k r fr er ps ⟨lanes,fs,es⟩ _ ⟨l1,l16,by show fs.length≤128;lia,fok,pe⟩ rfl (by show fs.length≤most;lia) ⟨zab,(t2.trans t3) _ _ zab,p4.tups (Tups.of t),t3 _ _ zab⟩ (S4.keep t) (B4.trans (But.of t))
  refine⟨_,rfl,l,2,rfl,by decide,by decide,S3,fun y H4 hy S4 B4=>⟨rfl,_,rfl,?_⟩⟩
  have e4:=B4 le _ e3 nle.symm
  have h4:=B4 lf _ h3 nlf.symm
  have p4:=p3.tups (B4.tups S3)
  refine ite2 (fun _=>?_) (fun _=>?_)
  ·refine⟨_,rfl,_,rfl,l,le,_,rfl,S4,nle.symm,e4,by rw[zag,List.length_range];lia,fun el ys H5 pm hel e5 S5 B5=>?_⟩
   obtain⟨es,rfl,pe⟩:∃ es:List Nat,ys=nums es∧es.Perm (List.range lanes):=zf1 pm
   have h5:=B5 lf _ h4 nlf.symm
   refine⟨_,rfl,_,rfl,lf,_,rfl,.inl ⟨SqL.of h5,fun fr hfr=>⟨_,rfl,el,_,rfl,.inl ⟨SqL.of (zaa hfr _ _ _ e5),fun er her=>⟨(by show 3≤sizeLine;decide),fun r hr'=>?_⟩⟩⟩⟩⟩
   exact fin el es none none none H5 pe e5 S5 ((B3.trans B4).trans B5) h5 (p4.tups (B5.tups S4)) fr hfr er her r hr'
  ·refine⟨_,rfl,_,rfl,lf,_,rfl,.inl ⟨SqL.of h4,fun fr hfr=>⟨_,rfl,le,_,rfl,.inl ⟨SqL.of (zaa hfr _ _ _ e4),fun er her=>⟨(by show 3≤sizeLine;decide),fun r hr'=>?_⟩⟩⟩⟩⟩
   exact fin le _ none none none H4 (.refl _) e4 S4 (B3.trans B4) h4 p4 fr hfr er her r hr'
end
abbrev zfD:Stmt:=top 35
def zdx:Sp:=fun vs H Q _=>∃ (l:Addr),vs=[.ref l]∧PkAt H l∧∀ (n:Nat) H',1≤n→n≤16→PkAt H' l→But l H H'→Q (.int n) H'
theorem zcv {ls:List Nat}{i:Nat}{x:V}(h:(nums ls)[i]?=some x):∃ n,n∈ls∧x=.int (n:Nat):=by
 unfold nums at h
 rw[List.getElem?_map]at h
 cases z:ls[i]? with
 | none=>rw[z]at h;cases h
 | some n=>rw[z]at h;exact⟨n,List.mem_of_getElem? z,(Option.some.inj h).symm⟩
section
variable {P:Program}{w:World}{K:PySem.W.Frag}{mg:Str→Option Value}{base:Heap}
theorem scLa:FnScope ["_law_left_here"] ["_law_left_here"] (zae zfD):=⟨rfl,rfl,rfl,by decide +kernel,rfl,by decide +kernel,by decide +kernel⟩
theorem zhf {f fO:Addr}{fd dO:FuncData}(F:Fun K "_law_lanes" "_law_lanes" zfD f fd) (G:Mgs mg) (UO:Use P w K mg base "_law_of" ["_law_left_here","_law_some"] 2 spOf fO dO):FnOk P w K mg base CX0 3 f fd ["_law_left_here"] zdx:=by
 refine F.ok scLa (fun vs H Q E h=>?_) (fun cdv A outer s H vs Q E hr h=>?_)
 ·obtain⟨l,rfl,_⟩:=h
  rfl
 obtain⟨l,rfl,S,k⟩:=h
 refine⟨_,(@pss_one _ _ _ (@ps_ret _ _ _ _ (@pe_call _ _ _ _ _ _ _ _ _ _ _ _ _ _ _ _ UO.ok hr (by rfl) UO.m UO.kp UO.b .nil pass0 (@pa_cons _ _ _ _ _ (@pv _ 0 _ _ (by rfl) (by first|exact Or.inl rfl|exact Or.inr (.inl rfl)|exact Or.inr (.inr rfl)) (by decide) (by decide)) (@pa_cons _ _ _ _ _ (@pe_lst _ _ _ _ (@pa_cons _ _ _ _ _ pe_int (@pa_cons _ _ _ _ _ pe_int (@pa_cons _ _ _ _ _ pe_int (@pa_cons _ _ _ _ _ pe_int (@pa_cons _ _ _ _ _ pe_int (@pa_cons _ _ _ _ _ pe_int (@pa_cons _ _ _ _ _ pe_int (@pa_cons _ _ _ _ _ pe_int pa_nil (by rfl)) (by rfl)) (by rfl)) (by rfl)) (by rfl)) (by rfl)) (by rfl)) (by rfl))) pa_nil (by rfl)) (by rfl)) (by decide) (by rfl) (by rfl)))),?_⟩
 refine⟨_,rfl,(by show 8≤sizeLine;decide),fun q hq=>?_⟩
 have s1:=zaa hq (.lst (nums [1,2,2,3,4,5,6,16]))
 refine⟨l,q,nums [1,2,2,3,4,5,6,16],rfl,S.keep s1,(S.ne hq).symm,zab,by show 0<8;decide,by show 8≤100000;decide,fun i x H' hx S' B'=>?_⟩
 obtain⟨n,nm,rfl⟩:=zcv hx
 have b:∀ n∈([1,2,2,3,4,5,6,16]:List Nat),1≤n∧n≤16:=by decide
 exact k n H' (b n nm).1 (b n nm).2 S' ((But.of s1).trans B')
end
abbrev ziu:Stmt:=top 36
theorem RunsAt.snoc {H:Hp}{qs:List V}{rs:List RunP}{t:Addr}{x:RunP}(h:RunsAt H qs rs) (ht:H t=some (.tup [.int (x.lane:Nat),.int x.start,.int x.pace])):RunsAt H (qs++[.ref t]) (rs++[x]):=by
 refine⟨by rw[List.length_append,List.length_append,h.1];rfl,fun i q r e1 e2=>?_⟩
 by_cases c:i<qs.length
 ·rw[List.getElem?_append_left c]at e1
  rw[List.getElem?_append_left (by rw[← h.1];exact c)]at e2
  exact h.2 i q r e1 e2
 ·rw[List.getElem?_append_right (by lia)]at e1
  rw[List.getElem?_append_right (by rw[← h.1];lia),← h.1]at e2
  have i0:i-qs.length=0:=by
   have:=(List.getElem?_eq_some_iff.mp e1).1
   simp at this;lia
  rw[i0]at e1 e2
  cases e1;cases e2
  exact⟨t,rfl,ht⟩
def zfo:Sp:=fun vs H Q _=>∃ l r fr er ps N,∃ most:Nat,vs=[.ref l,.ref r,.int (most:Nat)]∧most≤54∧PkAt H l∧Nt.Ok N∧NetAt H r fr er ps N∧∀ p qs rs H',H' p=some (.tup qs)→RunsAt H' qs rs→rs.length≤54→(∀ x∈rs,x.lane<N.lanes∧1≤x.pace)→PkAt H' l→But l H H'→Q (.ref p) H'
section
variable {P:Program}{w:World}{K:PySem.W.Frag}{mg:Str→Option Value}{base:Heap}
theorem scRs:FnScope ["_law_left_here","_law_net_here","_law_most","_law_some","_law_found","_law_k","_law_start","_law_pace"] ["_law_left_here","_law_net_here","_law_most"] (zae ziu):=⟨rfl,rfl,rfl,by decide +kernel,rfl,by decide +kernel,by decide +kernel⟩
theorem ziN {f fK fO:Addr}{fd dK dO:FuncData}(F:Fun K "_law_runs" "_law_runs" ziu f fd) (G:Mgs mg) (UK:Use P w K mg base "_law_pick" ["_law_left_here","_law_many"] 1 zbg fK dK) (UO:Use P w K mg base "_law_of" ["_law_left_here","_law_some"] 2 spOf fO dO):FnOk P w K mg base CX0 3 f fd ["_law_left_here","_law_net_here","_law_most"] zfo:=by
 refine F.ok scRs (fun vs H Q E h=>?_) (fun cdv A outer s H vs Q E hr h=>?_)
 ·obtain⟨l,r,fr,er,ps,N,most,rfl,_⟩:=h
  rfl
 obtain⟨l,r,fr,er,ps,N,most,rfl,m60,S,ok,na,k⟩:=h
 have hr1:Room 1 _:=hr.mono (by decide)
 have l16:=ok.l16
 have l1:=ok.l1
 refine⟨_,(@pss_cons _ _ _ _ _ (@ps_set _ _ 3 _ _ _ _ scRs.nd rfl (.inl rfl) (@pe_call _ _ _ _ _ _ _ _ _ _ _ _ _ _ _ _ UK.ok hr1 (by rfl) UK.m UK.kp UK.b .nil pass0 (@pa_cons _ _ _ _ _ (@pv _ 0 _ _ (by rfl) (by first|exact Or.inl rfl|exact Or.inr (.inl rfl)|exact Or.inr (.inr rfl)) (by decide) (by decide)) (@pa_cons _ _ _ _ _ pe_int pa_nil (by rfl)) (by rfl)) (by decide) (by rfl) (by rfl)) (by rfl) (by first|exact .inl rfl|exact .inr rfl|assumption)) (@pss_cons _ _ _ _ _ (@ps_set _ _ 4 _ _ _ _ scRs.nd rfl (.inl rfl) (@pe_lst _ _ _ _ pa_nil) (by rfl) (by first|exact .inl rfl|exact .inr rfl|assumption)) (@pss_cons _ _ _ _ _ (@ps_for _ _ _ _ _ _ _ _ PassesOwn.never rfl (@zat _ _ _ _ _ _ rfl G.range (@pa_cons _ _ _ _ _ (@pe_call _ _ _ _ _ _ _ _ _ _ _ _ _ _ _ _ UO.ok hr (by rfl) UO.m UO.kp UO.b .nil pass0 (@pa_cons _ _ _ _ _ (@pv _ 0 _ _ (by rfl) (by first|exact Or.inl rfl|exact Or.inr (.inl rfl)|exact Or.inr (.inr rfl)) (by decide) (by decide)) (@pa_cons _ _ _ _ _ (@pe_lst _ _ _ _ (@pa_cons _ _ _ _ _ pe_int (@pa_cons _ _ _ _ _ pe_int (@pa_cons _ _ _ _ _ pe_int (@pa_cons _ _ _ _ _ pe_int (@pa_cons _ _ _ _ _ pe_int (@pa_cons _ _ _ _ _ (@pv _ 2 _ _ (by rfl) (by first|exact Or.inl rfl|exact Or.inr (.inl rfl)|exact Or.inr (.inr rfl)) (by decide) (by decide)) pa_nil (by rfl)) (by rfl)) (by rfl)) (by rfl)) (by rfl)) (by rfl))) pa_nil (by rfl)) (by rfl)) (by decide) (by rfl) (by rfl)) pa_nil (by rfl)) (by rfl)) (@pg_name _ _ 5 _ scRs.nd rfl (.inl rfl) (by first|exact .inl rfl|exact .inr rfl|assumption)) (@pss_cons _ _ _ _ _ (@ps_set _ _ 6 _ _ _ _ scRs.nd rfl (.inl rfl) (@pe_call _ _ _ _ _ _ _ _ _ _ _ _ _ _ _ _ UK.ok hr1 (by rfl) UK.m UK.kp UK.b .nil pass0 (@pa_cons _ _ _ _ _ (@pv _ 0 _ _ (by rfl) (by first|exact Or.inl rfl|exact Or.inr (.inl rfl)|exact Or.inr (.inr rfl)) (by decide) (by decide)) (@pa_cons _ _ _ _ _ (@pe_ix _ _ _ _ _ _ _ ix_list (@pe_lst _ _ _ _ (@pa_cons _ _ _ _ _ pe_int (@pa_cons _ _ _ _ _ pe_int (@pa_cons _ _ _ _ _ pe_int (@pa_cons _ _ _ _ _ pe_int pa_nil (by rfl)) (by rfl)) (by rfl)) (by rfl))) (@pv _ 3 _ _ (by rfl) (by first|exact Or.inl rfl|exact Or.inr (.inl rfl)|exact Or.inr (.inr rfl)) (by decide) (by decide)) (fun _ _=>rfl)) pa_nil (by rfl)) (by rfl)) (by decide) (by rfl) (by rfl)) (by rfl) (by first|exact .inl rfl|exact .inr rfl|assumption)) (@pss_cons _ _ _ _ _ (@ps_if _ _ _ _ _ _ _ _ (@pt_cmpR _ _ _ _ _ _ _ _ op_eq (@pe_call _ _ _ _ _ _ _ _ _ _ _ _ _ _ _ _ UK.ok hr1 (by rfl) UK.m UK.kp UK.b .nil pass0 (@pa_cons _ _ _ _ _ (@pv _ 0 _ _ (by rfl) (by first|exact Or.inl rfl|exact Or.inr (.inl rfl)|exact Or.inr (.inr rfl)) (by decide) (by decide)) (@pa_cons _ _ _ _ _ pe_int pa_nil (by rfl)) (by rfl)) (by decide) (by rfl) (by rfl)) pe_int (nomark _)) (@pss_one _ _ _ (@ps_set _ _ 6 _ _ _ _ scRs.nd rfl (.inl rfl) (@pe_op _ _ _ _ _ _ _ _ op_add (@pe_callTy _ _ _ _ _ _ _ _ _ zcK (by rfl) G.int (by rfl) (@pa_cons _ _ _ _ _ (@pe_op _ _ _ _ _ _ _ _ zb4 zeh (@pe_op _ _ _ _ _ _ _ _ zfT zeh (@pe_call _ _ _ _ _ _ _ _ _ _ _ _ _ _ _ _ UK.ok hr1 (by rfl) UK.m UK.kp UK.b .nil pass0 (@pa_cons _ _ _ _ _ (@pv _ 0 _ _ (by rfl) (by first|exact Or.inl rfl|exact Or.inr (.inl rfl)|exact Or.inr (.inr rfl)) (by decide) (by decide)) (@pa_cons _ _ _ _ _ pe_int pa_nil (by rfl)) (by rfl)) (by decide) (by rfl) (by rfl)))) pa_nil (by rfl)) (by decide) (by decide) (by rfl) (by rfl)) (@pv _ 6 _ _ (by rfl) (by first|exact Or.inl rfl|exact Or.inr (.inl rfl)|exact Or.inr (.inr rfl)) (by decide) (by decide))) (by rfl) (by first|exact .inl rfl|exact .inr rfl|assumption))) pss_nil) (@pss_cons _ _ _ _ _ (@ps_set _ _ 7 _ _ _ _ scRs.nd rfl (.inl rfl) (@pe_op _ _ _ _ _ _ _ _ op_add pe_int (@pe_call _ _ _ _ _ _ _ _ _ _ _ _ _ _ _ _ UK.ok hr1 (by rfl) UK.m UK.kp UK.b .nil pass0 (@pa_cons _ _ _ _ _ (@pv _ 0 _ _ (by rfl) (by first|exact Or.inl rfl|exact Or.inr (.inl rfl)|exact Or.inr (.inr rfl)) (by decide) (by decide)) (@pa_cons _ _ _ _ _ (@pe_call _ _ _ _ _ _ _ _ _ _ _ _ _ _ _ _ UO.ok hr (by rfl) UO.m UO.kp UO.b .nil pass0 (@pa_cons _ _ _ _ _ (@pv _ 0 _ _ (by rfl) (by first|exact Or.inl rfl|exact Or.inr (.inl rfl)|exact Or.inr (.inr rfl)) (by decide) (by decide)) (@pa_cons _ _ _ _ _ (@pe_lst _ _ _ _ (@pa_cons _ _ _ _ _ pe_int (@pa_cons _ _ _ _ _ pe_int (@pa_cons _ _ _ _ _ pe_int (@pa_cons _ _ _ _ _ pe_int (@pa_cons _ _ _ _ _ (@pe_op _ _ _ _ _ _ _ _ zhV pe_int pe_int) pa_nil (by rfl)) (by rfl)) (by rfl)) (by rfl)) (by rfl))) pa_nil (by rfl)) (by rfl)) (by decide) (by rfl) (by rfl)) pa_nil (by rfl)) (by rfl)) (by decide) (by rfl) (by rfl))) (by rfl) (by first|exact .inl rfl|exact .inr rfl|assumption)) (@pss_one _ _ _ (@ps_expr _ _ _ _ (@pe_bm _ _ _ _ _ _ _ _ _ _ _ _ PySem.F.plainAttrs_list PySem.F.slot_list_append PySem.F.type_list_append mt_append (@pv _ 4 _ _ (by rfl) (by first|exact Or.inl rfl|exact Or.inr (.inl rfl)|exact Or.inr (.inr rfl)) (by decide) (by decide)) (@pa_cons _ _ _ _ _ (@pe_tup _ _ _ _ _ (@pa_cons _ _ _ _ _ (@pe_call _ _ _ _ _ _ _ _ _ _ _ _ _ _ _ _ UK.ok hr1 (by rfl) UK.m UK.kp UK.b .nil pass0 (@pa_cons _ _ _ _ _ (@pv _ 0 _ _ (by rfl) (by first|exact Or.inl rfl|exact Or.inr (.inl rfl)|exact Or.inr (.inr rfl)) (by decide) (by decide)) (@pa_cons _ _ _ _ _ (@pe_ix _ _ _ _ _ _ _ ix_tup (@pv _ 1 _ _ (by rfl) (by first|exact Or.inl rfl|exact Or.inr (.inl rfl)|exact Or.inr (.inr rfl)) (by decide) (by decide)) pe_int (fun _ _=>rfl)) pa_nil (by rfl)) (by rfl)) (by decide) (by rfl) (by rfl)) (@pa_cons _ _ _ _ _ (@pv _ 6 _ _ (by rfl) (by first|exact Or.inl rfl|exact Or.inr (.inl rfl)|exact Or.inr (.inr rfl)) (by decide) (by decide)) (@pa_cons _ _ _ _ _ (@pv _ 7 _ _ (by rfl) (by first|exact Or.inl rfl|exact Or.inr (.inl rfl)|exact Or.inr (.inr rfl)) (by decide) (by decide)) pa_nil (by rfl)) (by rfl)) (by rfl))) pa_nil (by rfl)) (by rfl) (by rfl) (by rfl) (by rfl) (by rfl)) (by rfl)))))) (by intro _;rfl)) (@pss_one _ _ _ (@ps_ret _ _ _ _ (@pe_callTy _ _ _ _ _ _ _ _ _ call_tuple_of (by rfl) G.tuple (by rfl) (@pa_cons _ _ _ _ _ (@pv _ 4 _ _ (by rfl) (by first|exact Or.inl rfl|exact Or.inr (.inl rfl)|exact Or.inr (.inr rfl)) (by decide) (by decide)) pa_nil (by rfl)) (by decide) (by decide) (by rfl) (by rfl))))))),?_⟩
 refine⟨_,rfl,l,4,rfl,by decide,by decide,S,fun kd H1 hkd S1 B1=>?_⟩
 refine⟨(by show 0≤sizeLine;decide),fun lf hlf=>?_⟩
 have nlf:=S1.ne hlf
 have flf:=B1.frs hlf
 have s2:=zaa hlf (.lst [])
 have S2:=S1.keep s2
 refine⟨_,rfl,_,rfl,(by show 6≤sizeLine;decide),fun q hq=>?_⟩
 have s3:=zaa hq (.lst (nums [0,1,2,5,12,most]))
 refine⟨l,q,nums [0,1,2,5,12,most],rfl,S2.keep s3,(S2.ne hq).symm,zab,by show 0<6;decide,by show 6≤100000;decide,fun i x H4 hx S4 B4=>?_⟩
 obtain⟨cnt,cm,rfl⟩:=zcv hx
 have cb:cnt≤54:=by
  simp only[List.mem_cons,List.mem_nil_iff,or_false]at cm
  lia
 have h4:H4 lf=some (.lst []):=B4 lf _ (s3 _ _ zab) nlf.symm
 have T4:Tups H H4:=(B1.tups S).trans ((Tups.of (s2.trans s3)).trans (B4.tups (S2.keep s3)))
 refine⟨cnt,rfl,by lia,by lia,?_⟩
 refine zaw (lo:=0) (n:=((cnt:Nat):Int).toNat) (fun j σ H5=>(∃ w5 w6 w7,σ=[some (.ref l),some (.ref r),some (.int (most:Nat)),some (.int kd),some (.ref lf),w5,w6,w7])∧PkAt H5 l∧But l H H5∧NetAt H5 r fr er ps N∧∃ qs,H5 lf=some (.lst qs)∧qs.length=j∧∃ rs,RunsAt H5 qs rs∧∀ x∈rs,x.lane<N.lanes∧1≤x.pace)
  ⟨⟨_,_,_,rfl⟩,S4,(B1.trans (But.of (s2.trans s3))).trans B4,na.tups T4,[],h4,rfl,[],⟨rfl,fun i q r e=>by simp at e⟩,fun x hx=>(List.not_mem_nil hx).elim⟩ ?_ ?_
 ·rintro j σ H5 hj ⟨⟨w5,w6,w7,rfl⟩,S5,B5,na5,qs,h5,ql,rs,rn,rg⟩
  refine⟨_,rfl,(by show 4≤sizeLine;decide),fun p1 hp1=>?_⟩
  have s6:=zaa hp1 (.lst (nums [1,4,40,400]))
  obtain⟨n,nm,hat⟩:=ziH (xs:=[1,4,40,400]) (v:=kd) (by show kd<4;lia)
  have nb:∀ n∈([1,4,40,400]:List Nat),1≤n∧n≤400:=by decide
  obtain⟨n1,n2⟩:=nb n nm
  refine⟨_,rfl,p1,_,_,_,rfl,rfl,SqL.of zab,hat,l,n,rfl,by lia,by lia,S5.keep s6,fun st H7 _ S7 B7=>?_⟩
  have h7:=B7 lf _ (s6 _ _ h5) nlf.symm
  have T7:Tups H5 H7:=(Tups.of s6).trans (B7.tups (S5.keep s6))
  have B57:But l H H7:=(B5.trans (But.of s6)).trans B7
  refine⟨_,rfl,l,9,rfl,by decide,by decide,S7,fun y H8 _ S8 B8=>⟨rfl,_,rfl,?_⟩⟩
  have h8:=B8 lf _ h7 nlf.symm
  have T8:=T7.trans (B8.tups S7)
  have B58:=B57.trans B8
  refine ite2 (fun _=>?_) (fun _=>?_)
  ·refine⟨_,rfl,l,29,rfl,by decide,by decide,S8,fun z H9 hz S9 B9=>?_⟩
   refine⟨48,_,rfl,rfl,by lia,by lia,fun zs hzs=>?_⟩
   obtain⟨d1,d2,d3⟩:=zf8 hzs
   have zl:zs.length=((z:Nat):Int).toNat:=by
    have:=congrArg List.length hzs
    rw[Array.length_toList,List.length_replicate]at this
    exact this
   refine⟨_,_,rfl,rfl,by rw[zl];exact Nat.le_trans (show 1+((z:Nat):Int).toNat≤100 by lia) (by decide),_,rfl,d1,by lia,by lia,_,rfl,_,_,rfl,rfl,?_⟩
   have h9:=B9 lf _ h8 nlf.symm
   have T9:=T8.trans (B9.tups S8)
   have B59:=B58.trans B9
   refine⟨_,rfl,_,rfl,_,_,rfl,rfl,⟨by decide,by decide,by decide⟩,(by show 5≤sizeLine;decide),fun p2 hp2=>?_⟩
   have s10:=zaa hp2 (.lst (nums [1,1,3,30,1000000]))
   refine⟨l,p2,nums [1,1,3,30,1000000],rfl,S9.keep s10,(S9.ne hp2).symm,zab,by show 0<5;decide,by show 5≤100000;decide,fun i3 x3 H11 hx3 S11 B11=>?_⟩
   obtain⟨m,mm,rfl⟩:=zcv hx3
   have mb:∀ n∈([1,1,3,30,1000000]:List Nat),1≤n∧n≤1000000:=by decide
   obtain⟨m1,m2⟩:=mb m mm
   refine⟨l,m,rfl,by lia,by lia,S11,fun pc H12 _ S12 B12=>⟨_,_,rfl,rfl,?_⟩⟩
   have B12':But l H9 H12:=((But.of s10).trans B11).trans B12
   have h12:=B12' lf _ h9 nlf.symm
   have T12:=T9.trans (((Tups.of s10).trans (B11.tups (S9.keep s10))).trans (B12.tups S11))
   have na12:=na5.tups T12
   refine⟨_,rfl,.inl ⟨rfl,_,SqL.of h12⟩,_,rfl,_,rfl,r,_,_,_,rfl,rfl,SqT.of na12.net,rfl,l,N.lanes,rfl,by lia,by lia,S12,fun ln H13 hln S13 B13=>?_⟩
   refine⟨_,rfl,_,rfl,(by show 3≤sizeLine;decide),fun t ht=>?_⟩
   have h13:=B13 lf _ h12 nlf.symm
   have T13:=T12.trans (B13.tups S12)
   have s14:=zaa ht (.tup [.int ln,.int ((PySem.NumText.digitsVal (("1":Str)++zs).cps.toList:Nat)+(st:Int)),.int (1+(pc:Int))])
   have h14:=s14 _ _ h13
   refine⟨lf,_,_,rfl,rfl,h14,by rw[ql];exact Nat.lt_of_lt_of_le (show j<1000 by lia) (by decide),⟨_,_,_,rfl⟩,(S13.keep s14).upd nlf,(((B59.trans B12').trans B13).trans (But.of s14)).upd flf,(na5.tups T13).tups ((Tups.of s14).trans (Tups.lst h14)),qs++[.ref t],zab,by rw[List.length_append,ql];rfl,rs++[⟨ln,((PySem.NumText.digitsVal (("1":Str)++zs).cps.toList:Nat)+(st:Int)),1+(pc:Int)⟩],(rn.tups (T13.trans ((Tups.of s14).trans (Tups.lst h14)))).snoc (Tups.lst h14 _ _ zab),fun x hx=>?_⟩
   rcases List.mem_append.mp hx with y'|y'
   ·exact rg x y'
   ·rw[List.mem_singleton.mp y'];exact⟨by show ln<_;lia,by show (1:Int)≤1+(pc:Int);lia⟩
  ·refine⟨_,rfl,_,rfl,_,_,rfl,rfl,⟨by decide,by decide,by decide⟩,(by show 5≤sizeLine;decide),fun p2 hp2=>?_⟩
   have s10:=zaa hp2 (.lst (nums [1,1,3,30,1000000]))
   refine⟨l,p2,nums [1,1,3,30,1000000],rfl,S8.keep s10,(S8.ne hp2).symm,zab,by show 0<5;decide,by show 5≤100000;decide,fun i3 x3 H11 hx3 S11 B11=>?_⟩
   obtain⟨m,mm,rfl⟩:=zcv hx3
   have mb:∀ n∈([1,1,3,30,1000000]:List Nat),1≤n∧n≤1000000:=by decide
   obtain⟨m1,m2⟩:=mb m mm
   refine⟨l,m,rfl,by lia,by lia,S11,fun pc H12 _ S12 B12=>⟨_,_,rfl,rfl,?_⟩⟩
   have B12':But l H8 H12:=((But.of s10).trans B11).trans B12
   have h12:=B12' lf _ h8 nlf.symm
   have T12:=T8.trans (((Tups.of s10).trans (B11.tups (S8.keep s10))).trans (B12.tups S11))
   have na12:=na5.tups T12
   refine⟨_,rfl,.inl ⟨rfl,_,SqL.of h12⟩,_,rfl,_,rfl,r,_,_,_,rfl,rfl,SqT.of na12.net,rfl,l,N.lanes,rfl,by lia,by lia,S12,fun ln H13 hln S13 B13=>?_⟩
   refine⟨_,rfl,_,rfl,(by show 3≤sizeLine;decide),fun t ht=>?_⟩
   have h13:=B13 lf _ h12 nlf.symm
   have T13:=T12.trans (B13.tups S12)
   have s14:=zaa ht (.tup [.int ln,.int (st:Int),.int (1+(pc:Int))])
   have h14:=s14 _ _ h13
   refine⟨lf,_,_,rfl,rfl,h14,by rw[ql];exact Nat.lt_of_lt_of_le (show j<1000 by lia) (by decide),⟨_,_,_,rfl⟩,(S13.keep s14).upd nlf,(((B58.trans B12').trans B13).trans (But.of s14)).upd flf,(na5.tups T13).tups ((Tups.of s14).trans (Tups.lst h14)),qs++[.ref t],zab,by rw[List.length_append,ql];rfl,rs++[⟨ln,(st:Int),1+(pc:Int)⟩],(rn.tups (T13.trans ((Tups.of s14).trans (Tups.lst h14)))).snoc (Tups.lst h14 _ _ zab),fun x hx=>?_⟩
   rcases List.mem_append.mp hx with y'|y'
   ·exact rg x y'
   ·rw[List.mem_singleton.mp y'];exact⟨by show ln<_;lia,by show (1:Int)≤1+(pc:Int);lia⟩
 ·rintro σ H5 ⟨⟨w5,w6,w7,rfl⟩,S5,B5,na5,qs,h5,ql,rs,rn,rg⟩
  refine⟨_,rfl,lf,_,rfl,.inl ⟨SqL.of h5,fun p hp=>?_⟩⟩
  have s6:=zaa hp (.tup qs)
  exact k p qs rs _ zab (rn.tups (Tups.of s6)) (by have:=rn.1;lia) rg (S5.keep s6) (B5.trans (But.of s6))
end
abbrev zdA:Stmt:=top 8
theorem ziV (n:Nat):(List.replicate n [V.int 0]).flatten=(List.replicate n (0:Int)).map V.int:=by
 induction n with
 | zero=>rfl
 | succ n ih=>rw[List.replicate_succ,List.flatten_cons,ih,List.replicate_succ];rfl
def zcm:Sp:=fun vs H Q _=>∃ r fr er ps N,vs=[.ref r]∧Nt.Ok N∧NetAt H r fr er ps N∧∀ p H',Same H H'→H' p=some (.tup ((zc9 N).map V.int))→Q (.ref p) H'
section
variable {P:Program}{w:World}{K:PySem.W.Frag}{mg:Str→Option Value}{base:Heap}
theorem scLy:FnScope ["net","lanes","forks","ends","reached","found","one","other","layer"] ["net"] (zae zdA):=⟨rfl,rfl,rfl,by decide +kernel,rfl,by decide +kernel,by decide +kernel⟩
theorem zfX {f:Addr}{fd:FuncData}(F:Fun K "layers" "layers" zdA f fd) (G:Mgs mg):FnOk P w K mg base CX0 1 f fd ["net"] zcm:=by
 refine F.ok scLy (fun vs H Q E h=>?_) (fun cdv A outer s H vs Q E hr h=>?_)
 ·obtain⟨r,fr,er,ps,N,rfl,_⟩:=h
  rfl
 obtain⟨r,fr,er,ps,N,rfl,ok,na,k⟩:=h
 refine⟨_,(@pss_cons _ _ _ _ _ (@ps_asg _ _ _ _ _ _ (@pv _ 0 _ _ (by rfl) (by first|exact Or.inl rfl|exact Or.inr (.inl rfl)|exact Or.inr (.inr rfl)) (by decide) (by decide)) (@pg_tup _ _ _ _ _ _ rfl (@pgs_cons _ _ _ _ _ (@pg_name _ _ 1 _ scLy.nd rfl (.inl rfl) (by first|exact .inl rfl|exact .inr rfl|assumption)) (@pgs_cons _ _ _ _ _ (@pg_name _ _ 2 _ scLy.nd rfl (.inl rfl) (by first|exact .inl rfl|exact .inr rfl|assumption)) (@pgs_cons _ _ _ _ _ (@pg_name _ _ 3 _ scLy.nd rfl (.inl rfl) (by first|exact .inl rfl|exact .inr rfl|assumption)) pgs_nil (by rfl)) (by rfl)) (by rfl)) (by rfl) (by rfl)) (by rfl) (by rfl) (by rfl)) (@pss_cons _ _ _ _ _ (@ps_set _ _ 4 _ _ _ _ scLy.nd rfl (.inl rfl) (@pe_op _ _ _ _ _ _ _ _ op_rep (@pe_lst _ _ _ _ (@pa_cons _ _ _ _ _ pe_int pa_nil (by rfl))) (@pv _ 1 _ _ (by rfl) (by first|exact Or.inl rfl|exact Or.inr (.inl rfl)|exact Or.inr (.inr rfl)) (by decide) (by decide))) (by rfl) (by first|exact .inl rfl|exact .inr rfl|assumption)) (@pss_cons _ _ _ _ _ (@ps_set _ _ 5 _ _ _ _ scLy.nd rfl (.inl rfl) (@pe_lst _ _ _ _ pa_nil) (by rfl) (by first|exact .inl rfl|exact .inr rfl|assumption)) (@pss_cons _ _ _ _ _ (@ps_for _ _ _ _ _ _ _ _ PassesOwn.never rfl (@zeg _ _ _ _ (@pv _ 2 _ _ (by rfl) (by first|exact Or.inl rfl|exact Or.inr (.inl rfl)|exact Or.inr (.inr rfl)) (by decide) (by decide))) (@pg_tup _ _ _ _ _ _ rfl (@pgs_cons _ _ _ _ _ (@pg_name _ _ 6 _ scLy.nd rfl (.inl rfl) (by first|exact .inl rfl|exact .inr rfl|assumption)) (@pgs_cons _ _ _ _ _ (@pg_name _ _ 7 _ scLy.nd rfl (.inl rfl) (by first|exact .inl rfl|exact .inr rfl|assumption)) pgs_nil (by rfl)) (by rfl)) (by rfl) (by rfl)) (@pss_cons _ _ _ _ _ (@ps_set _ _ 8 _ _ _ _ scLy.nd rfl (.inl rfl) (@pe_op _ _ _ _ _ _ _ _ op_add pe_int (@pe_callB _ _ _ _ _ _ _ _ _ (za6 rfl) (by rfl) G.max (by rfl) (@pa_cons _ _ _ _ _ (@pe_ix _ _ _ _ _ _ _ ix_list (@pv _ 4 _ _ (by rfl) (by first|exact Or.inl rfl|exact Or.inr (.inl rfl)|exact Or.inr (.inr rfl)) (by decide) (by decide)) (@pv _ 6 _ _ (by rfl) (by first|exact Or.inl rfl|exact Or.inr (.inl rfl)|exact Or.inr (.inr rfl)) (by decide) (by decide)) (fun _ _=>rfl)) (@pa_cons _ _ _ _ _ (@pe_ix _ _ _ _ _ _ _ ix_list (@pv _ 4 _ _ (by rfl) (by first|exact Or.inl rfl|exact Or.inr (.inl rfl)|exact Or.inr (.inr rfl)) (by decide) (by decide)) (@pv _ 7 _ _ (by rfl) (by first|exact Or.inl rfl|exact Or.inr (.inl rfl)|exact Or.inr (.inr rfl)) (by decide) (by decide)) (fun _ _=>rfl)) pa_nil (by rfl)) (by rfl)) (by decide) (by decide) (by rfl) (by rfl))) (by rfl) (by first|exact .inl rfl|exact .inr rfl|assumption)) (@pss_cons _ _ _ _ _ (@ps_asg _ _ _ _ _ _ (@pv _ 8 _ _ (by rfl) (by first|exact Or.inl rfl|exact Or.inr (.inl rfl)|exact Or.inr (.inr rfl)) (by decide) (by decide)) (@pg_sub _ _ _ _ _ _ _ (@pv _ 4 _ _ (by rfl) (by first|exact Or.inl rfl|exact Or.inr (.inl rfl)|exact Or.inr (.inr rfl)) (by decide) (by decide)) (@pv _ 6 _ _ (by rfl) (by first|exact Or.inl rfl|exact Or.inr (.inl rfl)|exact Or.inr (.inr rfl)) (by decide) (by decide)) set_list (by intro _;rfl)) (by rfl) (by rfl) (by rfl)) (@pss_cons _ _ _ _ _ (@ps_asg _ _ _ _ _ _ (@pv _ 8 _ _ (by rfl) (by first|exact Or.inl rfl|exact Or.inr (.inl rfl)|exact Or.inr (.inr rfl)) (by decide) (by decide)) (@pg_sub _ _ _ _ _ _ _ (@pv _ 4 _ _ (by rfl) (by first|exact Or.inl rfl|exact Or.inr (.inl rfl)|exact Or.inr (.inr rfl)) (by decide) (by decide)) (@pv _ 7 _ _ (by rfl) (by first|exact Or.inl rfl|exact Or.inr (.inl rfl)|exact Or.inr (.inr rfl)) (by decide) (by decide)) set_list (by intro _;rfl)) (by rfl) (by rfl) (by rfl)) (@pss_one _ _ _ (@ps_expr _ _ _ _ (@pe_bm _ _ _ _ _ _ _ _ _ _ _ _ PySem.F.plainAttrs_list PySem.F.slot_list_append PySem.F.type_list_append mt_append (@pv _ 5 _ _ (by rfl) (by first|exact Or.inl rfl|exact Or.inr (.inl rfl)|exact Or.inr (.inr rfl)) (by decide) (by decide)) (@pa_cons _ _ _ _ _ (@pv _ 8 _ _ (by rfl) (by first|exact Or.inl rfl|exact Or.inr (.inl rfl)|exact Or.inr (.inr rfl)) (by decide) (by decide)) pa_nil (by rfl)) (by rfl) (by rfl) (by rfl) (by rfl) (by rfl)) (by rfl)))))) (by intro _;rfl)) (@pss_one _ _ _ (@ps_ret _ _ _ _ (@pe_callTy _ _ _ _ _ _ _ _ _ call_tuple_of (by rfl) G.tuple (by rfl) (@pa_cons _ _ _ _ _ (@pv _ 5 _ _ (by rfl) (by first|exact Or.inl rfl|exact Or.inr (.inl rfl)|exact Or.inr (.inr rfl)) (by decide) (by decide)) pa_nil (by rfl)) (by decide) (by decide) (by rfl) (by rfl)))))))),?_⟩
 have l1:=ok.l1
 have l16:=ok.l16
 have fm:=ok.fm
 have pl:=na.prs.len
 have tn:((N.lanes:Nat):Int).toNat=N.lanes:=by lia
 refine⟨_,rfl,r,_,rfl,SqT.of na.net,rfl,_,_,rfl,_,_,rfl,_,_,rfl,rfl,?_⟩
 refine⟨(by show 1≤sizeLine;decide),fun p1 hp1=>?_⟩
 have s1:=zaa hp1 (.lst [.int 0])
 refine⟨_,rfl,p1,N.lanes,_,rfl,rfl,zab,by lia,by lia,by show 1*_≤sizeLine;rw[sizeLine_eq];lia,fun lr hlr=>?_⟩
 have s2:=s1.trans (zaa hlr (.lst (List.replicate ((N.lanes:Int)).toNat [V.int 0]).flatten))
 have hlr0:H lr=none:=by
  cases z:H lr with
  | none=>rfl
  | some o=>exact absurd (s1 _ _ z) (by rw[hlr];exact fun w=>nomatch w)
 refine⟨(by show 0≤sizeLine;decide),fun lf hlf=>?_⟩
 have s3:=s2.trans (zaa hlf (.lst []))
 have hlf0:H lf=none:=by
  cases z:H lf with
  | none=>rfl
  | some o=>exact absurd (s2 _ _ z) (by rw[hlf];exact fun w=>nomatch w)
 have nrf:lr≠lf:=zad zab hlf
 refine⟨_,rfl,fr,rfl,⟨_,SqT.of (s3 _ _ na.forks)⟩,?_⟩
 refine zdV (K:=K) (a:=fr) (xs:=ps) (fun i σ H2=>(∃ v6 v7 v8,σ=[some (.ref r),some (.int N.lanes),some (.ref fr),some (.ref er),some (.ref lr),some (.ref lf),v6,v7,v8])∧Same H H2∧H2 lr=some (.lst ((lay N.lanes (N.forks.take i)).1.map V.int))∧H2 lf=some (.lst ((lay N.lanes (N.forks.take i)).2.map V.int)))
  ⟨⟨_,_,_,rfl⟩,s3,by rw[zac nrf,zab,tn,ziV];rfl,zab⟩ (fun i σ H2 _ q=>SqT.of (q.2.1 _ _ na.forks)) ?_ ?_
 ·rintro i p σ H2 hp ⟨⟨v6,v7,v8,rfl⟩,s4,h1,h2⟩
  obtain⟨a,g,rfl,eg,ha⟩:=(na.prs.tups (Tups.of s4)).get hp
  have okg:=ok.fk g (List.mem_of_getElem? eg)
  have ig:i<N.forks.length:=(List.getElem?_eq_some_iff.mp eg).1
  have ln:=zcz (n:=N.lanes) i N.forks (by lia)
  have lx:=zem (n:=N.lanes) eg
  generalize lay N.lanes (N.forks.take i)=st at *
  refine⟨a,_,rfl,SqT.of ha,rfl,_,_,rfl,_,_,rfl,rfl,?_⟩
  refine⟨_,rfl,_,rfl,lr,_,_,_,rfl,rfl,SqL.of h1,zgN (by lia),_,rfl,_,rfl,lr,_,_,_,rfl,rfl,SqL.of h1,zgN (by lia),_,_,rfl,_,_,rfl,rfl,?_⟩
  refine⟨_,rfl,_,rfl,_,rfl,lr,_,_,g.1,rfl,rfl,h1,zbW (by rw[List.length_map];lia),?_⟩
  refine⟨_,rfl,_,rfl,_,rfl,lr,_,_,g.2,rfl,rfl,zab,zbW (by rw[List.length_set,List.length_map];lia),?_⟩
  have h3:∀ x y,L2.upd (L2.upd H2 lr x) lr y lf=some (.lst (st.2.map V.int)):=fun x y=>by rw[zac nrf.symm,zac nrf.symm];exact h2
  refine⟨_,rfl,.inl ⟨rfl,_,SqL.of (h3 _ _)⟩,_,rfl,lf,_,_,rfl,rfl,h3 _ _,by rw[List.length_map,ln.2];exact Nat.lt_of_lt_of_le (show i<1000 by lia) (by decide),⟨_,_,_,rfl⟩,fun b o e=>?_,?_,?_⟩
  ·rw[zac (zad e hlf0),zac (zad e hlr0),zac (zad e hlr0)];exact s4 b o e
  ·rw[zac nrf,zab,lx]
   unfold zaS
   rw[zd9,zd9];rfl
  ·rw[zab,lx]
   unfold zaS
   rw[List.map_append];rfl
 ·rintro σ H2 ⟨⟨v6,v7,v8,rfl⟩,s4,h1,h2⟩
  rw[pl,List.take_length]at h2
  exact⟨_,rfl,lf,_,rfl,.inl ⟨SqL.of h2,fun q hq=>k q _ (s4.trans (zaa hq _)) zab⟩⟩
end
abbrev zfC:Stmt:=top 9
def zdw:Sp:=fun vs H Q _=>∃ r fr er ps N,vs=[.ref r]∧Nt.Ok N∧N.forks.length≤63∧NetAt H r fr er ps N∧∀ r' fr' ps' H',Same H H'→NetAt H' r' fr' er ps' (zcY N)→Q (.ref r') H'
section
variable {P:Program}{w:World}{K:PySem.W.Frag}{mg:Str→Option Value}{base:Heap}
theorem scPq:FnScope ["net","lanes","forks","ends"] ["net"] (zae zfC):=⟨rfl,rfl,rfl,by decide +kernel,rfl,by decide +kernel,by decide +kernel⟩
theorem zhe {f fY:Addr}{fd dY:FuncData}(F:Fun K "plain" "plain" zfC f fd) (G:Mgs mg) (UY:Use P w K mg base "layers" ["net"] 1 zcm fY dY):FnOk P w K mg base CX0 2 f fd ["net"] zdw:=by
 refine F.ok scPq (fun vs H Q E h=>?_) (fun cdv A outer s H vs Q E hr h=>?_)
 ·obtain⟨r,fr,er,ps,N,rfl,_⟩:=h
  rfl
 obtain⟨r,fr,er,ps,N,rfl,ok,few,na,k⟩:=h
 refine⟨_,(@pss_cons _ _ _ _ _ (@ps_asg _ _ _ _ _ _ (@pv _ 0 _ _ (by rfl) (by first|exact Or.inl rfl|exact Or.inr (.inl rfl)|exact Or.inr (.inr rfl)) (by decide) (by decide)) (@pg_tup _ _ _ _ _ _ rfl (@pgs_cons _ _ _ _ _ (@pg_name _ _ 1 _ scPq.nd rfl (.inl rfl) (by first|exact .inl rfl|exact .inr rfl|assumption)) (@pgs_cons _ _ _ _ _ (@pg_name _ _ 2 _ scPq.nd rfl (.inl rfl) (by first|exact .inl rfl|exact .inr rfl|assumption)) (@pgs_cons _ _ _ _ _ (@pg_name _ _ 3 _ scPq.nd rfl (.inl rfl) (by first|exact .inl rfl|exact .inr rfl|assumption)) pgs_nil (by rfl)) (by rfl)) (by rfl)) (by rfl) (by rfl)) (by rfl) (by rfl) (by rfl)) (@pss_one _ _ _ (@ps_ret _ _ _ _ (@pe_tup _ _ _ _ _ (@pa_cons _ _ _ _ _ (@pv _ 1 _ _ (by rfl) (by first|exact Or.inl rfl|exact Or.inr (.inl rfl)|exact Or.inr (.inr rfl)) (by decide) (by decide)) (@pa_cons _ _ _ _ _ (@pe_callTy _ _ _ _ _ _ _ _ _ call_tuple_of (by rfl) G.tuple (by rfl) (@pa_cons _ _ _ _ _ (@pe_lc _ _ _ _ none _ _ _ (gTup K 2 (gCons (gName 0) (gCons (gName 1) gNil))) _ _ ["layer","fork"] [none,none] rfl (@pi_list _ _ _ _ (@zeG _ _ _ _ _ _ _ _ false false (by rfl) G.sorted (by rfl) G.zip rfl hr.units (@pa_cons _ _ _ _ _ (@pe_call _ _ _ _ _ _ _ _ _ _ _ _ _ _ _ _ UY.ok hr (by rfl) UY.m UY.kp UY.b .nil pass0 (@pa_cons _ _ _ _ _ (@pv _ 0 _ _ (by rfl) (by first|exact Or.inl rfl|exact Or.inr (.inl rfl)|exact Or.inr (.inr rfl)) (by decide) (by decide)) pa_nil (by rfl)) (by decide) (by rfl) (by rfl)) (@pa_cons _ _ _ _ _ (@pv _ 2 _ _ (by rfl) (by first|exact Or.inl rfl|exact Or.inr (.inl rfl)|exact Or.inr (.inr rfl)) (by decide) (by decide)) pa_nil (by rfl)) (by rfl)) (by rfl) (by rfl) (by rfl))) (CapOk.of (by kernel_rfl)) (fun _ _ _ _ _=>(@pg_tup _ _ _ _ _ _ rfl (@pgs_cons _ _ _ _ _ (@pg_name _ _ 0 _ (show (["layer","fork"]:List Str).Nodup from by decide +kernel) rfl (.inl rfl) (.inr rfl)) (@pgs_cons _ _ _ _ _ (@pg_name _ _ 1 _ (show (["layer","fork"]:List Str).Nodup from by decide +kernel) rfl (.inl rfl) (.inr rfl)) pgs_nil (by rfl)) (by rfl)) (by rfl) (by rfl))) (fun _ _ _ _ _=>zbb) (fun _ _ _ _ _=>(@pv _ 1 _ _ (by rfl) (by first|exact Or.inl rfl|exact Or.inr (.inl rfl)|exact Or.inr (.inr rfl)) (by decide) (by decide))) (by intro _;rfl)) pa_nil (by rfl)) (by decide) (by decide) (by rfl) (by rfl)) (@pa_cons _ _ _ _ _ (@pv _ 3 _ _ (by rfl) (by first|exact Or.inl rfl|exact Or.inr (.inl rfl)|exact Or.inr (.inr rfl)) (by decide) (by decide)) pa_nil (by rfl)) (by rfl)) (by rfl)))))),?_⟩
 have fm:=ok.fm
 have pl:=na.prs.len
 have ll:=zeS N
 refine⟨_,rfl,r,_,rfl,SqT.of na.net,rfl,_,_,rfl,_,_,rfl,_,_,rfl,rfl,?_⟩
 refine⟨_,rfl,_,rfl,r,fr,er,ps,N,rfl,ok,na,fun p H1 s1 hp=>?_⟩
 have na1:=na.tups (Tups.of s1)
 refine⟨_,rfl,p,fr,_,ps,rfl,SqT.of hp,SqT.of na1.forks,by rw[List.length_map];lia,by rw[List.length_map];lia,fun ts H2 s2 z2=>?_⟩
 have na2:=na1.tups (Tups.of s2)
 obtain⟨te,tr⟩:=zh6 z2 na2.prs
 rw[← zjE]at te
 have low:∀ x∈ts,(dec H2 x).2.1<32∧(dec H2 x).2.2<32:=fun x hx=>zhP ok _ (by rw[← te];exact List.mem_map.mpr ⟨x,hx,rfl⟩)
 refine⟨fun x=>rnk (dec H2 x),.inr ⟨2,by decide,fun x hx=>⟨?_,fun y hy=>zjT (tr x hx) (tr y hy) (low x hx) (low y hy)⟩⟩,fun l zs hl pm so=>?_⟩
 ·obtain⟨t,g,rfl,h1,_⟩:=tr x hx
  exact⟨t,_,_,rfl,h1⟩
 have s3:=zaa hl (.lst zs)
 have zl:zs.length=N.forks.length:=by rw[pm.length_eq,z2.1,List.length_map];exact ll
 have ze:zs.map (dec H2)=zeV (pz N):=zbC ok (by rw[← te];exact pm.map _) (List.pairwise_map.mpr so)
 have trz:∀ x∈zs,Trp H2 x (dec H2 x):=fun x hx=>tr x (pm.mem_iff.mp hx)
 refine⟨l,rfl,⟨_,SqL.of (atNew hl (.lst zs))⟩,fun lq hlq=>?_⟩
 refine zi2 (K:=K) (a:=l) (xs:=zs) (fun j acc σ H4=>(∃ v0 v1,σ=[v0,v1])∧Same H2 H4∧H4 l=some (.lst zs)∧H4 lq=some (.lst acc)∧acc.length=j∧Prs H4 acc ((zs.take j).map fun x=>(dec H2 x).2)) ⟨⟨_,_,rfl⟩,s3.trans (zaa hlq _),zaa hlq _ _ _ (atNew hl (.lst zs)),zab,rfl,trivial⟩ (fun j acc σ H4 q=>⟨q.2.2.2.1,SqL.of q.2.2.1⟩) ?_ ?_
 ·rintro j x acc σ H4 hx ⟨⟨v0,v1,rfl⟩,s4,l4,h4,al,pr⟩
  have jl:=(List.getElem?_eq_some_iff.mp hx).1
  obtain⟨t,g,e,h1,h2⟩:=trz x (List.mem_of_getElem? hx)
  have ne:lq≠l:=by rintro rfl;rw[atNew hl (.lst zs)]at hlq;cases hlq
  have keep:Same H2 (upd H4 lq (.lst (acc++[.ref g]))):=fun b o e=>by rw[zac (zad (s3 b o e) hlq)];exact s4 b o e
  refine⟨t,_,e,SqT.of (s4 _ _ h1),rfl,_,_,rfl,_,_,rfl,rfl,_,rfl,h4,Nat.lt_of_lt_of_le (show _<1000 by lia) (by decide),nx jl ⟨⟨_,_,rfl⟩,keep,by rw[zac ne.symm];exact l4,zab,by simp[al],?_⟩⟩
  have xe:zs[j]=x:=(List.getElem?_eq_some_iff.mp hx).2
  rw[List.take_succ_eq_append_getElem jl,List.map_append,xe]
  exact Prs.add (f:=(dec H2 x).2) (keep _ _ h2) (pr.tups (Tups.lst h4))
 ·rintro acc σ H4 ⟨⟨v0,v1,rfl⟩,s4,l4,h4,al,pr⟩
  rw[List.take_length]at pr
  have pe:(zs.map fun x=>(dec H2 x).2)=zcZ N:=by
   unfold zcZ
   rw[← ze,List.map_map];rfl
  rw[pe]at pr
  refine⟨lq,_,rfl,.inl ⟨SqL.of h4,fun q hq=>?_⟩⟩
  have s5:=zaa hq (.tup acc)
  refine⟨_,rfl,(by show 3≤sizeLine;decide),fun r' hr'=>?_⟩
  have s6:=zaa hr' (.tup [.int N.lanes,.ref q,.ref er])
  refine k r' q acc _ ((((s1.trans s2).trans s4).trans s5).trans s6) ⟨atNew hr' _,s6 _ _ (atNew hq _),pr.tups (Tups.of (s5.trans s6)),?_⟩
  exact s6 _ _ (s5 _ _ (s4 _ _ na2.ends))
end
end K98
namespace Own
open PySem PySem.Spec PyProof.Rows
abbrev IsZipC (h:Heap) (z TI TO:Addr) (own:Value) (c:Bool):Prop:=h.get? z=some { cls:=.type "zip",dict:=none,data:=.fields #[own,.bool c,.bool false,.ref TI,.ref TO],slots:=#[] }
section
variable {prog:Program}{w:World}{A:Around}{E:Value→Shared→Prop}{s:Shared}{z TI TO i1 i2:Addr}{f1 f2:List Addr}{n1 n2 k:Nat}{P1 P2:Nat→Value→Prop}{S1 S2:Nat→Heap→Prop}{a b:Value}
theorem zgB {a:Addr}{Q:Option Obj→Shared→Prop}(ho:s.heap.get? a=none) (h:Q none s):wpAny (model prog w) A (loadIfAlive a) Q E s:=by
 have h':Q (s.heap.get? a) s:=ho.symm ▸ h
 exact fun _ _ _=>h'
theorem zd4 {α:Type}{t:Addr}{c:Bool}{f:Bool→Sem α}{Q:α→Shared→Prop}(hz:IsZipN s.heap z TI TO t c) (ho:s.heap.get? t=none) (h:wpAny (model prog w) A (f true) Q E s) :
  wpAny (model prog w) A (Builtin.SmallTypes.ownedTupleIsFree (.ref z) >>= f) Q E s:=by
 refine wpAny_bind ?_;unfold Builtin.SmallTypes.ownedTupleIsFree
 refine rf 0 hz rfl rfl ?_
 show wpAny _ _ (loadIfAlive ((t:Int).toNat) >>= _) _ _ _
 rw[Int.toNat_natCast]
 refine wpAny_bind (zgB ho ?_)
 simp only[Option.isNone_none,if_true]
 exact wpAny_pure h
theorem ze7 (S:Sep z TI TO i1 i2 f1 f2) (D1:Draws prog w A i1 f1 n1 P1 S1) (D2:Draws prog w A i2 f2 n2 P2 S2) {Q:Value→Shared→Prop}
  {t:Addr}{c1:Bool}(hz:IsZipN s.heap z TI TO t c1) (hn:s.heap.get? t=none) (hI:IsPair s.heap TI (.ref i1) (.ref i2)) (hO:IsPair s.heap TO a b) (d1:S1 k s.heap) (d2:S2 k s.heap) (l1:k<n1) (l2:k<n2)
  (h:∀ x y h' tk,P1 k x→P2 k y→IsZip h' z TI TO (rawInt s.heap.objs.size)→IsPair h' TO x y→S1 (k+1) h'→S2 (k+1) h'→IsPair h' s.heap.objs.size x y →
   (∀ c o,c∉[z,TO,i1,i2]→s.heap.get? c=some o→h'.get? c=some o)→Q (.ref s.heap.objs.size) { s with heap:=h',toks:=tk }) :
  wpAny (model prog w) A (Builtin.«zip.__next__» ⟨[.ref z],[]⟩) (fun r s'=>∃ v,r=.done (.ret v)∧Q v s') E s:=by
 have nd:=S.all
 simp only[List.nodup_cons,List.mem_cons,List.not_mem_nil,or_false,not_or]at nd
 obtain⟨⟨zI,zO,z1,z2⟩,⟨IO,I1,I2⟩,⟨O1,O2⟩,n12,_⟩:=nd
 refine rf 2 hz rfl rfl (rf 3 hz rfl rfl (wpAny_bind (wpAny_seqItems hI rfl (zd4 hz hn ?_))))
 rw[if_pos rfl]
 refine wpAny_bind (wpAny_rule (rf 4 hz rfl rfl (wpAny_bind (wpAny_setField_rec hz (show 0<5 by decide) fun ha za sa=>wpAny_bind ?_))))
 have za':IsZipC ha z TI TO .ellipsis c1:=za;simp only[List.zipIdx_cons,List.zipIdx_nil,List.forIn_cons,List.forIn_nil]
 refine wpAny_bind (wpAny_bind (wpAny_onRaise (wpAny_bind (D1.item k _ _ _ l1 (D1.frame _ _ _ d1 fun c hc o e=>(sa.2 c fun q=>S.z1 (q ▸ hc)).trans e) fun x hb tb px db sb=>wpAny_pure ?_))))
 have Ob:IsPair hb TO a b:=(sb.2 TO O1).trans ((sa.2 TO (Ne.symm zO)).trans hO)
 refine wpAny_bind (wpAny_seqItems Ob rfl (wpAny_bind (wpAny_updateSeq_pair Ob fun hc Oc sc=>wpAny_bind (wpAny_letGo (wpAny_pure ?_)))))
 have Oc':IsPair hc TO x b:=Oc
 have st2:S2 k hc:=D2.frame _ _ _ d2 fun c hm o e=>(sc.2 c fun q=>S.t2 (q ▸ hm)).trans ((sb.2 c fun q=>S.o2 (q ▸ hm)).trans ((sa.2 c fun q=>S.z2 (q ▸ hm)).trans e))
 refine wpAny_bind (wpAny_bind (wpAny_onRaise (wpAny_bind (D2.item k _ _ _ l2 st2 fun y hd td py dd sd=>wpAny_pure ?_))))
 have Od:IsPair hd TO x b:=(sd.2 TO O2).trans Oc'
 refine wpAny_bind (wpAny_seqItems Od rfl (wpAny_bind (wpAny_updateSeq_pair Od fun he Oe se=>wpAny_bind (wpAny_letGo (wpAny_pure (wpAny_pure ?_))))))
 have Oe':IsPair he TO x y:=Oe
 refine wpAny_bind (wpAny_seqItems Oe' rfl (wpAny_bind (wpAny_newTuple (wpAny_bind ?_))))
 have sz:he.objs.size=s.heap.objs.size:=by rw[se.1,sd.1,sc.1,sb.1,sa.1]
 have ze:IsZipC he z TI TO .ellipsis c1:=(se.2 z zO).trans ((sd.2 z z2).trans ((sc.2 z zO).trans ((sb.2 z z1).trans za')))
 have zn:he.objs.size≠z:=Nat.ne_of_gt (Heap.lt_size ze)
 unfold Builtin.SmallTypes.ownedTupleHandOut;refine wpAny_bind (wpAny_setField_rec (Heap.get?_push_of_some _ ze) (show 0<5 by decide) fun hf zf sf=>wpAny_setField_rec zf (show 1<5 by decide) fun hg zg sg=>wpAny_pure ⟨_,rfl,?_⟩)
 have up:∀ c o,c≠z→he.get? c=some o→hg.get? c=some o:=fun c o q e=>(sg.2 c q).trans ((sf.2 c q).trans (Heap.get?_push_of_some _ e))
 have new:IsPair hg he.objs.size x y:=(sg.2 _ zn).trans ((sf.2 _ zn).trans (Heap.get?_push_size _ rfl))
 have zg':IsZip hg z TI TO (rawInt he.objs.size):=zg
 rw[sz]at new zg'
 show Q (.ref he.objs.size) _
 rw[sz]
 refine h x y hg td px py zg' (up _ _ (Ne.symm zO) Oe') ?_ ?_ new fun c o hc e=>?_
 ·exact D1.frame _ _ _ db fun c hm o e=>up c o (fun q=>S.z1 (q ▸ hm)) ((se.2 c fun q=>S.t1 (q ▸ hm)).trans ((sd.2 c fun q=>S.o1 (q ▸ hm)).trans ((sc.2 c fun q=>S.t1 (q ▸ hm)).trans e)))
 ·exact D2.frame _ _ _ dd fun c hm o e=>up c o (fun q=>S.z2 (q ▸ hm)) ((se.2 c fun q=>S.t2 (q ▸ hm)).trans e)
 ·simp only[List.mem_cons,List.not_mem_nil,or_false,not_or]at hc
  obtain⟨c1,c2,c3,c4⟩:=hc
  exact up c o c1 ((se.2 c c2).trans ((sd.2 c c4).trans ((sc.2 c c2).trans ((sb.2 c c3).trans ((sa.2 c c1).trans e)))))
theorem ze3 (S:Sep z TI TO i1 i2 f1 f2) (D1:Draws prog w A i1 f1 n1 P1 S1) {Q:Fin→Shared→Prop}{t:Addr}{c1:Bool}(hz:IsZipN s.heap z TI TO t c1) (hn:s.heap.get? t=none) (hI:IsPair s.heap TI (.ref i1) (.ref i2)) (d1:S1 n1 s.heap)
  (h:∀ h' x,(∀ c o,c∉[z,TO,i1,i2]→s.heap.get? c=some o→h'.get? c=some o)→(∃ o,h'.get? x=some o∧o.cls=.type "StopIteration")→E (.ref x) { s with heap:=h' }):wpAny (model prog w) A (Builtin.«zip.__next__» ⟨[.ref z],[]⟩) Q E s:=by
 have nd:=S.all
 simp only[List.nodup_cons,List.mem_cons,List.not_mem_nil,or_false,not_or]at nd
 obtain⟨⟨zI,zO,z1,z2⟩,⟨IO,I1,I2⟩,⟨O1,O2⟩,n12,_⟩:=nd
 refine rf 2 hz rfl rfl (rf 3 hz rfl rfl (wpAny_bind (wpAny_seqItems hI rfl (zd4 hz hn ?_))))
 rw[if_pos rfl]
 refine wpAny_bind (wpAny_rule (rf 4 hz rfl rfl (wpAny_bind (wpAny_setField_rec hz (show 0<5 by decide) fun ha za sa=>wpAny_bind ?_))))
 have za':IsZipC ha z TI TO .ellipsis c1:=za;simp only[List.zipIdx_cons,List.zipIdx_nil,List.forIn_cons,List.forIn_nil]
 refine wpAny_bind (wpAny_bind (wpAny_onRaise (wpAny_bind (D1.done _ _ _ (D1.frame _ _ _ d1 fun c hc o e=>(sa.2 c fun q=>S.z1 (q ▸ hc)).trans e) fun hb x kb ⟨ox,ex,cx⟩=>?_))))
 have zb:IsZipC hb z TI TO .ellipsis c1:=kb z _ z1 za'
 have xz:x≠z:=fun q=>by rw[q,zb]at ex;cases ex;exact absurd (show Value.type "zip" = Value.type "StopIteration" from cx) (by decide)
 refine wpAny_setField_rec zb (show 0<5 by decide) fun hc _ sc=>h hc x (fun c o hm e=>?_) ⟨ox,(sc.2 x xz).trans ex,cx⟩
 simp only[List.mem_cons,List.not_mem_nil,or_false,not_or]at hm
 exact(sc.2 c hm.1).trans (kb c o hm.2.2.1 ((sa.2 c hm.1).trans e))
theorem ze6 {t:Addr}{c:Bool}{o:Obj}(S:Sep z TI TO i1 i2 f1 f2) (D1:Draws prog w A i1 f1 n1 P1 S1) (D2:Draws prog w A i2 f2 n2 P2 S2) {Q:Value→Shared→Prop}
  (hz:IsZipN s.heap z TI TO t c) (ho:s.heap.get? t=some o) (hI:IsPair s.heap TI (.ref i1) (.ref i2)) (d1:S1 k s.heap) (d2:S2 k s.heap) (l1:k<n1) (l2:k<n2)
  (h:∀ x y h' tk,P1 k x→P2 k y→IsZipN h' z TI TO t true→S1 (k+1) h'→S2 (k+1) h'→IsPair h' s.heap.objs.size x y →
   (∀ c o,c∉[z,i1,i2]→s.heap.get? c=some o→h'.get? c=some o)→Q (.ref s.heap.objs.size) { s with heap:=h',toks:=tk }) :
  wpAny (model prog w) A (Builtin.«zip.__next__» ⟨[.ref z],[]⟩) (fun r s'=>∃ v,r=.done (.ret v)∧Q v s') E s:=by
 have nd:=S.all
 simp only[List.nodup_cons,List.mem_cons,List.not_mem_nil,or_false,not_or]at nd
 obtain⟨⟨zI,zO,z1,z2⟩,⟨IO,I1,I2⟩,⟨O1,O2⟩,n12,_⟩:=nd
 refine rf 2 hz rfl rfl (rf 3 hz rfl rfl (wpAny_bind (wpAny_seqItems hI rfl (zcd hz ho fun ha za sa=>?_))))
 rw[if_neg Bool.false_ne_true]
 refine wpAny_bind ?_
 simp only[List.forIn_toArray,List.forIn_cons,List.forIn_nil]
 refine wpAny_bind (wpAny_bind (wpAny_holding (wpAny_bind (D1.item k _ _ _ l1 (D1.frame _ _ _ d1 fun c hc o e=>(sa.2 c fun q=>S.z1 (q ▸ hc)).trans e) fun x hb tb px db sb=>wpAny_pure (wpAny_pure ?_)))))
 have st2:S2 k hb:=D2.frame _ _ _ d2 fun c hm o e=>(sb.2 c fun q=>S.o2 (q ▸ hm)).trans ((sa.2 c fun q=>S.z2 (q ▸ hm)).trans e)
 refine wpAny_bind (wpAny_bind (wpAny_holding (wpAny_bind (D2.item k _ _ _ l2 st2 fun y hd td py dd sd=>wpAny_pure (wpAny_pure (wpAny_pure ?_))))))
 refine wpAny_bind (wpAny_newTuple (wpAny_pure ⟨_,rfl,?_⟩) (hsz:=by show 2≤sizeLine;decide))
 have sz:hd.objs.size=s.heap.objs.size:=by rw[sd.1,sb.1,sa.1]
 show Q (.ref hd.objs.size) _
 rw[sz]
 have zd:IsZipN hd z TI TO t true:=(sd.2 z z2).trans ((sb.2 z z1).trans za)
 have new:(hd.push { cls:=.type "tuple",data:=.seq #[x,y] }).get? s.heap.objs.size=some { cls:=.type "tuple",data:=.seq #[x,y] }:=by rw[← sz];exact Heap.get?_push_size _ rfl
 refine h x y _ td px py (Heap.get?_push_of_some _ zd) ?_ ?_ new fun c o hc e=>?_
 ·exact D1.frame _ _ _ db fun c hm o e=>Heap.get?_push_of_some _ ((sd.2 c fun q=>S.o1 (q ▸ hm)).trans e)
 ·exact D2.frame _ _ _ dd fun c hm o e=>Heap.get?_push_of_some _ e
 ·simp only[List.mem_cons,List.not_mem_nil,or_false,not_or]at hc
  exact Heap.get?_push_of_some _ ((sd.2 c hc.2.2).trans ((sb.2 c hc.2.1).trans ((sa.2 c hc.1).trans e)))
def AnyZip (h:Heap) (z TI TO:Addr):Prop:=IsZip h z TI TO .none∨∃ t c,IsZipN h z TI TO t c
theorem AnyZip.obj {h:Heap}(x:AnyZip h z TI TO):∃ o,h.get? z=some o∧o.cls=.type "zip"∧∀ v,o.data≠.cell v:=by
 rcases x with x|⟨t,c,x⟩
 ·exact⟨_,x,rfl,fun v q=>by cases q⟩
 ·exact⟨_,x,rfl,fun v q=>by cases q⟩
theorem ze8 (S:Sep z TI TO i1 i2 f1 f2) (D1:Draws prog w A i1 f1 n1 P1 S1) (D2:Draws prog w A i2 f2 n2 P2 S2) {Q:Value→Shared→Prop}
  (hz:AnyZip s.heap z TI TO) (hI:IsPair s.heap TI (.ref i1) (.ref i2)) (hO:IsPair s.heap TO a b) (d1:S1 k s.heap) (d2:S2 k s.heap) (l1:k<n1) (l2:k<n2)
  (h:∀ x y h' tk,P1 k x→P2 k y→AnyZip h' z TI TO→(∃ a b,IsPair h' TO a b)→S1 (k+1) h'→S2 (k+1) h'→IsPair h' s.heap.objs.size x y →
   (∀ c o,c∉[z,TO,i1,i2]→s.heap.get? c=some o→h'.get? c=some o)→Q (.ref s.heap.objs.size) { s with heap:=h',toks:=tk }) :
  wpAny (model prog w) A (Builtin.«zip.__next__» ⟨[.ref z],[]⟩) (fun r s'=>∃ v,r=.done (.ret v)∧Q v s') E s:=by
 rcases hz with hz|⟨t,c,hz⟩
 ·exact zd3 S D1 D2 hz hI hO d1 d2 l1 l2 fun x y h' tk px py zz zo q1 q2 nw kk=>h x y h' tk px py (.inr ⟨_,_,zz⟩) ⟨_,_,zo⟩ q1 q2 nw kk
 ·cases et:s.heap.get? t with
  | none=>exact ze7 S D1 D2 hz et hI hO d1 d2 l1 l2 fun x y h' tk px py zz zo q1 q2 nw kk=>h x y h' tk px py (.inr ⟨_,_,zz⟩) ⟨_,_,zo⟩ q1 q2 nw kk
  | some o =>
   have nd:=S.all
   simp only[List.nodup_cons,List.mem_cons,List.not_mem_nil,or_false,not_or]at nd
   obtain⟨⟨zI,zO,z1,z2⟩,⟨IO,I1,I2⟩,⟨O1,O2⟩,n12,_⟩:=nd
   refine ze6 S D1 D2 hz et hI d1 d2 l1 l2 fun x y h' tk px py zz q1 q2 nw kk=>h x y h' tk px py (.inr ⟨_,_,zz⟩) ⟨_,_,kk TO _ (by simp[Ne.symm zO,O1,O2]) hO⟩ q1 q2 nw fun c o hc e=>kk c o (fun m=>hc ?_) e
   simp only[List.mem_cons,List.not_mem_nil,or_false]at m ⊢
   rcases m with m|m|m
   ·exact .inl m
   ·exact .inr (.inr (.inl m))
   ·exact .inr (.inr (.inr m))
theorem ze4 (S:Sep z TI TO i1 i2 f1 f2) (D1:Draws prog w A i1 f1 n1 P1 S1) {Q:Fin→Shared→Prop}(hz:AnyZip s.heap z TI TO) (hI:IsPair s.heap TI (.ref i1) (.ref i2)) (d1:S1 n1 s.heap)
  (h:∀ h' x,(∀ c o,c∉[z,TO,i1,i2]→s.heap.get? c=some o→h'.get? c=some o)→(∃ o,h'.get? x=some o∧o.cls=.type "StopIteration")→E (.ref x) { s with heap:=h' }):wpAny (model prog w) A (Builtin.«zip.__next__» ⟨[.ref z],[]⟩) Q E s:=by
 rcases hz with hz|⟨t,c,hz⟩
 ·exact zd2 S D1 hz hI d1 h
 ·cases et:s.heap.get? t with
  | none=>exact ze3 S D1 hz et hI d1 h
  | some o=>exact zcL S D1 hz et hI d1 h
theorem zgj {s:Shared}{E:Value→Shared→Prop}{Q:Value→Shared→Prop}(hz:AnyZip s.heap z TI TO) (h:Q (.ref z) s):wpAny (model prog w) A (pyIter (.ref z)) Q E s:=by
 obtain⟨oz,ez,cz,_⟩:=hz.obj
 have ty:s.TypeIs (.ref z) "zip":=⟨oz,ez,cz⟩
 exact wpAny_pyIter_slot ty F.slot_zip_iter (wpAny_call_entry F.slot_zip_iter ty F.entry_zip_iter (show wpAny _ _ (ret (.ref z)) _ _ s from wpAny_pure ⟨_,rfl,"zip",_,ty,F.slot_zip_next.lookup,h⟩) (F.args_zip_iter_1 _))
end
end Own
namespace L2
open PySem PySem.Spec PyProof.Rows Own
theorem zff {P:Program}{w:World}{K:PySem.W.Frag}{y1:Str}{p1:Pos}(b1 b2:Bool) (a1 a2 z TI TO i1 i2:Addr) (nd:[z,TI,TO,i1,i2].Nodup) :
  Turn P w K (.Name y1 p1) (Itz K b1 b2 a1 a2) [z,TI,TO,i1,i2] z (fun i h=>AnyZip h z TI TO∧IsPair h TI (.ref i1) (.ref i2)∧(∃ a b,IsPair h TO a b)∧RIt b1 h i1 a1 i∧RIt b2 h i2 a2 i) where
 mem:=List.mem_cons_self
 obj:=fun i h ⟨hz,hI,⟨a,b,hO⟩,h1,h2⟩ c hc=>by
  simp only[List.mem_cons,List.not_mem_nil,or_false]at hc
  rcases hc with rfl|rfl|rfl|rfl|rfl
  ·obtain⟨o,e,_,d⟩:=hz.obj;exact⟨o,e,d⟩
  ·exact⟨_,hI,fun v q=>by cases q⟩
  ·exact⟨_,hO,fun v q=>by cases q⟩
  ·exact⟨_,h1,fun v q=>by cases q⟩
  ·exact⟨_,h2,fun v q=>by cases q⟩
 keep:=fun i h h' ⟨hz,hI,⟨a,b,hO⟩,h1,h2⟩ kk=>⟨hz.imp (fun q=>kk z (by simp) _ q) (fun ⟨t,c,q⟩=>⟨t,c,kk z (by simp) _ q⟩),kk TI (by simp) _ hI,⟨a,b,kk TO (by simp) _ hO⟩,kk i1 (by simp) _ h1,kk i2 (by simp) _ h2⟩
 item:=by
  intro X hP hw hK hc i pins s σ H E I hf ⟨hz,hI,⟨a,b,hO⟩,h1,h2⟩ ⟨xs,ys,x,y,q1,q2,hx,hy⟩
  subst hP hw hK
  obtain⟨u1,r1,p1⟩:=I.sq q1
  obtain⟨u2,r2,p2⟩:=I.sq q2
  obtain⟨v1,e1,rx⟩:=r1.get hx
  obtain⟨v2,e2,ry⟩:=r2.get hy
  have nd':=nd
  simp only[List.nodup_cons,List.mem_cons,List.not_mem_nil,or_false,not_or]at nd'
  obtain⟨⟨zI,zO,z1,z2⟩,⟨IO,I1,I2⟩,⟨O1,O2⟩,n12,_⟩:=nd'
  have na1:∀ c∈[z,TI,TO,i1,i2],c≠a1:=fun c hm=>I.sq_ne q1 (hf c hm)
  have na2:∀ c∈[z,TI,TO,i1,i2],c≠a2:=fun c hm=>I.sq_ne q2 (hf c hm)
  have S:Sep z TI TO i1 i2 [i1,a1] [i2,a2]:=⟨nd,by simp[z1,na1 z (by simp)],by simp[O1,na1 TO (by simp)],by simp[Ne.symm n12,na1 i2 (by simp)],by simp[z2,na2 z (by simp)],by simp[O2,na2 TO (by simp)],by simp[n12,na2 i1 (by simp)]⟩
  have hd:=I.ok.hd hc
  have D1:=zcD (prog:=X.prog) (w:=X.w) (A:=X.A.in1) hd b1 i1 a1 u1.toArray (p1.ne h1)
  have D2:=zcD (prog:=X.prog) (w:=X.w) (A:=X.A.in1) hd b2 i2 a2 u2.toArray (p2.ne h2)
  obtain⟨oz,ez,cz,dz⟩:=hz.obj
  have tyz:s.TypeIs (.ref z) "zip":=⟨oz,ez,cz⟩
  unfold pyNext
  refine wpAny_bind (wpAny_attempt (wpAny_callSpecial?_slot (name:="__next__") tyz F.slot_zip_next (wpAny_call_entry F.slot_zip_next tyz F.entry_zip_next (ze8 S D1 D2 hz hI hO ⟨h1,p1⟩ ⟨h2,p2⟩ (by simpa using (List.getElem?_eq_some_iff.mp e1).1) (by simpa using (List.getElem?_eq_some_iff.mp e2).1)
   fun w1 w2 h' tk hw1 hw2 zh ⟨oa,ob,Oh⟩ d1 d2 new hk=>wpAny_pure ?_) (F.args_zip_next_1 _))))
  obtain rfl:v1=w1:=Option.some.inj (e1.symm.trans (by simpa using hw1))
  obtain rfl:v2=w2:=Option.some.inj (e2.symm.trans (by simpa using hw2))
  refine⟨_,rfl,wpAny_pure ?_⟩
  have nz:s.heap.objs.size≠z:=Nat.ne_of_gt (Heap.lt_size ez)
  have far:∀ c∈[z,TI,TO,i1,i2],c≠s.heap.objs.size:=fun c hm=>by
   simp only[List.mem_cons,or_false,List.not_mem_nil]at hm
   rcases hm with rfl|rfl|rfl|rfl|rfl
   ·exact Nat.ne_of_lt (Heap.lt_size ez)
   ·exact Nat.ne_of_lt (Heap.lt_size hI)
   ·exact Nat.ne_of_lt (Heap.lt_size hO)
   ·exact Nat.ne_of_lt (Heap.lt_size h1)
   ·exact Nat.ne_of_lt (Heap.lt_size h2)
  refine⟨.ref s.heap.objs.size,_,I.spunN (fp:=[z,TI,TO,i1,i2]) (fun c o hm q=>?_) hf (Nat.le_refl _) (zbD new rx ry),rfl,⟨x,y,fun l hl=>by rw[I.sq_inj hl q1];exact hx,fun l hl=>by rw[I.sq_inj hl q2];exact hy,_,I.fresh,rfl,rfl⟩,
   ⟨zh,hk TI _ (by simp[Ne.symm zI,IO,I1,I2]) hI,⟨_,_,Oh⟩,d1.1,d2.1⟩,fun c hm=>by rw[zac (far c hm),(hf c hm).1]⟩
  simp only[List.mem_cons,List.not_mem_nil,or_false,not_or]at hm
  exact hk c o (by simp[hm]) q
 done:=by
  intro X hP hw hK hc i pins s σ H E I hf ⟨hz,hI,⟨a,b,hO⟩,h1,h2⟩ ⟨xs,q1,hx⟩
  subst hP hw hK
  obtain⟨u1,r1,p1⟩:=I.sq q1
  have nd':=nd
  simp only[List.nodup_cons,List.mem_cons,List.not_mem_nil,or_false,not_or]at nd'
  obtain⟨⟨zI,zO,z1,z2⟩,⟨IO,I1,I2⟩,⟨O1,O2⟩,n12,_⟩:=nd'
  have na1:∀ c∈[z,TI,TO,i1,i2],c≠a1:=fun c hm=>I.sq_ne q1 (hf c hm)
  have S:Sep z TI TO i1 i2 [i1,a1] [i2]:=⟨nd,by simp[z1,na1 z (by simp)],by simp[O1,na1 TO (by simp)],by simp[Ne.symm n12,na1 i2 (by simp)],by simp[z2],by simp[O2],by simp[n12]⟩
  have hsz:i=u1.toArray.size:=by rw[List.size_toArray,← r1.length,hx]
  obtain⟨oz,ez,cz,dz⟩:=hz.obj
  have tyz:s.TypeIs (.ref z) "zip":=⟨oz,ez,cz⟩
  unfold pyNext
  refine wpAny_bind (wpAny_attempt (wpAny_callSpecial?_slot (name:="__next__") tyz F.slot_zip_next (wpAny_call_entry F.slot_zip_next tyz F.entry_zip_next
   (ze4 S (zcD (prog:=X.prog) (w:=X.w) (A:=X.A.in1) (I.ok.hd hc) b1 i1 a1 u1.toArray (p1.ne h1)) hz hI ⟨by rw[← hsz];exact h1,p1⟩ fun h' x hk ⟨o,eo,co⟩=>?_) (F.args_zip_next_1 _))))
  refine wpAny_bind (wpAny_isInstance (T:="StopIteration") (b:=true) ⟨o,eo,co⟩ isSubtype_stop (wpAny_pure ⟨rfl,I.spun (t':=s.toks) (fp:=[z,TI,TO,i1,i2]) (fun c o hm q=>hk c o ?_ q) hf⟩))
  simp only[List.mem_cons,List.not_mem_nil,or_false,not_or]at hm ⊢
  exact⟨hm.1,hm.2.2.1,hm.2.2.2.1,hm.2.2.2.2⟩
 self:=fun _ _ _ _ _ st h=>zgj st.1 h
theorem ziI {X:Cx}{a b:Expr}{ta:TA}{p pos p1:Pos}{y1:Str}(b1 b2:Bool) (hg:Gl X "zip") (hm:X.mg "zip" = none) (ha:PA X [a,b] ta) (hs:starEach [a,b] X.env=[(false,eval a X.env),(false,eval b X.env)]:=by rfl) (hs2:starEach [b] X.env=[(false,eval b X.env)]:=by rfl) :
  PI X (.Name y1 p1) (.Call (.Name "zip" p) [a,b] [] pos) (iZip X.K b1 b2 ta):=by
 intro pins s σ H R I h
 refine Call_ (zaD I hg hm (u:=.type "zip") (by rfl) (PyProof.Rows.callWith_type1 (thn (ha pos pins s σ H _ I h) fun us s1 ⟨vs,H1,I1,r1,q1⟩=>?_) (by rw[hs,hs2]) (by rw[hs2];rfl)))
 obtain⟨a1,a2,xs,ys,rfl,hq1,hq2,q⟩:=q1
 obtain⟨u,v,rfl,ru,rv⟩:=r1.two
 cases ru
 cases rv
 obtain⟨its,_,pl1⟩:=I1.sq hq1
 obtain⟨jts,_,pl2⟩:=I1.sq hq2
 refine callType_new F.called_zip (by decide) (F.typeCall_zip_2 _ _) (F.newCall_zip_2 _ _) (fun obj=>F.args_object_init_3 obj _ _) F.entry_zip_new (zdm b1 b2 a1 a2 its.toArray jts.toArray) ⟨pl1,pl2,fun h' z ⟨TI,TO,i1,i2,nd,far,hz,hI,hO,h1,h2⟩ hk=>⟨⟨_,hz,rfl⟩,?_⟩⟩
 exact wpAny_pyIter_zip hz ⟨_,[z,TI,TO,i1,i2],_,_,H1,rfl,I1.kept (t':=s1.toks) hk,zff b1 b2 a1 a2 z TI TO i1 i2 nd,⟨.inl hz,hI,⟨_,_,hO⟩,h1,h2⟩,fun c hc=>I1.fpOk (far c hc) (I1.hok.fresh (far c hc)),q⟩
section
variable {X:Cx}{tg:Expr}
end
end L2
namespace Bn
open PySem L2 Own
def zgL:Nat→List Nat→List Fk
 | 0,_=>[]
 | m+1,row=>if row.length<2 then [] else (row.take (row.length / 2)).zip row.reverse++zgL m (row.take (row.length / 2))++zgL m (row.drop (row.length / 2))
def ziD (k:Nat):Nt:=⟨2 ^ k,(List.replicate k (zgL k (List.range (2 ^ k)))).flatten,List.range (2 ^ k)⟩
theorem zfM {H:Hp}{ts:List V}{a b:List Nat}(z:Zip2 H ts (nums a) (nums b)) (hl:a.length≤b.length):Prs H ts (a.zip b):=by
 have tl:=z.1
 rw[zag]at tl
 have all:∀ (i:Nat) t,ts[i]?=some t→IsFk H t ((a.zip b).getD i (0,0)):=fun i t ht=>by
  obtain⟨c,x,y,rfl,hx,hy,hc⟩:=z.2 i t ht
  unfold nums at hx hy
  rw[List.getElem?_map]at hx hy
  obtain⟨x',ex,rfl⟩:=Option.map_eq_some_iff.mp hx
  obtain⟨y',ey,rfl⟩:=Option.map_eq_some_iff.mp hy
  have both:(a.zip b)[i]?=some (x',y'):=List.getElem?_zip_eq_some.mpr ⟨ex,ey⟩
  rw[List.getD_eq_getElem?_getD,both]
  exact⟨c,rfl,hc⟩
 have mp:ts.map (decF H)=a.zip b:=by
  refine List.ext_getElem? fun i=>?_
  rw[List.getElem?_map]
  cases e:ts[i]? with
  | none =>
   have il:=List.getElem?_eq_none_iff.mp e
   exact(List.getElem?_eq_none_iff.mpr (by rw[List.length_zip];lia)).symm
  | some t =>
   have il:=(List.getElem?_eq_some_iff.mp e).1
   rw[Option.map_some,(all i t e).dec,List.getD_eq_getElem?_getD,List.getElem?_eq_getElem (by rw[List.length_zip];lia)];rfl
 rw[← mp]
 refine zhR fun x hx=>?_
 obtain⟨i,hi⟩:=List.mem_iff_getElem?.mp hx
 rw[(all i x hi).dec]
 exact all i x hi
end Bn
namespace L2
open PySem PySem.Spec PyProof.Rows Own
theorem zi3 {K:PySem.W.Frag}{b1 b2:Bool}{a1 a2:Addr}{xs ys:List V}(hxy:xs.length=ys.length) {g g1:TG}{wi1:TI}{tt:TT}{te:TE}{l:Addr}{σ:St}{H:Hp}{Q:VK}(Pv:Nat→List V→St→Hp→Prop) (h0:Pv 0 [] σ H)
  (hl:∀ i acc σ H,Pv i acc σ H→H l=some (.lst acc)∧SqB b1 K H a1 xs∧SqB b2 K H a2 ys)
  (hs:∀ i acc σ H x y T,xs[i]?=some x→ys[i]?=some y→H T=none→Pv i acc σ H→g (.ref T) σ (upd H T (.tup [x,y])) fun σ3 H3=>wi1 σ3 H3 fun J1 H4 =>
   ∃ W1:Nat→Nat→List V→St→Hp→Prop,(∃ m1,W1 0 m1 acc σ3 H4)∧LCW1 J1 g1 tt te l (fun ac τ G=>Nx xs.length i (Pv (i+1) ac τ G)) W1)
  (hd:∀ acc σ H,Pv xs.length acc σ H→Q (.ref l) H):∃ W:Nat→Nat→List V→St→Hp→Prop,(∃ m,W 0 m [] σ H) ∧
   ∀ i m acc σ' H',W i m acc σ' H'→H' l=some (.lst acc)∧(((Itz K b1 b2 a1 a2).stop i H'∧Q (.ref l) H')∨((Itz K b1 b2 a1 a2).go i H'∧∀ x H2,(Itz K b1 b2 a1 a2).yld i H' x H2→g x σ' H2 fun σ3 H3=>wi1 σ3 H3 fun J1 H4 =>
    ∃ W1:Nat→Nat→List V→St→Hp→Prop,(∃ m1,W1 0 m1 acc σ3 H4)∧LCW1 J1 g1 tt te l (fun ac τ G=>∃ m',m'<m∧W (i+1) m' ac τ G) W1)):=by
 refine⟨fun i m acc σ H=>m=xs.length-i∧i≤xs.length∧Pv i acc σ H,⟨xs.length,by simp,Nat.zero_le _,h0⟩,?_⟩
 rintro i m acc σ H ⟨rfl,hi,p⟩
 obtain⟨q0,q1,q2⟩:=hl i acc σ H p
 refine⟨q0,?_⟩
 by_cases hlt:i<xs.length
 ·refine .inr ⟨⟨xs,ys,_,_,q1,q2,List.getElem?_eq_getElem hlt,List.getElem?_eq_getElem (by lia)⟩,fun v H2 ⟨x,y,ex,ey,T,hT,e1,e2⟩=>?_⟩
  subst e1 e2
  exact hs i acc σ H x y T (ex xs q1) (ey ys q2) hT p
 ·have e:i=xs.length:=by lia
  subst e
  exact .inl ⟨⟨xs,q1,rfl⟩,hd acc σ H p⟩
theorem zi4 {K:PySem.W.Frag}{a:Addr}{zs:List V}{g:TG}{te:TE}{l:Addr}{ac:List V}{σ:St}{H:Hp}{Q:List V→St→Hp→Prop}(Pv:Nat→List V→St→Hp→Prop) (h0:Pv 0 ac σ H) (hl:∀ i acc σ H,Pv i acc σ H→H l=some (.lst acc)∧SqT K H a zs)
  (hs:∀ i x acc σ H,zs[i]?=some x→Pv i acc σ H→g x σ H fun σ3 H3=>te σ3 H3 fun y H5=>H5 l=some (.lst acc)∧acc.length<sizeLine∧Nx zs.length i (Pv (i+1) (acc++[y]) σ3 (upd H5 l (.lst (acc++[y])))))
  (hd:∀ acc σ H,Pv zs.length acc σ H→Q acc σ H):∃ W:Nat→Nat→List V→St→Hp→Prop,(∃ m,W 0 m ac σ H)∧LCW1 (Itt K a) g tYes te l Q W:=by
 refine⟨fun i m acc σ H=>m=zs.length-i∧i≤zs.length∧Pv i acc σ H,⟨_,rfl,Nat.zero_le _,h0⟩,?_⟩
 rintro i m acc σ H ⟨rfl,hi,p⟩
 obtain⟨q0,q1⟩:=hl i acc σ H p
 refine⟨q0,?_⟩
 by_cases hlt:i<zs.length
 ·refine .inr ⟨⟨zs,zs[i],q1,List.getElem?_eq_getElem hlt⟩,fun x H2 ⟨e,y⟩=>?_⟩
  subst e
  exact hs i x acc σ _ (y zs q1) p
 ·obtain rfl:i=zs.length:=by lia
  exact .inl ⟨⟨zs,q1,Nat.le_refl _⟩,hd acc σ H p⟩
def zar {α:Type}(xs ys:List α):List α:=(xs.zip ys).flatMap fun p=>[p.1,p.2]
theorem zaK {α:Type}:∀ (xs ys:List α),xs.length=ys.length→(zar xs ys).length=2*xs.length
 | [],[],_=>rfl
 | x::xs,y::ys,h=>by
  have h':xs.length=ys.length:=by simpa using h
  have:=zaK xs ys h'
  show (zar xs ys).length+2=2*(xs.length+1)
  rw[this];lia
theorem zbZ {α β:Type}(f:α→β) (xs ys:List α):zar (xs.map f) (ys.map f)=(zar xs ys).map f:=by
 induction xs generalizing ys with
 | nil=>rfl
 | cons x xs ih =>
  cases ys with
  | nil=>rfl
  | cons y ys =>
   show f x::f y::zar (xs.map f) (ys.map f)=f x::f y::(zar xs ys).map f
   rw[ih ys]
theorem za5 {α β:Type}{f g:α→Option β}:∀ (l:List α),(∀ x∈l,f x=g x)→l.filterMap f=l.filterMap g
 | [],_=>rfl
 | x::l,h=>by
  have e:=za5 l fun y hy=>h y (List.mem_cons_of_mem _ hy)
  simp only[List.filterMap_cons,h x List.mem_cons_self,e]
def by2 {α:Type}(off:Nat) (xs:List α):List α:=(List.range ((xs.length+1-off) / 2)).filterMap fun k=>xs[off+2*k]?
theorem zd0 {α:Type}(off:Nat) (ho:off≤1) (xs:List α):(by2 off xs).length=(xs.length+1-off) / 2:=by
 unfold by2
 have e:(List.range ((xs.length+1-off) / 2)).filterMap (fun k=>xs[off+2*k]?)=(List.range ((xs.length+1-off) / 2)).pmap (fun k (h:k<(xs.length+1-off) / 2)=>xs[off+2*k]'(by lia)) (fun k h=>List.mem_range.mp h):=by
  rw[List.pmap_eq_map_attach,← List.filterMap_eq_map]
  conv=>lhs;rw[← List.attach_map_subtype_val (List.range ((xs.length+1-off) / 2)),List.filterMap_map]
  refine za5 _ fun k hk=>?_
  have:=List.mem_range.mp k.2
  show xs[off+2*k.1]?=some _
  rw[List.getElem?_eq_getElem (by lia)]
 rw[e,List.length_pmap,List.length_range]
theorem zjh {α β:Type}(f:α→β) (off:Nat) (xs:List α):by2 off (xs.map f)=(by2 off xs).map f:=by
 unfold by2
 rw[List.length_map,List.map_filterMap]
 refine za5 _ fun k _=>?_
 rw[List.getElem?_map]
theorem zfb {xs:List V}{us:List Value}(r:Vals xs us) (ix:List Nat):Vals (ix.filterMap fun k=>xs[k]?) (ix.filterMap fun k=>us[k]?):=by
 induction ix with
 | nil=>exact .nil
 | cons i ix ih =>
  cases e:xs[i]? with
  | none =>
   have e2:us[i]?=none:=List.getElem?_eq_none_iff.mpr (by rw[← r.length];exact List.getElem?_eq_none_iff.mp e)
   rw[List.filterMap_cons_none e,List.filterMap_cons_none e2];exact ih
  | some x =>
   obtain⟨u,e2,ru⟩:=r.get e
   rw[List.filterMap_cons_some e,List.filterMap_cons_some e2];exact .cons ru ih
theorem zg2 (items:Array Value):slicePick items none none (some 2)=((List.range ((items.size+1) / 2)).filterMap fun k=>items.toList[2*k]?).toArray:=by
 have b:sliceBounds none none (some 2) items.size=(0,(items.size:Int),2):=rfl
 have c:sliceRange 0 (items.size:Int) 2=(List.range ((items.size+1) / 2)).map fun k=>2*k:=by
  unfold sliceRange
  have h2:(2:Int) > 0:=by decide
  by_cases h:(0:Int)<items.size
  ·have e:(((items.size:Int)-0+2-1) / 2).toNat=(items.size+1) / 2:=by lia
   simp only[h2,if_true,h,e]
   apply List.map_congr_left;intro k _;lia
  ·have e:items.size=0:=by lia
   rw[e];rfl
 unfold slicePick
 rw[b]
 show ((sliceRange 0 (items.size:Int) 2).filterMap (items[·]?)).toArray=_
 rw[c,List.filterMap_map]
 refine congrArg List.toArray (za5 _ fun k _=>?_)
 simp
theorem zfO (items:Array Value):slicePick items (some 1) none (some 2)=((List.range (items.size / 2)).filterMap fun k=>items.toList[1+2*k]?).toArray:=by
 have b:sliceBounds (some 1) none (some 2) items.size=(max 0 (min 1 (items.size:Int)),(items.size:Int),2):=rfl
 have c:sliceRange (max 0 (min 1 (items.size:Int))) (items.size:Int) 2=(List.range (items.size / 2)).map fun k=>1+2*k:=by
  unfold sliceRange
  have h2:(2:Int) > 0:=by decide
  by_cases h:(1:Int)<items.size
  ·have m:max 0 (min 1 (items.size:Int))=1:=by lia
   rw[m]
   have e:(((items.size:Int)-1+2-1) / 2).toNat=items.size / 2:=by lia
   simp only[h2,if_true,h,e]
   apply List.map_congr_left;intro k _;lia
  ·have e:items.size=0∨items.size=1:=by lia
   rcases e with e|e<;>rw[e]<;>rfl
 unfold slicePick
 rw[b]
 show ((sliceRange (max 0 (min 1 (items.size:Int))) (items.size:Int) 2).filterMap (items[·]?)).toArray=_
 rw[c,List.filterMap_map]
 refine congrArg List.toArray (za5 _ fun k _=>?_)
 simp
def tBy2 (K:PySem.W.Frag) (te:TE) (tl ts:TO):TE:=fun σ H Q=>te σ H fun x H1=>tl σ H1 fun lo H2=>ts σ H2 fun o H3=>o=some 2∧∃ off a xs,((lo=none∧off=0)∨(lo=some 1∧off=1))∧x=.ref a∧SqL K H3 a xs∧∀ p,H3 p=none→Q (.ref p) (upd H3 p (.lst (by2 off xs)))
theorem zei {X:Cx}{e st:Expr}{lo:Option Expr}{te:TE}{tl ts:TO}{p2 pos:Pos}(he:PE X e te) (hl:PO X lo tl) (hs:PO X (some st) ts):PE X (.Subscript e (.Slice lo none (some st) p2) pos) (tBy2 X.K te tl ts):=by
 intro pins s σ H Q I h
 refine Subscript_ (thn (he pins s σ H _ I h) fun v s1 ⟨x,H1,I1,r1,q1⟩=>wpAny_Slice (thn (hl pins s1 σ H1 _ I1 q1) fun vl s0 ⟨ol,H0,I0,pl,q0⟩=>?_))
 rw[evalPart_none]
 refine wpAny_pure (thn (hs pins s0 σ H0 _ I0 q0) fun vst s2 ⟨o,H2,I2,po,q2⟩=>?_)
 obtain⟨rfl,off,a,xs,hoff,rfl,hq,k⟩:=q2
 cases r1
 have I3:Inv X pins σ H2 { s2 with heap:=s2.heap.push { cls:=.type "slice",data:=.fields #[vl,.none,vst] } }:=I2.kept (t':=s2.toks) fun b ob q=>Heap.get?_push_of_some _ q
 obtain⟨its,r,ht,hz⟩:=I3.list hq
 have hlen:=r.length
 show wpAny (model X.prog X.w) X.A (subscriptTail e (.Slice lo none (some st) p2) (.ref a) (.ref s2.heap.objs.size)) (EP X pins σ Q) X.xe { s2 with heap:=s2.heap.push { cls:=.type "slice",data:=.fields #[vl,.none,vst] } }
 refine tail_any (ops:=[.ref a,.ref s2.heap.objs.size]) ht.isList.typeIs slot_list_getitem.lookup (wpAny_getItem_list_slice ht.isList (Heap.IsSliceOf.new ..) pl .none po (by simp) ?_ (by rw[List.size_toArray]<;>lia)) (by with_unfolding_all rfl)
 have pk:slicePick its.toArray ol none (some 2)=((List.range ((its.length+1-off) / 2)).filterMap fun k=>its[off+2*k]?).toArray:=by
  rcases hoff with ⟨rfl,rfl⟩|⟨rfl,rfl⟩
  ·rw[zg2];simp only[List.size_toArray,Nat.sub_zero,Nat.zero_add]
  ·rw[zfO];simp only[List.size_toArray,Nat.add_sub_cancel]
 rw[pk]
 have ho1:off≤1:=by rcases hoff with ⟨_,rfl⟩|⟨_,rfl⟩<;>decide
 have vv:Vals (by2 off xs) ((List.range ((its.length+1-off) / 2)).filterMap fun k=>its[off+2*k]?):=by
  have:=zfb r ((List.range ((its.length+1-off) / 2)).map fun k=>off+2*k)
  rw[List.filterMap_map,List.filterMap_map]at this
  unfold by2
  rw[hlen];exact this
 refine⟨.ref _,_,I3.laid (t':=s2.toks) (o:=.lst (by2 off xs)) (fun b ob q=>Heap.get?_push_of_some _ q) (Nat.le_refl _) ⟨by rw[zd0 off ho1];lia,_,0,vv,?_⟩,rfl,k _ (I3.hok.fresh (Nat.le_refl _))⟩
 exact Heap.get?_push_size _ rfl
theorem FnOk.any {P:Program}{w:World}{K:PySem.W.Frag}{mg:Str→Option Value}{base:Heap}{CX:CXT}{k:Nat}{f:Addr}{fd:FuncData}{ps:List Str}{sp:Nat→Sp}(M:Nat) (F:∀ m,m≤M→FnOk P w K mg base CX k f fd ps (sp m)) :
  FnOk P w K mg base CX k f fd ps (fun vs H Q E=>∃ m,m≤M∧sp m vs H Q E) :=
 ⟨fun vs H Q E ⟨m,hm,q⟩=>(F m hm).len vs H Q E q,fun A outer s H args us vs Q E hr he hb hv ⟨m,hm,q⟩=>(F m hm).run A outer s H args us vs Q E hr he hb hv q⟩
end L2
namespace Bn
open PySem L2 Own
def zbm:Nat→List Nat→List Fk × List Nat
 | 0,row=>([],row)
 | m+1,row=>((row.getD 0 0,row.getD (row.length / 2) 0)::((zbm m (row.take (row.length / 2))).1++(zbm m (row.drop (row.length / 2))).1),zar (zbm m (row.take (row.length / 2))).2 (zbm m (row.drop (row.length / 2))).2)
def zaz:Nat→List Nat→List Nat→List Fk × List Nat
 | 0,a,b=>(a.zip b,a++b)
 | m+1,a,b=>((zaz m (by2 0 a) (by2 1 b)).1++(zaz m (by2 1 a) (by2 0 b)).1++(zaz m (by2 0 a) (by2 1 b)).2.zip (zaz m (by2 1 a) (by2 0 b)).2,zar (zaz m (by2 0 a) (by2 1 b)).2 (zaz m (by2 1 a) (by2 0 b)).2)
def zax:Nat→List Nat→List Fk × List Nat
 | 0,row=>([],row)
 | m+1,row=>((zax m (row.take (row.length / 2))).1++(zax m (row.drop (row.length / 2))).1++(zaz m (zax m (row.take (row.length / 2))).2 (zax m (row.drop (row.length / 2))).2).1,(zaz m (zax m (row.take (row.length / 2))).2 (zax m (row.drop (row.length / 2))).2).2)
theorem zcg {m n:Nat}(h:n=2 ^ (m+1)):n / 2=2 ^ m∧n-n / 2=2 ^ m∧n / 2≤n:=by
 rw[Nat.pow_succ]at h;lia
theorem zbs {m:Nat}{row:List Nat}(h:row.length=2 ^ (m+1)):(row.take (row.length / 2)).length=2 ^ m∧(row.drop (row.length / 2)).length=2 ^ m:=by
 obtain⟨a,b,c⟩:=zcg h
 rw[List.length_take,List.length_drop]
 exact⟨by rw[Nat.min_eq_left c];exact a,b⟩
theorem zbv {α:Type}{m:Nat}{a:List α}(h:a.length=2 ^ (m+1)):(by2 0 a).length=2 ^ m∧(by2 1 a).length=2 ^ m:=by
 rw[zd0 0 (by decide),zd0 1 (by decide),h,Nat.pow_succ]
 lia
theorem zbn:∀ (m:Nat) (row:List Nat),row.length=2 ^ m→(zbm m row).2.length=2 ^ m∧(zbm m row).1.length+1=2 ^ m
 | 0,row,h=>⟨h,rfl⟩
 | m+1,row,h=>by
  obtain⟨a,b⟩:=zbs h
  obtain⟨x1,x2⟩:=zbn m _ a
  obtain⟨y1,y2⟩:=zbn m _ b
  show (zar _ _).length=_∧(_::(_++_)).length+1=_
  rw[zaK _ _ (x1.trans y1.symm),List.length_cons,List.length_append,x1,Nat.pow_succ]
  exact⟨by lia,by lia⟩
theorem zaC:∀ (m:Nat) (a b:List Nat),a.length=2 ^ m→b.length=2 ^ m→(zaz m a b).2.length=2 ^ (m+1)∧(zaz m a b).1.length=(m+1)*2 ^ m
 | 0,a,b,ha,hb=>by
  show (a++b).length=_∧(a.zip b).length=_
  rw[List.length_append,List.length_zip,ha,hb];exact⟨rfl,rfl⟩
 | m+1,a,b,ha,hb=>by
  obtain⟨a0,a1⟩:=zbv ha
  obtain⟨b0,b1⟩:=zbv hb
  obtain⟨x1,x2⟩:=zaC m _ _ a0 b1
  obtain⟨y1,y2⟩:=zaC m _ _ a1 b0
  show (zar _ _).length=_∧(_++_++List.zip _ _).length=_
  rw[zaK _ _ (x1.trans y1.symm),List.length_append,List.length_append,List.length_zip,x1,y1,x2,y2,Nat.min_self]
  have e:(m+1)*2 ^ m+(m+1)*2 ^ m=(m+1)*2 ^ (m+1):=by rw[← Nat.two_mul,Nat.pow_succ,Nat.mul_left_comm,Nat.mul_comm 2 (2 ^ m)]
  refine⟨by rw[Nat.pow_succ 2 (m+1),Nat.mul_comm],?_⟩
  rw[e,← Nat.succ_mul]
def zb0:Nat→Nat
 | 0=>0
 | m+1=>zb0 m+zb0 m+(m+1)*2 ^ m
theorem zbf:∀ m,m≤10→zb0 m≤100000∧(m+1)*2 ^ m≤20000:=by decide +kernel
theorem zaV:∀ (m:Nat) (row:List Nat),row.length=2 ^ m→(zax m row).2.length=2 ^ m∧(zax m row).1.length=zb0 m
 | 0,row,h=>⟨h,rfl⟩
 | m+1,row,h=>by
  obtain⟨a,b⟩:=zbs h
  obtain⟨x1,x2⟩:=zaV m _ a
  obtain⟨y1,y2⟩:=zaV m _ b
  obtain⟨z1,z2⟩:=zaC m _ _ x1 y1
  refine⟨z1,?_⟩
  show (List.append (List.append _ _) _).length=zb0 m+zb0 m+(m+1)*2 ^ m
  rw[List.append_eq,List.append_eq,List.length_append,List.length_append,z2,x2,y2]
def zdq (k:Nat):Nt:=⟨2 ^ k,(zbm k (List.range (2 ^ k))).1,(zbm k (List.range (2 ^ k))).2⟩
def zbw (k:Nat):Nt:=⟨2 ^ k,(zax k (List.range (2 ^ k))).1,(zax k (List.range (2 ^ k))).2⟩
def zjQ (m:Nat):Nt:=⟨2 ^ (m+1),(zaz m ((List.range (2 ^ (m+1))).take (2 ^ m)) ((List.range (2 ^ (m+1))).drop (2 ^ m))).1,(zaz m ((List.range (2 ^ (m+1))).take (2 ^ m)) ((List.range (2 ^ (m+1))).drop (2 ^ m))).2⟩
theorem zgV:∀ k,k<5→(zdq k).forks.length≤128∧(∀ f∈(zdq k).forks,f.1<2 ^ k∧f.2<2 ^ k∧f.1≠f.2)∧(zdq k).ends.Perm (List.range (2 ^ k)):=by decide +kernel
theorem zfm:∀ k,k<5→(zbw k).forks.length≤128∧(∀ f∈(zbw k).forks,f.1<2 ^ k∧f.2<2 ^ k∧f.1≠f.2)∧(zbw k).ends.Perm (List.range (2 ^ k)):=by decide +kernel
theorem za4 {k:Nat}(h:k<5):1≤2 ^ k∧2 ^ k≤16:=⟨Nat.one_le_two_pow,Nat.pow_le_pow_right (show 0<2 by decide) (show k≤4 by lia)⟩
theorem zfk {k:Nat}(h:k<5):(zdq k).Ok:=let ⟨a,b,c⟩:=zgV k h;⟨(za4 h).1,(za4 h).2,a,b,c⟩
theorem zbo {k:Nat}(h:k<5):(zbw k).Ok:=let ⟨a,b,c⟩:=zfm k h;⟨(za4 h).1,(za4 h).2,a,b,c⟩
end Bn
namespace K98
open PySem L2 Own Bn
abbrev sPow:Stmt:=top 18
abbrev zfB:Stmt:=top 22
abbrev zcs:Stmt:=top 23
def zij:Sp:=fun vs H Q _=>∃ m:Nat,vs=[.int m]∧m≤20∧Q (.int ((2 ^ m:Nat):Int)) H
def zck:Sp:=fun vs H Q _=>∃ m:Nat,vs=[.int m]∧m≤10∧∀ l,H l=none→Q (.ref l) (upd H l (.lst (nums (List.range (2 ^ m)))))
def zaX:Sp:=fun vs H Q _=>∃ (p c lf le:Addr) (ps:List V) (fs:List Fk) (row es:List Nat),vs=[.ref p,.ref c]∧H p=some (.lst (nums row))∧H c=some (.tup [.ref lf,.ref le])∧H lf=some (.lst ps)∧Prs H ps fs∧H le=some (.lst (nums es))∧(Nt.Ok ⟨row.length,fs,es⟩∧fs.length≤63) ∧
 ∀ r' fr' er' ps' H',Same H H'→NetAt H' r' fr' er' ps' (zcY ⟨row.length,fs,es⟩)→Q (.ref r') H'
theorem zeo:∀ k,k<4→(zdq k).forks.length≤63∧(zbw k).forks.length≤63∧(ziD k).forks.length≤63∧(zjQ k).forks.length≤63:=by decide +kernel
section
variable {P:Program}{w:World}{K:PySem.W.Frag}{mg:Str→Option Value}{base:Heap}
theorem scP2:FnScope ["many","power","doubling"] ["many"] (zae sPow):=⟨rfl,rfl,rfl,by decide +kernel,rfl,by decide +kernel,by decide +kernel⟩
theorem zjL {f:Addr}{fd:FuncData}(F:Fun K "power_of_two" "power_of_two" sPow f fd) (G:Mgs mg):FnOk P w K mg base CX0 1 f fd ["many"] zij:=by
 refine F.ok scP2 (fun vs H Q E h=>?_) (fun cdv A outer s H vs Q E hr h=>?_)
 ·obtain⟨m,rfl,_⟩:=h
  rfl
 obtain⟨m,rfl,hm,k⟩:=h
 refine⟨_,(@pss_cons _ _ _ _ _ (@ps_set _ _ 1 _ _ _ _ scP2.nd rfl (.inl rfl) pe_int (by rfl) (by first|exact .inl rfl|exact .inr rfl|assumption)) (@pss_cons _ _ _ _ _ (@ps_for _ _ _ _ _ _ _ _ PassesOwn.never rfl (@zat _ _ _ _ _ _ rfl G.range (@pa_cons _ _ _ _ _ (@pv _ 0 _ _ (by rfl) (by first|exact Or.inl rfl|exact Or.inr (.inl rfl)|exact Or.inr (.inr rfl)) (by decide) (by decide)) pa_nil (by rfl)) (by rfl)) (@pg_name _ _ 2 _ scP2.nd rfl (.inl rfl) (by first|exact .inl rfl|exact .inr rfl|assumption)) (@pss_one _ _ _ (@zhQ _ _ 1 _ _ _ _ _ _ scP2.nd rfl (.inl rfl) pe_int zi6 (by first|exact .inl rfl|exact .inr rfl|assumption))) (by intro _;rfl)) (@pss_one _ _ _ (@ps_ret _ _ _ _ (@pv _ 1 _ _ (by rfl) (by first|exact Or.inl rfl|exact Or.inr (.inl rfl)|exact Or.inr (.inr rfl)) (by decide) (by decide)))))),?_⟩
 refine⟨_,rfl,m,rfl,by lia,by lia,zaw (lo:=0) (n:=((m:Nat):Int).toNat) (fun i σ H2=>H2=H∧∃ v2,σ=[some (.int m),some (.int ((2 ^ i:Nat):Int)),v2]) ⟨rfl,_,rfl⟩ ?_ ?_⟩
 ·rintro i σ H2 hi ⟨rfl,v2,rfl⟩
  refine⟨_,rfl,_,_,rfl,rfl,.inr ⟨by decide,by decide⟩,rfl,some (.int (0+(i:Nat))),?_⟩
  rw[← show ((2 ^ i:Nat):Int)*2=((2 ^ (i+1):Nat):Int) from by rw[Nat.pow_succ,Int.natCast_mul];rfl];rfl
 ·rintro σ H2 ⟨rfl,v2,rfl⟩
  refine⟨_,rfl,?_⟩
  rw[show ((m:Nat):Int).toNat=m from by lia]
  exact k
theorem scRo:FnScope ["k"] ["k"] (zae zfB):=⟨rfl,rfl,rfl,by decide +kernel,rfl,by decide +kernel,by decide +kernel⟩
theorem zhd {f fP:Addr}{fd dP:FuncData}(F:Fun K "row_of" "row_of" zfB f fd) (G:Mgs mg) (UP:Use P w K mg base "power_of_two" ["many"] 1 zij fP dP):FnOk P w K mg base CX0 2 f fd ["k"] zck:=by
 refine F.ok scRo (fun vs H Q E h=>?_) (fun cdv A outer s H vs Q E hr h=>?_)
 ·obtain⟨m,rfl,_⟩:=h
  rfl
 obtain⟨m,rfl,hm,k⟩:=h
 refine⟨_,(@pss_one _ _ _ (@ps_ret _ _ _ _ (@pe_lstRng _ _ _ _ _ _ _ rfl (by rfl) G.list (by rfl) G.range (@pa_cons _ _ _ _ _ (@pe_call _ _ _ _ _ _ _ _ _ _ _ _ _ _ _ _ UP.ok hr (by rfl) UP.m UP.kp UP.b .nil pass0 (@pa_cons _ _ _ _ _ (@pv _ 0 _ _ (by rfl) (by first|exact Or.inl rfl|exact Or.inr (.inl rfl)|exact Or.inr (.inr rfl)) (by decide) (by decide)) pa_nil (by rfl)) (by decide) (by rfl) (by rfl)) pa_nil (by rfl)) (by rfl) (by rfl)))),?_⟩
 have b:2 ^ m≤2 ^ 10:=Nat.pow_le_pow_right (by decide) hm
 exact⟨_,rfl,m,rfl,by lia,2 ^ m,rfl,Nat.le_trans b (by decide),fun l hl=>k l hl⟩
theorem scMn:FnScope ["row","made","forks","ends"] ["row","made"] (zae zcs):=⟨rfl,rfl,rfl,by decide +kernel,rfl,by decide +kernel,by decide +kernel⟩
theorem zeK {f fP:Addr}{fd dP:FuncData}(F:Fun K "net_of" "net_of" zcs f fd) (G:Mgs mg) (UP:Use P w K mg base "plain" ["net"] 2 zdw fP dP):FnOk P w K mg base CX0 3 f fd ["row","made"] zaX:=by
 refine F.ok scMn (fun vs H Q E h=>?_) (fun cdv A outer s H vs Q E hr h=>?_)
 ·obtain⟨p,c,lf,le,ps,fs,row,es,rfl,_⟩:=h
  rfl
 obtain⟨p,c,lf,le,ps,fs,row,es,rfl,hp,hc,hlf,pr,hle,⟨ok,few⟩,k⟩:=h
 refine⟨_,(@pss_cons _ _ _ _ _ (@ps_asg _ _ _ _ _ _ (@pv _ 1 _ _ (by rfl) (by first|exact Or.inl rfl|exact Or.inr (.inl rfl)|exact Or.inr (.inr rfl)) (by decide) (by decide)) (@pg_tup _ _ _ _ _ _ rfl (@pgs_cons _ _ _ _ _ (@pg_name _ _ 2 _ scMn.nd rfl (.inl rfl) (by first|exact .inl rfl|exact .inr rfl|assumption)) (@pgs_cons _ _ _ _ _ (@pg_name _ _ 3 _ scMn.nd rfl (.inl rfl) (by first|exact .inl rfl|exact .inr rfl|assumption)) pgs_nil (by rfl)) (by rfl)) (by rfl) (by rfl)) (by rfl) (by rfl) (by rfl)) (@pss_one _ _ _ (@ps_ret _ _ _ _ (@pe_call _ _ _ _ _ _ _ _ _ _ _ _ _ _ _ _ UP.ok hr (by rfl) UP.m UP.kp UP.b .nil pass0 (@pa_cons _ _ _ _ _ (@pe_tup _ _ _ _ _ (@pa_cons _ _ _ _ _ (@pe_callB _ _ _ _ _ _ _ _ _ call_len_seq (by rfl) G.len PySem.boot_len (@pa_cons _ _ _ _ _ (@pv _ 0 _ _ (by rfl) (by first|exact Or.inl rfl|exact Or.inr (.inl rfl)|exact Or.inr (.inr rfl)) (by decide) (by decide)) pa_nil (by rfl)) (by decide) (by decide) (by rfl) (by rfl)) (@pa_cons _ _ _ _ _ (@pe_callTy _ _ _ _ _ _ _ _ _ call_tuple_of (by rfl) G.tuple (by rfl) (@pa_cons _ _ _ _ _ (@pv _ 2 _ _ (by rfl) (by first|exact Or.inl rfl|exact Or.inr (.inl rfl)|exact Or.inr (.inr rfl)) (by decide) (by decide)) pa_nil (by rfl)) (by decide) (by decide) (by rfl) (by rfl)) (@pa_cons _ _ _ _ _ (@pe_callTy _ _ _ _ _ _ _ _ _ call_tuple_of (by rfl) G.tuple (by rfl) (@pa_cons _ _ _ _ _ (@pv _ 3 _ _ (by rfl) (by first|exact Or.inl rfl|exact Or.inr (.inl rfl)|exact Or.inr (.inr rfl)) (by decide) (by decide)) pa_nil (by rfl)) (by decide) (by decide) (by rfl) (by rfl)) pa_nil (by rfl)) (by rfl)) (by rfl))) pa_nil (by rfl)) (by decide) (by rfl) (by rfl))))),?_⟩
 refine⟨_,rfl,c,_,rfl,SqT.of hc,rfl,_,_,rfl,_,_,rfl,rfl,?_⟩
 refine⟨_,rfl,p,_,rfl,.inl (SqL.of hp),_,rfl,lf,_,rfl,.inl ⟨SqL.of hlf,fun fr hfr=>?_⟩⟩
 have s1:=zaa hfr (.tup ps)
 refine⟨_,rfl,le,_,rfl,.inl ⟨SqL.of (s1 _ _ hle),fun er her=>?_⟩⟩
 have s2:=zaa her (.tup (nums es))
 refine⟨(by show 3≤sizeLine;decide),fun r hr'=>?_⟩
 have s3:=zaa hr' (.tup [.int ((nums row).length:Nat),.ref fr,.ref er])
 have n3:L2.upd (L2.upd (L2.upd H fr (.tup ps)) er (.tup (nums es))) r (.tup [.int ((nums row).length:Nat),.ref fr,.ref er]) r=some (.tup [.int (row.length:Nat),.ref fr,.ref er]):=by rw[zab,zag]
 refine⟨r,fr,er,ps,⟨row.length,fs,es⟩,rfl,ok,few,⟨n3,s3 _ _ (s2 _ _ (atNew hfr _)),pr.tups (Tups.of ((s1.trans s2).trans s3)),s3 _ _ (atNew her _)⟩,fun r' fr' ps' H' s' n'=>k r' fr' er ps' H' (((s1.trans s2).trans s3).trans s') n'⟩
end
abbrev sBy:Stmt:=top 27
def spBy:Sp:=fun vs H Q _=>∃ p1 p2 xs ys,vs=[.ref p1,.ref p2]∧H p1=some (.lst xs)∧H p2=some (.lst ys)∧xs.length=ys.length∧xs.length≤1000∧∀ l H',Same H H'→H' l=some (.lst (zar xs ys))→Q (.ref l) H'
theorem zex {α:Type}(xs ys:List α) (i:Nat) (x y:α) (hx:xs[i]?=some x) (hy:ys[i]?=some y):zar (xs.take (i+1)) (ys.take (i+1))=zar (xs.take i) (ys.take i)++[x,y]:=by
 obtain⟨ix,ex⟩:=List.getElem?_eq_some_iff.mp hx
 obtain⟨iy,ey⟩:=List.getElem?_eq_some_iff.mp hy
 rw[List.take_succ_eq_append_getElem ix,List.take_succ_eq_append_getElem iy,ex,ey]
 unfold zar
 rw[List.zip_append (by rw[List.length_take,List.length_take];lia),List.flatMap_append]
 rfl
section
variable {P:Program}{w:World}{K:PySem.W.Frag}{mg:Str→Option Value}{base:Heap}
theorem scBt:FnScope ["one","other"] ["one","other"] (zae sBy):=⟨rfl,rfl,rfl,by decide +kernel,rfl,by decide +kernel,by decide +kernel⟩
theorem zkw {f:Addr}{fd:FuncData}(F:Fun K "by_turns" "by_turns" sBy f fd) (G:Mgs mg):FnOk P w K mg base CX0 1 f fd ["one","other"] spBy:=by
 refine F.ok scBt (fun vs H Q E h=>?_) (fun cdv A outer s H vs Q E hr h=>?_)
 ·obtain⟨p1,p2,xs,ys,rfl,_⟩:=h
  rfl
 obtain⟨p1,p2,xs,ys,rfl,h1,h2,hxy,hz,k⟩:=h
 refine⟨_,(@pss_one _ _ _ (@ps_ret _ _ _ _ (@zhT _ _ _ _ _ _ none _ _ _ (iTup K (tVar 0)) _ _ _ _ ["pair","thing"] [none,none] rfl (@ziI _ _ _ _ _ _ _ _ true true rfl G.zip (@pa_cons _ _ _ _ _ (@pv _ 0 _ _ (by rfl) (by first|exact Or.inl rfl|exact Or.inr (.inl rfl)|exact Or.inr (.inr rfl)) (by decide) (by decide)) (@pa_cons _ _ _ _ _ (@pv _ 1 _ _ (by rfl) (by first|exact Or.inl rfl|exact Or.inr (.inl rfl)|exact Or.inr (.inr rfl)) (by decide) (by decide)) pa_nil (by rfl)) (by rfl)) (by rfl) (by rfl)) (CapOk.of (by kernel_rfl)) (fun _ _ _ _ _=>(@pg_name _ _ 0 _ (show (["pair","thing"]:List Str).Nodup from by decide +kernel) rfl (.inl rfl) (.inr rfl))) (fun _ _ _ _ _=>(@zeg _ _ _ _ (@pv _ 0 _ _ (by rfl) (by first|exact Or.inl rfl|exact Or.inr (.inl rfl)|exact Or.inr (.inr rfl)) (by decide) (by decide)))) (fun _ _ _ _ _=>(@pg_name _ _ 1 _ (show (["pair","thing"]:List Str).Nodup from by decide +kernel) rfl (.inl rfl) (.inr rfl))) (fun _ _ _ _ _=>zbb) (fun _ _ _ _ _=>(@pv _ 1 _ _ (by rfl) (by first|exact Or.inl rfl|exact Or.inr (.inl rfl)|exact Or.inr (.inr rfl)) (by decide) (by decide))) (by intro _;rfl) (by intro _ _;rfl)))),?_⟩
 refine⟨_,rfl,_,rfl,p1,p2,xs,ys,rfl,SqL.of h1,SqL.of h2,fun l hl=>?_⟩
 refine zi3 hxy (fun i acc σ H2=>(∃ v0 v1,σ=[v0,v1])∧Same H H2∧H2 l=some (.lst acc)∧acc=zar (xs.take i) (ys.take i)) ⟨⟨_,_,rfl⟩,zaa hl _,zab,rfl⟩ (fun i acc σ H2 z=>⟨z.2.2.1,SqL.of (z.2.1 _ _ h1),SqL.of (z.2.1 _ _ h2)⟩) ?_ ?_
 ·rintro i acc σ H2 x y T hx hy hT ⟨⟨v0,v1,rfl⟩,s2,hl2,e2⟩
  have ix:=(List.getElem?_eq_some_iff.mp hx).1
  have al:acc.length≤2000:=by
   rw[e2,zaK _ _ (by rw[List.length_take,List.length_take,hxy]),List.length_take];lia
  refine⟨_,rfl,T,rfl,⟨_,.inl (.inl (atNew hT _))⟩,?_⟩
  have lT:l≠T:=zad hl2 hT
  refine zi4 (zs:=[x,y]) (fun j ac τ G=>(∃ v1,τ=[some (.ref T),v1])∧Same H G∧G T=some (.tup [x,y])∧G l=some (.lst ac)∧ac=acc++[x,y].take j) ⟨⟨_,rfl⟩,s2.trans (zaa hT _),atNew hT _,zaa hT _ _ _ hl2,(List.append_nil _).symm⟩ (fun j ac τ G z=>⟨z.2.2.2.1,.inl (.inl z.2.2.1)⟩) ?_ ?_
  ·rintro j u ac τ G hu ⟨⟨v1,rfl⟩,s3,hT3,hl3,e3⟩
   have jl:=(List.getElem?_eq_some_iff.mp hu).1
   refine⟨_,rfl,hl3,?_,nx jl ⟨⟨_,rfl⟩,fun c o e=>?_,?_,zab,?_⟩⟩
   ·rw[e3,List.length_append,List.length_take,sizeLine_eq]
    simp only[List.length_cons,List.length_nil]at jl ⊢
    lia
   ·rw[zac (zad e hl)];exact s3 c o e
   ·rw[zac (Ne.symm lT)];exact hT3
   ·obtain⟨_,eu⟩:=List.getElem?_eq_some_iff.mp hu
    rw[e3,List.append_assoc,List.take_succ_eq_append_getElem jl,eu]
  ·rintro ac τ G ⟨⟨v1,rfl⟩,s3,hT3,hl3,e3⟩
   refine nx ix ⟨⟨_,_,rfl⟩,s3,hl3,?_⟩
   rw[e3,e2,zex xs ys i x y hx hy];rfl
 ·rintro acc σ H2 ⟨_,s2,hl2,e2⟩
  refine k l H2 s2 ?_
  rw[hl2,e2,List.take_length,hxy,List.take_length]
end
abbrev zaZ:Stmt:=top 24
def zaI (m:Nat):Sp:=fun vs H Q _=>∃ p1 p2 a b,vs=[.ref p1,.ref p2]∧H p1=some (.lst (nums a))∧H p2=some (.lst (nums b))∧a.length=2 ^ m∧b.length=2 ^ m∧m≤8∧∀ c lf le ps H',Same H H'→H' c=some (.tup [.ref lf,.ref le])→H' lf=some (.lst ps)→Prs H' ps (zaz m a b).1→H' le=some (.lst (nums (zaz m a b).2))→Q (.ref c) H'
theorem zjR (row:List Nat) (i:Nat) (h:i≤row.length):cutV (nums row) none (some (i:Int))=nums (row.take i):=by
 rw[zer _ _ (by rw[zag];exact h)]
 unfold nums
 rw[List.map_take]
theorem zjS (row:List Nat) (i:Nat) (h:i≤row.length):cutV (nums row) (some (i:Int)) none=nums (row.drop i):=by
 rw[zes _ _ (by rw[zag];exact h)]
 unfold nums
 rw[List.map_drop]
theorem ziX (a b:List Nat):zar (nums a) (nums b)=nums (zar a b):=by unfold nums;exact zbZ _ a b
theorem zhm (off:Nat) (a:List Nat):by2 off (nums a)=nums (by2 off a):=by unfold nums;exact zjh _ off a
theorem zky (a b:List Nat):nums a++nums b=nums (a++b):=by unfold nums;exact(List.map_append ..).symm
section
variable {P:Program}{w:World}{K:PySem.W.Frag}{mg:Str→Option Value}{base:Heap}
theorem scMo:FnScope ["one","other","first_forks","first_ends","second_forks","second_ends","last_forks"] ["one","other"] (zae zaZ):=⟨rfl,rfl,rfl,by decide +kernel,rfl,by decide +kernel,by decide +kernel⟩
theorem zbI {f fB:Addr}{fd dB:FuncData}(F:Fun K "merger_of" "merger_of" zaZ f fd) (G:Mgs mg) (UB:Use P w K mg base "by_turns" ["one","other"] 1 spBy fB dB) (bS:Binds K fd ["one","other"] []) (mS:mg "merger_of" = some (.ref f)) (n:Nat)
  (GS:FnOk P w K mg base CX0 (n+1) f fd ["one","other"] (fun vs H Q E=>∃ m,n=m+1∧zaI m vs H Q E)):FnOk P w K mg base CX0 (n+2) f fd ["one","other"] (zaI n):=by
 have UT:Use P w K mg base "merger_of" ["one","other"] (n+1) (fun vs H Q E=>∃ m,n=m+1∧zaI m vs H Q E) f fd:=⟨GS,bS,F.kp,mS⟩
 refine F.ok scMo (fun vs H Q E h=>?_) (fun cdv A outer s H vs Q E hr h=>?_)
 ·obtain⟨p1,p2,a,b,rfl,_⟩:=h
  rfl
 obtain⟨p1,p2,a,b,rfl,h1,h2,al,bl,n20,k⟩:=h
 have hr1:Room 1 _:=hr.mono (by lia)
 refine⟨_,(@pss_cons _ _ _ _ _ (@ps_if _ _ _ _ _ _ _ _ (@pt_cmpR _ _ _ _ _ _ _ _ zc2 (@pe_callB _ _ _ _ _ _ _ _ _ call_len_seq (by rfl) G.len PySem.boot_len (@pa_cons _ _ _ _ _ (@pv _ 0 _ _ (by rfl) (by first|exact Or.inl rfl|exact Or.inr (.inl rfl)|exact Or.inr (.inr rfl)) (by decide) (by decide)) pa_nil (by rfl)) (by decide) (by decide) (by rfl) (by rfl)) pe_int (nomark _)) (@pss_one _ _ _ (@ps_ret _ _ _ _ (@pe_tup _ _ _ _ _ (@pa_cons _ _ _ _ _ (@zc0 _ _ _ _ _ _ _ _ true true (by rfl) G.list (by rfl) G.zip rfl (@pa_cons _ _ _ _ _ (@pv _ 0 _ _ (by rfl) (by first|exact Or.inl rfl|exact Or.inr (.inl rfl)|exact Or.inr (.inr rfl)) (by decide) (by decide)) (@pa_cons _ _ _ _ _ (@pv _ 1 _ _ (by rfl) (by first|exact Or.inl rfl|exact Or.inr (.inl rfl)|exact Or.inr (.inr rfl)) (by decide) (by decide)) pa_nil (by rfl)) (by rfl)) (by rfl) (by rfl) (by rfl)) (@pa_cons _ _ _ _ _ (@pe_op _ _ _ _ _ _ _ _ zbG (@pv _ 0 _ _ (by rfl) (by first|exact Or.inl rfl|exact Or.inr (.inl rfl)|exact Or.inr (.inr rfl)) (by decide) (by decide)) (@pv _ 1 _ _ (by rfl) (by first|exact Or.inl rfl|exact Or.inr (.inl rfl)|exact Or.inr (.inr rfl)) (by decide) (by decide))) pa_nil (by rfl)) (by rfl))))) pss_nil) (@pss_cons _ _ _ _ _ (@ps_asg _ _ _ _ _ _ (@pe_call _ _ _ _ _ _ _ _ _ _ _ _ _ _ _ _ UT.ok hr (by rfl) UT.m UT.kp UT.b .nil pass0 (@pa_cons _ _ _ _ _ (@zei _ _ _ _ _ _ _ _ _ (@pv _ 0 _ _ (by rfl) (by first|exact Or.inl rfl|exact Or.inr (.inl rfl)|exact Or.inr (.inr rfl)) (by decide) (by decide)) zaQ (@zau _ _ _ pe_int)) (@pa_cons _ _ _ _ _ (@zei _ _ _ _ _ _ _ _ _ (@pv _ 1 _ _ (by rfl) (by first|exact Or.inl rfl|exact Or.inr (.inl rfl)|exact Or.inr (.inr rfl)) (by decide) (by decide)) (@zau _ _ _ pe_int) (@zau _ _ _ pe_int)) pa_nil (by rfl)) (by rfl)) (by decide) (by rfl) (by rfl)) (@pg_tup _ _ _ _ _ _ rfl (@pgs_cons _ _ _ _ _ (@pg_name _ _ 2 _ scMo.nd rfl (.inl rfl) (by first|exact .inl rfl|exact .inr rfl|assumption)) (@pgs_cons _ _ _ _ _ (@pg_name _ _ 3 _ scMo.nd rfl (.inl rfl) (by first|exact .inl rfl|exact .inr rfl|assumption)) pgs_nil (by rfl)) (by rfl)) (by rfl) (by rfl)) (by rfl) (by rfl) (by rfl)) (@pss_cons _ _ _ _ _ (@ps_asg _ _ _ _ _ _ (@pe_call _ _ _ _ _ _ _ _ _ _ _ _ _ _ _ _ UT.ok hr (by rfl) UT.m UT.kp UT.b .nil pass0 (@pa_cons _ _ _ _ _ (@zei _ _ _ _ _ _ _ _ _ (@pv _ 0 _ _ (by rfl) (by first|exact Or.inl rfl|exact Or.inr (.inl rfl)|exact Or.inr (.inr rfl)) (by decide) (by decide)) (@zau _ _ _ pe_int) (@zau _ _ _ pe_int)) (@pa_cons _ _ _ _ _ (@zei _ _ _ _ _ _ _ _ _ (@pv _ 1 _ _ (by rfl) (by first|exact Or.inl rfl|exact Or.inr (.inl rfl)|exact Or.inr (.inr rfl)) (by decide) (by decide)) zaQ (@zau _ _ _ pe_int)) pa_nil (by rfl)) (by rfl)) (by decide) (by rfl) (by rfl)) (@pg_tup _ _ _ _ _ _ rfl (@pgs_cons _ _ _ _ _ (@pg_name _ _ 4 _ scMo.nd rfl (.inl rfl) (by first|exact .inl rfl|exact .inr rfl|assumption)) (@pgs_cons _ _ _ _ _ (@pg_name _ _ 5 _ scMo.nd rfl (.inl rfl) (by first|exact .inl rfl|exact .inr rfl|assumption)) pgs_nil (by rfl)) (by rfl)) (by rfl) (by rfl)) (by rfl) (by rfl) (by rfl)) (@pss_cons _ _ _ _ _ (@ps_set _ _ 6 _ _ _ _ scMo.nd rfl (.inl rfl) (@zc0 _ _ _ _ _ _ _ _ true true (by rfl) G.list (by rfl) G.zip rfl (@pa_cons _ _ _ _ _ (@pv _ 3 _ _ (by rfl) (by first|exact Or.inl rfl|exact Or.inr (.inl rfl)|exact Or.inr (.inr rfl)) (by decide) (by decide)) (@pa_cons _ _ _ _ _ (@pv _ 5 _ _ (by rfl) (by first|exact Or.inl rfl|exact Or.inr (.inl rfl)|exact Or.inr (.inr rfl)) (by decide) (by decide)) pa_nil (by rfl)) (by rfl)) (by rfl) (by rfl) (by rfl)) (by rfl) (by first|exact .inl rfl|exact .inr rfl|assumption)) (@pss_one _ _ _ (@ps_ret _ _ _ _ (@pe_tup _ _ _ _ _ (@pa_cons _ _ _ _ _ (@pe_op _ _ _ _ _ _ _ _ zbG (@pe_op _ _ _ _ _ _ _ _ zbG (@pv _ 2 _ _ (by rfl) (by first|exact Or.inl rfl|exact Or.inr (.inl rfl)|exact Or.inr (.inr rfl)) (by decide) (by decide)) (@pv _ 4 _ _ (by rfl) (by first|exact Or.inl rfl|exact Or.inr (.inl rfl)|exact Or.inr (.inr rfl)) (by decide) (by decide))) (@pv _ 6 _ _ (by rfl) (by first|exact Or.inl rfl|exact Or.inr (.inl rfl)|exact Or.inr (.inr rfl)) (by decide) (by decide))) (@pa_cons _ _ _ _ _ (@pe_call _ _ _ _ _ _ _ _ _ _ _ _ _ _ _ _ UB.ok hr1 (by rfl) UB.m UB.kp UB.b .nil pass0 (@pa_cons _ _ _ _ _ (@pv _ 3 _ _ (by rfl) (by first|exact Or.inl rfl|exact Or.inr (.inl rfl)|exact Or.inr (.inr rfl)) (by decide) (by decide)) (@pa_cons _ _ _ _ _ (@pv _ 5 _ _ (by rfl) (by first|exact Or.inl rfl|exact Or.inr (.inl rfl)|exact Or.inr (.inr rfl)) (by decide) (by decide)) pa_nil (by rfl)) (by rfl)) (by decide) (by rfl) (by rfl)) pa_nil (by rfl)) (by rfl))))))))),?_⟩
 have na:=zag a
 have nb:=zag b
 have p8:2 ^ n≤2 ^ 8:=Nat.pow_le_pow_right (by decide) n20
 have e8:2 ^ 8=256:=rfl
 refine⟨_,rfl,p1,_,rfl,.inl (SqL.of h1),_,_,rfl,rfl,_,rfl,?_⟩
 cases n with
 | zero =>
  have al1:a.length=1:=al
  have bl1:b.length=1:=bl
  rw[decide_eq_true (show (((nums a).length:Nat):Int)<2 by lia)]
  refine iteT ⟨_,rfl,_,rfl,p1,p2,_,_,rfl,SqL.of h1,SqL.of h2,by lia,by lia,fun lz ts H2 s3 n1 n2 z=>?_⟩
  have pz:=zfM z (by lia)
  have s4:=zaa n2 (.lst ts)
  have u4:=s3.trans s4
  refine⟨_,rfl,_,rfl,p1,p2,_,_,rfl,rfl,u4 _ _ h1,u4 _ _ h2,by rw[sizeLine_eq];lia,fun l5 hl5=>⟨(by show 2≤sizeLine;decide),fun c hc=>?_⟩⟩
  have s5:=zaa hl5 (.lst (nums a++nums b))
  have s6:=zaa hc (.tup [.ref lz,.ref l5])
  refine k c lz l5 ts _ ((u4.trans s5).trans s6) (atNew hc _) (s6 _ _ (s5 _ _ (atNew n2 _))) (((pz.tups (Tups.of s4)).tups (Tups.of s5)).tups (Tups.of s6)) ?_
  rw[s6 _ _ (atNew hl5 _),zky];rfl
 | succ m =>
  obtain⟨a0,a1⟩:=zbv al
  obtain⟨b0,b1⟩:=zbv bl
  have pw:2 ^ (m+1)=2 ^ m*2:=Nat.pow_succ ..
  have p0:=Nat.one_le_two_pow (n:=m)
  rw[decide_eq_false (show ¬(((nums a).length:Nat):Int)<2 by lia)]
  refine iteF ⟨_,rfl,2,rfl,rfl,0,p1,_,.inl ⟨rfl,rfl⟩,rfl,SqL.of h1,fun q1 hq1=>?_⟩
  rw[zhm]
  have s1:=zaa hq1 (.lst (nums (by2 0 a)))
  refine⟨_,rfl,1,rfl,2,rfl,rfl,1,p2,_,.inr ⟨rfl,rfl⟩,rfl,SqL.of (s1 _ _ h2),fun q2 hq2=>?_⟩
  rw[zhm]
  have s2:=zaa hq2 (.lst (nums (by2 1 b)))
  refine⟨m,rfl,q1,q2,by2 0 a,by2 1 b,rfl,s2 _ _ (atNew hq1 _),atNew hq2 _,a0,b1,by lia,fun c3 lf3 le3 ps3 H3 s3 hc3 hf3 pr3 he3=>?_⟩
  have u3:=(s1.trans s2).trans s3
  refine⟨c3,_,rfl,SqT.of hc3,rfl,_,_,rfl,_,_,rfl,rfl,?_⟩
  refine⟨_,rfl,1,rfl,2,rfl,rfl,1,p1,_,.inr ⟨rfl,rfl⟩,rfl,SqL.of (u3 _ _ h1),fun q4 hq4=>?_⟩
  rw[zhm]
  have s4:=zaa hq4 (.lst (nums (by2 1 a)))
  refine⟨_,rfl,2,rfl,rfl,0,p2,_,.inl ⟨rfl,rfl⟩,rfl,SqL.of (s4 _ _ (u3 _ _ h2)),fun q5 hq5=>?_⟩
  rw[zhm]
  have s5:=zaa hq5 (.lst (nums (by2 0 b)))
  refine⟨m,rfl,q4,q5,by2 1 a,by2 0 b,rfl,s5 _ _ (atNew hq4 _),atNew hq5 _,a1,b0,by lia,fun c6 lf6 le6 ps6 H6 s6 hc6 hf6 pr6 he6=>?_⟩
  have u6:=(s4.trans s5).trans s6
  refine⟨c6,_,rfl,SqT.of hc6,rfl,_,_,rfl,_,_,rfl,rfl,?_⟩
  obtain⟨xl,xf⟩:=zaC m _ _ a0 b1
  obtain⟨yl,yf⟩:=zaC m _ _ a1 b0
  have bd:=(zbf m (by lia)).2
  have pl3:=pr3.len
  have pl6:=pr6.len
  refine⟨_,rfl,_,rfl,le3,le6,_,_,rfl,SqL.of (u6 _ _ he3),SqL.of he6,by rw[zag,zag,xl,yl];exact Nat.le_refl _,by rw[zag,xl];lia,fun lz ts H7 s7 n1 n2 z=>?_⟩
  have pz:=zfM z (by rw[xl,yl];exact Nat.le_refl _)
  have s8:=zaa n2 (.lst ts)
  have u8:=s7.trans s8
  have tl:=pz.len
  rw[List.length_zip,xl,yl,Nat.min_self]at tl
  refine⟨_,rfl,_,rfl,lf3,lf6,_,_,rfl,rfl,u8 _ _ (u6 _ _ hf3),u8 _ _ hf6,by rw[sizeLine_eq];lia,fun l9 hl9=>?_⟩
  have s9:=zaa hl9 (.lst (ps3++ps6))
  refine⟨_,rfl,l9,lz,_,_,rfl,rfl,atNew hl9 _,s9 _ _ (atNew n2 _),by rw[sizeLine_eq,List.length_append];lia,fun l10 hl10=>?_⟩
  have s10:=zaa hl10 (.lst ((ps3++ps6)++ts))
  have u10:=(u8.trans s9).trans s10
  refine⟨_,rfl,_,rfl,le3,le6,_,_,rfl,u10 _ _ (u6 _ _ he3),u10 _ _ he6,by rw[zag,zag,xl,yl],by rw[zag,xl];lia,fun l11 H11 s11 h11=>?_⟩
  rw[ziX]at h11
  refine⟨(by show 2≤sizeLine;decide),fun c hc=>?_⟩
  have s12:=zaa hc (.tup [.ref l10,.ref l11])
  refine k c l10 l11 _ _ ((u3.trans u6).trans ((u10.trans s11).trans s12)) (atNew hc _) (s12 _ _ (s11 _ _ (atNew hl10 _))) ?_ (s12 _ _ h11)
  refine Prs.tups (Tups.of ((s9.trans s10).trans (s11.trans s12))) ?_
  exact Prs.app (Prs.app ((pr3.tups (Tups.of u6)).tups (Tups.of u8)) (pr6.tups (Tups.of u8))) (pz.tups (Tups.of s8))
theorem zb7 {f fB:Addr}{fd dB:FuncData}(F:Fun K "merger_of" "merger_of" zaZ f fd) (G:Mgs mg) (UB:Use P w K mg base "by_turns" ["one","other"] 1 spBy fB dB) (bS:Binds K fd ["one","other"] []) (mS:mg "merger_of" = some (.ref f)):∀ n:Nat,FnOk P w K mg base CX0 (n+2) f fd ["one","other"] (zaI n)
 | 0=>zbI F G UB bS mS 0 ⟨fun vs H Q E ⟨m,h,_⟩=>by lia,fun A outer s H args us vs Q E _ _ _ _ ⟨m,h,_⟩=>by lia⟩
 | m+1=>zbI F G UB bS mS (m+1) ((zb7 F G UB bS mS m).imp fun vs H Q E ⟨m',h,q⟩=>by cases h;exact q)
abbrev zaA:Sp:=fun vs H Q E=>∃ m,m≤4∧zaI m vs H Q E
theorem zdJ {f fB:Addr}{fd dB:FuncData}(F:Fun K "merger_of" "merger_of" zaZ f fd) (G:Mgs mg) (UB:Use P w K mg base "by_turns" ["one","other"] 1 spBy fB dB) (bS:Binds K fd ["one","other"] []) (mS:mg "merger_of" = some (.ref f)):FnOk P w K mg base CX0 6 f fd ["one","other"] zaA :=
 FnOk.any 4 fun m hm=>(zb7 F G UB bS mS m).mono (by lia)
end
abbrev zaY:Stmt:=top 25
abbrev zbB:Stmt:=top 20
def zaH (m:Nat):Sp:=fun vs H Q _=>∃ p row,vs=[.ref p]∧H p=some (.lst (nums row))∧row.length=2 ^ m∧m≤4∧∀ c lf le ps H',Same H H'→H' c=some (.tup [.ref lf,.ref le])→H' lf=some (.lst ps)→Prs H' ps (zax m row).1→H' le=some (.lst (nums (zax m row).2))→Q (.ref c) H'
def za8:Sp:=fun vs H Q _=>∃ k:Nat,vs=[.int k]∧k<4∧∀ r' fr' er' ps' H',Same H H'→NetAt H' r' fr' er' ps' (zcY (zbw k))→Q (.ref r') H'
section
variable {P:Program}{w:World}{K:PySem.W.Frag}{mg:Str→Option Value}{base:Heap}
theorem scSo:FnScope ["row","half","first_forks","first_ends","second_forks","second_ends","last_forks","ends"] ["row"] (zae zaY):=⟨rfl,rfl,rfl,by decide +kernel,rfl,by decide +kernel,by decide +kernel⟩
theorem zbH {f fB:Addr}{fd dB:FuncData}(F:Fun K "stairway_of" "stairway_of" zaY f fd) (G:Mgs mg) (UM:Use P w K mg base "merger_of" ["one","other"] 6 zaA fB dB) (bS:Binds K fd ["row"] []) (mS:mg "stairway_of" = some (.ref f)) (n:Nat)
  (GS:FnOk P w K mg base CX0 (n+6) f fd ["row"] (fun vs H Q E=>∃ m,n=m+1∧zaH m vs H Q E)):FnOk P w K mg base CX0 (n+7) f fd ["row"] (zaH n):=by
 have UT:Use P w K mg base "stairway_of" ["row"] (n+6) (fun vs H Q E=>∃ m,n=m+1∧zaH m vs H Q E) f fd:=⟨GS,bS,F.kp,mS⟩
 refine F.ok scSo (fun vs H Q E h=>?_) (fun cdv A outer s H vs Q E hr h=>?_)
 ·obtain⟨p,row,rfl,_⟩:=h
  rfl
 obtain⟨p,row,rfl,hp,rl,n20,k⟩:=h
 have hr6:Room 6 _:=hr.mono (by lia)
 refine⟨_,(@pss_cons _ _ _ _ _ (@ps_if _ _ _ _ _ _ _ _ (@pt_cmpR _ _ _ _ _ _ _ _ zc2 (@pe_callB _ _ _ _ _ _ _ _ _ call_len_seq (by rfl) G.len PySem.boot_len (@pa_cons _ _ _ _ _ (@pv _ 0 _ _ (by rfl) (by first|exact Or.inl rfl|exact Or.inr (.inl rfl)|exact Or.inr (.inr rfl)) (by decide) (by decide)) pa_nil (by rfl)) (by decide) (by decide) (by rfl) (by rfl)) pe_int (nomark _)) (@pss_one _ _ _ (@ps_ret _ _ _ _ (@pe_tup _ _ _ _ _ (@pa_cons _ _ _ _ _ (@pe_lst _ _ _ _ pa_nil) (@pa_cons _ _ _ _ _ (@pv _ 0 _ _ (by rfl) (by first|exact Or.inl rfl|exact Or.inr (.inl rfl)|exact Or.inr (.inr rfl)) (by decide) (by decide)) pa_nil (by rfl)) (by rfl))))) pss_nil) (@pss_cons _ _ _ _ _ (@ps_set _ _ 1 _ _ _ _ scSo.nd rfl (.inl rfl) (@pe_op _ _ _ _ _ _ _ _ zdG (@pe_callB _ _ _ _ _ _ _ _ _ call_len_seq (by rfl) G.len PySem.boot_len (@pa_cons _ _ _ _ _ (@pv _ 0 _ _ (by rfl) (by first|exact Or.inl rfl|exact Or.inr (.inl rfl)|exact Or.inr (.inr rfl)) (by decide) (by decide)) pa_nil (by rfl)) (by decide) (by decide) (by rfl) (by rfl)) pe_int) (by rfl) (by first|exact .inl rfl|exact .inr rfl|assumption)) (@pss_cons _ _ _ _ _ (@ps_asg _ _ _ _ _ _ (@pe_call _ _ _ _ _ _ _ _ _ _ _ _ _ _ _ _ UT.ok hr (by rfl) UT.m UT.kp UT.b .nil pass0 (@pa_cons _ _ _ _ _ (@za1 _ _ _ _ _ _ _ _ _ _ zcq (@pv _ 0 _ _ (by rfl) (by first|exact Or.inl rfl|exact Or.inr (.inl rfl)|exact Or.inr (.inr rfl)) (by decide) (by decide)) zaQ (@zau _ _ _ (@pv _ 1 _ _ (by rfl) (by first|exact Or.inl rfl|exact Or.inr (.inl rfl)|exact Or.inr (.inr rfl)) (by decide) (by decide)))) pa_nil (by rfl)) (by decide) (by rfl) (by rfl)) (@pg_tup _ _ _ _ _ _ rfl (@pgs_cons _ _ _ _ _ (@pg_name _ _ 2 _ scSo.nd rfl (.inl rfl) (by first|exact .inl rfl|exact .inr rfl|assumption)) (@pgs_cons _ _ _ _ _ (@pg_name _ _ 3 _ scSo.nd rfl (.inl rfl) (by first|exact .inl rfl|exact .inr rfl|assumption)) pgs_nil (by rfl)) (by rfl)) (by rfl) (by rfl)) (by rfl) (by rfl) (by rfl)) (@pss_cons _ _ _ _ _ (@ps_asg _ _ _ _ _ _ (@pe_call _ _ _ _ _ _ _ _ _ _ _ _ _ _ _ _ UT.ok hr (by rfl) UT.m UT.kp UT.b .nil pass0 (@pa_cons _ _ _ _ _ (@za1 _ _ _ _ _ _ _ _ _ _ zcq (@pv _ 0 _ _ (by rfl) (by first|exact Or.inl rfl|exact Or.inr (.inl rfl)|exact Or.inr (.inr rfl)) (by decide) (by decide)) (@zau _ _ _ (@pv _ 1 _ _ (by rfl) (by first|exact Or.inl rfl|exact Or.inr (.inl rfl)|exact Or.inr (.inr rfl)) (by decide) (by decide))) zaQ) pa_nil (by rfl)) (by decide) (by rfl) (by rfl)) (@pg_tup _ _ _ _ _ _ rfl (@pgs_cons _ _ _ _ _ (@pg_name _ _ 4 _ scSo.nd rfl (.inl rfl) (by first|exact .inl rfl|exact .inr rfl|assumption)) (@pgs_cons _ _ _ _ _ (@pg_name _ _ 5 _ scSo.nd rfl (.inl rfl) (by first|exact .inl rfl|exact .inr rfl|assumption)) pgs_nil (by rfl)) (by rfl)) (by rfl) (by rfl)) (by rfl) (by rfl) (by rfl)) (@pss_cons _ _ _ _ _ (@ps_asg _ _ _ _ _ _ (@pe_call _ _ _ _ _ _ _ _ _ _ _ _ _ _ _ _ UM.ok hr6 (by rfl) UM.m UM.kp UM.b .nil pass0 (@pa_cons _ _ _ _ _ (@pv _ 3 _ _ (by rfl) (by first|exact Or.inl rfl|exact Or.inr (.inl rfl)|exact Or.inr (.inr rfl)) (by decide) (by decide)) (@pa_cons _ _ _ _ _ (@pv _ 5 _ _ (by rfl) (by first|exact Or.inl rfl|exact Or.inr (.inl rfl)|exact Or.inr (.inr rfl)) (by decide) (by decide)) pa_nil (by rfl)) (by rfl)) (by decide) (by rfl) (by rfl)) (@pg_tup _ _ _ _ _ _ rfl (@pgs_cons _ _ _ _ _ (@pg_name _ _ 6 _ scSo.nd rfl (.inl rfl) (by first|exact .inl rfl|exact .inr rfl|assumption)) (@pgs_cons _ _ _ _ _ (@pg_name _ _ 7 _ scSo.nd rfl (.inl rfl) (by first|exact .inl rfl|exact .inr rfl|assumption)) pgs_nil (by rfl)) (by rfl)) (by rfl) (by rfl)) (by rfl) (by rfl) (by rfl)) (@pss_one _ _ _ (@ps_ret _ _ _ _ (@pe_tup _ _ _ _ _ (@pa_cons _ _ _ _ _ (@pe_op _ _ _ _ _ _ _ _ zbG (@pe_op _ _ _ _ _ _ _ _ zbG (@pv _ 2 _ _ (by rfl) (by first|exact Or.inl rfl|exact Or.inr (.inl rfl)|exact Or.inr (.inr rfl)) (by decide) (by decide)) (@pv _ 4 _ _ (by rfl) (by first|exact Or.inl rfl|exact Or.inr (.inl rfl)|exact Or.inr (.inr rfl)) (by decide) (by decide))) (@pv _ 6 _ _ (by rfl) (by first|exact Or.inl rfl|exact Or.inr (.inl rfl)|exact Or.inr (.inr rfl)) (by decide) (by decide))) (@pa_cons _ _ _ _ _ (@pv _ 7 _ _ (by rfl) (by first|exact Or.inl rfl|exact Or.inr (.inl rfl)|exact Or.inr (.inr rfl)) (by decide) (by decide)) pa_nil (by rfl)) (by rfl)))))))))),?_⟩
 have nl:=zag row
 have p8:2 ^ n≤2 ^ 4:=Nat.pow_le_pow_right (by decide) n20
 have e8:2 ^ 4=16:=rfl
 refine⟨_,rfl,p,_,rfl,.inl (SqL.of hp),_,_,rfl,rfl,_,rfl,?_⟩
 cases n with
 | zero =>
  have rl1:row.length=1:=rl
  rw[decide_eq_true (show (((nums row).length:Nat):Int)<2 by lia)]
  refine iteT ⟨(by show 0≤sizeLine;decide),fun l hl=>⟨_,rfl,(by show 2≤sizeLine;decide),fun c hc=>?_⟩⟩
  have s1:=zaa hl (.lst [])
  have s2:=zaa hc (.tup [.ref l,.ref p])
  exact k c l p [] _ (s1.trans s2) (atNew hc _) (s2 _ _ (atNew hl _)) trivial (s2 _ _ (s1 _ _ hp))
 | succ m =>
  obtain⟨t1,t2,t3⟩:=zcg rl
  obtain⟨la,lb⟩:=zbs rl
  have pw:2 ^ (m+1)=2 ^ m*2:=Nat.pow_succ ..
  have p0:=Nat.one_le_two_pow (n:=m)
  rw[decide_eq_false (show ¬(((nums row).length:Nat):Int)<2 by lia)]
  refine iteF ⟨_,rfl,p,_,rfl,.inl (SqL.of hp),_,_,rfl,rfl,⟨by decide,by decide⟩,?_⟩
  have eh:(((nums row).length:Nat):Int) / 2=((row.length / 2:Nat):Int):=by rw[nl];lia
  simp only[eh]
  refine⟨_,rfl,_,rfl,_,rfl,p,_,rfl,SqL.of hp,fun p1 hp1=>?_⟩
  rw[zjR row _ t3]
  have s1:=zaa hp1 (.lst (nums (row.take (row.length / 2))))
  refine⟨m,rfl,p1,row.take (row.length / 2),rfl,atNew hp1 _,la,by lia,fun c2 lf2 le2 ps2 H2 s2 hc2 hf2 pr2 he2=>?_⟩
  have u2:=s1.trans s2
  refine⟨c2,_,rfl,SqT.of hc2,rfl,_,_,rfl,_,_,rfl,rfl,?_⟩
  refine⟨_,rfl,_,rfl,_,rfl,p,_,rfl,SqL.of (u2 _ _ hp),fun p3 hp3=>?_⟩
  rw[zjS row _ t3]
  have s3:=zaa hp3 (.lst (nums (row.drop (row.length / 2))))
  refine⟨m,rfl,p3,row.drop (row.length / 2),rfl,atNew hp3 _,lb,by lia,fun c4 lf4 le4 ps4 H4 s4 hc4 hf4 pr4 he4=>?_⟩
  have u4:=s3.trans s4
  refine⟨c4,_,rfl,SqT.of hc4,rfl,_,_,rfl,_,_,rfl,rfl,?_⟩
  obtain⟨xl,xf⟩:=zaV m _ la
  obtain⟨yl,yf⟩:=zaV m _ lb
  obtain⟨zl,zf⟩:=zaC m _ _ xl yl
  have pl2:=pr2.len
  have pl4:=pr4.len
  obtain⟨bd1,bd2⟩:=zbf m (by lia)
  refine⟨_,rfl,_,rfl,m,by lia,le2,le4,_,_,rfl,u4 _ _ he2,he4,xl,yl,by lia,fun c6 lf6 le6 ps6 H6 s6 hc6 hf6 pr6 he6=>?_⟩
  refine⟨c6,_,rfl,SqT.of hc6,rfl,_,_,rfl,_,_,rfl,rfl,?_⟩
  have pl6:=pr6.len
  refine⟨_,rfl,_,rfl,lf2,lf4,_,_,rfl,rfl,s6 _ _ (u4 _ _ hf2),s6 _ _ hf4,by rw[sizeLine_eq];lia,fun l7 hl7=>?_⟩
  have s7:=zaa hl7 (.lst (ps2++ps4))
  refine⟨_,rfl,l7,lf6,_,_,rfl,rfl,atNew hl7 _,s7 _ _ hf6,by rw[sizeLine_eq,List.length_append];lia,fun l8 hl8=>?_⟩
  have s8:=zaa hl8 (.lst ((ps2++ps4)++ps6))
  refine⟨_,rfl,(by show 2≤sizeLine;decide),fun c hc=>?_⟩
  have s9:=zaa hc (.tup [.ref l8,.ref le6])
  have u9:=(s7.trans s8).trans s9
  refine k c l8 le6 _ _ ((u2.trans u4).trans (s6.trans u9)) (atNew hc _) (s9 _ _ (atNew hl8 _)) ?_ (u9 _ _ he6)
  refine Prs.tups (Tups.of u9) ?_
  exact Prs.app (Prs.app ((pr2.tups (Tups.of u4)).tups (Tups.of s6)) (pr4.tups (Tups.of s6))) pr6
theorem zb6 {f fB:Addr}{fd dB:FuncData}(F:Fun K "stairway_of" "stairway_of" zaY f fd) (G:Mgs mg) (UM:Use P w K mg base "merger_of" ["one","other"] 6 zaA fB dB) (bS:Binds K fd ["row"] []) (mS:mg "stairway_of" = some (.ref f)):∀ n:Nat,FnOk P w K mg base CX0 (n+7) f fd ["row"] (zaH n)
 | 0=>zbH F G UM bS mS 0 ⟨fun vs H Q E ⟨m,h,_⟩=>by lia,fun A outer s H args us vs Q E _ _ _ _ ⟨m,h,_⟩=>by lia⟩
 | m+1=>zbH F G UM bS mS (m+1) ((zb6 F G UM bS mS m).imp fun vs H Q E ⟨m',h,q⟩=>by cases h;exact q)
abbrev za9:Sp:=fun vs H Q E=>∃ m,m≤4∧zaH m vs H Q E
theorem zdI {f fB:Addr}{fd dB:FuncData}(F:Fun K "stairway_of" "stairway_of" zaY f fd) (G:Mgs mg) (UM:Use P w K mg base "merger_of" ["one","other"] 6 zaA fB dB) (bS:Binds K fd ["row"] []) (mS:mg "stairway_of" = some (.ref f)):FnOk P w K mg base CX0 11 f fd ["row"] za9 :=
 FnOk.any 4 fun m hm=>(zb6 F G UM bS mS m).mono (by lia)
theorem scSw:FnScope ["k","row"] ["k"] (zae zbB):=⟨rfl,rfl,rfl,by decide +kernel,rfl,by decide +kernel,by decide +kernel⟩
theorem zdH {f fR fT fM:Addr}{fd dR dT dM:FuncData}(F:Fun K "stairway" "stairway" zbB f fd) (UR:Use P w K mg base "row_of" ["k"] 2 zck fR dR) (UT:Use P w K mg base "stairway_of" ["row"] 11 za9 fT dT) (UM:Use P w K mg base "net_of" ["row","made"] 3 zaX fM dM):FnOk P w K mg base CX0 12 f fd ["k"] za8:=by
 refine F.ok scSw (fun vs H Q E h=>?_) (fun cdv A outer s H vs Q E hr h=>?_)
 ·obtain⟨k,rfl,_⟩:=h
  rfl
 obtain⟨k,rfl,k5,q⟩:=h
 have hr2:Room 2 _:=hr.mono (by decide)
 have hr3:Room 3 _:=hr.mono (by decide)
 refine⟨_,(@pss_cons _ _ _ _ _ (@ps_set _ _ 1 _ _ _ _ scSw.nd rfl (.inl rfl) (@pe_call _ _ _ _ _ _ _ _ _ _ _ _ _ _ _ _ UR.ok hr2 (by rfl) UR.m UR.kp UR.b .nil pass0 (@pa_cons _ _ _ _ _ (@pv _ 0 _ _ (by rfl) (by first|exact Or.inl rfl|exact Or.inr (.inl rfl)|exact Or.inr (.inr rfl)) (by decide) (by decide)) pa_nil (by rfl)) (by decide) (by rfl) (by rfl)) (by rfl) (by first|exact .inl rfl|exact .inr rfl|assumption)) (@pss_one _ _ _ (@ps_ret _ _ _ _ (@pe_call _ _ _ _ _ _ _ _ _ _ _ _ _ _ _ _ UM.ok hr3 (by rfl) UM.m UM.kp UM.b .nil pass0 (@pa_cons _ _ _ _ _ (@pv _ 1 _ _ (by rfl) (by first|exact Or.inl rfl|exact Or.inr (.inl rfl)|exact Or.inr (.inr rfl)) (by decide) (by decide)) (@pa_cons _ _ _ _ _ (@pe_call _ _ _ _ _ _ _ _ _ _ _ _ _ _ _ _ UT.ok hr (by rfl) UT.m UT.kp UT.b .nil pass0 (@pa_cons _ _ _ _ _ (@pv _ 1 _ _ (by rfl) (by first|exact Or.inl rfl|exact Or.inr (.inl rfl)|exact Or.inr (.inr rfl)) (by decide) (by decide)) pa_nil (by rfl)) (by decide) (by rfl) (by rfl)) pa_nil (by rfl)) (by rfl)) (by decide) (by rfl) (by rfl))))),?_⟩
 refine⟨_,rfl,k,rfl,by lia,fun p hp=>?_⟩
 have s1:=zaa hp (.lst (nums (List.range (2 ^ k))))
 refine⟨_,rfl,_,rfl,k,by lia,p,List.range (2 ^ k),rfl,atNew hp _,List.length_range,by lia,fun c lf le ps H2 s2 hc hf pr he=>?_⟩
 have eN:(⟨(List.range (2 ^ k)).length,(zax k (List.range (2 ^ k))).1,(zax k (List.range (2 ^ k))).2⟩:Nt)=zbw k:=by rw[List.length_range];rfl
 refine⟨p,c,lf,le,ps,_,List.range (2 ^ k),_,rfl,s2 _ _ (atNew hp _),hc,hf,pr,he,⟨by rw[eN];exact zbo (by lia),(zeo k k5).2.1⟩,fun r' fr' er' ps' H' s' n'=>?_⟩
 rw[eN]at n'
 exact q r' fr' er' ps' H' ((s1.trans s2).trans s') n'
end
abbrev zbA:Stmt:=top 26
abbrev zit:Stmt:=top 21
def zaW (m:Nat):Sp:=fun vs H Q _=>∃ p row,vs=[.ref p]∧H p=some (.lst (nums row))∧row.length=2 ^ m∧m≤8∧∀ c lf le ps H',Same H H'→H' c=some (.tup [.ref lf,.ref le])→H' lf=some (.lst ps)→Prs H' ps (zbm m row).1→H' le=some (.lst (nums (zbm m row).2))→Q (.ref c) H'
def zfn:Sp:=fun vs H Q _=>∃ k:Nat,vs=[.int k]∧k<4∧∀ r' fr' er' ps' H',Same H H'→NetAt H' r' fr' er' ps' (zcY (zdq k))→Q (.ref r') H'
theorem zjp (row:List Nat) (i:Nat) (h:i≤row.length):cutV (nums row) none (some (i:Int))=nums (row.take i):=by
 rw[zer _ _ (by rw[zag];exact h)]
 unfold nums
 rw[List.map_take]
theorem zjq (row:List Nat) (i:Nat) (h:i≤row.length):cutV (nums row) (some (i:Int)) none=nums (row.drop i):=by
 rw[zes _ _ (by rw[zag];exact h)]
 unfold nums
 rw[List.map_drop]
theorem zeL (a b:List Nat):zar (nums a) (nums b)=nums (zar a b):=by unfold nums;exact zbZ _ a b
theorem zek (row:List Nat) (i:Nat) (h:i<row.length):(nums row)[i]?=some (.int ((row.getD i 0:Nat):Int)):=by
 unfold nums
 rw[List.getElem?_map,List.getElem?_eq_getElem h,List.getD_eq_getElem?_getD,List.getElem?_eq_getElem h];rfl
section
variable {P:Program}{w:World}{K:PySem.W.Frag}{mg:Str→Option Value}{base:Heap}
theorem scTo:FnScope ["row","half","first_forks","first_ends","second_forks","second_ends"] ["row"] (zae zbA):=⟨rfl,rfl,rfl,by decide +kernel,rfl,by decide +kernel,by decide +kernel⟩
theorem zb5 {f fB:Addr}{fd dB:FuncData}(F:Fun K "tree_of" "tree_of" zbA f fd) (G:Mgs mg) (UB:Use P w K mg base "by_turns" ["one","other"] 1 spBy fB dB) (bS:Binds K fd ["row"] []) (mS:mg "tree_of" = some (.ref f)) (n:Nat)
  (GS:FnOk P w K mg base CX0 (n+1) f fd ["row"] (fun vs H Q E=>∃ m,n=m+1∧zaW m vs H Q E)):FnOk P w K mg base CX0 (n+2) f fd ["row"] (zaW n):=by
 have UT:Use P w K mg base "tree_of" ["row"] (n+1) (fun vs H Q E=>∃ m,n=m+1∧zaW m vs H Q E) f fd:=⟨GS,bS,F.kp,mS⟩
 refine F.ok scTo (fun vs H Q E h=>?_) (fun cdv A outer s H vs Q E hr h=>?_)
 ·obtain⟨p,row,rfl,_⟩:=h
  rfl
 obtain⟨p,row,rfl,hp,rl,n20,k⟩:=h
 have hr1:Room 1 _:=hr.mono (by lia)
 refine⟨_,(@pss_cons _ _ _ _ _ (@ps_if _ _ _ _ _ _ _ _ (@pt_cmpR _ _ _ _ _ _ _ _ zc2 (@pe_callB _ _ _ _ _ _ _ _ _ call_len_seq (by rfl) G.len PySem.boot_len (@pa_cons _ _ _ _ _ (@pv _ 0 _ _ (by rfl) (by first|exact Or.inl rfl|exact Or.inr (.inl rfl)|exact Or.inr (.inr rfl)) (by decide) (by decide)) pa_nil (by rfl)) (by decide) (by decide) (by rfl) (by rfl)) pe_int (nomark _)) (@pss_one _ _ _ (@ps_ret _ _ _ _ (@pe_tup _ _ _ _ _ (@pa_cons _ _ _ _ _ (@pe_lst _ _ _ _ pa_nil) (@pa_cons _ _ _ _ _ (@pv _ 0 _ _ (by rfl) (by first|exact Or.inl rfl|exact Or.inr (.inl rfl)|exact Or.inr (.inr rfl)) (by decide) (by decide)) pa_nil (by rfl)) (by rfl))))) pss_nil) (@pss_cons _ _ _ _ _ (@ps_set _ _ 1 _ _ _ _ scTo.nd rfl (.inl rfl) (@pe_op _ _ _ _ _ _ _ _ zdG (@pe_callB _ _ _ _ _ _ _ _ _ call_len_seq (by rfl) G.len PySem.boot_len (@pa_cons _ _ _ _ _ (@pv _ 0 _ _ (by rfl) (by first|exact Or.inl rfl|exact Or.inr (.inl rfl)|exact Or.inr (.inr rfl)) (by decide) (by decide)) pa_nil (by rfl)) (by decide) (by decide) (by rfl) (by rfl)) pe_int) (by rfl) (by first|exact .inl rfl|exact .inr rfl|assumption)) (@pss_cons _ _ _ _ _ (@ps_asg _ _ _ _ _ _ (@pe_call _ _ _ _ _ _ _ _ _ _ _ _ _ _ _ _ UT.ok hr (by rfl) UT.m UT.kp UT.b .nil pass0 (@pa_cons _ _ _ _ _ (@za1 _ _ _ _ _ _ _ _ _ _ zcq (@pv _ 0 _ _ (by rfl) (by first|exact Or.inl rfl|exact Or.inr (.inl rfl)|exact Or.inr (.inr rfl)) (by decide) (by decide)) zaQ (@zau _ _ _ (@pv _ 1 _ _ (by rfl) (by first|exact Or.inl rfl|exact Or.inr (.inl rfl)|exact Or.inr (.inr rfl)) (by decide) (by decide)))) pa_nil (by rfl)) (by decide) (by rfl) (by rfl)) (@pg_tup _ _ _ _ _ _ rfl (@pgs_cons _ _ _ _ _ (@pg_name _ _ 2 _ scTo.nd rfl (.inl rfl) (by first|exact .inl rfl|exact .inr rfl|assumption)) (@pgs_cons _ _ _ _ _ (@pg_name _ _ 3 _ scTo.nd rfl (.inl rfl) (by first|exact .inl rfl|exact .inr rfl|assumption)) pgs_nil (by rfl)) (by rfl)) (by rfl) (by rfl)) (by rfl) (by rfl) (by rfl)) (@pss_cons _ _ _ _ _ (@ps_asg _ _ _ _ _ _ (@pe_call _ _ _ _ _ _ _ _ _ _ _ _ _ _ _ _ UT.ok hr (by rfl) UT.m UT.kp UT.b .nil pass0 (@pa_cons _ _ _ _ _ (@za1 _ _ _ _ _ _ _ _ _ _ zcq (@pv _ 0 _ _ (by rfl) (by first|exact Or.inl rfl|exact Or.inr (.inl rfl)|exact Or.inr (.inr rfl)) (by decide) (by decide)) (@zau _ _ _ (@pv _ 1 _ _ (by rfl) (by first|exact Or.inl rfl|exact Or.inr (.inl rfl)|exact Or.inr (.inr rfl)) (by decide) (by decide))) zaQ) pa_nil (by rfl)) (by decide) (by rfl) (by rfl)) (@pg_tup _ _ _ _ _ _ rfl (@pgs_cons _ _ _ _ _ (@pg_name _ _ 4 _ scTo.nd rfl (.inl rfl) (by first|exact .inl rfl|exact .inr rfl|assumption)) (@pgs_cons _ _ _ _ _ (@pg_name _ _ 5 _ scTo.nd rfl (.inl rfl) (by first|exact .inl rfl|exact .inr rfl|assumption)) pgs_nil (by rfl)) (by rfl)) (by rfl) (by rfl)) (by rfl) (by rfl) (by rfl)) (@pss_one _ _ _ (@ps_ret _ _ _ _ (@pe_tup _ _ _ _ _ (@pa_cons _ _ _ _ _ (@pe_op _ _ _ _ _ _ _ _ zbG (@pe_op _ _ _ _ _ _ _ _ zbG (@pe_lst _ _ _ _ (@pa_cons _ _ _ _ _ (@pe_tup _ _ _ _ _ (@pa_cons _ _ _ _ _ (@pe_ix _ _ _ _ _ _ _ ix_list (@pv _ 0 _ _ (by rfl) (by first|exact Or.inl rfl|exact Or.inr (.inl rfl)|exact Or.inr (.inr rfl)) (by decide) (by decide)) pe_int (fun _ _=>rfl)) (@pa_cons _ _ _ _ _ (@pe_ix _ _ _ _ _ _ _ ix_list (@pv _ 0 _ _ (by rfl) (by first|exact Or.inl rfl|exact Or.inr (.inl rfl)|exact Or.inr (.inr rfl)) (by decide) (by decide)) (@pv _ 1 _ _ (by rfl) (by first|exact Or.inl rfl|exact Or.inr (.inl rfl)|exact Or.inr (.inr rfl)) (by decide) (by decide)) (fun _ _=>rfl)) pa_nil (by rfl)) (by rfl))) pa_nil (by rfl))) (@pv _ 2 _ _ (by rfl) (by first|exact Or.inl rfl|exact Or.inr (.inl rfl)|exact Or.inr (.inr rfl)) (by decide) (by decide))) (@pv _ 4 _ _ (by rfl) (by first|exact Or.inl rfl|exact Or.inr (.inl rfl)|exact Or.inr (.inr rfl)) (by decide) (by decide))) (@pa_cons _ _ _ _ _ (@pe_call _ _ _ _ _ _ _ _ _ _ _ _ _ _ _ _ UB.ok hr1 (by rfl) UB.m UB.kp UB.b .nil pass0 (@pa_cons _ _ _ _ _ (@pv _ 3 _ _ (by rfl) (by first|exact Or.inl rfl|exact Or.inr (.inl rfl)|exact Or.inr (.inr rfl)) (by decide) (by decide)) (@pa_cons _ _ _ _ _ (@pv _ 5 _ _ (by rfl) (by first|exact Or.inl rfl|exact Or.inr (.inl rfl)|exact Or.inr (.inr rfl)) (by decide) (by decide)) pa_nil (by rfl)) (by rfl)) (by decide) (by rfl) (by rfl)) pa_nil (by rfl)) (by rfl))))))))),?_⟩
 have nl:=zag row
 have p8:2 ^ n≤2 ^ 8:=Nat.pow_le_pow_right (by decide) n20
 have e8:2 ^ 8=256:=rfl
 refine⟨_,rfl,p,_,rfl,.inl (SqL.of hp),_,_,rfl,rfl,_,rfl,?_⟩
 cases n with
 | zero =>
  have rl1:row.length=1:=rl
  rw[decide_eq_true (show (((nums row).length:Nat):Int)<2 by lia)]
  refine iteT ⟨(by show 0≤sizeLine;decide),fun l hl=>⟨_,rfl,(by show 2≤sizeLine;decide),fun c hc=>?_⟩⟩
  have s1:=zaa hl (.lst [])
  have s2:=zaa hc (.tup [.ref l,.ref p])
  exact k c l p [] _ (s1.trans s2) (atNew hc _) (s2 _ _ (atNew hl _)) trivial (s2 _ _ (s1 _ _ hp))
 | succ m =>
  obtain⟨t1,t2,t3⟩:=zcg rl
  obtain⟨la,lb⟩:=zbs rl
  have pw:2 ^ (m+1)=2 ^ m*2:=Nat.pow_succ ..
  have p0:=Nat.one_le_two_pow (n:=m)
  rw[decide_eq_false (show ¬(((nums row).length:Nat):Int)<2 by lia)]
  refine iteF ⟨_,rfl,p,_,rfl,.inl (SqL.of hp),_,_,rfl,rfl,⟨by decide,by decide⟩,?_⟩
  have eh:(((nums row).length:Nat):Int) / 2=((row.length / 2:Nat):Int):=by rw[nl];lia
  simp only[eh]
  refine⟨_,rfl,_,rfl,_,rfl,p,_,rfl,SqL.of hp,fun p1 hp1=>?_⟩
  rw[zjp row _ t3]
  have s1:=zaa hp1 (.lst (nums (row.take (row.length / 2))))
  refine⟨m,rfl,p1,row.take (row.length / 2),rfl,atNew hp1 _,la,by lia,fun c2 lf2 le2 ps2 H2 s2 hc2 hf2 pr2 he2=>?_⟩
  have u2:=s1.trans s2
  refine⟨c2,_,rfl,SqT.of hc2,rfl,_,_,rfl,_,_,rfl,rfl,?_⟩
  refine⟨_,rfl,_,rfl,_,rfl,p,_,rfl,SqL.of (u2 _ _ hp),fun p3 hp3=>?_⟩
  rw[zjq row _ t3]
  have s3:=zaa hp3 (.lst (nums (row.drop (row.length / 2))))
  refine⟨m,rfl,p3,row.drop (row.length / 2),rfl,atNew hp3 _,lb,by lia,fun c4 lf4 le4 ps4 H4 s4 hc4 hf4 pr4 he4=>?_⟩
  have u4:=s3.trans s4
  refine⟨c4,_,rfl,SqT.of hc4,rfl,_,_,rfl,_,_,rfl,rfl,?_⟩
  have hp4:=u4 _ _ (u2 _ _ hp)
  obtain⟨xl,xf⟩:=zbn m _ la
  obtain⟨yl,yf⟩:=zbn m _ lb
  have pl2:=pr2.len
  have pl4:=pr4.len
  refine⟨_,rfl,p,_,0,_,rfl,rfl,SqL.of hp4,zah (j:=0) (zek row 0 (by lia)),?_⟩
  refine⟨_,rfl,_,rfl,p,_,_,_,rfl,rfl,SqL.of hp4,zah (zek row (row.length / 2) (by lia)),(by show 2≤sizeLine;decide),fun t ht=>?_⟩
  have s5:=zaa ht (.tup [.int ((row.getD 0 0:Nat):Int),.int ((row.getD (row.length / 2) 0:Nat):Int)])
  refine⟨(by show 1≤sizeLine;decide),fun l6 hl6=>?_⟩
  have s6:=zaa hl6 (.lst [.ref t])
  refine⟨_,rfl,l6,lf2,_,_,rfl,rfl,atNew hl6 _,s6 _ _ (s5 _ _ (u4 _ _ hf2)),by rw[sizeLine_eq];simp only[List.length_cons,List.length_nil];lia,fun l7 hl7=>?_⟩
  have s7:=zaa hl7 (.lst ([.ref t]++ps2))
  refine⟨_,rfl,l7,lf4,_,_,rfl,rfl,atNew hl7 _,s7 _ _ (s6 _ _ (s5 _ _ hf4)),by rw[sizeLine_eq,List.length_append];simp only[List.length_cons,List.length_nil];lia,fun l8 hl8=>?_⟩
  have s8:=zaa hl8 (.lst (([.ref t]++ps2)++ps4))
  have u8:=((s5.trans s6).trans s7).trans s8
  refine⟨_,rfl,_,rfl,le2,le4,_,_,rfl,u8 _ _ (u4 _ _ he2),u8 _ _ he4,by rw[zag,zag,xl,yl],by rw[zag,xl];lia,fun l9 H9 s9 h9=>?_⟩
  rw[zeL]at h9
  refine⟨(by show 2≤sizeLine;decide),fun c hc=>?_⟩
  have s10:=zaa hc (.tup [.ref l8,.ref l9])
  have t8:=s8 _ _ (s7 _ _ (s6 _ _ (atNew ht (.tup [.int ((row.getD 0 0:Nat):Int),.int ((row.getD (row.length / 2) 0:Nat):Int)]))))
  refine k c l8 l9 _ _ ((u2.trans u4).trans ((u8.trans s9).trans s10)) (atNew hc _) (s10 _ _ (s9 _ _ (atNew hl8 _))) ?_ (s10 _ _ h9)
  refine Prs.tups (Tups.of (s9.trans s10)) ?_
  rw[List.append_assoc]
  exact Prs.app (ps:=[.ref t]) (fs:=[(row.getD 0 0,row.getD (row.length / 2) 0)]) (show Prs _ [.ref t] [(row.getD 0 0,row.getD (row.length / 2) 0)] from⟨⟨t,rfl,t8⟩,trivial⟩) (Prs.app ((pr2.tups (Tups.of u4)).tups (Tups.of u8)) (pr4.tups (Tups.of u8)))
theorem zc3 {f fB:Addr}{fd dB:FuncData}(F:Fun K "tree_of" "tree_of" zbA f fd) (G:Mgs mg) (UB:Use P w K mg base "by_turns" ["one","other"] 1 spBy fB dB) (bS:Binds K fd ["row"] []) (mS:mg "tree_of" = some (.ref f)):∀ n:Nat,FnOk P w K mg base CX0 (n+2) f fd ["row"] (zaW n)
 | 0=>zb5 F G UB bS mS 0 ⟨fun vs H Q E ⟨m,h,_⟩=>by lia,fun A outer s H args us vs Q E _ _ _ _ ⟨m,h,_⟩=>by lia⟩
 | m+1=>zb5 F G UB bS mS (m+1) ((zc3 F G UB bS mS m).imp fun vs H Q E ⟨m',h,q⟩=>by cases h;exact q)
abbrev zby:Sp:=fun vs H Q E=>∃ m,m≤4∧zaW m vs H Q E
theorem zeI {f fB:Addr}{fd dB:FuncData}(F:Fun K "tree_of" "tree_of" zbA f fd) (G:Mgs mg) (UB:Use P w K mg base "by_turns" ["one","other"] 1 spBy fB dB) (bS:Binds K fd ["row"] []) (mS:mg "tree_of" = some (.ref f)):FnOk P w K mg base CX0 6 f fd ["row"] zby :=
 FnOk.any 4 fun m hm=>(zc3 F G UB bS mS m).mono (by lia)
theorem zhN:FnScope ["k","row"] ["k"] (zae zit):=⟨rfl,rfl,rfl,by decide +kernel,rfl,by decide +kernel,by decide +kernel⟩
theorem ziM {f fR fT fM:Addr}{fd dR dT dM:FuncData}(F:Fun K "tree" "tree" zit f fd) (UR:Use P w K mg base "row_of" ["k"] 2 zck fR dR) (UT:Use P w K mg base "tree_of" ["row"] 6 zby fT dT) (UM:Use P w K mg base "net_of" ["row","made"] 3 zaX fM dM):FnOk P w K mg base CX0 7 f fd ["k"] zfn:=by
 refine F.ok zhN (fun vs H Q E h=>?_) (fun cdv A outer s H vs Q E hr h=>?_)
 ·obtain⟨k,rfl,_⟩:=h
  rfl
 obtain⟨k,rfl,k5,q⟩:=h
 have hr2:Room 2 _:=hr.mono (by decide)
 have hr3:Room 3 _:=hr.mono (by decide)
 refine⟨_,(@pss_cons _ _ _ _ _ (@ps_set _ _ 1 _ _ _ _ zhN.nd rfl (.inl rfl) (@pe_call _ _ _ _ _ _ _ _ _ _ _ _ _ _ _ _ UR.ok hr2 (by rfl) UR.m UR.kp UR.b .nil pass0 (@pa_cons _ _ _ _ _ (@pv _ 0 _ _ (by rfl) (by first|exact Or.inl rfl|exact Or.inr (.inl rfl)|exact Or.inr (.inr rfl)) (by decide) (by decide)) pa_nil (by rfl)) (by decide) (by rfl) (by rfl)) (by rfl) (by first|exact .inl rfl|exact .inr rfl|assumption)) (@pss_one _ _ _ (@ps_ret _ _ _ _ (@pe_call _ _ _ _ _ _ _ _ _ _ _ _ _ _ _ _ UM.ok hr3 (by rfl) UM.m UM.kp UM.b .nil pass0 (@pa_cons _ _ _ _ _ (@pv _ 1 _ _ (by rfl) (by first|exact Or.inl rfl|exact Or.inr (.inl rfl)|exact Or.inr (.inr rfl)) (by decide) (by decide)) (@pa_cons _ _ _ _ _ (@pe_call _ _ _ _ _ _ _ _ _ _ _ _ _ _ _ _ UT.ok hr (by rfl) UT.m UT.kp UT.b .nil pass0 (@pa_cons _ _ _ _ _ (@pv _ 1 _ _ (by rfl) (by first|exact Or.inl rfl|exact Or.inr (.inl rfl)|exact Or.inr (.inr rfl)) (by decide) (by decide)) pa_nil (by rfl)) (by decide) (by rfl) (by rfl)) pa_nil (by rfl)) (by rfl)) (by decide) (by rfl) (by rfl))))),?_⟩
 refine⟨_,rfl,k,rfl,by lia,fun p hp=>?_⟩
 have s1:=zaa hp (.lst (nums (List.range (2 ^ k))))
 refine⟨_,rfl,_,rfl,k,by lia,p,List.range (2 ^ k),rfl,atNew hp _,List.length_range,by lia,fun c lf le ps H2 s2 hc hf pr he=>?_⟩
 have eN:(⟨(List.range (2 ^ k)).length,(zbm k (List.range (2 ^ k))).1,(zbm k (List.range (2 ^ k))).2⟩:Nt)=zdq k:=by rw[List.length_range];rfl
 refine⟨p,c,lf,le,ps,_,List.range (2 ^ k),_,rfl,s2 _ _ (atNew hp _),hc,hf,pr,he,⟨by rw[eN];exact zfk (by lia),(zeo k k5).1⟩,fun r' fr' er' ps' H' s' n'=>?_⟩
 rw[eN]at n'
 exact q r' fr' er' ps' H' ((s1.trans s2).trans s') n'
end
abbrev sAny:Stmt:=top 38
abbrev ziA:Stmt:=top 39
def zil:Sp:=fun vs H Q _=>∃ l:Addr,vs=[.ref l]∧PkAt H l∧∀ r fr er ps N H',Nt.Ok N→NetAt H' r fr er ps N→PkAt H' l→But l H H'→Q (.ref r) H'
def zfq:Sp:=fun vs H Q _=>∃ l r fr er ps N pr qs rs,vs=[.ref l,.ref r,.ref pr]∧PkAt H l∧Nt.Ok N∧NetAt H r fr er ps N∧H pr=some (.tup qs)∧RunsAt H qs rs∧rs.length≤54∧(∀ x∈rs,x.lane<N.lanes∧1≤x.pace)∧∀ p qs' rs' H',H' p=some (.tup qs')→RunsAt H' qs' rs'→rs'.length≤60→(∀ x∈rs',x.lane<N.lanes∧1≤x.pace)→PkAt H' l→But l H H'→Q (.ref p) H'
theorem zjf (xs:List V):cutV xs none (some 6)=xs.take 6:=by
 have e:cutV xs none (some ((6:Nat):Int))=xs.take 6:=by
  unfold cutV
  rw[HT.sIx_none,HT.sIx_nat,List.drop_zero,Nat.sub_zero]
  by_cases h:6≤xs.length
  ·rw[Nat.min_eq_left h]
  ·rw[Nat.min_eq_right (by lia),List.take_length,List.take_of_length_le (by lia)]
 exact e
def zhM:Sp:=fun vs H Q E=>∃ m,m≤100∧zhL m vs H Q E
theorem RunsAt.add {H:Hp}{qs:List V}{rs:List RunP}{t:Addr}{x:RunP}(h:RunsAt H qs rs) (ht:H t=some (.tup [.int (x.lane:Nat),.int x.start,.int x.pace])):RunsAt H (qs++[.ref t]) (rs++[x]):=by
 refine⟨by rw[List.length_append,List.length_append,h.1];rfl,fun i q r hq hr=>?_⟩
 by_cases c:i<qs.length
 ·rw[List.getElem?_append_left c]at hq
  rw[List.getElem?_append_left (by rw[← h.1];exact c)]at hr
  exact h.2 i q r hq hr
 ·rw[List.getElem?_append_right (by lia)]at hq
  rw[List.getElem?_append_right (by rw[← h.1];lia)]at hr
  have e:i-qs.length=0:=by
   have:=(List.getElem?_eq_some_iff.mp hq).1
   simp at this
   lia
  rw[e]at hq
  rw[← h.1,e]at hr
  cases hq
  cases hr
  exact⟨t,rfl,ht⟩
section
variable {P:Program}{w:World}{K:PySem.W.Frag}{mg:Str→Option Value}{base:Heap}{C:Addr}
theorem scAn:FnScope ["_law_left_here"] ["_law_left_here"] (zae sAny):=⟨rfl,rfl,rfl,by decide +kernel,rfl,by decide +kernel,by decide +kernel⟩
theorem zjP {f fK fO fS fT fN fL:Addr}{fd dK dO dS dT dN dL:FuncData}(F:Fun K "_law_any" "_law_any" sAny f fd) (UK:Use P w K mg base "_law_pick" ["_law_left_here","_law_many"] 1 zbg fK dK) (UO:Use P w K mg base "_law_of" ["_law_left_here","_law_some"] 2 spOf fO dO) (US:Use P w K mg base "stairway" ["k"] 12 za8 fS dS) (UT:Use P w K mg base "tree" ["k"] 7 zfn fT dT) (UN:Use P w K mg base "_law_net" ["_law_left_here","_law_lanes_here","_law_most"] 3 zhM fN dN) (UL:Use P w K mg base "_law_lanes" ["_law_left_here"] 3 zdx fL dL):FnOk P w K mg base CX0 13 f fd ["_law_left_here"] zil:=by
 refine F.ok scAn (fun vs H Q E h=>?_) (fun cdv A outer s H vs Q E hr h=>?_)
 ·obtain⟨l,rfl,_⟩:=h
  rfl
 obtain⟨l,rfl,S,k⟩:=h
 have hr1:Room 1 _:=hr.mono (by decide)
 have hr2:Room 2 _:=hr.mono (by decide)
 have hr3:Room 3 _:=hr.mono (by decide)
 have hr7:Room 7 _:=hr.mono (by decide)
 refine⟨_,(@pss_cons _ _ _ _ _ (@ps_if _ _ _ _ _ _ _ _ (@pt_cmpR _ _ _ _ _ _ _ _ op_eq (@pe_call _ _ _ _ _ _ _ _ _ _ _ _ _ _ _ _ UK.ok hr1 (by rfl) UK.m UK.kp UK.b .nil pass0 (@pa_cons _ _ _ _ _ (@pv _ 0 _ _ (by rfl) (by first|exact Or.inl rfl|exact Or.inr (.inl rfl)|exact Or.inr (.inr rfl)) (by decide) (by decide)) (@pa_cons _ _ _ _ _ pe_int pa_nil (by rfl)) (by rfl)) (by decide) (by rfl) (by rfl)) pe_int (nomark _)) (@pss_one _ _ _ (@ps_ret _ _ _ _ (@pe_call _ _ _ _ _ _ _ _ _ _ _ _ _ _ _ _ UO.ok hr2 (by rfl) UO.m UO.kp UO.b .nil pass0 (@pa_cons _ _ _ _ _ (@pv _ 0 _ _ (by rfl) (by first|exact Or.inl rfl|exact Or.inr (.inl rfl)|exact Or.inr (.inr rfl)) (by decide) (by decide)) (@pa_cons _ _ _ _ _ (@pe_lst _ _ _ _ (@pa_cons _ _ _ _ _ (@pe_call _ _ _ _ _ _ _ _ _ _ _ _ _ _ _ _ US.ok hr (by rfl) US.m US.kp US.b .nil pass0 (@pa_cons _ _ _ _ _ pe_int pa_nil (by rfl)) (by decide) (by rfl) (by rfl)) (@pa_cons _ _ _ _ _ (@pe_call _ _ _ _ _ _ _ _ _ _ _ _ _ _ _ _ US.ok hr (by rfl) US.m US.kp US.b .nil pass0 (@pa_cons _ _ _ _ _ pe_int pa_nil (by rfl)) (by decide) (by rfl) (by rfl)) (@pa_cons _ _ _ _ _ (@pe_call _ _ _ _ _ _ _ _ _ _ _ _ _ _ _ _ US.ok hr (by rfl) US.m US.kp US.b .nil pass0 (@pa_cons _ _ _ _ _ pe_int pa_nil (by rfl)) (by decide) (by rfl) (by rfl)) (@pa_cons _ _ _ _ _ (@pe_call _ _ _ _ _ _ _ _ _ _ _ _ _ _ _ _ UT.ok hr7 (by rfl) UT.m UT.kp UT.b .nil pass0 (@pa_cons _ _ _ _ _ pe_int pa_nil (by rfl)) (by decide) (by rfl) (by rfl)) pa_nil (by rfl)) (by rfl)) (by rfl)) (by rfl))) pa_nil (by rfl)) (by rfl)) (by decide) (by rfl) (by rfl)))) pss_nil) (@pss_one _ _ _ (@ps_ret _ _ _ _ (@pe_call _ _ _ _ _ _ _ _ _ _ _ _ _ _ _ _ UN.ok hr3 (by rfl) UN.m UN.kp UN.b .nil pass0 (@pa_cons _ _ _ _ _ (@pv _ 0 _ _ (by rfl) (by first|exact Or.inl rfl|exact Or.inr (.inl rfl)|exact Or.inr (.inr rfl)) (by decide) (by decide)) (@pa_cons _ _ _ _ _ (@pe_call _ _ _ _ _ _ _ _ _ _ _ _ _ _ _ _ UL.ok hr3 (by rfl) UL.m UL.kp UL.b .nil pass0 (@pa_cons _ _ _ _ _ (@pv _ 0 _ _ (by rfl) (by first|exact Or.inl rfl|exact Or.inr (.inl rfl)|exact Or.inr (.inr rfl)) (by decide) (by decide)) pa_nil (by rfl)) (by decide) (by rfl) (by rfl)) (@pa_cons _ _ _ _ _ pe_int pa_nil (by rfl)) (by rfl)) (by rfl)) (by decide) (by rfl) (by rfl))))),?_⟩
 refine⟨_,rfl,l,2,rfl,by decide,by decide,S,fun a H1 ha S1 B1=>⟨rfl,_,rfl,?_⟩⟩
 by_cases c:a=0
 ·rw[decide_eq_true (by rw[c];rfl)]
  refine iteT ⟨_,rfl,1,rfl,by decide,fun r1 f1 e1 p1 H2 s2 n1=>?_⟩
  refine⟨2,rfl,by decide,fun r2 f2 e2 p2 H3 s3 n2=>?_⟩
  refine⟨3,rfl,by decide,fun r3 f3 e3 p3 H4 s4 n3=>?_⟩
  refine⟨2,rfl,by decide,fun r4 f4 e4 p4 H5 s5 n4=>?_⟩
  refine⟨(by show 4≤sizeLine;decide),fun lx hlx=>?_⟩
  have u25:=((s2.trans s3).trans s4).trans s5
  have sx:=zaa hlx (.lst [.ref r1,.ref r2,.ref r3,.ref r4])
  have S5:=S1.keep u25
  refine⟨l,lx,_,rfl,S5.keep sx,(S5.ne hlx).symm,atNew hlx _,by show 0<4;decide,by show 4≤100000;decide,fun i x H6 hx S6 B6=>?_⟩
  have t6:=(Tups.of sx).trans (B6.tups (S5.keep sx))
  have B:=((B1.trans (But.of u25)).trans (But.of sx)).trans B6
  match i,hx with
  | 0,hx=>obtain rfl:=Option.some.inj hx;exact k r1 f1 e1 p1 _ H6 (zbp (zbo (by decide))) ((((n1.tups (Tups.of s3)).tups (Tups.of s4)).tups (Tups.of s5)).tups t6) S6 B
  | 1,hx=>obtain rfl:=Option.some.inj hx;exact k r2 f2 e2 p2 _ H6 (zbp (zbo (by decide))) (((n2.tups (Tups.of s4)).tups (Tups.of s5)).tups t6) S6 B
  | 2,hx=>obtain rfl:=Option.some.inj hx;exact k r3 f3 e3 p3 _ H6 (zbp (zbo (by decide))) ((n3.tups (Tups.of s5)).tups t6) S6 B
  | 3,hx=>obtain rfl:=Option.some.inj hx;exact k r4 f4 e4 p4 _ H6 (zbp (zfk (by decide))) (n4.tups t6) S6 B
  | i+4,hx=>simp at hx
 ·rw[decide_eq_false (by intro y;have:=V.int.inj y;lia)]
  refine iteF ⟨_,rfl,_,rfl,l,rfl,S1,fun lanes H2 la1 la16 S2 B2=>?_⟩
  exact⟨12,by decide,l,lanes,rfl,S2,la1,la16,fun r fr er ps N H3 ok eN fN na S3 B3=>k r fr er ps N H3 ok na S3 ((B1.trans B2).trans B3)⟩
theorem scCh:FnScope ["_law_left_here","_law_net_here","_law_runs_here","_law_found","_law_number","_law_end","_law_moment","_law_start"] ["_law_left_here","_law_net_here","_law_runs_here"] (zae ziA):=⟨rfl,rfl,rfl,by decide +kernel,rfl,by decide +kernel,by decide +kernel⟩
theorem zfY {f fK fR:Addr}{fd dK dR:FuncData}(F:Fun K "_law_chased" "_law_chased" ziA f fd) (G:Mgs mg) (UK:Use P w K mg base "_law_pick" ["_law_left_here","_law_many"] 1 zbg fK dK) (UR:Use P w K mg base "_law_ran" ["_law_net_here","_law_runs_here"] 1 zdv fR dR):FnOk P w K mg base CX0 2 f fd ["_law_left_here","_law_net_here","_law_runs_here"] zfq:=by
 refine F.ok scCh (fun vs H Q E h=>?_) (fun cdv A outer s H vs Q E hr h=>?_)
 ·obtain⟨l,r,fr,er,ps,N,pr,qs,rs,rfl,_⟩:=h
  rfl
 obtain⟨l,r,fr,er,ps,N,pr,qs,rs,rfl,S,ok,na,hp,ra,r54,rok,k⟩:=h
 have l1:=ok.l1
 have l16:=ok.l16
 refine⟨_,(@pss_cons _ _ _ _ _ (@ps_set _ _ 3 _ _ _ _ scCh.nd rfl (.inl rfl) (@pe_callTy _ _ _ _ _ _ _ _ _ zbl (by rfl) G.list (by rfl) (@pa_cons _ _ _ _ _ (@pv _ 2 _ _ (by rfl) (by first|exact Or.inl rfl|exact Or.inr (.inl rfl)|exact Or.inr (.inr rfl)) (by decide) (by decide)) pa_nil (by rfl)) (by decide) (by decide) (by rfl) (by rfl)) (by rfl) (by first|exact .inl rfl|exact .inr rfl|assumption)) (@pss_cons _ _ _ _ _ (@ps_for _ _ _ _ _ _ _ _ PassesOwn.never rfl (@zeg _ _ _ _ (@za1 _ _ _ _ _ _ _ _ _ _ ziq (@pe_call _ _ _ _ _ _ _ _ _ _ _ _ _ _ _ _ UR.ok hr (by rfl) UR.m UR.kp UR.b .nil pass0 (@pa_cons _ _ _ _ _ (@pv _ 1 _ _ (by rfl) (by first|exact Or.inl rfl|exact Or.inr (.inl rfl)|exact Or.inr (.inr rfl)) (by decide) (by decide)) (@pa_cons _ _ _ _ _ (@pv _ 2 _ _ (by rfl) (by first|exact Or.inl rfl|exact Or.inr (.inl rfl)|exact Or.inr (.inr rfl)) (by decide) (by decide)) pa_nil (by rfl)) (by rfl)) (by decide) (by rfl) (by rfl)) zaQ (@zau _ _ _ pe_int))) (@pg_tup _ _ _ _ _ _ rfl (@pgs_cons _ _ _ _ _ (@pg_name _ _ 4 _ scCh.nd rfl (.inl rfl) (by first|exact .inl rfl|exact .inr rfl|assumption)) (@pgs_cons _ _ _ _ _ (@pg_name _ _ 5 _ scCh.nd rfl (.inl rfl) (by first|exact .inl rfl|exact .inr rfl|assumption)) (@pgs_cons _ _ _ _ _ (@pg_name _ _ 6 _ scCh.nd rfl (.inl rfl) (by first|exact .inl rfl|exact .inr rfl|assumption)) pgs_nil (by rfl)) (by rfl)) (by rfl)) (by rfl) (by rfl)) (@pss_cons _ _ _ _ _ (@ps_set _ _ 7 _ _ _ _ scCh.nd rfl (.inl rfl) (@pe_callB _ _ _ _ _ _ _ _ _ (za6 rfl) (by rfl) G.max (by rfl) (@pa_cons _ _ _ _ _ pe_int (@pa_cons _ _ _ _ _ (@pe_op _ _ _ _ _ _ _ _ op_sub (@pe_op _ _ _ _ _ _ _ _ op_add (@pv _ 6 _ _ (by rfl) (by first|exact Or.inl rfl|exact Or.inr (.inl rfl)|exact Or.inr (.inr rfl)) (by decide) (by decide)) (@pe_call _ _ _ _ _ _ _ _ _ _ _ _ _ _ _ _ UK.ok hr (by rfl) UK.m UK.kp UK.b .nil pass0 (@pa_cons _ _ _ _ _ (@pv _ 0 _ _ (by rfl) (by first|exact Or.inl rfl|exact Or.inr (.inl rfl)|exact Or.inr (.inr rfl)) (by decide) (by decide)) (@pa_cons _ _ _ _ _ pe_int pa_nil (by rfl)) (by rfl)) (by decide) (by rfl) (by rfl))) pe_int) pa_nil (by rfl)) (by rfl)) (by decide) (by decide) (by rfl) (by rfl)) (by rfl) (by first|exact .inl rfl|exact .inr rfl|assumption)) (@pss_one _ _ _ (@ps_expr _ _ _ _ (@pe_bm _ _ _ _ _ _ _ _ _ _ _ _ PySem.F.plainAttrs_list PySem.F.slot_list_append PySem.F.type_list_append mt_append (@pv _ 3 _ _ (by rfl) (by first|exact Or.inl rfl|exact Or.inr (.inl rfl)|exact Or.inr (.inr rfl)) (by decide) (by decide)) (@pa_cons _ _ _ _ _ (@pe_tup _ _ _ _ _ (@pa_cons _ _ _ _ _ (@pe_call _ _ _ _ _ _ _ _ _ _ _ _ _ _ _ _ UK.ok hr (by rfl) UK.m UK.kp UK.b .nil pass0 (@pa_cons _ _ _ _ _ (@pv _ 0 _ _ (by rfl) (by first|exact Or.inl rfl|exact Or.inr (.inl rfl)|exact Or.inr (.inr rfl)) (by decide) (by decide)) (@pa_cons _ _ _ _ _ (@pe_ix _ _ _ _ _ _ _ ix_tup (@pv _ 1 _ _ (by rfl) (by first|exact Or.inl rfl|exact Or.inr (.inl rfl)|exact Or.inr (.inr rfl)) (by decide) (by decide)) pe_int (fun _ _=>rfl)) pa_nil (by rfl)) (by rfl)) (by decide) (by rfl) (by rfl)) (@pa_cons _ _ _ _ _ (@pv _ 7 _ _ (by rfl) (by first|exact Or.inl rfl|exact Or.inr (.inl rfl)|exact Or.inr (.inr rfl)) (by decide) (by decide)) (@pa_cons _ _ _ _ _ (@pe_op _ _ _ _ _ _ _ _ op_add pe_int (@pe_call _ _ _ _ _ _ _ _ _ _ _ _ _ _ _ _ UK.ok hr (by rfl) UK.m UK.kp UK.b .nil pass0 (@pa_cons _ _ _ _ _ (@pv _ 0 _ _ (by rfl) (by first|exact Or.inl rfl|exact Or.inr (.inl rfl)|exact Or.inr (.inr rfl)) (by decide) (by decide)) (@pa_cons _ _ _ _ _ pe_int pa_nil (by rfl)) (by rfl)) (by decide) (by rfl) (by rfl))) pa_nil (by rfl)) (by rfl)) (by rfl))) pa_nil (by rfl)) (by rfl) (by rfl) (by rfl) (by rfl) (by rfl)) (by rfl)))) (by intro _;rfl)) (@pss_one _ _ _ (@ps_ret _ _ _ _ (@pe_callTy _ _ _ _ _ _ _ _ _ call_tuple_of (by rfl) G.tuple (by rfl) (@pa_cons _ _ _ _ _ (@pv _ 3 _ _ (by rfl) (by first|exact Or.inl rfl|exact Or.inr (.inl rfl)|exact Or.inr (.inr rfl)) (by decide) (by decide)) pa_nil (by rfl)) (by decide) (by decide) (by rfl) (by rfl)))))),?_⟩
 refine⟨_,rfl,pr,_,rfl,.inr (SqT.of hp),fun lf hlf=>?_⟩
 have s1:=zaa hlf (.lst qs)
 have nlf:=S.ne hlf
 refine⟨_,rfl,_,rfl,r,fr,er,ps,N,pr,qs,rs,rfl,ok,na.tups (Tups.of s1),s1 _ _ hp,ra.tups (Tups.of s1),by lia,rok,fun p a H2 s2 ch we pin td=>?_⟩
 obtain⟨xs,hx,xl,hat⟩:=td.at_
 refine⟨6,rfl,p,xs,rfl,hx,fun p6 H3 s3 h6=>?_⟩
 rw[zjf]at h6
 have u3:=(s1.trans s2).trans s3
 have lf3:=s3 _ _ (s2 _ _ (atNew hlf (.lst qs)))
 have n63:lf≠p6:=fun e=>by rw[e,h6]at lf3;cases lf3
 refine⟨p6,rfl,⟨_,SqT.of h6⟩,?_⟩
 refine zdV (K:=K) (a:=p6) (xs:=xs.take 6) (fun i σ H4=>(∃ v4 v5 v6 v7,σ=[some (.ref l),some (.ref r),some (.ref pr),some (.ref lf),v4,v5,v6,v7])∧PkAt H4 l∧But l H H4∧Tups H3 H4∧∃ qs' rs',H4 lf=some (.lst qs')∧RunsAt H4 qs' rs'∧rs'.length≤54+i∧∀ x∈rs',x.lane<N.lanes∧1≤x.pace) ⟨⟨_,_,_,_,rfl⟩,S.keep u3,But.of u3,Tups.of (Same.refl _),qs,rs,lf3,ra.tups (Tups.of u3),r54,rok⟩ (fun i σ H4 _ q=>SqT.of (q.2.2.2.1 _ _ h6)) ?_ ?_
 ·rintro i x σ H4 hxi ⟨⟨v4,v5,v6,v7,rfl⟩,S4,B4,T4,qs',rs',h4,ra4,rl,rok4⟩
  have i6:i<6∧i<xs.length:=by
   have:=(List.getElem?_eq_some_iff.mp hxi).1
   rw[List.length_take]at this
   lia
  obtain⟨t,e,et,ht⟩:=hat i (by lia)
  rw[List.getElem?_take_of_lt i6.1]at hxi
  obtain rfl:=Option.some.inj (hxi.symm.trans et)
  have na4:=(na.tups (Tups.of u3)).tups T4
  refine⟨t,_,rfl,SqT.of (T4 _ _ (s3 _ _ ht)),rfl,_,_,rfl,_,_,rfl,_,_,rfl,rfl,?_⟩
  refine⟨_,rfl,_,rfl,l,3,rfl,by decide,by decide,S4,fun a3 H5 ha3 S5 B5=>⟨_,_,rfl,rfl,_,_,rfl,rfl,_,_,rfl,?_⟩⟩
  have na5:=na4.tups (B5.tups S4)
  have h5:=B5 _ _ h4 nlf.symm
  refine⟨_,rfl,.inl ⟨rfl,_,SqL.of h5⟩,_,rfl,_,rfl,r,_,0,_,rfl,rfl,SqT.of na5.net,rfl,l,N.lanes,rfl,by lia,by lia,S5,fun b H6 hb S6 B6=>?_⟩
  refine⟨_,rfl,_,rfl,l,4,rfl,by decide,by decide,S6,fun c H7 hc S7 B7=>⟨_,_,rfl,rfl,(by show 3≤sizeLine;decide),fun t2 ht2=>?_⟩⟩
  have st:=zaa ht2 (.tup [.int (b:Nat),.int (if tM a.told i+(a3:Nat)-1 > 0 then tM a.told i+(a3:Nat)-1 else 0),.int ((1:Int)+(c:Nat))])
  have at2:=atNew ht2 (.tup [.int (b:Nat),.int (if tM a.told i+(a3:Nat)-1 > 0 then tM a.told i+(a3:Nat)-1 else 0),.int ((1:Int)+(c:Nat))])
  have h7:=st _ _ (B7 _ _ (B6 _ _ h5 nlf.symm) nlf.symm)
  have T7:=(((B5.tups S4).trans (B6.tups S5)).trans (B7.tups S6)).trans (Tups.of st)
  have al:qs'.length=rs'.length:=ra4.1
  have tl:=Tups.lst (ys:=qs'++[.ref t2]) h7
  refine⟨lf,qs',_,rfl,rfl,h7,by rw[al,sizeLine_eq];lia,⟨_,_,_,_,rfl⟩,(S7.keep st).upd nlf,fun x o e n=>?_,(T4.trans T7).trans tl,qs'++[.ref t2],rs'++[⟨b,if tM a.told i+(a3:Nat)-1 > 0 then tM a.told i+(a3:Nat)-1 else 0,(1:Int)+(c:Nat)⟩],zab,RunsAt.add ((ra4.tups T7).tups tl) (tl _ _ at2),by rw[List.length_append];show _+1≤_;lia,fun x hx=>?_⟩
  ·rw[zac (zad e hlf)]
   exact((((B4.trans B5).trans B6).trans B7).trans (But.of st)) x o e n
  ·rcases List.mem_append.mp hx with z|z
   ·exact rok4 x z
   ·rw[List.mem_singleton.mp z]
    exact⟨by show b<N.lanes;lia,by show 1≤(1:Int)+(c:Nat);lia⟩
 ·rintro σ H4 ⟨⟨v4,v5,v6,v7,rfl⟩,S4,B4,T4,qs',rs',h4,ra4,rl,rok4⟩
  have x6:(xs.take 6).length≤6:=by rw[List.length_take];lia
  refine⟨_,rfl,lf,_,rfl,.inl ⟨SqL.of h4,fun tc htc=>?_⟩⟩
  have s5:=zaa htc (.tup qs')
  exact k tc qs' rs' _ (atNew htc _) (ra4.tups (Tups.of s5)) (by lia) rok4 (S4.keep s5) (B4.trans (But.of s5))
end
end K98
namespace Bn
open PySem L2 Own
end Bn
namespace L2
open PySem PySem.Spec PyProof.Rows Own
end L2
namespace Bn
open PySem L2 Own
end Bn
namespace L2
open PySem PySem.Spec PyProof.Rows Own Builtin Builtin.Str
section
variable {X:Cx}
end
section
variable {X:Cx}{tg:Expr}
end
end L2
namespace Bn
open PySem PySem.Spec PyProof.Rows PySem.NumText
def txt (n:Int):Str:=Str.ofString (toString n)
def digs (m:Nat):List Nat:=(Nat.toDigits 10 m).map Char.toNat
theorem zjd (m:Nat):1≤(digs m).length:=by
 unfold digs
 rw[List.length_map]
 exact toDigits_len_ge 10 m
theorem zjc {m k:Nat}(hk:1≤k) (h:m<10 ^ k):(digs m).length≤k:=by
 unfold digs
 rw[List.length_map]
 exact toDigits_len_pow (by decide) hk h
theorem zib (m:Nat):(txt (m:Nat)).cps.toList=digs m:=PySem.W.KIN.signs_num m
theorem zic (m:Nat) (h:1≤m):(txt (-(m:Nat))).cps.toList=45::digs m:=by
 obtain⟨k,rfl⟩:∃ k,m=k+1:=⟨m-1,by lia⟩
 have tn:toString (-((k+1:Nat):Int)) = "-"++toString (((k+1:Nat):Int)):=rfl
 unfold txt
 rw[tn]
 generalize k+1=m
 have:(Str.ofString ("-"++toString ((m:Nat):Int))).cps.toList=(Str.ofString "-").cps.toList++(Str.ofString (toString ((m:Nat):Int))).cps.toList:=by
  rw[signs_ofString,signs_ofString,signs_ofString,String.toList_append,List.map_append]
 rw[this,PySem.W.KIN.signs_num];rfl
open Builtin Builtin.Str
theorem zfc (n:Int):(0≤n∧(txt n).cps.toList=digs n.natAbs)∨(n<0∧(txt n).cps.toList=45::digs n.natAbs):=by
 by_cases h:0≤n
 ·obtain⟨m,rfl⟩:=Int.eq_ofNat_of_zero_le h
  exact .inl ⟨h,zib m⟩
 ·obtain⟨m,rfl⟩:∃ m:Nat,n = -(m:Nat):=⟨n.natAbs,by lia⟩
  refine .inr ⟨by lia,?_⟩
  rw[zic m (by lia),show (-(m:Nat):Int).natAbs=m by lia]
theorem zih (z:Str):z.cps.toList.length=z.length:=by simp[Str.length]
theorem zid {n:Int}(h:n.natAbs<10 ^ 30):1≤(txt n).length∧(txt n).length≤31:=by
 have g:=zjd n.natAbs
 have l:=zjc (k:=30) (by decide) h
 rw[← zih]
 rcases zfc n with ⟨_,e⟩|⟨_,e⟩
 ·rw[e];lia
 ·rw[e,List.length_cons];lia
end Bn
namespace L2
open PySem PySem.Spec PyProof.Rows Own PySem.NumText
section
variable {X:Cx}
end
end L2
namespace L2
open PySem PySem.Spec PyProof.Rows Own
section
variable {prog:Program}{w:World}{A:Around}{E:Value→Shared→Prop}{l:Addr}{items:Array Value}
end
section
variable {X:Cx}
end
end L2
namespace Bn
open PySem PySem.Spec PyProof.Rows PySem.NumText Builtin Builtin.Str
end Bn
namespace L2
open PySem PySem.Spec PyProof.Rows Own Bn
structure ShB (m:Nat) (d:PyData):Prop where
 sh:d.showable=true
 nd:d.hasDict=false
 le:d.shown.length≤m
theorem ShB.up {m n:Nat}{d:PyData}(h:ShB m d) (l:m≤n):ShB n d:=⟨h.sh,h.nd,Nat.le_trans h.le l⟩
theorem zfv {m:Nat}:∀ {ds:List PyData},(∀ e∈ds,ShB m e)→PyData.showableAll ds=true∧PyData.hasDictAll ds=false∧∀ t∈PyData.shownAll ds,t.length≤m
 | [],_=>⟨rfl,rfl,fun t ht=>by cases ht⟩
 | d::ds,h=>by
  have a:=h d List.mem_cons_self
  obtain⟨b1,b2,b3⟩:=zfv (ds:=ds) fun e he=>h e (List.mem_cons_of_mem _ he)
  refine⟨?_,?_,fun t ht=>?_⟩
  ·show (d.showable && PyData.showableAll ds)=true
   rw[a.sh,b1];rfl
  ·show (d.hasDict || PyData.hasDictAll ds)=false
   rw[a.nd,b2];rfl
  ·change t∈d.shown::PyData.shownAll ds at ht
   rcases (List.mem_cons.1 ht) with rfl|ht
   ·exact a.le
   ·exact b3 t ht
theorem zbh:∀ ds:List PyData,(PyData.shownAll ds).length=ds.length
 | []=>rfl
 | d::ds=>by show (d.shown::PyData.shownAll ds).length=_;rw[List.length_cons,zbh ds];rfl
section
variable {X:Cx}
end
end L2
namespace Bn
open PySem L2 Own
def zjz:V→Bool
 | .int i=>decide (i.natAbs≤1000)
 | .str z=>decide ((PyData.str z).shown.length≤40) && (PyData.str z).canLay0
 | .bl _=>true
 | .non=>true
 | _=>false
def toD:V→PyData
 | .int i=>.int i
 | .str z=>.str z
 | .bl b=>.bool b
 | _=>.none
theorem zcE {K:PySem.W.Frag}{H:Hp}{x:V}(a:AnyT K H x) (r:zcU H x=none):∀ n,Deep K H n x
 | 0=>a
 | n+1=>⟨a,fun xs e=>by rw[r]at e;cases e⟩
theorem zgY {v:V}(h:zjz v=true):FlD v (toD v)∧ShB 40 (toD v)∧∀ (K:PySem.W.Frag) (H:Hp) (n:Nat),Deep K H n v:=by
 cases v with
 | int i =>
  have hi:i.natAbs≤1000:=of_decide_eq_true h
  have lg:i.natAbs.log2<1920:=by
   by_cases z:i.natAbs=0
   ·rw[z];decide
   ·exact(Nat.log2_lt z).mpr (Nat.lt_of_le_of_lt hi (by decide))
  refine⟨.inl ⟨i,rfl,rfl⟩,⟨decide_eq_true lg,rfl,?_⟩,fun K H n=>zcE ⟨_,.int i,_,rfl⟩ rfl n⟩
  have:=(zid (n:=i) (Nat.lt_of_le_of_lt hi (by decide))).2
  show (txt i).length≤40
  lia
 | str z =>
  have hz:decide ((PyData.str z).shown.length≤40)=true∧(PyData.str z).canLay0=true:=by rw[← Bool.and_eq_true];exact h
  exact⟨.inr (.inl ⟨z,rfl,rfl,hz.2⟩),⟨rfl,rfl,of_decide_eq_true hz.1⟩,fun K H n=>zcE ⟨_,.str z,_,rfl⟩ rfl n⟩
 | bl b=>exact⟨.inr (.inr (.inl ⟨b,rfl,rfl⟩)),⟨rfl,rfl,by cases b<;>decide⟩,fun K H n=>zcE ⟨_,.bl b,_,rfl⟩ rfl n⟩
 | non=>exact⟨.inr (.inr (.inr ⟨rfl,rfl⟩)),⟨rfl,rfl,by decide⟩,fun K H n=>zcE ⟨_,.non,_,rfl⟩ rfl n⟩
 | _=>cases h
def bd:Nat→Nat
 | 0=>40
 | n+1=>20*(bd n+2)+3
section
variable {N:Nt}{dd:Nat}{σ:St}{Pre:Hp→Prop}
end
section
variable {N:Nt}{dd:Nat}{σ:St}{Pre:Hp→Prop}{D:Ends}{H:Hp}{ta:TA}{n:Nat}
end
section
variable {N:Nt}{dd:Nat}{σ:St}{Pre:Hp→Prop}{D:Ends}{H:Hp}{ta:TA}{n:Nat}
end
end Bn
namespace L2
open PySem PySem.Spec PyProof.Rows Own Bn
section
variable {X:Cx}
theorem call_reprX (hg:X.A.guards=some []) (hu:X.A.units+64<cLine):CallR X (.builtin "repr") (fun xs H Q=>∃ a d,xs=[.ref a]∧DD H 4 (.ref a) d∧ShB 1000000 d∧Q (.str d.shown) H):=by
 rintro pins s σ H xs us Q I r ⟨a,d,rfl,dd,sh,q⟩
 obtain⟨u,rfl,r1⟩:=zcP r
 have big:d.shown.length≤sizeLine:=by have:=sh.le;rw[sizeLine_eq];lia
 obtain⟨as,rd⟩:=DD.reads I 4 _ d _ dd r1
 have dp:=dd.ok.2
 obtain rfl:u=Value.ref a:=r1
 exact repr_of_reads' rd sh.sh (fun z=>by rw[sh.nd]at z;cases z) hg (by lia) (fun _ _ e=>e) (fun h' u tk k=>⟨.str d.shown,H,I.kept k,⟨_,rfl⟩,q⟩) big
end
theorem zfu {i:Int}(h:i.natAbs≤1000):ShB 40 (.int i):=(zgY (v:=.int i) (decide_eq_true h)).2.1
theorem ShB.long {m k:Nat}{ds:List PyData}(h:∀ e∈ds,ShB m e) (l:ds.length≤k):ShB (k*(m+2)+3) (.tuple ds):=by
 obtain⟨a,b,c⟩:=zfv h
 refine⟨a,b,?_⟩
 have t:=zdp (PyData.shownAll ds)
 have p:=zb3 c
 rw[zbh]at p
 have q:=Nat.mul_le_mul_right (m+2) l
 exact Nat.le_trans t (by lia)
structure MgR (mg:Str→Option Value):Prop where
 repr:mg "repr" = none
end L2
namespace K98
open PySem L2 Own Bn
abbrev sLaw:Stmt:=top 41
def zgX (K:PySem.W.Frag):Sp:=fun vs H Q _=>∃ (a:Addr) (ns:List Int),vs=[.ref a]∧SqL K H a (ns.map V.int)∧ns.length≤63∧∀ H',Q (.bl true) H'
theorem zii {K:PySem.W.Frag}{H H1 H2:Hp}{a l:Addr}{xs:List V}(h:SqL K H a xs) (hl:H l=none) (s:Same H H1) (B:But l H1 H2):SqL K H2 a xs:=by
 rcases h with (h|⟨o,h⟩)|h
 ·exact .inl (.inl (B _ _ (s _ _ h) (zad h hl)))
 ·exact .inl (.inr ⟨o,B _ _ (s _ _ h) (zad h hl)⟩)
 ·exact .inr h
theorem nxt' {D:Ends}{σ:St}{H:Hp}(h:D.nx σ H):zjt D σ H:=h
theorem zgC {H:Hp}{p:Addr}{ts:List V}{fs:List (Nat × Nat)}(h:H p=some (.tup ts)) (pr:Prs H ts fs):DD H 4 (.ref p) (.tuple (fs.map zdU)):=by
 obtain⟨a,b⟩:=zeq pr
 exact(DD.tup h a b).up (by decide)
theorem zft {told:Nat→Option (Nat × Nat × Int)}{rs:List RunP}(r60:rs.length≤60):ShB 1000000 (.tuple ((crL told rs rs.length).map zdU)):=by
 have bl:=zcH told rs rs.length
 have b3:rs.length*rs.length≤60*60:=Nat.mul_le_mul r60 r60
 refine(ShB.long (m:=2*(40+2)+3) (k:=3600) (fun e he=>?_) (by rw[List.length_map];lia)).up (by decide)
 obtain⟨g,hg,rfl⟩:=List.mem_map.mp he
 obtain⟨g1,g2⟩:=zjg hg
 refine ShB.long (fun e he=>?_) (by show 2≤2;decide)
 simp only[List.mem_cons,List.mem_nil_iff,or_false]at he
 rcases he with rfl|rfl
 ·exact zfu (by lia)
 ·exact zfu (by lia)
section
variable {P:Program}{w:World}{K:PySem.W.Frag}{mg:Str→Option Value}{base:Heap}{C:Addr}
theorem scW:FnScope ["_law_script","_law_k","_law_left_here","_law_net_here","_law_turn","_law_runs_here","_law_due_here","_law_found"] ["_law_script"] (zae sLaw):=⟨rfl,rfl,rfl,by decide +kernel,rfl,by decide +kernel,by decide +kernel⟩
theorem zjN {f fL fA fC fR fD fX:Addr}{fd dL dA dC dR dD dX:FuncData}(F:Fun K "law" "law" sLaw f fd) (G:Mgs mg) (GR:MgR mg) (UL:Use P w K mg base "_law_left" ["_law_script","_law_k"] 2 (zfp K) fL dL) (UA:Use P w K mg base "_law_any" ["_law_left_here"] 13 zil fA dA) (UC:Use P w K mg base "_law_chased" ["_law_left_here","_law_net_here","_law_runs_here"] 2 zfq fC dC) (URs:Use P w K mg base "_law_runs" ["_law_left_here","_law_net_here","_law_most"] 3 zfo fR dR) (UD:Use P w K mg base "_law_due" ["_law_net_here","_law_runs_here"] 2 zba fD dD) (UX:Use P w K mg base "crossed" ["net","runs"] 5 zba fX dX):FnOk P w K mg base CX0 14 f fd ["_law_script"] (zgX K):=by
 refine F.ok scW (fun vs H Q E h=>?_) (fun cdv A outer s H vs Q E hr h=>?_)
 ·obtain⟨a,ns,rfl,_⟩:=h
  rfl
 obtain⟨a,ns,rfl,hS,h63,k⟩:=h
 have hr2:Room 2 _:=hr.mono (by decide)
 have hr3:Room 3 _:=hr.mono (by decide)
 have hr5:Room 5 _:=hr.mono (by decide)
 refine⟨_,(@pss_cons _ _ _ _ _ (@ps_for _ _ _ _ _ _ _ _ PassesOwn.never rfl (@zat _ _ _ _ _ _ rfl G.range (@pa_cons _ _ _ _ _ (@pe_callB _ _ _ _ _ _ _ _ _ (za6 rfl) (by rfl) G.max (by rfl) (@pa_cons _ _ _ _ _ pe_int (@pa_cons _ _ _ _ _ (@pe_callB _ _ _ _ _ _ _ _ _ (zgJ rfl) (by rfl) G.min (by rfl) (@pa_cons _ _ _ _ _ pe_int (@pa_cons _ _ _ _ _ (@pe_callB _ _ _ _ _ _ _ _ _ call_len_seq (by rfl) G.len PySem.boot_len (@pa_cons _ _ _ _ _ (@pv _ 0 _ _ (by rfl) (by first|exact Or.inl rfl|exact Or.inr (.inl rfl)|exact Or.inr (.inr rfl)) (by decide) (by decide)) pa_nil (by rfl)) (by decide) (by decide) (by rfl) (by rfl)) pa_nil (by rfl)) (by rfl)) (by decide) (by decide) (by rfl) (by rfl)) pa_nil (by rfl)) (by rfl)) (by decide) (by decide) (by rfl) (by rfl)) pa_nil (by rfl)) (by rfl)) (@pg_name _ _ 1 _ scW.nd rfl (.inl rfl) (by first|exact .inl rfl|exact .inr rfl|assumption)) (@pss_cons _ _ _ _ _ (@ps_set _ _ 2 _ _ _ _ scW.nd rfl (.inl rfl) (@pe_call _ _ _ _ _ _ _ _ _ _ _ _ _ _ _ _ UL.ok hr2 (by rfl) UL.m UL.kp UL.b .nil pass0 (@pa_cons _ _ _ _ _ (@pv _ 0 _ _ (by rfl) (by first|exact Or.inl rfl|exact Or.inr (.inl rfl)|exact Or.inr (.inr rfl)) (by decide) (by decide)) (@pa_cons _ _ _ _ _ (@pv _ 1 _ _ (by rfl) (by first|exact Or.inl rfl|exact Or.inr (.inl rfl)|exact Or.inr (.inr rfl)) (by decide) (by decide)) pa_nil (by rfl)) (by rfl)) (by decide) (by rfl) (by rfl)) (by rfl) (by first|exact .inl rfl|exact .inr rfl|assumption)) (@pss_cons _ _ _ _ _ (@ps_set _ _ 3 _ _ _ _ scW.nd rfl (.inl rfl) (@pe_call _ _ _ _ _ _ _ _ _ _ _ _ _ _ _ _ UA.ok hr (by rfl) UA.m UA.kp UA.b .nil pass0 (@pa_cons _ _ _ _ _ (@pv _ 2 _ _ (by rfl) (by first|exact Or.inl rfl|exact Or.inr (.inl rfl)|exact Or.inr (.inr rfl)) (by decide) (by decide)) pa_nil (by rfl)) (by decide) (by rfl) (by rfl)) (by rfl) (by first|exact .inl rfl|exact .inr rfl|assumption)) (@pss_one _ _ _ (@ps_for _ _ _ _ _ _ _ _ PassesOwn.never rfl (@zat _ _ _ _ _ _ rfl G.range (@pa_cons _ _ _ _ _ pe_int pa_nil (by rfl)) (by rfl)) (@pg_name _ _ 4 _ scW.nd rfl (.inl rfl) (by first|exact .inl rfl|exact .inr rfl|assumption)) (@pss_cons _ _ _ _ _ (@ps_set _ _ 5 _ _ _ _ scW.nd rfl (.inl rfl) (@pe_call _ _ _ _ _ _ _ _ _ _ _ _ _ _ _ _ UC.ok hr2 (by rfl) UC.m UC.kp UC.b .nil pass0 (@pa_cons _ _ _ _ _ (@pv _ 2 _ _ (by rfl) (by first|exact Or.inl rfl|exact Or.inr (.inl rfl)|exact Or.inr (.inr rfl)) (by decide) (by decide)) (@pa_cons _ _ _ _ _ (@pv _ 3 _ _ (by rfl) (by first|exact Or.inl rfl|exact Or.inr (.inl rfl)|exact Or.inr (.inr rfl)) (by decide) (by decide)) (@pa_cons _ _ _ _ _ (@pe_call _ _ _ _ _ _ _ _ _ _ _ _ _ _ _ _ URs.ok hr3 (by rfl) URs.m URs.kp URs.b .nil pass0 (@pa_cons _ _ _ _ _ (@pv _ 2 _ _ (by rfl) (by first|exact Or.inl rfl|exact Or.inr (.inl rfl)|exact Or.inr (.inr rfl)) (by decide) (by decide)) (@pa_cons _ _ _ _ _ (@pv _ 3 _ _ (by rfl) (by first|exact Or.inl rfl|exact Or.inr (.inl rfl)|exact Or.inr (.inr rfl)) (by decide) (by decide)) (@pa_cons _ _ _ _ _ pe_int pa_nil (by rfl)) (by rfl)) (by rfl)) (by decide) (by rfl) (by rfl)) pa_nil (by rfl)) (by rfl)) (by rfl)) (by decide) (by rfl) (by rfl)) (by rfl) (by first|exact .inl rfl|exact .inr rfl|assumption)) (@pss_cons _ _ _ _ _ (@ps_set _ _ 6 _ _ _ _ scW.nd rfl (.inl rfl) (@pe_call _ _ _ _ _ _ _ _ _ _ _ _ _ _ _ _ UD.ok hr2 (by rfl) UD.m UD.kp UD.b .nil pass0 (@pa_cons _ _ _ _ _ (@pv _ 3 _ _ (by rfl) (by first|exact Or.inl rfl|exact Or.inr (.inl rfl)|exact Or.inr (.inr rfl)) (by decide) (by decide)) (@pa_cons _ _ _ _ _ (@pv _ 5 _ _ (by rfl) (by first|exact Or.inl rfl|exact Or.inr (.inl rfl)|exact Or.inr (.inr rfl)) (by decide) (by decide)) pa_nil (by rfl)) (by rfl)) (by decide) (by rfl) (by rfl)) (by rfl) (by first|exact .inl rfl|exact .inr rfl|assumption)) (@pss_cons _ _ _ _ _ (@ps_set _ _ 7 _ _ _ _ scW.nd rfl (.inl rfl) (@pe_call _ _ _ _ _ _ _ _ _ _ _ _ _ _ _ _ UX.ok hr5 (by rfl) UX.m UX.kp UX.b .nil pass0 (@pa_cons _ _ _ _ _ (@pv _ 3 _ _ (by rfl) (by first|exact Or.inl rfl|exact Or.inr (.inl rfl)|exact Or.inr (.inr rfl)) (by decide) (by decide)) (@pa_cons _ _ _ _ _ (@pv _ 5 _ _ (by rfl) (by first|exact Or.inl rfl|exact Or.inr (.inl rfl)|exact Or.inr (.inr rfl)) (by decide) (by decide)) pa_nil (by rfl)) (by rfl)) (by decide) (by rfl) (by rfl)) (by rfl) (by first|exact .inl rfl|exact .inr rfl|assumption)) (@pss_one _ _ _ (@ps_if _ _ _ _ _ _ _ _ (@pw_or _ _ _ _ _ _ _ (@zfK _ _ _ _ (@zfJ _ _ _ (@pe_callB _ _ _ _ _ _ _ _ _ zcJ (by rfl) G.isi (by rfl) (@pa_cons _ _ _ _ _ (@pv _ 7 _ _ (by rfl) (by first|exact Or.inl rfl|exact Or.inr (.inl rfl)|exact Or.inr (.inr rfl)) (by decide) (by decide)) (@pa_cons _ _ _ _ _ (@zdF _ _ (.ty "tuple") (.type "tuple") _ (by rfl) G.tuple (by rfl) rfl (by decide) (by decide)) pa_nil (by rfl)) (by rfl)) (by decide) (by decide) (by rfl) (by rfl)) (by intro _;rfl))) (@pw_or _ _ _ _ _ _ _ (@pt_cmpR _ _ _ _ _ _ _ _ op_ne (@pe_callB _ _ _ _ _ _ _ _ _ (call_reprX hr.gd hr.units) (by rfl) GR.repr (by rfl) (@pa_cons _ _ _ _ _ (@pv _ 7 _ _ (by rfl) (by first|exact Or.inl rfl|exact Or.inr (.inl rfl)|exact Or.inr (.inr rfl)) (by decide) (by decide)) pa_nil (by rfl)) (by decide) (by decide) (by rfl) (by rfl)) (@pe_callB _ _ _ _ _ _ _ _ _ (call_reprX hr.gd hr.units) (by rfl) GR.repr (by rfl) (@pa_cons _ _ _ _ _ (@pv _ 6 _ _ (by rfl) (by first|exact Or.inl rfl|exact Or.inr (.inl rfl)|exact Or.inr (.inr rfl)) (by decide) (by decide)) pa_nil (by rfl)) (by decide) (by decide) (by rfl) (by rfl)) (nomark _)) (@pw_or1 _ _ _ _ (@pt_cmpR _ _ _ _ _ _ _ _ (op_neX hr.units) (@pe_call _ _ _ _ _ _ _ _ _ _ _ _ _ _ _ _ UX.ok hr5 (by rfl) UX.m UX.kp UX.b .nil pass0 (@pa_cons _ _ _ _ _ (@pv _ 3 _ _ (by rfl) (by first|exact Or.inl rfl|exact Or.inr (.inl rfl)|exact Or.inr (.inr rfl)) (by decide) (by decide)) (@pa_cons _ _ _ _ _ (@pv _ 5 _ _ (by rfl) (by first|exact Or.inl rfl|exact Or.inr (.inl rfl)|exact Or.inr (.inr rfl)) (by decide) (by decide)) pa_nil (by rfl)) (by rfl)) (by decide) (by rfl) (by rfl)) (@pv _ 7 _ _ (by rfl) (by first|exact Or.inl rfl|exact Or.inr (.inl rfl)|exact Or.inr (.inr rfl)) (by decide) (by decide)) (nomark _))))).pt (@pss_one _ _ _ (@ps_ret _ _ _ _ pe_bl)) pss_nil))))) (by intro _;rfl))))) (by intro _;rfl)) (@pss_one _ _ _ (@ps_ret _ _ _ _ pe_bl))),?_⟩
 refine⟨_,rfl,a,_,rfl,.inl hS,_,_,rfl,_,_,rfl,_,rfl,?_,?_,?_⟩
 ·split<;>split<;>lia
 ·rw[List.length_map];split<;>split<;>lia
 refine zaw (lo:=0) (fun i σ H2=>(∃ v1 v2 v3 v4 v5 v6 v7,σ=[some (.ref a),v1,v2,v3,v4,v5,v6,v7])∧SqL K H2 a (ns.map V.int)) ⟨⟨_,_,_,_,_,_,_,rfl⟩,hS⟩ ?_ (fun σ H2 _=>k H2)
 rintro i σ H2 hi ⟨⟨v1,v2,v3,v4,v5,v6,v7,rfl⟩,hS2⟩
 have ib:i<31:=by
  have:(if (if ((ns.map V.int).length:Int)<5 then ((ns.map V.int).length:Int) else 5) > 1 then (if ((ns.map V.int).length:Int)<5 then ((ns.map V.int).length:Int) else 5) else 1)≤30:=by split<;>split<;>lia
  lia
 refine⟨_,rfl,_,rfl,a,ns,_,rfl,hS2,h63,by lia,by lia,fun l H3 hl s3 S3=>?_⟩
 refine⟨_,rfl,l,rfl,S3,fun r fr er ps N H4 ok na4 S4 B4=>?_⟩
 refine⟨4,rfl,by decide,by decide,?_⟩
 refine zaw (lo:=0) (fun m σ H7=>(∃ v4 v5 v6 v7,σ=[some (.ref a),some (.int (0+(i:Nat))),some (.ref l),some (.ref r),v4,v5,v6,v7])∧PkAt H7 l∧But l H3 H7∧NetAt H7 r fr er ps N) ⟨⟨_,_,_,_,rfl⟩,S4,B4,na4⟩ ?_ ?_
 ·rintro m σ H7 hm ⟨⟨v4,v5,v6,v7,rfl⟩,S7,B7,na7⟩
  refine⟨_,rfl,_,rfl,_,rfl,_,rfl,l,r,fr,er,ps,N,10,rfl,by decide,S7,ok,na7,fun p0 qs0 rs0 H8 hp8 ra8 r54 rok0 S8 B8=>?_⟩
  have na8:=na7.tups (B8.tups S7)
  refine⟨l,r,fr,er,ps,N,p0,qs0,rs0,rfl,S8,ok,na8,hp8,ra8,r54,rok0,fun p qs rs H9 hp9 ra9 r60 rok S9 B9=>?_⟩
  have na9:=na8.tups (B9.tups S8)
  refine⟨_,rfl,_,rfl,r,fr,er,ps,N,p,qs,rs,rfl,ok,na9,hp9,ra9,r60,rok,fun p1 ts1 a1 H10 s10 ch1 we1 h1 pr1=>?_⟩
  refine⟨_,rfl,_,rfl,r,fr,er,ps,N,p,qs,rs,rfl,ok,na9.tups (Tups.of s10),s10 _ _ hp9,ra9.tups (Tups.of s10),r60,rok,fun p2 ts2 a2 H11 s11 ch2 we2 h2 pr2=>?_⟩
  obtain rfl:=ch1.one ch2 we1 we2
  have dd1:=zgC (s11 _ _ h1) (pr1.tups (Tups.of s11))
  have dd2:=zgC h2 pr2
  have sb:=zft (told:=a1.told) (rs:=rs) r60
  have u11:=s10.trans s11
  refine⟨_,rfl,_,"tuple",_,true,rfl,.tup h2,rfl,_,rfl,iteF ?_⟩
  refine⟨_,rfl,p2,_,rfl,dd2,sb,_,rfl,p1,_,rfl,dd1,sb,rfl,_,rfl,?_⟩
  rw[decide_eq_true rfl]
  refine iteF ?_
  refine⟨_,rfl,_,rfl,r,fr,er,ps,N,p,qs,rs,rfl,ok,na9.tups (Tups.of u11),u11 _ _ hp9,ra9.tups (Tups.of u11),r60,rok,fun p3 ts3 a3 H12 s12 ch3 we3 h3 pr3=>?_⟩
  obtain rfl:=ch1.one ch3 we1 we3
  have u12:=u11.trans s12
  refine⟨_,rfl,4,_,_,by decide,zgC h3 pr3,dd2.same s12,_,rfl,?_⟩
  have self:PyData.eqv (.tuple ((crL a1.told rs rs.length).map zdU)) (.tuple ((crL a1.told rs rs.length).map zdU))=true:=PySem.SeqAt.eqv_refl _ dd2.ok.1
  rw[if_neg Bool.false_ne_true,self]
  exact iteF (nxt' ⟨⟨_,_,_,_,rfl⟩,S9.keep u12,(((B7.trans B8).trans B9).trans (But.of u12)),na9.tups (Tups.of u12)⟩)
 ·rintro σ H7 ⟨⟨v4,v5,v6,v7,rfl⟩,S7,B7,na7⟩
  exact⟨⟨_,_,_,_,_,_,_,rfl⟩,zii hS2 hl s3 B7⟩
end
structure FnAt (K:PySem.W.Frag) (x:Str) (st:Stmt) (f:Addr) (fd:FuncData):Prop where
 ns:PySem.W.nsIn K mainGlobals x=some (some (.ref f))
 fn:Fun K x x st f fd
theorem zaq {K:PySem.W.Frag}{x:Str}{st:Stmt}{f:Addr}{oc:Value}{od an:Option Addr}{osl:Array (Option Value)}{kV doc pm cdv ct:Value}(a:PySem.W.nsIn K mainGlobals x=some (some (.ref f)))
  (l:K.lookup f=some ⟨oc,od,.func (PySem.W.fnOf x x (zaJ st) (zaF st) (zae st) .none kV doc pm an cdv ct),osl⟩) (c:PySem.W.codeIn K cdv x=true) (k:PySem.W.keepIn K (.ref f)=true):FnAt K x st f (PySem.W.fnOf x x (zaJ st) (zaF st) (zae st) .none kV doc pm an cdv ct):=⟨a,zhZ l c k⟩
structure MethAt (K:PySem.W.Frag) (C:Addr) (x q:Str) (st:Stmt) (f:Addr) (fd:FuncData):Prop where
 mt:Meth K C x f
 fn:Fun K x q st f fd
theorem zcw {K:PySem.W.Frag}{C:Addr}{x q:Str}{st:Stmt}{f:Addr}{oc:Value}{od an:Option Addr}{osl:Array (Option Value)}{kV doc pm cdv ct:Value}(a:PySem.W.findIn K (.ref C) x=some (some (.ref f))) (i:PySem.W.isFn K (.ref f)=true)
  (l:K.lookup f=some ⟨oc,od,.func (PySem.W.fnOf x q (zaJ st) (zaF st) (zae st) .none kV doc pm an cdv ct),osl⟩) (c:PySem.W.codeIn K cdv q=true) (k:PySem.W.keepIn K (.ref f)=true):MethAt K C x q st f (PySem.W.fnOf x q (zaJ st) (zaF st) (zae st) .none kV doc pm an cdv ct):=⟨⟨a,i,k⟩,zhZ (st:=st) l c k⟩
theorem us1 {us:List Value}(h:us.length=1):∃ u0,us=[u0]:=by
 match us,h with
 | [u0],_=>exact⟨u0,rfl⟩
theorem us2 {us:List Value}(h:us.length=2):∃ u0 u1,us=[u0,u1]:=by
 match us,h with
 | [u0,u1],_=>exact⟨u0,u1,rfl⟩
theorem us3 {us:List Value}(h:us.length=3):∃ u0 u1 u2,us=[u0,u1,u2]:=by
 match us,h with
 | [u0,u1,u2],_=>exact⟨u0,u1,u2,rfl⟩
set_option maxHeartbeats 4000001 in
theorem zka {l:PySem.W.OpenLaw}{w:World}{K:PySem.W.Frag}{h:Heap}{mg:Str→Option Value}{fa f1 f2 f3 f4 f5 f6 f7 f8 f9 f10 f11 f12 f13 f14 f15 f16 f17 f18 f19 f20 f21 f22 f23 f24 f25 f26 f27 f28 f29 f30:Addr}{d1 d2 d3 d4 d5 d6 d7 d8 d9 d10 d11 d12 d13 d14 d15 d16 d17 d18 d19 d20 d21 d22 d23 d24 d25 d26 d27 d28 d29 d30:FuncData}(X:K.In h) (G:h.Ns mainGlobals mg) (hfa:mg "law" = some (.ref fa))
  (A1:FnAt K "_law_cell_at" ziB f1 d1)
  (A2:FnAt K "_law_left" zix f2 d2)
  (A3:FnAt K "_law_pick" ziv f3 d3)
  (A4:FnAt K "_law_of" sOf f4 d4)
  (A5:FnAt K "_law_placed" zdz f5 d5)
  (A6:FnAt K "_law_net" sNet f6 d6)
  (A7:FnAt K "_law_lanes" zfD f7 d7)
  (A8:FnAt K "_law_runs" ziu f8 d8)
  (A9:FnAt K "_law_ran" ziy f9 d9)
  (A10:FnAt K "ran" sRan f10 d10)
  (A11:FnAt K "crossed" zfE f11 d11)
  (A12:FnAt K "is_whole" zfy f12 d12)
  (A13:FnAt K "is_below" zfF f13 d13)
  (A14:FnAt K "next_fork" ziw f14 d14)
  (A15:FnAt K "end_of" sEnd f15 d15)
  (A16:FnAt K "layers" zdA f16 d16)
  (A17:FnAt K "plain" zfC f17 d17)
  (A18:FnAt K "power_of_two" sPow f18 d18)
  (A19:FnAt K "row_of" zfB f19 d19)
  (A20:FnAt K "net_of" zcs f20 d20)
  (A21:FnAt K "by_turns" sBy f21 d21)
  (A22:FnAt K "tree_of" zbA f22 d22)
  (A23:FnAt K "tree" zit f23 d23)
  (A24:FnAt K "merger_of" zaZ f24 d24)
  (A25:FnAt K "stairway_of" zaY f25 d25)
  (A26:FnAt K "stairway" zbB f26 d26)
  (A27:FnAt K "_law_any" sAny f27 d27)
  (A28:FnAt K "_law_chased" ziA f28 d28)
  (A29:FnAt K "_law_due" ziz f29 d29)
  (A30:FnAt K "law" sLaw f30 d30)
  (z1:PySem.W.nsIn K mainGlobals "len" = some none)
  (z2:PySem.W.nsIn K mainGlobals "range" = some none)
  (z3:PySem.W.nsIn K mainGlobals "tuple" = some none)
  (z4:PySem.W.nsIn K mainGlobals "enumerate" = some none)
  (z5:PySem.W.nsIn K mainGlobals "abs" = some none)
  (z6:PySem.W.nsIn K mainGlobals "zip" = some none)
  (z7:PySem.W.nsIn K mainGlobals "isinstance" = some none)
  (z8:PySem.W.nsIn K mainGlobals "all" = some none)
  (z9:PySem.W.nsIn K mainGlobals "sum" = some none)
  (z10:PySem.W.nsIn K mainGlobals "bool" = some none)
  (z11:PySem.W.nsIn K mainGlobals "int" = some none)
  (z12:PySem.W.nsIn K mainGlobals "str" = some none)
  (z13:PySem.W.nsIn K mainGlobals "max" = some none)
  (z14:PySem.W.nsIn K mainGlobals "min" = some none)
  (z15:PySem.W.nsIn K mainGlobals "sorted" = some none)
  (z16:PySem.W.nsIn K mainGlobals "list" = some none)
  (z17:PySem.W.nsIn K mainGlobals "dict" = some none)
  (z18:PySem.W.nsIn K mainGlobals "repr" = some none)
  {C g1 g2 g3 g4:Addr}{e1 e2 e3 e4:FuncData}(aC:PySem.W.nsIn K mainGlobals "Teller" = some (some (.ref C)))
  (B1:MethAt K C "__init__" "Teller.__init__" zfA g1 e1)
  (B2:MethAt K C "start" "Teller.start" zdy g2 e2)
  (B3:MethAt K C "step" "Teller.step" zfz g3 e3)
  (B4:MethAt K C "number_at" "Teller.number_at" zcr g4 e4)
  (pg:PySem.W.plainGet K C Str.empty=true) (hd:PySem.W.hasDictIn K C=true) (po:PySem.W.plainOver K C=true) (sa:PySem.W.findIn K (.ref C) "__setattr__" = some (some (.builtin "object.__setattr__"))) (mk:PySem.W.makesIn K C=true) (kc:PySem.W.keepIn K (.ref C)=true)
  (na0:PySem.W.findIn K (.ref C) "net" = some none) (na1:PySem.W.findIn K (.ref C) "settings" = some none) (na2:PySem.W.findIn K (.ref C) "spots" = some none) (na3:PySem.W.findIn K (.ref C) "came" = some none) (na4:PySem.W.findIn K (.ref C) "numbers" = some none)
  (zd:PySem.W.nsIn K cStatics "sys.int_max_str_digits" = some none)
  : ∃ fd:FuncData,(∀ (s:Shared) (v:Value),BindsTo s fd ⟨[v],[]⟩ [("_law_script",v)])∧∀ base:Heap,K.In base→base.Ns mainGlobals mg→FnOk l.prog w K mg base CX0 14 fa fd ["_law_script"] (zgX K):=by
 have e:=hfa.symm.trans (PySem.W.mg_of X G A30.ns)
 cases e
 have M:Mgs mg:=⟨PySem.W.mg_none_of X G z1,PySem.W.mg_none_of X G z2,PySem.W.mg_none_of X G z3,PySem.W.mg_none_of X G z4,PySem.W.mg_none_of X G z5,PySem.W.mg_none_of X G z6,PySem.W.mg_none_of X G z7,PySem.W.mg_none_of X G z8,PySem.W.mg_none_of X G z9,PySem.W.mg_none_of X G z10,PySem.W.mg_none_of X G z11,PySem.W.mg_none_of X G z12,PySem.W.mg_none_of X G z13,PySem.W.mg_none_of X G z14,PySem.W.mg_none_of X G z15,PySem.W.mg_none_of X G z16⟩
 have M2:MgD mg:=⟨PySem.W.mg_none_of X G z17⟩
 have M3:MgR mg:=⟨PySem.W.mg_none_of X G z18⟩
 have b1:=A1.fn.binds (ps:=["_law_script","_law_k"]) fun _ _ _ _ _ _ us hl=>by obtain⟨u0,u1,rfl⟩:=us2 hl;rfl
 have m1:=PySem.W.mg_of X G A1.ns
 have b2:=A2.fn.binds (ps:=["_law_script","_law_k"]) fun _ _ _ _ _ _ us hl=>by obtain⟨u0,u1,rfl⟩:=us2 hl;rfl
 have m2:=PySem.W.mg_of X G A2.ns
 have b3:=A3.fn.binds (ps:=["_law_left_here","_law_many"]) fun _ _ _ _ _ _ us hl=>by obtain⟨u0,u1,rfl⟩:=us2 hl;rfl
 have m3:=PySem.W.mg_of X G A3.ns
 have b4:=A4.fn.binds (ps:=["_law_left_here","_law_some"]) fun _ _ _ _ _ _ us hl=>by obtain⟨u0,u1,rfl⟩:=us2 hl;rfl
 have m4:=PySem.W.mg_of X G A4.ns
 have b5:=A5.fn.binds (ps:=["_law_left_here","_law_some"]) fun _ _ _ _ _ _ us hl=>by obtain⟨u0,u1,rfl⟩:=us2 hl;rfl
 have m5:=PySem.W.mg_of X G A5.ns
 have b6:=A6.fn.binds (ps:=["_law_left_here","_law_lanes_here","_law_most"]) fun _ _ _ _ _ _ us hl=>by obtain⟨u0,u1,u2,rfl⟩:=us3 hl;rfl
 have m6:=PySem.W.mg_of X G A6.ns
 have b7:=A7.fn.binds (ps:=["_law_left_here"]) fun _ _ _ _ _ _ us hl=>by obtain⟨u0,rfl⟩:=us1 hl;rfl
 have m7:=PySem.W.mg_of X G A7.ns
 have b8:=A8.fn.binds (ps:=["_law_left_here","_law_net_here","_law_most"]) fun _ _ _ _ _ _ us hl=>by obtain⟨u0,u1,u2,rfl⟩:=us3 hl;rfl
 have m8:=PySem.W.mg_of X G A8.ns
 have b9:=A9.fn.binds (ps:=["_law_net_here","_law_runs_here"]) fun _ _ _ _ _ _ us hl=>by obtain⟨u0,u1,rfl⟩:=us2 hl;rfl
 have m9:=PySem.W.mg_of X G A9.ns
 have b10:=A10.fn.binds (ps:=["net","runs"]) fun _ _ _ _ _ _ us hl=>by obtain⟨u0,u1,rfl⟩:=us2 hl;rfl
 have m10:=PySem.W.mg_of X G A10.ns
 have b11:=A11.fn.binds (ps:=["net","runs"]) fun _ _ _ _ _ _ us hl=>by obtain⟨u0,u1,rfl⟩:=us2 hl;rfl
 have m11:=PySem.W.mg_of X G A11.ns
 have b12:=A12.fn.binds (ps:=["thing"]) fun _ _ _ _ _ _ us hl=>by obtain⟨u0,rfl⟩:=us1 hl;rfl
 have m12:=PySem.W.mg_of X G A12.ns
 have b13:=A13.fn.binds (ps:=["thing","bound"]) fun _ _ _ _ _ _ us hl=>by obtain⟨u0,u1,rfl⟩:=us2 hl;rfl
 have m13:=PySem.W.mg_of X G A13.ns
 have b14:=A14.fn.binds (ps:=["net","lane","number"]) fun _ _ _ _ _ _ us hl=>by obtain⟨u0,u1,u2,rfl⟩:=us3 hl;rfl
 have m14:=PySem.W.mg_of X G A14.ns
 have b15:=A15.fn.binds (ps:=["net","lane"]) fun _ _ _ _ _ _ us hl=>by obtain⟨u0,u1,rfl⟩:=us2 hl;rfl
 have m15:=PySem.W.mg_of X G A15.ns
 have b16:=A16.fn.binds (ps:=["net"]) fun _ _ _ _ _ _ us hl=>by obtain⟨u0,rfl⟩:=us1 hl;rfl
 have m16:=PySem.W.mg_of X G A16.ns
 have b17:=A17.fn.binds (ps:=["net"]) fun _ _ _ _ _ _ us hl=>by obtain⟨u0,rfl⟩:=us1 hl;rfl
 have m17:=PySem.W.mg_of X G A17.ns
 have b18:=A18.fn.binds (ps:=["many"]) fun _ _ _ _ _ _ us hl=>by obtain⟨u0,rfl⟩:=us1 hl;rfl
 have m18:=PySem.W.mg_of X G A18.ns
 have b19:=A19.fn.binds (ps:=["k"]) fun _ _ _ _ _ _ us hl=>by obtain⟨u0,rfl⟩:=us1 hl;rfl
 have m19:=PySem.W.mg_of X G A19.ns
 have b20:=A20.fn.binds (ps:=["row","made"]) fun _ _ _ _ _ _ us hl=>by obtain⟨u0,u1,rfl⟩:=us2 hl;rfl
 have m20:=PySem.W.mg_of X G A20.ns
 have b21:=A21.fn.binds (ps:=["one","other"]) fun _ _ _ _ _ _ us hl=>by obtain⟨u0,u1,rfl⟩:=us2 hl;rfl
 have m21:=PySem.W.mg_of X G A21.ns
 have b22:=A22.fn.binds (ps:=["row"]) fun _ _ _ _ _ _ us hl=>by obtain⟨u0,rfl⟩:=us1 hl;rfl
 have m22:=PySem.W.mg_of X G A22.ns
 have b23:=A23.fn.binds (ps:=["k"]) fun _ _ _ _ _ _ us hl=>by obtain⟨u0,rfl⟩:=us1 hl;rfl
 have m23:=PySem.W.mg_of X G A23.ns
 have b24:=A24.fn.binds (ps:=["one","other"]) fun _ _ _ _ _ _ us hl=>by obtain⟨u0,u1,rfl⟩:=us2 hl;rfl
 have m24:=PySem.W.mg_of X G A24.ns
 have b25:=A25.fn.binds (ps:=["row"]) fun _ _ _ _ _ _ us hl=>by obtain⟨u0,rfl⟩:=us1 hl;rfl
 have m25:=PySem.W.mg_of X G A25.ns
 have b26:=A26.fn.binds (ps:=["k"]) fun _ _ _ _ _ _ us hl=>by obtain⟨u0,rfl⟩:=us1 hl;rfl
 have m26:=PySem.W.mg_of X G A26.ns
 have b27:=A27.fn.binds (ps:=["_law_left_here"]) fun _ _ _ _ _ _ us hl=>by obtain⟨u0,rfl⟩:=us1 hl;rfl
 have m27:=PySem.W.mg_of X G A27.ns
 have b28:=A28.fn.binds (ps:=["_law_left_here","_law_net_here","_law_runs_here"]) fun _ _ _ _ _ _ us hl=>by obtain⟨u0,u1,u2,rfl⟩:=us3 hl;rfl
 have m28:=PySem.W.mg_of X G A28.ns
 have b29:=A29.fn.binds (ps:=["_law_net_here","_law_runs_here"]) fun _ _ _ _ _ _ us hl=>by obtain⟨u0,u1,rfl⟩:=us2 hl;rfl
 have m29:=PySem.W.mg_of X G A29.ns
 have T:Txt K mg C:=⟨⟨pg,hd,po,sa⟩,na0,na1,na2,na3,na4,PySem.W.mg_of X G aC⟩
 have MT:Mk K C g1:=⟨mk,B1.mt.at_,B1.mt.fn,kc⟩
 have q1:=B1.fn.binds (ps:=["self","net"]) fun _ _ _ _ _ _ us hl=>by obtain⟨u0,u1,rfl⟩:=us2 hl;rfl
 have q2:=B2.fn.binds (ps:=["self","lane"]) fun _ _ _ _ _ _ us hl=>by obtain⟨u0,u1,rfl⟩:=us2 hl;rfl
 have q3:=B3.fn.binds (ps:=["self","ball"]) fun _ _ _ _ _ _ us hl=>by obtain⟨u0,u1,rfl⟩:=us2 hl;rfl
 have q4:=B4.fn.binds (ps:=["self","end"]) fun _ _ _ _ _ _ us hl=>by obtain⟨u0,u1,rfl⟩:=us2 hl;rfl
 obtain⟨oc,od,kV,doc,pm,an,cdv,ct,osl,ed,_,_⟩:=id A30.fn.ex
 refine⟨d30,fun s v=>by rw[ed];exact .of_eq rfl,fun base _ _=>?_⟩
 have U1:Use l.prog w K mg base "_law_cell_at" ["_law_script","_law_k"] 1 (zfr K) f1 d1:=⟨ziT A1.fn M,b1,A1.fn.kp,m1⟩
 have U2:Use l.prog w K mg base "_law_left" ["_law_script","_law_k"] 2 (zfp K) f2 d2:=⟨ziR A2.fn M zd U1,b2,A2.fn.kp,m2⟩
 have U3:Use l.prog w K mg base "_law_pick" ["_law_left_here","_law_many"] 1 zbg f3 d3:=⟨ziO A3.fn,b3,A3.fn.kp,m3⟩
 have U4:Use l.prog w K mg base "_law_of" ["_law_left_here","_law_some"] 2 spOf f4 d4:=⟨zkv A4.fn M U3,b4,A4.fn.kp,m4⟩
 have U5:Use l.prog w K mg base "_law_placed" ["_law_left_here","_law_some"] 2 zcl f5 d5:=⟨zfW A5.fn M U3,b5,A5.fn.kp,m5⟩
 have U6:Use l.prog w K mg base "_law_net" ["_law_left_here","_law_lanes_here","_law_most"] 3 zhM f6 d6:=⟨FnOk.any 100 fun m hm=>zjM m hm A6.fn M U3 U4 U5,b6,A6.fn.kp,m6⟩
 have U7:Use l.prog w K mg base "_law_lanes" ["_law_left_here"] 3 zdx f7 d7:=⟨zhf A7.fn M U4,b7,A7.fn.kp,m7⟩
 have U12:Use l.prog w K mg base "is_whole" ["thing"] 1 (zds K) f12 d12:=⟨zha A12.fn M,b12,A12.fn.kp,m12⟩
 have U13:Use l.prog w K mg base "is_below" ["thing","bound"] 2 (zcn K) f13 d13:=⟨zhh A13.fn M U12,b13,A13.fn.kp,m13⟩
 have U14:Use l.prog w K mg base "next_fork" ["net","lane","number"] 1 zd8 f14 d14:=⟨ziP A14.fn M,b14,A14.fn.kp,m14⟩
 have U15:Use l.prog w K mg base "end_of" ["net","lane"] 1 zik f15 d15:=⟨zjO A15.fn,b15,A15.fn.kp,m15⟩
 have W1:UseM l.prog w K mg base C "__init__" ["self","net"] 1 (zdu C) g1 e1:=⟨zhc B1.fn M T,q1,B1.mt⟩
 have W2:UseM l.prog w K mg base C "start" ["self","lane"] 3 (zcj C) g2 e2:=⟨zfV B2.fn M T U13 U14,q2,B2.mt⟩
 have W4:UseM l.prog w K mg base C "number_at" ["self","end"] 1 (zbz C) g4 e4:=⟨zeJ B4.fn M T,q4,B4.mt⟩
 have W3:UseM l.prog w K mg base C "step" ["self","ball"] 3 (zdt C) g3 e3:=⟨zhb B3.fn M T U13 U14 U15 W4,q3,B3.mt⟩
 have U16:Use l.prog w K mg base "layers" ["net"] 1 zcm f16 d16:=⟨zfX A16.fn M,b16,A16.fn.kp,m16⟩
 have U17:Use l.prog w K mg base "plain" ["net"] 2 zdw f17 d17:=⟨zhe A17.fn M U16,b17,A17.fn.kp,m17⟩
 have U18:Use l.prog w K mg base "power_of_two" ["many"] 1 zij f18 d18:=⟨zjL A18.fn M,b18,A18.fn.kp,m18⟩
 have U19:Use l.prog w K mg base "row_of" ["k"] 2 zck f19 d19:=⟨zhd A19.fn M U18,b19,A19.fn.kp,m19⟩
 have U20:Use l.prog w K mg base "net_of" ["row","made"] 3 zaX f20 d20:=⟨zeK A20.fn M U17,b20,A20.fn.kp,m20⟩
 have U21:Use l.prog w K mg base "by_turns" ["one","other"] 1 spBy f21 d21:=⟨zkw A21.fn M,b21,A21.fn.kp,m21⟩
 have U22:Use l.prog w K mg base "tree_of" ["row"] 6 zby f22 d22:=⟨zeI A22.fn M U21 b22 m22,b22,A22.fn.kp,m22⟩
 have U23:Use l.prog w K mg base "tree" ["k"] 7 zfn f23 d23:=⟨ziM A23.fn U19 U22 U20,b23,A23.fn.kp,m23⟩
 have U24:Use l.prog w K mg base "merger_of" ["one","other"] 6 zaA f24 d24:=⟨zdJ A24.fn M U21 b24 m24,b24,A24.fn.kp,m24⟩
 have U25:Use l.prog w K mg base "stairway_of" ["row"] 11 za9 f25 d25:=⟨zdI A25.fn M U24 b25 m25,b25,A25.fn.kp,m25⟩
 have U26:Use l.prog w K mg base "stairway" ["k"] 12 za8 f26 d26:=⟨zdH A26.fn U19 U25 U20,b26,A26.fn.kp,m26⟩
 have U8:Use l.prog w K mg base "_law_runs" ["_law_left_here","_law_net_here","_law_most"] 3 zfo f8 d8:=⟨ziN A8.fn M U3 U4,b8,A8.fn.kp,m8⟩
 have U10:Use l.prog w K mg base "ran" ["net","runs"] 4 zdv f10 d10:=⟨zjK A10.fn M T MT W1 W2 W3,b10,A10.fn.kp,m10⟩
 have U9:Use l.prog w K mg base "_law_ran" ["_law_net_here","_law_runs_here"] 1 zdv f9 d9:=⟨ziQ A9.fn M M2,b9,A9.fn.kp,m9⟩
 have U11:Use l.prog w K mg base "crossed" ["net","runs"] 5 zba f11 d11:=⟨zhg A11.fn M U10,b11,A11.fn.kp,m11⟩
 have U29:Use l.prog w K mg base "_law_due" ["_law_net_here","_law_runs_here"] 2 zba f29 d29:=⟨ziS A29.fn M U9,b29,A29.fn.kp,m29⟩
 have U27:Use l.prog w K mg base "_law_any" ["_law_left_here"] 13 zil f27 d27:=⟨zjP A27.fn U3 U4 U26 U23 U6 U7,b27,A27.fn.kp,m27⟩
 have U28:Use l.prog w K mg base "_law_chased" ["_law_left_here","_law_net_here","_law_runs_here"] 2 zfq f28 d28:=⟨zfY A28.fn M U3 U9,b28,A28.fn.kp,m28⟩
 exact zjN A30.fn M M3 U2 U27 U28 U8 U29 U11
theorem walk {l:PySem.W.OpenLaw}{q:Program}{loose:List Str}{XP:(Str→Option Value)→Heap→Prop}{YP:World→Heap→Prop}{d:DefRec}{K:Params→PySem.W.Frag}(hn:l.most=some 63) (hdf:d.params.defaults=[])
  (hY:∀ (w:World) (h:Heap),YP w h→(K w.params).In h)
  (F:∀ (w:World) (mg:Str→Option Value) (fa:Addr) (h:Heap),(K w.params).In h→h.Ns mainGlobals mg→mg d.name=some (.ref fa) →
   ∃ fd:FuncData,(∀ (s:Shared) (u:Value),BindsTo s fd ⟨[u],[]⟩ [("_law_script",u)])∧∀ base:Heap,(K w.params).In base→base.Ns mainGlobals mg→FnOk l.prog w (K w.params) mg base CX0 14 fa fd ["_law_script"] (zgX (K w.params))) :
  PySem.W.WalkO q loose XP YP l.row.toRowW d [] (fun f vs=>PySem.call f vs) :=
 L2.zgS (n:=63) (k:=14) (x:="_law_script") (CX:=CX0) (sp:=zgX) hn (by decide) hdf ⟨rfl,by decide,by decide,rfl⟩ hY F (fun _ _ a ns hl _ hS=>⟨a,ns,rfl,hS,hl,fun _=>rfl⟩) fun _ _ _ _ z=>z
end K98
theorem PySem.W.Fast.tw2553941641607223527:True:=trivial
theorem PySem.W.Fast.tw4811471387993499028:True:=trivial
theorem PySem.W.Fast.tw11185289579642370585:True:=trivial
theorem PySem.W.Fast.tw6915333503606979747:True:=trivial
theorem PySem.W.Fast.tw12080236871796733405:True:=trivial
theorem PySem.W.Fast.tw269923596875957492:True:=trivial
theorem PySem.W.Fast.tw10376424901137692041:True:=trivial
theorem PySem.W.Fast.tw14925056916540460203:True:=trivial
theorem PySem.W.Fast.tw12116263563384336451:True:=trivial
theorem PySem.W.Fast.tw5336111451731507806:True:=trivial
theorem PySem.W.Fast.tw5603618292354381292:True:=trivial
theorem PySem.W.Fast.tw18252115781316466943:True:=trivial
theorem PySem.W.Fast.tw16715535505701057173:True:=trivial
theorem PySem.W.Fast.tw13652465537605066722:True:=trivial
open PySem PySem.W PyProof.Rows
set_option maxRecDepth 100000 in
set_option maxHeartbeats 0 in
theorem PySem.Challenge.cw_stairlanes_k98_numbers_that_cross_holds : PySem.Challenge.rw_stairlanes_k98_numbers_that_cross.Holds := by
 w_on;o_law;k_head;(case hw=>w_witness2)
 k_fill
 refine K98.walk (l:=PySem.Challenge.rw_stairlanes_k98_numbers_that_cross) rfl rfl (fun w h Y=>PySem.W.kIn_of Y) ?F
 case F =>
  intro w mg fa h KX G hmg
  refine' K98.zka KX G hmg (K98.zaq ?a1 ?l1 ?c1 ?k1) (K98.zaq ?a2 ?l2 ?c2 ?k2) (K98.zaq ?a3 ?l3 ?c3 ?k3) (K98.zaq ?a4 ?l4 ?c4 ?k4) (K98.zaq ?a5 ?l5 ?c5 ?k5) (K98.zaq ?a6 ?l6 ?c6 ?k6) (K98.zaq ?a7 ?l7 ?c7 ?k7) (K98.zaq ?a8 ?l8 ?c8 ?k8) (K98.zaq ?a9 ?l9 ?c9 ?k9) (K98.zaq ?a10 ?l10 ?c10 ?k10) (K98.zaq ?a11 ?l11 ?c11 ?k11) (K98.zaq ?a12 ?l12 ?c12 ?k12) (K98.zaq ?a13 ?l13 ?c13 ?k13) (K98.zaq ?a14 ?l14 ?c14 ?k14) (K98.zaq ?a15 ?l15 ?c15 ?k15) (K98.zaq ?a16 ?l16 ?c16 ?k16) (K98.zaq ?a17 ?l17 ?c17 ?k17) (K98.zaq ?a18 ?l18 ?c18 ?k18) (K98.zaq ?a19 ?l19 ?c19 ?k19) (K98.zaq ?a20 ?l20 ?c20 ?k20) (K98.zaq ?a21 ?l21 ?c21 ?k21) (K98.zaq ?a22 ?l22 ?c22 ?k22) (K98.zaq ?a23 ?l23 ?c23 ?k23) (K98.zaq ?a24 ?l24 ?c24 ?k24) (K98.zaq ?a25 ?l25 ?c25 ?k25) (K98.zaq ?a26 ?l26 ?c26 ?k26) (K98.zaq ?a27 ?l27 ?c27 ?k27) (K98.zaq ?a28 ?l28 ?c28 ?k28) (K98.zaq ?a29 ?l29 ?c29 ?k29) (K98.zaq ?a30 ?l30 ?c30 ?k30) ?z1 ?z2 ?z3 ?z4 ?z5 ?z6 ?z7 ?z8 ?z9 ?z10 ?z11 ?z12 ?z13 ?z14 ?z15 ?z16 ?z17 ?z18 ?aC (K98.zcw ?a_1 ?i_1 ?l_1 ?c_1 ?k_1) (K98.zcw ?a_2 ?i_2 ?l_2 ?c_2 ?k_2) (K98.zcw ?a_3 ?i_3 ?l_3 ?c_3 ?k_3) (K98.zcw ?a_4 ?i_4 ?l_4 ?c_4 ?k_4) ?pg ?hd ?po ?sa ?mk ?kc ?na0 ?na1 ?na2 ?na3 ?na4 ?zd
  (case a1=>k_is);(case l1=>k_is);(case c1=>k_is);(case k1=>k_is)
  (case a2=>k_is);(case l2=>k_is);(case c2=>k_is);(case k2=>k_is)
  (case a3=>k_is);(case l3=>k_is);(case c3=>k_is);(case k3=>k_is)
  (case a4=>k_is);(case l4=>k_is);(case c4=>k_is);(case k4=>k_is)
  (case a5=>k_is);(case l5=>k_is);(case c5=>k_is);(case k5=>k_is)
  (case a6=>k_is);(case l6=>k_is);(case c6=>k_is);(case k6=>k_is)
  (case a7=>k_is);(case l7=>k_is);(case c7=>k_is);(case k7=>k_is)
  (case a8=>k_is);(case l8=>k_is);(case c8=>k_is);(case k8=>k_is)
  (case a9=>k_is);(case l9=>k_is);(case c9=>k_is);(case k9=>k_is)
  (case a10=>k_is);(case l10=>k_is);(case c10=>k_is);(case k10=>k_is)
  (case a11=>k_is);(case l11=>k_is);(case c11=>k_is);(case k11=>k_is)
  (case a12=>k_is);(case l12=>k_is);(case c12=>k_is);(case k12=>k_is)
  (case a13=>k_is);(case l13=>k_is);(case c13=>k_is);(case k13=>k_is)
  (case a14=>k_is);(case l14=>k_is);(case c14=>k_is);(case k14=>k_is)
  (case a15=>k_is);(case l15=>k_is);(case c15=>k_is);(case k15=>k_is)
  (case a16=>k_is);(case l16=>k_is);(case c16=>k_is);(case k16=>k_is)
  (case a17=>k_is);(case l17=>k_is);(case c17=>k_is);(case k17=>k_is)
  (case a18=>k_is);(case l18=>k_is);(case c18=>k_is);(case k18=>k_is)
  (case a19=>k_is);(case l19=>k_is);(case c19=>k_is);(case k19=>k_is)
  (case a20=>k_is);(case l20=>k_is);(case c20=>k_is);(case k20=>k_is)
  (case a21=>k_is);(case l21=>k_is);(case c21=>k_is);(case k21=>k_is)
  (case a22=>k_is);(case l22=>k_is);(case c22=>k_is);(case k22=>k_is)
  (case a23=>k_is);(case l23=>k_is);(case c23=>k_is);(case k23=>k_is)
  (case a24=>k_is);(case l24=>k_is);(case c24=>k_is);(case k24=>k_is)
  (case a25=>k_is);(case l25=>k_is);(case c25=>k_is);(case k25=>k_is)
  (case a26=>k_is);(case l26=>k_is);(case c26=>k_is);(case k26=>k_is)
  (case a27=>k_is);(case l27=>k_is);(case c27=>k_is);(case k27=>k_is)
  (case a28=>k_is);(case l28=>k_is);(case c28=>k_is);(case k28=>k_is)
  (case a29=>k_is);(case l29=>k_is);(case c29=>k_is);(case k29=>k_is)
  (case a30=>k_is);(case l30=>k_is);(case c30=>k_is);(case k30=>k_is)
  (case z1=>k_is)
  (case z2=>k_is)
  (case z3=>k_is)
  (case z4=>k_is)
  (case z5=>k_is)
  (case z6=>k_is)
  (case z7=>k_is)
  (case z8=>k_is)
  (case z9=>k_is)
  (case z10=>k_is)
  (case z11=>k_is)
  (case z12=>k_is)
  (case z13=>k_is)
  (case z14=>k_is)
  (case z15=>k_is)
  (case z16=>k_is)
  (case z17=>k_is)
  (case z18=>k_is)
  (case aC=>k_is)
  (case a_1=>k_is);(case i_1=>k_is);(case l_1=>k_is);(case c_1=>k_is);(case k_1=>k_is)
  (case a_2=>k_is);(case i_2=>k_is);(case l_2=>k_is);(case c_2=>k_is);(case k_2=>k_is)
  (case a_3=>k_is);(case i_3=>k_is);(case l_3=>k_is);(case c_3=>k_is);(case k_3=>k_is)
  (case a_4=>k_is);(case i_4=>k_is);(case l_4=>k_is);(case c_4=>k_is);(case k_4=>k_is)
  (case pg=>k_is);(case hd=>k_is);(case po=>k_is);(case sa=>k_is);(case mk=>k_is);(case kc=>k_is)
  (case na0=>k_is)
  (case na1=>k_is)
  (case na2=>k_is)
  (case na3=>k_is)
  (case na4=>k_is)
  (case zd=>k_is)
