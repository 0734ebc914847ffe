import PyProof.Rows.All
import Wide.All
import OpenK.AllK
import Wide.FinOn
import Lean
import PyProof.EqAt
import PyProof.EqKinds
import PyProof.TupleCall
import PyProof.NeKinds
import KE.KIntText
import PyProof.TupleOfStr
import KE.KSortTup
import PyProof.ReprRoads
import KE.KItemsList
import PyProof.Rows.Range3
import PyProof.AutoIntG2
import PyProof.NeData
import KE.KTryMore
import PyProof.P3In
import PyProof.Rows.SortRev
import PyProof.MeetsDict
import PyProof.DictKinds
import PyProof.StrBlockL
import PyProof.StrLawsTight
import PyProof.StrWalks
import PyProof.SliceStr2
import PyProof.StrLawsIdx
import PyProof.Rows.ReprOcc
import PyProof.Rows.StrBin
import PyProof.CollectIter
import PyProof.Rows.FStr
import PySem.Challenge.RW_stairlanes_k93_nets_by_plans
set_option Elab.async false
set_option linter.all false
set_option maxRecDepth 100000
namespace L2
open PySem PySem.Spec PyProof.Rows
abbrev Key:=Sum Int Str
def zj3:Key→Value→Bool
  | .inl k,v=>Value.isInt k v
  | .inr x,v=>Value.isStrOf x v
def keyH (w:World):Key→Int
  | .inl k=>hashInt k
  | .inr x=>hashStr w x
theorem zat:∀ {k:Key}{v:Value},zj3 k v=true→(∃ i t,k=Sum.inl i∧v=Value.int i t)∨(∃ x t,k=Sum.inr x∧v=Value.str x t)
  | .inl i,v,h=>by
    obtain⟨t,e⟩:=Value.isInt_shape (k:=i) (v:=v) h
    exact .inl ⟨i,t,rfl,e⟩
  | .inr x,v,h=>by
    obtain⟨t,e⟩:=Value.isStrOf_shape (x:=x) (v:=v) h
    exact .inr ⟨x,t,rfl,e⟩
theorem zj2 (a b:Int):decide ((Sum.inl a:Key)=Sum.inl b)=(a == b):=by
  by_cases e:a=b
  · subst e;simp
  · have h:¬(Sum.inl a:Key)=Sum.inl b:=fun q=>e (Sum.inl.inj q)
    rw[decide_eq_false h]
    exact(beq_eq_false_iff_ne.mpr e).symm
theorem zjZ (a b:Str):decide ((Sum.inr a:Key)=Sum.inr b)=decide (a=b):=by
  by_cases e:a=b
  · subst e;simp
  · have h:¬(Sum.inr a:Key)=Sum.inr b:=fun q=>e (Sum.inr.inj q)
    rw[decide_eq_false h,decide_eq_false e]
theorem zj1 (a:Int) (b:Str):decide ((Sum.inl a:Key)=Sum.inr b)=false:=decide_eq_false (fun q=>nomatch q)
theorem zj0 (a:Str) (b:Int):decide ((Sum.inr a:Key)=Sum.inl b)=false:=decide_eq_false (fun q=>nomatch q)
def zeS (prog:Program) (w:World):PySem.KeyKind prog w Key where
  is:=zj3
  hash:=keyH w
  inj:=fun v a b ha hb=>by
    rcases zat ha with ⟨i,t,rfl,rfl⟩|⟨x,t,rfl,rfl⟩
    · rcases zat hb with ⟨j,u,rfl,e⟩|⟨y,u,rfl,e⟩
      · injection e with e1 _;rw[e1]
      · exact nomatch e
    · rcases zat hb with ⟨j,u,rfl,e⟩|⟨y,u,rfl,e⟩
      · exact nomatch e
      · injection e with e1 _;rw[e1]
  byValue:=fun k v h=>by
    rcases zat h with ⟨i,t,rfl,rfl⟩|⟨x,t,rfl,rfl⟩<;>rfl
  pyHash:=fun hv h=>by
    rcases zat hv with ⟨i,t,rfl,rfl⟩|⟨x,t,rfl,rfl⟩
    · exact wpAny_pyHash_int h
    · exact wpAny_pyHash_str h
  eqBool:=fun hu hv h=>by
    rcases zat hu with ⟨i,t,rfl,rfl⟩|⟨x,t,rfl,rfl⟩
    · rcases zat hv with ⟨j,u,rfl,rfl⟩|⟨y,u,rfl,rfl⟩
      · rw[zj2]at h;exact wpAny_eqBool_int h
      · rw[zj1]at h;exact SeqAt.EqAt.int_str i t y u _ _ _ _ h
    · rcases zat hv with ⟨j,u,rfl,rfl⟩|⟨y,u,rfl,rfl⟩
      · rw[zj0]at h;exact SeqAt.EqAt.str_int x t j u _ _ _ _ h
      · rw[zjZ]at h;exact wpAny_eqBool_str h
  «strs»:=fun k x t v h=>by
    rcases zat h with ⟨i,u,rfl,e⟩|⟨y,u,rfl,e⟩
    · exact nomatch e
    · injection e with e1 _
      subst e1
      cases v<;>rfl
inductive V where
  | non|bl (b:Bool)|int (i:Int)|str (x:Str)|byt (b:Array UInt8)|flt (b:UInt64)|ref (a:Addr)|ty (n:String)
  deriving DecidableEq
def RelV:V→Value→Prop
  | .non,u=>u=Value.none
  | .bl b,u=>u=Value.bool b
  | .int i,u=>∃ t,u=Value.int i t
  | .str x,u=>∃ t,u=Value.str x t
  | .byt b,u=>∃ t,u=Value.bytes b t
  | .flt b,u=>∃ t,u=Value.float b t
  | .ref a,u=>u=Value.ref a
  | .ty n,u=>u=Value.type n
abbrev Vals:List V→List Value→Prop:=Paired RelV
theorem Vals.length {xs:List V}{us:List Value}(r:Vals xs us):xs.length=us.length:=Paired.length r
theorem Vals.get:∀ {xs:List V}{us:List Value}{i:Nat}{x:V},Vals xs us→xs[i]?=some x→∃ u,us[i]?=some u∧RelV x u
  | _,_,_,_,.nil,e=>by simp at e
  | _,_,0,_,.cons r _,e=>by simp at e;subst e;exact⟨_,rfl,r⟩
  | _,_,i+1,x,.cons _ t,e=>by
    obtain⟨u,h1,h2⟩:=Vals.get (i:=i) (x:=x) t (by simpa using e)
    exact⟨u,by simpa using h1,h2⟩
theorem Vals.set {x:V}{u:Value}(r:RelV x u):∀ {xs:List V}{us:List Value}(i:Nat),Vals xs us→Vals (xs.set i x) (us.set i u)
  | _,_,_,.nil=>.nil
  | _,_,0,.cons _ t=>.cons r t
  | _,_,i+1,.cons q t=>.cons q (Vals.set r i t)
theorem Vals.append:∀ {xs ys:List V}{us ws:List Value},Vals xs us→Vals ys ws→Vals (xs++ys) (us++ws)
  | _,_,_,_,.nil,s=>s
  | _,_,_,_,.cons r t,s=>.cons r (Vals.append t s)
theorem Vals.take:∀ {xs:List V}{us:List Value}(n:Nat),Vals xs us→Vals (xs.take n) (us.take n)
  | _,_,0,_=>.nil
  | _,_,_+1,.nil=>.nil
  | _,_,n+1,.cons r t=>.cons r (Vals.take n t)
theorem Vals.drop:∀ {xs:List V}{us:List Value}(n:Nat),Vals xs us→Vals (xs.drop n) (us.drop n)
  | _,_,0,r=>r
  | _,_,_+1,.nil=>.nil
  | _,_,n+1,.cons _ t=>Vals.drop n t
def RelO:Option V→Option Value→Prop
  | some v,some u=>RelV v u
  | none,none=>True
  | _,_=>False
def KV {κ:Type}:List (κ × V)→List (κ × Value)→Prop:=Paired fun (p:κ × V) (q:κ × Value)=>p.1=q.1∧RelV p.2 q.2
def kV:Key→V
  | .inl i=>.int i
  | .inr x=>.str x
inductive HO where
  | lst (xs:List V)
  | tup (xs:List V)
  | dK (kvs:List (Key × V))|dT (kvs:List (List Key × V))
  | set (S:Int→Bool) (n:Nat)
  | ins (C dx:Addr) (fs:List (Str × V))
  | own (x:Addr)
  | xd (fs:List (Str × V))
  | met (f x:Addr)
  | rng (lo hi:Int)
  | frz (o:Obj) (u:HO)
  | tbl (ps:Array Value)
  | ext (φ:Heap→Prop)
abbrev Hp:=Addr→Option HO
def upd (H:Hp) (a:Addr) (o:HO):Hp:=fun b=>if b=a then some o else H b
theorem zac {H:Hp}{a:Addr}{o:HO}:upd H a o a=some o:=by unfold upd;rw[if_pos rfl]
theorem zag {H:Hp}{a b:Addr}{o:HO}(h:b≠a):upd H a o b=H b:=by unfold upd;rw[if_neg h]
theorem zad {H:Hp}{a b:Addr}{o:HO}(h:H a=some o) (h':H b=none):a≠b:=by
  intro e;subst e;rw[h]at h';cases h'
def TupX (h:Heap) (a:Addr) (items:Array Value):Prop:=∃ o,h.get? a=some o∧o.cls=.type "tuple"∧∃ n,o.data=.seq items n∧o.dict=none
theorem TupX.tup {h:Heap}{a:Addr}{items:Array Value}(x:TupX h a items):IsTup h a items:=let ⟨o,e,c,n,d,_⟩:=x;⟨o,e,c,n,d⟩
theorem TupX.new (h:Heap) (items:Array Value):TupX (h.push { cls:=.type "tuple",data:=.seq items }) h.objs.size items:=⟨_,Heap.get?_push_size _ rfl,rfl,0,rfl,rfl⟩
section
variable (P:Program) (w:World)
def ObjOk (H:Hp) (h:Heap) (a:Addr):HO→Prop
  | .lst xs=>xs.length≤sizeLine∧∃ (its:List Value) (n:Nat),Vals xs its∧h.get? a=some { cls:=.type "list",data:=.seq its.toArray n }
  | .tup xs=>xs.length≤sizeLine∧∃ its:List Value,Vals xs its∧TupX h a its.toArray
  | .dK kvs=>kvs.length≤sizeLine∧(a == sysModules)=false∧∃ vs,KV kvs vs∧h.DictOf (zeS P w) a vs
  | .dT kvs=>kvs.length≤sizeLine∧(a == sysModules)=false∧∃ xs:List (List Key × Addr × Value),
      Paired (fun (p:List Key × V) (q:List Key × Addr × Value)=>p.1=q.1∧H q.2.1=some (.tup (p.1.map kV))∧RelV p.2 q.2.2) kvs xs ∧
      ∃ o es ep,h.get? a=some o∧o.ExactDict∧o.data=.dict es ep∧es.toList=xs.map (entryOfKey (tupleKind (zeS P w)))∧(xs.map (·.1)).Nodup
  | .set S n=>h.SetOf (intKind P w) a S n
  | .ins C dx fs=>H dx=some (.own a)∧fs.length≤1000∧dx≠a∧h.get? a=some (PySem.W.instObj C dx) ∧
      ∃ mA,h.Ns1 dx mA∧(∀ f,RelO (fs.lookup f) (mA f))∧PySem.Within mA (fs.map (·.1))
  | .own _=>∃ o,h.get? a=some o
  | .xd fs=>∃ mA,h.Ns1 a mA∧∀ f,RelO (fs.lookup f) (mA f)
  | .rng lo hi=>∃ t u v,h.get? a=some { cls:=.type "range",data:=.fields #[.int lo t,.int hi u,.int 1 v] }
  | .frz o u=>h.get? a=some o∧ObjOk H h a u
  | .tbl ps=>h.get? a=some { cls:=.none,data:=.fields ps }
  | .met f x=>h.get? a=some (PySem.W.methodObj (.ref f) (.ref x))
  | .ext φ=>φ h∧(∃ o,h.get? a=some o)∧∀ h1 h2:Heap,φ h1→(∀ o,h1.get? a=some o→h2.get? a=some o)→φ h2
def HOk (H:Hp) (h:Heap):Prop:=∀ a o,H a=some o→ObjOk P w H h a o
end
section
variable {P:Program}{w:World}{H H':Hp}{h h':Heap}{a:Addr}{o:HO}
theorem ObjOk.lt (x:ObjOk P w H h a o):a<h.objs.size:=by
  cases o with
  | lst xs=>obtain⟨_,_,_,_,e⟩:=x;exact Heap.lt_size e
  | tup xs=>obtain⟨_,_,_,p⟩:=x;exact p.tup.lt
  | dK kvs=>obtain⟨_,_,_,_,o,_,_,e,_⟩:=x;exact Heap.lt_size e
  | dT kvs=>obtain⟨_,_,_,_,o,_,_,e,_⟩:=x;exact Heap.lt_size e
  | set S n=>obtain⟨o,_,_,_,e,_⟩:=x;exact Heap.lt_size e
  | ins C dx fs=>obtain⟨_,_,_,e,_⟩:=x;exact Heap.lt_size e
  | own y=>obtain⟨_,e⟩:=x;exact Heap.lt_size e
  | xd fs=>obtain⟨_,⟨_,_,_,e,_⟩,_⟩:=x;exact Heap.lt_size e
  | rng lo hi=>obtain⟨_,_,_,e⟩:=x;exact Heap.lt_size e
  | frz ob u=>obtain⟨e,_⟩:=x;exact Heap.lt_size e
  | tbl ps=>exact Heap.lt_size (show h.get? a=some _ from x)
  | met f y=>exact Heap.lt_size (show h.get? a=some _ from x)
  | ext φ=>obtain⟨_,⟨_,e⟩,_⟩:=x;exact Heap.lt_size e
theorem Paired.mapP {α β:Type}{F G:α→β→Prop}:∀ {l₁:List α}{l₂:List β},Paired F l₁ l₂→(∀ a b,F a b→G a b)→Paired G l₁ l₂
  | _,_,.nil,_=>.nil
  | _,_,.cons r t,f=>.cons (f _ _ r) (Paired.mapP t f)
theorem ObjOk.stay (x:ObjOk P w H h a o) (k:∀ b u,(b=a∨H b=some (.own a))→h.get? b=some u→h'.get? b=some u)
    (ho:∀ b,H b=some (.own a)→H' b=some (.own a)) (ht:∀ b xs,H b=some (.tup xs)→H' b=some (.tup xs)):ObjOk P w H' h' a o:=by
  induction o with
  | lst xs=>obtain⟨z,its,n,r,e⟩:=x;exact⟨z,its,n,r,k _ _ (.inl rfl) e⟩
  | tup xs=>obtain⟨z,its,r,ob,e,c⟩:=x;exact⟨z,its,r,ob,k _ _ (.inl rfl) e,c⟩
  | dK kvs=>obtain⟨z,y,vs,r,ob,es,ep,e,c⟩:=x;exact⟨z,y,vs,r,ob,es,ep,k _ _ (.inl rfl) e,c⟩
  | dT kvs =>
    obtain⟨z,y,xs,r,ob,es,ep,e,c⟩:=x
    exact⟨z,y,xs,Paired.mapP r fun p q z=>⟨z.1,ht _ _ z.2.1,z.2.2⟩,ob,es,ep,k _ _ (.inl rfl) e,c⟩
  | set S n=>obtain⟨ob,es,ep,t,e,c⟩:=x;exact⟨ob,es,ep,t,k _ _ (.inl rfl) e,c⟩
  | ins C dx fs =>
    obtain⟨d,z,ne,e,mA,⟨od,es,ep,e2,c⟩,r⟩:=x
    exact⟨ho _ d,z,ne,k _ _ (.inl rfl) e,mA,⟨od,es,ep,k _ _ (.inr d) e2,c⟩,r⟩
  | own y=>obtain⟨ob,e⟩:=x;exact⟨ob,k _ _ (.inl rfl) e⟩
  | xd fs=>obtain⟨mA,⟨od,es,ep,e,c⟩,r⟩:=x;exact⟨mA,⟨od,es,ep,k _ _ (.inl rfl) e,c⟩,r⟩
  | rng lo hi=>obtain⟨t,u,v,e⟩:=x;exact⟨t,u,v,k _ _ (.inl rfl) e⟩
  | frz ob u ih=>obtain⟨e,q⟩:=x;exact⟨k _ _ (.inl rfl) e,ih q⟩
  | tbl ps =>
    have e:h.get? a=some { cls:=.none,data:=.fields ps }:=x
    show h'.get? a=some { cls:=.none,data:=.fields ps }
    exact k a _ (.inl rfl) e
  | met f y =>
    have e:h.get? a=some (PySem.W.methodObj (.ref f) (.ref y)):=x
    show h'.get? a=some (PySem.W.methodObj (.ref f) (.ref y))
    exact k a _ (.inl rfl) e
  | ext φ=>obtain⟨p,⟨o,e⟩,st⟩:=x;exact⟨st _ _ p fun o q=>k _ _ (.inl rfl) q,⟨o,k _ _ (.inl rfl) e⟩,st⟩
theorem HOk.lt (x:HOk P w H h) (e:H a=some o):a<h.objs.size:=(x a o e).lt
theorem HOk.fresh (x:HOk P w H h) (e:h.objs.size≤a):H a=none:=by
  cases q:H a with
  | none=>rfl
  | some u=>exact absurd (Nat.lt_of_lt_of_le (x.lt q) e) (Nat.lt_irrefl _)
theorem HOk.kept (x:HOk P w H h) (k:∀ b u,h.get? b=some u→h'.get? b=some u):HOk P w H h':=fun a o e =>
  (x a o e).stay (fun b u _ q=>k b u q) (fun _ q=>q) fun _ _ q=>q
theorem HOk.laid (x:HOk P w H h) (k:∀ b u,h.get? b=some u→h'.get? b=some u) (hp:h.objs.size≤a) (new:ObjOk P w (upd H a o) h' a o):HOk P w (upd H a o) h':=fun b u e=>by
  have hn:=x.fresh hp
  by_cases hb:b=a
  · subst hb;rw[zac]at e;cases e;exact new
  · rw[zag hb]at e
    exact(x b u e).stay (fun c v _ q=>k c v q) (fun c q=>by rw[zag (zad q hn)];exact q) fun c xs q=>by rw[zag (zad q hn)];exact q
end
def Rd (H:Hp) (a:Addr) (u:HO):Prop:=H a=some u∨∃ o,H a=some (.frz o u)
theorem Rd.ok {P:Program}{w:World}{H:Hp}{h:Heap}{a:Addr}{u:HO}(r:Rd H a u) (x:HOk P w H h):ObjOk P w H h a u:=by
  rcases r with r|⟨o,r⟩
  · exact x a u r
  · obtain⟨_,q⟩:=x a _ r
    exact q
def Mut:Option HO→Prop
  | some (.lst _)=>True
  | some (.dK _)=>True
  | some (.dT _)=>True
  | some (.set _ _)=>True
  | some (.ins _ _ _)=>True
  | some (.ext _)=>True
  | _=>False
section
variable {P:Program}{w:World}{H:Hp}{h h':Heap}{x e:Addr}{o':HO}
theorem HOk.write (ok:HOk P w H h) (mu:Mut (H x)) (he:e=x∨H e=some (.own x)) (k:∀ b u,b≠e→h.get? b=some u→h'.get? b=some u) (heo:∃ u,h'.get? e=some u)
    (new:ObjOk P w (upd H x o') h' x o'):HOk P w (upd H x o') h':=fun b u q=>by
  have nown:∀ c y,H c=some (.own y)→c≠x:=fun c y r z=>by subst z;rw[r]at mu;exact mu
  have ntup:∀ c xs,H c=some (.tup xs)→c≠x:=fun c xs r z=>by subst z;rw[r]at mu;exact mu
  by_cases hb:b=x
  · subst hb;rw[zac]at q;cases q;exact new
  · rw[zag hb]at q
    by_cases hbe:b=e
    · have q':H b=some (.own x):=by
        rcases he with z|z
        · exact absurd (hbe.trans z) hb
        · rw[hbe];exact z
      rw[q]at q';cases q'
      obtain⟨v,hv⟩:=heo
      exact⟨v,by rw[hbe];exact hv⟩
    · refine(ok b u q).stay (fun c v hc r=>k c v ?_ r) (fun c r=>by rw[zag (nown c b r)];exact r) fun c xs r=>by rw[zag (ntup c xs r)];exact r
      rcases hc with rfl|hc
      · exact hbe
      · rintro rfl
        rcases he with z|z
        · exact nown c b hc z
        · rw[hc]at z;cases z;exact hb rfl
end
structure Un (fs ex:List Addr) (H H':Hp) (h h':Heap):Prop where
  keep:∀ b o,h.get? b=some o→H b=none→b∉fs→b∉ex→h'.get? b=some o
  slot:∀ b o,h.get? b=some o→H b=none→b∈fs→b∉ex→∃ sl,h'.get? b=some { o with slots:=sl }
  free:∀ b o,h.get? b=some o→H b=none→b∉ex→H' b=none
  there:∀ b o,h.get? b=some o→b∉ex→∃ o',h'.get? b=some o'
  tups:∀ b xs,H b=some (.tup xs)→H' b=some (.tup xs)
  frzs:∀ b o u,H b=some (.frz o u)→H' b=some (.frz o u)
  tbls:∀ b ps,H b=some (.tbl ps)→∃ more,H' b=some (.tbl (ps++more))
section
variable {fs fs' ex ex':List Addr}{H H1 H2:Hp}{h h1 h2 h':Heap}{a x e:Addr}{o:HO}
theorem Un.any (u:Un fs ex H H1 h h1) {b:Addr}{ob:Obj}(q:h.get? b=some ob) (n:H b=none) (hx:b∉ex):∃ sl,h1.get? b=some { ob with slots:=sl }:=by
  by_cases hb:b∈fs
  · exact u.slot b ob q n hb hx
  · exact⟨ob.slots,u.keep b ob q n hb hx⟩
theorem Un.kept (k:∀ b u,h.get? b=some u→h'.get? b=some u):Un fs ex H H h h' :=
  ⟨fun b ob q _ _ _=>k b ob q,fun b ob q _ _ _=>⟨ob.slots,k b ob q⟩,fun _ _ _ n _=>n,fun b ob q _=>⟨ob,k b ob q⟩,fun _ _ q=>q,fun _ _ _ q=>q,fun _ ps q=>⟨#[],by rw[q];simp⟩⟩
theorem Un.refl:Un fs ex H H h h:=Un.kept fun _ _ q=>q
theorem Un.laid (k:∀ b u,h.get? b=some u→h'.get? b=some u) (hp:h.objs.size≤a) (hn:H a=none):Un fs ex H (upd H a o) h h' where
  keep:=fun b u q _ _ _=>k b u q
  slot:=fun b u q _ _ _=>⟨u.slots,k b u q⟩
  free:=fun b u q n _=>by rw[zag (Nat.ne_of_lt (Nat.lt_of_lt_of_le (Heap.lt_size q) hp))];exact n
  there:=fun b u q _=>⟨u,k b u q⟩
  tups:=fun b xs q=>by rw[zag (zad q hn)];exact q
  frzs:=fun b u xs q=>by rw[zag (zad q hn)];exact q
  tbls:=fun b ps q=>⟨#[],by rw[zag (zad q hn),q];simp⟩
theorem Un.write (mu:Mut (H x)) (he:e=x∨H e=some (.own x)) (k:∀ b u,b≠e→h.get? b=some u→h'.get? b=some u) (heo:∃ u,h'.get? e=some u):Un fs ex H (upd H x o) h h':=by
  have hx:∀ b,H b=none→b≠x:=fun b n z=>by subst z;rw[n]at mu;exact mu
  have hb:∀ b,H b=none→b≠e:=fun b n z=>by
    subst z
    rcases he with r|r
    · exact hx b n r
    · rw[n]at r;cases r
  have hm:∀ b u,H b=some u→¬ Mut (some u)→b≠x:=fun b u q nm z=>by subst z;rw[q]at mu;exact nm mu
  refine⟨fun b u q n _ _=>k b u (hb b n) q,fun b u q n _ _=>⟨u.slots,k b u (hb b n) q⟩,fun b u q n _=>by rw[zag (hx b n)];exact n,fun b u q _=>?_,
    fun b xs q=>by rw[zag (hm b _ q fun z=>z)];exact q,fun b u xs q=>by rw[zag (hm b _ q fun z=>z)];exact q,fun b ps q=>⟨#[],by rw[zag (hm b _ q fun z=>z),q];simp⟩⟩
  by_cases hbe:b=e
  · subst hbe;exact heo
  · exact⟨u,k b u hbe q⟩
end
def trk (h:Heap) (H:Hp):List Addr:=(List.range h.objs.size).filter fun a=>(H a).isSome
def hidT (h:Heap) (H:Hp):Heap:=PySem.W.hideAll h (trk h H)
theorem zg4 (h:Heap) (H:Hp):(hidT h H).objs.size=h.objs.size:=PySem.W.hideAll_size _ _
theorem zh7 {h:Heap}{H:Hp}{b:Addr}{o:Obj}(e:h.get? b=some o) (n:H b=none):(hidT h H).get? b=some o :=
  PySem.W.hideAll_get _ e fun hm=>by
    have q:(H b).isSome=true:=(List.mem_filter.mp hm).2
    rw[n]at q;simp at q
theorem zi3 {h:Heap}{H:Hp}{b:Addr}{o:Obj}(e:(hidT h H).get? b=some o):h.get? b=some o∧H b=none:=by
  have e':h.get? b=some o:=PySem.W.of_hideAll (trk h H) e
  refine⟨e',?_⟩
  cases q:H b with
  | none=>rfl
  | some x =>
    have hm:b∈trk h H:=List.mem_filter.mpr ⟨List.mem_range.mpr (Heap.lt_size e'),by simp[q]⟩
    have z:(hidT h H).get? b=none:=PySem.W.hideAll_none (trk h H) hm
    rw[z]at e;cases e
def zjv (g h:Heap) (L:Addr):List (Addr × Obj):=(List.range h.objs.size).filterMap fun a=>if a=L∨(g.get? a).isSome=true then none else (h.get? a).map fun o=>(a,o)
def rest (g h:Heap) (L d:Addr):List (Addr × Obj):=(zjv g h L).filter fun p=>decide (p.1≠d)
structure Mod (K:PySem.W.Frag) (mg:Str→Option Value) (base:Heap):Prop where
  kin:K.In base
  glob:base.Ns mainGlobals mg
  blt:∃ mb,base.Ns builtinsNs mb∧∀ x:Str,x≠"__name__"→mb x=bootBuiltins x
  nolimit:base.NoLimit
/-- the context: a def's body (or a comprehension's block) running. base: fixed through the whole law;s₀,H₀: the entry;outer: the frames whose slots others may change (a def's callers);stack: all frames that run;
   ex: iterators that were made zkA of the entry and are walked here (a comprehension's);fn: the names whose cells were made at the entry (a def: all;a comprehension's block: its own);calm: not within an except suite;pn: pins that every state bears;xe: what is wanted of an exception that leaves the code -/
structure Cx where
  prog:Program
  w:World
  K:PySem.W.Frag
  mg:Str→Option Value
  base:Heap
  A:Around
  N:List Str
  s₀:Shared
  H₀:Hp
  env:Env
  outer:List Env
  stack:List Env
  ex:List Addr
  fn:Str→Bool
  calm:Bool
  pn:List (Addr × Obj)
  xe:Value→Shared→Prop
def frs (l:List Env):List Addr:=l.filterMap (·.frame)
abbrev Cx.fs (X:Cx):List Addr:=frs X.outer
def Vis (sc:Scope) (x:Str):Prop:=sc.names.lookup x=some .local ∨ sc.names.lookup x=some .cell∨sc.names.lookup x=some .free
def Loc (sc:Scope) (x:Str):Prop:=sc.names.lookup x=some .local ∨ sc.names.lookup x=some .cell
def Look (env:Env) (h:Heap) (m:Str→Option Value) (x:Str) (u:Value):Prop :=
  (env.kindOf x=some .local ∧ m x=some u)∨((env.kindOf x=some .cell∨env.kindOf x=some .free)∧∃ c,env.cells.lookup x=some c∧h.IsCell c (some u))
structure Cx.Ok (X:Cx):Prop where
  mod:Mod X.K X.mg X.base
  kind:X.env.scope.kind=.function
  glob:X.env.globals=mainGlobals
  blt:X.env.builtins=builtinsNs
  above:X.s₀.heap.objs.size≤X.env.locals
  inj:∀ x y c,X.env.cells.lookup x=some c→X.env.cells.lookup y=some c→x=y
  has:∀ x,(X.env.kindOf x=some .cell∨X.env.kindOf x=some .free)→∃ c,X.env.cells.lookup x=some c
  cab:∀ x c,X.fn x=true→X.env.cells.lookup x=some c→X.s₀.heap.objs.size≤c
  hd:X.calm=true→X.A.handled=none
  frames:X.A.frames=some X.stack
  stk:X.stack=X.outer∨(X.stack=X.env::X.outer∧X.env.frame=some X.env.locals)
  exf:∀ b∈X.ex,b≠X.env.locals∧∀ x c,X.env.cells.lookup x=some c→c≠b
  bs:∀ b o,X.base.get? b=some o→X.s₀.heap.get? b=some o∧X.H₀ b=none
  bsz:X.base.objs.size≤X.s₀.heap.objs.size
  noex:∀ b o,X.base.get? b=some o→b∉X.ex
  exfs:∀ b∈X.ex,b∉X.fs
  funs:X.s₀.heap.FunFrames X.base X.outer
  frf:∀ b∈X.fs,X.H₀ b=none
structure Inv (X:Cx) (pins:List (Addr × Obj)) (σ:List (Option V)) (H:Hp) (s:Shared):Prop where
  ok:X.Ok
  os:s.os=X.s₀.os
  bare:AllBare s.gens
  base:Un X.fs X.ex X.H₀ H X.s₀.heap s.heap
  loc:∃ m,s.heap.Ns X.env.locals m∧∀ (i:Nat) (x:Str) (v:V),X.N[i]?=some x→σ[i]?=some (some v)→Vis X.env.scope x→∃ u,RelV v u∧Look X.env s.heap m x u
  cell:∀ x c,X.env.cells.lookup x=some c→∃ v,s.heap.IsCell c v
  free:H X.env.locals=none
  freeC:∀ x c,X.env.cells.lookup x=some c→H c=none
  pin:∀ p∈X.pn++pins,s.heap.get? p.1=some p.2∧H p.1=none∧p.1≠X.env.locals∧p.1∉X.fs∧∀ v,p.2.data≠.cell v
  hok:HOk X.prog X.w H s.heap
  len:σ.length=X.N.length
section
variable {X:Cx}{pins:List (Addr × Obj)}{σ:List (Option V)}{H H':Hp}{s:Shared}{h':Heap}
theorem Cx.Ok.nofr (ok:X.Ok) {b:Addr}{o:Obj}(e:X.base.get? b=some o):b∉X.fs:=fun hb=>by
  have:=(ok.funs.mem hb).1
  rw[e]at this;cases this
theorem Inv.bs (I:Inv X pins σ H s):∀ b o,X.base.get? b=some o→s.heap.get? b=some o∧H b=none:=fun b o e =>
  ⟨I.base.keep b o (I.ok.bs b o e).1 (I.ok.bs b o e).2 (I.ok.nofr e) (I.ok.noex b o e),I.base.free b o (I.ok.bs b o e).1 (I.ok.bs b o e).2 (I.ok.noex b o e)⟩
theorem Inv.bk (I:Inv X pins σ H s):∀ b o,X.base.get? b=some o→s.heap.get? b=some o:=fun b o e=>(I.bs b o e).1
theorem Inv.mod (I:Inv X pins σ H s):Mod X.K X.mg X.base:=I.ok.mod
theorem Inv.kIn (I:Inv X pins σ H s):X.K.In s.heap:=I.ok.mod.kin.keeps I.bk
theorem Inv.lt (I:Inv X pins σ H s):X.env.locals<s.heap.objs.size:=let ⟨_,hn,_⟩:=I.loc;hn.lt
theorem Inv.sz (I:Inv X pins σ H s):X.s₀.heap.objs.size≤s.heap.objs.size:=Nat.le_trans I.ok.above (Nat.le_of_lt I.lt)
theorem Inv.nofs (I:Inv X pins σ H s) {a:Addr}(h:s.heap.objs.size≤a):a∉X.fs:=fun hb=>by
  obtain⟨_,o,ho,_⟩:=I.ok.funs.mem hb
  exact absurd (Nat.lt_of_lt_of_le (Heap.lt_size ho) (Nat.le_trans I.sz h)) (Nat.lt_irrefl _)
theorem Inv.cne (I:Inv X pins σ H s):∀ x c,X.env.cells.lookup x=some c→c≠X.env.locals:=fun x c e z=>by
  obtain⟨v,o,ho,hd⟩:=I.cell x c e
  obtain⟨m,⟨o',es,ep,ho',hd',_⟩,_⟩:=I.loc
  rw[z,ho']at ho;cases ho;rw[hd']at hd;cases hd
theorem Inv.funs (I:Inv X pins σ H s):s.heap.FunFrames X.base X.outer:=by
  have all:∀ (l:List Env),(∀ b∈frs l,b∈X.fs)→X.s₀.heap.FunFrames X.base l→s.heap.FunFrames X.base l:=by
    intro l
    induction l with
    | nil=>intro _ _;trivial
    | cons env r ih =>
      intro hs hl
      obtain⟨hk,⟨L,o,hf,hn,ho,hd⟩,hr⟩:=hl
      have hL:L∈X.fs:=hs L (by unfold frs;rw[List.filterMap_cons,hf];exact List.mem_cons_self)
      obtain⟨sl,e⟩:=I.base.slot L o ho (I.ok.frf L hL) hL fun z=>I.ok.exfs L z hL
      exact⟨hk,⟨L,_,hf,hn,e,hd⟩,ih (fun b hb=>hs b (by unfold frs;rw[List.filterMap_cons,hf];exact List.mem_cons_of_mem _ hb)) hr⟩
  exact all X.outer (fun _ hb=>hb) I.ok.funs
theorem Inv.stack (I:Inv X pins σ H s):s.heap.FunFrames X.base X.stack:=by
  rcases I.ok.stk with e|⟨e,hf⟩
  · rw[e];exact I.funs
  · rw[e]
    obtain⟨m,hn,_⟩:=I.loc
    refine .cons (by rw[I.ok.kind];decide) hf hn ?_ I.funs
    exact Heap.get?_none_of_le (Nat.le_trans I.ok.bsz I.ok.above)
theorem Inv.stkSub (I:Inv X pins σ H s):∀ b∈frs X.stack,b∈X.env.locals::X.fs:=fun b hb=>by
  rcases I.ok.stk with e|⟨e,hf⟩
  · rw[e]at hb;exact List.mem_cons_of_mem _ hb
  · rw[e]at hb
    unfold frs at hb
    rw[List.filterMap_cons,hf]at hb
    exact hb
theorem Inv.stkFree (I:Inv X pins σ H s):∀ b∈frs X.stack,H b=none:=fun b hb=>by
  rcases List.mem_cons.mp (I.stkSub b hb) with e|hb
  · rw[e];exact I.free
  · obtain⟨_,o,ho,_⟩:=I.ok.funs.mem hb
    exact I.base.free b o ho (I.ok.frf b hb) fun z=>I.ok.exfs b z hb
theorem Inv.step {g':Array GenState}{t':Nat}{d':Drawn}{ch:List Addr}(I:Inv X pins σ H s)
    (hch:∀ b∈ch,(b∈X.ex∨X.s₀.heap.objs.size≤b)∧b≠X.env.locals∧(∀ x c,X.env.cells.lookup x=some c→c≠b)∧∀ p∈X.pn++pins,p.1≠b)
    (keep:∀ b o,b≠X.env.locals→b∉X.fs→b∉ch→s.heap.get? b=some o→H b=none→h'.get? b=some o)
    (slot:∀ b o,b≠X.env.locals→b∈X.fs→b∉ch→s.heap.get? b=some o→H b=none→∃ sl,h'.get? b=some { o with slots:=sl }) (free:∀ b o,b∉ch→s.heap.get? b=some o→H b=none→H' b=none)
    (there:∀ b o,b∉ch→s.heap.get? b=some o→∃ o',h'.get? b=some o')
    (tups:∀ b xs,H b=some (.tup xs)→H' b=some (.tup xs)) (frzs:∀ b o u,H b=some (.frz o u)→H' b=some (.frz o u)) (tbls:∀ b ps,H b=some (.tbl ps)→∃ more,H' b=some (.tbl (ps++more)))
    (ns:∀ m,s.heap.Ns X.env.locals m→h'.Ns X.env.locals m) (hok:HOk X.prog X.w H' h') (hg:AllBare g') :
    Inv X pins σ H' { s with heap:=h',gens:=g',drawn:=d',toks:=t' }:=by
  have neL:∀ b o,X.s₀.heap.get? b=some o→b≠X.env.locals:=fun b o e=>Nat.ne_of_lt (Nat.lt_of_lt_of_le (Heap.lt_size e) I.ok.above)
  have neC:∀ b o,X.s₀.heap.get? b=some o→b∉X.ex→b∉ch:=fun b o e hx hb=>by
    rcases (hch b hb).1 with z|z
    · exact hx z
    · exact absurd (Nat.lt_of_lt_of_le (Heap.lt_size e) z) (Nat.lt_irrefl _)
  have cellK:∀ x c,X.env.cells.lookup x=some c→∀ v,s.heap.IsCell c v→h'.IsCell c v:=fun x c e v ⟨o,ho,hd⟩=>by
    have nch:c∉ch:=fun z=>(hch c z).2.2.1 x c e rfl
    by_cases hc:c∈X.fs
    · obtain⟨sl,q⟩:=slot c o (I.cne x c e) hc nch ho (I.freeC x c e)
      exact⟨_,q,hd⟩
    · exact⟨o,keep c o (I.cne x c e) hc nch ho (I.freeC x c e),hd⟩
  refine⟨I.ok,I.os,hg,⟨fun b o e n hb hx=>?_,fun b o e n hb hx=>?_,fun b o e n hx=>?_,fun b o e hx=>?_,fun b xs e=>tups b xs (I.base.tups b xs e),fun b o xs e=>frzs b o xs (I.base.frzs b o xs e),fun b ps e=>?_⟩,?_,fun x c e=>?_,?_,fun x c e=>?_,fun p hp=>?_,hok,I.len⟩
  · exact keep b o (neL b o e) hb (neC b o e hx) (I.base.keep b o e n hb hx) (I.base.free b o e n hx)
  · obtain⟨sl,e1⟩:=I.base.slot b o e n hb hx
    obtain⟨sl',e2⟩:=slot b _ (neL b o e) hb (neC b o e hx) e1 (I.base.free b o e n hx)
    exact⟨sl',e2⟩
  · obtain⟨o',e1⟩:=I.base.there b o e hx
    exact free b o' (neC b o e hx) e1 (I.base.free b o e n hx)
  · obtain⟨o',e1⟩:=I.base.there b o e hx
    exact there b o' (neC b o e hx) e1
  · obtain⟨m1,e1⟩:=I.base.tbls b ps e
    obtain⟨m2,e2⟩:=tbls b _ e1
    exact⟨m1++m2,by rw[e2,Array.append_assoc]⟩
  · obtain⟨m,hn,hl⟩:=I.loc
    refine⟨m,ns m hn,fun i x v e1 e2 e3=>?_⟩
    obtain⟨u,r,l⟩:=hl i x v e1 e2 e3
    refine⟨u,r,?_⟩
    rcases l with l|⟨k,c,e,z⟩
    · exact .inl l
    · exact .inr ⟨k,c,e,cellK x c e _ z⟩
  · obtain⟨v,z⟩:=I.cell x c e
    exact⟨v,cellK x c e v z⟩
  · obtain⟨m,⟨o,_,_,ho,_⟩,_⟩:=I.loc
    exact free _ o (fun z=>(hch _ z).2.1 rfl) ho I.free
  · obtain⟨v,o,ho,hd⟩:=I.cell x c e
    exact free c o (fun z=>(hch c z).2.2.1 x c e rfl) ho (I.freeC x c e)
  · obtain⟨e,n,ne,nf,d⟩:=I.pin p hp
    have nch:p.1∉ch:=fun z=>(hch p.1 z).2.2.2 p hp rfl
    exact⟨keep p.1 p.2 ne nf nch e n,free p.1 p.2 nch e n,ne,nf,d⟩
theorem Inv.un {t':Nat}(I:Inv X pins σ H s) (u:Un X.fs [] H H' s.heap h') (hok:HOk X.prog X.w H' h'):Inv X pins σ H' { s with heap:=h',toks:=t' }:=by
  obtain⟨m,⟨o,es,ep,ho,r⟩,_⟩:=id I.loc
  obtain⟨sl,hL⟩:=u.any ho I.free (by simp)
  exact I.step (g':=s.gens) (d':=s.drawn) (ch:=[]) (fun _ z=>nomatch z) (fun b o _ hb _ e n=>u.keep b o e n hb (by simp)) (fun b o _ hb _ e n=>u.slot b o e n hb (by simp)) (fun b o _ e n=>u.free b o e n (by simp)) (fun b o _ e=>u.there b o e (by simp)) u.tups u.frzs u.tbls (fun m' hm=>by
    obtain⟨o',es',ep',ho',r'⟩:=hm
    rw[ho]at ho';cases ho'
    exact⟨_,es',ep',hL,r'⟩) hok I.bare
theorem Inv.call {g':Array GenState}{t':Nat}{d':Drawn}{ch:List Addr}(I:Inv X pins σ H s) (u:Un (frs X.stack) ch H H' s.heap h') (hok:HOk X.prog X.w H' h') (hg:AllBare g')
    (hch:∀ b∈ch,(b∈X.ex∨X.s₀.heap.objs.size≤b)∧b≠X.env.locals∧(∀ x c,X.env.cells.lookup x=some c→c≠b)∧∀ p∈X.pn++pins,p.1≠b) :
    Inv X pins σ H' { s with heap:=h',gens:=g',drawn:=d',toks:=t' }:=by
  obtain⟨m,⟨o,es,ep,ho,r⟩,_⟩:=id I.loc
  obtain⟨sl,hL⟩:=u.any ho I.free fun z=>(hch _ z).2.1 rfl
  exact I.step (ch:=ch) hch (fun b o hL hb hc e n=>u.keep b o e n (fun z=>(List.mem_cons.mp (I.stkSub b z)).elim hL hb) hc) (fun b o _ _ hc e n=>u.any e n hc) (fun b o hc e n=>u.free b o e n hc) (fun b o hc e=>u.there b o e hc) u.tups u.frzs u.tbls (fun m' hm=>by
    obtain⟨o',es',ep',ho',r'⟩:=hm
    rw[ho]at ho';cases ho'
    exact⟨_,es',ep',hL,r'⟩) hok hg
theorem Inv.turned {t':Nat}{it:Addr}(I:Inv X pins σ H s) (k:∀ b o,b≠it→s.heap.get? b=some o→h'.get? b=some o) (hn:H it=none) (hL:it≠X.env.locals)
    (h1:it∈X.ex∨X.s₀.heap.objs.size≤it) (h2:∀ x c,X.env.cells.lookup x=some c→c≠it) (h3:∀ p∈X.pn++pins,p.1≠it):Inv X pins σ H { s with heap:=h',toks:=t' }:=by
  have nit:∀ b u,H b=some u→b≠it:=fun b u e z=>by rw[z,hn]at e;cases e
  refine I.step (g':=s.gens) (d':=s.drawn) (ch:=[it]) (fun b hb=>?_) (fun b o _ _ hc e _=>k b o (fun z=>hc (by simp[z])) e) (fun b o _ _ hc e _=>⟨o.slots,k b o (fun z=>hc (by simp[z])) e⟩) (fun _ _ _ _ n=>n)
    (fun b o hc e=>⟨o,k b o (fun z=>hc (by simp[z])) e⟩) (fun _ _ e=>e) (fun _ _ _ e=>e) (fun b ps e=>⟨#[],by rw[e];simp⟩) (fun m hm=>?_) (fun b u e=>?_) I.bare
  · have e:b=it:=by simpa using hb
    subst e
    exact⟨h1,hL,h2,h3⟩
  · obtain⟨o,es,ep,ho,r⟩:=hm
    exact⟨o,es,ep,k _ o (Ne.symm hL) ho,r⟩
  · refine(I.hok b u e).stay (fun c v hc q=>k c v ?_ q) (fun _ q=>q) fun _ _ q=>q
    rcases hc with z|z
    · rw[z];exact nit b u e
    · exact nit c _ z
theorem Inv.tok (I:Inv X pins σ H s) (t:Nat):Inv X pins σ H { s with toks:=t }:=I.un (h':=s.heap) (t':=t) Un.refl I.hok
theorem Inv.kept {t':Nat}(I:Inv X pins σ H s) (k:∀ b u,s.heap.get? b=some u→h'.get? b=some u):Inv X pins σ H { s with heap:=h',toks:=t' }:=I.un (Un.kept k) (I.hok.kept k)
theorem Inv.laid {a:Addr}{o:HO}{t':Nat}(I:Inv X pins σ H s) (k:∀ b u,s.heap.get? b=some u→h'.get? b=some u) (hp:s.heap.objs.size≤a) (new:ObjOk X.prog X.w (upd H a o) h' a o) :
    Inv X pins σ (upd H a o) { s with heap:=h',toks:=t' }:=I.un (Un.laid k hp (I.hok.fresh hp)) (I.hok.laid k hp new)
theorem Inv.write {x e:Addr}{o:HO}{t':Nat}(I:Inv X pins σ H s) (mu:Mut (H x)) (he:e=x∨H e=some (.own x)) (k:∀ b u,b≠e→s.heap.get? b=some u→h'.get? b=some u) (heo:∃ u,h'.get? e=some u)
    (new:ObjOk X.prog X.w (upd H x o) h' x o):Inv X pins σ (upd H x o) { s with heap:=h',toks:=t' }:=I.un (Un.write mu he k heo) (I.hok.write mu he k heo new)
theorem Inv.pins_of {pins':List (Addr × Obj)}(I:Inv X pins σ H s) (h:∀ p∈pins',s.heap.get? p.1=some p.2∧H p.1=none∧p.1≠X.env.locals∧p.1∉X.fs∧∀ v,p.2.data≠.cell v):Inv X pins' σ H s :=
  ⟨I.ok,I.os,I.bare,I.base,I.loc,I.cell,I.free,I.freeC,fun p hp=>(List.mem_append.mp hp).elim (fun z=>I.pin p (List.mem_append_left _ z)) (h p),I.hok,I.len⟩
theorem zfk {N:List Str}(hN:N.Nodup) {i j:Nat}{x:Str}(a:N[i]?=some x) (b:N[j]?=some x):i=j:=by
  obtain⟨h1,e1⟩:=List.getElem?_eq_some_iff.mp a
  obtain⟨h2,e2⟩:=List.getElem?_eq_some_iff.mp b
  exact(List.getElem_inj hN).mp (e1.trans e2.symm)
theorem zga {M:Model}{A:Around}{E:Value→Shared→Prop}{i:Nat}{x:Str}{v:V}{u:Value}{Q:Unit→Shared→Prop}(I:Inv X pins σ H s) (hN:X.N.Nodup) (hi:X.N[i]?=some x) (hx:Loc X.env.scope x) (r:RelV v u)
    (h:∀ s',Inv X pins (σ.set i (some v)) H s'→(∃ a,Heap.SameBut a s.heap s'.heap∧(a=X.env.locals∨X.env.cells.lookup x=some a))→Q () s') (hf:X.fn x=true∨X.env.scope.names.lookup x=some .local:=by first|exact .inl rfl|exact .inr rfl|assumption):wpAny M A (storeName X.env x u) Q E s:=by
  obtain⟨m,hn,hl⟩:=id I.loc
  have hcls:(X.env.scope.kind == .class || (X.env.scope.kind == .module && X.env.locals != X.env.globals))=false:=by rw[I.ok.kind];rfl
  have hiσ:i<σ.length:=by rw[I.len];exact(List.getElem?_eq_some_iff.mp hi).1
  have cne:=I.cne
  have tracked:∀ {a:Addr}{h':Heap},(∃ o,s.heap.get? a=some o∧H a=none)→Heap.SameBut a s.heap h'→HOk X.prog X.w H h':=fun {a h'} ha hs b ob e=>by
    obtain⟨_,_,hfree⟩:=ha
    refine(I.hok b ob e).stay (fun c w' hc q=>(hs.2 c ?_).trans q) (fun _ q=>q) fun _ _ q=>q
    rintro rfl
    rcases hc with rfl|hc
    · rw[hfree]at e;cases e
    · rw[hfree]at hc;cases hc
  rcases hx with hk|hk
  · refine wpAny_storeName_local hk hn (fun h' hn' hs=>?_) hcls
    obtain⟨oL,_,_,hoL,_⟩:=id hn
    refine h _ ⟨I.ok,I.os,I.bare,⟨fun b o e n hb hx=>?_,fun b o e n hb hx=>?_,I.base.free,fun b o e hx=>?_,I.base.tups,I.base.frzs,I.base.tbls⟩,⟨_,hn',fun j y v' e1 e2 e3=>?_⟩,fun y c e=>?_,I.free,I.freeC,fun p hp=>?_,tracked ⟨oL,hoL,I.free⟩ hs,by simpa using I.len⟩ ⟨_,hs,.inl rfl⟩
    · exact(hs.2 b (Nat.ne_of_lt (Nat.lt_of_lt_of_le (Heap.lt_size e) I.ok.above))).trans (I.base.keep b o e n hb hx)
    · obtain⟨sl,e1⟩:=I.base.slot b o e n hb hx
      exact⟨sl,(hs.2 b (Nat.ne_of_lt (Nat.lt_of_lt_of_le (Heap.lt_size e) I.ok.above))).trans e1⟩
    · obtain⟨o',e1⟩:=I.base.there b o e hx
      exact⟨o',(hs.2 b (Nat.ne_of_lt (Nat.lt_of_lt_of_le (Heap.lt_size e) I.ok.above))).trans e1⟩
    · by_cases hj:j=i
      · subst hj
        rw[hi]at e1;cases e1
        rw[List.getElem?_set_self hiσ]at e2
        cases e2
        exact⟨u,r,.inl ⟨hk,by simp⟩⟩
      · rw[List.getElem?_set_ne (Ne.symm hj)]at e2
        obtain⟨u',r',q⟩:=hl j y v' e1 e2 e3
        refine⟨u',r',?_⟩
        rcases q with ⟨k,e⟩|⟨k,c,e,z⟩
        · refine .inl ⟨k,?_⟩
          have:y≠x:=fun e=>hj (zfk hN e1 (e ▸ hi))
          simp[this,e]
        · exact .inr ⟨k,c,e,z.sameBut hs (cne y c e)⟩
    · obtain⟨w',z⟩:=I.cell y c e
      exact⟨w',z.sameBut hs (cne y c e)⟩
    · obtain⟨e,n,ne,nf,d⟩:=I.pin p hp
      exact⟨(hs.2 p.1 ne).trans e,n,ne,nf,d⟩
  · have hfn:X.fn x=true:=by
      rcases hf with z|z
      · exact z
      · rw[z]at hk;cases hk
    obtain⟨c,hc⟩:=I.ok.has x (.inl hk)
    obtain⟨w',z⟩:=I.cell x c hc
    refine wpAny_storeName_cell I.ok.kind hk hc z (fun h' hc' hs=>?_)
    obtain⟨oc,hoc,hocd⟩:=id z
    refine h { s with heap:=h' } ⟨I.ok,I.os,I.bare,⟨fun b o e n hb hx=>?_,fun b o e n hb hx=>?_,I.base.free,fun b o e hx=>?_,I.base.tups,I.base.frzs,I.base.tbls⟩,⟨m,hn.sameBut hs (Ne.symm (cne x c hc)),fun j y v' e1 e2 e3=>?_⟩,fun y c' e=>?_,I.free,I.freeC,fun p hp=>?_,tracked ⟨oc,hoc,I.freeC x c hc⟩ hs,by simpa using I.len⟩ ⟨c,hs,.inr hc⟩
    · exact(hs.2 b (Nat.ne_of_lt (Nat.lt_of_lt_of_le (Heap.lt_size e) (I.ok.cab x c hfn hc)))).trans (I.base.keep b o e n hb hx)
    · obtain⟨sl,e1⟩:=I.base.slot b o e n hb hx
      exact⟨sl,(hs.2 b (Nat.ne_of_lt (Nat.lt_of_lt_of_le (Heap.lt_size e) (I.ok.cab x c hfn hc)))).trans e1⟩
    · obtain⟨o',e1⟩:=I.base.there b o e hx
      exact⟨o',(hs.2 b (Nat.ne_of_lt (Nat.lt_of_lt_of_le (Heap.lt_size e) (I.ok.cab x c hfn hc)))).trans e1⟩
    · by_cases hj:j=i
      · subst hj
        rw[hi]at e1;cases e1
        rw[List.getElem?_set_self hiσ]at e2
        cases e2
        exact⟨u,r,.inr ⟨.inl hk,c,hc,hc'⟩⟩
      · rw[List.getElem?_set_ne (Ne.symm hj)]at e2
        obtain⟨u',r',q⟩:=hl j y v' e1 e2 e3
        refine⟨u',r',?_⟩
        rcases q with q|⟨k,c',e,z'⟩
        · exact .inl q
        · refine .inr ⟨k,c',e,z'.sameBut hs ?_⟩
          rintro rfl
          exact hj (zfk hN e1 (I.ok.inj _ _ _ e hc ▸ hi))
    · by_cases hcc:c'=c
      · subst hcc;exact⟨_,hc'⟩
      · obtain⟨w2,z2⟩:=I.cell y c' e
        exact⟨w2,z2.sameBut hs hcc⟩
    · obtain⟨e,n,ne,nf,d⟩:=I.pin p hp
      refine⟨(hs.2 p.1 ?_).trans e,n,ne,nf,d⟩
      intro q
      rw[q,hoc]at e
      have q':oc=p.2:=Option.some.inj e
      exact d w' (by rw[← q'];exact hocd)
theorem zbM {M:Model}{A:Around}{E:Value→Shared→Prop}{i:Nat}{x:Str}{v:V}{u:Value}{Q:Unit→Shared→Prop}(I:Inv X pins σ H s) (hN:X.N.Nodup) (hi:X.N[i]?=some x) (hx:Loc X.env.scope x) (r:RelV v u)
    (h:∀ s',Inv X pins (σ.set i (some v)) H s'→Q () s') (hf:X.fn x=true∨X.env.scope.names.lookup x=some .local:=by first|exact .inl rfl|exact .inr rfl|assumption):wpAny M A (storeName X.env x u) Q E s :=
  zga I hN hi hx r (fun s' I' _=>h s' I') hf
theorem Inv.call' {s':Shared}{ch:List Addr}(I:Inv X pins σ H s) (ho:s'.os=s.os) (u:Un (frs X.stack) ch H H' s.heap s'.heap) (hok:HOk X.prog X.w H' s'.heap) (hg:AllBare s'.gens)
    (hch:∀ b∈ch,(b∈X.ex∨X.s₀.heap.objs.size≤b)∧b≠X.env.locals∧(∀ x c,X.env.cells.lookup x=some c→c≠b)∧∀ p∈X.pn++pins,p.1≠b):Inv X pins σ H' s':=by
  obtain⟨h',g',d',t',o'⟩:=s'
  have e:o'=s.os:=ho
  subst e
  exact I.call (g':=g') (t':=t') (d':=d') u hok hg hch
end
abbrev XK:=Value→Option Addr→Hp→Prop
abbrev St:=List (Option V)
abbrev VK:=V→Hp→Prop
abbrev TE:=St→Hp→VK→Prop
abbrev TT:=St→Hp→(Bool→Hp→Prop)→Prop
abbrev TA:=St→Hp→(List V→Hp→Prop)→Prop
structure Ends where
  nx:St→Hp→Prop
  rt:VK
  bk:St→Hp→Prop:=fun _ _=>False
  ct:St→Hp→Prop:=fun _ _=>False
abbrev TS:=Ends→St→Hp→Prop
def EP (X:Cx) (pins:List (Addr × Obj)) (σ:St) (Q:VK) (u:Value) (s':Shared):Prop:=∃ v H',Inv X pins σ H' s'∧RelV v u∧Q v H'
def TP (X:Cx) (pins:List (Addr × Obj)) (σ:St) (Q:Bool→Hp→Prop) (b:Bool) (s':Shared):Prop:=∃ H',Inv X pins σ H' s'∧Q b H'
def AP (X:Cx) (pins:List (Addr × Obj)) (σ:St) (Q:List V→Hp→Prop) (us:List Value) (s':Shared):Prop:=∃ vs H',Inv X pins σ H' s'∧Vals vs us∧Q vs H'
def SP (X:Cx) (pins:List (Addr × Obj)) (D:Ends) (f:Flow) (s':Shared):Prop :=
  match f with
  | .next=>∃ σ' H',Inv X pins σ' H' s'∧D.nx σ' H'
  | .brk=>∃ σ' H',Inv X pins σ' H' s'∧D.bk σ' H'
  | .cont=>∃ σ' H',Inv X pins σ' H' s'∧D.ct σ' H'
  | .ret u=>∃ v σ' H',Inv X pins σ' H' s'∧RelV v u∧D.rt v H'
def PE (X:Cx) (e:Expr) (t:TE):Prop :=
  ∀ (pins:List (Addr × Obj)) (s:Shared) (σ:St) (H:Hp) (Q:VK),Inv X pins σ H s→t σ H Q→wpAny (model X.prog X.w) X.A (eval e X.env) (EP X pins σ Q) X.xe s
def PT (X:Cx) (e:Expr) (t:TT):Prop :=
  ∀ (pins:List (Addr × Obj)) (s:Shared) (σ:St) (H:Hp) (Q:Bool→Hp→Prop),Inv X pins σ H s→t σ H Q→wpAny (model X.prog X.w) X.A (isTrue e X.env (eval e X.env)) (TP X pins σ Q) X.xe s
def PW (X:Cx) (e:Expr) (t:TT):Prop :=
  ∀ (whole:Sem Value) (pins:List (Addr × Obj)) (s:Shared) (σ:St) (H:Hp) (Q:Bool→Hp→Prop),Inv X pins σ H s→t σ H Q→wpAny (model X.prog X.w) X.A (isTrue e X.env whole) (TP X pins σ Q) X.xe s
theorem PW.pt {X:Cx}{e:Expr}{t:TT}(h:PW X e t):PT X e t:=h _
def PA (X:Cx) (es:List Expr) (t:TA):Prop :=
  ∀ (pos:Pos) (pins:List (Addr × Obj)) (s:Shared) (σ:St) (H:Hp) (Q:List V→Hp→Prop),Inv X pins σ H s→t σ H Q→wpAny (model X.prog X.w) X.A (spliced (backTo pos (starEach es X.env))) (AP X pins σ Q) X.xe s
def PS (X:Cx) (st:Stmt) (t:TS):Prop :=
  ∀ (pins:List (Addr × Obj)) (s:Shared) (σ:St) (H:Hp) (D:Ends),Inv X pins σ H s→t D σ H→wpAny (model X.prog X.w) X.A (exec st X.env) (SP X pins D) X.xe s
def PSs (X:Cx) (st:List Stmt) (t:TS):Prop :=
  ∀ (pins:List (Addr × Obj)) (s:Shared) (σ:St) (H:Hp) (D:Ends),Inv X pins σ H s→t D σ H→wpAny (model X.prog X.w) X.A (execs st X.env) (SP X pins D) X.xe s
theorem thn {α:Type}{t:Sem α}{Q Q':α→Shared→Prop}{M:Model}{A:Around}{E:Value→Shared→Prop}{s:Shared}(h:wpAny M A t Q E s) (hQ:∀ a s,Q a s→Q' a s):wpAny M A t Q' E s:=wpAny_mono h hQ fun _ _ x=>x
section
variable {X:Cx}
def tVar (i:Nat):TE:=fun σ H Q=>∃ v,σ[i]?=some (some v)∧Q v H
def tC (v:V):TE:=fun _ H Q=>Q v H
theorem zjN {i:Nat}{x:Str}{pos:Pos}(hN:X.N[i]?=some x) (hv:Vis X.env.scope x) (hd:(x == ("__debug__":Str))=false:=by decide) (hcd:(x == ("__classdict__":Str))=false:=by decide):PE X (.Name x pos) (tVar i):=by
  intro pins s σ H Q I h
  obtain⟨v,e,h⟩:=h
  obtain⟨m,hn,hl⟩:=I.loc
  obtain⟨u,r,l⟩:=hl i x v hN e hv
  have fin:EP X pins σ Q u s:=⟨v,H,I,r,h⟩
  rcases l with ⟨hk,hm⟩|⟨hk,c,hc,hcell⟩
  · exact wpAny_Name (wpAny_loadName_local I.ok.kind hk hn hm fin) hd
  · rcases hk with hk|hk
    · exact wpAny_Name (wpAny_loadName_cell I.ok.kind hk hc hcell fin) hd
    · exact wpAny_Name (wpAny_loadName_free I.ok.kind hk hc hcell fin hcd) hd
theorem pe_int {i j pos}:PE X (.Constant (.int i) j pos) (tC (.int i)):=fun _ _ _ H _ I h=>wpAny_Constant_int ⟨.int i,H,I.tok _,⟨_,rfl⟩,h⟩
theorem pe_bl {b j pos}:PE X (.Constant (.bool b) j pos) (tC (.bl b)):=fun _ _ _ H _ I h=>Constant_bool ⟨.bl b,H,I,rfl,h⟩
theorem zaF {j pos}:PE X (.Constant .none j pos) (tC .non):=fun _ _ _ H _ I h=>Constant_none ⟨.non,H,I,rfl,h⟩
theorem pe_str {x j pos}:PE X (.Constant (.str x) j pos) (tC (.str x)):=fun _ _ _ H _ I h=>Calls.Constant_str ⟨.str x,H,I.tok _,⟨_,rfl⟩,h⟩
def Gl (X:Cx) (x:Str):Prop:=X.env.kindOf x=some .globalImplicit
theorem zje {E:Value→Shared→Prop}{pins:List (Addr × Obj)}{s:Shared}{σ:St}{H:Hp}{x:Str}{u:Value}{pos:Pos}{Q:Value→Shared→Prop}(I:Inv X pins σ H s) (hg:Gl X x) (hm:X.mg x=some u) (h:Q u s)
    (hd:(x == ("__debug__":Str))=false:=by decide):wpAny (model X.prog X.w) X.A (eval (.Name x pos) X.env) Q E s :=
  Calls.Name_function_global I.ok.kind hg (Calls.loadGlobal_global (by rw[I.ok.glob];exact I.mod.glob.keeps I.bk) hm h) hd
theorem zaR {E:Value→Shared→Prop}{pins:List (Addr × Obj)}{s:Shared}{σ:St}{H:Hp}{x:Str}{u:Value}{pos:Pos}{Q:Value→Shared→Prop}(I:Inv X pins σ H s) (hg:Gl X x) (hm:X.mg x=none) (hv:bootBuiltins x=some u) (h:Q u s)
    (hn:x≠"__name__":=by decide) (hd:(x == ("__debug__":Str))=false:=by decide):wpAny (model X.prog X.w) X.A (eval (.Name x pos) X.env) Q E s:=by
  obtain⟨mb,h1,h2⟩:=I.mod.blt
  exact Calls.Name_function_global I.ok.kind hg (Calls.loadGlobal_builtin (by rw[I.ok.glob];exact I.mod.glob.keeps I.bk) hm (by rw[I.ok.blt];exact h1.keeps I.bk) ((h2 x hn).trans hv) h) hd
theorem zbf {x:Str}{v:V}{u:Value}{pos:Pos}(hg:Gl X x) (hm:X.mg x=none) (hv:bootBuiltins x=some u) (r:RelV v u) (hn:x≠"__name__":=by decide) (hd:(x == ("__debug__":Str))=false:=by decide):PE X (.Name x pos) (tC v) :=
  fun _ _ _ H _ I h=>zaR I hg hm hv ⟨v,H,I,r,h⟩ hn hd
variable {a b:Expr}{ta tb:TE}{pos:Pos}
def tB (t:TE):TT:=fun σ H Q=>t σ H fun x H1=>∃ c,x=.bl c∧Q c H1
theorem pt_val {e:Expr}{t:TE}(h:PE X e t) (he:∀ whole,isTrue e X.env whole=(do let v ← whole;standAt e.pos;holding [v] (truthy v)):=by intro _;rfl):PT X e (tB t):=by
  intro pins s σ H Q I hw
  refine isTrue_plain (thn (h pins s σ H _ I hw) fun v s1 ⟨x,H1,I1,r1,q1⟩=>?_) (he _)
  obtain⟨d,rfl,q⟩:=q1
  cases r1
  exact wpAny_truthy_bool ⟨H1,I1,q⟩
variable {tA tB':TT}{rest:List Expr}
def tAnd (t u:TT):TT:=fun σ H Q=>t σ H fun c H1=>if c=true then u σ H1 Q else Q false H1
def tOr (t u:TT):TT:=fun σ H Q=>t σ H fun c H1=>if c=true then Q true H1 else u σ H1 Q
def tNot (t:TT):TT:=fun σ H Q=>t σ H fun c H1=>Q (!c) H1
theorem zbp (ha:PT X a tA):PW X (.BoolOp .And [a] pos) tA:=by
  intro wh pins s σ H Q I h
  refine isTrue_and (thn (ha pins s σ H Q I h) fun c s1 e=>?_)
  cases c with
  | true=>exact isTrue_and_nil e
  | false=>exact e
theorem pw_or1 (ha:PT X a tA):PW X (.BoolOp .Or [a] pos) tA:=by
  intro wh pins s σ H Q I h
  refine isTrue_or (thn (ha pins s σ H Q I h) fun c s1 e=>?_)
  cases c with
  | false=>exact isTrue_or_nil e
  | true=>exact e
theorem za3 (ha:PT X a tA) (hb:PW X (.BoolOp .And (b::rest) pos) tB'):PW X (.BoolOp .And (a::b::rest) pos) (tAnd tA tB'):=by
  intro wh pins s σ H Q I h
  refine isTrue_and (thn (ha pins s σ H _ I h) fun c s1 ⟨H1,I1,q1⟩=>?_)
  cases c with
  | true=>exact hb wh pins s1 σ H1 Q I1 q1
  | false=>exact⟨H1,I1,q1⟩
theorem pw_or (ha:PT X a tA) (hb:PW X (.BoolOp .Or (b::rest) pos) tB'):PW X (.BoolOp .Or (a::b::rest) pos) (tOr tA tB'):=by
  intro wh pins s σ H Q I h
  refine isTrue_or (thn (ha pins s σ H _ I h) fun c s1 ⟨H1,I1,q1⟩=>?_)
  cases c with
  | true=>exact⟨H1,I1,q1⟩
  | false=>exact hb wh pins s1 σ H1 Q I1 q1
theorem pt_not (ha:PT X a tA):PT X (.UnaryOp .Not a pos) (tNot tA):=by
  intro pins s σ H Q I h
  exact isTrue_not (ha pins s σ H (fun c H1=>Q (!c) H1) I h)
def zkj (ta tb:TE):TE:=fun σ H Q=>ta σ H fun x H1=>∃ c,x=.bl c∧if c=true then tb σ H1 Q else Q (.bl false) H1
theorem zfd {op} {t:TE}(h:PE X a t):PE X (.BoolOp op [a] pos) t:=fun pins s σ H Q I hw=>BoolOp_one (h pins s σ H Q I hw)
theorem zfe (ha:PE X a ta) (hb:PE X (.BoolOp .And (b::rest) pos) tb):PE X (.BoolOp .And (a::b::rest) pos) (zkj ta tb):=by
  intro pins s σ H Q I h
  refine BoolOp_and (thn (ha pins s σ H _ I h) fun v s1 ⟨x,H1,I1,r1,q1⟩=>?_)
  obtain⟨c,rfl,q1⟩:=q1
  cases r1
  refine wpAny_truthy_bool ?_
  cases c with
  | true=>exact hb pins s1 σ H1 Q I1 q1
  | false=>exact⟨.bl false,H1,I1,rfl,q1⟩
def tIf (t:TT) (ta tb:TE):TE:=fun σ H Q=>t σ H fun c H1=>if c=true then ta σ H1 Q else tb σ H1 Q
theorem zhJ {c:Expr}(hc:PT X c tA) (ha:PE X a ta) (hb:PE X b tb):PE X (.IfExp c a b pos) (tIf tA ta tb):=by
  intro pins s σ H Q I h
  refine wpAny_IfExp (thn (hc pins s σ H _ I h) fun d s1 ⟨H1,I1,q1⟩=>?_)
  cases d with
  | true=>exact ha pins s1 σ H1 Q I1 q1
  | false=>exact hb pins s1 σ H1 Q I1 q1
end
def SqL (K:PySem.W.Frag) (H:Hp) (a:Addr) (xs:List V):Prop :=
  Rd H a (.lst xs) ∨
    ∃ (o:Obj) (its:Array Value) (n:Nat),K.lookup a=some o∧o.cls=.type "list"∧o.dict=none∧o.data=.seq its n∧its.size≤sizeLine∧Vals xs its.toList
def SqT (K:PySem.W.Frag) (H:Hp) (a:Addr) (xs:List V):Prop :=
  Rd H a (.tup xs) ∨
    ∃ (o:Obj) (its:Array Value) (n:Nat),K.lookup a=some o∧o.cls=.type "tuple"∧o.data=.seq its n∧its.size≤sizeLine∧Vals xs its.toList
def absV:Value→Option V
  | .none=>some .non
  | .bool b=>some (.bl b)
  | .int i _=>some (.int i)
  | .str x _=>some (.str x)
  | .bytes b _=>some (.byt b)
  | .float b _=>some (.flt b)
  | .ref a=>some (.ref a)
  | .type n=>some (.ty n)
  | _=>none
theorem RelV.abs {x:V}{u:Value}(r:RelV x u):absV u=some x:=by
  cases x with
  | non=>cases r;rfl
  | bl _=>cases r;rfl
  | int _=>obtain⟨t,rfl⟩:=r;rfl
  | str _=>obtain⟨t,rfl⟩:=r;rfl
  | byt _=>obtain⟨t,rfl⟩:=r;rfl
  | flt _=>obtain⟨t,rfl⟩:=r;rfl
  | ref _=>cases r;rfl
  | ty _=>cases r;rfl
theorem RelV.inj {x y:V}{u:Value}(r:RelV x u) (q:RelV y u):x=y:=Option.some.inj (r.abs.symm.trans q.abs)
theorem Vals.inj:∀ {xs ys:List V}{us:List Value},Vals xs us→Vals ys us→xs=ys
  | _,_,_,.nil,.nil=>rfl
  | _,_,_,.cons r t,.cons r' t'=>by rw[r.inj r',Vals.inj t t']
section
variable {X:Cx}{pins:List (Addr × Obj)}{σ:St}{H:Hp}{s:Shared}{a:Addr}{xs ys:List V}
theorem SqL.of {K:PySem.W.Frag}(h:H a=some (.lst xs)):SqL K H a xs:=.inl (.inl h)
theorem SqT.of {K:PySem.W.Frag}(h:H a=some (.tup xs)):SqT K H a xs:=.inl (.inl h)
theorem Inv.list (I:Inv X pins σ H s) (h:SqL X.K H a xs):∃ its:List Value,Vals xs its∧PlainL s.heap a its.toArray∧xs.length≤sizeLine:=by
  rcases h with h|⟨o,its,n,hk,hc,hd,hs,hz,r⟩
  · obtain⟨z,its,n,r,e⟩:=h.ok I.hok
    exact⟨its,r,⟨_,n,e,rfl,rfl,rfl⟩,z⟩
  · refine⟨its.toList,r,⟨o,n,I.kIn a o hk,hc,hd,by simpa using hs⟩,?_⟩
    have e:=r.length
    simp only[Array.length_toList]at e
    omega
theorem Inv.tuple (I:Inv X pins σ H s) (h:SqT X.K H a xs):∃ its:List Value,Vals xs its∧IsTup s.heap a its.toArray∧xs.length≤sizeLine:=by
  rcases h with h|⟨o,its,n,hk,hc,hs,hz,r⟩
  · obtain⟨z,its,r,p⟩:=h.ok I.hok
    exact⟨its,r,p.tup,z⟩
  · refine⟨its.toList,r,⟨o,I.kIn a o hk,hc,n,by simpa using hs⟩,?_⟩
    have e:=r.length
    simp only[Array.length_toList]at e
    omega
theorem Inv.list_inj (I:Inv X pins σ H s) (h:SqL X.K H a xs) (h':SqL X.K H a ys):xs=ys:=by
  obtain⟨its,r,⟨o,n,e,_,_,d⟩,_⟩:=I.list h
  obtain⟨its',r',⟨o',n',e',_,_,d'⟩,_⟩:=I.list h'
  rw[e]at e';cases e'
  rw[d]at d'
  injection d' with d1 _
  have:its=its':=by simpa using congrArg Array.toList d1
  subst this
  exact r.inj r'
theorem Inv.tuple_inj (I:Inv X pins σ H s) (h:SqT X.K H a xs) (h':SqT X.K H a ys):xs=ys:=by
  obtain⟨its,r,⟨o,e,_,n,d⟩,_⟩:=I.tuple h
  obtain⟨its',r',⟨o',e',_,n',d'⟩,_⟩:=I.tuple h'
  rw[e]at e';cases e'
  rw[d]at d'
  injection d' with d1 _
  have:its=its':=by simpa using congrArg Array.toList d1
  subst this
  exact r.inj r'
end
abbrev Cx.wish (X:Cx) (E:Value→Shared→Prop):Cx:={ X with xe:=E }
abbrev Cx.nox (X:Cx):Cx:=X.wish fun _ _=>False
theorem Cx.Ok.wish {X:Cx}(ok:X.Ok) (E:Value→Shared→Prop):(X.wish E).Ok :=
  ⟨ok.mod,ok.kind,ok.glob,ok.blt,ok.above,ok.inj,ok.has,ok.cab,ok.hd,ok.frames,ok.stk,ok.exf,ok.bs,ok.bsz,ok.noex,ok.exfs,ok.funs,ok.frf⟩
theorem Cx.Ok.unwish {X:Cx}{E:Value→Shared→Prop}(ok:(X.wish E).Ok):X.Ok :=
  ⟨ok.mod,ok.kind,ok.glob,ok.blt,ok.above,ok.inj,ok.has,ok.cab,ok.hd,ok.frames,ok.stk,ok.exf,ok.bs,ok.bsz,ok.noex,ok.exfs,ok.funs,ok.frf⟩
section
variable {X:Cx}{pins:List (Addr × Obj)}{σ:St}{H:Hp}{s:Shared}{E:Value→Shared→Prop}
theorem Inv.wish (I:Inv X pins σ H s) (E:Value→Shared→Prop):Inv (X.wish E) pins σ H s:=⟨I.ok.wish E,I.os,I.bare,I.base,I.loc,I.cell,I.free,I.freeC,I.pin,I.hok,I.len⟩
theorem Inv.unwish (I:Inv (X.wish E) pins σ H s):Inv X pins σ H s:=⟨I.ok.unwish,I.os,I.bare,I.base,I.loc,I.cell,I.free,I.freeC,I.pin,I.hok,I.len⟩
theorem SP.unwish {D:Ends}{f:Flow}{s':Shared}(h:SP (X.wish E) pins D f s'):SP X pins D f s':=by
  cases f with
  | next=>obtain⟨σ',H',I,q⟩:=h;exact⟨σ',H',I.unwish,q⟩
  | brk=>obtain⟨σ',H',I,q⟩:=h;exact⟨σ',H',I.unwish,q⟩
  | cont=>obtain⟨σ',H',I,q⟩:=h;exact⟨σ',H',I.unwish,q⟩
  | ret u=>obtain⟨v,σ',H',I,r,q⟩:=h;exact⟨v,σ',H',I.unwish,r,q⟩
theorem PSs.nox {st:List Stmt}{t:TS}(h:PSs X.nox st t):PSs X st t:=fun pins s σ H D I hw =>
  wpAny_mono (h pins s σ H D (I.wish _) hw) (fun _ _ q=>q.unwish) fun _ _ z=>False.elim z
end
section
variable {X:Cx}{st:Stmt}{rest:List Stmt}{t u:TS}{e:Expr}{te:TE}{pos:Pos}
def zjA:TS:=fun D σ H=>D.nx σ H
def tSeq (t u:TS):TS:=fun D σ H=>t { D with nx:=u D } σ H
theorem pss_nil:PSs X [] zjA:=fun _ _ σ H _ I h=>wpAny_execs_nil ⟨σ,H,I,h⟩
theorem pss_cons (h1:PS X st t) (h2:PSs X rest u):PSs X (st::rest) (tSeq t u):=by
  intro pins s σ H D I h
  refine wpAny_execs_cons (thn (h1 pins s σ H { D with nx:=u D } I h) fun f s1 q=>?_)
  cases f with
  | next =>
    obtain⟨σ',H',I',q⟩:=q
    exact h2 pins s1 σ' H' D I' q
  | ret v=>exact q
  | brk=>exact q
  | cont=>exact q
theorem pss_one (h1:PS X st t):PSs X [st] t:=by
  intro pins s σ H D I h
  refine wpAny_execs_cons (thn (h1 pins s σ H D I h) fun f s1 q=>?_)
  cases f with
  | next=>exact wpAny_execs_nil q
  | ret v=>exact q
  | brk=>exact q
  | cont=>exact q
theorem Inv.quiet {pins:List (Addr × Obj)}{σ:St}{H:Hp}{s:Shared}(I:Inv X pins σ H s):interactive X.env=false:=by simp[interactive,I.ok.kind]
def zkg (te:TE):TS:=fun D σ H=>te σ H fun _ H1=>D.nx σ H1
theorem ps_expr (he:PE X e te) (hs:swapsWith e none pos.line X.env=pure false:=by rfl):PS X (.Expr e pos) (zkg te):=by
  intro pins s σ H D I h
  exact wpAny_Expr_any (thn (he pins s σ H _ I h) fun v s1 ⟨x,H1,I1,r1,q1⟩=>⟨σ,H1,I1,q1⟩) I.quiet hs
def tRet (te:TE):TS:=fun D σ H=>te σ H D.rt
theorem ps_ret (he:PE X e te):PS X (.Return (some e) pos) (tRet te):=by
  intro pins s σ H D I h
  exact wpAny_Return_some (thn (he pins s σ H _ I h) fun v s1 ⟨x,H1,I1,r1,q1⟩=>⟨x,σ,H1,I1,r1,q1⟩)
def tIfS (c:TT) (t u:TS):TS:=fun D σ H=>c σ H fun b H1=>if b=true then t D σ H1 else u D σ H1
theorem zau {c:Expr}{a b:List Stmt}{tc:TT}(hc:PT X c tc) (ha:PSs X a t) (hb:PSs X b u):PS X (.If c a b pos) (tIfS tc t u):=by
  intro pins s σ H D I h
  refine wpAny_If (thn (hc pins s σ H _ I h) fun d s1 ⟨H1,I1,q1⟩=>?_)
  cases d with
  | true=>exact ha pins s1 σ H1 D I1 q1
  | false=>exact hb pins s1 σ H1 D I1 q1
end
abbrev TG:=V→St→Hp→(St→Hp→Prop)→Prop
abbrev TGs:=List V→St→Hp→(St→Hp→Prop)→Prop
def PG (X:Cx) (target:Expr) (t:TG):Prop :=
  ∀ (pins:List (Addr × Obj)) (s:Shared) (σ:St) (H:Hp) (v:V) (u:Value) (Q:St→Hp→Prop),Inv X pins σ H s→RelV v u→t v σ H Q →
    wpAny (model X.prog X.w) X.A (assign target X.env u) (fun _ s'=>∃ σ' H',Inv X pins σ' H' s'∧Q σ' H') X.xe s
def PGs (X:Cx) (ts:List Expr) (t:TGs):Prop :=
  ∀ (pins:List (Addr × Obj)) (s:Shared) (σ:St) (H:Hp) (vs:List V) (us:List Value) (Q:St→Hp→Prop),Inv X pins σ H s→Vals vs us→t vs σ H Q →
    wpAny (model X.prog X.w) X.A (assignInOrder ((assignEach ts X.env).map (·.2)) us) (fun _ s'=>∃ σ' H',Inv X pins σ' H' s'∧Q σ' H') X.xe s
abbrev TSet:=V→V→V→Hp→(Hp→Prop)→Prop
def PSet (X:Cx) (t:TSet):Prop :=
  ∀ (pins:List (Addr × Obj)) (s:Shared) (σ:St) (H:Hp) (o i v:V) (ov iv u:Value) (Q:Hp→Prop),Inv X pins σ H s→RelV o ov→RelV i iv→RelV v u→t o i v H Q →
    wpAny (model X.prog X.w) X.A (setItem ov iv u) (fun _ s'=>∃ H',Inv X pins σ H' s'∧Q H') X.xe s
abbrev TIp:=V→V→Hp→VK→Prop
def PIp (X:Cx) (op:Operator) (t:TIp):Prop :=
  ∀ (pins:List (Addr × Obj)) (s:Shared) (σ:St) (H:Hp) (x y:V) (v u:Value) (Q:VK),Inv X pins σ H s→RelV x v→RelV y u→t x y H Q →
    wpAny (model X.prog X.w) X.A (inplaceOp op v u) (EP X pins σ Q) X.xe s
section
variable {X:Cx}{pos:Pos}
def zch (i:Nat):TG:=fun v σ H Q=>Q (σ.set i (some v)) H
theorem zab {i:Nat}{x:Str}(hN:X.N.Nodup) (hi:X.N[i]?=some x) (hx:Loc X.env.scope x) (hf:X.fn x=true∨X.env.scope.names.lookup x=some .local:=by first|exact .inl rfl|exact .inr rfl|assumption):PG X (.Name x pos) (zch i):=by
  intro pins s σ H v u Q I r h
  exact wpAny_assign_Name (zbM I hN hi hx r (fun s' I'=>⟨_,H,I',h⟩) hf)
def gNil:TGs:=fun vs σ H Q=>vs=[]∧Q σ H
def zcS (t:TG) (u:TGs):TGs:=fun vs σ H Q=>∃ v r,vs=v::r∧t v σ H fun σ' H'=>u r σ' H' Q
theorem pgs_nil:PGs X [] gNil:=by
  intro pins s σ H vs us Q I r h
  obtain⟨e,h⟩:=h
  subst e
  cases r
  exact assignInOrder_nil ⟨σ,H,I,h⟩
theorem pgs_cons {e:Expr}{es:List Expr}{t:TG}{u:TGs}(h1:PG X e t) (h2:PGs X es u)
    (hs:(assignEach (e::es) X.env).map (·.2)=assign e X.env::(assignEach es X.env).map (·.2):=by rfl):PGs X (e::es) (zcS t u):=by
  intro pins s σ H vs us Q I r h
  obtain⟨v,vr,e1,h⟩:=h
  subst e1
  cases r with
  | cons r rr =>
    rw[hs]
    refine assignInOrder_cons (thn (h1 pins s σ H _ _ _ I r h) fun _ s1 ⟨σ1,H1,I1,q1⟩=>?_)
    exact h2 pins s1 σ1 H1 _ _ Q I1 rr q1
def gTup (K:PySem.W.Frag) (n:Nat) (t:TGs):TG:=fun v σ H Q=>∃ a xs,v=.ref a∧SqT K H a xs∧xs.length=n∧t xs σ H Q
theorem zao {es:List Expr}{k:Nat}{t:TGs}{n:Nat}(hc:X.calm=true) (h:PGs X es t)
    (hn:(assignEach es X.env).length=n:=by rfl) (hst:(assignEach es X.env).findIdx? (·.1)=none:=by rfl):PG X (.Tuple es k pos) (gTup X.K n t):=by
  intro pins s σ H v u Q I r hw
  obtain⟨a,xs,e1,hq,hl,hw⟩:=hw
  subst e1
  cases r
  obtain⟨its,rv,ht,hz⟩:=I.tuple hq
  refine assign_Tuple_tuple (I.ok.hd hc) ht (by simp[hn,← hl,rv.length]) hst fun h' hx=>?_
  have I1:Inv X pins σ H { s with heap:=h' }:=I.kept (t':=s.toks) fun b o e=>hx b o (Nat.ne_of_lt (Heap.lt_size e)) e
  exact h pins _ σ H xs _ Q I1 (by simpa using rv) hw
def gSub (to ti:TE) (t:TSet):TG:=fun v σ H Q=>to σ H fun o H1=>ti σ H1 fun i H2=>t o i v H2 fun H3=>Q σ H3
theorem pg_sub {o i:Expr}{to ti:TE}{t:TSet}(ho:PE X o to) (hi:PE X i ti) (hs:PSet X t)
    (ha:∀ v,assign (.Subscript o i pos) X.env v=(do
      let ov ← holding [v] (eval o X.env)
      let iv ← holding [v,ov] (eval i X.env)
      standAt pos
      holding [v,ov,iv] (setItem ov iv v)
      release [v,ov,iv] []):=by intro _;rfl):PG X (.Subscript o i pos) (gSub to ti t):=by
  intro pins s σ H v u Q I r h
  rw[ha]
  refine wpAny_bind (wpAny_holding (thn (ho pins s σ H _ I h) fun ov s1 ⟨x,H1,I1,r1,q1⟩=>?_))
  refine wpAny_bind (wpAny_holding (thn (hi pins s1 σ H1 _ I1 q1) fun iv s2 ⟨y,H2,I2,r2,q2⟩=>?_))
  refine wpAny_bind (wpAny_standAt (wpAny_bind (wpAny_holding (thn (hs pins s2 σ H2 x y v ov iv u _ I2 r1 r2 r q2) fun _ s3 ⟨H3,I3,q3⟩=>?_))))
  exact wpAny_release ⟨σ,H3,I3,q3⟩
def tAsg (te:TE) (g:TG):TS:=fun D σ H=>te σ H fun x H1=>g x σ H1 D.nx
theorem ps_asg {tg e:Expr}{te:TE}{g:TG}(he:PE X e te) (hg:PG X tg g) (hs:swapsWithSole [tg] e pos.line X.env=pure false:=by rfl) (hw:swappedStores [tg] e X.env=pure none:=by rfl)
    (h1:(assignEach [tg] X.env).map (·.2)=[assign tg X.env]:=by rfl):PS X (.Assign [tg] e pos) (tAsg te g):=by
  intro pins s σ H D I h
  refine wpAny_Assign_stores (thn (he pins s σ H _ I h) fun v s1 ⟨x,H1,I1,r1,q1⟩=>?_) hs hw
  rw[h1]
  exact thn (hg pins s1 σ H1 x v _ I1 r1 q1) fun _ s2 q=>q
theorem zak {i:Nat}{x:Str}{e:Expr}{te:TE}{pos':Pos}(hN:X.N.Nodup) (hi:X.N[i]?=some x) (hx:Loc X.env.scope x) (he:PE X e te) (hs:swapsWith e (some (.Name x pos')) pos.line X.env=pure false:=by rfl) (hf:X.fn x=true∨X.env.scope.names.lookup x=some .local:=by first|exact .inl rfl|exact .inr rfl|assumption) :
    PS X (.Assign [.Name x pos'] e pos) (tAsg te (zch i)):=by
  intro pins s σ H D I h
  refine wpAny_Assign_Name (thn (he pins s σ H _ I h) fun v s1 ⟨y,H1,I1,r1,q1⟩=>?_) hs
  exact zbM I1 hN hi hx r1 (fun s2 I2=>⟨_,H1,I2,q1⟩) hf
def tPar (i j:Nat) (ta:TA):TS:=fun D σ H=>ta σ H fun vs H1=>∃ v w,vs=[v,w]∧D.nx ((σ.set i (some v)).set j (some w)) H1
theorem zgv {i j:Nat}{x y:Str}{a b:Expr}{ta:TA}{px py pt:Pos}{kt k2 pt2} (hc:X.calm=true) (hN:X.N.Nodup) (hi:X.N[i]?=some x) (hj:X.N[j]?=some y) (hij:i≠j)
    (hx:X.env.scope.names.lookup x=some .local) (hy:X.env.scope.names.lookup y=some .local) (ha:PA X [a,b] ta)
    (hw:swappedStores [.Tuple [.Name x px,.Name y py] kt pt] (.Tuple [a,b] k2 pt2) X.env=pure (some [x,y]))
    (hs:swapsWithSole [.Tuple [.Name x px,.Name y py] kt pt] (.Tuple [a,b] k2 pt2) pos.line X.env=pure false:=by rfl) :
    PS X (.Assign [.Tuple [.Name x px,.Name y py] kt pt] (.Tuple [a,b] k2 pt2) pos) (tPar i j ta):=by
  intro pins s σ H D I h
  rw[exec_Assign_arm]
  refine wpAny_bind (wpAny_standAt ?_)
  rw[hs]
  refine wpAny_bind (wpAny_pure ?_)
  rw[if_neg (by decide)]
  refine wpAny_bind (Tuple_ (thn (ha _ pins s σ H _ I h) fun us s1 ⟨vs,H1,I1,r1,q1⟩=>?_))
  obtain⟨v,w,e1,q1⟩:=q1
  subst e1
  obtain⟨u1,u2,rfl,rv,rw'⟩:∃ u1 u2,us=[u1,u2]∧RelV v u1∧RelV w u2:=by
    cases r1 with
    | cons p q =>
      cases q with
      | cons p' q' =>
        cases q'
        exact⟨_,_,rfl,p,p'⟩
  refine wpAny_newObj_type ?_ (by show 2≤sizeLine;decide)
  have I2:Inv X pins σ H1 { s1 with heap:=s1.heap.push { cls:=.type "tuple",data:=.seq [u1,u2].toArray } }:=I1.kept (t':=s1.toks) fun b o e=>Heap.get?_push_of_some _ e
  rw[hw]
  refine wpAny_bind (wpAny_pure ?_)
  show wpAny (model X.prog X.w) X.A (do rule "assign.swapped-stores";let items ← unpackItems (.ref s1.heap.objs.size) 2 none;assignInOrder [fun v=>bindName X.env y v,fun v=>bindName X.env x v] items.reverse;pure Flow.next) _ _ _
  refine wpAny_bind (wpAny_rule (wpAny_bind (unpackItems_tuple (items:=#[u1,u2]) (I.ok.hd hc) (IsTup.new s1.heap _) fun h' hx'=>?_)))
  have I3:=I2.kept (h':=h') (t':=s1.toks) fun b o e=>hx' b o (Nat.ne_of_lt (Heap.lt_size e)) e
  show wpAny _ _ (assignInOrder [fun v=>bindName X.env y v,fun v=>bindName X.env x v] [u2,u1] >>= fun _=>pure Flow.next) _ _ _
  refine wpAny_bind (assignInOrder_cons (wpAny_bindName (zbM I3 hN hj (.inl hy) rw' (fun s2 I4=>?_) (.inr hy))))
  refine assignInOrder_cons (wpAny_bindName (zbM I4 hN hi (.inl hx) rv (fun s3 I5=>assignInOrder_nil (wpAny_pure ?_)) (.inr hx)))
  rw[List.set_comm _ _ (Ne.symm hij)]at I5
  exact⟨_,H1,I5,q1⟩
def tAug (i:Nat) (te:TE) (ti:TIp):TS:=fun D σ H=>∃ x,σ[i]?=some (some x)∧te σ H fun y H1=>ti x y H1 fun z H2=>D.nx (σ.set i (some z)) H2
theorem zjK {i:Nat}{x:Str}{e:Expr}{te:TE}{op:Operator}{ti:TIp}{pos':Pos}(hN:X.N.Nodup) (hi:X.N[i]?=some x) (hx:Loc X.env.scope x) (he:PE X e te) (ho:PIp X op ti) (hf:X.fn x=true∨X.env.scope.names.lookup x=some .local:=by first|exact .inl rfl|exact .inr rfl|assumption) :
    PS X (.AugAssign (.Name x pos') op e pos) (tAug i te ti):=by
  intro pins s σ H D I h
  obtain⟨v,e1,h⟩:=h
  obtain⟨m,hn,hl⟩:=I.loc
  have vis:Vis X.env.scope x:=by rcases hx with k|k;exact .inl k;exact .inr (.inl k)
  obtain⟨u,r,l⟩:=hl i x v hi e1 vis
  refine wpAny_AugAssign_Name ?_
  have go:wpAny (model X.prog X.w) X.A (eval e X.env) (fun w s₂=>wpAny (model X.prog X.w) X.A (inplaceOp op u w) (fun r s₃=>wpAny (model X.prog X.w) X.A (storeName X.env x r) (fun _=>SP X pins D .next) X.xe s₃) X.xe s₂) X.xe s:=by
    refine thn (he pins s σ H _ I h) fun w s1 ⟨y,H1,I1,r1,q1⟩=>?_
    refine thn (ho pins s1 σ H1 v y u w _ I1 r r1 q1) fun z s2 ⟨zv,H2,I2,r2,q2⟩=>?_
    exact zbM I2 hN hi hx r2 (fun s3 I3=>⟨_,H2,I3,q2⟩) hf
  rcases l with ⟨hk,hm⟩|⟨hk,c,hc,hcell⟩
  · exact wpAny_loadName_local I.ok.kind hk hn hm go
  · rcases hk with hk|hk
    · exact wpAny_loadName_cell I.ok.kind hk hc hcell go
    · rcases hx with k|k
      · have:X.env.scope.names.lookup x=some .free:=hk
        rw[k]at this;cases this
      · have:X.env.scope.names.lookup x=some .free:=hk
        rw[k]at this;cases this
end
section
variable {X:Cx}{pos:Pos}
end
structure It where
  go:Nat→Hp→Prop
  yld:Nat→Hp→V→Hp→Prop
  stop:Nat→Hp→Prop
def FpOk (X:Cx) (pins:List (Addr × Obj)) (H:Hp) (b:Addr):Prop :=
  H b=none∧b≠X.env.locals∧b∉X.fs∧(b∈X.ex∨X.s₀.heap.objs.size≤b)∧(∀ x c,X.env.cells.lookup x=some c→c≠b)∧∀ p∈X.pn++pins,p.1≠b
theorem Inv.fpOk {X:Cx}{pins:List (Addr × Obj)}{σ:St}{H H':Hp}{s:Shared}{b:Addr}(I:Inv X pins σ H s) (hb:s.heap.objs.size≤b) (hn:H' b=none):FpOk X pins H' b:=by
  refine⟨hn,Nat.ne_of_gt (Nat.lt_of_lt_of_le I.lt hb),I.nofs hb,.inr (Nat.le_trans I.sz hb),fun x c e z=>?_,fun p hp z=>?_⟩
  · obtain⟨v,q⟩:=I.cell x c e
    exact absurd (Nat.lt_of_lt_of_le q.lt (by rw[z];exact hb)) (Nat.lt_irrefl _)
  · exact absurd (Nat.lt_of_lt_of_le (Heap.lt_size (I.pin p hp).1) (by rw[z];exact hb)) (Nat.lt_irrefl _)
structure Turn (P:Program) (w:World) (K:PySem.W.Frag) (tg:Expr) (J:It) (fp:List Addr) (it:Addr) (tn:Nat→Heap→Prop):Prop where
  mem:it∈fp
  obj:∀ i h,tn i h→∀ b∈fp,∃ o,h.get? b=some o∧∀ v,o.data≠.cell v
  keep:∀ i h h',tn i h→(∀ b∈fp,∀ o,h.get? b=some o→h'.get? b=some o)→tn i h'
  item:∀ (X:Cx),X.prog=P→X.w=w→X.K=K→X.calm=true→∀ (i:Nat) (pins:List (Addr × Obj)) (s:Shared) (σ:St) (H:Hp) (E:Value→Shared→Prop),Inv X pins σ H s→(∀ b∈fp,FpOk X pins H b)→tn i s.heap→J.go i H →
    wpAny (model P w) X.A (pyNext (.ref it)) (fun r s1=>∃ u,r=some u ∧
      wpAny (model P w) X.A (letOwnedTupleGo tg (.ref it) u) (fun _ s2=>∃ x H',Inv X pins σ H' s2∧RelV x u∧J.yld i H x H'∧tn (i+1) s2.heap∧∀ b∈fp,H' b=none) E s1) E s
  done:∀ (X:Cx),X.prog=P→X.w=w→X.K=K→X.calm=true→∀ (i:Nat) (pins:List (Addr × Obj)) (s:Shared) (σ:St) (H:Hp) (E:Value→Shared→Prop),Inv X pins σ H s→(∀ b∈fp,FpOk X pins H b)→tn i s.heap→J.stop i H →
    wpAny (model P w) X.A (pyNext (.ref it)) (fun r s1=>r=none∧Inv X pins σ H s1) E s
  self:∀ (A:Around) (i:Nat) (s:Shared) (Q:Value→Shared→Prop) (E:Value→Shared→Prop),tn i s.heap→Q (.ref it) s→wpAny (model P w) A (pyIter (.ref it)) Q E s
abbrev TI:=St→Hp→(It→Hp→Prop)→Prop
def PIE (X:Cx) (pins:List (Addr × Obj)) (σ:St) (tg:Expr) (R:It→Hp→Prop) (itv:Value) (s2:Shared):Prop :=
  ∃ (it:Addr) (fp:List Addr) (tn:Nat→Heap→Prop) (J:It) (H':Hp),itv=.ref it∧Inv X pins σ H' s2∧Turn X.prog X.w X.K tg J fp it tn∧tn 0 s2.heap∧(∀ b∈fp,FpOk X pins H' b)∧R J H'
def PI (X:Cx) (tg iter:Expr) (wi:TI):Prop :=
  ∀ (pins:List (Addr × Obj)) (s:Shared) (σ:St) (H:Hp) (R:It→Hp→Prop),Inv X pins σ H s→wi σ H R →
    wpAny (model X.prog X.w) X.A (eval iter X.env) (fun v s1=>wpAny (model X.prog X.w) X.A (pyIter v) (PIE X pins σ tg R) X.xe s1) X.xe s
theorem zjm {M:Model}{A:Around}{E:Value→Shared→Prop}{s:Shared}{tg:Expr}{it:Addr}{u:Value}{o:Obj}{n:String}{vs:Array Value}{Q:Unit→Shared→Prop}(ho:s.heap.get? it=some o) (hc:o.cls=.type n) (hd:o.data=.fields vs)
    (hn:["enumerate","zip","dict_itemiterator","dict_reverseitemiterator","odict_iterator","itertools.zip_longest","itertools.pairwise"].contains n=false) (hQ:Q () s):wpAny M A (letOwnedTupleGo tg (.ref it) u) Q E s:=by
  unfold letOwnedTupleGo
  cases tg<;>first
    | exact wpAny_pure hQ
    | (cases u<;>first
        | exact wpAny_pure hQ
        | (refine wpAny_bind (wpAny_load ho ?_)
           rw[hc,hd]
           show wpAny M A (if (["enumerate","zip","dict_itemiterator","dict_reverseitemiterator","odict_iterator","itertools.zip_longest","itertools.pairwise"].contains n && vs[0]? == some (rawInt _))=true then _ else _) Q E s
           rw[if_neg (by intro h;rw[hn,Bool.false_and]at h;cases h)]
           exact wpAny_pure hQ))
def Itl (K:PySem.W.Frag) (a:Addr):It :=
  ⟨fun i H=>∃ xs x,SqL K H a xs∧xs[i]?=some x,fun i H x H'=>H'=H∧∀ xs,SqL K H a xs→xs[i]?=some x,fun i H=>∃ xs,SqL K H a xs∧xs.length≤i⟩
def Itt (K:PySem.W.Frag) (a:Addr):It :=
  ⟨fun i H=>∃ xs x,SqT K H a xs∧xs[i]?=some x,fun i H x H'=>H'=H∧∀ xs,SqT K H a xs→xs[i]?=some x,fun i H=>∃ xs,SqT K H a xs∧xs.length≤i⟩
def Itr (lo:Int) (n:Nat):It:=⟨fun i _=>i<n,fun i H x H'=>H'=H∧x=.int (lo+i),fun i _=>n≤i⟩
theorem zf7 {P:Program}{w:World}{K:PySem.W.Frag}{tg:Expr}(a it:Addr):Turn P w K tg (Itl K a) [it] it (fun i h=>h.IsListIter it a i) where
  mem:=by simp
  obj:=fun i h st b hb=>by
    have e:b=it:=by simpa using hb
    subst e
    obtain⟨o,e,c,d⟩:=st
    exact⟨o,e,fun v z=>by rw[d]at z;cases z⟩
  keep:=fun i h h' st k=>st.at fun o e=>k it (by simp) o e
  item:=by
    intro X hP hw hK hc i pins s σ H E I hf st hg
    subst hP hw hK
    obtain⟨xs,x,hq,hx⟩:=hg
    obtain⟨its,rv,p,hz⟩:=I.list hq
    obtain⟨u,hu,ru⟩:=rv.get hx
    obtain⟨f0,f1,f2,f3,f4,f5⟩:=hf it (by simp)
    refine wpAny_pyNext_list_item st p.isList (x:=u) (by simpa using hu) fun h' st' sb=>?_
    have I1:Inv X pins σ H { s with heap:=h' }:=I.turned (t':=s.toks) (fun b o hb e=>(sb.2 b hb).trans e) f0 f1 f3 f4 f5
    obtain⟨o,e,c,d⟩:=id st'
    exact⟨u,rfl,zjm (s:={ s with heap:=h' }) e c d (by decide) ⟨x,H,I1,ru,⟨rfl,fun ys hy=>by rw[I.list_inj hy hq];exact hx⟩,st',fun b hb=>(hf b hb).1⟩⟩
  done:=by
    intro X hP hw hK hc i pins s σ H E I hf st hg
    subst hP hw hK
    obtain⟨xs,hq,hx⟩:=hg
    obtain⟨its,rv,p,hz⟩:=I.list hq
    obtain⟨f0,f1,f2,f3,f4,f5⟩:=hf it (by simp)
    have hl:=rv.length
    exact wpAny_pyNext_list_end (I.ok.hd hc) st p.isList (by simp;omega) fun h' eb=>⟨rfl,I.turned (t':=s.toks) (fun b o hb e=>eb b o hb e) f0 f1 f3 f4 f5⟩
  self:=fun _ _ _ _ _ st h=>wpAny_pyIter_listiter st h
theorem zfw {P:Program}{w:World}{K:PySem.W.Frag}{tg:Expr}(a it:Addr):Turn P w K tg (Itt K a) [it] it (fun i h=>h.IsTupleIter it a i) where
  mem:=by simp
  obj:=fun i h st b hb=>by
    have e:b=it:=by simpa using hb
    subst e
    obtain⟨o,e,c,d⟩:=st
    exact⟨o,e,fun v z=>by rw[d]at z;cases z⟩
  keep:=fun i h h' st k=>st.at fun o e=>k it (by simp) o e
  item:=by
    intro X hP hw hK hc i pins s σ H E I hf st hg
    subst hP hw hK
    obtain⟨xs,x,hq,hx⟩:=hg
    obtain⟨its,rv,p,hz⟩:=I.tuple hq
    obtain⟨u,hu,ru⟩:=rv.get hx
    obtain⟨f0,f1,f2,f3,f4,f5⟩:=hf it (by simp)
    refine wpAny_pyNext_tuple_item st (show s.heap.IsTuple a its.toArray from p) (x:=u) (by simpa using hu) fun h' st' sb=>?_
    have I1:Inv X pins σ H { s with heap:=h' }:=I.turned (t':=s.toks) (fun b o hb e=>(sb.2 b hb).trans e) f0 f1 f3 f4 f5
    obtain⟨o,e,c,d⟩:=id st'
    exact⟨u,rfl,zjm (s:={ s with heap:=h' }) e c d (by decide) ⟨x,H,I1,ru,⟨rfl,fun ys hy=>by rw[I.tuple_inj hy hq];exact hx⟩,st',fun b hb=>(hf b hb).1⟩⟩
  done:=by
    intro X hP hw hK hc i pins s σ H E I hf st hg
    subst hP hw hK
    obtain⟨xs,hq,hx⟩:=hg
    obtain⟨its,rv,p,hz⟩:=I.tuple hq
    obtain⟨f0,f1,f2,f3,f4,f5⟩:=hf it (by simp)
    have hl:=rv.length
    exact wpAny_pyNext_tuple_end (I.ok.hd hc) st (show s.heap.IsTuple a its.toArray from p) (by simp;omega) fun h' eb=>⟨rfl,I.turned (t':=s.toks) (fun b o hb e=>eb b o hb e) f0 f1 f3 f4 f5⟩
  self:=fun _ _ _ _ _ st h=>wpAny_pyIter_tupleiter st h
theorem zfx {P:Program}{w:World}{K:PySem.W.Frag}{tg:Expr}(it:Addr) (lo:Int) (n:Nat):Turn P w K tg (Itr lo n) [it] it (fun i h=>IsRangeIter h it (lo+(i:Nat)*1) ((n:Int)-(i:Nat)) 1) where
  mem:=by simp
  obj:=fun i h st b hb=>by
    have e:b=it:=by simpa using hb
    subst e
    exact⟨_,st,fun v z=>by
      have z':Data.fields _=Data.cell v:=z
      cases z'⟩
  keep:=fun i h h' st k=>k it (by simp) _ st
  item:=by
    intro X hP hw hK hc i pins s σ H E I hf st hg
    subst hP hw hK
    obtain⟨f0,f1,f2,f3,f4,f5⟩:=hf it (by simp)
    have W:=Walks.range (prog:=X.prog) (w:=X.w) (I.ok.hd hc) it lo 1 n
    refine W.item i s _ _ hg st fun v h' tk hv st' kk=>?_
    obtain⟨t,rfl⟩:=hv
    have I1:Inv X pins σ H { s with heap:=h',toks:=tk }:=I.turned (fun b o hb e=>kk b o (by simpa using hb) e) f0 f1 f3 f4 f5
    refine⟨_,rfl,zjm (s:={ s with heap:=h',toks:=tk }) (n:="range_iterator") st' rfl rfl (by decide) ⟨.int (lo+i),H,I1,⟨t,?_⟩,⟨rfl,rfl⟩,st',fun b hb=>(hf b hb).1⟩⟩
    rw[Int.mul_one]
  done:=by
    intro X hP hw hK hc i pins s σ H E I hf st hg
    subst hP hw hK
    obtain⟨f0,f1,f2,f3,f4,f5⟩:=hf it (by simp)
    exact wpAny_pyNext_range_end (I.ok.hd hc) st (by have:n≤i:=hg;omega) fun h' eb=>⟨rfl,I.turned (t':=s.toks) (fun b o hb e=>eb b o hb e) f0 f1 f3 f4 f5⟩
  self:=fun _ _ _ _ _ st h=>wpAny_pyIter_rangeiter st h
section
variable {X:Cx}{tg:Expr}
def zku (K:PySem.W.Frag) (tl:TE):TI:=fun σ H R=>tl σ H fun x H1=>∃ a,x=.ref a∧(∃ xs,SqL K H1 a xs)∧R (Itl K a) H1
def iTup (K:PySem.W.Frag) (tl:TE):TI:=fun σ H R=>tl σ H fun x H1=>∃ a,x=.ref a∧(∃ xs,SqT K H1 a xs)∧R (Itt K a) H1
theorem zeN {l:Expr}{tl:TE}(hl:PE X l tl):PI X tg l (zku X.K tl):=by
  intro pins s σ H R I h
  refine thn (hl pins s σ H _ I h) fun v s1 ⟨x,H1,I1,r1,q1⟩=>?_
  obtain⟨a,e,⟨xs,hq⟩,q⟩:=q1
  subst e
  cases r1
  obtain⟨its,rv,p,hz⟩:=I1.list hq
  refine wpAny_pyIter_list p.isList ?_
  refine⟨s1.heap.objs.size,[s1.heap.objs.size],_,_,H1,rfl,I1.kept (t':=s1.toks) fun b o e=>Heap.get?_push_of_some _ e,zf7 a _,⟨_,Heap.get?_push_size _ rfl,rfl,rfl⟩,fun b hb=>?_,q⟩
  have e:b=s1.heap.objs.size:=by simpa using hb
  subst e
  exact I1.fpOk (Nat.le_refl _) (I1.hok.fresh (Nat.le_refl _))
theorem zbY {l:Expr}{tl:TE}(hl:PE X l tl):PI X tg l (iTup X.K tl):=by
  intro pins s σ H R I h
  refine thn (hl pins s σ H _ I h) fun v s1 ⟨x,H1,I1,r1,q1⟩=>?_
  obtain⟨a,e,⟨xs,hq⟩,q⟩:=q1
  subst e
  cases r1
  obtain⟨its,rv,p,hz⟩:=I1.tuple hq
  refine wpAny_pyIter_tuple (show s1.heap.IsTuple a its.toArray from p) ?_
  refine⟨s1.heap.objs.size,[s1.heap.objs.size],_,_,H1,rfl,I1.kept (t':=s1.toks) fun b o e=>Heap.get?_push_of_some _ e,zfw a _,⟨_,Heap.get?_push_size _ rfl,rfl,rfl⟩,fun b hb=>?_,q⟩
  have e:b=s1.heap.objs.size:=by simpa using hb
  subst e
  exact I1.fpOk (Nat.le_refl _) (I1.hok.fresh (Nat.le_refl _))
theorem zhE {pins:List (Addr × Obj)}{σ:St}{H:Hp}{s:Shared}{R:It→Hp→Prop}{E:Value→Shared→Prop}{lo hi:Int}{t u v:Tok}{tk:Nat}(I:Inv X pins σ H s) (h1:-(2 ^ 62)≤lo) (h2:lo<2 ^ 62) (h3:-(2 ^ 62)≤hi) (h4:hi<2 ^ 62)
    (q:R (Itr lo (hi-lo).toNat) H):wpAny (model X.prog X.w) X.A (pyIter (.ref s.heap.objs.size)) (PIE X pins σ tg R) E { s with heap:=s.heap.push { cls:=.type "range",data:=.fields #[.int lo t,.int hi u,.int 1 v] },toks:=tk }:=by
  refine wpAny_pyIter_range (IsRange.new ..) (small_one h1 h2 h3 h4) ?_
  have I1:Inv X pins σ H { s with heap:=s.heap.push { cls:=.type "range",data:=.fields #[.int lo t,.int hi u,.int 1 v] },toks:=tk }:=I.kept fun b o e=>Heap.get?_push_of_some _ e
  refine⟨(s.heap.push { cls:=.type "range",data:=.fields #[.int lo t,.int hi u,.int 1 v] }).objs.size,[(s.heap.push { cls:=.type "range",data:=.fields #[.int lo t,.int hi u,.int 1 v] }).objs.size],_,_,H,rfl,
    I1.kept (t':=tk) fun b o e=>Heap.get?_push_of_some _ e,zfx _ lo (hi-lo).toNat,?_,fun b hb=>?_,q⟩
  · have e1:lo+((0:Nat):Int)*1=lo:=by simp
    have e2:(((hi-lo).toNat:Nat):Int)-((0:Nat):Int)=Builtin.Range.rangeSize lo hi 1:=by rw[rangeSize_one];split<;>omega
    show IsRangeIter _ _ (lo+((0:Nat):Int)*1) ((((hi-lo).toNat:Nat):Int)-((0:Nat):Int)) 1
    rw[e1,e2]
    exact Heap.get?_push_size _ rfl
  · have e:b=(s.heap.push { cls:=.type "range",data:=.fields #[.int lo t,.int hi u,.int 1 v] }).objs.size:=by simpa using hb
    subst e
    exact I1.fpOk (Nat.le_refl _) (I1.hok.fresh (Nat.le_refl _))
def zkt (ta:TA):TI:=fun σ H R=>ta σ H fun vs H1=>∃ j:Int,vs=[.int j]∧-(2 ^ 62)≤j∧j<2 ^ 62∧R (Itr 0 j.toNat) H1
theorem zbr {a:Expr}{ta:TA}{p pos:Pos}(hg:Gl X "range") (hm:X.mg "range" = none) (ha:PA X [a] ta) (hs:starEach [a] X.env=[(false,eval a X.env)]:=by rfl):PI X tg (.Call (.Name "range" p) [a] [] pos) (zkt ta):=by
  intro pins s σ H R I h
  refine Call_ (zaR I hg hm boot_range (PyProof.Rows.callWith_type1 (thn (ha pos pins s σ H _ I h) fun us s1 ⟨vs,H1,I1,r1,q1⟩=>?_) hs rfl))
  obtain⟨j,e,q1,q2,q⟩:=q1
  subst e
  cases r1 with
  | cons r rr =>
    cases rr
    obtain⟨t,rfl⟩:=r
    exact call_range_1 (zhE I1 (by omega) (by omega) q1 q2 (by simpa using q))
def tFor (wi:TI) (g:TG) (tb:TS):TS:=fun D σ H=>wi σ H fun J H1=>∃ W:Nat→Nat→St→Hp→Prop,(∃ m,W 0 m σ H1)∧∀ i m σ H,W i m σ H →
  (J.stop i H∧D.nx σ H)∨(J.go i H∧∃ N:St→Hp→Prop,(∀ σ' H',N σ' H'→∃ m',m'<m∧W (i+1) m' σ' H')∧∀ x H',J.yld i H x H'→g x σ H' fun σ2 H2=>tb { D with nx:=N,ct:=N,bk:=D.nx } σ2 H2)
def zco (fp:List Addr) (h:Heap):List (Addr × Obj):=fp.filterMap fun b=>(h.get? b).map fun o=>(b,o)
theorem zaB {fp:List Addr}{h:Heap}{b:Addr}{o:Obj}(hb:b∈fp) (e:h.get? b=some o):(b,o)∈zco fp h:=List.mem_filterMap.mpr ⟨b,hb,by rw[e];rfl⟩
theorem zgP {fp:List Addr}{h:Heap}{p:Addr × Obj}(hp:p∈zco fp h):p.1∈fp∧h.get? p.1=some p.2:=by
  obtain⟨b,hb,e⟩:=List.mem_filterMap.mp hp
  cases q:h.get? b with
  | none=>rw[q]at e;cases e
  | some o =>
    rw[q]at e
    have e':(b,o)=p:=Option.some.inj e
    subst e'
    exact⟨hb,q⟩
theorem Inv.pinned {pins:List (Addr × Obj)}{σ:St}{H:Hp}{s:Shared}{fp:List Addr}(I:Inv X pins σ H s) (hf:∀ b∈fp,FpOk X pins H b) (ho:∀ b∈fp,∃ o,s.heap.get? b=some o∧∀ v,o.data≠.cell v):Inv X (pins++zco fp s.heap) σ H s :=
  I.pins_of fun p hp=>(List.mem_append.mp hp).elim (fun z=>I.pin p (List.mem_append_right _ z)) fun z=>by
    obtain⟨hb,e⟩:=zgP z
    obtain⟨f0,f1,f2,_⟩:=hf p.1 hb
    obtain⟨o,e',d⟩:=ho p.1 hb
    rw[e]at e';cases e'
    exact⟨e,f0,f1,f2,d⟩
theorem Inv.unpinned {pins pl:List (Addr × Obj)}{σ:St}{H:Hp}{s:Shared}(I:Inv X (pins++pl) σ H s):Inv X pins σ H s:=I.pins_of fun p hp=>I.pin p (List.mem_append_right _ (List.mem_append_left _ hp))
theorem zcG {iter:Expr}{body:List Stmt}{wi:TI}{g:TG}{tb:TS}{pos:Pos}(hp:PassesOwn (model X.prog X.w) X.A X.env X.xe) (hc:X.calm=true) (hi:PI X tg iter wi) (hg:PG X tg g) (hb:PSs X body tb)
    (hs:∀ x,foldedSetIterable iter X.env x=pure x:=by intro _;rfl):PS X (.For tg iter body [] pos) (tFor wi g tb):=by
  intro pins s σ H D I h
  refine wpAny_For (thn (hi pins s σ H _ I h) fun v s1 h1=>thn h1 fun itv s2 h2=>?_) hs
  obtain⟨it,fp,tn,J,H2,e,I2,T,st2,f2,W,⟨m0,w0⟩,turn⟩:=h2
  subst e
  have stat:∀ {H':Hp},(∀ b∈fp,H' b=none)→∀ b∈fp,FpOk X pins H' b:=fun hn b hb=>⟨hn b hb,(f2 b hb).2⟩
  refine codeAny_forLoop_any (fun n s'=>∃ i σ' H',Inv X pins σ' H' s'∧tn i s'.heap∧(∀ b∈fp,H' b=none)∧W i n σ' H') ?_ m0 ⟨0,σ,H2,I2,st2,fun b hb=>(f2 b hb).1,w0⟩
  rintro n s3 ⟨i,σ3,H3,I3,st3,fr3,w3⟩
  rcases turn i n σ3 H3 w3 with ⟨stop,qn⟩|⟨go,N,hN,step⟩
  · refine wpAny_passesOwn hp (thn (T.done X rfl rfl rfl hc i pins s3 σ3 H3 X.xe I3 (stat fr3) st3 stop) fun r s4 ⟨hr,I4⟩=>?_)
    subst hr
    exact wpAny_execs_nil ⟨σ3,H3,I4,qn⟩
  · refine wpAny_passesOwn hp (thn (T.item X rfl rfl rfl hc i pins s3 σ3 H3 X.xe I3 (stat fr3) st3 go) fun r s4 ⟨u,hr,h4⟩=>?_)
    subst hr
    refine wpAny_passesOwn hp (thn h4 fun _ s5 ⟨x,H5,I5,r5,y5,st5,fr5⟩=>?_)
    have I5':=I5.pinned (stat fr5) (T.obj _ _ st5)
    refine wpAny_passesOwn hp (thn (hg _ s5 σ3 H5 x u _ I5' r5 (step x H5 y5)) fun _ s6 ⟨σ6,H6,I6,q6⟩=>?_)
    refine wpAny_passesOwn hp (thn (hb _ s6 σ6 H6 _ I6 q6) fun f s7 q7=>?_)
    have again:∀ {σ7:St}{H7:Hp},Inv X (pins++zco fp s5.heap) σ7 H7 s7→N σ7 H7→∃ m,m<n∧∃ i σ' H',Inv X pins σ' H' s7∧tn i s7.heap∧(∀ b∈fp,H' b=none)∧W i m σ' H':=fun {σ7 H7} I7 n7=>by
      obtain⟨m',hm,w7⟩:=hN σ7 H7 n7
      refine⟨m',hm,i+1,σ7,H7,I7.unpinned,T.keep _ _ _ st5 fun b hb o e=>(I7.pin (b,o) (List.mem_append_right _ (List.mem_append_right _ (zaB hb e)))).1,fun b hb=>?_,w7⟩
      obtain⟨o,e,d⟩:=T.obj _ _ st5 b hb
      exact(I7.pin (b,o) (List.mem_append_right _ (List.mem_append_right _ (zaB hb e)))).2.1
    cases f with
    | next=>obtain⟨σ7,H7,I7,n7⟩:=q7;exact again I7 n7
    | cont=>obtain⟨σ7,H7,I7,n7⟩:=q7;exact again I7 n7
    | brk=>obtain⟨σ7,H7,I7,q7⟩:=q7;exact⟨σ7,H7,I7.unpinned,q7⟩
    | ret v=>obtain⟨x7,σ7,H7,I7,r7,q7⟩:=q7;exact⟨x7,σ7,H7,I7.unpinned,r7,q7⟩
end
theorem zh8 {K:PySem.W.Frag}{a:Addr}{xs:List V}{g:TG}{tb:TS}{D:Ends}{σ:St}{H:Hp}(Pv:Nat→St→Hp→Prop) (h0:Pv 0 σ H) (hl:∀ i σ H,i≤xs.length→Pv i σ H→SqL K H a xs)
    (hs:∀ i x σ H,xs[i]?=some x→Pv i σ H→g x σ H fun σ2 H2=>tb { D with nx:=Pv (i+1),ct:=Pv (i+1),bk:=D.nx } σ2 H2) (hd:∀ σ H,Pv xs.length σ H→D.nx σ H) :
    ∃ W:Nat→Nat→St→Hp→Prop,(∃ m,W 0 m σ H)∧∀ i m σ H,W i m σ H →
      ((Itl K a).stop i H∧D.nx σ H)∨((Itl K a).go i H∧∃ N:St→Hp→Prop,(∀ σ' H',N σ' H'→∃ m',m'<m∧W (i+1) m' σ' H')∧∀ x H',(Itl K a).yld i H x H'→g x σ H' fun σ2 H2=>tb { D with nx:=N,ct:=N,bk:=D.nx } σ2 H2):=by
  refine⟨fun i m σ H=>m=xs.length-i∧i≤xs.length∧Pv i σ H,⟨xs.length,by simp,Nat.zero_le _,h0⟩,?_⟩
  rintro i m σ H ⟨rfl,hi,p⟩
  have q:=hl i σ H hi p
  by_cases hlt:i<xs.length
  · refine .inr ⟨⟨xs,xs[i],q,by simp[hlt]⟩,Pv (i+1),fun σ' H' p'=>⟨xs.length-(i+1),by omega,rfl,hlt,p'⟩,fun x H' y=>?_⟩
    obtain⟨e,y⟩:=y
    subst e
    exact hs i x σ _ (y xs q) p
  · have e:i=xs.length:=by omega
    subst e
    exact .inl ⟨⟨xs,q,Nat.le_refl _⟩,hd σ H p⟩
theorem zg6 {K:PySem.W.Frag}{a:Addr}{xs:List V}{g:TG}{tb:TS}{D:Ends}{σ:St}{H:Hp}(Pv:Nat→St→Hp→Prop) (h0:Pv 0 σ H) (hl:∀ i σ H,i≤xs.length→Pv i σ H→SqT K H a xs)
    (hs:∀ i x σ H,xs[i]?=some x→Pv i σ H→g x σ H fun σ2 H2=>tb { D with nx:=Pv (i+1),ct:=Pv (i+1),bk:=D.nx } σ2 H2) (hd:∀ σ H,Pv xs.length σ H→D.nx σ H) :
    ∃ W:Nat→Nat→St→Hp→Prop,(∃ m,W 0 m σ H)∧∀ i m σ H,W i m σ H →
      ((Itt K a).stop i H∧D.nx σ H)∨((Itt K a).go i H∧∃ N:St→Hp→Prop,(∀ σ' H',N σ' H'→∃ m',m'<m∧W (i+1) m' σ' H')∧∀ x H',(Itt K a).yld i H x H'→g x σ H' fun σ2 H2=>tb { D with nx:=N,ct:=N,bk:=D.nx } σ2 H2):=by
  refine⟨fun i m σ H=>m=xs.length-i∧i≤xs.length∧Pv i σ H,⟨xs.length,by simp,Nat.zero_le _,h0⟩,?_⟩
  rintro i m σ H ⟨rfl,hi,p⟩
  have q:=hl i σ H hi p
  by_cases hlt:i<xs.length
  · refine .inr ⟨⟨xs,xs[i],q,by simp[hlt]⟩,Pv (i+1),fun σ' H' p'=>⟨xs.length-(i+1),by omega,rfl,hlt,p'⟩,fun x H' y=>?_⟩
    obtain⟨e,y⟩:=y
    subst e
    exact hs i x σ _ (y xs q) p
  · have e:i=xs.length:=by omega
    subst e
    exact .inl ⟨⟨xs,q,Nat.le_refl _⟩,hd σ H p⟩
theorem zb3 {lo:Int}{n:Nat}{g:TG}{tb:TS}{D:Ends}{σ:St}{H:Hp}(Pv:Nat→St→Hp→Prop) (h0:Pv 0 σ H)
    (hs:∀ i σ H,i<n→Pv i σ H→g (.int (lo+i)) σ H fun σ2 H2=>tb { D with nx:=Pv (i+1),ct:=Pv (i+1),bk:=D.nx } σ2 H2) (hd:∀ σ H,Pv n σ H→D.nx σ H) :
    ∃ W:Nat→Nat→St→Hp→Prop,(∃ m,W 0 m σ H)∧∀ i m σ H,W i m σ H →
      ((Itr lo n).stop i H∧D.nx σ H)∨((Itr lo n).go i H∧∃ N:St→Hp→Prop,(∀ σ' H',N σ' H'→∃ m',m'<m∧W (i+1) m' σ' H')∧∀ x H',(Itr lo n).yld i H x H'→g x σ H' fun σ2 H2=>tb { D with nx:=N,ct:=N,bk:=D.nx } σ2 H2):=by
  refine⟨fun i m σ H=>m=n-i∧i≤n∧Pv i σ H,⟨n,by simp,Nat.zero_le _,h0⟩,?_⟩
  rintro i m σ H ⟨rfl,hi,p⟩
  by_cases hlt:i<n
  · refine .inr ⟨hlt,Pv (i+1),fun σ' H' p'=>⟨n-(i+1),by omega,rfl,hlt,p'⟩,fun x H' y=>?_⟩
    obtain⟨e,y⟩:=y
    subst e y
    exact hs i σ _ hlt p
  · have e:i=n:=by omega
    subst e
    exact .inl ⟨Nat.le_refl _,hd σ H p⟩
abbrev R2:=V→V→Hp→VK→Prop
def OpR (X:Cx) (f:Value→Value→Sem Value) (r:R2):Prop :=
  ∀ (pins:List (Addr × Obj)) (s:Shared) (σ:St) (H:Hp) (x y:V) (v u:Value) (Q:VK),Inv X pins σ H s→RelV x v→RelV y u→r x y H Q →
    wpAny (model X.prog X.w) X.A (f v u) (EP X pins σ Q) X.xe s
def UnR (X:Cx) (f:Value→Sem Value) (r:V→Hp→VK→Prop):Prop :=
  ∀ (pins:List (Addr × Obj)) (s:Shared) (σ:St) (H:Hp) (x:V) (v:Value) (Q:VK),Inv X pins σ H s→RelV x v→r x H Q →
    wpAny (model X.prog X.w) X.A (f v) (EP X pins σ Q) X.xe s
def CallR (X:Cx) (f:Value) (r:List V→Hp→VK→Prop):Prop :=
  ∀ (pins:List (Addr × Obj)) (s:Shared) (σ:St) (H:Hp) (xs:List V) (us:List Value) (Q:VK),Inv X pins σ H s→Vals xs us→r xs H Q →
    wpAny (model X.prog X.w) X.A (call f us) (EP X pins σ Q) X.xe s
def TruR (X:Cx) (r:V→Hp→(Bool→Hp→Prop)→Prop):Prop :=
  ∀ (pins:List (Addr × Obj)) (s:Shared) (σ:St) (H:Hp) (x:V) (v:Value) (Q:Bool→Hp→Prop),Inv X pins σ H s→RelV x v→r x H Q →
    wpAny (model X.prog X.w) X.A (truthy v) (TP X pins σ Q) X.xe s
def tOp (r:R2) (ta tb:TE):TE:=fun σ H Q=>ta σ H fun x H1=>tb σ H1 fun y H2=>r x y H2 Q
def tUn (r:V→Hp→VK→Prop) (ta:TE):TE:=fun σ H Q=>ta σ H fun x H1=>r x H1 Q
def rI (C:Int→Int→Prop) (g:Int→Int→V):R2:=fun x y H Q=>∃ i j,x=.int i∧y=.int j∧C i j∧Q (g i j) H
def rI0 (g:Int→Int→V):R2:=fun x y H Q=>∃ i j,x=.int i∧y=.int j∧Q (g i j) H
def rU (g:Int→V):V→Hp→VK→Prop:=fun x H Q=>∃ i,x=.int i∧Q (g i) H
section
variable {X:Cx}{a b c:Expr}{ta tb tc:TE}{pos:Pos}
theorem binT (ha:PE X a ta) (hb:PE X b tb) {pins:List (Addr × Obj)}{s:Shared}{σ:St}{H:Hp}{R:V→V→Hp→Prop}(I:Inv X pins σ H s)
    (h:ta σ H fun x H1=>tb σ H1 fun y H2=>R x y H2) {Q:Value→Shared→Prop}{f:Value→Value→Sem Value}
    (hf:∀ v u s2 x y H2,Inv X pins σ H2 s2→RelV x v→RelV y u→R x y H2→wpAny (model X.prog X.w) X.A (f v u) Q X.xe s2) :
    wpAny (model X.prog X.w) X.A (eval a X.env) (fun v s₁=>wpAny (model X.prog X.w) X.A (eval b X.env) (fun u s₂=>wpAny (model X.prog X.w) X.A (f v u) Q X.xe s₂) X.xe s₁) X.xe s:=by
  refine thn (ha pins s σ H _ I h) fun v s1 ⟨x,H1,I1,r1,q1⟩=>?_
  refine thn (hb pins s1 σ H1 _ I1 q1) fun u s2 ⟨y,H2,I2,r2,q2⟩=>?_
  exact hf v u s2 x y H2 I2 r1 r2 q2
theorem pe_op {op:Operator}{r:R2}(ho:OpR X (binaryOp op) r) (ha:PE X a ta) (hb:PE X b tb):PE X (.BinOp a op b pos) (tOp r ta tb):=by
  intro pins s σ H Q I h
  exact wpAny_BinOp (binT ha hb I h fun v u s2 x y H2 I2 rx ry q=>ho pins s2 σ H2 x y v u Q I2 rx ry q)
theorem zjO {op:UnaryOp}{r:V→Hp→VK→Prop}(ho:UnR X (unaryOp op) r) (ha:PE X a ta):PE X (.UnaryOp op a pos) (tUn r ta):=by
  intro pins s σ H Q I h
  exact UnaryOp_ (thn (ha pins s σ H _ I h) fun v s1 ⟨x,H1,I1,r1,q1⟩=>ho pins s1 σ H1 x v Q I1 r1 q1)
theorem opI {f:Value→Value→Sem Value}{C:Int→Int→Prop}{g:Int→Int→Int}
    (rule:∀ (i j:Int) (t u:Tok) (s:Shared) (Q:Value→Shared→Prop) (E:Value→Shared→Prop),C i j→Q (.int (g i j) s.toks) { s with toks:=s.toks+1 }→wpAny (model X.prog X.w) X.A (f (.int i t) (.int j u)) Q E s) :
    OpR X f (rI C fun i j=>.int (g i j)):=by
  intro pins s σ H x y v u Q I rx ry h
  obtain⟨i,j,rfl,rfl,hc,q⟩:=h
  obtain⟨t,rfl⟩:=rx
  obtain⟨t',rfl⟩:=ry
  exact rule i j t t' s _ _ hc ⟨.int (g i j),H,I.tok _,⟨_,rfl⟩,q⟩
theorem opI0 {f:Value→Value→Sem Value}{g:Int→Int→Int}
    (rule:∀ (i j:Int) (t u:Tok) (s:Shared) (Q:Value→Shared→Prop) (E:Value→Shared→Prop),Q (.int (g i j) s.toks) { s with toks:=s.toks+1 }→wpAny (model X.prog X.w) X.A (f (.int i t) (.int j u)) Q E s) :
    OpR X f (rI0 fun i j=>.int (g i j)):=by
  intro pins s σ H x y v u Q I rx ry h
  obtain⟨i,j,rfl,rfl,q⟩:=h
  obtain⟨t,rfl⟩:=rx
  obtain⟨t',rfl⟩:=ry
  exact rule i j t t' s _ _ ⟨.int (g i j),H,I.tok _,⟨_,rfl⟩,q⟩
theorem opB0 {f:Value→Value→Sem Value}{g:Int→Int→Bool}
    (rule:∀ (i j:Int) (t u:Tok) (s:Shared) (Q:Value→Shared→Prop) (E:Value→Shared→Prop),Q (.bool (g i j)) s→wpAny (model X.prog X.w) X.A (f (.int i t) (.int j u)) Q E s) :
    OpR X f (rI0 fun i j=>.bl (g i j)):=by
  intro pins s σ H x y v u Q I rx ry h
  obtain⟨i,j,rfl,rfl,q⟩:=h
  obtain⟨t,rfl⟩:=rx
  obtain⟨t',rfl⟩:=ry
  exact rule i j t t' s _ _ ⟨.bl (g i j),H,I,rfl,q⟩
def CDiv (i j:Int):Prop:=0<j∧j<1073741824
def CPow (i j:Int):Prop:=0≤j∧j≤1000000∧i.natAbs<2 ^ 64
def CMul (i j:Int):Prop:=(-(2 ^ 64)<i∧i<2 ^ 64)∨(-(2 ^ 64)<j∧j<2 ^ 64)
theorem CMul.ok {i j:Int}(h:CMul i j):IntMulOk i j:=by
  rcases h with ⟨h1,h2⟩|⟨h1,h2⟩
  · exact .of_left (intBits_le_64 h1 h2)
  · exact .of_right (intBits_le_64 h1 h2)
theorem op_add:OpR X (binaryOp .Add) (rI0 fun i j=>.int (i+j)):=opI0 fun _ _ _ _ _ _ _ q=>add_int q
theorem zba:OpR X (binaryOp .Sub) (rI0 fun i j=>.int (i-j)):=opI0 fun _ _ _ _ _ _ _ q=>sub_int q
theorem op_mul:OpR X (binaryOp .Mult) (rI CMul fun i j=>.int (i*j)):=opI fun _ _ _ _ _ _ _ hc q=>mul_int q hc.ok
theorem zar:OpR X (binaryOp .FloorDiv) (rI CDiv fun i j=>.int (i / j)):=opI fun i j _ _ _ _ _ hc q=>by
  have h1:(0:Int)<j:=hc.1
  have h2:j<1073741824:=hc.2
  exact floordiv_int (by omega) (by rw[Int.fdiv_eq_ediv_of_nonneg i (by omega)];exact q) (.inl (PyProof.noPylong_small (by omega)))
theorem op_mod:OpR X (binaryOp .Mod) (rI (fun _ j=>0<j) fun i j=>.int (i%j)):=opI fun i j _ _ _ _ _ hc q=>by
  have h1:(0:Int)<j:=hc
  exact mod_int' (by omega) (by rw[Int.fmod_eq_emod_of_nonneg i (by omega)];exact q)
theorem zjU:OpR X (binaryOp .Pow) (rI CPow fun i j=>.int (i ^ j.toNat)):=opI fun _ _ _ _ _ _ _ hc q=>pow_int_small hc.1 hc.2.1 hc.2.2 q
theorem zjT:OpR X (binaryOp .LShift) (rI CPow fun i j=>.int (i*2 ^ j.toNat)):=opI fun _ _ _ _ _ _ _ hc q=>lshift_int_small hc.1 hc.2.1 hc.2.2 q
theorem zjj:OpR X (inplaceOp .Mult) (rI CMul fun i j=>.int (i*j)):=opI fun _ _ _ _ _ _ _ hc q=>imul_int q hc.ok
theorem unI {f:Value→Sem Value}{g:Int→Int}
    (rule:∀ (i:Int) (t:Tok) (s:Shared) (Q:Value→Shared→Prop) (E:Value→Shared→Prop),Q (.int (g i) s.toks) { s with toks:=s.toks+1 }→wpAny (model X.prog X.w) X.A (f (.int i t)) Q E s) :
    UnR X f (rU fun i=>.int (g i)):=by
  intro pins s σ H x v Q I rx h
  obtain⟨i,rfl,q⟩:=h
  obtain⟨t,rfl⟩:=rx
  exact rule i t s _ _ ⟨.int (g i),H,I.tok _,⟨_,rfl⟩,q⟩
theorem zib:UnR X (unaryOp .USub) (rU fun i=>.int (-i)):=unI fun _ _ _ _ _ q=>neg_int q
end
def scal:V→V→Bool
  | .non,.non=>true|.non,.int _=>true|.int _,.non=>true|.non,.bl _=>true|.bl _,.non=>true|.non,.str _=>true|.str _,.non=>true
  | .int _,.int _=>true|.bl _,.bl _=>true|.str _,.str _=>true|.byt _,.byt _=>true
  | .int _,.str _=>true|.str _,.int _=>true|.bl _,.str _=>true|.str _,.bl _=>true
  | _,_=>false
def rEq:R2:=fun x y H Q=>scal x y=true∧Q (.bl (decide (x=y))) H
def rNe:R2:=fun x y H Q=>scal x y=true∧Q (.bl (!decide (x=y))) H
theorem zhc {i j:Int}:decide (V.int i=V.int j)=(i == j):=by
  rw[Bool.eq_iff_iff]
  simp
theorem zil {i j:Bool}:decide (V.bl i=V.bl j)=(i == j):=by
  rw[Bool.eq_iff_iff]
  simp
theorem zhb {i j:Str}:decide (V.str i=V.str j)=(i == j):=by
  rw[Bool.eq_iff_iff]
  simp
theorem zhd {i j:Array UInt8}:decide (V.byt i=V.byt j)=(i.toList == j.toList):=by
  rw[Bool.eq_iff_iff]
  cases i
  cases j
  simp
section
variable {X:Cx}{a b c:Expr}{ta tb tc:TE}{pos:Pos}
theorem zap {pins:List (Addr × Obj)}{σ:St}{H:Hp}{s:Shared}{Q:VK}{k k':Bool}(I:Inv X pins σ H s) (q:Q (.bl k) H) (e:k=k'):EP X pins σ Q (.bool k') s:=by
  subst e
  exact⟨.bl k,H,I,rfl,q⟩
theorem zaS:OpR X (compareOp .Eq) rEq:=by
  intro pins s σ H x y v u Q I rx ry h
  obtain⟨hs,q⟩:=h
  cases x with
  | non =>
    cases rx
    cases y with
    | non=>cases ry;exact PySem.EqNone.eq_none_none (zap I q (by simp))
    | bl j=>cases ry;exact PySem.EqNone.eq_none_bool (zap I q (by simp))
    | int j=>obtain⟨t',rfl⟩:=ry;exact PySem.EqNone.eq_none_int (zap I q (by simp))
    | str j=>obtain⟨t',rfl⟩:=ry;exact PySem.EqNone.eq_none_str (zap I q (by simp))
    | _=>exact absurd (show false=true from hs) Bool.false_ne_true
  | bl i =>
    cases rx
    cases y with
    | non=>cases ry;exact PySem.EqNone.eq_bool_none (zap I q (by simp))
    | bl j=>cases ry;exact eq_bool (zap I q zil)
    | str j=>obtain⟨t',rfl⟩:=ry;exact PySem.EqMixed.eq_bool_str (zap I q (by simp))
    | _=>exact absurd (show false=true from hs) Bool.false_ne_true
  | int i =>
    obtain⟨t,rfl⟩:=rx
    cases y with
    | non=>cases ry;exact PySem.EqNone.eq_int_none (zap I q (by simp))
    | int j=>obtain⟨t',rfl⟩:=ry;exact eq_int (zap I q zhc)
    | str j=>obtain⟨t',rfl⟩:=ry;exact PySem.EqMixed.eq_int_str (zap I q (by simp))
    | _=>exact absurd (show false=true from hs) Bool.false_ne_true
  | str i =>
    obtain⟨t,rfl⟩:=rx
    cases y with
    | non=>cases ry;exact PySem.EqNone.eq_str_none (zap I q (by simp))
    | bl j=>cases ry;exact PySem.EqMixed.eq_str_bool (zap I q (by simp))
    | int j=>obtain⟨t',rfl⟩:=ry;exact PySem.EqMixed.eq_str_int (zap I q (by simp))
    | str j=>obtain⟨t',rfl⟩:=ry;exact eq_str (zap I q zhb)
    | _=>exact absurd (show false=true from hs) Bool.false_ne_true
  | byt i =>
    obtain⟨t,rfl⟩:=rx
    cases y with
    | byt j=>obtain⟨t',rfl⟩:=ry;exact PySem.W.eq_bytes (zap I q zhd)
    | _=>exact absurd (show false=true from hs) Bool.false_ne_true
  | _=>cases y<;>exact absurd (show false=true from hs) Bool.false_ne_true
theorem op_ne:OpR X (compareOp .NotEq) rNe:=by
  intro pins s σ H x y v u Q I rx ry h
  obtain⟨hs,q⟩:=h
  cases x with
  | non =>
    cases rx
    cases y with
    | non=>cases ry;exact PySem.EqNone.ne_none_none (zap I q (by simp))
    | bl j=>cases ry;exact PySem.EqNone.ne_none_bool (zap I q (by simp))
    | int j=>obtain⟨t',rfl⟩:=ry;exact PySem.EqNone.ne_none_int (zap I q (by simp))
    | str j=>obtain⟨t',rfl⟩:=ry;exact PySem.EqNone.ne_none_str (zap I q (by simp))
    | _=>exact absurd (show false=true from hs) Bool.false_ne_true
  | bl i =>
    cases rx
    cases y with
    | non=>cases ry;exact PySem.EqNone.ne_bool_none (zap I q (by simp))
    | bl j=>cases ry;exact ne_bool (zap I q (congrArg not zil))
    | str j=>obtain⟨t',rfl⟩:=ry;exact PySem.EqMixed.ne_bool_str (zap I q (by simp))
    | _=>exact absurd (show false=true from hs) Bool.false_ne_true
  | int i =>
    obtain⟨t,rfl⟩:=rx
    cases y with
    | non=>cases ry;exact PySem.EqNone.ne_int_none (zap I q (by simp))
    | int j=>obtain⟨t',rfl⟩:=ry;exact ne_int (zap I q (congrArg not zhc))
    | str j=>obtain⟨t',rfl⟩:=ry;exact PySem.EqMixed.ne_int_str (zap I q (by simp))
    | _=>exact absurd (show false=true from hs) Bool.false_ne_true
  | str i =>
    obtain⟨t,rfl⟩:=rx
    cases y with
    | non=>cases ry;exact PySem.EqNone.ne_str_none (zap I q (by simp))
    | bl j=>cases ry;exact PySem.EqMixed.ne_str_bool (zap I q (by simp))
    | int j=>obtain⟨t',rfl⟩:=ry;exact PySem.EqMixed.ne_str_int (zap I q (by simp))
    | str j=>obtain⟨t',rfl⟩:=ry;exact ne_str (zap I q (congrArg not zhb))
    | _=>exact absurd (show false=true from hs) Bool.false_ne_true
  | byt i =>
    obtain⟨t,rfl⟩:=rx
    cases y with
    | byt j=>obtain⟨t',rfl⟩:=ry;exact PySem.W.ne_bytes (zap I q (congrArg not zhd))
    | _=>exact absurd (show false=true from hs) Bool.false_ne_true
  | _=>cases y<;>exact absurd (show false=true from hs) Bool.false_ne_true
theorem zgD:OpR X (compareOp .Lt) (rI0 fun i j=>.bl (decide (i<j))):=opB0 fun _ _ _ _ _ _ _ q=>lt_int q
theorem ziV:OpR X (compareOp .LtE) (rI0 fun i j=>.bl (decide (i≤j))):=opB0 fun _ _ _ _ _ _ _ q=>le_int q
theorem zdL:OpR X (compareOp .Gt) (rI0 fun i j=>.bl (decide (j<i))):=opB0 fun _ _ _ _ _ _ _ q=>gt_int q
theorem ziW:OpR X (compareOp .GtE) (rI0 fun i j=>.bl (decide (j≤i))):=opB0 fun _ _ _ _ _ _ _ q=>ge_int q
theorem zif:OpR X (compareOp .Is) (fun x y H Q=>y=.non∧Q (.bl (decide (x=.non))) H):=by
  intro pins s σ H x y v u Q I rx ry h
  obtain⟨rfl,q⟩:=h
  cases ry
  refine is_none_gen (zap I q ?_)
  cases x<;>first
    | (cases rx;rfl)
    | (obtain⟨t,rfl⟩:=rx;rfl)
theorem zeO:OpR X (compareOp .IsNot) (fun x y H Q=>y=.non∧Q (.bl (!decide (x=.non))) H):=by
  intro pins s σ H x y v u Q I rx ry h
  obtain⟨rfl,q⟩:=h
  cases ry
  refine isnot_none_gen (zap I q ?_)
  cases x<;>first
    | (cases rx;rfl)
    | (obtain⟨t,rfl⟩:=rx;rfl)
theorem nomark (b:Expr) {op:CmpOp}(h:op≠.In:=by decide) (h2:op≠.NotIn:=by decide):behindInMarks op b=false:=by
  have e1:(op == CmpOp.In)=false:=by cases op<;>first|rfl|exact absurd rfl h
  have e2:(op == CmpOp.NotIn)=false:=by cases op<;>first|rfl|exact absurd rfl h2
  cases b<;>simp[behindInMarks,e1,e2]
theorem pe_cmpR {op:CmpOp}{r:R2}(ho:OpR X (compareOp op) r) (ha:PE X a ta) (hb:PE X b tb) (hm:behindInMarks op b=false):PE X (.Compare a [op] [b] pos) (tOp r ta tb):=by
  intro pins s σ H Q I h
  exact wpAny_Compare1 (binT ha hb I h fun v u s2 x y H2 I2 rx ry q=>ho pins s2 σ H2 x y v u Q I2 rx ry q) hm
def zke (t:TE):TT:=fun σ H Q=>t σ H fun x H'=>∃ k,x=.bl k∧Q k H'
theorem pt_cmpR {op:CmpOp}{r:R2}(ho:OpR X (compareOp op) r) (ha:PE X a ta) (hb:PE X b tb) (hm:behindInMarks op b=false):PT X (.Compare a [op] [b] pos) (zke (tOp r ta tb)):=by
  intro pins s σ H Q I h
  refine wpAny_isTrue_Compare1 (thn (ha pins s σ H _ I h) fun v s1 ⟨x,H1,I1,r1,q1⟩=>thn (hb pins s1 σ H1 _ I1 q1) fun u s2 ⟨y,H2,I2,r2,q2⟩ =>
    thn (ho pins s2 σ H2 x y v u _ I2 r1 r2 q2) fun c s3 ⟨z,H3,I3,r3,k,e,q3⟩=>?_) hm
  subst e
  cases r3
  exact wpAny_truthy_bool ⟨H3,I3,q3⟩
def TruV (K:PySem.W.Frag) (x:V) (H:Hp) (k:Bool):Prop :=
  match x with
  | .non=>k=false
  | .bl b=>k=b
  | .int i=>k=(i != 0)
  | .str y=>y.length≤sizeLine∧k=((y.length:Int) != 0)
  | .byt y=>y.size≤sizeLine∧k=((y.size:Int) != 0)
  | .ref p=>(∃ xs,SqL K H p xs∧k = !xs.isEmpty)∨(∃ xs,SqT K H p xs∧k = !xs.isEmpty)∨∃ kvs,H p=some (.dK kvs)∧k = !kvs.isEmpty
  | _=>False
theorem zfO {κ:Type}{kvs:List (κ × V)}{vs:List (κ × Value)}(r:KV kvs vs):(!vs.isEmpty) = !kvs.isEmpty:=by
  cases r<;>rfl
theorem zdj {xs:List V}{its:List Value}(r:Vals xs its):(!its.toArray.isEmpty) = !xs.isEmpty:=by
  cases r<;>simp
theorem zen:(sizeLine:Nat)<2 ^ 63:=by rw[sizeLine_eq];decide
theorem zjy:TruR X (fun x H Q=>∃ k,TruV X.K x H k∧Q k H):=by
  intro pins s σ H x v Q I rx h
  obtain⟨k,e,q⟩:=h
  have hl:=zen
  have hs:sizeLine=16777216:=sizeLine_eq
  cases x with
  | non =>
    cases rx
    have e':k=false:=e
    subst e'
    exact truthy_none ⟨H,I,q⟩
  | bl b =>
    cases rx
    have e':k=b:=e
    subst e'
    exact wpAny_truthy_bool ⟨H,I,q⟩
  | int i =>
    obtain⟨t,rfl⟩:=rx
    have e':k=(i != 0):=e
    subst e'
    exact PySem.P.truthy_int ⟨H,I,q⟩
  | str y =>
    obtain⟨t,rfl⟩:=rx
    obtain⟨hy,e'⟩:y.length≤sizeLine∧k=((y.length:Int) != 0):=e
    subst e'
    exact PySem.P.truthy_str (by omega) ⟨H,I.tok _,q⟩
  | byt y =>
    obtain⟨t,rfl⟩:=rx
    obtain⟨hy,e'⟩:y.size≤sizeLine∧k=((y.size:Int) != 0):=e
    subst e'
    exact PySem.W.truthy_bytes (by omega) ⟨H,I.tok _,q⟩
  | ref p =>
    cases rx
    have e':(∃ xs,SqL X.K H p xs∧k = !xs.isEmpty)∨(∃ xs,SqT X.K H p xs∧k = !xs.isEmpty)∨∃ kvs,H p=some (.dK kvs)∧k = !kvs.isEmpty:=e
    rcases e' with ⟨xs,hx,e'⟩|⟨xs,hx,e'⟩|⟨kvs,hx,e'⟩
    · subst e'
      obtain⟨its,r,pl,hz⟩:=I.list hx
      have hlen:=r.length
      exact wpAny_truthy_list pl.isList (by simp only[List.size_toArray];omega) ⟨H,I.tok _,by rw[zdj r];exact q⟩
    · subst e'
      obtain⟨its,r,pl,hz⟩:=I.tuple hx
      have hlen:=r.length
      exact truthy_tuple pl (by simp only[List.size_toArray];omega) ⟨H,I.tok _,by rw[zdj r];exact q⟩
    · subst e'
      obtain⟨hz,hS,vs,r,m⟩:kvs.length≤sizeLine∧(p == sysModules)=false∧∃ vs,KV kvs vs∧s.heap.DictOf (zeS X.prog X.w) p vs:=I.hok p _ hx
      have hlen:kvs.length=vs.length:=Paired.length r
      exact wpAny_truthy_dict hS m (by omega) ⟨H,I.tok _,by rw[zfO r];exact q⟩
  | _=>exact(show False from e).elim
theorem zfE:OpR X (binaryOp .Add) (fun x y H Q=>∃ i j,x=.str i∧y=.str j∧i.length+j.length≤sizeLine∧Q (.str (i++j)) H):=by
  intro pins s σ H x y v u Q I rx ry h
  obtain⟨i,j,rfl,rfl,hz,q⟩:=h
  obtain⟨t,rfl⟩:=rx
  obtain⟨t',rfl⟩:=ry
  exact add_str (fun t' tk=>⟨.str (i++j),H,I.tok _,⟨_,rfl⟩,q⟩) hz
theorem zfu {x:V}{us:List Value}(r:Vals [x] us):∃ u,us=[u]∧RelV x u:=by
  cases r with
  | cons r1 r2=>cases r2;exact⟨_,rfl,r1⟩
theorem zjx {x y:V}{us:List Value}(r:Vals [x,y] us):∃ u w',us=[u,w']∧RelV x u∧RelV y w':=by
  cases r with
  | cons r1 r2 =>
    cases r2 with
    | cons r3 r4=>cases r4;exact⟨_,_,rfl,r1,r3⟩
theorem zb7 (hc:X.calm=true):CallR X (.builtin "max") (fun xs H Q=>∃ i j,xs=[.int i,.int j]∧Q (.int (if j > i then j else i)) H):=by
  intro pins s σ H xs us Q I r h
  obtain⟨i,j,rfl,q⟩:=h
  obtain⟨u,w',rfl,⟨t,rfl⟩,⟨t',rfl⟩⟩:=zjx r
  refine max_two_ints (I.ok.hd hc) fun h' tk k=>⟨_,H,I.kept k,?_,q⟩
  by_cases hj:j > i
  · rw[if_pos hj,if_pos hj];exact⟨_,rfl⟩
  · rw[if_neg hj,if_neg hj];exact⟨_,rfl⟩
theorem zes (hc:X.calm=true):CallR X (.builtin "min") (fun xs H Q=>∃ i j,xs=[.int i,.int j]∧Q (.int (if j<i then j else i)) H):=by
  intro pins s σ H xs us Q I r h
  obtain⟨i,j,rfl,q⟩:=h
  obtain⟨u,w',rfl,⟨t,rfl⟩,⟨t',rfl⟩⟩:=zjx r
  refine min_two_ints (I.ok.hd hc) fun h' tk k=>⟨_,H,I.kept k,?_,q⟩
  by_cases hj:j<i
  · rw[if_pos hj,if_pos hj];exact⟨_,rfl⟩
  · rw[if_neg hj,if_neg hj];exact⟨_,rfl⟩
theorem zeu:CallR X (.type "int") (fun xs H Q=>(∃ i,xs=[.int i]∧Q (.int i) H)∨∃ k,xs=[.bl k]∧Q (.int (if k then 1 else 0)) H):=by
  intro pins s σ H xs us Q I r h
  rcases h with ⟨i,rfl,q⟩|⟨k,rfl,q⟩
  · obtain⟨u,rfl,t,rfl⟩:=zfu r
    exact call_int_int ⟨.int i,H,I,⟨_,rfl⟩,q⟩
  · obtain⟨u,rfl,r1⟩:=zfu r
    cases r1
    exact call_int_bool ⟨.int (if k then 1 else 0),H,I.tok _,⟨_,rfl⟩,q⟩
end
structure ObjM (h:Heap) (x dx C:Addr) (mA:Str→Option Value):Prop where
  obj:h.get? x=some (PySem.W.instObj C dx)
  ns:h.Ns1 dx mA
  ne:dx≠x
theorem zgW {h:Heap}{dx:Addr}{mA:Str→Option Value}(n:h.Ns1 dx mA):∃ od,h.get? dx=some od∧∀ name,PySem.W.lookIn name od=some (mA name):=by
  obtain⟨o,es,ep,ho,hd,hk,_,hm⟩:=n
  refine⟨o,ho,fun name=>?_⟩
  have e:=hm name
  unfold nsFind findBy at e
  rw[← Array.find?_toList]at e
  unfold PySem.W.lookIn
  rw[hd]
  dsimp only
  split
  · rename_i y q
    rw[q]at e
    exact congrArg some e
  · rename_i q
    rw[q]at e
    have a:es.toList.any (·.refKey)=false:=by
      rw[List.any_eq_false]
      intro y hy
      obtain⟨z,t,hkey⟩:=hk y (Array.mem_toList_iff.mp hy)
      simp[DictEntry.refKey,hkey]
    have a':¬ es.toList.any (·.refKey)=true:=by rw[a];exact Bool.false_ne_true
    rw[if_neg a']
    exact congrArg some e
theorem ObjM.look {h:Heap}{x dx C:Addr}{mA:Str→Option Value}(I:ObjM h x dx C mA):∃ od,PySem.W.InstAt h x (PySem.W.instObj C dx) C (some od)∧∀ name,PySem.W.lookIn name od=some (mA name) :=
  let ⟨od,ho,hl⟩:=zgW I.ns
  ⟨od,⟨I.obj,rfl,rfl,ho⟩,hl⟩
section
variable {prog:Program}{w:World}{A:Around}{E:Value→Shared→Prop}{s:Shared}{K:PySem.W.Frag}{x dx C f:Addr}{mA:Str→Option Value}{name:Str}{v:Value}
end
section
variable {P:Program}{w:World}{H H':Hp}{h h':Heap}{a C dx:Addr}{fs fs':List (Str × V)}
theorem zjk (hok:HOk P w H h) (e:H a=some (.ins C dx fs)):∃ mA,ObjM h a dx C mA∧(∀ f,RelO (fs.lookup f) (mA f))∧PySem.Within mA (fs.map (·.1))∧fs.length≤1000∧H dx=some (.own a):=by
  obtain⟨d,z,ne,ob,mA,n,r,q⟩:=(show ObjOk P w H h a (.ins C dx fs) from hok a _ e)
  exact⟨mA,⟨ob,n,ne⟩,r,q,z,d⟩
end
structure Cls (K:PySem.W.Frag) (C:Addr):Prop where
  pg:PySem.W.plainGet K C Str.empty=true
  hd:PySem.W.hasDictIn K C=true
  po:PySem.W.plainOver K C=true
  sa:PySem.W.findIn K (.ref C) "__setattr__" = some (some (.builtin "object.__setattr__"))
theorem Cls.get {K:PySem.W.Frag}{C:Addr}(c:Cls K C) (f:Str):PySem.W.plainGet K C f=true:=c.pg
section
variable {X:Cx}{pins:List (Addr × Obj)}{σ:St}{H:Hp}{s:Shared}{a C dx:Addr}{fs:List (Str × V)}{f:Str}{v:V}{A:Around}{E:Value→Shared→Prop}
end
section
variable {X:Cx}{o e value:Expr}{f:Str}{pos pos' tpos:Pos}{ta tv:TE}
end
section
variable {X:Cx}{pins:List (Addr × Obj)}{σ:St}{H:Hp}{s:Shared}{A:Around}{E:Value→Shared→Prop}{Q:Value→Shared→Prop}{c:Value}{b:Bool}
inductive TyOf (K:PySem.W.Frag) (H:Hp):V→Value→Prop where
  | non:TyOf K H .non (.type "NoneType")
  | bl (x:Bool):TyOf K H (.bl x) (.type "bool")
  | int (i:Int):TyOf K H (.int i) (.type "int")
  | str (x:Str):TyOf K H (.str x) (.type "str")
  | flt (x:UInt64):TyOf K H (.flt x) (.type "float")
  | lst {a:Addr}{xs:List V}(e:H a=some (.lst xs)):TyOf K H (.ref a) (.type "list")
  | frz {a:Addr}{o:Obj}{xs:List V}(e:H a=some (.frz o (.lst xs))):TyOf K H (.ref a) (.type "list")
  | tup {a:Addr}{xs:List V}(e:H a=some (.tup xs)):TyOf K H (.ref a) (.type "tuple")
  | dK {a:Addr}{kvs:List (Key × V)}(e:H a=some (.dK kvs)):TyOf K H (.ref a) (.type "dict")
  | dT {a:Addr}{kvs:List (List Key × V)}(e:H a=some (.dT kvs)):TyOf K H (.ref a) (.type "dict")
  | ins {a C dx:Addr}{fs:List (Str × V)}(e:H a=some (.ins C dx fs)) (cl:Cls K C) (ha:PySem.W.findIn K (.ref C) "__class__" = some (some (.builtin "object.__class__")))
      (hn:PySem.W.specialIn K (.builtin "object.__class__") "__get__" = some (some (.builtin "getset_descriptor.__get__"))) (htk:PySem.W.takesIn K (.builtin "object.__class__")=some true)
      (hm:PySem.W.mroIn K C (.type "object")=some true):TyOf K H (.ref a) (.ref C)
theorem zg1 {x:V}{u t:Value}(I:Inv X pins σ H s) (rx:RelV x u) (ty:TyOf X.K H x t) (e:PySem.W.kitOne X.K t c=some b) (h:∀ tk,Q (.bool b) { s with toks:=tk }) :
    wpAny (model X.prog X.w) A (call (.builtin "isinstance") [u,c]) Q E s:=by
  cases ty with
  | non=>cases (show u=Value.none from rx);exact PySem.W.kia_one PySem.W.kitx_none I.kIn True.intro e (fun z=>nomatch z) h
  | bl y=>cases (show u=Value.bool y from rx);exact PySem.W.kia_one PySem.W.kitx_bool I.kIn True.intro e (fun z=>nomatch z) h
  | int i=>obtain⟨t,q⟩:=(show ∃ t,u=Value.int i t from rx);cases q;exact PySem.W.kia_one PySem.W.kitx_int I.kIn True.intro e (fun z=>nomatch z) h
  | str y=>obtain⟨t,q⟩:=(show ∃ t,u=Value.str y t from rx);cases q;exact PySem.W.kia_one PySem.W.kitx_str I.kIn True.intro e (fun z=>nomatch z) h
  | flt y=>obtain⟨t,q⟩:=(show ∃ t,u=Value.float y t from rx);cases q;exact PySem.W.kia_one PySem.W.kitx_float I.kIn True.intro e (fun z=>nomatch z) h
  | @lst a xs ea =>
    cases (show u=Value.ref a from rx)
    obtain⟨_,_,n,_,h1⟩:=(show ObjOk X.prog X.w H s.heap a (.lst xs) from I.hok a _ ea)
    exact PySem.W.kia_one PySem.W.kitx_list I.kIn ⟨_,h1,rfl⟩ e (fun z=>nomatch z) h
  | @frz a ob xs ea =>
    cases (show u=Value.ref a from rx)
    obtain⟨_,_,_,n,_,h1⟩:=(show ObjOk X.prog X.w H s.heap a (.frz ob (.lst xs)) from I.hok a _ ea)
    exact PySem.W.kia_one PySem.W.kitx_list I.kIn ⟨_,h1,rfl⟩ e (fun z=>nomatch z) h
  | @tup a xs ea =>
    cases (show u=Value.ref a from rx)
    obtain⟨_,_,_,p'⟩:=(show ObjOk X.prog X.w H s.heap a (.tup xs) from I.hok a _ ea)
    have p:=p'.tup
    obtain⟨o,h1,h2,_⟩:=p
    exact PySem.W.kia_one PySem.W.kitx_tuple I.kIn ⟨o,h1,h2⟩ e (fun z=>nomatch z) h
  | @dK a kvs ea =>
    cases (show u=Value.ref a from rx)
    obtain⟨_,_,vs,_,p⟩:=(show ObjOk X.prog X.w H s.heap a (.dK kvs) from I.hok a _ ea)
    obtain⟨o,es,ep,h1,h2,_⟩:=p
    exact PySem.W.kia_one PySem.W.kitx_dict I.kIn ⟨o,h1,h2.1⟩ e (fun z=>nomatch z) h
  | @dT a kvs ea =>
    cases (show u=Value.ref a from rx)
    obtain⟨_,_,xs,_,o,es,ep,h1,h2,_⟩:=(show ObjOk X.prog X.w H s.heap a (.dT kvs) from I.hok a _ ea)
    exact PySem.W.kia_one PySem.W.kitx_dict I.kIn ⟨o,h1,h2.1⟩ e (fun z=>nomatch z) h
  | @ins a C dx fs ea cl ha hn htk hm =>
    cases (show u=Value.ref a from rx)
    obtain⟨mA,O,_⟩:=zjk I.hok ea
    obtain⟨od,J,_⟩:=O.look
    exact PySem.W.kia_one (PySem.W.kitx_own (cl.get _) cl.hd ha hn htk hm) I.kIn J e (fun z=>nomatch z) h
end
structure Room (k:Nat) (A:Around):Prop where
  hd:A.handled=none
  dp:A.depth+3*k+5<recursionLimit
  un:A.units+16*k+200<cLine
  gd:A.guards=some []
theorem Room.mono {j k:Nat}{A:Around}(r:Room k A) (h:j≤k):Room j A:=⟨r.hd,by have:=r.dp;omega,by have:=r.un;omega,r.gd⟩
theorem Room.deeper {k:Nat}{A:Around}(r:Room (k+1) A) (env:Env):Room k (A.deeper env) :=
  ⟨r.hd,by have:=r.dp;show A.depth+1+3*k+5<_;omega,by have:=r.un;show A.units+3+16*k+200<_;omega,r.gd⟩
theorem Room.depth {k:Nat}{A:Around}(r:Room k A):A.depth<recursionLimit:=by have:=r.dp;omega
theorem Room.units {k:Nat}{A:Around}(r:Room k A):A.units+64<cLine:=by have:=r.un;omega
def tNil:TA:=fun _ H Q=>Q [] H
def zkh (ta:TE) (tr:TA):TA:=fun σ H Q=>ta σ H fun x H1=>tr σ H1 fun xs H2=>Q (x::xs) H2
section
variable {X:Cx}{e:Expr}{es:List Expr}{te:TE}{t:TA}{pos:Pos}
theorem pa_nil:PA X [] tNil:=fun _ _ _ _ H Q I h=>Calls.spliced_nil ⟨[],H,I,.nil,h⟩
theorem pa_cons (ha:PE X e te) (hr:PA X es t) (hs:starEach (e::es) X.env=(false,eval e X.env)::starEach es X.env:=by rfl):PA X (e::es) (zkh te t):=by
  intro pos pins s σ H Q I h
  rw[hs]
  show wpAny _ _ (spliced ((false,eval e X.env)::backTo pos (starEach es X.env))) _ _ s
  refine Calls.spliced_cons (thn (ha pins s σ H _ I h) fun u s1 ⟨x,H1,I1,r1,q1⟩=>?_)
  exact thn (hr pos pins s1 σ H1 _ I1 q1) fun us s2 ⟨xs,H2,I2,r2,q2⟩=>⟨x::xs,H2,I2,.cons r1 r2,q2⟩
def tTup (t:TA):TE:=fun σ H Q=>t σ H fun xs H1=>xs.length≤sizeLine∧∀ p,H1 p=none→Q (.ref p) (upd H1 p (.tup xs))
def tLst (t:TA):TE:=fun σ H Q=>t σ H fun xs H1=>xs.length≤sizeLine∧∀ p,H1 p=none→Q (.ref p) (upd H1 p (.lst xs))
theorem pe_tup {x1} (h:PA X es t):PE X (.Tuple es x1 pos) (tTup t):=by
  intro pins s σ H Q I hq
  refine wpAny_Tuple_spliced (thn (h pos pins s σ H _ I hq) fun us s1 ⟨xs,H1,I1,r,z,q⟩=>⟨by rw[← r.length];exact z,?_⟩)
  have hf:H1 s1.heap.objs.size=none:=I1.hok.fresh (Nat.le_refl _)
  refine⟨.ref s1.heap.objs.size,upd H1 s1.heap.objs.size (.tup xs),I1.laid (t':=s1.toks) (fun b u e=>Heap.get?_push_of_some _ e) (Nat.le_refl _) ?_,rfl,q _ hf⟩
  exact⟨z,us,r,TupX.new _ _⟩
theorem zay (h:PA X es t):PE X (.List es pos) (tLst t):=by
  intro pins s σ H Q I hq
  refine wpAny_List_spliced (thn (h pos pins s σ H _ I hq) fun us s1 ⟨xs,H1,I1,r,z,q⟩=>⟨by rw[← r.length];exact z,?_⟩)
  have hf:H1 s1.heap.objs.size=none:=I1.hok.fresh (Nat.le_refl _)
  refine⟨.ref s1.heap.objs.size,upd H1 s1.heap.objs.size (.lst xs),I1.laid (t':=s1.toks) (fun b u e=>Heap.get?_push_of_some _ e) (Nat.le_refl _) ?_,rfl,q _ hf⟩
  exact⟨z,us,0,r,Heap.get?_push_size _ rfl⟩
end
abbrev Sp:=List V→Hp→VK→XK→Prop
abbrev CXT:=List Env→Hp→Shared→XK→Value→Shared→Prop
structure Env0 (P:Program) (w:World) (K:PySem.W.Frag) (mg:Str→Option Value) (base:Heap) (A:Around) (outer:List Env) (s:Shared) (H:Hp):Prop where
  frames:A.frames=some outer
  mod:Mod K mg base
  bs:∀ b o,base.get? b=some o→s.heap.get? b=some o∧H b=none
  bsz:base.objs.size≤s.heap.objs.size
  funs:s.heap.FunFrames base outer
  frf:∀ b∈frs outer,H b=none
  hok:HOk P w H s.heap
  bare:AllBare s.gens
def CE (outer:List Env) (P:Program) (w:World) (H:Hp) (s:Shared) (Q:VK) (u:Value) (s':Shared):Prop :=
  ∃ v H',s'.os=s.os∧AllBare s'.gens∧Un (frs outer) [] H H' s.heap s'.heap∧HOk P w H' s'.heap∧RelV v u∧Q v H'
def CR (CX:CXT) (outer:List Env) (P:Program) (w:World) (H:Hp) (s:Shared) (Q:VK) (E:XK) (r:Result) (s':Shared):Prop :=
  match r with
  | .ok (.ret u)=>CE outer P w H s Q u s'
  | .ok _=>False
  | .error e=>CX outer H s E e s'
structure FnOk (P:Program) (w:World) (K:PySem.W.Frag) (mg:Str→Option Value) (base:Heap) (CX:CXT) (k:Nat) (f:Addr) (fd:FuncData) (ps:List Str) (sp:Sp):Prop where
  len:∀ vs H Q E,sp vs H Q E→vs.length=ps.length
  run:∀ (A:Around) (outer:List Env) (s:Shared) (H:Hp) (args:Args) (us:List Value) (vs:List V) (Q:VK) (E:XK),Room k A→Env0 P w K mg base A outer s H→BindsTo s fd args (ps.zip us)→Vals vs us→sp vs H Q E →
    codeAny (model P w) A (.call (.ref f) args) (CR CX outer P w H s Q E) s
theorem FnOk.mono {P:Program}{w:World}{K:PySem.W.Frag}{mg:Str→Option Value}{base:Heap}{CX:CXT}{j k:Nat}{f:Addr}{fd:FuncData}{ps:List Str}{sp:Sp}(F:FnOk P w K mg base CX j f fd ps sp) (h:j≤k) :
    FnOk P w K mg base CX k f fd ps sp:=⟨F.len,fun A outer s H args us vs Q E hr=>F.run A outer s H args us vs Q E (hr.mono h)⟩
theorem FnOk.imp {P:Program}{w:World}{K:PySem.W.Frag}{mg:Str→Option Value}{base:Heap}{CX:CXT}{k:Nat}{f:Addr}{fd:FuncData}{ps:List Str}{sp sp':Sp}(F:FnOk P w K mg base CX k f fd ps sp)
    (h:∀ vs H Q E,sp' vs H Q E→sp vs H Q E):FnOk P w K mg base CX k f fd ps sp' :=
  ⟨fun vs H Q E q=>F.len vs H Q E (h _ _ _ _ q),fun A outer s H args us vs Q E hr he hb hv hs=>F.run A outer s H args us vs Q E hr he hb hv (h _ _ _ _ hs)⟩
section
variable {X:Cx}{pins:List (Addr × Obj)}{σ:St}{H:Hp}{s s':Shared}
theorem Inv.env0 (I:Inv X pins σ H s):Env0 X.prog X.w X.K X.mg X.base X.A X.stack s H :=
  ⟨I.ok.frames,I.ok.mod,I.bs,Nat.le_trans I.ok.bsz I.sz,I.stack,I.stkFree,I.hok,I.bare⟩
theorem Inv.after {Q:VK}{u:Value}(I:Inv X pins σ H s) (h:CE X.stack X.prog X.w H s Q u s'):EP X pins σ Q u s':=by
  obtain⟨v,H',os,bare,un,hok,r,q⟩:=h
  obtain⟨hh,g,d,t,os'⟩:=s'
  obtain rfl:os'=s.os:=os
  exact⟨v,H',I.call (h':=hh) (g':=g) (d':=d) (t':=t) (ch:=[]) un hok bare (fun b z=>absurd z (by simp)),r,q⟩
end
def zki (sp:Sp) (dvs:List V) (E:XK) (t:TA):TE:=fun σ H Q=>t σ H fun vs H1=>sp (vs++dvs) H1 Q E
def Binds (K:PySem.W.Frag) (fd:FuncData) (ps:List Str) (ds:List Value):Prop :=
  ∀ (s:Shared) (us:List Value),K.In s.heap→(us++ds).length=ps.length→BindsTo s fd ⟨us,[]⟩ (ps.zip (us++ds))
theorem Binds.all {K:PySem.W.Frag}{fd:FuncData}{ps:List Str}(h:∀ us:List Value,us.length=ps.length→bindArgs fd ⟨us,[]⟩=pure (ps.zip us)):Binds K fd ps []:=fun s us _ hl=>by
  rw[List.append_nil]at hl ⊢
  exact .of_eq (h us hl)
def Passes (CX:CXT) (X:Cx) (E:XK):Prop:=∀ (pins:List (Addr × Obj)) (σ:St) (H:Hp) (s:Shared) (e:Value) (s':Shared),Inv X pins σ H s→CX X.stack H s E e s'→X.xe e s'
section
variable {X:Cx}{CX:CXT}{k:Nat}{f C:Addr}{fd:FuncData}{ps:List Str}{sp:Sp}{dvs:List V}{ds:List Value}{E:XK}{x m:Str}{p pos apos:Pos}{e o:Expr}{es:List Expr}{ta:TE}{t:TA}
theorem zjG {pins:List (Addr × Obj)}{σ:St}{H:Hp}{s:Shared}{Q:VK}{us:List Value}{vs:List V}(F:FnOk X.prog X.w X.K X.mg X.base CX k f fd ps sp) (hr:Room k X.A) (hb:Binds X.K fd ps ds) (hd:Vals dvs ds) (hx:Passes CX X E)
    (I:Inv X pins σ H s) (r:Vals vs us) (h:sp (vs++dvs) H Q E):wpAny (model X.prog X.w) X.A (call (.ref f) us) (EP X pins σ Q) X.xe s:=by
  have r2:Vals (vs++dvs) (us++ds):=r.append hd
  have hl:(us++ds).length=ps.length:=by rw[← r2.length];exact F.len _ _ _ _ h
  refine wpAny_call (codeAny_mono (F.run X.A X.stack s H ⟨us,[]⟩ (us++ds) (vs++dvs) Q E hr I.env0 (hb s us I.kIn hl) r2 h) fun r s' hq=>?_)
  cases r with
  | error e=>exact hx pins σ H s e s' I hq
  | ok fl =>
    cases fl with
    | ret u=>exact I.after hq
    | next=>exact False.elim hq
    | brk=>exact False.elim hq
    | cont=>exact False.elim hq
theorem pe_call (F:FnOk X.prog X.w X.K X.mg X.base CX k f fd ps sp) (hr:Room k X.A) (hg:Gl X x) (hm:X.mg x=some (.ref f)) (hk:PySem.W.keepIn X.K (.ref f)=true) (hb:Binds X.K fd ps ds) (hd:Vals dvs ds) (hx:Passes CX X E)
    (ha:PA X (e::es) t) (hdb:(x == ("__debug__":Str))=false:=by decide) (he:starEach (e::es) X.env=(false,eval e X.env)::starEach es X.env:=by rfl) (hpl:(backTo pos (starEach es X.env)).any (·.1)=false:=by rfl) :
    PE X (.Call (.Name x p) (e::es) [] pos) (zki sp dvs E t):=by
  intro pins s σ H Q I h
  refine wpAny_Call_Name_kw (zje I hg hm ?_ hdb)
  refine PySem.W.callWith_K (h₀:=X.base) I.ok.mod.kin hk (thn (ha pos pins s σ H _ I h) fun us s1 ⟨vs,H1,I1,r,q⟩=>⟨I1.kIn,?_⟩) he hpl
  exact zjG F hr hb hd hx I1 r q
end
section
variable {X:Cx}{CX:CXT}{k:Nat}{f C:Addr}{fd:FuncData}{ps ks:List Str}{sp:Sp}{E:XK}{x m:Str}{p pos apos kpos:Pos}{e o:Expr}{es:List Expr}{kws:List Keyword}{te ta:TE}{t tk:TA}{nm:Option Str}
variable {g:List Value→List Value→List Value}{gV:List V→List V→List V}
end
structure FnScope (N P:List Str) (sc:Scope):Prop where
  kind:sc.kind=.function
  co:sc.isCoroutine=false
  gen:sc.isGenerator=false
  nd:N.Nodup
  pre:N.take P.length=P
  par:∀ x∈P,sc.names.lookup x=some .local ∨ sc.names.lookup x=some .cell
  nofree:∀ y∈sc.names,y.2≠.free
theorem zev {kindOf:Str→Option NameKind}{x:Str}:∀ {binds:List (Str × Value)}{m:Str→Option Value},(∀ v,(x,v)∉binds)→bindL kindOf binds m x=m x
  | [],_,_=>rfl
  | (n,v)::r,m,h=>by
    unfold bindL
    rw[zev fun w hw=>h w (List.mem_cons_of_mem _ hw)]
    split
    · have:x≠n:=by rintro rfl;exact h v List.mem_cons_self
      simp[this]
    · rfl
theorem zex {kindOf:Str→Option NameKind}{x:Str}:∀ {binds:List (Str × Value)}{m:Str→Option Value},(∀ v,(x,v)∉binds)→bindC kindOf binds m x=m x
  | [],_,_=>rfl
  | (n,v)::r,m,h=>by
    unfold bindC
    rw[zex fun w hw=>h w (List.mem_cons_of_mem _ hw)]
    split
    · rfl
    · have:x≠n:=by rintro rfl;exact h v List.mem_cons_self
      simp[this]
theorem zew {kindOf:Str→Option NameKind}{x:Str}{v:Value}:∀ {P:List Str}{vs:List Value}{i:Nat}{m:Str→Option Value},P.Nodup→P[i]?=some x→vs[i]?=some v→kindOf x=some .local →
    bindL kindOf (P.zip vs) m x=some v
  | [],_,_,_,_,h,_,_=>by simp at h
  | _::_,[],_,_,_,_,h,_=>by simp at h
  | p::P,w::vs,0,m,nd,h1,h2,hk=>by
    simp at h1 h2;subst h1;subst h2
    show bindL kindOf ((p,w)::P.zip vs) m p=_
    unfold bindL
    rw[zev fun v hv=>(List.nodup_cons.mp nd).1 (List.of_mem_zip hv).1,if_pos hk]
    simp
  | p::P,w::vs,i+1,m,nd,h1,h2,hk=>by
    show bindL kindOf ((p,w)::P.zip vs) m x=_
    unfold bindL
    exact zew (i:=i) (List.nodup_cons.mp nd).2 (by simpa using h1) (by simpa using h2) hk
theorem zey {kindOf:Str→Option NameKind}{x:Str}{v:Value}:∀ {P:List Str}{vs:List Value}{i:Nat}{m:Str→Option Value},P.Nodup→P[i]?=some x→vs[i]?=some v→kindOf x≠some .local →
    bindC kindOf (P.zip vs) m x=some v
  | [],_,_,_,_,h,_,_=>by simp at h
  | _::_,[],_,_,_,_,h,_=>by simp at h
  | p::P,w::vs,0,m,nd,h1,h2,hk=>by
    simp at h1 h2;subst h1;subst h2
    show bindC kindOf ((p,w)::P.zip vs) m p=_
    unfold bindC
    rw[zex fun v hv=>(List.nodup_cons.mp nd).1 (List.of_mem_zip hv).1,if_neg hk]
    simp
  | p::P,w::vs,i+1,m,nd,h1,h2,hk=>by
    show bindC kindOf ((p,w)::P.zip vs) m x=_
    unfold bindC
    exact zey (i:=i) (List.nodup_cons.mp nd).2 (by simpa using h1) (by simpa using h2) hk
def zd4 (N:List Str) (vs:List V):St:=vs.map some++List.replicate (N.length-vs.length) none
def cxOf (CX:CXT) (P:Program) (w:World) (K:PySem.W.Frag) (mg:Str→Option Value) (base:Heap) (N:List Str) (qual:Str) (scope:Scope) (f:Addr) (cd:Value) (A:Around) (outer:List Env) (s:Shared) (H:Hp) (E:XK):Cx where
  prog:=P
  w:=w
  K:=K
  mg:=mg
  base:=base
  A:=A.deeper (envOfC qual scope s.heap.objs.size f cd)
  N:=N
  s₀:=s
  H₀:=H
  env:=envOfC qual scope s.heap.objs.size f cd
  outer:=outer
  stack:=envOfC qual scope s.heap.objs.size f cd::outer
  ex:=[]
  calm:=true
  fn:=fun _=>true
  pn:=[]
  xe:=fun e s'=>wpAny (model P w) (A.deeper (envOfC qual scope s.heap.objs.size f cd)) (leaving (envOfC qual scope s.heap.objs.size f cd) e) (fun _ s''=>CX outer H s E e s'') (fun e' s''=>CX outer H s E e' s'') s'
theorem zfr {sc:Scope}{n:Nat}{x:Str}(h:sc.names.lookup x=some .cell):∃ c,(cellsFrom n sc.names []).lookup x=some c:=by
  have q:=PySem.W.cellsFrom_some sc.names n [] (.inl h)
  exact Option.isSome_iff_exists.mp q
theorem zg2 {CX:CXT}{P:Program}{w:World}{K:PySem.W.Frag}{mg:Str→Option Value}{base:Heap}{N ps:List Str}{qual:Str}{scope:Scope}{f:Addr}{cd:Value}{A:Around}{outer:List Env}{s s1:Shared}{H:Hp}{E:XK}{us:List Value}{vs:List V}
    (S:FnScope N ps scope) (hd:A.handled=none) (e0:Env0 P w K mg base A outer s H) (hl:vs.length=ps.length) (r:Vals vs us)
    (x:InCallC s s.heap.objs.size (bindL (envOfC qual scope s.heap.objs.size f cd).kindOf (ps.zip us) fun _=>none) (cellsFrom (s.heap.objs.size+1) scope.names []) (bindC (envOfC qual scope s.heap.objs.size f cd).kindOf (ps.zip us) fun _=>none) s1) :
    Inv (cxOf CX P w K mg base N qual scope f cd A outer s H E) [] (zd4 N vs) H s1:=by
  have hpl:ps.length≤N.length:=by have:=congrArg List.length S.pre;rw[List.length_take]at this;omega
  obtain⟨h1,tk,rfl,hk⟩:=x.done
  have noA:∀ b:Addr,b∉(cxOf CX P w K mg base N qual scope f cd A outer s H E).ex:=fun b z=>absurd (show b∈([]:List Addr) from z) (by simp)
  refine⟨⟨e0.mod,S.kind,rfl,rfl,Nat.le_refl _,fun y z c h1 h2=>?_,fun y hy=>?_,fun y c _ h=>?_,fun _=>hd,Around.frames_deeper e0.frames,.inr ⟨rfl,rfl⟩,fun b z=>absurd z (noA b),e0.bs,e0.bsz,fun b _ _=>noA b,fun b z=>absurd z (noA b),e0.funs,e0.frf⟩,
    rfl,e0.bare,Un.kept hk,⟨_,x.toInCall.ns,fun i y v h1 h2 h3=>?_⟩,fun y c h=>⟨_,x.cell y c h⟩,e0.hok.fresh (Nat.le_refl _),fun y c h=>?_,fun p hp=>absurd (show p∈([]:List (Addr × Obj)) from hp) (by simp),e0.hok.kept hk,?_⟩
  · exact name_of_addr x.apart (PySem.mem_of_lookup h1) (PySem.mem_of_lookup h2)
  · have hy:scope.names.lookup y=some .cell∨scope.names.lookup y=some .free:=hy
    rcases hy with hy|hy
    · exact zfr hy
    · exact absurd rfl (S.nofree _ (PySem.mem_of_lookup hy))
  · exact Nat.le_of_lt (x.above y c (PySem.mem_of_lookup h))
  · have hi:i<vs.length:=by
      unfold zd4 at h2
      by_cases hi:i<vs.length
      · exact hi
      · rw[List.getElem?_append_right (by simpa using hi)]at h2
        rw[List.getElem?_replicate]at h2
        split at h2<;>cases h2
    have ha:vs[i]?=some v:=by
      unfold zd4 at h2
      rw[List.getElem?_append_left (by simpa using hi),List.getElem?_map]at h2
      cases e:vs[i]? with
      | none=>rw[e]at h2;cases h2
      | some a=>rw[e]at h2;cases h2;rfl
    obtain⟨u,hu,rv⟩:=r.get ha
    have hp:ps[i]?=some y:=by
      rw[← S.pre,List.getElem?_take_of_lt (by omega)];exact h1
    have ndP:ps.Nodup:=by rw[← S.pre];exact S.nd.sublist (List.take_sublist _ _)
    refine⟨u,rv,?_⟩
    rcases S.par y (List.mem_of_getElem? hp) with k|k
    · exact .inl ⟨k,zew ndP hp hu k⟩
    · obtain⟨c,e⟩:=zfr (n:=s.heap.objs.size+1) k
      refine .inr ⟨.inl k,c,e,?_⟩
      have q:=x.cell y c e
      rw[zey ndP hp hu (by show scope.names.lookup y≠_;rw[k];decide)]at q
      exact q
  · exact e0.hok.fresh (Nat.le_of_lt (x.above y c (PySem.mem_of_lookup h)))
  · unfold zd4
    show _=N.length
    rw[List.length_append,List.length_map,List.length_replicate]
    omega
theorem zkw {CX:CXT}{P:Program}{w:World}{K:PySem.W.Frag}{mg:Str→Option Value}{base:Heap}{k:Nat}{f:Addr}{name qual:Str}{params:Arguments}{body:List Stmt}{scope:Scope}{dV kV doc pm cdv ct oc:Value}{an od:Option Addr}
    {osl:Array (Option Value)}{N ps:List Str}{sp:Sp}(lk:K.lookup f=some ⟨oc,od,.func (PySem.W.fnOf name qual params body scope dV kV doc pm an cdv ct),osl⟩) (hcd:PySem.W.codeIn K cdv qual=true) (S:FnScope N ps scope)
    (len:∀ vs H Q E,sp vs H Q E→vs.length=ps.length)
    (hbody:∀ (A:Around) (outer:List Env) (s:Shared) (H:Hp) (vs:List V) (Q:VK) (E:XK),Room k (A.deeper (envOfC qual scope s.heap.objs.size f cdv))→sp vs H Q E →
      ∃ t,PSs (cxOf CX P w K mg base N qual scope f cdv A outer s H E) body t∧t { nx:=fun _ H'=>Q .non H',rt:=Q } (zd4 N vs) H) :
    FnOk P w K mg base CX (k+1) f (PySem.W.fnOf name qual params body scope dV kV doc pm an cdv ct) ps sp:=by
  refine⟨len,fun A outer s H args us vs Q E hr e0 hb r hsp=>?_⟩
  have hl:=len _ _ _ _ hsp
  have KX:K.In s.heap:=e0.mod.kin.keeps fun b o e=>(e0.bs b o e).1
  have lim:s.heap.NoLimit:=e0.mod.nolimit.keeps fun b o e=>(e0.bs b o e).1
  have hkind:∀ y∈ps.zip us,scope.names.lookup y.1=some .local ∨ (scope.names.lookup y.1=some .cell∧((cellsFrom (s.heap.objs.size+1) scope.names []).lookup y.1).isSome=true):=fun ⟨n,v⟩ hy=>by
    rcases S.par n (List.of_mem_zip hy).1 with q|q
    · exact .inl q
    · exact .inr ⟨q,PySem.W.cellsFrom_some _ _ _ (.inl q)⟩
  refine codeAny_call_function hr.depth (KX _ _ lk) rfl S.co S.gen rfl (PySem.W.codeRec_of KX hcd) (hb _ _ _ _ ?_)
  refine wpAny_newFunctionEnv_cells S.kind hkind fun env he s1 x=>?_
  subst he
  refine⟨lim.keeps x.toInCall.keep,codeAny_func ?_⟩
  obtain⟨t,ht,hq⟩:=hbody A outer s H vs Q E (hr.deeper _) hsp
  have I:Inv (cxOf CX P w K mg base N qual scope f cdv A outer s H E) [] (zd4 N vs) H s1:=zg2 S hr.hd e0 hl r x
  refine wpAny_mono (ht [] s1 (zd4 N vs) H _ I hq) (fun fl s' hs=>?_) fun e s' hs=>hs
  have fin:∀ {σ':St}{H':Hp}{v:V}{u:Value},Inv (cxOf CX P w K mg base N qual scope f cdv A outer s H E) [] σ' H' s'→RelV v u→Q v H'→CE outer P w H s Q u s' :=
    fun {σ' H' v u} J rv q=>⟨v,H',J.os,J.bare,J.base,J.hok,rv,q⟩
  cases fl with
  | ret u =>
    obtain⟨v,σ',H',J,rv,q⟩:=hs
    exact fin J rv q
  | next =>
    obtain⟨σ',H',J,q⟩:=hs
    exact fin (v:=V.non) (u:=Value.none) J rfl q
  | brk =>
    obtain⟨_,_,_,q⟩:=hs
    exact False.elim q
  | cont =>
    obtain⟨_,_,_,q⟩:=hs
    exact False.elim q
section
variable {X:Cx}{x:Str}{p pos:Pos}{e:Expr}{es:List Expr}{t:TA}{id T:String}{r:List V→Hp→VK→Prop}
def tCB (r:List V→Hp→VK→Prop) (t:TA):TE:=fun σ H Q=>t σ H fun vs H1=>r vs H1 Q
theorem zaj (hc:CallR X (.builtin id) r) (hg:Gl X x) (hm:X.mg x=none) (hv:bootBuiltins x=some (.builtin id)) (ha:PA X (e::es) t) (hn:x≠"__name__":=by decide) (hdb:(x == ("__debug__":Str))=false:=by decide)
    (he:starEach (e::es) X.env=(false,eval e X.env)::starEach es X.env:=by rfl) (hpl:(backTo pos (starEach es X.env)).any (·.1)=false:=by rfl):PE X (.Call (.Name x p) (e::es) [] pos) (tCB r t):=by
  intro pins s σ H Q I h
  refine wpAny_Call_Name_kw (zaR I hg hm hv ?_ hn hdb)
  exact PyProof.Rows.callWith_builtin1 (thn (ha pos pins s σ H _ I h) fun us s1 ⟨vs,H1,I1,r1,q1⟩=>hc pins s1 σ H1 vs us Q I1 r1 q1) he hpl
theorem pe_callTy (hc:CallR X (.type T) r) (hg:Gl X x) (hm:X.mg x=none) (hv:bootBuiltins x=some (.type T)) (ha:PA X (e::es) t) (hn:x≠"__name__":=by decide) (hdb:(x == ("__debug__":Str))=false:=by decide)
    (he:starEach (e::es) X.env=(false,eval e X.env)::starEach es X.env:=by rfl) (hpl:(backTo pos (starEach es X.env)).any (·.1)=false:=by rfl):PE X (.Call (.Name x p) (e::es) [] pos) (tCB r t):=by
  intro pins s σ H Q I h
  refine wpAny_Call_Name_kw (zaR I hg hm hv ?_ hn hdb)
  exact PyProof.Rows.callWith_type1 (thn (ha pos pins s σ H _ I h) fun us s1 ⟨vs,H1,I1,r1,q1⟩=>hc pins s1 σ H1 vs us Q I1 r1 q1) he hpl
end
end L2
namespace HT
open PySem PyProof.Rows
section
open PySem.SeqAt
open PySem.AutoSeq1 (wpAny_loadPart')
open PySem.MeetsSeq PySem.MeetsSeq2 PySem.MeetsSeq3
end
section
variable {prog:Program}{w:World}{A:Around}{E:Value→Shared→Prop}{s:Shared}
theorem cat_tup {t b:Addr}{vs ws:List Value}{Q:Value→Shared→Prop}(ht:IsTup s.heap t vs.toArray) (hb:IsTup s.heap b ws.toArray) (hv:vs≠[])
    (h1:ws=[]→Q (.ref t) s) (h2:ws≠[]→Q (.ref s.heap.objs.size) { s with heap:=s.heap.push { cls:=.type "tuple",data:=.seq (vs++ws).toArray } })
    (hsz:vs.length+ws.length≤sizeLine):wpAny (model prog w) A (binaryOp .Add (.ref t) (.ref b)) Q E s:=by
  obtain⟨⟨cls,dd,data,sl⟩,ho,hc,n,hd⟩:=id ht
  obtain⟨⟨cls2,dd2,data2,sl2⟩,ho2,hc2,n2,hd2⟩:=id hb
  simp only at hc hd hc2 hd2
  subst hc hd hc2 hd2
  have e:vs.toArray++ws.toArray=(vs++ws).toArray:=by simp
  by_cases hw:ws=[]
  · exact concat_meets ⟨_,ho,rfl⟩ ⟨_,ho2,rfl⟩ noFill_tuple_add seq_tuple_add PySem.F.slot_tuple_add PySem.F.entry_tuple_add (PySem.F.args_tuple_add_2 _ _)
      (tuple_addW1 t b vs.toArray ws.toArray n n2 dd dd2 sl sl2 (by simpa using hv) (by simp[hw])) ⟨ho,ho2,h1 hw⟩
  · refine concat_meets ⟨_,ho,rfl⟩ ⟨_,ho2,rfl⟩ noFill_tuple_add seq_tuple_add PySem.F.slot_tuple_add PySem.F.entry_tuple_add (PySem.F.args_tuple_add_2 _ _)
      (tuple_addW2 t b vs.toArray ws.toArray n n2 dd dd2 sl sl2 (by simpa using hv) (by simpa using hw) (by rw[List.size_toArray,List.size_toArray];exact hsz)) ⟨ho,ho2,?_⟩
    rw[e]
    exact h2 hw
def sIx (n d:Nat):Option Int→Nat
  | none=>d
  | some v=>if v<0 then (v+(n:Int)).toNat else min v.toNat n
theorem sIx_none (n d:Nat):sIx n d none=d:=rfl
theorem sIx_nat (n d k:Nat):sIx n d (some (k:Int))=min k n:=by
  show (if (k:Int)<0 then ((k:Int)+(n:Int)).toNat else min (k:Int).toNat n)=min k n
  rw[if_neg (by omega),Int.toNat_natCast]
theorem zjE (n d:Nat) (hd:d≤n) (o:Option Int):sIx n d o≤n:=by
  cases o with
  | none=>exact hd
  | some v =>
    show (if v<0 then (v+(n:Int)).toNat else min v.toNat n)≤n
    by_cases hv:v<0
    · rw[if_pos hv];omega
    · rw[if_neg hv];exact Nat.min_le_right _ _
theorem zhj (v:Int) (n d:Nat):(if v<0 then max (v+(n:Int)) 0 else min v (n:Int))=((sIx n d (some v):Nat):Int):=by
  show (if v<0 then max (v+(n:Int)) 0 else min v (n:Int))=(((if v<0 then (v+(n:Int)).toNat else min v.toNat n):Nat):Int)
  by_cases hv:v<0
  · simp only[if_pos hv];omega
  · simp only[if_neg hv];omega
theorem zfS (lo hi:Option Int) (n:Nat):Builtin.Slice.sliceAdjust lo hi 1 (n:Int)=(((sIx n 0 lo:Nat):Int),((sIx n n hi:Nat):Int)):=by
  have h1:¬((1:Int)<0):=by omega
  unfold Builtin.Slice.sliceAdjust
  simp only[h1,if_false]
  refine Prod.ext ?_ ?_
  · cases lo with
    | none=>rfl
    | some v=>exact zhj v n 0
  · cases hi with
    | none=>rfl
    | some v=>exact zhj v n n
theorem zfA (i j:Nat):Builtin.Slice.slicePlaces (i:Int) (j:Int) 1=j-i:=by
  unfold Builtin.Slice.slicePlaces
  have h1:(1:Int) > 0:=by omega
  simp only[h1,if_true,Int.ediv_one]
  split<;>omega
theorem zc7 {v:Value}{o:Option Int}{Q:Option Int→Shared→Prop}(p:IsPart v o) (h:Q o s):wpAny (model prog w) A (Builtin.Slice.slicePartIndex v) Q E s:=by
  cases p with
  | none=>exact slicePart_none h
  | int i t=>exact slicePart_int h
theorem sliceApplied_gen {sl:Addr}{vl vu:Value}{lo hi:Option Int}{n:Nat}{Q:Int × Int × Nat→Shared→Prop}(hs:s.heap.IsSliceOf sl vl vu .none) (pl:IsPart vl lo) (pu:IsPart vu hi)
    (h:Q (((sIx n 0 lo:Nat):Int),1,sIx n n hi-sIx n 0 lo) s):wpAny (model prog w) A (Builtin.Slice.sliceApplied (.ref sl) (pure (n:Int))) Q E s:=by
  obtain⟨os,hos,hcs,hds⟩:=id hs
  unfold Builtin.Slice.sliceApplied Builtin.Slice.sliceFields
  refine wpAny_bind (wpAny_bind (wpAny_field hos hds (x:=vl) rfl (wpAny_bind (wpAny_field hos hds (x:=vu) rfl (wpAny_bind (wpAny_field hos hds (x:=.none) rfl (wpAny_pure ?_)))))))
  refine wpAny_bind (slicePart_none ?_)
  show wpAny _ _ (if ((1:Int) == 0)=true then _ else _) _ _ s
  rw[if_neg (by decide)]
  refine wpAny_bind (zc7 pl (wpAny_bind (zc7 pu (wpAny_bind (wpAny_pure ?_)))))
  show wpAny _ _ (match Builtin.Slice.sliceAdjust lo hi 1 (n:Int) with|(lo,hi)=>pure (lo,(1:Int),Builtin.Slice.slicePlaces lo hi 1)) _ _ s
  rw[zfS lo hi n]
  show wpAny _ _ (pure (((sIx n 0 lo:Nat):Int),(1:Int),Builtin.Slice.slicePlaces ((sIx n 0 lo:Nat):Int) ((sIx n n hi:Nat):Int) 1)) _ _ s
  rw[zfA]
  exact wpAny_pure h
theorem zhI (xs:Array Value) (i k:Nat):((List.range k).filterMap fun (m:Nat)=>xs[((i:Int)+(m:Int)*1).toNat]?).toArray=((xs.toList.drop i).take k).toArray:=by
  have e:(fun (m:Nat)=>xs[((i:Int)+(m:Int)*1).toNat]?)=fun m=>xs[i+m]?:=by
    funext m
    have:((i:Int)+(m:Int)*1).toNat=i+m:=by omega
    rw[this]
  rw[e]
  have:=pick_run xs i k
  rw[List.filterMap_map]at this
  have e2:((fun x=>xs[x]?)∘fun x=>i+x)=fun m=>xs[i+m]?:=rfl
  rw[e2]at this
  rw[this]
theorem getItem_tuple_cut {t sl:Addr}{items:Array Value}{vl vu:Value}{lo hi:Option Int}{Q:Value→Shared→Prop}(ht:IsTup s.heap t items) (hs:s.heap.IsSliceOf sl vl vu .none) (pl:IsPart vl lo) (pu:IsPart vu hi)
    (hw:¬(sIx items.size 0 lo=0∧sIx items.size items.size hi=items.size))
    (h:Q (.ref s.heap.objs.size) { s with heap:=s.heap.push { cls:=.type "tuple",data:=.seq ((items.toList.drop (sIx items.size 0 lo)).take (sIx items.size items.size hi-sIx items.size 0 lo)).toArray } })
    (hsz:items.size≤sizeLine):wpAny (model prog w) A (getItem (.ref t) (.ref sl)) Q E s:=by
  have htake:sizeOk (.seq ((items.toList.drop (sIx items.size 0 lo)).take (sIx items.size items.size hi-sIx items.size 0 lo)).toArray):=by
    show ((items.toList.drop (sIx items.size 0 lo)).take (sIx items.size items.size hi-sIx items.size 0 lo)).toArray.size≤sizeLine
    rw[List.size_toArray,List.length_take,List.length_drop,Array.length_toList]
    omega
  have hj:sIx items.size items.size hi≤items.size:=zjE _ _ (Nat.le_refl _) hi
  obtain⟨os,hos,hcs,hds⟩:=id hs
  have hTs:s.TypeIs (.ref sl) "slice":=⟨os,hos,hcs⟩
  unfold getItem
  try with_reducible refine wpAny_holding ?_
  first|refine wpAny_bind (wpAny_pure ?_)|skip
  refine wpAny_bind (wpAny_sequenceKey ht.typeIs (by decide) ?_)
  refine wpAny_bind (wpAny_callSpecial?_slot (name:=Str.ofString "__getitem__") ht.typeIs PyProof.Rows.slot_tuple_getitem
    (wpAny_call_entry PyProof.Rows.slot_tuple_getitem ht.typeIs entry_tuple_getitem ?_ (args_tuple_getitem _ _)))
  show wpAny _ _ (Builtin.Tuple.tupleItemsOf (.ref t) >>= _) _ _ s
  refine wpAny_bind (tupleItemsOf_ ht ?_)
  refine wpAny_bind (wpAny_typeOf hTs ?_)
  rw[if_pos (by decide)]
  refine wpAny_bind (sliceApplied_gen hs pl pu ?_)
  have hno:¬((((sIx items.size 0 lo:Nat):Int) == 0 && (1:Int) == 1 && (sIx items.size items.size hi-sIx items.size 0 lo) == items.size)=true):=by
    intro q
    rw[Bool.and_eq_true,Bool.and_eq_true]at q
    have q1:((sIx items.size 0 lo:Nat):Int)=0:=eq_of_beq q.1.1
    have q2:sIx items.size items.size hi-sIx items.size 0 lo=items.size:=eq_of_beq q.2
    exact hw ⟨by omega,by omega⟩
  show wpAny _ _ (if (((sIx items.size 0 lo:Nat):Int) == 0 && (1:Int) == 1 && (sIx items.size items.size hi-sIx items.size 0 lo) == items.size)=true then _ else _) _ _ s
  rw[if_neg hno,zhI]
  first
    | exact wpAny_bind (m:=Builtin.Tuple.tupleExact _) (wpAny_newObj_type (wpAny_pure ⟨_,rfl,wpAny_pure h⟩) htake)
    | exact wpAny_bind (m:=Builtin.Tuple.tupleExact _) (wpAny_newObj_type (wpAny_bind (wpAny_pure (wpAny_pure ⟨_,rfl,wpAny_pure h⟩))) htake)
    | exact wpAny_bind (wpAny_bind (m:=Builtin.Tuple.tupleExact _) (wpAny_newObj_type (wpAny_pure (wpAny_pure ⟨_,rfl,wpAny_pure h⟩)) htake))
    | exact wpAny_bind (wpAny_bind (m:=Builtin.Tuple.tupleExact _) (wpAny_newObj_type (wpAny_pure ⟨_,rfl,wpAny_pure h⟩) htake))
end
end HT
namespace L2
open PySem PySem.Spec PyProof.Rows
abbrev TO:=St→Hp→(Option Int→Hp→Prop)→Prop
def PO (X:Cx) (e:Option Expr) (t:TO):Prop :=
  ∀ (pins:List (Addr × Obj)) (s:Shared) (σ:St) (H:Hp) (Q:Option Int→Hp→Prop),Inv X pins σ H s→t σ H Q →
    wpAny (model X.prog X.w) X.A (evalPart e X.env) (fun u s'=>∃ o H',Inv X pins σ H' s'∧IsPart u o∧Q o H') X.xe s
def ziy:TO:=fun _ H Q=>Q none H
def zkf (t:TE):TO:=fun σ H Q=>t σ H fun x H1=>∃ i,x=.int i∧Q (some i) H1
section
variable {X:Cx}{e:Expr}{te:TE}{lo hi:Option Expr}{tl th:TO}{pos p2:Pos}
theorem po_none:PO X none ziy:=by
  intro pins s σ H Q I h
  rw[evalPart_none]
  exact wpAny_pure ⟨none,H,I,.none,h⟩
theorem po_some (h:PE X e te):PO X (some e) (zkf te):=by
  intro pins s σ H Q I hw
  rw[evalPart_some]
  refine thn (h pins s σ H _ I hw) fun u s1 ⟨x,H1,I1,r1,q1⟩=>?_
  obtain⟨i,rfl,q⟩:=q1
  obtain⟨t,rfl⟩:=r1
  exact⟨some i,H1,I1,.int i t,q⟩
def SlR (X:Cx) (r:V→Option Int→Option Int→Hp→VK→Prop):Prop :=
  ∀ (pins:List (Addr × Obj)) (s:Shared) (σ:St) (H:Hp) (x:V) (v vl vu:Value) (lo hi:Option Int) (sl:Addr) (Q:VK),Inv X pins σ H s→RelV x v→s.heap.IsSliceOf sl vl vu .none→IsPart vl lo→IsPart vu hi→r x lo hi H Q →
    ∃ T id,typeLookup (.type T) "__getitem__" = pure (some (.builtin id))∧s.TypeIs v T∧wpAny (model X.prog X.w) X.A (getItem v (.ref sl)) (EP X pins σ Q) X.xe s
def tSl (r:V→Option Int→Option Int→Hp→VK→Prop) (te:TE) (tl th:TO):TE:=fun σ H Q=>te σ H fun x H1=>tl σ H1 fun l H2=>th σ H2 fun u H3=>r x l u H3 Q
theorem pe_slice {r:V→Option Int→Option Int→Hp→VK→Prop}(hr:SlR X r) (he:PE X e te) (hl:PO X lo tl) (hu:PO X hi th):PE X (.Subscript e (.Slice lo hi none p2) pos) (tSl r te tl th):=by
  intro pins s σ H Q I h
  refine Subscript_ (thn (he pins s σ H _ I h) fun v s1 ⟨x,H1,I1,r1,q1⟩=>?_)
  refine wpAny_Slice (thn (hl pins s1 σ H1 _ I1 q1) fun vl s2 ⟨l,H2,I2,pl,q2⟩=>thn (hu pins s2 σ H2 _ I2 q2) fun vu s3 ⟨u,H3,I3,pu,q3⟩=>?_)
  rw[evalPart_none]
  refine wpAny_pure ?_
  have I4:Inv X pins σ H3 { s3 with heap:=s3.heap.push { cls:=.type "slice",data:=.fields #[vl,vu,.none] } }:=I3.kept (t':=s3.toks) fun b ob q=>Heap.get?_push_of_some _ q
  obtain⟨T,id,hT,ht,hg⟩:=hr pins { s3 with heap:=s3.heap.push { cls:=.type "slice",data:=.fields #[vl,vu,.none] } } σ H3 x v vl vu l u s3.heap.objs.size Q I4 r1 (Heap.IsSliceOf.new ..) pl pu q3
  show wpAny (model X.prog X.w) X.A (subscriptTail e (.Slice lo hi none p2) v (.ref s3.heap.objs.size)) (EP X pins σ Q) X.xe { s3 with heap:=s3.heap.push { cls:=.type "slice",data:=.fields #[vl,vu,.none] } }
  exact tail_any (ops:=[.ref s3.heap.objs.size,v]) ht hT hg (by with_unfolding_all rfl)
def cutV (xs:List V) (lo hi:Option Int):List V:=(xs.drop (HT.sIx xs.length 0 lo)).take (HT.sIx xs.length xs.length hi-HT.sIx xs.length 0 lo)
theorem zcW (xs:List V) (lo hi:Option Int):(cutV xs lo hi).length≤xs.length:=by
  unfold cutV
  rw[List.length_take,List.length_drop]
  omega
def rSlT (K:PySem.W.Frag):V→Option Int→Option Int→Hp→VK→Prop:=fun x lo hi H Q=>∃ a xs,x=.ref a∧SqT K H a xs ∧
  ¬(HT.sIx xs.length 0 lo=0∧HT.sIx xs.length xs.length hi=xs.length)∧∀ p,H p=none→Q (.ref p) (upd H p (.tup (cutV xs lo hi)))
theorem zjC:SlR X (rSlT X.K):=by
  intro pins s σ H x v vl vu lo hi sl Q I rx hs pl pu h
  obtain⟨a,xs,rfl,hx,hw,q⟩:=h
  cases rx
  obtain⟨its,r,ht,hz⟩:=I.tuple hx
  have hlen:its.toArray.size=xs.length:=by rw[List.size_toArray];exact r.length.symm
  refine⟨"tuple",_,PyProof.Rows.slot_tuple_getitem.lookup,ht.typeIs,?_⟩
  refine HT.getItem_tuple_cut ht hs pl pu (by rw[hlen];exact hw) ?_ (by rw[hlen];exact hz)
  rw[hlen]
  refine⟨.ref s.heap.objs.size,_,I.laid (t':=s.toks) (o:=.tup (cutV xs lo hi)) (fun b ob q=>Heap.get?_push_of_some _ q) (Nat.le_refl _) ?_,rfl,q _ (I.hok.fresh (Nat.le_refl _))⟩
  exact⟨Nat.le_trans (zcW xs lo hi) hz,_,(r.drop (HT.sIx xs.length 0 lo)).take (HT.sIx xs.length xs.length hi-HT.sIx xs.length 0 lo),TupX.new _ _⟩
def zkl (K:PySem.W.Frag):R2:=fun x y H Q=>∃ a b xs ys,x=.ref a∧y=.ref b∧SqT K H a xs∧SqT K H b ys∧xs≠[]∧xs.length+ys.length≤sizeLine ∧
  (ys=[]→Q (.ref a) H)∧(ys≠[]→∀ p,H p=none→Q (.ref p) (upd H p (.tup (xs++ys))))
theorem Vals.nil_iff {xs:List V}{us:List Value}(r:Vals xs us):us=[]↔xs=[]:=by
  cases r with
  | nil=>simp
  | cons _ _=>simp
theorem ziX:OpR X (binaryOp .Add) (zkl X.K):=by
  intro pins s σ H x y v u Q I rx ry h
  obtain⟨a,b,xs,ys,rfl,rfl,ha,hb,hx,hz,q1,q2⟩:=h
  cases rx
  cases ry
  obtain⟨its,r1,p1,_⟩:=I.tuple ha
  obtain⟨its2,r2,p2,_⟩:=I.tuple hb
  refine HT.cat_tup p1 p2 (fun z=>hx (r1.nil_iff.mp z)) (fun z=>⟨.ref a,H,I,rfl,q1 (r2.nil_iff.mp z)⟩) (fun z=>?_) (by rw[← r1.length,← r2.length];exact hz)
  refine⟨.ref s.heap.objs.size,_,I.laid (t':=s.toks) (o:=.tup (xs++ys)) (fun b ob q=>Heap.get?_push_of_some _ q) (Nat.le_refl _) ?_,rfl,q2 (fun w=>z (r2.nil_iff.mpr w)) _ (I.hok.fresh (Nat.le_refl _))⟩
  exact⟨by rw[List.length_append];exact hz,_,r1.append r2,TupX.new _ _⟩
end
def ixN (n:Nat) (i:Int):Option Nat:=if 0≤i then (if i<n then some i.toNat else none) else if -(n:Int)≤i then some (i+n).toNat else none
def atI {α:Type}(xs:List α) (i:Int):Option α:=(ixN xs.length i).bind fun j=>xs[j]?
theorem zgZ {n:Nat}{i:Int}{j:Nat}(h:ixN n i=some j):seqIndex? i n=some j∧j<n∧-(n:Int)≤i∧i<n:=by
  unfold ixN at h
  by_cases h0:0≤i
  · rw[if_pos h0]at h
    by_cases h1:i<n
    · rw[if_pos h1]at h
      have e:i.toNat=j:=Option.some.inj h
      exact⟨by rw[seqIndex_of h0 h1,e],by omega,by omega,h1⟩
    · rw[if_neg h1]at h;cases h
  · rw[if_neg h0]at h
    by_cases h1:-(n:Int)≤i
    · rw[if_pos h1]at h
      have e:(i+n).toNat=j:=Option.some.inj h
      exact⟨by rw[seqIndex_neg (by omega) h1,e],by omega,h1,by omega⟩
    · rw[if_neg h1]at h;cases h
theorem zhm {α:Type}{xs:List α}{i:Int}{v:α}(h:atI xs i=some v):∃ j,seqIndex? i xs.length=some j∧xs[j]?=some v∧j<xs.length∧-(xs.length:Int)≤i∧i<xs.length:=by
  unfold atI at h
  cases e:ixN xs.length i with
  | none=>rw[e]at h;cases h
  | some j =>
    rw[e]at h
    obtain⟨h1,h2,h3,h4⟩:=zgZ e
    exact⟨j,h1,h,h2,h3,h4⟩
theorem zaX {α:Type}{xs:List α}{j:Nat}{v:α}(h:xs[j]?=some v):atI xs (j:Int)=some v:=by
  have hj:j<xs.length:=(List.getElem?_eq_some_iff.mp h).1
  have e:ixN xs.length (j:Int)=some j:=by
    unfold ixN
    rw[if_pos (by omega),if_pos (by omega)];simp
  unfold atI;rw[e];exact h
def PlainIx (b:Expr):Prop:=∀ o i,subscripted b false o i=operate [o,i] (getItem o i)
def IxR (X:Cx) (r:R2):Prop :=
  ∀ (value slice:Expr) (pins:List (Addr × Obj)) (s:Shared) (σ:St) (H:Hp) (x y:V) (v u:Value) (Q:VK),Inv X pins σ H s→RelV x v→RelV y u→r x y H Q →
    subscripted slice false v u=operate [v,u] (getItem v u)→wpAny (model X.prog X.w) X.A (subscriptTail value slice v u) (EP X pins σ Q) X.xe s
def MtR (X:Cx) (id:String) (r:V→List V→Hp→VK→Prop):Prop :=
  ∀ (pins:List (Addr × Obj)) (s:Shared) (σ:St) (H:Hp) (x:V) (xs:List V) (v:Value) (us:List Value) (Q:VK),Inv X pins σ H s→RelV x v→Vals xs us→r x xs H Q →
    wpAny (model X.prog X.w) X.A (call (.builtin id) (v::us)) (EP X pins σ Q) X.xe s
section
variable {X:Cx}{a b:Expr}{ta tb:TE}{pos:Pos}
theorem pe_ix {r:R2}(hr:IxR X r) (ha:PE X a ta) (hb:PE X b tb) (hs:PlainIx b):PE X (.Subscript a b pos) (tOp r ta tb):=by
  intro pins s σ H Q I h
  exact Subscript_ (binT ha hb I h fun v u s2 x y H2 I2 rx ry q=>hr a b pins s2 σ H2 x y v u Q I2 rx ry q (hs _ _))
def rIxL (K:PySem.W.Frag):R2:=fun x y H Q=>∃ p xs i v,x=.ref p∧y=.int i∧SqL K H p xs∧atI xs i=some v∧Q v H
def rIxT (K:PySem.W.Frag):R2:=fun x y H Q=>∃ p xs i v,x=.ref p∧y=.int i∧SqT K H p xs∧atI xs i=some v∧Q v H
theorem ix_list:IxR X (rIxL X.K):=by
  intro value slice pins s σ H x y v u Q I rx ry h hs
  obtain⟨p,xs,i,z,rfl,rfl,hq,he,q⟩:=h
  cases rx
  obtain⟨t,rfl⟩:=ry
  obtain⟨its,r,pl,hz⟩:=I.list hq
  obtain⟨j,h1,h2,h3,h4,h5⟩:=zhm he
  obtain⟨w,ew,rw'⟩:=r.get h2
  have hl:=r.length
  have hn:=zen
  have fin:EP X pins σ Q w s:=⟨z,H,I,rw',q⟩
  by_cases h0:0≤i
  · have hj:i.toNat=j:=by
      rw[seqIndex_of h0 h5]at h1
      exact Option.some.inj h1
    exact item_listR pl.isList h0 (by omega) (by rw[hj];simpa using ew) fin hs
  · have hj:(i+(its.toArray.size:Int)).toNat=j:=by
      rw[seqIndex_neg (by omega) h4]at h1
      rw[List.size_toArray,← hl]
      exact Option.some.inj h1
    exact subscriptTail_builtinR (x:=w) pl.isList.typeIs slot_list_getitem.lookup
      (wpAny_getItem_list_neg (Q:=fun r s'=>r=w∧EP X pins σ Q r s') pl.isList (by omega) (by rw[List.size_toArray]<;>omega) (by omega) (by rw[hj];simpa using ew) ⟨rfl,fin⟩) hs
theorem zam:IxR X (rIxT X.K):=by
  intro value slice pins s σ H x y v u Q I rx ry h hs
  obtain⟨p,xs,i,z,rfl,rfl,hq,he,q⟩:=h
  cases rx
  obtain⟨t,rfl⟩:=ry
  obtain⟨its,r,pl,hz⟩:=I.tuple hq
  obtain⟨j,h1,h2,h3,h4,h5⟩:=zhm he
  obtain⟨w,ew,rw'⟩:=r.get h2
  have hl:=r.length
  have hn:=zen
  have fin:EP X pins σ Q w s:=⟨z,H,I,rw',q⟩
  exact subscriptTail_builtinR (x:=w) pl.typeIs slot_tuple_getitem.lookup
    (getItem_tuple (j:=j) (Q:=fun r s'=>r=w∧EP X pins σ Q r s') pl (by omega) (by omega) (by rw[List.size_toArray,← hl];exact h1) (by simpa using ew) ⟨rfl,fin⟩) hs
theorem zfM (its:List Value) (n j:Nat) (u:Value):Obj.mapSeq (·.setIfInBounds j u) { cls:=.type "list",data:=.seq its.toArray n }={ cls:=.type "list",data:=.seq (its.set j u).toArray n }:=by
  simp[Obj.mapSeq]
theorem Inv.lst {pins:List (Addr × Obj)}{σ:St}{H:Hp}{s:Shared}{p:Addr}{xs:List V}(I:Inv X pins σ H s) (h:H p=some (.lst xs)) :
    ∃ (its:List Value) (n:Nat),Vals xs its∧s.heap.get? p=some { cls:=.type "list",data:=.seq its.toArray n }∧xs.length≤sizeLine:=by
  obtain⟨z,its,n,r,e⟩:=I.hok p _ h
  exact⟨its,n,r,e,z⟩
theorem Inv.lstUpd {pins:List (Addr × Obj)}{σ:St}{H:Hp}{s:Shared}{p:Addr}{xs ys:List V}{its its':List Value}{n n':Nat}{f:Obj→Obj}(I:Inv X pins σ H s) (h:H p=some (.lst xs))
    (ho:s.heap.get? p=some { cls:=.type "list",data:=.seq its.toArray n }) (hf:f { cls:=.type "list",data:=.seq its.toArray n }={ cls:=.type "list",data:=.seq its'.toArray n' }) (r:Vals ys its') (hz:ys.length≤sizeLine) (t:Nat) :
    Inv X pins σ (upd H p (.lst ys)) { s with heap:=s.heap.update p f,toks:=t }:=by
  have e:(s.heap.update p f).get? p=some { cls:=.type "list",data:=.seq its'.toArray n' }:=by
    rw[Heap.get?_update_self f ho (by rw[hf]<;>rfl),hf]
  refine I.write (x:=p) (e:=p) (by rw[h];trivial) (.inl rfl) (fun b u hb q=>(Heap.get?_update_other _ _ (Ne.symm hb)).trans q) ⟨_,e⟩ ?_
  exact⟨hz,its',n',r,e⟩
def zkk:V→V→V→Hp→(Hp→Prop)→Prop:=fun o i v H Q=>∃ p xs k j,o=.ref p∧i=.int k∧H p=some (.lst xs)∧ixN xs.length k=some j∧Q (upd H p (.lst (xs.set j v)))
theorem set_list:PSet X zkk:=by
  intro pins s σ H o i v ov iv u Q I ro ri rv h
  obtain⟨p,xs,k,j,rfl,rfl,hp,hj,q⟩:=h
  cases ro
  obtain⟨t,rfl⟩:=ri
  obtain⟨its,n,r,ho,hz⟩:=I.lst hp
  obtain⟨h1,h2,h3,h4⟩:=zgZ hj
  have hl:=r.length
  have hn:=zen
  have I':Inv X pins σ (upd H p (.lst (xs.set j v))) { s with heap:=s.heap.update p (Obj.mapSeq (·.setIfInBounds j u)) } :=
    I.lstUpd hp ho (zfM its n j u) (r.set rv j) (by rw[List.length_set];exact hz) s.toks
  by_cases h0:0≤k
  · have hk:k.toNat=j:=by
      rw[seqIndex_of h0 h4]at h1
      exact Option.some.inj h1
    exact PySem.W.ki_setAt ho h0 (by omega) (by rw[List.size_toArray,← hl];exact h4) (by rw[hk];exact⟨_,I',q⟩)
  · have hk:(k+(its.toArray.size:Int)).toNat=j:=by
      rw[seqIndex_neg (by omega) h3]at h1
      rw[List.size_toArray,← hl]
      exact Option.some.inj h1
    exact PySem.W.ki_setBack ho (by omega) (by rw[List.size_toArray,← hl];exact h3) (by omega) (by rw[hk];exact⟨_,I',q⟩)
theorem zd7 (lo hi:Option Int) (n:Nat):(sliceBounds lo hi none n).1=((HT.sIx n 0 lo:Nat):Int)∧(sliceBounds lo hi none n).2.1=((HT.sIx n n hi:Nat):Int)∧(sliceBounds lo hi none n).2.2=1:=by
  refine⟨?_,?_,rfl⟩
  · cases lo with
    | none=>simp[sliceBounds,HT.sIx]
    | some i =>
      simp only[sliceBounds,HT.sIx,Option.getD_none,show (1:Int) > 0 by decide,if_true]
      by_cases h:i<0
      · simp only[h,if_true]<;>omega
      · simp only[h,if_false]<;>omega
  · cases hi with
    | none=>simp[sliceBounds,HT.sIx]
    | some i =>
      simp only[sliceBounds,HT.sIx,Option.getD_none,show (1:Int) > 0 by decide,if_true]
      by_cases h:i<0
      · simp only[h,if_true]<;>omega
      · simp only[h,if_false]<;>omega
theorem zdB (its:List Value) (lo hi:Option Int):slicePick its.toArray lo hi none=((its.drop (HT.sIx its.length 0 lo)).take (HT.sIx its.length its.length hi-HT.sIx its.length 0 lo)).toArray:=by
  obtain⟨h1,h2,h3⟩:=zd7 lo hi its.toArray.size
  unfold slicePick
  rw[h1,h2,h3]
  simp only[sliceRange_one,pick_run,List.size_toArray]<;>rfl
def rSlL (K:PySem.W.Frag):V→Option Int→Option Int→Hp→VK→Prop:=fun x lo hi H Q=>∃ a xs,x=.ref a∧SqL K H a xs∧∀ p,H p=none→Q (.ref p) (upd H p (.lst (cutV xs lo hi)))
theorem sl_list:SlR X (rSlL X.K):=by
  intro pins s σ H x v vl vu lo hi sl Q I rx hs pl pu h
  obtain⟨a,xs,rfl,hx,q⟩:=h
  cases rx
  obtain⟨its,r,ht,hz⟩:=I.list hx
  have hlen:=r.length
  refine⟨"list",_,slot_list_getitem.lookup,ht.isList.typeIs,?_⟩
  refine wpAny_getItem_list_slice ht.isList hs pl pu .none (by simp) ?_ (by rw[List.size_toArray]<;>omega)
  rw[zdB,← hlen]
  refine⟨.ref s.heap.objs.size,_,I.laid (t':=s.toks) (o:=.lst (cutV xs lo hi)) (fun b ob q=>Heap.get?_push_of_some _ q) (Nat.le_refl _) ?_,rfl,q _ (I.hok.fresh (Nat.le_refl _))⟩
  exact⟨Nat.le_trans (zcW xs lo hi) hz,_,0,(r.drop (HT.sIx xs.length 0 lo)).take (HT.sIx xs.length xs.length hi-HT.sIx xs.length 0 lo),Heap.get?_push_size _ rfl⟩
def zb5:V→Bool
  | .non=>true
  | .bl _=>true
  | .int _=>true
  | .str _=>true
  | _=>false
def eqV:V→V→Bool
  | .non,.non=>true
  | .bl a,.bl b=>a == b
  | .bl a,.int b=>(if a then 1 else 0) == b
  | .int a,.bl b=>a == (if b then 1 else 0)
  | .int a,.int b=>a == b
  | .str a,.str b=>a == b
  | _,_=>false
theorem zik {A:Around}{s:Shared}{y x:V}{u v:Value}(ry:RelV y u) (rx:RelV x v) (fy:zb5 y=true) (fx:zb5 x=true):SeqAt.EqAt A s u v (eqV y x):=by
  cases y with
  | non =>
    cases ry
    cases x with
    | non=>cases rx;exact SeqAt.EqAt.same _
    | bl b=>cases rx;exact SeqAt.EqAt.none_bool b
    | int b=>obtain⟨t,rfl⟩:=rx;exact SeqAt.EqAt.none_int b t
    | str b=>obtain⟨t,rfl⟩:=rx;exact SeqAt.EqAt.none_str b t
    | _=>exact absurd (show false=true from fx) Bool.false_ne_true
  | bl a =>
    cases ry
    cases x with
    | non=>cases rx;exact SeqAt.EqAt.bool_none a
    | bl b=>cases rx;exact SeqAt.EqAt.bool_bool a b
    | int b=>obtain⟨t,rfl⟩:=rx;exact SeqAt.EqAt.bool_int a b t
    | str b=>obtain⟨t,rfl⟩:=rx;exact SeqAt.EqAt.bool_str a b t
    | _=>exact absurd (show false=true from fx) Bool.false_ne_true
  | int a =>
    obtain⟨t',rfl⟩:=ry
    cases x with
    | non=>cases rx;exact SeqAt.EqAt.int_none a t'
    | bl b=>cases rx;exact SeqAt.EqAt.int_bool a t' b
    | int b=>obtain⟨t,rfl⟩:=rx;exact SeqAt.EqAt.int_int a t' b t
    | str b=>obtain⟨t,rfl⟩:=rx;exact SeqAt.EqAt.int_str a t' b t
    | _=>exact absurd (show false=true from fx) Bool.false_ne_true
  | str a =>
    obtain⟨t',rfl⟩:=ry
    cases x with
    | non=>cases rx;exact SeqAt.EqAt.str_none a t'
    | bl b=>cases rx;exact SeqAt.EqAt.str_bool a t' b
    | int b=>obtain⟨t,rfl⟩:=rx;exact SeqAt.EqAt.str_int a t' b t
    | str b=>obtain⟨t,rfl⟩:=rx;exact SeqAt.EqAt.str_str a t' b t
    | _=>exact absurd (show false=true from fx) Bool.false_ne_true
  | _=>exact absurd (show false=true from fy) Bool.false_ne_true
def eqU (x:V) (u:Value):Bool:=match u with
  | .none=>eqV .non x
  | .bool b=>eqV (.bl b) x
  | .int i _=>eqV (.int i) x
  | .str z _=>eqV (.str z) x
  | _=>false
theorem zij {x y:V}{u:Value}(r:RelV y u) (f:zb5 y=true):eqU x u=eqV y x:=by
  cases y with
  | non=>cases r;rfl
  | bl b=>cases r;rfl
  | int i=>obtain⟨t,rfl⟩:=r;rfl
  | str z=>obtain⟨t,rfl⟩:=r;rfl
  | _=>exact absurd (show false=true from f) Bool.false_ne_true
theorem zcZ {x:V}:∀ {xs:List V}{us:List Value},Vals xs us→xs.all zb5=true→us.any (eqU x)=xs.any fun y=>eqV y x
  | _,_,.nil,_=>rfl
  | y::xs,u::us,.cons r t,f=>by
    rw[List.all_cons,Bool.and_eq_true]at f
    rw[List.any_cons,List.any_cons,zij r f.1,zcZ t f.2]
theorem zb1 {A:Around}{s:Shared}{x:V}{v:Value}(rx:RelV x v) (fx:zb5 x=true):∀ {xs:List V}{us:List Value},Vals xs us→xs.all zb5=true→∀ u∈us,SeqAt.EqAt A s u v (eqU x u)
  | _,_,.nil,_=>fun u hu=>by cases hu
  | y::xs,u::us,.cons r t,f=>fun u' hu=>by
    rw[List.all_cons,Bool.and_eq_true]at f
    rcases List.mem_cons.mp hu with rfl|hu
    · rw[zij r f.1];exact zik r rx f.1 fx
    · exact zb1 rx fx t f.2 u' hu
def inV (x:V) (xs:List V):Bool:=xs.any fun y=>eqV y x
def rIn (K:PySem.W.Frag) (neg:Bool):R2:=fun x y H Q=>∃ p xs,y=.ref p∧(SqL K H p xs∨SqT K H p xs)∧zb5 x=true∧xs.all zb5=true∧Q (.bl (if neg then !inV x xs else inV x xs)) H
theorem zgE:OpR X (compareOp .In) (rIn X.K false):=by
  intro pins s σ H x y v u Q I rx ry h
  obtain⟨p,xs,rfl,hq,fx,fs,q⟩:=h
  cases ry
  rcases hq with hq|hq
  · obtain⟨its,r,pl,hz⟩:=I.list hq
    refine SeqAt.in_listAt (eqU x) pl.isList (fun w hw=>zb1 rx fx r fs w (by simpa using hw)) ⟨.bl _,H,I,rfl,?_⟩
    rw[show its.toArray.any (eqU x)=its.any (eqU x) by simp,zcZ r fs]
    exact q
  · obtain⟨its,r,pl,hz⟩:=I.tuple hq
    refine SeqAt.in_tupleAt (eqU x) pl (fun w hw=>zb1 rx fx r fs w (by simpa using hw)) ⟨.bl _,H,I,rfl,?_⟩
    rw[show its.toArray.any (eqU x)=its.any (eqU x) by simp,zcZ r fs]
    exact q
theorem zcq:OpR X (compareOp .NotIn) (rIn X.K true):=by
  intro pins s σ H x y v u Q I rx ry h
  obtain⟨p,xs,rfl,hq,fx,fs,q⟩:=h
  cases ry
  rcases hq with hq|hq
  · obtain⟨its,r,pl,hz⟩:=I.list hq
    refine SeqAt.notIn_listAt (eqU x) pl.isList (fun w hw=>zb1 rx fx r fs w (by simpa using hw)) ⟨.bl _,H,I,rfl,?_⟩
    rw[show its.toArray.any (eqU x)=its.any (eqU x) by simp,zcZ r fs]
    exact q
  · obtain⟨its,r,pl,hz⟩:=I.tuple hq
    refine SeqAt.notIn_tupleAt (eqU x) pl (fun w hw=>zb1 rx fx r fs w (by simpa using hw)) ⟨.bl _,H,I,rfl,?_⟩
    rw[show its.toArray.any (eqU x)=its.any (eqU x) by simp,zcZ r fs]
    exact q
theorem zai:CallR X (.builtin "len") (fun xs H Q=>∃ p ys,xs=[.ref p]∧(SqL X.K H p ys∨SqT X.K H p ys)∧Q (.int ys.length) H):=by
  intro pins s σ H xs us Q I r h
  obtain⟨p,ys,rfl,hq,q⟩:=h
  obtain⟨u,rfl,rx⟩:=zfu r
  cases rx
  have hn:=zen
  rcases hq with hq|hq
  · obtain⟨its,r',pl,hz⟩:=I.list hq
    have hlen:=r'.length
    exact Calls.call_len_list pl.isList (by simp only[List.size_toArray]<;>omega) ⟨.int ys.length,H,I.tok _,⟨s.toks+1,by rw[List.size_toArray,hlen]⟩,q⟩
  · obtain⟨its,r',pl,hz⟩:=I.tuple hq
    have hlen:=r'.length
    exact len_tuple pl (by simp only[List.size_toArray]<;>omega) ⟨.int ys.length,H,I.tok _,⟨s.toks+1,by rw[List.size_toArray,hlen]⟩,q⟩
theorem zbt:CallR X (.type "list") (fun xs H Q=>∃ p ys,xs=[.ref p]∧(SqL X.K H p ys∨SqT X.K H p ys)∧∀ l,H l=none→Q (.ref l) (upd H l (.lst ys))):=by
  intro pins s σ H xs us Q I r h
  obtain⟨p,ys,rfl,hq,q⟩:=h
  obtain⟨u,rfl,rx⟩:=zfu r
  cases rx
  have fin:∀ (its:List Value),Vals ys its→ys.length≤sizeLine→∀ (h':Heap) (c':Nat),(∀ b o',s.heap.get? b=some o'→h'.get? b=some o') →
      h'.get? s.heap.objs.size=some { cls:=.type "list",dict:=none,data:=.seq its.toArray c',slots:=#[] }→EP X pins σ Q (.ref s.heap.objs.size) { s with heap:=h' }:=fun its r' hz h' c' kp e =>
    ⟨.ref s.heap.objs.size,_,I.laid (t':=s.toks) kp (Nat.le_refl _) (show ObjOk X.prog X.w _ h' _ (.lst ys) from⟨hz,its,c',r',e⟩),rfl,q _ (I.hok.fresh (Nat.le_refl _))⟩
  rcases hq with hq|hq
  · obtain⟨its,r',pl,hz⟩:=I.list hq
    have hlen:=r'.length
    obtain⟨o,ho,hc,n,hd⟩:=pl.isList
    exact call_list_seq p (.inl rfl) ho hc hd (fun h' c' kp e=>fin its r' hz h' c' kp e) (by simp only[List.size_toArray]<;>omega)
  · obtain⟨its,r',pl,hz⟩:=I.tuple hq
    have hlen:=r'.length
    obtain⟨o,ho,hc,n,hd⟩:=pl
    exact call_list_seq p (.inr rfl) ho hc hd (fun h' c' kp e=>fin its r' hz h' c' kp e) (by simp only[List.size_toArray]<;>omega)
theorem call_tuple_of:CallR X (.type "tuple") (fun xs H Q=>∃ p ys,xs=[.ref p]∧((SqL X.K H p ys∧∀ l,H l=none→Q (.ref l) (upd H l (.tup ys)))∨(SqT X.K H p ys∧Q (.ref p) H))):=by
  intro pins s σ H xs us Q I r h
  obtain⟨p,ys,rfl,h⟩:=h
  obtain⟨u,rfl,rx⟩:=zfu r
  cases rx
  rcases h with ⟨hq,q⟩|⟨hq,q⟩
  · obtain⟨its,r',pl,hz⟩:=I.list hq
    have hlen:=r'.length
    refine call_tuple_list pl.isList (fun h' kp=>?_) (by simp only[List.size_toArray]<;>omega)
    have I1:Inv X pins σ H { s with heap:=h' }:=I.kept (t':=s.toks) kp
    have I2:Inv X pins σ (upd H h'.objs.size (.tup ys)) { s with heap:=h'.push { cls:=.type "tuple",data:=.seq its.toArray } } :=
      I1.laid (t':=s.toks) (fun b o e=>Heap.get?_push_of_some _ e) (Nat.le_refl _) (show ObjOk X.prog X.w _ _ _ (.tup ys) from⟨hz,its,r',TupX.new _ _⟩)
    exact⟨.ref h'.objs.size,_,I2,rfl,q _ (I1.hok.fresh (Nat.le_refl _))⟩
  · obtain⟨its,r',pl,hz⟩:=I.tuple hq
    exact call_tuple_same pl ⟨.ref p,H,I,rfl,q⟩
def tyV (K:PySem.W.Frag) (T:String) (x:V) (H:Hp):Prop:=match x with
  | .str _=>T = "str"
  | .int _=>T = "int"
  | .ref p=>(T = "list"∧∃ xs,SqL K H p xs)∨(T = "tuple"∧∃ o,K.lookup p=some o∧o.cls=.type "tuple"∧o.dict=none) ∨
      (T = "dict"∧((∃ kvs,H p=some (.dK kvs))∨∃ kvs,H p=some (.dT kvs)))∨(T = "set"∧∃ S n,H p=some (.set S n))
  | _=>False
theorem zic {pins:List (Addr × Obj)}{σ:St}{H:Hp}{s:Shared}{T:String}{x:V}{v:Value}(I:Inv X pins σ H s) (r:RelV x v) (ty:tyV X.K T x H) :
    s.TypeIs v T∧∀ a,v=.ref a→∃ ob,s.heap.get? a=some ob∧ob.dict=none:=by
  cases x with
  | str z =>
    obtain⟨t,rfl⟩:=r
    cases (show T = "str" from ty)
    exact⟨typeIs_str s z t,fun _ e=>nomatch e⟩
  | int i =>
    obtain⟨t,rfl⟩:=r
    cases (show T = "int" from ty)
    exact⟨typeIs_int s i t,fun _ e=>nomatch e⟩
  | ref p =>
    cases r
    rcases ty with ⟨rfl,xs,hq⟩|⟨rfl,o,hk,hc,hd⟩|⟨rfl,hk⟩|⟨rfl,S,n,hk⟩
    · obtain⟨its,_,pl,_⟩:=I.list hq
      refine⟨pl.isList.typeIs,fun a e=>?_⟩
      cases e
      obtain⟨o,n,e,c,hd,_⟩:=pl
      exact⟨o,e,hd⟩
    · refine⟨⟨o,I.kIn p o hk,hc⟩,fun a e=>?_⟩
      cases e
      exact⟨o,I.kIn _ o hk,hd⟩
    · have z:∃ o,s.heap.get? p=some o∧o.ExactDict:=by
        rcases hk with ⟨kvs,hk⟩|⟨kvs,hk⟩
        · obtain⟨_,_,_,_,o,_,_,e,ex,_⟩:=I.hok p _ hk
          exact⟨o,e,ex⟩
        · obtain⟨_,_,_,_,o,_,_,e,ex,_⟩:=I.hok p _ hk
          exact⟨o,e,ex⟩
      obtain⟨o,e,ex⟩:=z
      refine⟨⟨o,e,ex.1⟩,fun a e2=>?_⟩
      cases e2
      exact⟨o,e,ex.2.1⟩
    · obtain⟨o,_,_,_,e,ex,_⟩:=I.hok p _ hk
      refine⟨⟨o,e,ex.1⟩,fun a e2=>?_⟩
      cases e2
      exact⟨o,e,ex.2.1⟩
  | _=>exact False.elim ty
def tBM0 (K:PySem.W.Frag) (T:String) (r:V→List V→Hp→VK→Prop) (to:TE):TE:=fun σ H Q=>to σ H fun x H1=>tyV K T x H1∧r x [] H1 Q
def tBM (K:PySem.W.Frag) (T:String) (r:V→List V→Hp→VK→Prop) (to:TE) (t:TA):TE:=fun σ H Q=>to σ H fun x H1=>tyV K T x H1∧t σ H1 fun xs H2=>r x xs H2 Q
variable {o e:Expr}{es:List Expr}{to:TE}{t:TA}{name:Str}{apos cpos:Pos}{T id:String}{r:V→List V→Hp→VK→Prop}
theorem zjS (pa:PlainAttrs T) (slot:Slot T name id) (hty:typeOf (.builtin id)=pure (.type "method_descriptor")) (hm:MtR X id r) (ho:PE X o to)
    (hbase:attributeBase o name X.env (eval o X.env)=eval o X.env:=by rfl) (hline:(apos.endLine == cpos.line)=true:=by rfl):PE X (.Call (.Attribute o name apos) [] [] cpos) (tBM0 X.K T r to):=by
  intro pins s σ H Q I h
  refine wpAny_Call_method0_late hbase hline (thn (ho pins s σ H _ I h) fun v s1 ⟨x,H1,I1,r1,ty,q1⟩=>?_)
  obtain⟨h1,h2⟩:=zic I1 r1 ty
  exact⟨T,id,pa,slot,hty,h1,h2,Calls.callWith_builtin rfl (PySem.evalArgs_none (hm pins s1 σ H1 x [] v [] Q I1 r1 .nil q1))⟩
theorem pe_bm (pa:PlainAttrs T) (slot:Slot T name id) (hty:typeOf (.builtin id)=pure (.type "method_descriptor")) (hm:MtR X id r) (ho:PE X o to) (ha:PA X (e::es) t)
    (hbase:attributeBase o name X.env (eval o X.env)=eval o X.env:=by rfl)
    (hfew:((backTo cpos (starEach (e::es) X.env)).all (fun x=>!x.1) && (backToKw cpos (keywordEach [] X.env)).all (fun x=>x.1.isSome)
      && decide ((e::es).length+([]:List Keyword).length+(if ([]:List Keyword).isEmpty then 0 else 1)<30))=true:=by rfl)
    (hline:(apos.endLine == cpos.line)=true:=by rfl) (hs:starEach (e::es) X.env=(false,eval e X.env)::starEach es X.env:=by rfl) (hplain:(backTo cpos (starEach es X.env)).any (·.1)=false:=by rfl) :
    PE X (.Call (.Attribute o name apos) (e::es) [] cpos) (tBM X.K T r to t):=by
  intro pins s σ H Q I h
  refine wpAny_Call_method_late hbase hfew hline rfl (thn (ho pins s σ H _ I h) fun v s1 ⟨x,H1,I1,r1,ty,q1⟩=>?_)
  obtain⟨h1,h2⟩:=zic I1 r1 ty
  refine⟨T,id,pa,slot,hty,h1,h2,?_⟩
  have hA:=ha cpos pins s1 σ H1 _ I1 q1
  rw[hs]at hA ⊢
  refine Calls.callWith_builtin (by show (false || (backTo cpos (starEach es X.env)).any (·.1))=false;rw[hplain]<;>rfl) (Calls.evalArgs_plain ?_)
  exact thn hA fun us s2 ⟨vs,H2,I2,r2,q2⟩=>hm pins s2 σ H2 x vs v us Q I2 r1 r2 q2
/- xs.append(e),list.index on a module's tuple .. are MtR facts of 06m -/
end
def MtM (X:Cx) (id:String) (r:V→List V→Hp→VK→Prop):Prop :=
  ∀ (pins:List (Addr × Obj)) (s:Shared) (σ:St) (H:Hp) (x:V) (xs:List V) (v:Value) (us:List Value) (Q:VK),Inv X pins σ H s→RelV x v→Vals xs us→r x xs H Q →
    wpAny (model X.prog X.w) X.A (call (.builtin id) (v::us)) (EP X pins σ Q) X.xe s
theorem Vals.one:∀ {x:V}{us:List Value},Vals [x] us→∃ u,us=[u]∧RelV x u
  | _,_,.cons r .nil=>⟨_,rfl,r⟩
theorem Vals.two:∀ {x y:V}{us:List Value},Vals [x,y] us→∃ u v,us=[u,v]∧RelV x u∧RelV y v
  | _,_,_,.cons r (.cons q .nil)=>⟨_,_,rfl,r,q⟩
theorem Vals.reverse {xs:List V}{us:List Value}(h:Vals xs us):Vals xs.reverse us.reverse:=by
  induction h with
  | nil=>exact .nil
  | cons r t ih=>rw[List.reverse_cons,List.reverse_cons];exact Vals.append ih (.cons r .nil)
theorem Vals.rep {xs:List V}{us:List Value}(h:Vals xs us):∀ k:Nat,Vals (List.replicate k xs).flatten (List.replicate k us).flatten
  | 0=>.nil
  | k+1=>by
    rw[List.replicate_succ,List.replicate_succ,List.flatten_cons,List.flatten_cons]
    exact Vals.append h (Vals.rep h k)
theorem zeo (its:List Value):∀ (k:Nat) (acc:List Value),
    List.foldl (fun x1 x2=>x1++x2) acc.toArray (List.replicate k its.toArray)=(acc++(List.replicate k its).flatten).toArray
  | 0,acc=>by simp
  | k+1,acc=>by
    have e:acc.toArray++its.toArray=(acc++its).toArray:=by simp
    have e2:(acc++its)++(List.replicate k its).flatten=acc++(List.replicate (k+1) its).flatten:=by
      rw[List.replicate_succ,List.flatten_cons,List.append_assoc]
    rw[← e2,← zeo its k (acc++its),← e,List.replicate_succ,List.foldl_cons]
section
variable {X:Cx}{pins:List (Addr × Obj)}{σ:St}{H:Hp}{s:Shared}{l b:Addr}{xs ys zs:List V}
theorem Inv.lset {its its':List Value}{n:Nat}{f:Array Value→Array Value}{t':Nat}(I:Inv X pins σ H s) (hH:H l=some (.lst xs))
    (e:s.heap.get? l=some { cls:=.type "list",data:=.seq its.toArray n }) (hf:f its.toArray=its'.toArray) (hv:Vals ys its') (hz:ys.length≤sizeLine) :
    Inv X pins σ (upd H l (.lst ys)) { s with heap:=s.heap.update l (Obj.mapSeq f),toks:=t' }:=by
  have q:=PySem.IsL.update e f
  rw[hf]at q
  refine I.write (x:=l) (e:=l) (by rw[hH];exact trivial) (.inl rfl) (fun b' u hb hu=>(Heap.get?_update_other s.heap (Obj.mapSeq f) (Ne.symm hb)).trans hu) ⟨_,q⟩ ?_
  exact⟨hz,its',_,hv,q⟩
theorem Inv.lnew {its:List Value}{t':Nat}(I:Inv X pins σ H s) (hv:Vals ys its) (hz:ys.length≤sizeLine) :
    Inv X pins σ (upd H s.heap.objs.size (.lst ys)) { s with heap:=s.heap.push { cls:=.type "list",data:=.seq its.toArray },toks:=t' } :=
  I.laid (fun _ _ q=>Heap.get?_push_of_some _ q) (Nat.le_refl _) ⟨hz,its,0,hv,Heap.get?_push_size _ rfl⟩
theorem Inv.fresh (I:Inv X pins σ H s):H s.heap.objs.size=none:=I.hok.fresh (Nat.le_refl _)
theorem Inv.lstM (I:Inv X pins σ H s) (hH:H l=some (.lst xs)):xs.length≤sizeLine∧∃ (its:List Value) (n:Nat),Vals xs its∧xs.length=its.length∧s.heap.get? l=some { cls:=.type "list",data:=.seq its.toArray n }:=by
  obtain⟨z,its,n,r,e⟩:=I.hok l _ hH
  exact⟨z,its,n,r,r.length,e⟩
theorem zfj {n:Nat}(h:n≤sizeLine):Builtin.List.listTooLong n=false:=by
  unfold Builtin.List.listTooLong
  exact decide_eq_false (by omega)
end
section
variable {X:Cx}
def ziR:V→List V→Hp→VK→Prop:=fun x vs H Q=>∃ l xs y,x=.ref l∧vs=[y]∧H l=some (.lst xs)∧xs.length<sizeLine∧Q .non (upd H l (.lst (xs++[y])))
theorem mt_append:MtM X "list.append" ziR:=by
  intro pins s σ H x vs v us Q I rx rv h
  obtain⟨l,xs,y,rfl,rfl,hH,hz,q⟩:=h
  cases rx
  obtain⟨u,rfl,ru⟩:=rv.one
  obtain⟨z,its,n,r,hl,e⟩:=I.lstM hH
  refine call_meets F.slot_list_append ⟨_,e,rfl⟩ F.entry_list_append (F.args_list_append_2 _ _) (PySem.list_append l its.toArray n u (by rw[List.size_toArray];omega)) ⟨e,?_⟩
  refine⟨.non,_,I.lset (its':=its++[u]) hH e (by simp) (r.append (.cons ru .nil)) ?_,rfl,q⟩
  rw[List.length_append,List.length_singleton]
  omega
def ziQ:V→List V→Hp→VK→Prop:=fun x vs H Q=>∃ l b xs zs,x=.ref l∧vs=[.ref b]∧H l=some (.lst xs)∧H b=some (.lst zs)∧xs.length+zs.length≤sizeLine∧Q .non (upd H l (.lst (xs++zs)))
theorem zgS:MtM X "list.extend" ziQ:=by
  intro pins s σ H x vs v us Q I rx rv h
  obtain⟨l,b,xs,zs,rfl,rfl,hH,hB,hz,q⟩:=h
  cases rx
  obtain⟨u,rfl,ru⟩:=rv.one
  cases ru
  obtain⟨z,its,n,r,hl,e⟩:=I.lstM hH
  obtain⟨z2,its2,n2,r2,hl2,e2⟩:=I.lstM hB
  have hsz:its.toArray.size+its2.toArray.size≤sizeLine:=by rw[List.size_toArray,List.size_toArray];omega
  have hlong:¬(!its.toArray.isEmpty && Builtin.List.listTooLong (its.toArray.size+its2.toArray.size))=true:=by
    rw[zfj hsz,Bool.and_false]
    exact Bool.false_ne_true
  refine call_meets F.slot_list_extend ⟨_,e,rfl⟩ F.entry_list_extend (F.args_list_extend_2 _ _)
    (AutoSeq1.list_extend_list_list_0 l its.toArray n b its2.toArray n2 hlong (by rw[List.size_toArray];omega) (by omega)) ⟨e,e2,?_⟩
  refine⟨.non,_,I.lset (its':=its++its2) hH e (by simp) (r.append r2) ?_,rfl,q⟩
  rw[List.length_append]
  omega
def rCat:R2:=fun x y H Q=>∃ l b xs zs,x=.ref l∧y=.ref b∧H l=some (.lst xs)∧H b=some (.lst zs)∧xs.length+zs.length≤sizeLine∧∀ p,H p=none→Q (.ref p) (upd H p (.lst (xs++zs)))
theorem op_cat:OpR X (binaryOp .Add) rCat:=by
  intro pins s σ H x y v u Q I rx ry h
  obtain⟨l,b,xs,zs,rfl,rfl,hH,hB,hz,q⟩:=h
  cases rx
  cases ry
  obtain⟨z,its,n,r,hl,e⟩:=I.lstM hH
  obtain⟨z2,its2,n2,r2,hl2,e2⟩:=I.lstM hB
  refine PySem.P.add_list e e2 ?_ (by rw[List.size_toArray,List.size_toArray];omega)
  have ea:its.toArray++its2.toArray=(its++its2).toArray:=by simp
  rw[ea]
  exact⟨.ref _,_,I.lnew (t':=s.toks) (r.append r2) (by rw[List.length_append];omega),rfl,q _ I.fresh⟩
def rRep:R2:=fun x y H Q=>∃ l k xs,x=.ref l∧y=.int k∧H l=some (.lst xs)∧-(2 ^ 63)≤k∧k<2 ^ 63∧xs.length*k.toNat≤sizeLine ∧
  ∀ p,H p=none→Q (.ref p) (upd H p (.lst (List.replicate k.toNat xs).flatten))
theorem zjd {α:Type}(xs:List α) (k:Nat):(List.replicate k xs).flatten.length=k*xs.length:=by
  induction k with
  | zero=>simp
  | succ k ih=>rw[List.replicate_succ,List.flatten_cons,List.length_append,ih,Nat.succ_mul,Nat.add_comm]
theorem zff:OpR X (binaryOp .Mult) rRep:=by
  intro pins s σ H x y v u Q I rx ry h
  obtain⟨l,k,xs,rfl,rfl,hH,h1,h2,hz,q⟩:=h
  cases rx
  obtain⟨t,rfl⟩:=ry
  obtain⟨z,its,n,r,hl,e⟩:=I.lstM hH
  have hlen:its.toArray.size*k.toNat≤sizeLine:=by rw[List.size_toArray,← hl];exact hz
  have hcap:¬ its.toArray.size*k.toNat > (2 ^ 63-1) / 8:=by
    have:(sizeLine:Nat)≤(2 ^ 63-1) / 8:=by decide
    omega
  have hfit:¬(!Builtin.List.listFitsIndex k)=true:=by
    rw[fitsIndex_both h1 h2]
    exact Bool.false_ne_true
  have hlong:¬ Builtin.List.listTooLong (its.toArray.size*k.toNat)=true:=by
    rw[zfj hlen]
    exact Bool.false_ne_true
  have hnew:List.foldl (fun x1 x2=>x1++x2) #[] (List.replicate (if its.toArray.isEmpty=true then 0 else k.toNat) its.toArray)=(List.replicate k.toNat its).flatten.toArray:=by
    have f0:∀ m:Nat,List.foldl (fun x1 x2=>x1++x2) #[] (List.replicate m its.toArray)=(List.replicate m its).flatten.toArray:=fun m=>by
      have:=zeo its m []
      rw[List.nil_append]at this
      exact this
    rw[f0]
    cases its with
    | nil=>simp
    | cons a r'=>rw[if_neg (by simp)]
  refine wpAny_binaryOp_repeat_ref (T:="list") (U:="int") (by decide) ⟨_,e,rfl⟩ (fun s'=>typeIs_int s' k t) noFill_list_mul F.fills_int_mul F.slot_int_rmul repeat_list F.slot_int_index.lookup
    (call_meets F.slot_int_rmul (typeIs_int s k t) F.entry_int_rmul (F.args_int_rmul_2 _ _) (int___rmul___int_list k t l its.toArray n)
      ⟨e,rfl,⟨_,e,rfl⟩,call_meets F.slot_list_mul ⟨_,e,rfl⟩ F.entry_list_mul (F.args_list_mul_2 _ _) (AutoListH.list___mul___list_int_3 l its.toArray n k t hfit hcap hlong) ⟨e,?_⟩⟩)
  rw[hnew]
  exact⟨.ref _,_,I.lnew (t':=s.toks) (r.rep k.toNat) (by rw[zjd,Nat.mul_comm];exact hz),rfl,q _ I.fresh⟩
end
section
variable {prog:Program}{w:World}{A:Around}{E:Value→Shared→Prop}{s:Shared}
end
section
variable {X:Cx}
end
end L2
namespace Att
open PySem PySem.W PySem.Calls PyProof.Rows
theorem zcP {P:Params}{h:Heap}:∀ (ns:List Int) (vs:List Value),WellAll P h vs (ns.map WData.int)→IntsAre vs ns:=by
  intro ns
  induction ns with
  | nil =>
    intro vs w
    rw[List.map_nil]at w
    cases w
    exact .nil
  | cons n ns ih =>
    intro vs w
    rw[List.map_cons]at w
    cases w with
    | cons a b =>
      cases a
      exact .cons _ _ (ih _ b)
theorem zgm {l:OpenLaw}{n:Nat}(hn:l.most=some n) {P:Params}{h:Heap}{args:List WData}{vals:List Value}
    (hpre:l.row.toRowW.claim.pre args=true) (hwl:WellAll P h vals args) :
    ∃ a vs ns,vals=[Value.ref a]∧args=[WData.list (ns.map WData.int)]∧h.get? a=some { cls:=.type "list",data:=.seq vs.toArray }∧IntsAre vs ns∧ns.length≤n:=by
  have hsh:WShape.hasAll [] args [.list .int]=true:=(pre_splitW hpre).1
  have hc:l.pre.holds [] { args:=args }=true:=(pre_splitW hpre).2
  obtain⟨d,r,rfl,h1,h2⟩:=hasAllW_cons hsh
  obtain rfl:=hasAllW_nil h2
  obtain⟨xs,rfl,h3⟩:=hasW_list h1
  obtain⟨ns,rfl⟩:=items_int h3
  have hlen:ns.length≤n:=by
    unfold OpenLaw.pre at hc
    have h4:(WTm.not (.lt (.lit (.int (n:Int))) (.len (.arg 0)))).holds [] { args:=[.list (ns.map .int)] }=true:=by
      have h4:=(holds_andW hc).1
      rw[hn]at h4
      exact h4
    have h5:=condW_of h4 (w_not (w_lt w_lit (w_len_list (w_arg rfl))))
    rw[List.length_map]at h5
    refine Nat.le_of_not_lt fun q=>?_
    have q':(n:Int)<((ns.length:Nat):Int):=by omega
    first
      | (rw[decide_eq_true q']at h5;exact absurd h5 (by decide))
      | (simp at h5;omega)
  cases hwl with
  | cons w1 w2 =>
    cases w2
    cases w1 with
    | list ho hall=>exact⟨_,_,ns,rfl,rfl,ho,zcP ns _ hall,hlen⟩
theorem zgx (l:OpenLaw) (args:List WData):l.row.toRowW.claim.post args (.bool true) args=true :=
  postW_of (r:=l.row.toRowW) (X:=(true == true))
    (show WShape.has [] (.bool true) .bool=true by first|rfl|decide|simp[WShape.has,WShape.arms,WShape.armsAll])
    (show (WTm.eq .res (.lit (.bool true))).value [] { args:=args,res:=some (.bool true),after:=args }=some (.bool (true == true)) from w_eq_bool (w_res rfl) w_lit) rfl
theorem attach_call {l:OpenLaw}{n:Nat}{q:Program}{loose:List Str}{XP:(Str→Option Value)→Heap→Prop}{YP:World→Heap→Prop}{d:DefRec}
    (hn:l.most=some n) (hdf:d.params.defaults=[])
    (call:∀ (w:World) (s₀ s₁:Shared) (mg mb:Str→Option Value) (fa:Addr) (o:Obj) (pm cd doc:Value) (a:Addr) (vs:List Value) (ns:List Int),
      Ground q loose [] XP w s₀ mg mb s₁.heap→YP w s₁.heap →
      s₁.heap.get? fa=some o→o.data=.func (docDef d.name d.params d.body d.scope pm cd doc)→s₁.heap.CodeRec cd d.name→mg d.name=some (.ref fa) →
      s₁.heap.get? a=some { cls:=.type "list",data:=.seq vs.toArray }→IntsAre vs ns→ns.length≤n→s₁.gens = #[] →
      codeAny (model l.prog w) callerA (.call (.ref fa) ⟨[.ref a],[]⟩) (fun r s'=>r=.ok (.ret (.bool true))∧OldK s₁.heap s'.heap∧s'.os=s₁.os∧AllBare s'.gens) s₁) :
    WalkO q loose XP YP l.row.toRowW d [] (fun f vs=>PySem.call f vs):=by
  intro w s₀ s₁ mg mb G Y fa o pm cd doc dV kV ho hd hcd hD hmg hg args vals as hpre hlay hrd hwl hlo
  obtain rfl:dV=.none:=Dflts.none hD hdf
  obtain rfl:kV=.none:=Dflts.noKw hD
  obtain⟨a,vs,ns,rfl,rfl,hobj,hints,hlen⟩:=zgm hn hpre hwl
  refine enter_call (codeAny_mono (call w s₀ s₁ mg mb fa o pm cd doc a vs ns G Y ho (fd_plain hd) hcd hmg hobj hints hlen hg) fun r s' hq=>?_)
  obtain⟨rfl,h2,h3,h4⟩:=hq
  exact⟨.inl ⟨.bool true,.bool true,[],rfl,fun _=>rfl,.bool true,zgx l _,fun _=>⟨List.Pairwise.nil,fun _ hm=>(nomatch hm)⟩⟩,h2,h3,h4⟩
section
variable {prog:Program}{w:World}{A:Around}{E:Value→Shared→Prop}{s:Shared}{K:Frag}
def zkB (h:Heap) (L d:Addr):List (Addr × Obj):=(List.range h.objs.size).filterMap fun a=>if a=L∨a=d then none else (h.get? a).map fun o=>(a,o)
end
end Att
namespace L2
open PySem PySem.Spec PyProof.Rows
theorem zd2:∀ {vs:List Value}{ns:List Int},IntsAre vs ns→Vals (ns.map V.int) vs
  | _,_,.nil=>.nil
  | _,_,.cons n t h=>.cons ⟨t,rfl⟩ (zd2 h)
def Only (H:Hp):Prop:=∀ b,H b=none∨∃ o xs,H b=some (.frz o (.lst xs))
theorem zh4 {P:Program}{w:World}{K:PySem.W.Frag}{mg mb:Str→Option Value}{CX:CXT}{k:Nat}{fa a:Addr}{fd:FuncData}{x:Str}{sp:Sp}{s₁:Shared}{vs:List Value}{ns:List Int}
    (KX:K.In s₁.heap) (hns:s₁.heap.Ns mainGlobals mg) (hb:s₁.heap.Ns builtinsNs mb) (hbb:∀ x:Str,x≠"__name__"→mb x=bootBuiltins x) (hlim:s₁.heap.NoLimit) (hg:s₁.gens = #[])
    (ha:s₁.heap.get? a=some { cls:=.type "list",data:=.seq vs.toArray }) (hi:IntsAre vs ns) (hl:ns.length≤sizeLine) (hr:Room k callerA)
    (F:∀ base:Heap,K.In base→base.Ns mainGlobals mg→FnOk P w K mg base CX k fa fd [x] sp) (hbind:∀ (s:Shared) (u:Value),BindsTo s fd ⟨[u],[]⟩ [(x,u)])
    (hsp:∀ H:Hp,Only H→SqL K H a (ns.map V.int)→sp [.ref a] H (fun v _=>v=.bl true) fun _ _ _=>False)
    (hCX:∀ H e s',CX [] H s₁ (fun _ _ _=>False) e s'→False) :
    codeAny (model P w) callerA (.call (.ref fa) ⟨[.ref a],[]⟩) (fun r s'=>r=.ok (.ret (.bool true))∧OldK s₁.heap s'.heap∧s'.os=s₁.os∧AllBare s'.gens) s₁:=by
  have rv:=zd2 hi
  have lenV:=hi.length
  have core:∀ H:Hp,Only H→SqL K H a (ns.map V.int)→HOk P w H s₁.heap→(∀ b,H b≠none→b=a)→(H a≠none→K.lookup a=none) →
      codeAny (model P w) callerA (.call (.ref fa) ⟨[.ref a],[]⟩) (fun r s'=>r=.ok (.ret (.bool true))∧OldK s₁.heap s'.heap∧s'.os=s₁.os∧AllBare s'.gens) s₁:=by
    intro H hO hS hok hA hK
    have base_of:∀ {b:Addr}{o:Obj},s₁.heap.get? b=some o→H b=none→(hidT s₁.heap H).get? b=some o:=fun e n=>zh7 e n
    have noA:∀ {b:Addr}{o:Obj}{es:Array DictEntry}{ep:Nat},s₁.heap.get? b=some o→o.data=.dict es ep→H b=none:=fun {b o es ep} e d=>by
      cases q:H b with
      | none=>rfl
      | some u =>
        have e':b=a:=hA b (by rw[q];simp)
        subst e'
        rw[ha]at e;cases e
        have d':Data.seq vs.toArray _=Data.dict es ep:=d
        cases d'
    have nsK:∀ {b:Addr}{m:Str→Option Value},s₁.heap.Ns b m→(hidT s₁.heap H).Ns b m:=fun {b m} ⟨o,es,ep,e,d,r⟩=>⟨o,es,ep,base_of e (noA e d),d,r⟩
    have hKb:K.In (hidT s₁.heap H):=fun b o e=>base_of (KX b o e) (by
      cases q:H b with
      | none=>rfl
      | some u =>
        have e':b=a:=hA b (by rw[q];simp)
        subst e'
        rw[hK (by rw[q];simp)]at e;cases e)
    have hM:Mod K mg (hidT s₁.heap H):=⟨hKb,nsK hns,⟨mb,nsK hb,hbb⟩,let ⟨mc,h1,h2⟩:=hlim;⟨mc,nsK h1,h2⟩⟩
    have e0:Env0 P w K mg (hidT s₁.heap H) callerA [] s₁ H:=⟨rfl,hM,fun b o e=>zi3 e,Nat.le_of_eq (zg4 _ _),trivial,fun b hb=>absurd (show b∈([]:List Addr) from hb) (by simp),hok,.of_eq hg⟩
    refine codeAny_mono ((F _ hKb (nsK hns)).run callerA [] s₁ H ⟨[.ref a],[]⟩ [.ref a] [.ref a] _ _ hr e0 (hbind s₁ (.ref a)) (.cons rfl .nil) (hsp H hO hS)) fun r s' h=>?_
    cases r with
    | error e=>exact(hCX H e s' h).elim
    | ok fl =>
      cases fl with
      | next=>exact False.elim h
      | brk=>exact False.elim h
      | cont=>exact False.elim h
      | ret u =>
        obtain⟨v,H',os,bare,un,hok',r',q⟩:=h
        have q':v=.bl true:=q
        subst q'
        obtain rfl:u=Value.bool true:=r'
        refine⟨rfl,OldK.of_keep fun b o e=>?_,os,bare⟩
        cases q:H b with
        | none=>exact un.keep b o e q (by intro z;exact absurd (show b∈([]:List Addr) from z) (by simp)) (by simp)
        | some u =>
          rcases hO b with z|⟨ob,xs,z⟩
          · rw[q]at z;cases z
          · have z2:=un.frzs b ob _ z
            obtain⟨e1,_⟩:=hok b _ z
            obtain⟨e2,_⟩:=hok' b _ z2
            rw[e]at e1;cases e1
            exact e2
  cases hk:K.lookup a with
  | some o =>
    have e:=KX a o hk
    rw[ha]at e
    cases e
    refine core (fun _=>none) (fun _=>.inl rfl) (.inr ⟨_,vs.toArray,_,hk,rfl,rfl,rfl,by rw[List.size_toArray,lenV];exact hl,by simpa using rv⟩) (fun b u z=>by have z':(none:Option HO)=some u:=z;cases z') (fun b z=>absurd rfl z) fun z=>absurd rfl z
  | none =>
    refine core (fun b=>if b=a then some (.frz { cls:=.type "list",data:=.seq vs.toArray } (.lst (ns.map V.int))) else none) (fun b=>?_) (.inl (.inr ⟨{ cls:=.type "list",data:=.seq vs.toArray },if_pos rfl⟩)) (fun b u z=>?_) (fun b z=>?_) fun _=>hk
    · by_cases hb:b=a
      · exact .inr ⟨_,_,if_pos hb⟩
      · exact .inl (if_neg hb)
    · by_cases hb:b=a
      · have z':=(if_pos hb).symm.trans z
        cases z'
        subst hb
        exact⟨ha,by rw[List.length_map];exact hl,vs,_,rv,ha⟩
      · have z':=(if_neg hb).symm.trans z
        cases z'
    · by_cases hb:b=a
      · exact hb
      · exact absurd (if_neg hb) z
abbrev KOf {K:PySem.W.Frag}{h:Heap}(_:K.In h):PySem.W.Frag:=K
theorem zfZ {l:PySem.W.OpenLaw}{n k:Nat}{q:Program}{loose:List Str}{XP:(Str→Option Value)→Heap→Prop}{YP:World→Heap→Prop}{d:DefRec}{K:Params→PySem.W.Frag}{CX:World→CXT}{sp:World→Sp}{x:Str}
    (hn:l.most=some n) (hn2:n≤sizeLine) (hdf:d.params.defaults=[]) (hr:Room k callerA)
    (hY:∀ (w:World) (h:Heap),YP w h→(K w.params).In h)
    (F:∀ (w:World) (mg:Str→Option Value) (fa:Addr) (h:Heap),(K w.params).In h→h.Ns mainGlobals mg→mg d.name=some (.ref fa) →
      ∃ fd:FuncData,(∀ (s:Shared) (u:Value),BindsTo s fd ⟨[u],[]⟩ [(x,u)]) ∧
        ∀ base:Heap,(K w.params).In base→base.Ns mainGlobals mg→FnOk l.prog w (K w.params) mg base (CX w) k fa fd [x] (sp w))
    (hsp:∀ (w:World) (H:Hp) (a:Addr) (ns:List Int),ns.length≤n→Only H→SqL (K w.params) H a (ns.map V.int)→sp w [.ref a] H (fun v _=>v=.bl true) fun _ _ _=>False)
    (hCX:∀ (w:World) (H:Hp) (s:Shared) (e:Value) (s':Shared),CX w [] H s (fun _ _ _=>False) e s'→False) :
    PySem.W.WalkO q loose XP YP l.row.toRowW d [] (fun f vs=>PySem.call f vs):=by
  refine Att.attach_call hn hdf fun w s₀ s₁ mg mb fa o pm cd doc a vs ns G Y ho hd hcd hmg hobj hints hlen hg=>?_
  have KX:=hY w _ Y
  obtain⟨fd,hb,hF⟩:=F w mg fa _ KX G.T.g hmg
  exact zh4 KX G.T.g G.T.b G.T.builtins G.T.nolimit hg hobj hints (Nat.le_trans hlen hn2) hr hF hb (fun H hO hS=>hsp w H a ns hlen hO hS) fun H e s'=>hCX w H s₁ e s'
theorem zhq {l:PySem.W.OpenLaw}{n k:Nat}{q:Program}{loose:List Str}{XP:(Str→Option Value)→Heap→Prop}{YP:World→Heap→Prop}{d:DefRec}{K:Params→PySem.W.Frag}{CX:CXT}{sp:PySem.W.Frag→Sp}{x:Str}
    (hn:l.most=some n) (hn2:n≤sizeLine) (hdf:d.params.defaults=[]) (hr:Room k callerA)
    (hY:∀ (w:World) (h:Heap),YP w h→(K w.params).In h)
    (F:∀ (w:World) (mg:Str→Option Value) (fa:Addr) (h:Heap),(K w.params).In h→h.Ns mainGlobals mg→mg d.name=some (.ref fa) →
      ∃ fd:FuncData,(∀ (s:Shared) (u:Value),BindsTo s fd ⟨[u],[]⟩ [(x,u)]) ∧
        ∀ base:Heap,(K w.params).In base→base.Ns mainGlobals mg→FnOk l.prog w (K w.params) mg base CX k fa fd [x] (sp (K w.params)))
    (hsp:∀ (K:PySem.W.Frag) (H:Hp) (a:Addr) (ns:List Int),ns.length≤n→Only H→SqL K H a (ns.map V.int)→sp K [.ref a] H (fun v _=>v=.bl true) fun _ _ _=>False)
    (hCX:∀ (H:Hp) (s:Shared) (e:Value) (s':Shared),CX [] H s (fun _ _ _=>False) e s'→False) :
    PySem.W.WalkO q loose XP YP l.row.toRowW d [] (fun f vs=>PySem.call f vs) :=
  zfZ (K:=K) (CX:=fun _=>CX) (sp:=fun w=>sp (K w.params)) hn hn2 hdf hr hY F (fun w H a ns h1 h2 h3=>hsp (K w.params) H a ns h1 h2 h3) fun _ H s e s'=>hCX H s e s'
end L2
/- THE LAST THEOREM (shape;LID,My.* are yours):
   My.Adr: a structure of the addresses that your layer names (classes,functions);My.Txt K t: a structure (Prop) of the equations over K;
   My.txt_mk:{K} {implicit addresses ..} (e1:nsIn K mainGlobals "law" = some (some (.ref f))) (e2:K.lookup f=some ⟨oc,od,.func (fnOf "law" "law" params body scope dV kV doc pm an cdv ct),sl⟩) (e3:codeIn K cdv "law" = true) ..:∃ t,My.Txt K t
set_option maxRecDepth 100000 in
set_option maxHeartbeats 0 in
theorem PySem.Challenge.cw_LID_holds : PySem.Challenge.rw_LID.Holds := by
  w_on;o_law;k_head;(case hw=>w_witness2)
  k_fill
  refine L2.zfZ (l:=PySem.Challenge.rw_LID) (n:=63) (k:=40) (x:="script") (CX:=fun w=>..) (sp:=fun _=>My.sp_law) rfl (by decide) rfl ⟨rfl,by decide,by decide⟩ (fun w h Y=>PySem.W.kIn_of Y) ?F ?S ?C
  case F =>
    intro w mg fa h KX G hmg
    have T:∃ t,My.Txt (L2.KOf KX) t:=by
      dsimp only[L2.KOf]                          -- K must stand as «<heap const> w.params» for k_is
      refine' My.txt_mk ?e1 ?e2 ?e3 ..
      (case e1=>PySem.W.k_is)                    -- in the order: a name -> its address -> its object -> its parts
      (case e2=>PySem.W.k_is)
      ..
    obtain⟨t,T⟩:=T
    have e0:=hmg.symm.trans (PySem.W.mg_of KX G T.law)
    cases e0                                       -- fa is the law's own address
    exact⟨_,fun s u=>.of_eq rfl,fun base kb nb=>My.law_fn T kb nb⟩     -- if «.of_eq rfl» comes too early: refine' ⟨_,?b,fun base kb nb=>My.law_fn T kb nb⟩;exact fun s u=>.of_eq rfl
  case S=>exact fun w H a ns hl hO hS=>..
  case C=>exact ..
(the tactic k_is has no namespace: write k_is) -/
namespace L2
open PySem PySem.Spec PyProof.Rows
def zcj (s:Stmt):Arguments:=match s with
  | .FunctionDef _ a _ _ _ _ _ _ _ _=>a
  | _=>{ posonlyargs:=[],args:=[],vararg:=none,kwonlyargs:=[],kw_defaults:=[],kwarg:=none,defaults:=[] }
def zbI (s:Stmt):List Stmt:=match s with
  | .FunctionDef _ _ b _ _ _ _ _ _ _=>b
  | _=>[]
def zaf (s:Stmt):Scope:=match s with
  | .FunctionDef _ _ _ _ _ _ sc _ _ _=>sc
  | _=>{ kind:=.function,names:=[],isGenerator:=false,isCoroutine:=false }
abbrev CX0:CXT:=fun _ _ _ _ _ _=>False
abbrev E0:XK:=fun _ _ _=>False
theorem pass0 {X:Cx}:Passes CX0 X E0:=fun _ _ _ _ _ _ _ h=>h.elim
structure Fun (K:PySem.W.Frag) (x qual:Str) (st:Stmt) (f:Addr) (fd:FuncData):Prop where
  ex:∃ (oc:Value) (od:Option Addr) (kV doc pm:Value) (an:Option Addr) (cdv ct:Value) (osl:Array (Option Value)),
    fd=PySem.W.fnOf x qual (zcj st) (zbI st) (zaf st) .none kV doc pm an cdv ct∧K.lookup f=some ⟨oc,od,.func fd,osl⟩∧PySem.W.codeIn K cdv qual=true
  kp:PySem.W.keepIn K (.ref f)=true
section
variable {P:Program}{w:World}{K:PySem.W.Frag}{mg:Str→Option Value}{base:Heap}
theorem Fun.ok {x qual:Str}{st:Stmt}{f:Addr}{fd:FuncData}{N ps:List Str}{k:Nat}{sp:Sp}(F:Fun K x qual st f fd) (S:FnScope N ps (zaf st)) (len:∀ vs H Q E,sp vs H Q E→vs.length=ps.length)
    (hbody:∀ (cdv:Value) (A:Around) (outer:List Env) (s:Shared) (H:Hp) (vs:List V) (Q:VK) (E:XK),Room k (A.deeper (envOfC qual (zaf st) s.heap.objs.size f cdv))→sp vs H Q E →
      ∃ t,PSs (cxOf CX0 P w K mg base N qual (zaf st) f cdv A outer s H E).nox (zbI st) t∧t { nx:=fun _ H'=>Q .non H',rt:=Q } (zd4 N vs) H):FnOk P w K mg base CX0 (k+1) f fd ps sp:=by
  obtain⟨oc,od,kV,doc,pm,an,cdv,ct,osl,rfl,lk,hcd⟩:=F.ex
  refine zkw lk hcd S len fun A outer s H vs Q E hr hsp=>?_
  obtain⟨t,h,q⟩:=hbody cdv A outer s H vs Q E hr hsp
  exact⟨t,h.nox,q⟩
theorem Fun.binds {x qual:Str}{st:Stmt}{f:Addr}{fd:FuncData}{ps:List Str}(F:Fun K x qual st f fd)
    (h:∀ (kV doc pm:Value) (an:Option Addr) (cdv ct:Value) (us:List Value),us.length=ps.length→bindArgs (PySem.W.fnOf x qual (zcj st) (zbI st) (zaf st) .none kV doc pm an cdv ct) ⟨us,[]⟩=pure (ps.zip us)):Binds K fd ps []:=by
  obtain⟨oc,od,kV,doc,pm,an,cdv,ct,osl,rfl,lk,hcd⟩:=F.ex
  exact .all (h kV doc pm an cdv ct)
theorem zj5 {x qual:Str}{st:Stmt}{f:Addr}{oc:Value}{od an:Option Addr}{osl:Array (Option Value)}{kV doc pm cdv ct:Value}(l:K.lookup f=some ⟨oc,od,.func (PySem.W.fnOf x qual (zcj st) (zbI st) (zaf st) .none kV doc pm an cdv ct),osl⟩)
    (c:PySem.W.codeIn K cdv qual=true) (k:PySem.W.keepIn K (.ref f)=true):Fun K x qual st f (PySem.W.fnOf x qual (zcj st) (zbI st) (zaf st) .none kV doc pm an cdv ct):=⟨⟨oc,od,kV,doc,pm,an,cdv,ct,osl,rfl,l,c⟩,k⟩
end
theorem zgi {n:Nat}(h:n≤1000):n<sizeLine:=Nat.lt_of_le_of_lt h (by decide)
section
variable {X:Cx}
theorem pv (i:Nat) {x:Str}{pos:Pos}(hN:X.N[i]?=some x:=by rfl) (hv:Vis X.env.scope x:=by first|exact Or.inl rfl|exact Or.inr (.inl rfl)|exact Or.inr (.inr rfl)) (hd:(x == ("__debug__":Str))=false:=by decide)
    (hcd:(x == ("__classdict__":Str))=false:=by decide):PE X (.Name x pos) (tVar i):=zjN hN hv hd hcd
end
theorem iteF {A B:Prop}(h:B):if false=true then A else B:=by
  rw[if_neg Bool.false_ne_true]
  exact h
theorem iteT {A B:Prop}(h:A):if true=true then A else B:=by
  rw[if_pos rfl]
  exact h
theorem ite2 {c A B:Prop} [Decidable c] (h1:c→A) (h2:¬ c→B):if c then A else B:=by
  by_cases h:c
  · rw[if_pos h]
    exact h1 h
  · rw[if_neg h]
    exact h2 h
theorem zks {c A B:Prop} [Decidable c] (hc:c) (h:B):if (!decide c)=true then A else B:=by
  rw[decide_eq_true hc]
  exact iteF h
def Same (H H':Hp):Prop:=∀ b o,H b=some o→H' b=some o
theorem Same.refl (H:Hp):Same H H:=fun _ _ h=>h
theorem Same.trans {H H1 H2:Hp}(a:Same H H1) (b:Same H1 H2):Same H H2:=fun c o h=>b c o (a c o h)
end L2
set_option maxHeartbeats 4000001
namespace L2
open PySem PySem.Spec PyProof.Rows
def clOf (cells:List (Str × Addr)):List (Str × NameKind)→List (Str × Addr)→List (Str × Addr)
 | [],cs=>cs
 | (n,k)::r,cs=>if k == .free then clOf cells r ((n,(cells.lookup n).getD 0)::cs) else clOf cells r cs
theorem zdZ {env:Env}:∀ (names:List (Str × NameKind)) (cs:List (Str × Addr)),(∀ y∈names,y.2=.free→∃ c,env.cells.lookup y.1=some c) →
  (forIn names cs fun x r=>match x with|(name,kind)=>if (kind == NameKind.free)=true then (do let a ← cellOf env name;pure (ForInStep.yield ((name,a)::r))) else pure (ForInStep.yield r):Sem (List (Str × Addr)))=pure (clOf env.cells names cs)
 | [],cs,_=>rfl
 | (n,k)::r,cs,h=>by
  rw[List.forIn_cons]
  by_cases e:(k == NameKind.free)=true
  ·obtain⟨c,hc⟩:=h (n,k) List.mem_cons_self (by simpa using e)
   have hcell:cellOf env n=pure c:=by
    have hc':env.cells.lookup n=some c:=hc
    unfold cellOf;rw[hc']
   simp only[e,if_true,hcell,pure_bind]
   rw[zdZ r _ fun y hy=>h y (List.mem_cons_of_mem _ hy)]
   have hc':env.cells.lookup n=some c:=hc
   show _=pure (if (k == NameKind.free)=true then _ else _)
   rw[if_pos e,hc']
   rfl
  ·have ef:(k == NameKind.free)=false:=by simpa using e
   simp only[ef,Bool.false_eq_true,if_false,pure_bind]
   rw[zdZ r _ fun y hy=>h y (List.mem_cons_of_mem _ hy)]
   show _=pure (if (k == NameKind.free)=true then _ else _)
   rw[if_neg e]
theorem zdm {scope:Scope}{env:Env}(h:∀ y∈scope.names,y.2=.free→∃ c,env.cells.lookup y.1=some c):closureFor scope env=pure (clOf env.cells scope.names []):=by
 unfold closureFor
 show (forIn scope.names [] _ >>= fun r=>pure r)=_
 rw[bind_pure]
 exact zdZ _ _ h
theorem zcw {cells:List (Str × Addr)}:∀ (names:List (Str × NameKind)) (cs:List (Str × Addr)) (x:Str) (c:Addr),(∀ y∈names,y.2=.free→∃ c,cells.lookup y.1=some c) →
  (∀ x c,cs.lookup x=some c→cells.lookup x=some c)→(clOf cells names cs).lookup x=some c→cells.lookup x=some c
 | [],cs,x,c,_,hs,e=>hs x c e
 | (n,k)::r,cs,x,c,h,hs,e=>by
  unfold clOf at e
  by_cases q:(k == NameKind.free)=true
  ·rw[if_pos q]at e
   obtain⟨c0,hc0⟩:=h (n,k) List.mem_cons_self (by simpa using q)
   refine zcw r _ x c (fun y hy=>h y (List.mem_cons_of_mem _ hy)) (fun x' c' e'=>?_) e
   rw[List.lookup_cons]at e'
   cases hx:x' == n with
   | true =>
    rw[hx]at e'
    have hx':x'=n:=by simpa using hx
    subst hx'
    have hc0':cells.lookup x'=some c0:=hc0
    rw[hc0']at e' ⊢
    exact e'
   | false =>
    rw[hx]at e'
    exact hs x' c' e'
  ·rw[if_neg q]at e
   exact zcw r _ x c (fun y hy=>h y (List.mem_cons_of_mem _ hy)) hs e
theorem zcX {cells:List (Str × Addr)}:∀ (names:List (Str × NameKind)) (cs:List (Str × Addr)) (x:Str),(∃ c,cs.lookup x=some c)→∃ c,(clOf cells names cs).lookup x=some c
 | [],cs,x,e=>e
 | (n,k)::r,cs,x,e=>by
  unfold clOf
  by_cases q:(k == NameKind.free)=true
  ·rw[if_pos q]
   refine zcX r _ x ?_
   rw[List.lookup_cons]
   cases hx:x == n with
   | true=>exact⟨_,rfl⟩
   | false=>exact e
  ·rw[if_neg q]
   exact zcX r _ x e
theorem zbB {cells:List (Str × Addr)}:∀ (names:List (Str × NameKind)) (cs:List (Str × Addr)) (x:Str),names.lookup x=some .free→∃ c,(clOf cells names cs).lookup x=some c
 | [],cs,x,e=>by simp at e
 | (n,k)::r,cs,x,e=>by
  rw[List.lookup_cons]at e
  unfold clOf
  cases hx:x == n with
  | true =>
   rw[hx]at e
   have e':k=.free:=Option.some.inj e
   subst e'
   rw[if_pos (by decide)]
   refine zcX r _ x ?_
   rw[List.lookup_cons,hx]
   exact⟨_,rfl⟩
  | false =>
   rw[hx]at e
   by_cases q:(k == NameKind.free)=true
   ·rw[if_pos q];exact zbB r _ x e
   ·rw[if_neg q];exact zbB r _ x e
def zin (env:Env) (p:Str × NameKind):Bool:=p.2 == .free && env.scope.kind == .function && env.kindOf p.1 == some .cell
def zcg (env:Env) (p:Str × NameKind):Str × NameKind:=if zin env p=true then (p.1,.cell) else p
theorem zcR (env:Env) (p:Str × NameKind):(zcg env p).1=p.1:=by unfold zcg;split<;>rfl
theorem zcQ (env:Env) (p:Str × NameKind):(zcg env p).2=p.2∨((zcg env p).2=.cell∧p.2=.free):=by
 unfold zcg
 split
 ·rename_i h
  refine .inr ⟨rfl,?_⟩
  unfold zin at h
  cases e:p.2<;>simp[e]at h<;>rfl
 ·exact .inl rfl
theorem zbX (scope:Scope) (env:Env):(relabel scope env).names=scope.names.map (zcg env):=rfl
theorem zdQ {f:Str × NameKind→Str × NameKind}(hf:∀ p,(f p).1=p.1):∀ (l:List (Str × NameKind)) (x:Str),(l.map f).lookup x=none∧l.lookup x=none∨∃ p∈l,(l.map f).lookup x=some (f p).2∧l.lookup x=some p.2
 | [],_=>.inl ⟨rfl,rfl⟩
 | p::r,x=>by
  have e1:((p::r).map f).lookup x=if x == p.1 then some (f p).2 else (r.map f).lookup x:=by
   show List.lookup x (((f p).1,(f p).2)::r.map f)=_
   rw[List.lookup_cons,hf p];cases x == p.1<;>rfl
  have e2:(p::r).lookup x=if x == p.1 then some p.2 else r.lookup x:=by
   show List.lookup x ((p.1,p.2)::r)=_
   rw[List.lookup_cons];cases x == p.1<;>rfl
  rw[e1,e2]
  cases x == p.1
  ·rcases zdQ hf r x with z|⟨q,hq,z⟩
   ·exact .inl z
   ·exact .inr ⟨q,List.mem_cons_of_mem _ hq,z⟩
  ·exact .inr ⟨p,List.mem_cons_self,rfl,rfl⟩
theorem za2 {scope:Scope}{env:Env}{x:Str}{k':NameKind}(h:(relabel scope env).names.lookup x=some k'):scope.names.lookup x=some k'∨(k'=.cell∧scope.names.lookup x=some .free):=by
 rw[zbX]at h
 rcases zdQ (zcR env) scope.names x with ⟨z,_⟩|⟨p,_,z,e⟩
 ·rw[z]at h;cases h
 ·rw[z]at h
  obtain rfl:=Option.some.inj h
  rcases zcQ env p with q|⟨q,q'⟩
  ·rw[q];exact .inl e
  ·exact .inr ⟨q,by rw[e,q']⟩
theorem zcn {scope:Scope}{env:Env}{x:Str}(h:scope.names.lookup x=some .free):(relabel scope env).names.lookup x=some .cell∨(relabel scope env).names.lookup x=some .free:=by
 rw[zbX]
 rcases zdQ (zcR env) scope.names x with ⟨_,z⟩|⟨p,_,z,e⟩
 ·rw[z]at h;cases h
 ·rw[e]at h
  rcases zcQ env p with q|⟨q,_⟩
  ·rw[z,q,h];exact .inr rfl
  ·rw[z,q];exact .inl rfl
def zaI (X:Cx) (N':List Str) (scope:Scope) (C:Addr) (s₀:Shared) (H₀:Hp) (fp:List Addr) (pins:List (Addr × Obj)):Cx :=
 { X with N:=N',s₀:=s₀,H₀:=H₀,env:=compEnvC scope (clOf X.env.cells scope.names []) C X.env,outer:=X.stack,stack:=X.stack,ex:=fp,fn:=fun _=>false,pn:=X.pn++pins,xe:=fun _ _=>False }
def capσ (cap:List (Option Nat)) (σ:St):St:=cap.map fun o=>match o with|some i=>(match σ[i]? with|some v=>v|none=>none)|none=>none
def tst (M:Model) (A:Around) (env:Env) (E:Value→Shared→Prop) (o:Option Expr) (Q:Bool→Shared→Prop) (s:Shared):Prop:=match o with
 | none=>Q true s
 | some c=>wpAny M A (isTrue c env (eval c env)) Q E s
theorem ze4 {M:Model}{A:Around}{env:Env}{E:Value→Shared→Prop}{o:Option Expr}{Q Q':Bool→Shared→Prop}{s:Shared}(h:tst M A env E o Q s) (k:∀ b z,Q b z→Q' b z):tst M A env E o Q' s:=by
 cases o with
 | none=>exact k _ _ h
 | some c=>exact thn h k
def PTo (X:Cx) (o:Option Expr) (t:TT):Prop :=
 ∀ (pins:List (Addr × Obj)) (s:Shared) (σ:St) (H:Hp) (Q:Bool→Hp→Prop),Inv X pins σ H s→t σ H Q→tst (model X.prog X.w) X.A X.env X.xe o (TP X pins σ Q) s
def tYes:TT:=fun _ H Q=>Q true H
theorem zaV {X:Cx}:PTo X none tYes:=fun _ _ _ H _ I h=>⟨H,I,h⟩
abbrev NoX:Value→Shared→Prop:=fun _ _=>False
def Go (M:Model) (A:Around) (tg elt:Expr) (o:Option Expr) (it acc:Value) (env:Env) (R:Result→Shared→Prop) (onward:Shared→Prop) (s:Shared):Prop :=
 wpAny M A (pyNext it) (fun r a=>match r with
  | none=>R (.ok .next) a
  | some v=>wpAny M A (letOwnedTupleGo tg it v) (fun _ b=>wpAny M A (assign tg env v) (fun _ c=>tst M A env NoX o (fun yes d =>
    if yes=true then wpAny M A (eval elt env) (fun x e=>wpAny M A (call (.builtin "list.append") [acc,x]) (fun _ f=>onward f) NoX e) NoX d else onward d) c) NoX b) NoX a) NoX s
theorem zhi {prog:Program}{w:World}{A:Around}{R:Result→Shared→Prop}{s:Shared}{elt tg iter:Expr}{o:Option Expr}{scope:Scope}{pos:Pos}{it acc:Value}{env:Env}(J:Nat→Shared→Prop)
  (turn:∀ n s,J n s→Go (model prog w) A tg elt o it acc env R (fun z=>∃ m,m<n∧J m z) s) (n:Nat) (h:J n s) :
  codeAny (model prog w) A (.compLoop (.ListComp elt [⟨tg,iter,o.toList,0⟩] scope pos) 0 it acc env) R s:=by
 cases o with
 | none =>
  refine PySem.W.kcp_loop J (fun n a ha=>wpAny_mono (turn n a ha) (fun r b hb=>?_) fun _ _ z=>z.elim) n h
  cases r with
  | none=>exact hb
  | some v=>exact wpAny_mono hb (fun _ c hc=>wpAny_mono hc (fun _ d hd=>wpAny_mono (show wpAny _ _ _ _ _ d from hd) (fun x e he=>wpAny_mono he (fun _ _ q=>q) fun _ _ z=>z.elim) fun _ _ z=>z.elim) fun _ _ z=>z.elim) fun _ _ z=>z.elim
 | some t =>
  refine PySem.W.kct_loop J (fun n a ha=>wpAny_mono (turn n a ha) (fun r b hb=>?_) fun _ _ z=>z.elim) n h
  cases r with
  | none=>exact hb
  | some v =>
   refine wpAny_mono hb (fun _ c hc=>wpAny_mono hc (fun _ d hd=>wpAny_mono (show wpAny _ _ _ _ _ d from hd) (fun yes e he=>?_) fun _ _ z=>z.elim) fun _ _ z=>z.elim) fun _ _ z=>z.elim
   cases yes
   ·exact he
   ·exact wpAny_mono (show wpAny _ _ _ _ _ e from he) (fun x f hf=>wpAny_mono hf (fun _ _ q=>q) fun _ _ z=>z.elim) fun _ _ z=>z.elim
structure CapOk (N N':List Str) (sc scope:Scope) (cap:List (Option Nat)):Prop where
 kind:scope.kind=.function
 nocell:∀ y∈scope.names,y.2≠.cell
 names:∀ y∈scope.names,y.2=.local → scope.names.lookup y.1=some .local
 free:∀ y∈scope.names,y.2=.free→sc.names.lookup y.1=some .cell∨sc.names.lookup y.1=some .free
 len:cap.length=N'.length
 cap:∀ p∈N'.zip cap,∀ i,p.2=some i→N[i]?=some p.1∧scope.names.lookup p.1=some .free∧(sc.names.lookup p.1=some .cell∨sc.names.lookup p.1=some .free)
theorem zcf {α:Type}:∀ {l:List (Str × α)}{x:Str}{a:α},l.lookup x=some a→(x,a)∈l
 | [],_,_,h=>by simp at h
 | (n,k)::r,x,a,h=>by
  rw[List.lookup_cons]at h
  cases hx:x == n with
  | true =>
   rw[hx]at h
   have e:k=a:=Option.some.inj h
   have e2:x=n:=by simpa using hx
   subst e e2
   exact List.mem_cons_self
  | false=>rw[hx]at h;exact List.mem_cons_of_mem _ (zcf h)
def LCW (J:It) (g:TG) (tt:TT) (te:TE) (l:Addr) (Q:VK) (W:Nat→Nat→List V→St→Hp→Prop):Prop :=
 ∀ i m acc σ' H',W i m acc σ' H'→H' l=some (.lst acc) ∧
  ((J.stop i H'∧Q (.ref l) H')∨(J.go i H'∧∀ x H2,J.yld i H' x H2→g x σ' H2 fun σ3 H3=>tt σ3 H3 fun b H4 =>
   if b=true then te σ3 H4 fun y H5=>H5 l=some (.lst acc)∧acc.length<sizeLine∧∃ m',m'<m∧W (i+1) m' (acc++[y]) σ3 (upd H5 l (.lst (acc++[y])))
   else ∃ m',m'<m∧W (i+1) m' acc σ3 H4))
def tLC (cap:List (Option Nat)) (wi:TI) (g:TG) (tt:TT) (te:TE):TE:=fun σ H Q=>wi σ H fun J H1=>∀ l,H1 l=none →
 ∃ W:Nat→Nat→List V→St→Hp→Prop,(∃ m,W 0 m [] (capσ cap σ) (upd H1 l (.lst [])))∧LCW J g tt te l Q W
theorem zjf {X:Cx}{elt tg iter:Expr}{o:Option Expr}{scope:Scope}{pos ppos:Pos}{wi:TI}{g:TG}{tt:TT}{te:TE}{N':List Str}{cap:List (Option Nat)}{use:Option (Value→Sem Unit)}{Q0:Value→Shared→Prop}
  (hc:X.calm=true) (hi:PI X tg iter wi) (ck:CapOk X.N N' X.env.scope scope cap)
  (hg:∀ C s₀ H₀ fp pins,PG (zaI X N' scope C s₀ H₀ fp pins) tg g)
  (ht:∀ C s₀ H₀ fp pins,PTo (zaI X N' scope C s₀ H₀ fp pins) o tt)
  (he:∀ C s₀ H₀ fp pins,PE (zaI X N' scope C s₀ H₀ fp pins) elt te)
  (hs:∀ x,foldedSetIterable iter X.env x=pure x) {pins:List (Addr × Obj)}{s:Shared}{σ:St}{H:Hp}{Q:VK}(I:Inv X pins σ H s) (h:tLC cap wi g tt te σ H Q)
  (fin:∀ (l C:Addr) (H4:Hp) (s5:Shared) (m:Str→Option Value),Inv X pins σ H4 s5→Q (.ref l) H4→s5.heap.Ns C m→FpOk X pins H4 C→compPost (model X.prog X.w) X.A X.xe use Q0 (.ref l) C (.ok .next) s5) :
  wpAny (model X.prog X.w) X.A (comprehension (.ListComp elt [⟨tg,iter,o.toList,0⟩] scope pos) scope X.env ppos (newList []) false (eval iter X.env) use) Q0 X.xe s:=by
 have hcells:∀ y∈scope.names,y.2=.free→∃ c,X.env.cells.lookup y.1=some c:=fun y hy hf=>I.ok.has y.1 (ck.free y hy hf)
 refine wpAny_comprehension_free (use:=use) rfl hs (zdm hcells) ck.kind ck.names (thn (hi pins s σ H _ I h) fun v s1 h1=>thn h1 fun itv s2 h2=>?_)
 obtain⟨it,fp,tn,J,H2,e,I2,T,st2,f2,body⟩:=h2
 subst e
 have hfr2:H2 s2.heap.objs.size=none:=I2.hok.fresh (Nat.le_refl _)
 obtain⟨W,⟨m0,w0⟩,turn⟩:=body s2.heap.objs.size hfr2
 have I3:Inv X pins σ (upd H2 s2.heap.objs.size (.lst [])) { s2 with heap:=s2.heap.push { cls:=.type "list",data:=.seq ([]:List Value).toArray },toks:=s2.toks }:=I2.lnew (its:=[]) (t':=s2.toks) .nil (Nat.zero_le _)
 refine wpAny_newObj_type (wpAny_newFunctionEnv ck.nocell (by intro y hy;simp at hy) (fun h₁ hns₁ hsb₁=>?_) ck.kind)
 dsimp only at hns₁ hsb₁ ⊢
 generalize hl:s2.heap.objs.size=l at *
 generalize hP:s2.heap.push { cls:=.type "list",dict:=none,data:=.seq ([]:List Value).toArray }=P2 at *
 generalize hH3:upd H2 l (.lst [])=H3 at *
 have old:∀ b o,P2.get? b=some o→h₁.get? b=some o:=fun b o e=>hsb₁.extBut b o (Nat.ne_of_lt (Heap.lt_size e)) (Heap.get?_push_of_some _ e)
 have old2:∀ b o,s2.heap.get? b=some o→P2.get? b=some o:=fun b o e=>hP ▸ Heap.get?_push_of_some _ e
 have fpl:∀ b∈fp,b<l:=fun b hb=>by
  obtain⟨o,e,_⟩:=T.obj _ _ st2 b hb
  rw[← hl];exact Heap.lt_size e
 have fp3:∀ b∈fp,H3 b=none:=fun b hb=>by
  rw[← hH3,zag (Nat.ne_of_lt (fpl b hb))];exact(f2 b hb).1
 have hPs:P2.objs.size=l+1:=by rw[← hP,Heap.size_push,hl]
 have subc:∀ x c,(clOf X.env.cells scope.names []).lookup x=some c→X.env.cells.lookup x=some c:=fun x c e=>zcw _ _ x c hcells (fun _ _ z=>by simp at z) e
 generalize hs3:({ s2 with heap:=P2,toks:=s2.toks }:Shared)=s3 at *
 have hs3h:s3.heap=P2:=by rw[← hs3]
 let Y:=zaI X N' scope P2.objs.size s3 H3 fp pins
 have hYok:Y.Ok:=by
  refine⟨I3.ok.mod,ck.kind,I3.ok.glob,I3.ok.blt,by show s3.heap.objs.size≤P2.objs.size;rw[hs3h];exact Nat.le_refl _,fun x y c e1 e2=>I3.ok.inj x y c (subc x c e1) (subc y c e2),fun x hx=>?_,fun x c hx=>absurd (show false=true from hx) Bool.false_ne_true,I3.ok.hd,I3.ok.frames,.inl rfl,fun b hb=>⟨?_,fun x c e=>?_⟩,I3.bs,
   Nat.le_trans I3.ok.bsz I3.sz,fun b o e hb=>?_,fun b hb hz=>?_,I3.stack,I3.stkFree⟩
  ·have hx':scope.names.lookup x=some .free:=by
    rcases hx with hx|hx
    ·rcases za2 hx with z|z
     ·exact absurd rfl (ck.nocell _ (zcf z))
     ·exact z.2
    ·rcases za2 hx with z|z
     ·exact z
     ·exact z.2
   exact zbB _ _ x hx'
  ·exact Nat.ne_of_lt (by show b<P2.objs.size;rw[hPs];exact Nat.lt_succ_of_lt (fpl b hb))
  ·exact(f2 b hb).2.2.2.2.1 x c (subc x c e)
  ·rcases (f2 b hb).2.2.2.1 with z|z
   ·exact I3.ok.noex b o e z
   ·exact absurd (Nat.lt_of_lt_of_le (Heap.lt_size e) (Nat.le_trans I3.ok.bsz z)) (Nat.lt_irrefl _)
  ·rcases List.mem_cons.mp (I3.stkSub b hz) with z|z
   ·exact(f2 b hb).2.1 z
   ·exact(f2 b hb).2.2.1 z
 have hYi:Inv Y [] (capσ cap σ) H3 { s2 with heap:=h₁,toks:=s2.toks }:=by
  refine⟨hYok,by show s2.os=s3.os;rw[← hs3],I2.bare,by show Un _ _ _ _ s3.heap h₁;rw[hs3h];exact Un.kept old,⟨_,hns₁,fun j x v e1 e2 e3=>?_⟩,fun x c e=>?_,?_,fun x c e=>I3.freeC x c (subc x c e),fun p hp=>?_,fun b o e=>?_,?_⟩
  ·have e1':N'[j]?=some x:=e1
   unfold capσ at e2
   rw[List.getElem?_map]at e2
   cases ec:cap[j]? with
   | none=>rw[ec]at e2;cases e2
   | some oc =>
    rw[ec]at e2
    cases oc with
    | none=>cases e2
    | some i =>
     have e2':σ[i]?=some (some v):=by
      cases ei:σ[i]? with
      | none=>simp[ei]at e2
      | some v' =>
       simp[ei]at e2
       rw[e2]
     have hz:(x,some i)∈N'.zip cap:=by
      refine List.mem_of_getElem? (i:=j) ?_
      rw[List.getElem?_zip_eq_some]
      exact⟨e1',ec⟩
     obtain⟨hN,hf,hk⟩:=ck.cap _ hz i rfl
     obtain⟨m,hn,hlo⟩:=I3.loc
     obtain⟨u,r,lk⟩:=hlo i x v hN e2' (by rcases hk with z|z;exact .inr (.inl z);exact .inr (.inr z))
     refine⟨u,r,.inr ⟨?_,?_⟩⟩
     ·exact zcn hf
     ·rcases lk with ⟨z,_⟩|⟨_,c,hcx,hcell⟩
      ·have z':X.env.scope.names.lookup x=some .local:=z
       rcases hk with q|q
       ·rw[q]at z';cases z'
       ·rw[q]at z';cases z'
      ·obtain⟨c',hc'⟩:=zbB (cells:=X.env.cells) scope.names [] x hf
       have:=subc x c' hc'
       rw[hcx]at this;cases this
       obtain⟨ob,e,d⟩:=hcell
       rw[hs3h]at e
       exact⟨c,hc',ob,old c ob e,d⟩
  ·obtain⟨v,ob,e',d⟩:=I3.cell x c (subc x c e)
   rw[hs3h]at e'
   exact⟨v,ob,old c ob e',d⟩
  ·refine I3.hok.fresh ?_
   rw[hs3h];exact Nat.le_refl _
  ·have hp':p∈X.pn++pins:=(List.mem_append.mp hp).elim (fun z=>z) (fun z=>nomatch z)
   obtain⟨e,n,ne,nf,d⟩:=I3.pin p hp'
   rw[hs3h]at e
   refine⟨old _ _ e,n,Nat.ne_of_lt (Heap.lt_size e),fun z=>?_,d⟩
   rcases List.mem_cons.mp (I3.stkSub _ z) with q|q
   ·exact ne q
   ·exact nf q
  ·have:=I3.hok.kept (h':=h₁) (fun b u q=>old b u (by rw[← hs3h];exact q))
   exact this b o e
  ·show (cap.map _).length=N'.length
   rw[List.length_map,ck.len]
 have stat:∀ {H':Hp},(∀ b∈fp,H' b=none)→∀ b∈fp,FpOk Y [] H' b:=fun {H'} hn b hb=>by
  refine⟨hn b hb,(hYok.exf b hb).1,hYok.exfs b hb,.inl hb,(hYok.exf b hb).2,fun p hp=>?_⟩
  have hp':p∈X.pn++pins:=(List.mem_append.mp hp).elim (fun z=>z) (fun z=>nomatch z)
  exact(f2 b hb).2.2.2.2.2 p hp'
 have st1:tn 0 h₁:=T.keep 0 _ _ st2 fun b hb o e=>old b o (old2 b o e)
 have loop:codeAny (model X.prog X.w) X.A (.compLoop (.ListComp elt [⟨tg,iter,o.toList,0⟩] scope pos) 0 (.ref it) (.ref l) Y.env) (compPost (model X.prog X.w) X.A X.xe use Q0 (.ref l) P2.objs.size) { s2 with heap:=h₁,toks:=s2.toks }:=by
  refine zhi (fun n s'=>∃ i acc σ' H',Inv Y [] σ' H' s'∧tn i s'.heap∧(∀ b∈fp,H' b=none)∧W i n acc σ' H') ?_ m0 ⟨0,[],_,H3,hYi,st1,fp3,w0⟩
  rintro n s4 ⟨i,acc,σ4,H4,I4,st4,fr4,w4⟩
  obtain⟨hlst,q4⟩:=turn i n acc σ4 H4 w4
  rcases q4 with ⟨stop,qn⟩|⟨go,step⟩
  ·refine thn (T.done Y rfl rfl rfl hc i [] s4 σ4 H4 Y.xe I4 (stat fr4) st4 stop) fun r s5 ⟨hr,I5⟩=>?_
   subst hr
   obtain⟨m,hn,_⟩:=id I5.loc
   have un:Un (frs X.stack) fp H3 H4 s3.heap s5.heap:=I5.base
   have sz3:s3.heap.objs.size≤P2.objs.size:=by rw[hs3h];exact Nat.le_refl _
   have IX:Inv X pins σ H4 s5:=I3.call' (ch:=fp) I5.os un I5.hok I5.bare fun b hb=>⟨(f2 b hb).2.2.2.1,(f2 b hb).2.1,(f2 b hb).2.2.2.2.1,(f2 b hb).2.2.2.2.2⟩
   exact fin l P2.objs.size H4 s5 m IX qn hn (I3.fpOk sz3 I5.free)
  ·refine thn (T.item Y rfl rfl rfl hc i [] s4 σ4 H4 Y.xe I4 (stat fr4) st4 go) fun r s5 ⟨u,hr,h5⟩=>?_
   subst hr
   refine thn h5 fun _ s6 ⟨x,H6,I6,r6,y6,st6,fr6⟩=>?_
   have I6':=I6.pinned (stat fr6) (T.obj _ _ st6)
   refine thn (hg _ _ _ _ _ _ s6 σ4 H6 x u _ I6' r6 (step x H6 y6)) fun _ s7 ⟨σ7,H7,I7,q7⟩=>?_
   refine ze4 (ht _ _ _ _ _ _ s7 σ7 H7 _ I7 q7) fun b s8 ⟨H8,I8,q8⟩=>?_
   have again:∀ {σ9:St}{H9:Hp}{s9:Shared}{acc9:List V},Inv Y ([]++zco fp s6.heap) σ9 H9 s9→(∃ m',m'<n∧W (i+1) m' acc9 σ9 H9)→∃ m,m<n∧∃ i acc σ' H',Inv Y [] σ' H' s9∧tn i s9.heap∧(∀ b∈fp,H' b=none)∧W i m acc σ' H':=fun {σ9 H9 s9 acc9} I9 ⟨m',hm,w9⟩=>by
    refine⟨m',hm,i+1,acc9,σ9,H9,I9.unpinned,T.keep _ _ _ st6 fun b hb o e=>(I9.pin (b,o) (List.mem_append_right _ (List.mem_append_right _ (zaB hb e)))).1,fun b hb=>?_,w9⟩
    obtain⟨o,e,d⟩:=T.obj _ _ st6 b hb
    exact(I9.pin (b,o) (List.mem_append_right _ (List.mem_append_right _ (zaB hb e)))).2.1
   cases b with
   | false =>
    rw[if_neg Bool.false_ne_true]at q8 ⊢
    exact again I8 q8
   | true =>
    rw[if_pos rfl]at q8 ⊢
    refine thn (he _ _ _ _ _ _ s8 σ7 H8 _ I8 q8) fun yv s9 ⟨y,H9,I9,r9,hl9,hz9,q9⟩=>?_
    refine thn (mt_append (X:=Y) _ s9 σ7 H9 (.ref l) [y] (.ref l) [yv] (fun _ H'=>H'=upd H9 l (.lst (acc++[y]))) I9 rfl (.cons r9 .nil) ⟨l,acc,y,rfl,rfl,hl9,hz9,rfl⟩) fun _ s10 ⟨_,H10,I10,_,e10⟩=>?_
    subst e10
    exact again I10 q9
 exact codeAny_compStart_list loop (T.self X.A 0 _ _ _ st1 loop)
theorem Inv.gone {X:Cx}{pins:List (Addr × Obj)}{σ:St}{H:Hp}{s:Shared}{C:Addr}{h':Heap}(I:Inv X pins σ H s) (f:FpOk X pins H C) (sb:Heap.SameBut C s.heap h'):Inv X pins σ H { s with heap:=h' } :=
 I.turned (t':=s.toks) (fun b o hb e=>(sb.2 b hb).trans e) f.1 f.2.1 f.2.2.2.1 f.2.2.2.2.1 f.2.2.2.2.2
theorem pe_lc {X:Cx}{elt tg iter:Expr}{o:Option Expr}{scope:Scope}{pos:Pos}{wi:TI}{g:TG}{tt:TT}{te:TE}{N':List Str}{cap:List (Option Nat)}
  (hc:X.calm=true) (hi:PI X tg iter wi) (ck:CapOk X.N N' X.env.scope scope cap)
  (hg:∀ C s₀ H₀ fp pins,PG (zaI X N' scope C s₀ H₀ fp pins) tg g)
  (ht:∀ C s₀ H₀ fp pins,PTo (zaI X N' scope C s₀ H₀ fp pins) o tt)
  (he:∀ C s₀ H₀ fp pins,PE (zaI X N' scope C s₀ H₀ fp pins) elt te)
  (hs:∀ x,foldedSetIterable iter X.env x=pure x:=by intro _;rfl) :
  PE X (.ListComp elt [⟨tg,iter,o.toList,0⟩] scope pos) (tLC cap wi g tt te):=by
 intro pins s σ H Q I h
 rw[eval_ListComp]
 exact zjf (use:=none) hc hi ck hg ht he hs I h fun l C H4 s5 m I5 q hn f=>⟨m,hn,fun h' sb=>⟨.ref l,H4,I5.gone f sb,rfl,q⟩⟩
end L2
namespace Own
open PySem PySem.Spec PyProof.Rows
section
variable {M:Model}{prog:Program}{w:World}{A:Around}{E:Value→Shared→Prop}{s:Shared}{α:Type}{Q:α→Shared→Prop}
theorem rf {a:Addr}{o:Obj}{vs:Array Value}{x:Value}{f:Value→Sem α}(k:Nat) (ho:s.heap.get? a=some o) (hd:o.data=.fields vs) (hx:vs[k]?=some x) (h:wpAny M A (f x) Q E s) :
  wpAny M A (field (.ref a) k >>= f) Q E s:=wpAny_bind (wpAny_field ho hd hx h)
theorem nx {T id:String}{B:Builtin}{it:Addr}{P:Value→Shared→Prop}(slot:Slot T "__next__" id) (ty:s.TypeIs (.ref it) T) (en:entryFor table id=some B) (ok:argsOk id ⟨[.ref it],[]⟩)
  (h:wpAny (model prog w) A.in1 (B ⟨[.ref it],[]⟩) (fun r s'=>∃ v,r=.done (.ret v)∧P v s') E s):wpAny (model prog w) A (Builtin.SmallTypes.nextOf (.ref it)) P E s:=by
 unfold Builtin.SmallTypes.nextOf;refine wpAny_bind (wpAny_callSpecial?_slot (name:="__next__") ty slot (wpAny_call_entry slot ty en (thn2 h) ok))
where
 thn2 {B':Sem Fin}{P:Value→Shared→Prop}{A':Around}(h:wpAny (model prog w) A' B' (fun r s'=>∃ v,r=.done (.ret v)∧P v s') E s) :
   wpAny (model prog w) A' B' (fun r s'=>∃ v,r=.done (.ret v)∧wpAny (model prog w) A (pure v) P E s') E s :=
  wpAny_mono h (fun _ _ ⟨v,e,q⟩=>⟨v,e,wpAny_pure q⟩) fun _ _ z=>z
end
theorem ends {A:Around}{E:Value→Shared→Prop}{prog:Program}{w:World}{s:Shared}{α:Type}{Q:α→Shared→Prop}(hh:A.handled=none)
  (h:∀ h' x,(∀ b o,s.heap.get? b=some o→h'.get? b=some o)→(∃ o,h'.get? x=some o∧o.cls=.type "StopIteration")→E (.ref x) { s with heap:=h' }) :
  wpAny (model prog w) A (Builtin.SmallTypes.stopIteration:Sem α) Q E s:=by
 unfold Builtin.SmallTypes.stopIteration newExc newTuple
 refine wpAny_bind (wpAny_bind (wpAny_newObj_type ?_ (by size_fits)))
 refine wpAny_bind (wpAny_of_eq (a:=Value.none) (by rfl) (wpAny_newObj_type (wpAny_raiseNew_none hh (h _ _ (fun b o e=>?_) ⟨_,Heap.get?_push_size _ rfl,rfl⟩)) (by size_fits)))
 exact Heap.get?_push_of_some _ (Heap.get?_push_of_some _ e)
def cN:Bool→String
 | true=>"list_iterator"
 | false=>"tuple_iterator"
abbrev RIt (b:Bool) (h:Heap) (it a:Addr) (i:Int):Prop:=h.get? it=some { cls:=.type (cN b),dict:=none,data:=.fields #[.ref a,.int i 0],slots:=#[] }
def SqO:Bool→Heap→Addr→Array Value→Prop
 | true,h,a,xs=>h.IsList a xs
 | false,h,a,xs=>h.IsTuple a xs
theorem SqO.ob {b:Bool}{h:Heap}{a:Addr}{xs:Array Value}(x:SqO b h a xs):∃ o n,h.get? a=some o∧o.data=.seq xs n:=by
 cases b<;>(obtain⟨o,e,_,n,d⟩:=x;exact⟨o,n,e,d⟩)
theorem SqO.mv {b:Bool}{h h':Heap}{a:Addr}{xs:Array Value}(x:SqO b h a xs) (k:∀ o,h.get? a=some o→h'.get? a=some o):SqO b h' a xs:=by
 cases b<;>(obtain⟨o,e,r⟩:=x;exact⟨o,k o e,r⟩)
theorem SqO.ne {b b':Bool}{h:Heap}{a it a':Addr}{i:Int}{xs:Array Value}(x:SqO b h a xs) (y:RIt b' h it a' i):a≠it:=fun z=>by
 obtain⟨o,n,e,d⟩:=x.ob
 rw[z,y]at e;cases e;cases d
section
variable {prog:Program}{w:World}{A:Around}{E:Value→Shared→Prop}{s:Shared}
theorem ty {b:Bool}{it a:Addr}{i:Int}(y:RIt b s.heap it a i):s.TypeIs (.ref it) (cN b):=⟨_,y,rfl⟩
theorem zeI {b:Bool}{it a:Addr}{i:Nat}{xs:Array Value}{x:Value}{P:Value→Shared→Prop}{B:Builtin}(hB:B=match b with|true=>Builtin.«list_iterator.__next__»|false=>Builtin.«tuple_iterator.__next__»)
  (y:RIt b s.heap it a i) (sq:SqO b s.heap a xs) (hx:xs[i]?=some x) (h:∀ h',RIt b h' it a (i+1)→Heap.SameBut it s.heap h'→P x { s with heap:=h' }) :
  wpAny (model prog w) A (B ⟨[.ref it],[]⟩) (fun r s'=>∃ v,r=.done (.ret v)∧P v s') E s:=by
 obtain⟨o,n,e,d⟩:=sq.ob
 have fin:wpAny (model prog w) A (match xs[(i:Int).toNat]? with
   | some x=>(do setField (.ref it) 1 (rawInt ((i:Int)+1));ret x:Sem Fin)
   | none=>Builtin.SmallTypes.stopIteration) (fun r s'=>∃ v,r=.done (.ret v)∧P v s') E s:=by
  rw[Int.toNat_natCast,hx]
  exact wpAny_bind (wpAny_setField_rec y (show 1<2 by decide) fun h' y' sb=>wpAny_pure ⟨x,rfl,h h' y' sb⟩)
 rw[Int.toNat_natCast,hx]at fin
 subst hB
 cases b <;>
 ·refine rf 0 y rfl rfl (PyIte (show ¬((Value.ref a == Value.none)=true) from Bool.false_ne_true) (rf 1 y rfl rfl (wpAny_bind (wpAny_seqItems e d ?_))))
  simp only[Int.toNat_natCast,hx];exact fin
where
 PyIte {c:Prop} [Decidable c] {α:Type}{a b:Sem α}{M:Model}{A:Around}{Q:α→Shared→Prop}{E:Value→Shared→Prop}{s:Shared}(hc:¬ c) (h:wpAny M A b Q E s):wpAny M A (if c then a else b) Q E s:=by
  rw[if_neg hc];exact h
theorem zec {b:Bool}{it a:Addr}{i:Nat}{xs:Array Value}{Q:Fin→Shared→Prop}{B:Builtin}(hB:B=match b with|true=>Builtin.«list_iterator.__next__»|false=>Builtin.«tuple_iterator.__next__»)
  (hh:A.handled=none) (y:RIt b s.heap it a i) (sq:SqO b s.heap a xs) (hx:xs[i]?=none)
  (h:∀ h' x,(∀ c o,c≠it→s.heap.get? c=some o→h'.get? c=some o)→(∃ o,h'.get? x=some o∧o.cls=.type "StopIteration")→E (.ref x) { s with heap:=h' }) :
  wpAny (model prog w) A (B ⟨[.ref it],[]⟩) Q E s:=by
 obtain⟨o,n,e,d⟩:=sq.ob
 subst hB
 cases b <;>
 ·refine rf 0 y rfl rfl (zeI.PyIte (show ¬((Value.ref a == Value.none)=true) from Bool.false_ne_true) (rf 1 y rfl rfl (wpAny_bind (wpAny_seqItems e d ?_))))
  simp only[Int.toNat_natCast,hx];refine wpAny_bind (wpAny_rule (wpAny_bind (wpAny_setField_rec y (show 0<2 by decide) fun h1 _ sb=>?_)))
  exact ends hh fun h2 x k z=>h h2 x (fun c o hc q=>k c o ((sb.2 c hc).trans q)) z
theorem zi6 {b:Bool}{it a:Addr}{i:Nat}{xs:Array Value}{x:Value}{P:Value→Shared→Prop}(y:RIt b s.heap it a i) (sq:SqO b s.heap a xs) (hx:xs[i]?=some x)
  (h:∀ h',RIt b h' it a (i+1)→Heap.SameBut it s.heap h'→P x { s with heap:=h' }):wpAny (model prog w) A (Builtin.SmallTypes.nextOf (.ref it)) P E s:=by
 cases b
 ·exact nx F.slot_tuple_iterator_next (ty y) F.entry_tuple_iterator_next (F.args_tuple_iterator_next_1 _) (zeI (b:=false) rfl y sq hx h)
 ·exact nx slot_listiter_next (ty y) entry_listiter_next (args_listiter_next _) (zeI (b:=true) rfl y sq hx h)
theorem zgQ {b:Bool}{it a:Addr}{i:Nat}{xs:Array Value}{P:Value→Shared→Prop}(hh:A.handled=none) (y:RIt b s.heap it a i) (sq:SqO b s.heap a xs) (hx:xs[i]?=none)
  (h:∀ h' x,(∀ c o,c≠it→s.heap.get? c=some o→h'.get? c=some o)→(∃ o,h'.get? x=some o∧o.cls=.type "StopIteration")→E (.ref x) { s with heap:=h' }) :
  wpAny (model prog w) A (Builtin.SmallTypes.nextOf (.ref it)) P E s:=by
 have inner:A.in1.handled=none:=hh
 cases b
 ·exact nx F.slot_tuple_iterator_next (ty y) F.entry_tuple_iterator_next (F.args_tuple_iterator_next_1 _) (zec (b:=false) rfl inner y sq hx h)
 ·exact nx slot_listiter_next (ty y) entry_listiter_next (args_listiter_next _) (zec (b:=true) rfl inner y sq hx h)
theorem zeV {b:Bool}{a:Addr}{xs:Array Value}{P:Value→Shared→Prop}(sq:SqO b s.heap a xs)
  (h:P (.ref s.heap.objs.size) { s with heap:=s.heap.push { cls:=.type (cN b),data:=.fields #[.ref a,.int 0 0] } }):wpAny (model prog w) A (pyIter (.ref a)) P E s:=by
 cases b
 ·exact wpAny_pyIter_tuple sq h
 ·exact wpAny_pyIter_list sq h
end
theorem zc0 {prog:Program}{w:World}{A:Around}(hh:A.handled=none) (b:Bool) (it a:Addr) (xs:Array Value) (hne:a≠it) :
  Draws prog w A it [it,a] xs.size (fun i v=>xs[i]?=some v) (fun i h=>RIt b h it a i∧SqO b h a xs) :=
 ⟨fun _ _ st=>⟨_,st.1⟩,fun _ _ _ st k=>⟨k it List.mem_cons_self _ st.1,st.2.mv fun o e=>k a (List.mem_cons_of_mem _ List.mem_cons_self) o e⟩,
  fun i s Q E hi st k=>zi6 st.1 st.2 (Array.getElem?_eq_getElem hi) fun h' y sb=>k _ h' s.toks (Array.getElem?_eq_getElem hi) ⟨y,st.2.mv fun o e=>(sb.2 a hne).trans e⟩ sb,
  fun s Q E st k=>zgQ hh st.1 st.2 (by simp) fun h' x kk z=>k h' x (fun c o hc q=>kk c o hc q) z⟩
structure Sep (z TI TO i1 i2:Addr) (f1 f2:List Addr):Prop where
 all:[z,TI,TO,i1,i2].Nodup
 z1:z∉f1
 t1:TO∉f1
 o1:i2∉f1
 z2:z∉f2
 t2:TO∉f2
 o2:i1∉f2
section
variable {prog:Program}{w:World}{A:Around}{E:Value→Shared→Prop}{s:Shared}{z TI TO i1 i2:Addr}{f1 f2:List Addr}{n1 n2 k:Nat}{P1 P2:Nat→Value→Prop}{S1 S2:Nat→Heap→Prop}{a b:Value}
theorem zdr (S:Sep z TI TO i1 i2 f1 f2) (D1:Draws prog w A i1 f1 n1 P1 S1) (D2:Draws prog w A i2 f2 n2 P2 S2) {Q:Value→Shared→Prop}
  (hz:IsZip s.heap z TI TO .none) (hI:IsPair s.heap TI (.ref i1) (.ref i2)) (hO:IsPair s.heap TO a b) (d1:S1 k s.heap) (d2:S2 k s.heap) (l1:k<n1) (l2:k<n2)
  (h:∀ x y h' tk,P1 k x→P2 k y→IsZip h' z TI TO (rawInt s.heap.objs.size)→IsPair h' TO x y→S1 (k+1) h'→S2 (k+1) h'→IsPair h' s.heap.objs.size x y →
   (∀ c o,c∉[z,TO,i1,i2]→s.heap.get? c=some o→h'.get? c=some o)→Q (.ref s.heap.objs.size) { s with heap:=h',toks:=tk }) :
  wpAny (model prog w) A (Builtin.«zip.__next__» ⟨[.ref z],[]⟩) (fun r s'=>∃ v,r=.done (.ret v)∧Q v s') E s:=by
 have nd:=S.all
 simp only[List.nodup_cons,List.mem_cons,List.not_mem_nil,or_false,not_or]at nd
 obtain⟨⟨zI,zO,z1,z2⟩,⟨IO,I1,I2⟩,⟨O1,O2⟩,n12,_⟩:=nd
 refine rf 2 hz rfl rfl (rf 3 hz rfl rfl (wpAny_bind (wpAny_seqItems hI rfl (wpAny_bind (rf 0 hz rfl rfl (wpAny_pure ?_))))))
 simp only[if_true]
 refine wpAny_bind (wpAny_rule (rf 4 hz rfl rfl (wpAny_bind (wpAny_setField_rec hz (show 0<5 by decide) fun ha za sa=>wpAny_bind ?_))))
 have za':IsZip ha z TI TO .ellipsis:=za;simp only[List.zipIdx_cons,List.zipIdx_nil,List.forIn_cons,List.forIn_nil]
 refine wpAny_bind (wpAny_bind (wpAny_onRaise (wpAny_bind (D1.item k _ _ _ l1 (D1.frame _ _ _ d1 fun c hc o e=>(sa.2 c fun q=>S.z1 (q ▸ hc)).trans e) fun x hb tb px db sb=>wpAny_pure ?_))))
 have Ob:IsPair hb TO a b:=(sb.2 TO O1).trans ((sa.2 TO (Ne.symm zO)).trans hO)
 refine wpAny_bind (wpAny_seqItems Ob rfl (wpAny_bind (wpAny_updateSeq_pair Ob fun hc Oc sc=>wpAny_bind (wpAny_letGo (wpAny_pure ?_)))))
 have Oc':IsPair hc TO x b:=Oc
 have st2:S2 k hc:=D2.frame _ _ _ d2 fun c hm o e=>(sc.2 c fun q=>S.t2 (q ▸ hm)).trans ((sb.2 c fun q=>S.o2 (q ▸ hm)).trans ((sa.2 c fun q=>S.z2 (q ▸ hm)).trans e))
 refine wpAny_bind (wpAny_bind (wpAny_onRaise (wpAny_bind (D2.item k _ _ _ l2 st2 fun y hd td py dd sd=>wpAny_pure ?_))))
 have Od:IsPair hd TO x b:=(sd.2 TO O2).trans Oc'
 refine wpAny_bind (wpAny_seqItems Od rfl (wpAny_bind (wpAny_updateSeq_pair Od fun he Oe se=>wpAny_bind (wpAny_letGo (wpAny_pure (wpAny_pure ?_))))))
 have Oe':IsPair he TO x y:=Oe
 refine wpAny_bind (wpAny_seqItems Oe' rfl (wpAny_bind (wpAny_newTuple (wpAny_bind ?_))))
 have sz:he.objs.size=s.heap.objs.size:=by rw[se.1,sd.1,sc.1,sb.1,sa.1]
 have ze:IsZip he z TI TO .ellipsis:=(se.2 z zO).trans ((sd.2 z z2).trans ((sc.2 z zO).trans ((sb.2 z z1).trans za')))
 have zn:he.objs.size≠z:=Nat.ne_of_gt (Heap.lt_size ze)
 unfold Builtin.SmallTypes.ownedTupleHandOut;refine wpAny_bind (wpAny_setField_rec (Heap.get?_push_of_some _ ze) (show 0<5 by decide) fun hf zf sf=>wpAny_setField_rec zf (show 1<5 by decide) fun hg zg sg=>wpAny_pure ⟨_,rfl,?_⟩)
 have up:∀ c o,c≠z→he.get? c=some o→hg.get? c=some o:=fun c o q e=>(sg.2 c q).trans ((sf.2 c q).trans (Heap.get?_push_of_some _ e))
 have new:IsPair hg he.objs.size x y:=(sg.2 _ zn).trans ((sf.2 _ zn).trans (Heap.get?_push_size _ rfl))
 have zg':IsZip hg z TI TO (rawInt he.objs.size):=zg
 rw[sz]at new zg'
 show Q (.ref he.objs.size) _
 rw[sz]
 refine h x y hg td px py zg' (up _ _ (Ne.symm zO) Oe') ?_ ?_ new fun c o hc e=>?_
 ·exact D1.frame _ _ _ db fun c hm o e=>up c o (fun q=>S.z1 (q ▸ hm)) ((se.2 c fun q=>S.t1 (q ▸ hm)).trans ((sd.2 c fun q=>S.o1 (q ▸ hm)).trans ((sc.2 c fun q=>S.t1 (q ▸ hm)).trans e)))
 ·exact D2.frame _ _ _ dd fun c hm o e=>up c o (fun q=>S.z2 (q ▸ hm)) ((se.2 c fun q=>S.t2 (q ▸ hm)).trans e)
 ·simp only[List.mem_cons,List.not_mem_nil,or_false,not_or]at hc
  obtain⟨c1,c2,c3,c4⟩:=hc
  exact up c o c1 ((se.2 c c2).trans ((sd.2 c c4).trans ((sc.2 c c2).trans ((sb.2 c c3).trans ((sa.2 c c1).trans e)))))
end
section
variable {prog:Program}{w:World}{A:Around}{E:Value→Shared→Prop}{s:Shared}{z TI TO i1 i2:Addr}{f1 f2:List Addr}{n1 n2 k:Nat}{P1 P2:Nat→Value→Prop}{S1 S2:Nat→Heap→Prop}{a b:Value}
theorem zdq (S:Sep z TI TO i1 i2 f1 f2) (D1:Draws prog w A i1 f1 n1 P1 S1) {Q:Fin→Shared→Prop}(hz:IsZip s.heap z TI TO .none) (hI:IsPair s.heap TI (.ref i1) (.ref i2)) (d1:S1 n1 s.heap)
  (h:∀ h' x,(∀ c o,c∉[z,TO,i1,i2]→s.heap.get? c=some o→h'.get? c=some o)→(∃ o,h'.get? x=some o∧o.cls=.type "StopIteration")→E (.ref x) { s with heap:=h' }):wpAny (model prog w) A (Builtin.«zip.__next__» ⟨[.ref z],[]⟩) Q E s:=by
 have nd:=S.all
 simp only[List.nodup_cons,List.mem_cons,List.not_mem_nil,or_false,not_or]at nd
 obtain⟨⟨zI,zO,z1,z2⟩,⟨IO,I1,I2⟩,⟨O1,O2⟩,n12,_⟩:=nd
 refine rf 2 hz rfl rfl (rf 3 hz rfl rfl (wpAny_bind (wpAny_seqItems hI rfl (wpAny_bind (rf 0 hz rfl rfl (wpAny_pure ?_))))))
 simp only[if_true]
 refine wpAny_bind (wpAny_rule (rf 4 hz rfl rfl (wpAny_bind (wpAny_setField_rec hz (show 0<5 by decide) fun ha za sa=>wpAny_bind ?_))))
 have za':IsZip ha z TI TO .ellipsis:=za;simp only[List.zipIdx_cons,List.zipIdx_nil,List.forIn_cons,List.forIn_nil]
 refine wpAny_bind (wpAny_bind (wpAny_onRaise (wpAny_bind (D1.done _ _ _ (D1.frame _ _ _ d1 fun c hc o e=>(sa.2 c fun q=>S.z1 (q ▸ hc)).trans e) fun hb x kb ⟨ox,ex,cx⟩=>?_))))
 have zb:IsZip hb z TI TO .ellipsis:=kb z _ z1 za'
 have xz:x≠z:=fun q=>by rw[q,zb]at ex;cases ex;exact absurd (show Value.type "zip" = Value.type "StopIteration" from cx) (by decide)
 refine wpAny_setField_rec zb (show 0<5 by decide) fun hc _ sc=>h hc x (fun c o hm e=>?_) ⟨ox,(sc.2 x xz).trans ex,cx⟩
 simp only[List.mem_cons,List.not_mem_nil,or_false,not_or]at hm
 exact(sc.2 c hm.1).trans (kb c o hm.2.2.1 ((sa.2 c hm.1).trans e))
end
theorem zds (b1 b2:Bool) (a1 a2:Addr) (xs ys:Array Value):Meets (Builtin.«zip.__new__» ⟨[.type "zip",.ref a1,.ref a2],[]⟩) (fun _ R s=>SqO b1 s.heap a1 xs∧SqO b2 s.heap a2 ys ∧
  ∀ h' z,(∃ TI TO i1 i2,[z,TI,TO,i1,i2].Nodup∧(∀ c∈[z,TI,TO,i1,i2],s.heap.objs.size≤c)∧IsZip h' z TI TO .none∧IsPair h' TI (.ref i1) (.ref i2)∧IsPair h' TO .none .none∧RIt b1 h' i1 a1 0∧RIt b2 h' i2 a2 0) →
   (∀ c o,s.heap.get? c=some o→h'.get? c=some o)→R (.ok (.ret (.ref z))) { s with heap:=h' }) :=
 .of_wp fun prog w A R s h=>by
  obtain⟨hp,g,d,tk,os⟩:=s;obtain⟨q1,q2,h⟩:=h
  have sub:=sub_zip
  have r1:SqO b1 (Shared.heap ⟨hp,g,d,tk,os⟩) a1 xs:=q1
  have r2:SqO b2 (Shared.heap ⟨hp.push { cls:=.type (cN b1),data:=.fields #[.ref a1,.int 0 0] },g,d,tk,os⟩) a2 ys:=q2.mv fun o e=>Heap.get?_push_of_some _ e
  wp_walk using zeV r1,zeV r2
  refine⟨_,rfl,h _ _ ⟨_,_,_,_,?_,?_,Heap.get?_push_size _ rfl,Heap.get?_push_of_some _ (Heap.get?_push_of_some _ (Heap.get?_push_size _ rfl)),Heap.get?_push_of_some _ (Heap.get?_push_size _ rfl),
   Heap.get?_push_of_some _ (Heap.get?_push_of_some _ (Heap.get?_push_of_some _ (Heap.get?_push_of_some _ (Heap.get?_push_size _ rfl)))),Heap.get?_push_of_some _ (Heap.get?_push_of_some _ (Heap.get?_push_of_some _ (Heap.get?_push_size _ rfl)))⟩ fun c o e=>?_⟩
  ·simp only[Heap.size_push,List.nodup_cons,List.mem_cons,List.not_mem_nil,or_false,not_or]
   simp<;>lia
  ·simp only[Heap.size_push,List.mem_cons,List.not_mem_nil,or_false]
   intro c hc
   have:hp.objs.size≤c:=by lia
   exact this
  ·exact Heap.get?_push_of_some _ (Heap.get?_push_of_some _ (Heap.get?_push_of_some _ (Heap.get?_push_of_some _ (Heap.get?_push_of_some _ e))))
end Own
namespace L2
open PySem PySem.Spec PyProof.Rows Own
section
variable {X:Cx}{pins:List (Addr × Obj)}{σ:St}{H:Hp}{s:Shared}{h':Heap}
theorem Inv.spunN {fp:List Addr}{T:Addr}{o:HO}{t':Nat}(I:Inv X pins σ H s) (k:∀ b o,b∉fp→s.heap.get? b=some o→h'.get? b=some o) (hf:∀ b∈fp,FpOk X pins H b) (hT:s.heap.objs.size≤T)
  (new:ObjOk X.prog X.w (upd H T o) h' T o):Inv X pins σ (upd H T o) { s with heap:=h',toks:=t' }:=by
 have hn:H T=none:=I.hok.fresh hT
 have neT:∀ b u,s.heap.get? b=some u→b≠T:=fun b u e=>Nat.ne_of_lt (Nat.lt_of_lt_of_le (Heap.lt_size e) hT)
 have nfp:∀ b u,H b=some u→b∉fp:=fun b u e hb=>by rw[(hf b hb).1]at e;cases e
 refine I.step (g':=s.gens) (d':=s.drawn) (ch:=fp) (fun b hb=>?_) (fun b o _ _ hc e _=>k b o hc e) (fun b o _ _ hc e _=>⟨o.slots,k b o hc e⟩) (fun b o _ e n=>by rw[zag (neT b o e)];exact n)
  (fun b o hc e=>⟨o,k b o hc e⟩) (fun b xs e=>by rw[zag (zad e hn)];exact e) (fun b o u e=>by rw[zag (zad e hn)];exact e) (fun b ps e=>⟨#[],by rw[zag (zad e hn),e];simp⟩) (fun m hm=>?_) (fun b u e=>?_) I.bare
 ·obtain⟨f0,f1,f2,f3,f4,f5⟩:=hf b hb
  exact⟨f3,f1,f4,f5⟩
 ·obtain⟨o,es,ep,ho,r⟩:=hm
  exact⟨o,es,ep,k _ o (fun hb=>(hf _ hb).2.1 rfl) ho,r⟩
 ·by_cases hb:b=T
  ·subst hb;rw[zac]at e;cases e;exact new
  ·rw[zag hb]at e
   refine(I.hok b u e).stay (fun c v hc q=>k c v ?_ q) (fun c q=>by rw[zag (zad q hn)];exact q) fun c xs q=>by rw[zag (zad q hn)];exact q
   rcases hc with z|z
   ·rw[z];exact nfp b u e
   ·exact nfp c _ z
theorem Inv.spun {fp:List Addr}{t':Nat}(I:Inv X pins σ H s) (k:∀ b o,b∉fp→s.heap.get? b=some o→h'.get? b=some o) (hf:∀ b∈fp,FpOk X pins H b):Inv X pins σ H { s with heap:=h',toks:=t' }:=by
 have nfp:∀ b u,H b=some u→b∉fp:=fun b u e hb=>by rw[(hf b hb).1]at e;cases e
 refine I.step (g':=s.gens) (d':=s.drawn) (ch:=fp) (fun b hb=>?_) (fun b o _ _ hc e _=>k b o hc e) (fun b o _ _ hc e _=>⟨o.slots,k b o hc e⟩) (fun b o _ e n=>n)
  (fun b o hc e=>⟨o,k b o hc e⟩) (fun b xs e=>e) (fun b o u e=>e) (fun b ps e=>⟨#[],by rw[e];simp⟩) (fun m hm=>?_) (fun b u e=>?_) I.bare
 ·obtain⟨f0,f1,f2,f3,f4,f5⟩:=hf b hb
  exact⟨f3,f1,f4,f5⟩
 ·obtain⟨o,es,ep,ho,r⟩:=hm
  exact⟨o,es,ep,k _ o (fun hb=>(hf _ hb).2.1 rfl) ho,r⟩
 ·refine(I.hok b u e).stay (fun c v hc q=>k c v ?_ q) (fun c q=>q) fun c xs q=>q
  rcases hc with z|z
  ·rw[z];exact nfp b u e
  ·exact nfp c _ z
end
def SqB:Bool→PySem.W.Frag→Hp→Addr→List V→Prop
 | true,K,H,a,xs=>SqL K H a xs
 | false,K,H,a,xs=>SqT K H a xs
section
variable {X:Cx}{pins:List (Addr × Obj)}{σ:St}{H:Hp}{s:Shared}{a c:Addr}{xs ys:List V}{b:Bool}
theorem Inv.sq (I:Inv X pins σ H s) (h:SqB b X.K H a xs):∃ its:List Value,Vals xs its∧SqO b s.heap a its.toArray:=by
 cases b
 ·obtain⟨its,r,p,z⟩:=I.tuple h
  exact⟨its,r,p⟩
 ·obtain⟨its,r,p,z⟩:=I.list h
  exact⟨its,r,p.isList⟩
theorem Inv.sq_inj (I:Inv X pins σ H s) (h:SqB b X.K H a xs) (h':SqB b X.K H a ys):xs=ys:=by
 cases b
 ·exact I.tuple_inj h h'
 ·exact I.list_inj h h'
theorem Inv.sq_ne (I:Inv X pins σ H s) (h:SqB b X.K H a xs) (f:FpOk X pins H c):c≠a:=by
 rintro rfl
 have inK:∀ o,X.K.lookup c=some o→False:=fun o e=>by
  have e1:=I.ok.mod.kin c o e
  rcases f.2.2.2.1 with z|z
  ·exact I.ok.noex c o e1 z
  ·exact absurd (Nat.lt_of_lt_of_le (Heap.lt_size e1) (Nat.le_trans I.ok.bsz z)) (Nat.lt_irrefl _)
 cases b <;>
 ·rcases h with (h|⟨o,h⟩)|⟨o,_,_,e,_⟩
  ·rw[f.1]at h;cases h
  ·rw[f.1]at h;cases h
  ·exact inK o e
end
def Pr (v u:V) (H:Hp) (x:V) (H':Hp):Prop:=∃ T,H T=none∧x=.ref T∧H'=upd H T (.tup [v,u])
theorem zdK {P:Program}{w:World}{H:Hp}{h:Heap}{T:Addr}{v u:V}{a b:Value}(e:IsPair h T a b) (rv:RelV v a) (ru:RelV u b):ObjOk P w (upd H T (.tup [v,u])) h T (.tup [v,u]) :=
 ⟨show 2≤sizeLine by decide,[a,b],.cons rv (.cons ru .nil),⟨_,e,rfl,_,rfl,rfl⟩⟩
def Itz (K:PySem.W.Frag) (b1 b2:Bool) (a1 a2:Addr):It :=
 ⟨fun i H=>∃ xs ys x y,SqB b1 K H a1 xs∧SqB b2 K H a2 ys∧xs[i]?=some x∧ys[i]?=some y,fun i H v H'=>∃ x y,(∀ xs,SqB b1 K H a1 xs→xs[i]?=some x)∧(∀ ys,SqB b2 K H a2 ys→ys[i]?=some y)∧Pr x y H v H',
  fun i H=>∃ xs,SqB b1 K H a1 xs∧xs.length=i⟩
theorem zhs {P:Program}{w:World}{K:PySem.W.Frag}{es:List Expr}{k1} {p1:Pos}(b1 b2:Bool) (a1 a2 z TI TO i1 i2:Addr) (nd:[z,TI,TO,i1,i2].Nodup) :
  Turn P w K (.Tuple es k1 p1) (Itz K b1 b2 a1 a2) [z,TI,TO,i1,i2] z (fun i h=>IsZip h z TI TO .none∧IsPair h TI (.ref i1) (.ref i2)∧(∃ a b,IsPair h TO a b)∧RIt b1 h i1 a1 i∧RIt b2 h i2 a2 i) where
 mem:=List.mem_cons_self
 obj:=fun i h ⟨hz,hI,⟨a,b,hO⟩,h1,h2⟩ c hc=>by
  simp only[List.mem_cons,List.not_mem_nil,or_false]at hc
  rcases hc with rfl|rfl|rfl|rfl|rfl
  ·exact⟨_,hz,fun v q=>by cases q⟩
  ·exact⟨_,hI,fun v q=>by cases q⟩
  ·exact⟨_,hO,fun v q=>by cases q⟩
  ·exact⟨_,h1,fun v q=>by cases q⟩
  ·exact⟨_,h2,fun v q=>by cases q⟩
 keep:=fun i h h' ⟨hz,hI,⟨a,b,hO⟩,h1,h2⟩ kk=>⟨kk z (by simp) _ hz,kk TI (by simp) _ hI,⟨a,b,kk TO (by simp) _ hO⟩,kk i1 (by simp) _ h1,kk i2 (by simp) _ h2⟩
 item:=by
  intro X hP hw hK hc i pins s σ H E I hf ⟨hz,hI,⟨a,b,hO⟩,h1,h2⟩ ⟨xs,ys,x,y,q1,q2,hx,hy⟩
  subst hP hw hK
  obtain⟨u1,r1,p1⟩:=I.sq q1
  obtain⟨u2,r2,p2⟩:=I.sq q2
  obtain⟨v1,e1,rx⟩:=r1.get hx
  obtain⟨v2,e2,ry⟩:=r2.get hy
  have nd':=nd
  simp only[List.nodup_cons,List.mem_cons,List.not_mem_nil,or_false,not_or]at nd'
  obtain⟨⟨zI,zO,z1,z2⟩,⟨IO,I1,I2⟩,⟨O1,O2⟩,n12,_⟩:=nd'
  have na1:∀ c∈[z,TI,TO,i1,i2],c≠a1:=fun c hm=>I.sq_ne q1 (hf c hm)
  have na2:∀ c∈[z,TI,TO,i1,i2],c≠a2:=fun c hm=>I.sq_ne q2 (hf c hm)
  have S:Sep z TI TO i1 i2 [i1,a1] [i2,a2]:=⟨nd,by simp[z1,na1 z (by simp)],by simp[O1,na1 TO (by simp)],by simp[Ne.symm n12,na1 i2 (by simp)],by simp[z2,na2 z (by simp)],by simp[O2,na2 TO (by simp)],by simp[n12,na2 i1 (by simp)]⟩
  have hd:=I.ok.hd hc
  have D1:=zc0 (prog:=X.prog) (w:=X.w) (A:=X.A.in1) hd b1 i1 a1 u1.toArray (p1.ne h1)
  have D2:=zc0 (prog:=X.prog) (w:=X.w) (A:=X.A.in1) hd b2 i2 a2 u2.toArray (p2.ne h2)
  have tyz:s.TypeIs (.ref z) "zip":=⟨_,hz,rfl⟩
  unfold pyNext
  refine wpAny_bind (wpAny_attempt (wpAny_callSpecial?_slot (name:="__next__") tyz F.slot_zip_next (wpAny_call_entry F.slot_zip_next tyz F.entry_zip_next (zdr S D1 D2 hz hI hO ⟨h1,p1⟩ ⟨h2,p2⟩ (by simpa using (List.getElem?_eq_some_iff.mp e1).1) (by simpa using (List.getElem?_eq_some_iff.mp e2).1)
   fun w1 w2 h' tk hw1 hw2 zh Oh d1 d2 new hk=>wpAny_pure ?_) (F.args_zip_next_1 _))))
  obtain rfl:v1=w1:=Option.some.inj (e1.symm.trans (by simpa using hw1))
  obtain rfl:v2=w2:=Option.some.inj (e2.symm.trans (by simpa using hw2))
  refine⟨_,rfl,wpAny_letOwnedTupleGo_zip zh fun h3 z3 s3=>?_⟩
  have nz:s.heap.objs.size≠z:=Nat.ne_of_gt (Heap.lt_size hz)
  have far:∀ c∈[z,TI,TO,i1,i2],c≠s.heap.objs.size:=fun c hm=>by
   simp only[List.mem_cons,or_false,List.not_mem_nil]at hm
   rcases hm with rfl|rfl|rfl|rfl|rfl
   ·exact Nat.ne_of_lt (Heap.lt_size hz)
   ·exact Nat.ne_of_lt (Heap.lt_size hI)
   ·exact Nat.ne_of_lt (Heap.lt_size hO)
   ·exact Nat.ne_of_lt (Heap.lt_size h1)
   ·exact Nat.ne_of_lt (Heap.lt_size h2)
  refine⟨.ref s.heap.objs.size,_,I.spunN (fp:=[z,TI,TO,i1,i2]) (fun c o hm q=>?_) hf (Nat.le_refl _) (zdK ((s3.2 _ nz).trans new) rx ry),rfl,⟨x,y,fun l hl=>by rw[I.sq_inj hl q1];exact hx,fun l hl=>by rw[I.sq_inj hl q2];exact hy,_,I.fresh,rfl,rfl⟩,
   ⟨z3,(s3.2 _ (Ne.symm zI)).trans (hk TI _ (by simp[Ne.symm zI,IO,I1,I2]) hI),⟨_,_,(s3.2 _ (Ne.symm zO)).trans Oh⟩,(s3.2 _ (Ne.symm z1)).trans d1.1,(s3.2 _ (Ne.symm z2)).trans d2.1⟩,fun c hm=>by rw[zag (far c hm),(hf c hm).1]⟩
  simp only[List.mem_cons,List.not_mem_nil,or_false,not_or]at hm
  exact(s3.2 c hm.1).trans (hk c o (by simp[hm]) q)
 done:=by
  intro X hP hw hK hc i pins s σ H E I hf ⟨hz,hI,⟨a,b,hO⟩,h1,h2⟩ ⟨xs,q1,hx⟩
  subst hP hw hK
  obtain⟨u1,r1,p1⟩:=I.sq q1
  have nd':=nd
  simp only[List.nodup_cons,List.mem_cons,List.not_mem_nil,or_false,not_or]at nd'
  obtain⟨⟨zI,zO,z1,z2⟩,⟨IO,I1,I2⟩,⟨O1,O2⟩,n12,_⟩:=nd'
  have na1:∀ c∈[z,TI,TO,i1,i2],c≠a1:=fun c hm=>I.sq_ne q1 (hf c hm)
  have S:Sep z TI TO i1 i2 [i1,a1] [i2]:=⟨nd,by simp[z1,na1 z (by simp)],by simp[O1,na1 TO (by simp)],by simp[Ne.symm n12,na1 i2 (by simp)],by simp[z2],by simp[O2],by simp[n12]⟩
  have hsz:i=u1.toArray.size:=by rw[List.size_toArray,← r1.length,hx]
  have tyz:s.TypeIs (.ref z) "zip":=⟨_,hz,rfl⟩
  unfold pyNext
  refine wpAny_bind (wpAny_attempt (wpAny_callSpecial?_slot (name:="__next__") tyz F.slot_zip_next (wpAny_call_entry F.slot_zip_next tyz F.entry_zip_next
   (zdq S (zc0 (prog:=X.prog) (w:=X.w) (A:=X.A.in1) (I.ok.hd hc) b1 i1 a1 u1.toArray (p1.ne h1)) hz hI ⟨by rw[← hsz];exact h1,p1⟩ fun h' x hk ⟨o,eo,co⟩=>?_) (F.args_zip_next_1 _))))
  refine wpAny_bind (wpAny_isInstance (T:="StopIteration") (b:=true) ⟨o,eo,co⟩ isSubtype_stop (wpAny_pure ⟨rfl,I.spun (t':=s.toks) (fp:=[z,TI,TO,i1,i2]) (fun c o hm q=>hk c o ?_ q) hf⟩))
  simp only[List.mem_cons,List.not_mem_nil,or_false,not_or]at hm ⊢
  exact⟨hm.1,hm.2.2.1,hm.2.2.2.1,hm.2.2.2.2⟩
 self:=fun _ _ _ _ _ st h=>wpAny_pyIter_zip st.1 h
def iZip (K:PySem.W.Frag) (b1 b2:Bool) (ta:TA):TI:=fun σ H R=>ta σ H fun vs H1=>∃ a1 a2 xs ys,vs=[.ref a1,.ref a2]∧SqB b1 K H1 a1 xs∧SqB b2 K H1 a2 ys∧R (Itz K b1 b2 a1 a2) H1
theorem zjM {X:Cx}{a b:Expr}{ta:TA}{p pos p1:Pos}{es:List Expr}{k1} (b1 b2:Bool) (hg:Gl X "zip") (hm:X.mg "zip" = none) (ha:PA X [a,b] ta) (hs:starEach [a,b] X.env=[(false,eval a X.env),(false,eval b X.env)]:=by rfl) (hs2:starEach [b] X.env=[(false,eval b X.env)]:=by rfl) :
  PI X (.Tuple es k1 p1) (.Call (.Name "zip" p) [a,b] [] pos) (iZip X.K b1 b2 ta):=by
 intro pins s σ H R I h
 refine Call_ (zaR I hg hm (u:=.type "zip") (by rfl) (PyProof.Rows.callWith_type1 (thn (ha pos pins s σ H _ I h) fun us s1 ⟨vs,H1,I1,r1,q1⟩=>?_) (by rw[hs,hs2]) (by rw[hs2];rfl)))
 obtain⟨a1,a2,xs,ys,rfl,hq1,hq2,q⟩:=q1
 obtain⟨u,v,rfl,ru,rv⟩:=r1.two
 cases ru
 cases rv
 obtain⟨its,_,pl1⟩:=I1.sq hq1
 obtain⟨jts,_,pl2⟩:=I1.sq hq2
 refine callType_new F.called_zip (by decide) (F.typeCall_zip_2 _ _) (F.newCall_zip_2 _ _) (fun obj=>F.args_object_init_3 obj _ _) F.entry_zip_new (zds b1 b2 a1 a2 its.toArray jts.toArray) ⟨pl1,pl2,fun h' z ⟨TI,TO,i1,i2,nd,far,hz,hI,hO,h1,h2⟩ hk=>⟨⟨_,hz,rfl⟩,?_⟩⟩
 exact wpAny_pyIter_zip hz ⟨_,[z,TI,TO,i1,i2],_,_,H1,rfl,I1.kept (t':=s1.toks) hk,zhs b1 b2 a1 a2 z TI TO i1 i2 nd,⟨hz,hI,⟨_,_,hO⟩,h1,h2⟩,fun c hc=>I1.fpOk (far c hc) (I1.hok.fresh (far c hc)),q⟩
section
variable {X:Cx}
theorem zkc {prog:Program}{w:World}{A:Around}(hh:A.handled=none) (b:Bool) (I a:Addr) (hne:a≠I) (xs:Array Value) :
  Walks prog w A I [I,a] [I] xs.size (fun i v=>xs[i]?=some v) (fun i h=>(match b with|true=>h.IsListIter I a i|false=>h.IsTupleIter I a i)∧SqO b h a xs):=by
 cases b
 ·exact Walks.tuple hh I a hne xs
 ·exact Walks.list hh I a hne xs
theorem zhk (hc:X.calm=true) (b:Bool):CallR X (.builtin "all") (fun vs H Q=>∃ a bs,vs=[.ref a]∧SqB b X.K H a (List.map V.bl bs)∧Q (.bl (bs.all id)) H):=by
 intro pins s σ H vs us Q I rv h
 obtain⟨a,bs,rfl,hq,q⟩:=h
 obtain⟨u,rfl,ru⟩:=rv.one
 cases ru
 obtain⟨its,r,p⟩:=I.sq hq
 have hne:a≠s.heap.objs.size:=by
  obtain⟨o,n,e,_⟩:=p.ob
  exact Nat.ne_of_lt (Heap.lt_size e)
 have hl:its.length=bs.length:=by rw[← r.length,List.length_map]
 refine call_all_walk (zeV p ⟨s.heap.objs.size,[s.heap.objs.size,a],[s.heap.objs.size],_,_,_,fun i=>bs.getD i true,rfl,zkc (show X.A.in1.handled=none from I.ok.hd hc) b _ a hne its.toArray,?_,?_,?_⟩)
 ·refine⟨?_,p.mv fun o e=>Heap.get?_push_of_some _ e⟩
  cases b<;>exact⟨_,Heap.get?_push_size _ rfl,rfl,rfl⟩
 ·intro i v s' Q' E' hv hQ
  have hv':its[i]?=some v:=by simpa using hv
  have hi:=(List.getElem?_eq_some_iff.mp hv').1
  have e:(List.map V.bl bs)[i]?=some (V.bl (bs.getD i true)):=by
   rw[List.getElem?_map,List.getD_eq_getElem?_getD,List.getElem?_eq_getElem (by lia)]
   rfl
  obtain⟨u',e',ru⟩:=r.get e
  rw[hv']at e'
  obtain rfl:=Option.some.inj e'
  obtain rfl:v=Value.bool (bs.getD i true):=ru
  exact wpAny_truthy_bool hQ
 ·intro h' tk hk
  refine⟨.bl (bs.all id),H,I.kept (t':=tk) fun c o e=>hk c o ?_ (Heap.get?_push_of_some _ e),?_,q⟩
  ·exact fun z=>Nat.ne_of_lt (Heap.lt_size e) (List.mem_singleton.mp z)
  ·show Value.bool _=Value.bool _
   congr 1
   rw[List.size_toArray,hl,Bool.eq_iff_iff,List.all_eq_true,List.all_eq_true]
   constructor
   ·intro h x hx
    obtain⟨j,hj,e⟩:=List.getElem_of_mem hx
    have at_j:=h j (List.mem_range.mpr hj)
    rw[List.getD_eq_getElem?_getD,List.getElem?_eq_getElem hj]at at_j
    rw[← e];exact at_j
   ·intro h j hj
    rw[List.getD_eq_getElem?_getD,List.getElem?_eq_getElem (List.mem_range.mp hj)]
    exact h _ (List.getElem_mem _)
theorem zaT:CallR X (.builtin "isinstance") (fun vs H Q=>∃ x T t k,vs=[x,.ty T]∧TyOf X.K H x t∧PySem.W.kitOne X.K t (.type T)=some k∧Q (.bl k) H):=by
 intro pins s σ H vs us Q I rv h
 obtain⟨x,T,t,k,rfl,ht,hk,q⟩:=h
 obtain⟨u,v,rfl,ru,rv'⟩:=rv.two
 cases (show v=Value.type T from rv')
 exact zg1 I ru ht hk fun tk=>⟨.bl k,H,I.tok tk,rfl,q⟩
end
example (K:PySem.W.Frag):PySem.W.kitOne K (.type "int") (.type "tuple")=some false:=by rfl
example (K:PySem.W.Frag):PySem.W.kitOne K (.type "int") (.type "bool")=some false:=by first|rfl|decide|(with_unfolding_all rfl)
theorem zaa {H:Hp}{p:Addr}(h:H p=none) (o:HO):Same H (upd H p o):=fun b u q=>by rw[zag (zad q h)];exact q
def capB (N N':List Str) (sc scope:Scope) (cap:List (Option Nat)):Bool :=
 decide (scope.kind=.function) && (scope.names.all fun y=>decide (y.2≠.cell) && (decide (y.2≠.local) || decide (scope.names.lookup y.1=some .local)) &&
  (decide (y.2≠.free) || (decide (sc.names.lookup y.1=some .cell) || decide (sc.names.lookup y.1=some .free)))) && decide (cap.length=N'.length) &&
 ((N'.zip cap).all fun p=>match p.2 with
  | none=>true
  | some i=>decide (N[i]?=some p.1) && (decide (scope.names.lookup p.1=some .free) && (decide (sc.names.lookup p.1=some .cell) || decide (sc.names.lookup p.1=some .free))))
theorem CapOk.of {N N':List Str}{sc scope:Scope}{cap:List (Option Nat)}(h:capB N N' sc scope cap=true):CapOk N N' sc scope cap:=by
 unfold capB at h
 simp only[Bool.and_eq_true,List.all_eq_true,Bool.or_eq_true,decide_eq_true_eq]at h
 obtain⟨⟨⟨h1,h2⟩,h3⟩,h4⟩:=h;refine⟨h1,fun y hy=>(h2 y hy).1.1,fun y hy e=>?_,fun y hy e=>?_,h3,fun p hp i e=>?_⟩
 ·rcases (h2 y hy).1.2 with z|z
  ·exact absurd e z
  ·exact z
 ·rcases (h2 y hy).2 with z|z
  ·exact absurd e z
  ·exact z
 ·have q:=h4 p hp
  rw[e]at q
  simp only[Bool.and_eq_true,Bool.or_eq_true,decide_eq_true_eq]at q
  exact q
def Nx (n i:Nat) (p:Prop):Prop:=∃ m',m'<n-i∧m'=n-(i+1)∧i+1≤n∧p
theorem nx {n i:Nat}{p:Prop}(h:i<n) (q:p):Nx n i p:=⟨n-(i+1),by lia,rfl,h,q⟩
theorem zh1 {lo:Int}{n:Nat}{g:TG}{te:TE}{l:Addr}{σ:St}{H:Hp}{Q:VK}(Pv:Nat→List V→St→Hp→Prop) (h0:Pv 0 [] σ H) (hl:∀ i acc σ H,Pv i acc σ H→H l=some (.lst acc))
  (hs:∀ i acc σ H,i<n→Pv i acc σ H→g (.int (lo+i)) σ H fun σ3 H3=>te σ3 H3 fun y H5=>H5 l=some (.lst acc)∧acc.length<sizeLine∧Nx n i (Pv (i+1) (acc++[y]) σ3 (upd H5 l (.lst (acc++[y])))))
  (hd:∀ acc σ H,Pv n acc σ H→Q (.ref l) H):∃ W:Nat→Nat→List V→St→Hp→Prop,(∃ m,W 0 m [] σ H)∧LCW (Itr lo n) g tYes te l Q W:=by
 refine⟨fun i m acc σ H=>m=n-i∧i≤n∧Pv i acc σ H,⟨n,by simp,Nat.zero_le _,h0⟩,?_⟩
 rintro i m acc σ H ⟨rfl,hi,p⟩
 refine⟨hl i acc σ H p,?_⟩
 by_cases hlt:i<n
 ·refine .inr ⟨hlt,fun x H2 ⟨e,y⟩=>?_⟩
  subst e y
  exact hs i acc σ _ hlt p
 ·have e:i=n:=by lia
  subst e
  exact .inl ⟨Nat.le_refl _,hd acc σ H p⟩
theorem zjX {K:PySem.W.Frag}{b1 b2:Bool}{a1 a2:Addr}{xs ys:List V}(hxy:xs.length=ys.length) {g:TG}{te:TE}{l:Addr}{σ:St}{H:Hp}{Q:VK}(Pv:Nat→List V→St→Hp→Prop) (h0:Pv 0 [] σ H)
  (hl:∀ i acc σ H,Pv i acc σ H→H l=some (.lst acc)∧SqB b1 K H a1 xs∧SqB b2 K H a2 ys)
  (hs:∀ i acc σ H x y T,xs[i]?=some x→ys[i]?=some y→H T=none→Pv i acc σ H→g (.ref T) σ (upd H T (.tup [x,y])) fun σ3 H3=>te σ3 H3 fun z H5=>H5 l=some (.lst acc)∧acc.length<sizeLine∧Nx xs.length i (Pv (i+1) (acc++[z]) σ3 (upd H5 l (.lst (acc++[z])))))
  (hd:∀ acc σ H,Pv xs.length acc σ H→Q (.ref l) H):∃ W:Nat→Nat→List V→St→Hp→Prop,(∃ m,W 0 m [] σ H)∧LCW (Itz K b1 b2 a1 a2) g tYes te l Q W:=by
 refine⟨fun i m acc σ H=>m=xs.length-i∧i≤xs.length∧Pv i acc σ H,⟨xs.length,by simp,Nat.zero_le _,h0⟩,?_⟩
 rintro i m acc σ H ⟨rfl,hi,p⟩
 obtain⟨q0,q1,q2⟩:=hl i acc σ H p
 refine⟨q0,?_⟩
 by_cases hlt:i<xs.length
 ·refine .inr ⟨⟨xs,ys,_,_,q1,q2,List.getElem?_eq_getElem hlt,List.getElem?_eq_getElem (by lia)⟩,fun v H2 ⟨x,y,ex,ey,T,hT,e1,e2⟩=>?_⟩
  subst e1 e2
  exact hs i acc σ H x y T (ex xs q1) (ey ys q2) hT p
 ·have e:i=xs.length:=by lia
  subst e
  exact .inl ⟨⟨xs,q1,rfl⟩,hd acc σ H p⟩
section
variable {X:Cx}
end
end L2
namespace Own
open PySem PySem.Spec PyProof.Rows
section
variable {prog:Program}{w:World}{A:Around}{E:Value→Shared→Prop}{s:Shared}
theorem SqO.cl {b:Bool}{a:Addr}{xs:Array Value}(x:SqO b s.heap a xs):s.TypeIs (.ref a) (if b then "list" else "tuple"):=by
 cases b<;>(obtain⟨o,e,c,_⟩:=x;exact⟨o,e,c⟩)
theorem zj4 {b:Bool}{a:Addr}{vs:List Value}{Q:List Value→Shared→Prop}(sq:SqO b s.heap a vs.toArray) (hz:vs.length≤sizeLine)
  (h:∀ h',s.heap.objs.size≤h'.objs.size→(∀ c o,s.heap.get? c=some o→h'.get? c=some o)→Q vs { s with heap:=h' }):wpAny (model prog w) A (collect (.ref a)) Q E s:=by
 obtain⟨o,n,e,d⟩:=sq.ob
 have new:(s.heap.push (seqObj "list" #[] 0)).get? s.heap.objs.size=some (seqObj "list" #[] 0):=Heap.get?_push_size _ rfl
 have e':(s.heap.push (seqObj "list" #[] 0)).get? a=some o:=Heap.get?_push_of_some _ e
 have old:∀ c u,s.heap.get? c=some u→((s.heap.push (seqObj "list" #[] 0)).update s.heap.objs.size (Obj.mapSeq (·++vs.toArray))).get? c=some u:=fun c u q=>by
  rw[Heap.get?_update_other _ _ (Nat.ne_of_gt (Heap.lt_size q))];exact Heap.get?_push_of_some _ q
 have sq':SqO b (s.heap.push (seqObj "list" #[] 0)) a vs.toArray:=sq.mv fun o q=>Heap.get?_push_of_some _ q
 have short:((#[]:Array Value)++vs.toArray).size≤sizeLine+1:=by simp;lia
 unfold collect
 refine wpAny_bind (wpAny_runValue (codeAny_builtin entry_proto_collect' (wpAny_bind (wpAny_newList (wpAny_pure ⟨Code.quiet_builtin _ (by decide +kernel),codeAny_builtin entry_list_iadd' ?_⟩)))))
 show wpAny _ _ (Builtin.List.listExtendWith (.ref s.heap.objs.size) (.ref a) (.ref s.heap.objs.size)) _ _ ({ s with heap:=s.heap.push (seqObj "list" #[] 0) }:Shared)
 unfold Builtin.List.listExtendWith;have tyr:Shared.TypeIs ({ s with heap:=s.heap.push (seqObj "list" #[] 0) }:Shared) (.ref a) (if b then "list" else "tuple"):=SqO.cl sq'
 refine wpAny_bind (wpAny_typeOf tyr ?_)
 have yes:(Builtin.List.listSameRef (.ref s.heap.objs.size) (.ref a) || Value.type (if b then "list" else "tuple") == Value.type "list" || Value.type (if b then "list" else "tuple") == Value.type "tuple")=true:=by
  have c:∀ b:Bool,(Value.type (if b then "list" else "tuple") == Value.type "list" || Value.type (if b then "list" else "tuple") == Value.type "tuple")=true:=by decide
  rw[Bool.or_assoc,c b,Bool.or_true]
 rw[if_pos yes]
 refine wpAny_bind (listItems_at e' d (wpAny_bind (listItems_at new rfl ?_)))
 rw[if_neg (by simp)]
 refine wpAny_bind (listUpdate_at new rfl (wpAny_pure ?_) (Nat.zero_le _) short)
 refine wpAny_bind (wpAny_load (get?_update_seq new _) ?_)
 have all:((#[]:Array Value)++vs.toArray).toList=vs:=by simp
 have fin:wpAny (model prog w) A (pure ((#[]:Array Value)++vs.toArray).toList) Q E { s with heap:=(s.heap.push (seqObj "list" #[] 0)).update s.heap.objs.size (Obj.mapSeq (·++vs.toArray)) }:=by
  rw[all];exact wpAny_pure (h _ (by rw[Heap.size_update,size_push'];exact Nat.le_succ _) old)
 exact fin
end
end Own
namespace L2
open PySem PySem.Spec PyProof.Rows Own
section
variable {X:Cx}
def tRev (K:PySem.W.Frag) (te:TE) (ts:TO):TE:=fun σ H Q=>te σ H fun x H1=>ts σ H1 fun o H2=>o=some (-1)∧∃ a xs,x=.ref a∧SqL K H2 a xs∧∀ p,H2 p=none→Q (.ref p) (upd H2 p (.lst xs.reverse))
theorem zjP {e st:Expr}{te:TE}{ts:TO}{p2 pos:Pos}(he:PE X e te) (hs:PO X (some st) ts):PE X (.Subscript e (.Slice none none (some st) p2) pos) (tRev X.K te ts):=by
 intro pins s σ H Q I h
 refine Subscript_ (thn (he pins s σ H _ I h) fun v s1 ⟨x,H1,I1,r1,q1⟩=>wpAny_Slice ?_)
 rw[evalPart_none]
 refine wpAny_pure (wpAny_pure (thn (hs pins s1 σ H1 _ I1 q1) fun vst s2 ⟨o,H2,I2,po,q2⟩=>?_))
 obtain⟨rfl,a,xs,rfl,hq,k⟩:=q2
 cases r1
 have I3:Inv X pins σ H2 { s2 with heap:=s2.heap.push { cls:=.type "slice",data:=.fields #[.none,.none,vst] } }:=I2.kept (t':=s2.toks) fun b ob q=>Heap.get?_push_of_some _ q
 obtain⟨its,r,ht,hz⟩:=I3.list hq
 have hlen:=r.length
 show wpAny (model X.prog X.w) X.A (subscriptTail e (.Slice none none (some st) p2) (.ref a) (.ref s2.heap.objs.size)) (EP X pins σ Q) X.xe { s2 with heap:=s2.heap.push { cls:=.type "slice",data:=.fields #[.none,.none,vst] } }
 refine tail_any (ops:=[.ref a,.ref s2.heap.objs.size]) ht.isList.typeIs slot_list_getitem.lookup (wpAny_getItem_list_slice ht.isList (Heap.IsSliceOf.new ..) .none .none po (by simp) ?_ (by rw[List.size_toArray]<;>lia)) (by with_unfolding_all rfl)
 rw[PySem.W.krv_pick]
 refine⟨.ref _,_,I3.laid (t':=s2.toks) (o:=.lst xs.reverse) (fun b ob q=>Heap.get?_push_of_some _ q) (Nat.le_refl _) ⟨by rw[List.length_reverse];exact hz,_,0,r.reverse,?_⟩,rfl,k _ (I3.hok.fresh (Nat.le_refl _))⟩
 exact Heap.get?_push_size _ rfl
end
section
variable {X:Cx}
end
theorem zdh {K:PySem.W.Frag}{a:Addr}{xs:List V}{g:TG}{te:TE}{l:Addr}{σ:St}{H:Hp}{Q:VK}(Pv:Nat→List V→St→Hp→Prop) (h0:Pv 0 [] σ H) (hl:∀ i acc σ H,Pv i acc σ H→H l=some (.lst acc)∧SqT K H a xs)
  (hs:∀ i x acc σ H,xs[i]?=some x→Pv i acc σ H→g x σ H fun σ3 H3=>te σ3 H3 fun y H5=>H5 l=some (.lst acc)∧acc.length<sizeLine∧Nx xs.length i (Pv (i+1) (acc++[y]) σ3 (upd H5 l (.lst (acc++[y])))))
  (hd:∀ acc σ H,Pv xs.length acc σ H→Q (.ref l) H):∃ W:Nat→Nat→List V→St→Hp→Prop,(∃ m,W 0 m [] σ H)∧LCW (Itt K a) g tYes te l Q W:=by
 refine⟨fun i m acc σ H=>m=xs.length-i∧i≤xs.length∧Pv i acc σ H,⟨_,rfl,Nat.zero_le _,h0⟩,?_⟩
 rintro i m acc σ H ⟨rfl,hi,p⟩
 obtain⟨q0,q1⟩:=hl i acc σ H p
 refine⟨q0,?_⟩
 by_cases hlt:i<xs.length
 ·refine .inr ⟨⟨xs,xs[i],q1,List.getElem?_eq_getElem hlt⟩,fun x H2 ⟨e,y⟩=>?_⟩
  subst e
  exact hs i x acc σ _ (y xs q1) p
 ·obtain rfl:i=xs.length:=by lia
  exact .inl ⟨⟨xs,q1,Nat.le_refl _⟩,hd acc σ H p⟩
theorem zgX {K:PySem.W.Frag}{a:Addr}{xs:List V}{g:TG}{te:TE}{l:Addr}{σ:St}{H:Hp}{Q:VK}(Pv:Nat→List V→St→Hp→Prop) (h0:Pv 0 [] σ H) (hl:∀ i acc σ H,Pv i acc σ H→H l=some (.lst acc)∧SqL K H a xs)
  (hs:∀ i x acc σ H,xs[i]?=some x→Pv i acc σ H→g x σ H fun σ3 H3=>te σ3 H3 fun y H5=>H5 l=some (.lst acc)∧acc.length<sizeLine∧Nx xs.length i (Pv (i+1) (acc++[y]) σ3 (upd H5 l (.lst (acc++[y])))))
  (hd:∀ acc σ H,Pv xs.length acc σ H→Q (.ref l) H):∃ W:Nat→Nat→List V→St→Hp→Prop,(∃ m,W 0 m [] σ H)∧LCW (Itl K a) g tYes te l Q W:=by
 refine⟨fun i m acc σ H=>m=xs.length-i∧i≤xs.length∧Pv i acc σ H,⟨_,rfl,Nat.zero_le _,h0⟩,?_⟩
 rintro i m acc σ H ⟨rfl,hi,p⟩
 obtain⟨q0,q1⟩:=hl i acc σ H p
 refine⟨q0,?_⟩
 by_cases hlt:i<xs.length
 ·refine .inr ⟨⟨xs,xs[i],q1,List.getElem?_eq_getElem hlt⟩,fun x H2 ⟨e,y⟩=>?_⟩
  subst e
  exact hs i x acc σ _ (y xs q1) p
 ·obtain rfl:i=xs.length:=by lia
  exact .inl ⟨⟨xs,q1,Nat.le_refl _⟩,hd acc σ H p⟩
end L2
namespace L2
open PySem PySem.Spec PyProof.Rows PySem.Calls PySem.NumText Own
theorem zeU {M:Model}{K:PySem.W.Frag}{h:Heap}(X:K.In h) (e:PySem.W.nsIn K cStatics "sys.int_max_str_digits" = some none):PySem.W.Looks M h Builtin.intMaxStrDigits 4300:=by
 show PySem.W.Looks M h (nsGet cStatics "sys.int_max_str_digits" >>= _) 4300
 exact(PySem.W.looks_nsIn X e).andThen .now
theorem zir {M:Model}{A:Around}{E:Value→Shared→Prop}{s:Shared}{Q:Value→Shared→Prop}{v:Value}{text:List Nat}{n:Int}
  (hl:PySem.W.Looks M s.heap Builtin.intMaxStrDigits 4300) (hs:¬(text.takeWhile (· != 0)).length≤640) (hr:(int_private% "readNumeral") 4300 10 (text.takeWhile (· != 0))=(int_private% "Numeral.value") n)
  (ha:((text.takeWhile (· != 0)).length == text.length)=true) (h:Q (.int n s.toks) { s with toks:=s.toks+1 }):wpAny M A ((int_private% "intFromText") v text 10) Q E s:=by
 cases s
 repeat (any_goals (first|assumption|(with_reducible refine wpAny_ite_false (decide_eq_false hs) ?_)|((with_reducible show wpAny _ _ Builtin.intMaxStrDigits _ _ _);refine PySem.W.Looks.at hl ?_)|wp_step))
 all_goals (try (rw[hr];dsimp only))
 repeat (any_goals (first|assumption|(with_reducible refine wpAny_ite_true (by rw[ha];rfl) ?_)|wp_step))
theorem zfL {K:PySem.W.Frag}{x:Str}{u:Tok}{n:Int}(e:PySem.W.nsIn K cStatics "sys.int_max_str_digits" = some none) (hl:x.length≤4300) (h6:¬(numSeenOf x).length≤640) (hn:intText? x=some n) :
  Meets (Builtin.«int.__new__» ⟨[.type "int",.str x u],[]⟩) (fun _ R s=>K.In s.heap∧R (.ok (.ret (.int n s.toks))) { s with toks:=s.toks+1 }) :=
 .of_wp fun prog w A R s h=>by
  cases s with
  | mk hp gs dr tk os =>
  obtain⟨KX,h⟩:=h
  have kinds:=And.intro PySem.W.KIN.str_int (And.intro PySem.W.KIN.str_idx PySem.W.KIN.str_trunc)
  obtain⟨k1,k2,k3⟩:=kinds
  have k4:=F.conv_sub_int;have k5:=F.madeHere_int
  have ofText:typeOf (.str x u)=pure (.type "str"):=rfl
  have lk:PySem.W.Looks (model prog w) hp Builtin.intMaxStrDigits 4300:=zeU KX e
  have rd:(int_private% "readNumeral") 4300 10 (numSeenOf x)=(int_private% "Numeral.value") n∧((numSeenOf x).length == (numTextOf x).length)=true:=by
   rcases read4300 x (Nat.le_trans hl (by decide)) with ⟨m,g1,g2,g3⟩|⟨g1,_⟩
   ·rw[hn]at g1;cases g1;exact⟨g3,g2⟩
   ·rw[hn]at g1;cases g1
  have all4:=PySem.W.KIN.Hid.mk (And.intro lk (And.intro h6 rd))
  clear lk h6 rd hl hn e KX
  repeat (any_goals (first|assumption|((with_reducible show wpAny _ _ ((int_private% "intFromText") _ _ _) _ _ _);refine zir all4.out.1 all4.out.2.1 all4.out.2.2.1 all4.out.2.2.2 ?_)|wp_step))
  all_goals (first|exact Exists.intro _ (And.intro rfl h)|skip)
section
variable {X:Cx}
theorem zet (e:PySem.W.nsIn X.K cStatics "sys.int_max_str_digits" = some none):CallR X (.type "int") (fun vs H Q=>∃ x:Str,vs=[.str x]∧AllDigits x.cps.toList∧640<x.length∧x.length≤4300∧Q (.int (digitsVal x.cps.toList:Nat)) H):=by
 intro pins s σ H vs us Q I rv h
 obtain⟨x,rfl,hd,h6,h43,q⟩:=h
 obtain⟨u,rfl,t,rfl⟩:=rv.one
 have xl:x.cps.toList.length=x.length:=by simp[Str.length]
 have ne:x.cps.toList≠[]:=fun z=>by rw[z]at xl;simp at xl;lia
 have hn:=intText_digits hd ne h43
 have seen:(numSeenOf x).length=x.length:=by
  rcases read4300 x (Nat.le_trans h43 (by decide)) with ⟨m,g1,g2,g3⟩|⟨g1,_⟩
  ·have a128:x.cps.all (· < 128)=true:=by
    rw[← Array.all_toList];refine List.all_eq_true.mpr fun c hc=>?_
    have:=(hd c hc).2
    exact decide_eq_true (show c<128 by lia)
   have g2':=eq_of_beq g2
   rw[g2']
   show (if x.cps.all (· < 128)=true then x.cps.toList else _).length=_
   rw[if_pos a128,xl]
  ·rw[hn]at g1;cases g1
 exact call_int_1 (zfL (K:=X.K) e h43 (by lia) hn) ⟨I.kIn,(typeIs_int _ _ _),.int _,H,I.tok _,⟨_,rfl⟩,q⟩
theorem ziU:OpR X (binaryOp .Mult) (fun x y H Q=>∃ (c:Nat) (n:Int),x=.str ⟨#[c]⟩∧y=.int n∧0≤n∧n≤100000∧∀ z:Str,z.cps.toList=List.replicate n.toNat c→Q (.str z) H):=by
 intro pins s σ H x y v u Q I rx ry h
 obtain⟨c,n,rfl,rfl,n0,n1,q⟩:=h
 obtain⟨t,rfl⟩:=rx
 obtain⟨t',rfl⟩:=ry
 have one:(⟨#[c]⟩:Str).length=1:=rfl
 refine PySem.P.mul_str (by rw[decide_eq_false (by lia),decide_eq_false (by lia)];rfl) (fun a b=>?_) (fun a b=>?_) ?_
 ·rw[one]
  have:(1:Int)≤(2 ^ 63-1) / n:=by
   rw[Int.le_ediv_iff_mul_le (by lia)];lia
  lia
 ·rw[one]
  exact decide_eq_false (by have:=sizeLine_eq;lia)
 ·by_cases a:n<1
  ·rw[if_pos a]
   have e:n=0:=by lia
   subst e
   exact⟨by decide,.str _,H,I.tok _,⟨_,rfl⟩,q _ rfl⟩
  ·rw[if_neg a]
   by_cases b:n=1
   ·subst b
    rw[if_pos (show ((1:Int) == 1 || (⟨#[c]⟩:Str).length == 0)=true from rfl)]
    exact⟨.str _,H,I,⟨_,rfl⟩,q _ rfl⟩
   ·have nb:¬(n == 1 || (⟨#[c]⟩:Str).length == 0)=true:=by simp[b,one]
    rw[if_neg nb]
    have lst:∀ (k:Nat) (acc:Array Nat),((List.replicate k #[c]).foldl (·++·) acc).toList=acc.toList++List.replicate k c:=fun k=>by
     induction k with
     | zero=>intro acc;simp
     | succ k ih=>intro acc;rw[List.replicate_succ,List.foldl_cons,ih,List.replicate_succ];simp
    have l0:=lst n.toNat #[]
    refine⟨?_,.str _,H,I.tok _,⟨_,rfl⟩,q _ (by rw[l0];rfl)⟩
    have ln:=congrArg List.length l0
    simp only[Array.length_toList,List.length_append,List.length_replicate]at ln
    show (Array.size _)≤sizeLine
    rw[ln]
    have:=sizeLine_eq
    simp
    lia
end
end L2
namespace L2
open PySem PySem.Spec PyProof.Rows Own
section
variable {prog:Program}{w:World}{A:Around}{E:Value→Shared→Prop}{s:Shared}
theorem ze0 {Q:List Value→Shared→Prop}{r:Addr}{a b c:Int}{t u v:Tok}{n:Nat}(hh:A.handled=none) (hr:IsRange s.heap r a b c t u v) (sm:Builtin.Range.small a b c=true) (hn:Builtin.Range.rangeSize a b c=n) (hlen:n≤2 ^ 24)
  (q:∀ (h':Heap) (tk:Nat) (acc:Array Value),(∀ b o,s.heap.get? b=some o→h'.get? b=some o)→ItemsOf (fun i v=>∃ t,v=.int (a+i*c) t) acc n→Q acc.toList { s with heap:=h',toks:=tk }):wpAny (model prog w) A (collect (.ref r)) Q E s:=by
 have key:∀ R:Result→Shared→Prop,(∀ (h':Heap) (tk:Nat) (acc:Array Value) (c':Nat),(∀ b o,s.heap.get? b=some o→h'.get? b=some o)→h'.get? s.heap.objs.size=some { cls:=.type "list",data:=.seq acc c' }→ItemsOf (fun i v=>∃ t,v=.int (a+i*c) t) acc n→R (.ok (.ret (.ref s.heap.objs.size))) { s with heap:=h',toks:=tk }) →
   codeAny (model prog w) A (.builtin "proto.collect" ⟨[.ref r],[]⟩) R s:=by
  intro R hR
  have u1:=fun z=>Around.under_plainId (A:=A) F.plain_proto_collect z
  have u2:=fun z=>Around.under_plainId (A:=A) F.plain_list_iadd z
  refine codeAny_builtin F.entry_proto_collect ?_
  rw[u1]
  refine wpAny_bind (m:=newList []) (wpAny_newObj_type (wpAny_pure ⟨plainId_quiet F.plain_list_iadd _,codeAny_builtin F.entry_list_iadd ?_⟩))
  rw[u2]
  have e0:(s.heap.push { cls:=.type "list",data:=.seq ([]:List Value).toArray }).get? s.heap.objs.size=some { cls:=.type "list",data:=.seq #[] 0 }:=Heap.get?_push_size _ rfl
  exact wpAny_extend_range (s:={ s with heap:=s.heap.push { cls:=.type "list",data:=.seq ([]:List Value).toArray } }) hh (Heap.get?_push_of_some _ hr) sm hn hlen s.heap.objs.size (.ref s.heap.objs.size) _ e0 fun h' tk acc' c' kk e it=>hR h' tk acc' c' (fun b o z=>kk b o (Nat.ne_of_lt (Heap.lt_size z)) (Heap.get?_push_of_some _ z)) e it
 unfold collect
 exact wpAny_bind (wpAny_runValue (key _ fun h' tk acc c' kk e it=>wpAny_bind (m:=load s.heap.objs.size) (wpAny_load e (wpAny_pure (q h' tk acc kk it)))))
theorem zdO (r:Addr) (a b c:Int) (t u v:Tok) (n:Nat) (sm:Builtin.Range.small a b c=true) (hn:Builtin.Range.rangeSize a b c=n) (hlen:n≤2 ^ 24) :
  Meets (Builtin.«tuple.__new__» ⟨[.type "tuple",.ref r],[]⟩) (fun A R s=>A.handled=none∧IsRange s.heap r a b c t u v∧∀ (h':Heap) (tk:Nat) (acc:Array Value),(∀ b o,s.heap.get? b=some o→h'.get? b=some o)→ItemsOf (fun i v=>∃ t,v=.int (a+i*c) t) acc n →
   R (.ok (.ret (.ref h'.objs.size))) { s with heap:=h'.push { cls:=.type "tuple",data:=.seq acc },toks:=tk }) :=
 .of_wp fun prog w A R s h=>by
  obtain⟨hh,hr,h⟩:=h
  have g1:=sub_tuple_self
  have g2:=init_tuple_lookup
  have g3:=madeHere_tuple
  have g4:s.TypeIs (.ref r) "range":=⟨_,hr,rfl⟩
  have g5:A.in1.handled=none:=hh
  wp_walk using wpAny_typeOf g4,ze0 g5 hr sm hn hlen
  intro h' tk acc kk it
  rw[show acc.toList.toArray=acc by simp]
  exact wpAny_bind (m:=Builtin.Tuple.tupleExact acc) (wpAny_newObj_type (wpAny_pure ⟨_,rfl,h h' tk acc kk it⟩) (by show acc.size≤sizeLine;rw[it.1,sizeLine_eq];exact hlen))
theorem zeq {Q:Value→Shared→Prop}{r:Addr}{a b c:Int}{t u v:Tok}{n:Nat}(hh:A.handled=none) (hr:IsRange s.heap r a b c t u v) (sm:Builtin.Range.small a b c=true) (hn:Builtin.Range.rangeSize a b c=n) (hlen:n≤2 ^ 24)
  (q:∀ (h':Heap) (tk:Nat) (acc:Array Value),(∀ b o,s.heap.get? b=some o→h'.get? b=some o)→ItemsOf (fun i v=>∃ t,v=.int (a+i*c) t) acc n→Q (.ref h'.objs.size) { s with heap:=h'.push { cls:=.type "tuple",data:=.seq acc },toks:=tk }) :
  wpAny (model prog w) A (call (.type "tuple") [.ref r]) Q E s :=
 callType_new F.called_tuple (by decide) (F.typeCall_tuple_1 _) (F.newCall_tuple_1 _) (fun obj=>F.args_object_init_2 obj _) F.entry_tuple_new (zdO r a b c t u v n sm hn hlen) ⟨hh,hr,fun h' tk acc kk it=>⟨⟨_,Heap.get?_push_size _ rfl,rfl⟩,q h' tk acc kk it⟩⟩
end
def upTo (n:Nat):List V:=(List.range n).map fun (i:Nat)=>V.int i
theorem zdv {acc:Array Value}{n:Nat}(h:ItemsOf (fun i v=>∃ t,v=Value.int (0+i*1) t) acc n):Vals (upTo n) acc.toList:=by
 obtain⟨h1,h2⟩:=h
 have go:∀ (l:List Value) (k:Nat),(∀ (j:Nat) (v:Value),l[j]?=some v→∃ t,v=Value.int ((k+j:Nat):Int) t)→Vals ((List.range l.length).map fun (i:Nat)=>V.int ((k+i:Nat):Int)) l:=by
  intro l
  induction l with
  | nil=>intro k _;exact .nil
  | cons x l ih =>
   intro k hx
   rw[List.length_cons,List.range_succ_eq_map,List.map_cons,List.map_map]
   refine .cons (by obtain⟨t,e⟩:=hx 0 x rfl;exact⟨t,e⟩) ?_
   have:=ih (k+1) fun j v hj=>by
    obtain⟨t,e⟩:=hx (j+1) v (by simpa using hj)
    exact⟨t,by rw[e];congr 1;lia⟩
   refine cast (congrArg (fun z=>Vals z l) (List.map_congr_left fun i _=>?_)) this
   show V.int ((k+1+i:Nat):Int)=V.int ((k+(i+1):Nat):Int)
   congr 2;lia
 have:=go acc.toList 0 fun j v hj=>by
  obtain⟨t,e⟩:=h2 j v (by simpa using hj)
  exact⟨t,by rw[e];congr 1;lia⟩
 rw[Array.length_toList,h1]at this
 unfold upTo
 refine cast (congrArg (fun z=>Vals z acc.toList) (List.map_congr_left fun i _=>?_)) this
 show V.int ((0+i:Nat):Int)=V.int (i:Int)
 rw[Nat.zero_add]
theorem zhr (n:Nat):(upTo n).length=n:=by simp[upTo]
section
variable {X:Cx}
def zjz (b:Bool) (ta:TA):TE:=fun σ H Q=>ta σ H fun vs H1=>∃ j:Nat,vs=[.int j]∧j≤100000∧∀ l,H1 l=none→Q (.ref l) (upd H1 l (if b=true then .lst (upTo j) else .tup (upTo j)))
theorem zhy {j:Nat}(h:j≤100000):Builtin.Range.small 0 (j:Int) 1=true:=small_one (by lia) (by lia) (by lia) (by lia)
theorem ziD {j:Nat}:Builtin.Range.rangeSize 0 (j:Int) 1=((j:Nat):Int):=by rw[rangeSize_one];split<;>lia
theorem zeg {a:Expr}{ta:TA}{p p2 pos pos2:Pos}(hc:X.calm=true) (hgl:Gl X "list") (hml:X.mg "list" = none) (hgr:Gl X "range") (hmr:X.mg "range" = none) (ha:PA X [a] ta) (hs:starEach [a] X.env=[(false,eval a X.env)]:=by rfl)
  (hs2:starEach [.Call (.Name "range" p2) [a] [] pos2] X.env=[(false,eval (.Call (.Name "range" p2) [a] [] pos2) X.env)]:=by rfl):PE X (.Call (.Name "list" p) [.Call (.Name "range" p2) [a] [] pos2] [] pos) (zjz true ta):=by
 intro pins s σ H Q I h
 refine wpAny_Call_Name_kw (zaR I hgl hml (u:=.type "list") (by rfl) (PyProof.Rows.callWith_type1 ?_ hs2 rfl))
 rw[hs2]
 refine Calls.spliced_cons (Call_ (zaR I hgr hmr boot_range (PyProof.Rows.callWith_type1 (thn (ha pos2 pins s σ H _ I h) fun us s1 ⟨vs,H1,I1,r1,q1⟩=>?_) hs rfl)))
 obtain⟨j,rfl,hj,q⟩:=q1
 obtain⟨u,rfl,t,rfl⟩:=r1.one
 refine call_range_1 (Calls.spliced_nil ?_)
 refine call_list_range (n:=j) (I1.ok.hd hc) (IsRange.new ..) (zhy hj) ziD (Nat.le_trans hj (by decide)) fun h' tk acc' c' kk e it=>?_
 have k2:∀ b o,s1.heap.get? b=some o→h'.get? b=some o:=fun b o z=>kk b o (Heap.get?_push_of_some _ z)
 refine⟨.ref _,_,I1.laid (t':=tk) (o:=.lst (upTo j)) k2 ?_ ⟨by rw[zhr];exact Nat.le_trans hj (by decide),acc'.toList,c',zdv it,by simpa using e⟩,rfl,q _ (I1.hok.fresh ?_)⟩
 all_goals (show s1.heap.objs.size≤(s1.heap.push _).objs.size;rw[Heap.size_push];exact Nat.le_succ _)
def insF (i:Nat) (y:Value):Array Value→Array Value:=fun xs=>(xs.extract 0 (if (i:Int)<0 then ((i:Int)+(xs.size:Int)).toNat else min (i:Int).toNat xs.size)).push y++xs.extract (if (i:Int)<0 then ((i:Int)+(xs.size:Int)).toNat else min (i:Int).toNat xs.size)
theorem zg3 (l:Addr) (its:List Value) (n i:Nat) (t:Tok) (y:Value) (h:i≤its.length) (hz:its.length<100000):Meets (Builtin.«list.insert» ⟨[.ref l,.int i t,y],[]⟩) (fun _ R s=>s.heap.get? l=some { cls:=.type "list",data:=.seq its.toArray n } ∧
  R (.ok (.ret .none)) { s with heap:=s.heap.update l (Obj.mapSeq (insF i y)),toks:=s.toks }):=by
 have fi:¬(!Builtin.List.listFitsIndex (i:Int))=true:=by rw[fitsIndex_both (by lia) (by lia)];exact Bool.false_ne_true
 have h2:its.toArray.size≤sizeLine:=by rw[List.size_toArray,sizeLine_eq];lia
 exact @AutoSeq1.list_insert_list_int_val_1 l its.toArray n (i:Int) t y fi h2
theorem zjl (its:List Value) (i:Nat) (y:Value) (h:i≤its.length):insF i y its.toArray=(its.take i++y::its.drop i).toArray:=by
 unfold insF
 have k1:(if (i:Int)<0 then ((i:Int)+(its.toArray.size:Int)).toNat else min (i:Int).toNat its.toArray.size)=i:=by
  rw[if_neg (by lia),Int.toNat_natCast,List.size_toArray];lia
 rw[k1]
 apply Array.ext'
 simp
 rw[List.take_of_length_le];simp
def ziP:V→List V→Hp→VK→Prop:=fun x vs H Q=>∃ l xs y,∃ i:Nat,x=.ref l∧vs=[.int i,y]∧H l=some (.lst xs)∧i≤xs.length∧xs.length<100000∧Q .non (upd H l (.lst (xs.take i++y::xs.drop i)))
theorem zgR:MtM X "list.insert" ziP:=by
 intro pins s σ H x vs v us Q I rx rv h
 obtain⟨l,xs,y,i,rfl,rfl,hH,hi,hz,q⟩:=h
 cases rx
 obtain⟨u1,u2,rfl,⟨t,rfl⟩,r2⟩:=rv.two
 obtain⟨z,its,n,r,hl,e⟩:=I.lstM hH
 refine call_meets F.slot_list_insert ⟨_,e,rfl⟩ F.entry_list_insert (F.args_list_insert_3 _ _ _) (@zg3 l its n i t u2 (by lia) (by lia)) ⟨e,?_⟩
 refine⟨.non,_,I.lset (its':=its.take i++u2::its.drop i) hH e (zjl its i u2 (by lia)) ((r.take i).append (.cons r2 (r.drop i))) ?_,rfl,q⟩
 rw[List.length_append,List.length_cons,List.length_take,List.length_drop,sizeLine_eq];lia
end
section
variable {prog:Program}{w:World}{A:Around}{E:Value→Shared→Prop}{s:Shared}
end
section
variable {X:Cx}
end
section
variable {X:Cx}
end
section
variable {X:Cx}
end
end L2
namespace Bn
open PySem L2 Own
def Tups (H H':Hp):Prop:=∀ a xs,H a=some (.tup xs)→H' a=some (.tup xs)
theorem Tups.trans {H H1 H2:Hp}(x:Tups H H1) (y:Tups H1 H2):Tups H H2:=fun a xs e=>y a xs (x a xs e)
theorem Tups.of {H H':Hp}(s:Same H H'):Tups H H':=fun a _ e=>s a _ e
theorem Tups.lst {H:Hp}{l:Addr}{xs ys:List V}(h:H l=some (.lst xs)):Tups H (upd H l (.lst ys)):=fun a zs e=>by
 rw[zag (by rintro rfl;rw[h]at e;cases e)];exact e
def But (l:Addr) (H H':Hp):Prop:=∀ b o,H b=some o→b≠l→H' b=some o
theorem But.trans {l:Addr}{H H1 H2:Hp}(x:But l H H1) (y:But l H1 H2):But l H H2:=fun b o e n=>y b o (x b o e n) n
theorem But.of {l:Addr}{H H1:Hp}(x:Same H H1):But l H H1:=fun b o e _=>x b o e
structure PkAt (H:Hp) (l:Addr):Prop where
 ex:∃ a b:Int,H l=some (.lst [.int a,.int b])∧0≤a∧0≤b∧b<2 ^ 31
theorem PkAt.keep {H H':Hp}{l:Addr}(S:PkAt H l) (s:Same H H'):PkAt H' l:=by
 obtain⟨a,b,h,r⟩:=S.ex
 exact⟨a,b,s _ _ h,r⟩
theorem PkAt.ne {H:Hp}{l p:Addr}(S:PkAt H l) (h:H p=none):l≠p:=by
 obtain⟨a,b,e,_⟩:=S.ex
 exact zad e h
theorem PkAt.upd {H:Hp}{l p:Addr}{o:HO}(S:PkAt H l) (h:l≠p):PkAt (upd H p o) l:=by
 obtain⟨a,b,e,r⟩:=S.ex
 exact⟨a,b,by rw[zag h];exact e,r⟩
theorem But.tups {H H':Hp}{l:Addr}(x:But l H H') (S:PkAt H l):Tups H H':=fun a xs e=>x a _ e (by
 rintro rfl
 obtain⟨_,_,z,_⟩:=S.ex
 rw[z]at e;cases e)
def Prs (H:Hp):List V→List (Nat × Nat)→Prop
 | [],[]=>True
 | p::ps,f::fs=>(∃ a,p=.ref a∧H a=some (.tup [.int f.1,.int f.2]))∧Prs H ps fs
 | _,_=>False
theorem Prs.tups {H H':Hp}(t:Tups H H'):∀ {ps:List V}{fs:List (Nat × Nat)},Prs H ps fs→Prs H' ps fs
 | [],[],_=>trivial
 | _::_,_::_,⟨⟨a,e,h⟩,r⟩=>⟨⟨a,e,t _ _ h⟩,r.tups t⟩
theorem Prs.len {H:Hp}:∀ {ps:List V}{fs:List (Nat × Nat)},Prs H ps fs→ps.length=fs.length
 | [],[],_=>rfl
 | _::_,_::_,⟨_,r⟩=>congrArg (· + 1) r.len
theorem Prs.add {H:Hp}{a:Addr}{f:Nat × Nat}(h:H a=some (.tup [.int f.1,.int f.2])):∀ {ps:List V}{fs:List (Nat × Nat)},Prs H ps fs→Prs H (ps++[.ref a]) (fs++[f])
 | [],[],_=>⟨⟨a,rfl,h⟩,trivial⟩
 | _::_,_::_,⟨x,r⟩=>⟨x,r.add h⟩
theorem Prs.get {H:Hp}:∀ {ps:List V}{fs:List (Nat × Nat)}{i:Nat}{p:V},Prs H ps fs→ps[i]?=some p→∃ a f,p=.ref a∧fs[i]?=some f∧H a=some (.tup [.int f.1,.int f.2])
 | [],[],_,_,_,e=>by simp at e
 | _::_,f::_,0,p,⟨⟨a,e1,h⟩,_⟩,e=>by
  have:_=p:=Option.some.inj e
  subst this
  exact⟨a,f,e1,rfl,h⟩
 | _::_,_::_,i+1,p,⟨_,r⟩,e=>r.get (i:=i) (by simpa using e)
structure Nt where
 lanes:Nat
 forks:List (Nat × Nat)
 ends:List Nat
structure Nt.Ok (N:Nt):Prop where
 l1:1≤N.lanes
 l16:N.lanes≤16
 fm:N.forks.length≤128
 fk:∀ f∈N.forks,f.1<N.lanes∧f.2<N.lanes∧f.1≠f.2
 en:N.ends.Perm (List.range N.lanes)
def nums (es:List Nat):List V:=es.map fun (e:Nat)=>V.int e
structure NetAt (H:Hp) (r fr er:Addr) (ps:List V) (N:Nt):Prop where
 net:H r=some (.tup [.int N.lanes,.ref fr,.ref er])
 forks:H fr=some (.tup ps)
 prs:Prs H ps N.forks
 ends:H er=some (.tup (nums N.ends))
theorem NetAt.tups {H H':Hp}{r fr er:Addr}{ps:List V}{N:Nt}(t:Tups H H') (h:NetAt H r fr er ps N):NetAt H' r fr er ps N:=⟨t _ _ h.net,t _ _ h.forks,h.prs.tups t,t _ _ h.ends⟩
theorem ze8 {xs:List Int}{i p:Nat}{a:Int}(h:p<xs.length):(xs.set i a).getD p 0=if i=p then a else xs.getD p 0:=by
 rw[List.getD_eq_getElem?_getD,List.getElem?_set]
 by_cases e:i=p
 ·subst e;simp[h]
 ·simp[e]
theorem zbH {N:Nt}(ok:N.Ok) {e:Nat}(h:e∈N.ends):e<N.lanes:=List.mem_range.mp (ok.en.mem_iff.mp h)
theorem zaH {N:Nt}(ok:N.Ok):N.ends.length=N.lanes:=by rw[ok.en.length_eq,List.length_range]
theorem zez {cs:List Int}{i:Nat}(h:i<cs.length):atI (cs.map V.int) ((i:Nat):Int)=some (.int (cs.getD i 0)):=by
 refine zaX ?_
 rw[List.getElem?_map,List.getD_eq_getElem?_getD,List.getElem?_eq_getElem h];rfl
theorem zh5 {α:Type}{xs:List α}{i:Nat}(h:i<xs.length):ixN xs.length ((i:Nat):Int)=some i:=by
 unfold ixN
 rw[if_pos (by lia),if_pos (by lia)];simp
theorem zcs (cs:List Int) (i:Nat) (a:Int):(cs.map V.int).set i (.int a)=(cs.set i a).map V.int:=by rw[List.map_set]
structure Mgs (mg:Str→Option Value):Prop where
 len:mg "len" = none
 range:mg "range" = none
 tuple:mg "tuple" = none
 enum:mg "enumerate" = none
 abs:mg "abs" = none
 zip:mg "zip" = none
 isi:mg "isinstance" = none
 all:mg "all" = none
 sum:mg "sum" = none
 bool:mg "bool" = none
 int:mg "int" = none
 str:mg "str" = none
 max:mg "max" = none
 min:mg "min" = none
 sorted:mg "sorted" = none
 list:mg "list" = none
structure Use (P:Program) (w:World) (K:PySem.W.Frag) (mg:Str→Option Value) (base:Heap) (x:Str) (ps:List Str) (k:Nat) (sp:Sp) (f:Addr) (fd:FuncData):Prop where
 ok:FnOk P w K mg base CX0 k f fd ps sp
 b:Binds K fd ps []
 kp:PySem.W.keepIn K (.ref f)=true
 m:mg x=some (.ref f)
def zge (K:PySem.W.Frag):Sp:=fun vs H Q _=>∃ (a:Addr) (ns:List Int) (k:Int),vs=[.ref a,.int k]∧SqL K H a (ns.map V.int)∧0≤k∧∀ x:Int,Q (.int x) H
def zgd (K:PySem.W.Frag):Sp:=fun vs H Q _=>∃ (a:Addr) (ns:List Int) (k:Int),vs=[.ref a,.int k]∧SqL K H a (ns.map V.int)∧ns.length≤63∧0≤k∧k≤1000∧∀ l H',H l=none→Same H H'→PkAt H' l→Q (.ref l) H'
def zcl:Sp:=fun vs H Q _=>∃ (l:Addr) (m:Int),vs=[.ref l,.int m]∧0<m∧m<1073741824∧PkAt H l∧∀ (v:Nat) H',(v:Int)<m→PkAt H' l→But l H H'→Q (.int v) H'
theorem zdJ {xs:List Nat}{v:Nat}(h:v<xs.length):∃ n,n∈xs∧atI (nums xs) ((v:Nat):Int)=some (.int n):=by
 refine⟨xs[v],List.getElem_mem h,zaX ?_⟩
 unfold nums
 rw[List.getElem?_map,List.getElem?_eq_getElem h];rfl
theorem zae (es:List Nat):(nums es).length=es.length:=by simp[nums]
theorem zhK {one d lanes:Nat}(h1:one<lanes) (h2:d+1<lanes):(one+1+d)%lanes<lanes∧one≠(one+1+d)%lanes:=by
 refine⟨Nat.mod_lt _ (by lia),fun e=>?_⟩
 by_cases z:one+1+d<lanes
 ·rw[Nat.mod_eq_of_lt z]at e;lia
 ·rw[Nat.mod_eq_sub_mod (by lia),Nat.mod_eq_of_lt (by lia)]at e;lia
theorem zh6 {es:List Nat}{i v:Nat}(h:es.Perm (List.range i)):(es.take v++i::es.drop v).Perm (List.range (i+1)):=by
 rw[List.range_succ]
 refine List.perm_middle.trans ?_
 rw[List.take_append_drop]
 exact(h.cons i).trans (List.perm_append_comm (l₁:=[i]) (l₂:=List.range i))
theorem zhV (es:List Nat) (v i:Nat):(nums es).take v++V.int (i:Int)::(nums es).drop v=nums (es.take v++i::es.drop v):=by
 unfold nums
 rw[List.map_append,List.map_cons,List.map_take,List.map_drop]
theorem zhL (k:Nat):0<PySem.NumText.digitsVal (49::List.replicate k 48):=by
 unfold PySem.NumText.digitsVal
 have go:∀ (k acc:Nat),0<acc→0<(List.replicate k 48).foldl (fun acc c=>acc*10+(c-48)) acc:=fun k=>by
  induction k with
  | zero=>intro acc h;exact h
  | succ k ih=>intro acc h;rw[List.replicate_succ,List.foldl_cons];exact ih _ (by lia)
 rw[List.foldl_cons]
 exact go k _ (by decide)
theorem zjc {z:Str}{k:Nat}(hz:z.cps.toList=List.replicate k 48):PySem.NumText.AllDigits ((("1":Str)++z).cps.toList)∧(("1":Str)++z).length=k+1∧0<PySem.NumText.digitsVal ((("1":Str)++z).cps.toList):=by
 have e:(("1":Str)++z).cps.toList=49::List.replicate k 48:=by
  show ((("1":Str).cps++z.cps).toList)=_
  rw[Array.toList_append,hz];rfl
 refine⟨?_,?_,?_⟩
 ·rw[e]
  intro c hc
  rcases List.mem_cons.mp hc with q|q
  ·lia
  ·have:=List.eq_of_mem_replicate q;lia
 ·have:=congrArg List.length e
  rw[Array.length_toList]at this
  show (("1":Str)++z).cps.size=k+1
  rw[this,List.length_cons,List.length_replicate]
 ·rw[e];exact zhL k
end Bn
namespace K93
open PySem L2 Own Bn
def top (i:Nat):Stmt:=PySem.Challenge.pw_stairlanes_k93_nets_by_plans.main.body.getD i (.Pass ⟨0,0,0,0⟩)
abbrev ziN:Stmt:=top 24
abbrev ziL:Stmt:=top 25
abbrev ziK:Stmt:=top 26
section
variable {P:Program}{w:World}{K:PySem.W.Frag}{mg:Str→Option Value}{base:Heap}
theorem scC:FnScope ["_law_script","_law_k"] ["_law_script","_law_k"] (zaf ziN):=⟨rfl,rfl,rfl,by decide +kernel,rfl,by decide +kernel,by decide +kernel⟩
theorem zi2 {f:Addr}{fd:FuncData}(F:Fun K "_law_cell_at" "_law_cell_at" ziN f fd) (G:Mgs mg):FnOk P w K mg base CX0 1 f fd ["_law_script","_law_k"] (zge K):=by
 refine F.ok scC (fun vs H Q E h=>?_) (fun cdv A outer s H vs Q E hr h=>?_)
 ·obtain⟨a,ns,k,rfl,_⟩:=h
  rfl
 obtain⟨a,ns,k,rfl,hS,k0,q⟩:=h
 refine⟨_,(@pss_cons _ _ _ _ _ (@zau _ _ _ _ _ _ _ _ (@pt_cmpR _ _ _ _ _ _ _ _ zgD (@pv _ 1 _ _ (by rfl) (by first|exact Or.inl rfl|exact Or.inr (.inl rfl)|exact Or.inr (.inr rfl)) (by decide) (by decide)) (@zaj _ _ _ _ _ _ _ _ _ zai (by rfl) G.len PySem.boot_len (@pa_cons _ _ _ _ _ (@pv _ 0 _ _ (by rfl) (by first|exact Or.inl rfl|exact Or.inr (.inl rfl)|exact Or.inr (.inr rfl)) (by decide) (by decide)) pa_nil (by rfl)) (by decide) (by decide) (by rfl) (by rfl)) (nomark _)) (@pss_one _ _ _ (@ps_ret _ _ _ _ (@pe_ix _ _ _ _ _ _ _ ix_list (@pv _ 0 _ _ (by rfl) (by first|exact Or.inl rfl|exact Or.inr (.inl rfl)|exact Or.inr (.inr rfl)) (by decide) (by decide)) (@pv _ 1 _ _ (by rfl) (by first|exact Or.inl rfl|exact Or.inr (.inl rfl)|exact Or.inr (.inr rfl)) (by decide) (by decide)) (fun _ _=>rfl)))) pss_nil) (@pss_one _ _ _ (@ps_ret _ _ _ _ pe_int))),?_⟩
 refine⟨_,rfl,_,rfl,a,_,rfl,.inl hS,_,_,rfl,rfl,_,rfl,ite2 (fun z=>?_) (fun z=>?_)⟩
 ·obtain⟨j,rfl⟩:=Int.eq_ofNat_of_zero_le k0
  have hj:j<ns.length:=by have:=of_decide_eq_true z;rw[List.length_map]at this;lia
  exact⟨_,rfl,_,rfl,a,_,_,_,rfl,rfl,hS,zez hj,q _⟩
 ·exact q 0
theorem scK:FnScope ["_law_left_here","_law_many","_law_digit"] ["_law_left_here","_law_many"] (zaf ziK):=⟨rfl,rfl,rfl,by decide +kernel,rfl,by decide +kernel,by decide +kernel⟩
theorem ziZ {f:Addr}{fd:FuncData}(F:Fun K "_law_pick" "_law_pick" ziK f fd):FnOk P w K mg base CX0 1 f fd ["_law_left_here","_law_many"] zcl:=by
 refine F.ok scK (fun vs H Q E h=>?_) (fun cdv A outer s H vs Q E hr h=>?_)
 ·obtain⟨l,m,rfl,_⟩:=h
  rfl
 obtain⟨l,m,rfl,m0,m1,S,k⟩:=h
 obtain⟨a,b,hl,a0,b0,b1⟩:=S.ex
 refine⟨_,(@pss_cons _ _ _ _ _ (@zau _ _ _ _ _ _ _ _ (@pt_cmpR _ _ _ _ _ _ _ _ zdL (@pe_ix _ _ _ _ _ _ _ ix_list (@pv _ 0 _ _ (by rfl) (by first|exact Or.inl rfl|exact Or.inr (.inl rfl)|exact Or.inr (.inr rfl)) (by decide) (by decide)) pe_int (fun _ _=>rfl)) pe_int (nomark _)) (@pss_cons _ _ _ _ _ (@zak _ _ 2 _ _ _ _ scK.nd rfl (.inl rfl) (@pe_op _ _ _ _ _ _ _ _ op_mod (@pe_ix _ _ _ _ _ _ _ ix_list (@pv _ 0 _ _ (by rfl) (by first|exact Or.inl rfl|exact Or.inr (.inl rfl)|exact Or.inr (.inr rfl)) (by decide) (by decide)) pe_int (fun _ _=>rfl)) (@pv _ 1 _ _ (by rfl) (by first|exact Or.inl rfl|exact Or.inr (.inl rfl)|exact Or.inr (.inr rfl)) (by decide) (by decide))) (by rfl) (by first|exact .inl rfl|exact .inr rfl|assumption)) (@pss_cons _ _ _ _ _ (@ps_asg _ _ _ _ _ _ (@pe_op _ _ _ _ _ _ _ _ zar (@pe_ix _ _ _ _ _ _ _ ix_list (@pv _ 0 _ _ (by rfl) (by first|exact Or.inl rfl|exact Or.inr (.inl rfl)|exact Or.inr (.inr rfl)) (by decide) (by decide)) pe_int (fun _ _=>rfl)) (@pv _ 1 _ _ (by rfl) (by first|exact Or.inl rfl|exact Or.inr (.inl rfl)|exact Or.inr (.inr rfl)) (by decide) (by decide))) (@pg_sub _ _ _ _ _ _ _ (@pv _ 0 _ _ (by rfl) (by first|exact Or.inl rfl|exact Or.inr (.inl rfl)|exact Or.inr (.inr rfl)) (by decide) (by decide)) pe_int set_list (by intro _;rfl)) (by rfl) (by rfl) (by rfl)) (@pss_one _ _ _ (@ps_ret _ _ _ _ (@pv _ 2 _ _ (by rfl) (by first|exact Or.inl rfl|exact Or.inr (.inl rfl)|exact Or.inr (.inr rfl)) (by decide) (by decide)))))) pss_nil) (@pss_cons _ _ _ _ _ (@ps_asg _ _ _ _ _ _ (@pe_op _ _ _ _ _ _ _ _ op_mod (@pe_op _ _ _ _ _ _ _ _ op_add (@pe_op _ _ _ _ _ _ _ _ op_mul (@pe_ix _ _ _ _ _ _ _ ix_list (@pv _ 0 _ _ (by rfl) (by first|exact Or.inl rfl|exact Or.inr (.inl rfl)|exact Or.inr (.inr rfl)) (by decide) (by decide)) pe_int (fun _ _=>rfl)) pe_int) pe_int) pe_int) (@pg_sub _ _ _ _ _ _ _ (@pv _ 0 _ _ (by rfl) (by first|exact Or.inl rfl|exact Or.inr (.inl rfl)|exact Or.inr (.inr rfl)) (by decide) (by decide)) pe_int set_list (by intro _;rfl)) (by rfl) (by rfl) (by rfl)) (@pss_one _ _ _ (@ps_ret _ _ _ _ (@pe_op _ _ _ _ _ _ _ _ op_mod (@pe_op _ _ _ _ _ _ _ _ op_mod (@pe_op _ _ _ _ _ _ _ _ op_mul (@pe_ix _ _ _ _ _ _ _ ix_list (@pv _ 0 _ _ (by rfl) (by first|exact Or.inl rfl|exact Or.inr (.inl rfl)|exact Or.inr (.inr rfl)) (by decide) (by decide)) pe_int (fun _ _=>rfl)) (@pe_ix _ _ _ _ _ _ _ ix_list (@pv _ 0 _ _ (by rfl) (by first|exact Or.inl rfl|exact Or.inr (.inl rfl)|exact Or.inr (.inr rfl)) (by decide) (by decide)) pe_int (fun _ _=>rfl))) pe_int) (@pv _ 1 _ _ (by rfl) (by first|exact Or.inl rfl|exact Or.inr (.inl rfl)|exact Or.inr (.inr rfl)) (by decide) (by decide))))))),?_⟩
 have fin:∀ (x:Int) (H':Hp),0≤x→x<m→PkAt H' l→But l H H'→Q (.int x) H':=fun x H' x0 x1 S' B'=>by
  obtain⟨v,rfl⟩:=Int.eq_ofNat_of_zero_le x0
  exact k v H' x1 S' B'
 refine⟨_,rfl,l,_,_,_,rfl,rfl,SqL.of hl,rfl,_,_,rfl,rfl,_,rfl,ite2 (fun q=>?_) (fun q=>?_)⟩
 ·refine⟨_,rfl,l,_,_,_,rfl,rfl,SqL.of hl,rfl,_,rfl,_,_,rfl,rfl,m0,?_⟩
  refine⟨_,rfl,l,_,_,_,rfl,rfl,SqL.of hl,rfl,_,rfl,_,_,rfl,rfl,⟨m0,m1⟩,_,rfl,l,_,_,0,rfl,rfl,hl,rfl,_,rfl,?_⟩
  exact fin _ _ (Int.emod_nonneg _ (by lia)) (Int.emod_lt_of_pos _ m0) ⟨a / m,b,zac,Int.ediv_nonneg a0 (by lia),b0,b1⟩ fun x o e ne=>by rw[zag ne];exact e
 ·refine⟨_,rfl,l,_,_,_,rfl,rfl,SqL.of hl,rfl,_,_,rfl,rfl,.inr ⟨by decide,by decide⟩,_,_,rfl,rfl,_,_,rfl,rfl,(by show (0:Int)<2147483647;decide),_,rfl,l,_,_,1,rfl,rfl,hl,rfl,?_⟩
  have g0:0≤(b*48271+12345)%2147483647:=Int.emod_nonneg _ (by decide)
  have g1:(b*48271+12345)%2147483647<2147483647:=Int.emod_lt_of_pos _ (by decide)
  generalize hH:upd H l (HO.lst ([V.int a,V.int b].set 1 (V.int ((b*48271+12345)%2147483647))))=H1
  have h1:H1 l=some (.lst [.int a,.int ((b*48271+12345)%2147483647)]):=by rw[← hH];exact zac
  refine⟨_,rfl,l,_,_,_,rfl,rfl,SqL.of h1,rfl,_,rfl,l,_,_,_,rfl,rfl,SqL.of h1,rfl,_,_,rfl,rfl,.inl ⟨by lia,by lia⟩,_,_,rfl,rfl,(by show (0:Int)<1999999973;decide),_,rfl,_,_,rfl,rfl,m0,?_⟩
  exact fin _ _ (Int.emod_nonneg _ (by lia)) (Int.emod_lt_of_pos _ m0) ⟨a,_,h1,a0,g0,by lia⟩ fun x o e ne=>by rw[← hH,zag ne];exact e
theorem scL:FnScope ["_law_script","_law_k","_law_cell","_law_seed"] ["_law_script","_law_k"] (zaf ziL):=⟨rfl,rfl,rfl,by decide +kernel,rfl,by decide +kernel,by decide +kernel⟩
theorem zi0 {f fC:Addr}{fd dC:FuncData}(F:Fun K "_law_left" "_law_left" ziL f fd) (G:Mgs mg) (zd:PySem.W.nsIn K cStatics "sys.int_max_str_digits" = some none) (UC:Use P w K mg base "_law_cell_at" ["_law_script","_law_k"] 1 (zge K) fC dC):FnOk P w K mg base CX0 2 f fd ["_law_script","_law_k"] (zgd K):=by
 refine F.ok scL (fun vs H Q E h=>?_) (fun cdv A outer s H vs Q E hr h=>?_)
 ·obtain⟨a,ns,k,rfl,_⟩:=h
  rfl
 obtain⟨a,ns,k,rfl,hS,h63,k0,k1,q⟩:=h
 refine⟨_,(@pss_cons _ _ _ _ _ (@zak _ _ 2 _ _ _ _ scL.nd rfl (.inl rfl) (@pe_call _ _ _ _ _ _ _ _ _ _ _ _ _ _ _ _ UC.ok hr (by rfl) UC.m UC.kp UC.b .nil pass0 (@pa_cons _ _ _ _ _ (@pv _ 0 _ _ (by rfl) (by first|exact Or.inl rfl|exact Or.inr (.inl rfl)|exact Or.inr (.inr rfl)) (by decide) (by decide)) (@pa_cons _ _ _ _ _ (@pe_op _ _ _ _ _ _ _ _ op_mod (@pv _ 1 _ _ (by rfl) (by first|exact Or.inl rfl|exact Or.inr (.inl rfl)|exact Or.inr (.inr rfl)) (by decide) (by decide)) (@zaj _ _ _ _ _ _ _ _ _ (zb7 rfl) (by rfl) G.max (by rfl) (@pa_cons _ _ _ _ _ pe_int (@pa_cons _ _ _ _ _ (@zaj _ _ _ _ _ _ _ _ _ zai (by rfl) G.len PySem.boot_len (@pa_cons _ _ _ _ _ (@pv _ 0 _ _ (by rfl) (by first|exact Or.inl rfl|exact Or.inr (.inl rfl)|exact Or.inr (.inr rfl)) (by decide) (by decide)) pa_nil (by rfl)) (by decide) (by decide) (by rfl) (by rfl)) pa_nil (by rfl)) (by rfl)) (by decide) (by decide) (by rfl) (by rfl))) pa_nil (by rfl)) (by rfl)) (by decide) (by rfl) (by rfl)) (by rfl) (by first|exact .inl rfl|exact .inr rfl|assumption)) (@pss_cons _ _ _ _ _ (@zak _ _ 3 _ _ _ _ scL.nd rfl (.inl rfl) (@pe_op _ _ _ _ _ _ _ _ op_mod (@pe_op _ _ _ _ _ _ _ _ op_mul (@pe_op _ _ _ _ _ _ _ _ op_add (@pe_op _ _ _ _ _ _ _ _ op_add (@pe_op _ _ _ _ _ _ _ _ op_mod (@pv _ 2 _ _ (by rfl) (by first|exact Or.inl rfl|exact Or.inr (.inl rfl)|exact Or.inr (.inr rfl)) (by decide) (by decide)) pe_int) (@pe_op _ _ _ _ _ _ _ _ op_mul (@pe_op _ _ _ _ _ _ _ _ op_mul pe_int (@pv _ 1 _ _ (by rfl) (by first|exact Or.inl rfl|exact Or.inr (.inl rfl)|exact Or.inr (.inr rfl)) (by decide) (by decide))) (@pv _ 1 _ _ (by rfl) (by first|exact Or.inl rfl|exact Or.inr (.inl rfl)|exact Or.inr (.inr rfl)) (by decide) (by decide)))) pe_int) pe_int) pe_int) (by rfl) (by first|exact .inl rfl|exact .inr rfl|assumption)) (@pss_one _ _ _ (@ps_ret _ _ _ _ (@zay _ _ _ _ (@pa_cons _ _ _ _ _ (@pe_op _ _ _ _ _ _ _ _ op_mod (@pe_op _ _ _ _ _ _ _ _ op_mul (@pv _ 2 _ _ (by rfl) (by first|exact Or.inl rfl|exact Or.inr (.inl rfl)|exact Or.inr (.inr rfl)) (by decide) (by decide)) (@pe_callTy _ _ _ _ _ _ _ _ _ zeu (by rfl) G.int (by rfl) (@pa_cons _ _ _ _ _ (@pe_cmpR _ _ _ _ _ _ _ _ ziW (@pv _ 2 _ _ (by rfl) (by first|exact Or.inl rfl|exact Or.inr (.inl rfl)|exact Or.inr (.inr rfl)) (by decide) (by decide)) (@pe_op _ _ _ _ _ _ _ _ zjU pe_int pe_int) (nomark _)) pa_nil (by rfl)) (by decide) (by decide) (by rfl) (by rfl))) (@pe_callTy _ _ _ _ _ _ _ _ _ (zet zd) (by rfl) G.int (by rfl) (@pa_cons _ _ _ _ _ (@pe_op _ _ _ _ _ _ _ _ zfE pe_str (@pe_op _ _ _ _ _ _ _ _ ziU pe_str pe_int)) pa_nil (by rfl)) (by decide) (by decide) (by rfl) (by rfl))) (@pa_cons _ _ _ _ _ (@pv _ 3 _ _ (by rfl) (by first|exact Or.inl rfl|exact Or.inr (.inl rfl)|exact Or.inr (.inr rfl)) (by decide) (by decide)) pa_nil (by rfl)) (by rfl))))))),?_⟩
 refine⟨_,rfl,_,rfl,_,rfl,a,_,rfl,.inl hS,_,_,rfl,_,_,rfl,rfl,?_,?_⟩
 ·split<;>lia
 refine⟨a,ns,_,rfl,hS,Int.emod_nonneg _ (by split<;>lia),fun x=>?_⟩
 refine⟨_,rfl,_,_,rfl,rfl,(by show (0:Int)<2147483629;decide),_,rfl,_,_,rfl,rfl,.inl ⟨by decide,by decide⟩,_,rfl,_,_,rfl,rfl,.inr ⟨by lia,by lia⟩,_,_,rfl,rfl,_,_,rfl,rfl,_,_,rfl,rfl,.inr ⟨by decide,by decide⟩,_,_,rfl,rfl,(by show (0:Int)<2147483647;decide),?_⟩
 have g0:=Int.emod_nonneg ((x%2147483629+7919*k*k+11)*48271) (show (2147483647:Int)≠0 by decide)
 have g1:=Int.emod_lt_of_pos ((x%2147483629+7919*k*k+11)*48271) (show (0:Int)<2147483647 by decide)
 refine⟨_,rfl,_,rfl,_,_,rfl,rfl,⟨by decide,by decide,by decide⟩,_,_,rfl,rfl,.inr ⟨_,rfl,_,_,rfl,rfl,.inr ?_,?_⟩⟩
 ·split<;>exact⟨by decide,by decide⟩
 refine⟨48,4000,rfl,rfl,by decide,by decide,fun z hz=>?_⟩
 obtain⟨d1,d2,d3⟩:=zjc hz
 have zl:z.length=4000:=by
  have:=congrArg List.length hz
  rw[Array.length_toList,List.length_replicate]at this
  exact this
 refine⟨_,_,rfl,rfl,by rw[zl];decide,_,rfl,d1,by lia,by lia,_,_,rfl,rfl,by lia,_,rfl,(by show 2≤sizeLine;decide),fun l hl=>?_⟩
 exact q l _ hl (zaa hl _) ⟨_,_,zac,Int.emod_nonneg _ (by lia),g0,by lia⟩
end
end K93
namespace Bn
open PySem L2 Own
def nm (ns:List Nat) (i:Nat):Nat:=ns.getD i 0
section
variable {ns:List Nat}{n:Nat}(pm:ns.Perm (List.range n))
include pm
end
def ren (ns:List Nat) (f:Nat × Nat):Nat × Nat:=(nm ns f.1,nm ns f.2)
def Nt.ren (N:Nt) (ns:List Nat):Nt:=⟨N.lanes,N.forks.map (Bn.ren ns),N.ends.map (nm ns)⟩
def Nt.again (N:Nt) (f:Nat × Nat):Nt:=⟨N.lanes,N.forks++[f],N.ends⟩
def big (x y:Int):Int:=if y > x then y else x
theorem zky (x y:Int):x≤big x y:=by unfold big;split<;>lia
theorem zkx (x y:Int):y≤big x y:=by unfold big;split<;>lia
def zbg (st:List Int × List Int) (f:Nat × Nat):List Int × List Int :=
 ((st.1.set f.1 (1+big (st.1.getD f.1 0) (st.1.getD f.2 0))).set f.2 (1+big (st.1.getD f.1 0) (st.1.getD f.2 0)),st.2++[1+big (st.1.getD f.1 0) (st.1.getD f.2 0)])
def lay (n:Nat) (fs:List (Nat × Nat)):List Int × List Int:=fs.foldl zbg (List.replicate n 0,[])
theorem zdR {n:Nat}{fs:List (Nat × Nat)}{i:Nat}{f:Nat × Nat}(h:fs[i]?=some f):lay n (fs.take (i+1))=zbg (lay n (fs.take i)) f:=by
 have w:=List.getElem?_eq_some_iff.mp h
 rw[List.take_succ_eq_append_getElem w.1,w.2]
 unfold lay
 rw[List.foldl_append];rfl
theorem zcv {n:Nat}:∀ (i:Nat) (fs:List (Nat × Nat)),i≤fs.length→(lay n (fs.take i)).1.length=n∧(lay n (fs.take i)).2.length=i
 | 0,fs,_=>by simp[lay]
 | i+1,fs,h=>by
  have ih:=zcv (n:=n) i fs (by lia)
  rw[zdR (List.getElem?_eq_getElem (by lia))]
  unfold zbg
  simp[ih.1,ih.2]
def zbb (g f:Nat × Nat):Bool:=decide (g.1=f.1∨g.1=f.2) || decide (g.2=f.1∨g.2=f.2)
def zkA (fs:List (Nat × Nat)) (fo:List Int) (f:Nat × Nat) (i:Nat):List Int:=((List.range i).filter fun j=>zbb (fs.getD j (0,0)) f).map fun j=>fo.getD j 0
def zdi (N:Nt):List Int:=(lay N.lanes N.forks).2
theorem zfN (N:Nt):(zdi N).length=N.forks.length:=by
 have:=(zcv (n:=N.lanes) N.forks.length N.forks (Nat.le_refl _)).2
 rwa [List.take_length]at this
abbrev Fk:=Nat × Nat
inductive Sw {α:Type}:List (α × Fk)→List (α × Fk)→Prop where
 | refl (l:List (α × Fk)):Sw l l
 | swap (pre:List (α × Fk)) (x y:α × Fk) (post:List (α × Fk)) (h:zbb x.2 y.2=false):Sw (pre++x::y::post) (pre++y::x::post)
 | trans {a b c:List (α × Fk)}(h:Sw a b) (g:Sw b c):Sw a c
theorem Sw.cons {α:Type}(x:α × Fk) {a b:List (α × Fk)}(h:Sw a b):Sw (x::a) (x::b):=by
 induction h with
 | refl l=>exact .refl _
 | swap pre u v post h=>exact .swap (x::pre) u v post h
 | trans _ _ ih1 ih2=>exact .trans ih1 ih2
theorem Sw.perm {α:Type}{a b:List (α × Fk)}(h:Sw a b):b.Perm a:=by
 induction h with
 | refl l=>exact .refl _
 | swap pre u v post h=>exact List.Perm.append_left pre (List.Perm.swap u v post)
 | trans _ _ ih1 ih2=>exact ih2.trans ih1
theorem Sw.map {α β:Type}(g:α→β) {a b:List (α × Fk)}(h:Sw a b):Sw (a.map fun x=>(g x.1,x.2)) (b.map fun x=>(g x.1,x.2)):=by
 induction h with
 | refl l=>exact .refl _
 | swap pre u v post h =>
  rw[List.map_append,List.map_append]
  exact .swap _ (g u.1,u.2) (g v.1,v.2) _ h
 | trans _ _ ih1 ih2=>exact .trans ih1 ih2
def run {σ α:Type}(step:σ→Fk→σ × α):σ→List Fk→σ × List (α × Fk)
 | s,[]=>(s,[])
 | s,f::fs=>((run step (step s f).1 fs).1,((step s f).2,f)::(run step (step s f).1 fs).2)
theorem zd8 {σ α:Type}(step:σ→Fk→σ × α):∀ (s:σ) (fs:List Fk),(run step s fs).2.map Prod.snd=fs
 | _,[]=>rfl
 | s,f::fs=>by
  show f::((run step (step s f).1 fs).2.map Prod.snd)=f::fs
  rw[zd8 step]
def Commutes {σ α:Type}(step:σ→Fk→σ × α):Prop:=∀ s f g,zbb f g=false→(step (step s f).1 g).1=(step (step s g).1 f).1∧(step (step s f).1 g).2=(step s g).2∧(step (step s g).1 f).2=(step s f).2
theorem zjF {σ α:Type}{step:σ→Fk→σ × α}(C:Commutes step) {a b:List (α × Fk)}(h:Sw a b):∀ s,(run step s (a.map Prod.snd)).2=a→(run step s (b.map Prod.snd)).2=b∧(run step s (b.map Prod.snd)).1=(run step s (a.map Prod.snd)).1:=by
 induction h with
 | refl l=>exact fun s e=>⟨e,rfl⟩
 | swap pre x y post hm =>
  induction pre with
  | nil =>
   intro s e
   obtain⟨x1,x2⟩:=x
   obtain⟨y1,y2⟩:=y
   obtain⟨c1,c2,c3⟩:=C s x2 y2 hm
   simp only[List.nil_append,List.map_cons,run]at e ⊢
   obtain⟨e1,e2⟩:=List.cons.inj e
   obtain⟨e3,e4⟩:=List.cons.inj e2
   have f1:=(Prod.mk.inj e1).1
   have f3:=(Prod.mk.inj e3).1
   rw[← c1,c3,f1,e4,← c2,f3]
   exact⟨rfl,rfl⟩
  | cons z pre ih =>
   intro s e
   obtain⟨z1,z2⟩:=z
   simp only[List.cons_append,List.map_cons,run]at e ⊢
   obtain⟨e1,e2⟩:=List.cons.inj e
   obtain⟨i1,i2⟩:=ih _ e2
   rw[i1,i2,e1]
   exact⟨rfl,rfl⟩
 | trans _ _ ih1 ih2 =>
  intro s e
  obtain⟨a1,a2⟩:=ih1 s e
  obtain⟨b1,b2⟩:=ih2 s a1
  exact⟨b1,b2.trans a2⟩
theorem zdP {f g:Fk}(h:zbb f g=false):f.1≠g.1∧f.1≠g.2∧f.2≠g.1∧f.2≠g.2:=by
 unfold zbb at h
 rw[Bool.or_eq_false_iff,decide_eq_false_iff_not,decide_eq_false_iff_not]at h
 lia
theorem zaO {l:List Int}{i j:Nat}{x:Int}(h:i≠j):(l.set i x).getD j 0=l.getD j 0:=by
 rw[List.getD_eq_getElem?_getD,List.getElem?_set_ne h,← List.getD_eq_getElem?_getD]
theorem set4 (l:List Int) {a b c d:Nat}{x y z w:Int}(h1:a≠c) (h2:a≠d) (h3:b≠c) (h4:b≠d):(((l.set a x).set b y).set c z).set d w=(((l.set c z).set d w).set a x).set b y:=by
 rw[List.set_comm _ _ h3,List.set_comm _ _ h1,List.set_comm _ _ h4,List.set_comm _ _ h2]
def layS (re:List Int) (f:Fk):List Int × Int:=((re.set f.1 (1+big (re.getD f.1 0) (re.getD f.2 0))).set f.2 (1+big (re.getD f.1 0) (re.getD f.2 0)),1+big (re.getD f.1 0) (re.getD f.2 0))
theorem zh3:Commutes layS:=fun s f g h=>by
 obtain⟨h1,h2,h3,h4⟩:=zdP h
 unfold layS
 simp only[zaO h1,zaO h2,zaO h3,zaO h4,zaO h1.symm,zaO h2.symm,zaO h3.symm,zaO h4.symm]
 exact⟨set4 _ h1 h2 h3 h4,trivial,trivial⟩
theorem zgY:∀ (fs:List Fk) (re fo:List Int),fs.foldl zbg (re,fo)=((run layS re fs).1,fo++(run layS re fs).2.map Prod.fst)
 | [],re,fo=>by
  show (re,fo)=(re,fo++[])
  rw[List.append_nil]
 | f::fs,re,fo=>by
  rw[List.foldl_cons]
  show fs.foldl zbg ((layS re f).1,fo++[(layS re f).2])=_
  rw[zgY fs]
  show (_,fo++[(layS re f).2]++_)=(_,fo++((layS re f).2::_))
  rw[List.append_assoc];rfl
def pz (N:Nt):List (Int × Fk):=(run layS (List.replicate N.lanes 0) N.forks).2
theorem zgu (N:Nt):(pz N).map Prod.fst=zdi N:=by
 unfold zdi lay pz
 rw[zgY];rfl
theorem zbe (N:Nt):(pz N).map Prod.snd=N.forks:=zd8 _ _ _
theorem zgt:∀ (fs:List Fk) (re:List Int),(∀ f∈fs,f.1<re.length∧f.2<re.length)→(∀ y∈(run layS re fs).2,re.getD y.2.1 0<y.1∧re.getD y.2.2 0<y.1)∧(run layS re fs).2.Pairwise fun x y=>zbb x.2 y.2=true→x.1<y.1
 | [],re,_=>⟨fun y hy=>by simp[run]at hy,List.Pairwise.nil⟩
 | f::fs,re,ok=>by
  have okf:=ok f List.mem_cons_self
  obtain⟨i1,i2⟩:=zgt fs (layS re f).1 fun g hg=>by
   have:=ok g (List.mem_cons_of_mem _ hg)
   unfold layS
   simpa using this
  have gl:=zky (re.getD f.1 0) (re.getD f.2 0)
  have gr:=zkx (re.getD f.1 0) (re.getD f.2 0)
  have st:∀ lane,(layS re f).1.getD lane 0=if f.2=lane then (layS re f).2 else if f.1=lane then (layS re f).2 else re.getD lane 0:=fun lane=>by
   by_cases hl:lane<re.length
   ·unfold layS
    rw[ze8 (by simp[hl]),ze8 hl]
   ·have n1:f.2≠lane:=by lia
    have n2:f.1≠lane:=by lia
    rw[if_neg n1,if_neg n2]
    unfold layS
    rw[zaO n1,zaO n2]
  have m1:(layS re f).2=1+big (re.getD f.1 0) (re.getD f.2 0):=rfl
  have up:∀ lane,re.getD lane 0≤(layS re f).1.getD lane 0:=fun lane=>by
   rw[st lane]
   split
   ·next h=>subst h;lia
   ·split
    ·next h=>subst h;lia
    ·exact Int.le_refl _
  refine⟨fun y hy=>?_,List.pairwise_cons.mpr ⟨fun y hy hm=>?_,i2⟩⟩
  ·rcases List.mem_cons.mp hy with rfl|hy2
   ·show re.getD f.1 0<(layS re f).2∧re.getD f.2 0<(layS re f).2
    lia
   ·have:=i1 y hy2
    have a:=up y.2.1
    have b:=up y.2.2
    lia
  ·show (layS re f).2<y.1
   have hy2:=i1 y hy
   rw[st,st]at hy2
   unfold zbb at hm
   rw[Bool.or_eq_true,decide_eq_true_eq,decide_eq_true_eq]at hm
   have hm:(f.1=y.2.1∨f.1=y.2.2)∨(f.2=y.2.1∨f.2=y.2.2):=hm
   rcases hm with (h|h)|(h|h)
   ·have:=hy2.1
    by_cases q:f.2=y.2.1
    ·rw[if_pos q]at this;exact this
    ·rw[if_neg q,if_pos h]at this;exact this
   ·have:=hy2.2
    by_cases q:f.2=y.2.2
    ·rw[if_pos q]at this;exact this
    ·rw[if_neg q,if_pos h]at this;exact this
   ·have:=hy2.1;rw[if_pos h]at this;exact this
   ·have:=hy2.2;rw[if_pos h]at this;exact this
def rnk (x:Int × Fk):Int:=x.1*1024+x.2.1*32+x.2.2
def ins (x:Int × Fk):List (Int × Fk)→List (Int × Fk)
 | []=>[x]
 | y::l=>if rnk x≤rnk y then x::y::l else y::ins x l
def zdS:List (Int × Fk)→List (Int × Fk)
 | []=>[]
 | x::l=>ins x (zdS l)
theorem insP (x:Int × Fk):∀ l,(ins x l).Perm (x::l)
 | []=>.refl _
 | y::l=>by
  unfold ins
  split
  ·exact .refl _
  ·exact((insP x l).cons y).trans (List.Perm.swap x y l)
theorem zax:∀ l,(zdS l).Perm l
 | []=>.refl _
 | x::l=>(insP x _).trans ((zax l).cons x)
theorem zdk (x:Int × Fk):∀ l:List (Int × Fk),l.Pairwise (fun a b=>rnk a≤rnk b)→(ins x l).Pairwise (fun a b=>rnk a≤rnk b)
 | [],_=>List.pairwise_singleton _ _
 | y::l,h=>by
  obtain⟨h1,h2⟩:=List.pairwise_cons.mp (id h)
  unfold ins
  split
  ·next le =>
   refine List.pairwise_cons.mpr ⟨fun z hz=>?_,h⟩
   rcases List.mem_cons.mp hz with rfl|hz2
   ·exact le
   ·exact Int.le_trans le (h1 z hz2)
  ·next gt =>
   refine List.pairwise_cons.mpr ⟨fun z hz=>?_,zdk x l h2⟩
   rcases List.mem_cons.mp ((insP x l).mem_iff.mp hz) with rfl|hz
   ·lia
   ·exact h1 z hz
theorem za4:∀ l,(zdS l).Pairwise (fun a b=>rnk a≤rnk b)
 | []=>List.Pairwise.nil
 | x::l=>zdk x _ (za4 l)
theorem zii (x:Int × Fk):∀ l:List (Int × Fk),(∀ y∈l,y.2.1<32∧y.2.2<32)→x.2.1<32→x.2.2<32→(∀ y∈l,zbb x.2 y.2=true→x.1<y.1)→Sw (x::l) (ins x l)
 | [],_,_,_,_=>.refl _
 | y::l,bd,b1,b2,h=>by
  unfold ins
  split
  ·exact .refl _
  ·next gt =>
   have hy:=bd y List.mem_cons_self
   have no:zbb x.2 y.2=false:=by
    cases q:zbb x.2 y.2 with
    | false=>rfl
    | true =>
     have:=h y List.mem_cons_self q
     unfold rnk at gt
     lia
   exact .trans (.swap [] x y l no) ((zii x l (fun z hz=>bd z (List.mem_cons_of_mem _ hz)) b1 b2 fun z hz=>h z (List.mem_cons_of_mem _ hz)).cons y)
theorem zfn:∀ l:List (Int × Fk),(∀ y∈l,y.2.1<32∧y.2.2<32)→l.Pairwise (fun x y=>zbb x.2 y.2=true→x.1<y.1)→Sw l (zdS l)
 | [],_,_=>.refl _
 | x::l,bd,h=>by
  obtain⟨h1,h2⟩:=List.pairwise_cons.mp (id h)
  have bx:=bd x List.mem_cons_self
  have ih:=zfn l (fun y hy=>bd y (List.mem_cons_of_mem _ hy)) h2
  refine .trans (ih.cons x) (zii x _ (fun y hy=>bd y (List.mem_cons_of_mem _ ((zax l).mem_iff.mp hy))) bx.1 bx.2 fun y hy=>h1 y ((zax l).mem_iff.mp hy))
theorem zbT {a b:List (Int × Fk)}(p:a.Perm b) (bd:∀ y∈b,y.2.1<32∧y.2.2<32) (sa:a.Pairwise (fun x y=>rnk x≤rnk y)) (sb:b.Pairwise (fun x y=>rnk x≤rnk y)):a=b:=by
 refine List.Perm.eq_of_pairwise (le:=fun x y=>rnk x≤rnk y) (fun x y hx hy h1 h2=>?_) sa sb p
 have bx:=bd x (p.mem_iff.mp hx)
 have by':=bd y hy
 obtain⟨x1,x2,x3⟩:=x
 obtain⟨y1,y2,y3⟩:=y
 unfold rnk at h1 h2
 simp only at h1 h2 bx by'
 have e1:x1=y1:=by lia
 have e2:x2=y2:=by lia
 have e3:x3=y3:=by lia
 rw[e1,e2,e3]
def zbj (N:Nt):List Fk:=(zdS (pz N)).map Prod.snd
def zal (N:Nt):Nt:=⟨N.lanes,zbj N,N.ends⟩
theorem zjI {N:Nt}{y:Int × Fk}(h:y∈pz N):y.2∈N.forks:=by
 rw[← zbe N];exact List.mem_map.mpr ⟨y,h,rfl⟩
theorem zee {N:Nt}(ok:N.Ok):∀ y∈pz N,y.2.1<32∧y.2.2<32:=fun y hy=>by
 have:=ok.fk y.2 (zjI hy)
 have:=ok.l16
 lia
theorem zjJ {N:Nt}(ok:N.Ok):(pz N).Pairwise fun x y=>zbb x.2 y.2=true→x.1<y.1 :=
 (zgt N.forks (List.replicate N.lanes 0) fun f hf=>by
  have:=ok.fk f hf
  rw[List.length_replicate];lia).2
theorem zhG {N:Nt}(ok:N.Ok):Sw (pz N) (zdS (pz N)):=zfn _ (zee ok) (zjJ ok)
theorem zcc (N:Nt):(zbj N).Perm N.forks:=by
 have:=(zax (pz N)).map Prod.snd
 rwa [zbe]at this
theorem zaN {N:Nt}(ok:N.Ok):(zal N).Ok:=⟨ok.l1,ok.l16,by
 show (zbj N).length≤128
 rw[(zcc N).length_eq];exact ok.fm,fun f hf=>ok.fk f ((zcc N).mem_iff.mp hf),ok.en⟩
theorem zkn {N N':Nt}{b:List (Int × Fk)}(hl:N'.lanes=N.lanes) (h:Sw (pz N) b) (hb:b.map Prod.snd=N'.forks):pz N'=b:=by
 have:=(zjF zh3 h (List.replicate N.lanes 0) (by rw[zbe];rfl)).1
 unfold pz
 rw[hl,← hb];exact this
theorem zeM {N N':Nt}(ok:N.Ok) {b:List (Int × Fk)}(hl:N'.lanes=N.lanes) (h:Sw (pz N) b) (hb:b.map Prod.snd=N'.forks):zbj N'=zbj N:=by
 unfold zbj
 rw[zkn hl h hb]
 congr 1
 exact zbT ((zax b).trans (h.perm.trans (zax _).symm)) (fun y hy=>zee ok y ((zax _).mem_iff.mp hy)) (za4 _) (za4 _)
theorem zbq {N:Nt}(ok:N.Ok) {zs:List (Int × Fk)}(p:zs.Perm (pz N)) (so:zs.Pairwise (fun a b=>rnk a≤rnk b)):zs=zdS (pz N) :=
 zbT (p.trans (zax _).symm) (fun y hy=>zee ok y ((zax _).mem_iff.mp hy)) so (za4 _)
def SwU (a b:List Fk):Prop:=Sw (a.map fun f=>((),f)) (b.map fun f=>((),f))
theorem zf8 (a:List Fk):(a.map fun f=>((),f)).map Prod.snd=a:=by
 rw[List.map_map];exact List.map_id a
theorem SwU.trans {a b c:List Fk}(h:SwU a b) (g:SwU b c):SwU a c:=Sw.trans h g
theorem Sw.forks {α β:Type}{a b:List (α × Fk)}(h:Sw a b):∀ c:List (β × Fk),c.map Prod.snd=a.map Prod.snd→∃ d,Sw c d∧d.map Prod.snd=b.map Prod.snd:=by
 induction h with
 | refl l=>exact fun c e=>⟨c,.refl _,e⟩
 | swap pre x y post hm =>
  intro c e
  rw[List.map_append,List.map_cons,List.map_cons]at e
  obtain⟨c1,c2,rfl,e1,e2⟩:=List.map_eq_append_iff.mp e
  obtain⟨x',c3,rfl,ex,e3⟩:=List.map_eq_cons_iff.mp e2
  obtain⟨y',c4,rfl,ey,e4⟩:=List.map_eq_cons_iff.mp e3
  refine⟨c1++y'::x'::c4,.swap c1 x' y' c4 (by rw[ex,ey];exact hm),?_⟩
  rw[List.map_append,List.map_append,List.map_cons,List.map_cons,List.map_cons,List.map_cons,e1,ex,ey,e4]
 | trans _ _ ih1 ih2 =>
  intro c e
  obtain⟨d,h1,e1⟩:=ih1 c e
  obtain⟨d',h2,e2⟩:=ih2 d e1
  exact⟨d',h1.trans h2,e2⟩
theorem SwU.of {α:Type}{a b:List (α × Fk)}(h:Sw a b):SwU (a.map Prod.snd) (b.map Prod.snd):=by
 have:=h.map (fun _=>())
 unfold SwU
 rw[List.map_map,List.map_map];exact this
theorem SwU.lift {α:Type}{a b:List Fk}(h:SwU a b) (c:List (α × Fk)) (e:c.map Prod.snd=a):∃ d,Sw c d∧d.map Prod.snd=b:=by
 obtain⟨d,h1,e1⟩:=Sw.forks h c (by rw[e,zf8])
 rw[zf8]at e1
 exact⟨d,h1,e1⟩
theorem SwU.left (c:List Fk) {a b:List Fk}(h:SwU a b):SwU (c++a) (c++b):=by
 unfold SwU at *
 rw[List.map_append,List.map_append]
 induction c with
 | nil=>exact h
 | cons x c ih=>exact ih.cons ((),x)
theorem Sw.right {α:Type}(c:List (α × Fk)) {a b:List (α × Fk)}(h:Sw a b):Sw (a++c) (b++c):=by
 induction h with
 | refl l=>exact .refl _
 | swap pre x y post h =>
  rw[List.append_assoc,List.append_assoc]
  exact .swap pre x y (post++c) h
 | trans _ _ ih1 ih2=>exact .trans ih1 ih2
theorem SwU.right (c:List Fk) {a b:List Fk}(h:SwU a b):SwU (a++c) (b++c):=by
 unfold SwU at *
 rw[List.map_append,List.map_append]
 exact Sw.right _ h
theorem SwU.map {g:Fk→Fk}{a b:List Fk}(h:SwU a b) (hg:∀ x∈a,∀ y∈a,zbb x y=false→zbb (g x) (g y)=false):SwU (a.map g) (b.map g):=by
 suffices ∀ {a b:List (Unit × Fk)},Sw a b→(∀ x∈a,∀ y∈a,zbb x.2 y.2=false→zbb (g x.2) (g y.2)=false)→Sw (a.map fun x=>(x.1,g x.2)) (b.map fun x=>(x.1,g x.2)) by
  have k:=this h fun x hx y hy=>by
   obtain⟨x',hx',rfl⟩:=List.mem_map.mp hx
   obtain⟨y',hy',rfl⟩:=List.mem_map.mp hy
   exact hg x' hx' y' hy'
  unfold SwU
  rw[List.map_map,List.map_map]at k ⊢
  exact k
 intro a b h
 induction h with
 | refl l=>exact fun _=>.refl _
 | swap pre x y post hm =>
  intro hg
  rw[List.map_append,List.map_append]
  exact .swap _ (x.1,g x.2) (y.1,g y.2) _ (hg x (by simp) y (by simp) hm)
 | trans h1 h2 ih1 ih2 =>
  intro hg
  refine .trans (ih1 hg) (ih2 fun x hx y hy=>hg x (h1.perm.mem_iff.mp hx) y (h1.perm.mem_iff.mp hy))
theorem zf9 {N:Nt}(ok:N.Ok):SwU N.forks (zbj N):=by
 have:=SwU.of (zhG ok)
 rw[zbe]at this
 exact this
theorem zgy {N N':Nt}(ok:N.Ok) (hl:N'.lanes=N.lanes) (he:N'.ends=N.ends) (h:SwU N.forks N'.forks):zal N'=zal N:=by
 obtain⟨d,h1,e1⟩:=h.lift (pz N) (zbe N)
 unfold zal
 rw[zeM ok hl h1 e1,hl,he]
def nmq (p:List Nat) (i:Nat):Nat:=p.getD i 0
def zaL (p:List Nat) (f:Fk):Fk:=(nmq p f.1,nmq p f.2)
theorem zcL {p:List Nat}(nd:p.Nodup) {i j:Nat}(hi:i<p.length) (hj:j<p.length) (e:nmq p i=nmq p j):i=j:=by
 unfold nmq at e
 rw[List.getD_eq_getElem?_getD,List.getD_eq_getElem?_getD,List.getElem?_eq_getElem hi,List.getElem?_eq_getElem hj]at e
 have ne:=List.pairwise_iff_getElem.mp (List.nodup_iff_pairwise_ne.mp nd)
 have e:p[i]=p[j]:=e
 by_cases h1:i<j
 ·exact absurd e (ne i j hi hj h1)
 ·by_cases h2:j<i
  ·exact absurd e.symm (ne j i hj hi h2)
  ·lia
theorem zi5 {p:List Nat}{i:Nat}(inside:i<p.length):nmq p i∈p:=by
 unfold nmq
 rw[List.getD_eq_getElem?_getD,List.getElem?_eq_getElem inside]
 exact List.getElem_mem inside
theorem ze1 {p:List Nat}(nd:p.Nodup) {f g:Fk}(f1:f.1<p.length) (f2:f.2<p.length) (g1:g.1<p.length) (g2:g.2<p.length) (h:zbb f g=false):zbb (zaL p f) (zaL p g)=false:=by
 obtain⟨a,b,c,d⟩:=zdP h
 unfold zbb zaL
 rw[decide_eq_false,decide_eq_false]
 ·rfl
 ·rintro (e|e)
  ·exact c (zcL nd f2 g1 e)
  ·exact d (zcL nd f2 g2 e)
 ·rintro (e|e)
  ·exact a (zcL nd f1 g1 e)
  ·exact b (zcL nd f1 g2 e)
theorem zda {p:List Nat}{n:Nat}(h:p.Perm (List.range n)):p.Nodup:=h.nodup_iff.mpr List.nodup_range
theorem zbz {p:List Nat}{n:Nat}(h:p.Perm (List.range n)):p.length=n:=by rw[h.length_eq,List.length_range]
theorem zig {p:List Nat}{n:Nat}(h:p.Perm (List.range n)) {i:Nat}(hi:i<n):nmq p i<n:=List.mem_range.mp (h.mem_iff.mp (zi5 (by rw[zbz h];exact hi)))
theorem zel {p:List Nat}{n:Nat}(h:p.length=n):(List.range n).map (nmq p)=p:=by
 subst h
 apply List.ext_getElem (by simp)
 intro i h1 h2
 simp only[List.getElem_map,List.getElem_range]
 unfold nmq
 rw[List.getD_eq_getElem?_getD,List.getElem?_eq_getElem h2];rfl
theorem zcO {p q:List Nat}{n:Nat}(hp:p.Perm (List.range n)) (hq:q.Perm (List.range n)):(q.map (nmq p)).Perm (List.range n):=by
 have:=hq.map (nmq p)
 rw[zel (zbz hp)]at this
 exact this.trans hp
def za1 (N:Nt) (p:List Nat):Nt:=⟨N.lanes,N.forks.map (zaL p),N.ends.map (nmq p)⟩
def zaM (a b:Nt):Nt:=⟨a.lanes,a.forks++b.forks.map (zaL a.ends),b.ends.map (nmq a.ends)⟩
def shF (n:Nat) (f:Fk):Fk:=(n+f.1,n+f.2)
def zaw (a b:Nt):Nt:=⟨a.lanes+b.lanes,a.forks++b.forks.map (shF a.lanes),a.ends++b.ends.map (a.lanes + ·)⟩
theorem zft {p:List Nat}{n:Nat}(hp:p.Perm (List.range n)) {f:Fk}(h:f.1<n∧f.2<n∧f.1≠f.2):(zaL p f).1<n∧(zaL p f).2<n∧(zaL p f).1≠(zaL p f).2 :=
 ⟨zig hp h.1,zig hp h.2.1,fun e=>h.2.2 (zcL (zda hp) (by rw[zbz hp];exact h.1) (by rw[zbz hp];exact h.2.1) e)⟩
theorem zca {N:Nt}(ok:N.Ok) {p:List Nat}(hp:p.Perm (List.range N.lanes)):(za1 N p).Ok:=⟨ok.l1,ok.l16,by
 show (N.forks.map (zaL p)).length≤128
 rw[List.length_map];exact ok.fm,fun f hf=>by
 obtain⟨g,hg,rfl⟩:=List.mem_map.mp hf
 exact zft hp (ok.fk g hg),zcO hp ok.en⟩
theorem zbu {a b:Nt}(oka:a.Ok) (okb:b.Ok) (hl:b.lanes=a.lanes) (fm:a.forks.length+b.forks.length≤128):(zaM a b).Ok:=⟨oka.l1,oka.l16,by
 show (a.forks++b.forks.map (zaL a.ends)).length≤128
 rw[List.length_append,List.length_map];exact fm,fun f hf=>by
 rcases List.mem_append.mp hf with h|h
 ·exact oka.fk f h
 ·obtain⟨g,hg,rfl⟩:=List.mem_map.mp h
  have:=okb.fk g hg
  rw[hl]at this
  exact zft oka.en this,by
 have e:=okb.en
 rw[hl]at e
 exact zcO oka.en e⟩
theorem zbc {a b:Nt}(oka:a.Ok) (okb:b.Ok) (hl:a.lanes+b.lanes≤16) (fm:a.forks.length+b.forks.length≤128):(zaw a b).Ok:=⟨by show 1≤a.lanes+b.lanes;have:=oka.l1;lia,hl,by
 show (a.forks++b.forks.map (shF a.lanes)).length≤128
 rw[List.length_append,List.length_map];exact fm,fun f hf=>by
 show f.1<a.lanes+b.lanes∧f.2<a.lanes+b.lanes∧f.1≠f.2
 rcases List.mem_append.mp hf with h|h
 ·have:=oka.fk f h;lia
 ·obtain⟨g,hg,rfl⟩:=List.mem_map.mp h
  have:=okb.fk g hg
  unfold shF;simp only;lia,by
 show (a.ends++b.ends.map (a.lanes + ·)).Perm (List.range (a.lanes+b.lanes))
 rw[List.range_add]
 exact oka.en.append (okb.en.map _)⟩
end Bn
namespace Ts
open PySem PyProof.Rows
structure Cmp (prog:Program) (w:World) (A:Around) (s:Shared) (κ:SortKind) (P:Keyed→Prop) (rk:Keyed→Int):Prop where
 ask:∀ (x y:Keyed),P x→P y→∀ {Q:Bool→Shared→Prop}{E:Value→Shared→Prop},Q (decide (rk x<rk y)) s→wpAny (model prog w) A (keyLt' κ x.1 y.1) Q E s
def R (rk:Keyed→Int) (xs:Array Keyed) (i:Nat):Int:=match xs[i]? with
 | some p=>rk p
 | none=>0
theorem R_congr {rk:Keyed→Int}{xs ys:Array Keyed}{i j:Nat}(h:xs[i]?=ys[j]?):R rk xs i=R rk ys j:=by unfold R;rw[h]
def Up (rk:Keyed→Int) (xs:Array Keyed) (lo n:Nat):Prop:=∀ i j,lo≤i→i≤j→j<lo+n→R rk xs i≤R rk xs j
def Dn (rk:Keyed→Int) (xs:Array Keyed) (lo n:Nat):Prop:=∀ i j,lo≤i→i≤j→j<lo+n→R rk xs j≤R rk xs i
structure Bs (κ:SortKind) (P:Keyed→Prop) (a₀:Array Keyed) (st:SortSt):Prop where
 kind:kindOf st=κ
 fail:failedOf st=none
 perm:(arrOf st).Perm a₀
 all:∀ p∈a₀.toList,P p
theorem Bs.size {κ:SortKind}{P:Keyed→Prop}{a₀:Array Keyed}{st:SortSt}(h:Bs κ P a₀ st):(arrOf st).size=a₀.size:=h.perm.size_eq
theorem Bs.at {κ:SortKind}{P:Keyed→Prop}{a₀:Array Keyed}{st:SortSt}(h:Bs κ P a₀ st) {i:Nat}(hi:i<a₀.size) (rk:Keyed→Int):∃ p,(arrOf st)[i]?=some p∧P p∧R rk (arrOf st) i=rk p:=by
 have e:(arrOf st)[i]?=some ((arrOf st)[i]'(by rw[h.size];exact hi)):=getElem?_pos (arrOf st) i (by rw[h.size];exact hi)
 refine⟨_,e,h.all _ ((Array.perm_iff_toList_perm.mp h.perm).mem_iff.mp (by simp)),?_⟩
 unfold R;rw[e]
theorem Bs.arr {κ:SortKind}{P:Keyed→Prop}{a₀:Array Keyed}{st:SortSt}(h:Bs κ P a₀ st) {xs:Array Keyed}(hp:xs.Perm (arrOf st)):Bs κ P a₀ (setArr st xs):=⟨h.kind,h.fail,hp.trans h.perm,h.all⟩
section
variable {prog:Program}{w:World}{A:Around}{E:Value→Shared→Prop}{s:Shared}{κ:SortKind}{P:Keyed→Prop}{rk:Keyed→Int}{a₀:Array Keyed}
theorem zgU (C:Cmp prog w A s κ P rk) {st:SortSt}{x y:Keyed}{Q:Option Bool→SortSt→Prop}(hk:kindOf st=κ) (px:P x) (py:P y) (h:Q (some (decide (rk x<rk y))) st):wpS (model prog w) A E s (lt' x y) Q st:=by
 rw[lt'_eq]
 refine wpS_bind (wpS_get (wpS_bind (wpS_lift (wpAny_attempt ?_))))
 rw[hk]
 exact C.ask x y px py ⟨rfl,wpS_pure h⟩
theorem zb9 {r:String}{st:SortSt}{Q:Unit→SortSt→Prop}(h:Q () st):wpS (model prog w) A E s (liftM (rule r):StateT SortSt Sem Unit) Q st:=wpS_lift (wpAny_rule ⟨rfl,h⟩)
theorem zah {st:SortSt}{arr:Array Keyed}{i:Nat}{p:Keyed}{Q:Keyed→SortSt→Prop}(e:arr[i]?=some p) (h:Q p st):wpS (model prog w) A E s (elem' arr i) Q st:=by
 rw[elem'_eq,e];exact wpS_pure h
theorem zgV (C:Cmp prog w A s κ P rk) {st:SortSt}{i j:Nat}{Q:Option Bool→SortSt→Prop}(hB:Bs κ P a₀ st) (hi:i<a₀.size) (hj:j<a₀.size) (h:Q (some (decide (R rk (arrOf st) i<R rk (arrOf st) j))) st):wpS (model prog w) A E s (ltAt' i j) Q st:=by
 obtain⟨p,e1,pp,r1⟩:=hB.at hi rk
 obtain⟨q,e2,pq,r2⟩:=hB.at hj rk
 rw[r1,r2]at h
 rw[ltAt'_eq]
 exact wpS_bind (wpS_get (wpS_bind (zah e1 (wpS_bind (zah e2 (zgU C hB.kind pp pq h))))))
structure Keep (κ:SortKind) (P:Keyed→Prop) (rk:Keyed→Int) (a₀:Array Keyed) (lo:Nat) (st st':SortSt):Prop where
 b:Bs κ P a₀ st'
 pend:pendingOf st'=pendingOf st
 low:∀ k,k<lo→R rk (arrOf st') k=R rk (arrOf st) k
theorem Keep.refl {lo:Nat}{st:SortSt}(h:Bs κ P a₀ st):Keep κ P rk a₀ lo st st:=⟨h,rfl,fun _ _=>rfl⟩
theorem Keep.trans {lo:Nat}{st st1 st2:SortSt}(h:Keep κ P rk a₀ lo st st1) (g:Keep κ P rk a₀ lo st1 st2):Keep κ P rk a₀ lo st st2:=⟨g.b,g.pend.trans h.pend,fun k hk=>(g.low k hk).trans (h.low k hk)⟩
theorem R_mirror {xs:Array Keyed}{i j:Nat}(hj:j≤xs.size) (k:Nat):R rk (mirror xs i j ((j-i) / 2)) k=if i≤k∧k<j then R rk xs (i+j-1-k) else R rk xs k:=by
 have e:=getElem?_mirror_all (xs:=xs) (i:=i) hj k
 split at e
 ·next h=>rw[if_pos h];exact R_congr e
 ·next h=>rw[if_neg h];exact R_congr e
theorem zfc {lo i j:Nat}{st:SortSt}{Q:Unit→SortSt→Prop}(hB:Bs κ P a₀ st) (hl:lo≤i) (hj:j≤a₀.size)
  (h:∀ st',Keep κ P rk a₀ lo st st'→(∀ k,R rk (arrOf st') k=if i≤k∧k<j then R rk (arrOf st) (i+j-1-k) else R rk (arrOf st) k)→Q () st'):wpS (model prog w) A E s (reverseSlice' i j) Q st:=by
 rw[reverseSlice'_eq]
 refine wpS_modify (h _ ⟨hB.arr (mirror_perm _ _ _ _),rfl,fun k hk=>?_⟩ fun k=>?_)
 ·show R rk (mirror (arrOf st) i j ((j-i) / 2)) k=_
  rw[R_mirror (by rw[hB.size];exact hj),if_neg (by lia)]
 ·exact R_mirror (by rw[hB.size];exact hj) k
theorem zh9 (C:Cmp prog w A s κ P rk) {st:SortSt}{lo nrem:Nat}{Q:Option Nat→SortSt→Prop}(hB:Bs κ P a₀ st) (h1:1≤nrem) (hn:lo+nrem≤a₀.size)
  (h:∀ st' m,Keep κ P rk a₀ lo st st'→1≤m→m≤nrem→Up rk (arrOf st') lo m→Q (some m) st'):wpS (model prog w) A E s (countRun' lo nrem) Q st:=by
 have asc:∀ (st:SortSt) (n0:Nat) {Q':Option (Option Nat) × Nat→SortSt→Prop},Bs κ P a₀ st→1≤n0→Up rk (arrOf st) lo n0 →
   (∀ n,n0≤n→n≤max n0 nrem→Up rk (arrOf st) lo n→(n<nrem→R rk (arrOf st) (lo+n)<R rk (arrOf st) (lo+n-1))→Q' (none,n) st)→
   ∀ f:Nat→Option (Option Nat) × Nat→StateT SortSt Sem (ForInStep (Option (Option Nat) × Nat)),(∀ i n,f i (none,n)=(do
    let some smaller ← ltAt' (lo+n) (lo+n-1)|pure (.done (some none,n))
    if smaller then pure (.done (none,n)) else pure (.yield (none,n+1))))→wpS (model prog w) A E s (forIn [n0:nrem] (none,n0) f) Q' st:=by
  intro st n0 Q' hB h0 hu hq f hf
  refine wpS_forRange (I:=fun i c st'=>st'=st∧c=(none,i)∧n0≤i∧Up rk (arrOf st) lo i) ?_ ?_ ⟨rfl,rfl,Nat.le_refl _,hu⟩
  ·rintro i c st' hi hi2 ⟨rfl,rfl,h3,hu'⟩
   rw[hf]
   refine wpS_bind (zgV C hB (by lia) (by lia) ?_)
   by_cases z:R rk (arrOf st') (lo+i)<R rk (arrOf st') (lo+i-1)
   ·rw[decide_eq_true z]
    exact wpS_pure (hq i h3 (by lia) hu' fun _=>z)
   ·rw[decide_eq_false z]
    refine wpS_pure ⟨rfl,rfl,by lia,fun a b ha hab hb=>?_⟩
    by_cases q:b<lo+i
    ·exact hu' a b ha hab q
    ·obtain rfl:b=lo+i:=by lia
     by_cases q2:a=lo+i
     ·rw[q2];exact Int.le_refl _
     ·have:=hu' a (lo+i-1) ha (by lia) (by lia)
      lia
  ·rintro c st' ⟨rfl,rfl,h3,hu'⟩
   exact hq _ h3 (Nat.le_refl _) hu' fun q=>by lia
 rw[countRun'_eq]
 refine wpS_bind (asc st 1 hB (Nat.le_refl _) (fun a b h1 h2 h3=>by rw[show a=b by lia];exact Int.le_refl _) (fun n n1 n2 hu hs=>?_) _ (fun i n=>rfl))
 dsimp only
 by_cases z:n=nrem
 ·subst z
  rw[if_pos (beq_self_eq_true _)]
  exact wpS_pure (h _ _ (Keep.refl hB) n1 (Nat.le_refl _) hu)
 rw[if_neg (by simpa using z)]
 have nl:n<nrem:=by lia
 have hs:=hs nl
 generalize hT:(bind (liftM (rule "list.sort.descending-run")) _:StateT SortSt Sem (Option Nat))=T
 have tail:∀ st1,Keep κ P rk a₀ lo st st1→Dn rk (arrOf st1) lo n→R rk (arrOf st1) (lo+n)<R rk (arrOf st1) (lo+n-1)→wpS (model prog w) A E s T Q st1:=by
  intro st1 K1 d1 l1
  rw[← hT]
  refine wpS_bind (zb9 ?_)
  have last:∀ st2 m,Keep κ P rk a₀ lo st st2→1≤m→m≤nrem→Dn rk (arrOf st2) lo m→∀ st3,Keep κ P rk a₀ lo st2 st3→(∀ k,R rk (arrOf st3) k=if lo≤k∧k<lo+m then R rk (arrOf st2) (lo+(lo+m)-1-k) else R rk (arrOf st2) k)→Up rk (arrOf st3) lo m:=by
   intro st2 m K2 m1 m2 d2 st3 K3 r3 a b ha hab hb
   rw[r3,r3,if_pos ⟨by lia,by lia⟩,if_pos ⟨by lia,by lia⟩]
   exact d2 _ _ (by lia) (by lia) (by lia)
  refine wpS_bind (wpS_mono (wpS_forRange (I:=fun i c st2=>∃ m q,c=(none,m,q)∧m=i∧q+1≤m∧Keep κ P rk a₀ lo st st2∧(i≤nrem→Dn rk (arrOf st2) lo m∧∀ k,lo+m-(q+1)≤k→k<lo+m→R rk (arrOf st2) k=R rk (arrOf st2) (lo+m-1)))
   (Q:=fun c st2=>∃ m q,c=(none,m,q)∧1≤m∧m≤nrem∧q+1≤m∧Keep κ P rk a₀ lo st st2∧Dn rk (arrOf st2) lo m∧∀ k,lo+m-(q+1)≤k→k<lo+m→R rk (arrOf st2) k=R rk (arrOf st2) (lo+m-1)) ?step ?fin ?init) ?post)
  case init =>
   refine⟨n+1,0,rfl,rfl,by lia,K1,fun _=>⟨fun a b ha hab hb=>?_,fun k k1 k2=>by rw[show k=lo+(n+1)-1 by lia]⟩⟩
   by_cases q:b<lo+n
   ·exact d1 a b ha hab q
   ·obtain rfl:b=lo+n:=by lia
    by_cases q2:a=lo+n
    ·rw[q2];exact Int.le_refl _
    ·have:=d1 a (lo+n-1) ha (by lia) (by lia)
     lia
  case fin =>
   rintro c st2 ⟨m,q,rfl,e,hq,K2,hd⟩
   obtain⟨d2,eq2⟩:=hd (by lia)
   exact⟨m,q,rfl,by lia,by lia,hq,K2,d2,eq2⟩
  case step =>
   rintro i c st2 hi hi2 ⟨m,q,rfl,rfl,hq,K2,hd⟩
   obtain⟨d2,eq2⟩:=hd (by lia)
   dsimp only
   refine wpS_bind (zgV C K2.b (by lia) (by lia) ?_)
   have more:∀ st3,Dn rk (arrOf st3) lo m→R rk (arrOf st3) (lo+m)≤R rk (arrOf st3) (lo+m-1)→Dn rk (arrOf st3) lo (m+1):=by
    intro st3 d3 le a b ha hab hb
    by_cases q:b<lo+m
    ·exact d3 a b ha hab q
    ·obtain rfl:b=lo+m:=by lia
     by_cases q2:a=lo+m
     ·rw[q2];exact Int.le_refl _
     ·have:=d3 a (lo+m-1) ha (by lia) (by lia)
      lia
   by_cases z1:R rk (arrOf st2) (lo+m)<R rk (arrOf st2) (lo+m-1)
   ·rw[decide_eq_true z1]
    dsimp only
    rw[if_pos rfl]
    by_cases zq:q > 0
    ·rw[if_pos zq]
     refine wpS_bind (zfc (rk:=rk) (lo:=lo) K2.b (by lia) (by lia) fun st3 K3 r3=>wpS_pure ?_)
     have same:∀ k,R rk (arrOf st3) k=R rk (arrOf st2) k:=fun k=>by
      rw[r3]
      split
      ·rw[eq2 _ (by lia) (by lia),eq2 k (by lia) (by lia)]
      ·rfl
     refine⟨m+1,0,rfl,rfl,by lia,K2.trans K3,fun _=>⟨more st3 (fun a b ha hab hb=>by rw[same,same];exact d2 a b ha hab hb) (by rw[same,same];lia),fun k k1 k2=>by rw[show k=lo+(m+1)-1 by lia]⟩⟩
    ·rw[if_neg zq]
     exact wpS_pure ⟨m+1,0,rfl,rfl,by lia,K2,fun _=>⟨more st2 d2 (by lia),fun k k1 k2=>by rw[show k=lo+(m+1)-1 by lia]⟩⟩
   ·rw[decide_eq_false z1]
    dsimp only
    rw[if_neg Bool.false_ne_true]
    refine wpS_bind (zgV C K2.b (by lia) (by lia) ?_)
    by_cases z2:R rk (arrOf st2) (lo+m-1)<R rk (arrOf st2) (lo+m)
    ·rw[decide_eq_true z2]
     dsimp only
     rw[if_pos rfl]
     exact wpS_pure ⟨m,q,rfl,by lia,by lia,hq,K2,d2,eq2⟩
    ·rw[decide_eq_false z2]
     dsimp only
     rw[if_neg Bool.false_ne_true]
     have e:R rk (arrOf st2) (lo+m)=R rk (arrOf st2) (lo+m-1):=by lia
     refine wpS_pure ⟨m+1,q+1,rfl,rfl,by lia,K2,fun _=>⟨more st2 d2 (by lia),fun k k1 k2=>?_⟩⟩
     rw[show lo+(m+1)-1=lo+m by lia]
     by_cases q3:k=lo+m
     ·rw[q3]
     ·rw[eq2 k (by lia) (by lia),e]
  case post =>
   rintro c st2 ⟨m,q,rfl,m1,m2,hq,K2,d2,eq2⟩
   dsimp only
   generalize hT2:(bind (reverseSlice' lo (lo+m)) _:StateT SortSt Sem (Option Nat))=T2
   have on:∀ st3,Keep κ P rk a₀ lo st st3→Dn rk (arrOf st3) lo m→wpS (model prog w) A E s T2 Q st3:=by
    intro st3 K3 d3
    rw[← hT2]
    refine wpS_bind (zfc (rk:=rk) (lo:=lo) K3.b (by lia) (by lia) fun st4 K4 r4=>?_)
    refine wpS_bind (asc st4 m K4.b m1 (last st3 m K3 m1 m2 d3 st4 K4 r4) (fun n' a1 a2 hu' _=>?_) _ (fun i n=>rfl))
    exact wpS_pure (h _ _ (K3.trans K4) (by lia) (by lia) hu')
   by_cases zq:q > 0
   ·rw[if_pos zq]
    refine wpS_bind (zfc (rk:=rk) (lo:=lo) K2.b (by lia) (by lia) fun st3 K3 r3=>?_)
    have same:∀ k,R rk (arrOf st3) k=R rk (arrOf st2) k:=fun k=>by
     rw[r3]
     split
     ·rw[eq2 _ (by lia) (by lia),eq2 k (by lia) (by lia)]
     ·rfl
    exact on st3 (K2.trans K3) (fun a b ha hab hb=>by rw[same,same];exact d2 a b ha hab hb)
   ·rw[if_neg zq]
    exact on st2 K2 d2
 by_cases z2:n > 1
 ·rw[if_pos z2]
  refine wpS_bind (zgV C hB (by lia) (by lia) ?_)
  by_cases z3:R rk (arrOf st) lo<R rk (arrOf st) (lo+n-1)
  ·rw[decide_eq_true z3]
   exact wpS_pure (h _ _ (Keep.refl hB) n1 (by lia) hu)
  ·rw[decide_eq_false z3]
   dsimp only
   rw[if_neg Bool.false_ne_true]
   refine wpS_bind (zfc (rk:=rk) (lo:=lo) hB (by lia) (by lia) fun st1 K1 r1=>tail st1 K1 (fun a b ha hab hb=>?_) ?_)
   ·rw[r1,r1,if_pos ⟨by lia,by lia⟩,if_pos ⟨by lia,by lia⟩]
    exact hu _ _ (by lia) (by lia) (by lia)
   ·rw[r1,r1,if_neg (by lia),if_pos ⟨by lia,by lia⟩]
    have:=hu (lo+(lo+n)-1-(lo+n-1)) (lo+n-1) (by lia) (by lia) (by lia)
    have e:lo+(lo+n)-1-(lo+n-1)=lo:=by lia
    rw[e]at this ⊢
    have:=hu lo (lo+n-1) (by lia) (by lia) (by lia)
    lia
 ·rw[if_neg z2]
  exact tail st (Keep.refl hB) (fun a b ha hab hb=>by rw[show a=b by lia];exact Int.le_refl _) hs
end
section
variable {prog:Program}{w:World}{A:Around}{E:Value→Shared→Prop}{s:Shared}{κ:SortKind}{P:Keyed→Prop}{rk:Keyed→Int}{a₀:Array Keyed}
theorem R_bubble {xs:Array Keyed}{src d:Nat}(hs:src<xs.size) (hd:d≤src) (k:Nat):R rk (bubble xs src d) k=if k=src-d then R rk xs src else if src-d<k∧k≤src then R rk xs (k-1) else R rk xs k:=by
 have e:=getElem?_bubble (xs:=xs) hs d hd k
 by_cases h1:k=src-d
 ·rw[if_pos h1]at e ⊢;exact R_congr e
 ·rw[if_neg h1]at e ⊢
  by_cases h2:(src-d<k∧k≤src)
  ·rw[if_pos h2]at e ⊢;exact R_congr e
  ·rw[if_neg h2]at e ⊢;exact R_congr e
theorem zka (C:Cmp prog w A s κ P rk) {st:SortSt}{lo n ok:Nat}{Q:Bool→SortSt→Prop}(hB:Bs κ P a₀ st) (h1:1≤ok) (hok:ok≤n) (hn:lo+n≤a₀.size) (hu:Up rk (arrOf st) lo ok)
  (h:∀ st',Keep κ P rk a₀ lo st st'→Up rk (arrOf st') lo n→Q true st'):wpS (model prog w) A E s (binarySort' lo n ok) Q st:=by
 rw[binarySort'_eq]
 rw[show max ok 1=ok by lia]
 refine wpS_bind (wpS_mono (wpS_forRange (I:=fun k c st1=>c=(none,())∧Keep κ P rk a₀ lo st st1∧Up rk (arrOf st1) lo (min k n)) (Q:=fun c st1=>c=(none,())∧Keep κ P rk a₀ lo st st1∧Up rk (arrOf st1) lo n) ?step ?fin ?init) ?post)
 case init=>exact⟨rfl,Keep.refl hB,by rwa [Nat.min_eq_left hok]⟩
 case fin =>
  rintro c st1 ⟨rfl,K1,u1⟩
  rw[show min (max ok n) n=n by lia]at u1
  exact⟨rfl,K1,u1⟩
 case post =>
  rintro c st1 ⟨rfl,K1,u1⟩
  exact wpS_pure (h st1 K1 u1)
 case step =>
  rintro k c st1 hk1 hk2 ⟨rfl,K1,u1⟩
  rw[show min k n=k by lia]at u1
  refine wpS_bind (wpS_mono (wpS_forRange (I:=fun x c st2=>st2=st1∧∃ l r,c=(none,l,r)∧l≤r∧r≤k∧r-l≤k-x∧(∀ i,lo≤i→i<lo+l→R rk (arrOf st1) i≤R rk (arrOf st1) (lo+k))∧(∀ i,lo+r≤i→i<lo+k→R rk (arrOf st1) (lo+k)≤R rk (arrOf st1) i))
   (Q:=fun c st2=>st2=st1∧∃ l r,c=(none,l,r)∧l≤k∧(∀ i,lo≤i→i<lo+l→R rk (arrOf st1) i≤R rk (arrOf st1) (lo+k))∧(∀ i,lo+l≤i→i<lo+k→R rk (arrOf st1) (lo+k)≤R rk (arrOf st1) i)) ?istep ?ifin ?iinit) ?ipost)
  case iinit=>exact⟨rfl,0,k,rfl,by lia,by lia,by lia,fun i _ _=>by lia,fun i _ _=>by lia⟩
  case ifin =>
   rintro c st2 ⟨rfl,l,r,rfl,lr,rk',m,h2,h3⟩
   obtain rfl:l=r:=by lia
   exact⟨rfl,l,l,rfl,rk',h2,h3⟩
  case istep =>
   rintro x c st2 _ hx ⟨rfl,l,r,rfl,lr,rk',m,h2,h3⟩
   dsimp only
   by_cases ge:l≥r
   ·rw[if_pos ge]
    obtain rfl:l=r:=by lia
    exact wpS_pure ⟨rfl,l,l,rfl,rk',h2,h3⟩
   ·rw[if_neg ge]
    refine wpS_bind (zgV C K1.b (by lia) (by lia) ?_)
    by_cases z:R rk (arrOf st2) (lo+k)<R rk (arrOf st2) (lo+(l+r) / 2)
    ·rw[decide_eq_true z]
     refine wpS_pure ⟨rfl,l,(l+r) / 2,rfl,by lia,by lia,by lia,h2,fun i i1 i2=>?_⟩
     have:=u1 (lo+(l+r) / 2) i (by lia) i1 (by lia)
     lia
    ·rw[decide_eq_false z]
     refine wpS_pure ⟨rfl,(l+r) / 2+1,r,rfl,by lia,by lia,by lia,fun i i1 i2=>?_,h3⟩
     have:=u1 i (lo+(l+r) / 2) i1 (by lia) (by lia)
     lia
  case ipost =>
   rintro c st2 ⟨rfl,l,r,rfl,lk,h2,h3⟩
   dsimp only
   rw[moveDown'_eq]
   have sz:=K1.b.size
   have rb:∀ j,R rk (arrOf (setArr st2 (bubble (arrOf st2) (lo+k) (lo+k-(lo+l))))) j=if j=lo+l then R rk (arrOf st2) (lo+k) else if lo+l<j∧j≤lo+k then R rk (arrOf st2) (j-1) else R rk (arrOf st2) j:=fun j=>by
    have:=R_bubble (rk:=rk) (xs:=arrOf st2) (src:=lo+k) (d:=lo+k-(lo+l)) (by rw[sz];lia) (by lia) j
    rw[show lo+k-(lo+k-(lo+l))=lo+l by lia]at this
    exact this
   refine wpS_bind (wpS_modify (wpS_pure ⟨rfl,K1.trans ⟨K1.b.arr (bubble_perm _ _ _),rfl,fun j hj=>?_⟩,fun i j hi hij hj=>?_⟩))
   ·rw[rb,if_neg (by lia),if_neg (by lia)]
   ·rw[show min (k+1) n=k+1 by lia]at hj
    rw[rb,rb]
    by_cases a1:i=lo+l
    ·rw[if_pos a1]
     by_cases b1:j=lo+l
     ·rw[if_pos b1];exact Int.le_refl _
     ·rw[if_neg b1,if_pos ⟨by lia,by lia⟩]
      exact h3 _ (by lia) (by lia)
    ·rw[if_neg a1]
     by_cases a2:lo+l<i∧i≤lo+k
     ·rw[if_pos a2,if_neg (by lia),if_pos ⟨by lia,by lia⟩]
      exact u1 _ _ (by lia) (by lia) (by lia)
     ·rw[if_neg a2]
      by_cases b1:j=lo+l
      ·rw[if_pos b1];exact h2 _ hi (by lia)
      ·rw[if_neg b1]
       by_cases b2:lo+l<j∧j≤lo+k
       ·rw[if_pos b2];exact u1 _ _ hi (by lia) (by lia)
       ·rw[if_neg b2];exact u1 _ _ hi hij (by lia)
end
def zjn:Bool→Keyed→Array Keyed→Nat→Nat→Nat→StateT SortSt Sem (Option Nat):=sortPriv% PySem.Builtin.gallop
def bd (left:Bool) (k r:Int):Bool:=if left=true then decide (r<k) else !decide (k<r)
theorem zjt {left:Bool}{k r r':Int}(h:r≤r') (b:bd left k r'=true):bd left k r=true:=by
 unfold bd at *
 cases left
 ·simp only[Bool.false_eq_true,if_false,Bool.not_eq_true',decide_eq_false_iff_not]at *;omega
 ·simp only[if_true,decide_eq_true_eq]at *;omega
section
variable {prog:Program}{w:World}{A:Around}{E:Value→Shared→Prop}{s:Shared}{κ:SortKind}{P:Keyed→Prop}{rk:Keyed→Int}{a₀:Array Keyed}
theorem zhl (C:Cmp prog w A s κ P rk) {st:SortSt}{left:Bool}{key:Keyed}{arr:Array Keyed}{j:Nat}{Q:Option Bool→SortSt→Prop}(hk:kindOf st=κ) (pk:P key) (hat:∃ p,arr[j]?=some p∧P p) (h:Q (some (bd left (rk key) (R rk arr j))) st) :
  wpS (model prog w) A E s (elem' arr j >>= fun x=>if left=true then lt' x key else (lt' key x >>= fun r=>pure (r.map fun b=>!b))) Q st:=by
 obtain⟨p,e,pp⟩:=hat
 have r:R rk arr j=rk p:=by unfold R;rw[e]
 rw[r]at h
 refine wpS_bind (zah e ?_)
 unfold bd at h
 cases left
 ·rw[if_neg Bool.false_ne_true]at h ⊢
  exact wpS_bind (zgU C hk pk pp (wpS_pure h))
 ·rw[if_pos rfl]at h ⊢
  exact zgU C hk pp pk h
theorem za5 (C:Cmp prog w A s κ P rk) {st:SortSt}{left:Bool}{key:Keyed}{arr:Array Keyed}{base n hint:Nat}{Q:Option Nat→SortSt→Prop}(hk:kindOf st=κ) (pk:P key) (hat:∀ i,i<n→∃ p,arr[base+i]?=some p∧P p) (hu:Up rk arr base n) (hh:hint<n)
  (h:∀ k,k≤n→(∀ i,i<k→bd left (rk key) (R rk arr (base+i))=true)→(∀ i,k≤i→i<n→bd left (rk key) (R rk arr (base+i))=false)→Q (some k) st):wpS (model prog w) A E s (zjn left key arr base n hint) Q st:=by
 have dn:∀ i j,i≤j→j<n→bd left (rk key) (R rk arr (base+j))=true→bd left (rk key) (R rk arr (base+i))=true:=fun i j h1 h2 b=>zjt (hu _ _ (by omega) (by omega) (by omega)) b
 have up:∀ i j,i≤j→j<n→bd left (rk key) (R rk arr (base+i))=false→bd left (rk key) (R rk arr (base+j))=false:=fun i j h1 h2 b=>by
  cases q:bd left (rk key) (R rk arr (base+j)) with
  | false=>rfl
  | true=>rw[dn i j h1 h2 q]at b;cases b
 refine wpS_bind (zhl C hk pk (hat hint hh) ?_)
 dsimp only
 have half:∀ (lo hi:Nat) (f:Nat→Option (Option Nat) × Nat × Nat→StateT SortSt Sem (ForInStep (Option (Option Nat) × Nat × Nat))),lo≤hi→hi≤n →
   (∀ i,i<lo→bd left (rk key) (R rk arr (base+i))=true)→(∀ i,hi≤i→i<n→bd left (rk key) (R rk arr (base+i))=false) →
   (∀ x l r (Q':ForInStep (Option (Option Nat) × Nat × Nat)→SortSt→Prop),(r≤l→Q' (.done (none,l,r)) st)→(l<r→r≤n→bd left (rk key) (R rk arr (base+(l+(r-l) / 2)))=true→Q' (.yield (none,l+(r-l) / 2+1,r)) st) →
    (l<r→r≤n→bd left (rk key) (R rk arr (base+(l+(r-l) / 2)))=false→Q' (.yield (none,l,l+(r-l) / 2)) st)→r≤n→wpS (model prog w) A E s (f x (none,l,r)) Q' st) →
   wpS (model prog w) A E s (forIn [:n] (none,lo,hi) f) (fun c st'=>st'=st∧∃ k,c=(none,k,k)∧Q (some k) st) st:=by
  intro lo hi f h1 h2 h3 h4 hf
  refine wpS_forRange (I:=fun x c st'=>st'=st∧∃ l r,c=(none,l,r)∧l≤r∧r≤n∧r-l≤n-x∧(∀ i,i<l→bd left (rk key) (R rk arr (base+i))=true)∧(∀ i,r≤i→i<n→bd left (rk key) (R rk arr (base+i))=false)) ?_ ?_ ⟨rfl,lo,hi,rfl,h1,h2,by omega,h3,h4⟩
  ·rintro x c st' _ hx ⟨rfl,l,r,rfl,lr,rn,m,a1,a2⟩
   refine hf x l r _ (fun z=>?_) (fun z1 z2 b=>?_) (fun z1 z2 b=>?_) rn
   ·obtain rfl:l=r:=by omega
    exact⟨rfl,l,rfl,h l rn a1 a2⟩
   ·exact⟨rfl,_,r,rfl,by omega,rn,by omega,fun i hi'=>dn i _ (by omega) (by omega) b,a2⟩
   ·exact⟨rfl,l,_,rfl,by omega,by omega,by omega,a1,fun i i1 i2=>up _ i i1 i2 b⟩
  ·rintro c st' ⟨rfl,l,r,rfl,lr,rn,m,a1,a2⟩
   obtain rfl:l=r:=by omega
   exact⟨rfl,l,rfl,h l rn a1 a2⟩
 cases hb:bd left (rk key) (R rk arr (base+hint)) with
 | true =>
  rw[if_pos rfl]
  refine wpS_bind (wpS_mono (wpS_forRange (I:=fun x c st'=>st'=st∧∃ l o,c=(none,l,o)∧x+1≤o∧l<o∧hint+l<n∧bd left (rk key) (R rk arr (base+(hint+l)))=true)
   (Q:=fun c st'=>st'=st∧∃ l o,c=(none,l,o)∧l<o∧hint+l<n∧bd left (rk key) (R rk arr (base+(hint+l)))=true∧(o<n-hint→bd left (rk key) (R rk arr (base+(hint+o)))=false)) ?_ ?_ ⟨rfl,0,1,rfl,by omega,by omega,by omega,hb⟩) ?_)
  ·rintro x c st' _ hx ⟨rfl,l,o,rfl,xo,lo',ln,b⟩
   dsimp only
   by_cases z:o≥n-hint
   ·rw[if_pos z]
    exact wpS_pure ⟨rfl,l,o,rfl,lo',ln,b,fun q=>by omega⟩
   ·rw[if_neg z]
    refine wpS_bind (zhl C hk pk (hat (hint+o) (by omega)) ?_)
    cases q:bd left (rk key) (R rk arr (base+(hint+o))) with
    | true=>exact wpS_pure ⟨rfl,o,2*o+1,rfl,by omega,by omega,by omega,q⟩
    | false=>exact wpS_pure ⟨rfl,l,o,rfl,lo',ln,b,fun _=>q⟩
  ·rintro c st' ⟨rfl,l,o,rfl,xo,lo',ln,b⟩
   exact⟨rfl,l,o,rfl,lo',ln,b,fun q=>by omega⟩
  ·rintro c st' ⟨rfl,l,o,rfl,lo',ln,b,nb⟩
   dsimp only
   refine wpS_bind (wpS_mono (half _ _ _ (by omega) (by omega) (fun i hi'=>dn i _ (by omega) ln b) (fun i i1 i2=>?_) ?_) ?_)
   ·have q:o<n-hint:=by omega
    exact up _ i (by omega) i2 (nb q)
   ·intro x l' r' Q' q1 q2 q3 rn
    dsimp only
    by_cases z:l'≥r'
    ·rw[if_pos z];exact wpS_pure (q1 z)
    ·rw[if_neg z]
     refine wpS_bind (zhl C hk pk (hat _ (by omega)) ?_)
     cases q:bd left (rk key) (R rk arr (base+(l'+(r'-l') / 2))) with
     | true=>exact wpS_pure (q2 (by omega) rn q)
     | false=>exact wpS_pure (q3 (by omega) rn q)
   ·rintro c st' ⟨rfl,k,rfl,hq⟩
    exact wpS_pure hq
 | false =>
  rw[if_neg Bool.false_ne_true]
  refine wpS_bind (wpS_mono (wpS_forRange (I:=fun x c st'=>st'=st∧∃ l o,c=(none,l,o)∧x+1≤o∧l<o∧l≤hint∧bd left (rk key) (R rk arr (base+(hint-l)))=false)
   (Q:=fun c st'=>st'=st∧∃ l o,c=(none,l,o)∧l<o∧l≤hint∧bd left (rk key) (R rk arr (base+(hint-l)))=false∧(o<hint+1→bd left (rk key) (R rk arr (base+(hint-o)))=true)) ?_ ?_ ⟨rfl,0,1,rfl,by omega,by omega,by omega,hb⟩) ?_)
  ·rintro x c st' _ hx ⟨rfl,l,o,rfl,xo,lo',ln,b⟩
   dsimp only
   by_cases z:o≥hint+1
   ·rw[if_pos z]
    exact wpS_pure ⟨rfl,l,o,rfl,lo',ln,b,fun q=>by omega⟩
   ·rw[if_neg z]
    refine wpS_bind (zhl C hk pk (hat (hint-o) (by omega)) ?_)
    cases q:bd left (rk key) (R rk arr (base+(hint-o))) with
    | true=>exact wpS_pure ⟨rfl,l,o,rfl,lo',ln,b,fun _=>q⟩
    | false=>exact wpS_pure ⟨rfl,o,2*o+1,rfl,by omega,by omega,by omega,q⟩
  ·rintro c st' ⟨rfl,l,o,rfl,xo,lo',ln,b⟩
   exact⟨rfl,l,o,rfl,lo',ln,b,fun q=>by omega⟩
  ·rintro c st' ⟨rfl,l,o,rfl,lo',ln,b,nb⟩
   dsimp only
   refine wpS_bind (wpS_mono (half _ _ _ (by omega) (by omega) (fun i hi'=>?_) (fun i i1 i2=>up _ i i1 i2 b) ?_) ?_)
   ·have q:o<hint+1:=by omega
    exact dn i _ (by omega) (by omega) (nb q)
   ·intro x l' r' Q' q1 q2 q3 rn
    dsimp only
    by_cases z:l'≥r'
    ·rw[if_pos z];exact wpS_pure (q1 z)
    ·rw[if_neg z]
     refine wpS_bind (zhl C hk pk (hat _ (by omega)) ?_)
     cases q:bd left (rk key) (R rk arr (base+(l'+(r'-l') / 2))) with
     | true=>exact wpS_pure (q2 (by omega) rn q)
     | false=>exact wpS_pure (q3 (by omega) rn q)
   ·rintro c st' ⟨rfl,k,rfl,hq⟩
    exact wpS_pure hq
end
def Srt (rk:Keyed→Int) (l:List Keyed):Prop:=l.Pairwise fun x y=>rk x≤rk y
structure Lo (rk:Keyed→Int) (T out a b:List Keyed):Prop where
 so:Srt rk out
 sa:Srt rk a
 sb:Srt rk b
 oa:∀ x∈out,∀ y∈a,rk x≤rk y
 ob:∀ x∈out,∀ y∈b,rk x≤rk y
 pm:(out++(a++b)).Perm T
section
variable {rk:Keyed→Int}{T out a b c:List Keyed}
theorem Lo.swap (h:Lo rk T out a b):Lo rk T out b a:=⟨h.so,h.sb,h.sa,h.ob,h.oa,((List.perm_append_comm (l₁:=b) (l₂:=a)).append_left out).trans h.pm⟩
theorem Lo.take (h:Lo rk T out (c++a) b) (le:∀ x∈c,∀ y∈b,rk x≤rk y):Lo rk T (out++c) a b:=by
 obtain⟨s1,s2,s3⟩:=List.pairwise_append.mp h.sa
 refine⟨List.pairwise_append.mpr ⟨h.so,s1,fun x hx y hy=>h.oa x hx y (List.mem_append_left _ hy)⟩,s2,h.sb,fun x hx y hy=>?_,fun x hx y hy=>?_,?_⟩
 ·rcases List.mem_append.mp hx with q|q
  ·exact h.oa x q y (List.mem_append_right _ hy)
  ·exact s3 x q y hy
 ·rcases List.mem_append.mp hx with q|q
  ·exact h.ob x q y hy
  ·exact le x q y hy
 ·have:=h.pm
  rw[List.append_assoc]at this ⊢
  exact this
theorem Lo.end (h:Lo rk T out a []):(out++a).Perm T∧Srt rk (out++a):=by
 have:=h.pm
 rw[List.append_nil]at this
 exact⟨this,List.pairwise_append.mpr ⟨h.so,h.sa,h.oa⟩⟩
theorem Lo.lone (h:Lo rk T out a b) (le:∀ x∈b,∀ y∈a,rk x≤rk y):(out++b++a).Perm T∧Srt rk (out++b++a):=by
 refine⟨?_,List.pairwise_append.mpr ⟨List.pairwise_append.mpr ⟨h.so,h.sb,h.ob⟩,h.sa,fun x hx y hy=>?_⟩⟩
 ·rw[List.append_assoc]
  exact((List.perm_append_comm (l₁:=b) (l₂:=a)).append_left out).trans h.pm
 ·rcases List.mem_append.mp hx with q|q
  ·exact h.oa x q y hy
  ·exact le x q y hy
theorem zeX {arr:Array Keyed}{i:Nat}{p:Keyed}(e:arr[i]?=some p):arr.toList.drop i=p::arr.toList.drop (i+1):=by
 obtain⟨hi,e⟩:=Array.getElem?_eq_some_iff.mp e
 have hl:i<arr.toList.length:=by rw[Array.length_toList];exact hi
 rw[List.drop_eq_getElem_cons hl,Array.getElem_toList,e]
theorem zdU (arr:Array Keyed) (i k:Nat):arr.toList.drop i=(arr.extract i (i+k)).toList++arr.toList.drop (i+k):=by
 rw[Array.toList_extract,List.extract_eq_take_drop,Nat.add_sub_cancel_left,← List.drop_drop,List.take_append_drop]
theorem zdl (arr:Array Keyed) (i:Nat):(arr.extract i).toList=arr.toList.drop i:=by
 rw[Array.toList_extract,List.extract_eq_take_drop]
 exact List.take_of_length_le (by rw[List.length_drop,Array.length_toList];exact Nat.le_refl _)
theorem zjs {arr:Array Keyed}{i k:Nat}{x:Keyed}(h:x∈(arr.extract i (i+k)).toList):∃ j,j<k∧arr[i+j]?=some x:=by
 rw[Array.toList_extract,List.extract_eq_take_drop,Nat.add_sub_cancel_left]at h
 obtain⟨j,hj⟩:=List.mem_iff_getElem?.mp h
 have jk:j<k:=by
  have:=(List.getElem?_eq_some_iff.mp hj).1
  rw[List.length_take]at this;lia
 rw[List.getElem?_take_of_lt jk,List.getElem?_drop]at hj
 exact⟨j,jk,by rw[← Array.getElem?_toList];exact hj⟩
theorem zbh {arr:Array Keyed}{i:Nat}{x:Keyed}(h:x∈arr.toList.drop i):∃ j,arr[i+j]?=some x:=by
 obtain⟨j,hj⟩:=List.mem_iff_getElem?.mp h
 rw[List.getElem?_drop]at hj
 exact⟨j,by rw[← Array.getElem?_toList];exact hj⟩
theorem R_at {arr:Array Keyed}{i:Nat}{p:Keyed}(e:arr[i]?=some p):R rk arr i=rk p:=by unfold R;rw[e]
theorem zbK {arr:Array Keyed}(h:Srt rk arr.toList) {base n:Nat}(hn:base+n≤arr.size):Up rk arr base n:=by
 intro i j hi hij hj
 have h1:arr[i]?=some arr[i]:=getElem?_pos arr i (by lia)
 have h2:arr[j]?=some arr[j]:=getElem?_pos arr j (by lia)
 rw[R_at h1,R_at h2]
 by_cases z:i=j
 ·subst z;exact Int.le_refl _
 ·have:=List.pairwise_iff_getElem.mp h i j (by rw[Array.length_toList];lia) (by rw[Array.length_toList];lia) (by lia)
  simpa using this
theorem zbo {arr:Array Keyed}{i:Nat}{p:Keyed}(h:Srt rk arr.toList) (e:arr[i]?=some p):∀ y∈arr.toList.drop i,rk p≤rk y:=by
 have hs:Srt rk (arr.toList.drop i):=List.Pairwise.drop h
 rw[zeX e]at hs ⊢
 obtain⟨h1,_⟩:=List.pairwise_cons.mp hs
 intro y hy
 rcases List.mem_cons.mp hy with rfl|q
 ·exact Int.le_refl _
 ·exact h1 y q
end
section
variable {rk:Keyed→Int}{T:List Keyed}{out a b:Array Keyed}{ia ib k:Nat}{p q:Keyed}
abbrev At (rk:Keyed→Int) (T:List Keyed) (out a b:Array Keyed) (ia ib:Nat):Prop:=Lo rk T out.toList (a.toList.drop ia) (b.toList.drop ib)
theorem At.pushA (h:At rk T out a b ia ib) (e:a[ia]?=some p) (le:∀ y∈b.toList.drop ib,rk p≤rk y):At rk T (out.push p) a b (ia+1) ib:=by
 have h':=h
 unfold At at h' ⊢
 rw[zeX e]at h'
 rw[Array.toList_push]
 exact Lo.take (c:=[p]) h' fun x hx y hy=>by rw[List.mem_singleton.mp hx];exact le y hy
theorem At.pushB (h:At rk T out a b ia ib) (e:b[ib]?=some p) (le:∀ y∈a.toList.drop ia,rk p≤rk y):At rk T (out.push p) a b ia (ib+1):=(At.pushA (a:=b) (b:=a) h.swap e le).swap
theorem At.cutA (h:At rk T out a b ia ib) (le:∀ j x,j<k→a[ia+j]?=some x→∀ y∈b.toList.drop ib,rk x≤rk y):At rk T (out++a.extract ia (ia+k)) a b (ia+k) ib:=by
 have h':=h
 unfold At at h' ⊢
 rw[zdU a ia k]at h'
 rw[Array.toList_append]
 exact Lo.take h' fun x hx y hy=>by
  obtain⟨j,jk,e⟩:=zjs hx
  exact le j x jk e y hy
theorem At.cutB (h:At rk T out a b ia ib) (le:∀ j x,j<k→b[ib+j]?=some x→∀ y∈a.toList.drop ia,rk x≤rk y):At rk T (out++b.extract ib (ib+k)) a b ia (ib+k):=(At.cutA (a:=b) (b:=a) h.swap le).swap
theorem At.endB (h:At rk T out a b ia ib) (z:b.size≤ib):(out++a.extract ia++b.extract ib).toList.Perm T∧Srt rk (out++a.extract ia++b.extract ib).toList:=by
 have h':=h
 unfold At at h'
 have e:b.toList.drop ib=[]:=List.drop_eq_nil_iff.mpr (by rw[Array.length_toList];exact z)
 rw[e]at h'
 rw[Array.toList_append,Array.toList_append,zdl,zdl,e,List.append_nil]
 exact h'.end
theorem At.endA (h:At rk T out a b ia ib) (z:a.size≤ia):(out++a.extract ia++b.extract ib).toList.Perm T∧Srt rk (out++a.extract ia++b.extract ib).toList:=by
 have h':=h.swap
 have e:a.toList.drop ia=[]:=List.drop_eq_nil_iff.mpr (by rw[Array.length_toList];exact z)
 rw[e]at h'
 rw[Array.toList_append,Array.toList_append,zdl,zdl,e,List.append_nil]
 exact h'.end
theorem At.lastA (h:At rk T out a b ia ib) (le:∀ x∈b.toList.drop ib,∀ y∈a.toList.drop ia,rk x≤rk y):(out++b.extract ib++a.extract ia).toList.Perm T∧Srt rk (out++b.extract ib++a.extract ia).toList:=by
 rw[Array.toList_append,Array.toList_append,zdl,zdl]
 exact Lo.lone h le
end
def zhY:Array Keyed→Array Keyed→StateT SortSt Sem (Array Keyed):=sortPriv% PySem.Builtin.mergeLo
def ziH:Nat→StateT SortSt Sem Unit:=sortPriv% PySem.Builtin.setMinGallop
structure Sm (st st':SortSt):Prop where
 kind:kindOf st'=kindOf st
 arr:arrOf st'=arrOf st
 pend:pendingOf st'=pendingOf st
 fail:failedOf st'=failedOf st
theorem Sm.refl (st:SortSt):Sm st st:=⟨rfl,rfl,rfl,rfl⟩
theorem Sm.trans {a b c:SortSt}(h:Sm a b) (g:Sm b c):Sm a c:=⟨g.kind.trans h.kind,g.arr.trans h.arr,g.pend.trans h.pend,g.fail.trans h.fail⟩
section
variable {prog:Program}{w:World}{A:Around}{E:Value→Shared→Prop}{s:Shared}{κ:SortKind}{P:Keyed→Prop}{rk:Keyed→Int}{a₀:Array Keyed}
theorem zdg {st:SortSt}{g:Nat}{Q:Unit→SortSt→Prop}(h:∀ st',Sm st st'→Q () st'):wpS (model prog w) A E s (ziH g) Q st :=
 wpS_modify (h _ ⟨rfl,rfl,rfl,rfl⟩)
theorem zkr (C:Cmp prog w A s κ P rk) {st:SortSt}{a b:Array Keyed}{Q:Array Keyed→SortSt→Prop}(hk:kindOf st=κ) (pa:∀ x∈a.toList,P x) (pb:∀ x∈b.toList,P x) (sa:Srt rk a.toList) (sb:Srt rk b.toList) (a1:1≤a.size) (b1:1≤b.size)
  (first:∀ x,b[0]?=some x→∀ y∈a.toList,rk x≤rk y) (last:∀ x,a[a.size-1]?=some x→∀ y∈b.toList,rk y≤rk x)
  (h:∀ r st',Sm st st'→r.toList.Perm (a.toList++b.toList)→Srt rk r.toList→Q r st'):wpS (model prog w) A E s (zhY a b) Q st:=by
 have atA:∀ i,i<a.size→∃ x,a[i]?=some x∧P x:=fun i hi=>⟨_,getElem?_pos a i hi,pa _ (by simp)⟩
 have atB:∀ i,i<b.size→∃ x,b[i]?=some x∧P x:=fun i hi=>⟨_,getElem?_pos b i hi,pb _ (by simp)⟩
 obtain⟨b0,e0,_⟩:=atB 0 b1
 have lone:∀ {out:Array Keyed}{ia ib:Nat},At rk (a.toList++b.toList) out a b ia ib→ia+1=a.size→(out++b.extract ib++a.extract ia).toList.Perm (a.toList++b.toList)∧Srt rk (out++b.extract ib++a.extract ia).toList:=fun {out ia ib} L z=>L.lastA fun x hx y hy=>by
  obtain⟨j,ej⟩:=zbh hy
  have:=(Array.getElem?_eq_some_iff.mp ej).1
  exact last y (by rw[show a.size-1=ia+j by lia];exact ej) x (List.mem_of_mem_drop hx)
 have L0:At rk (a.toList++b.toList) #[b0] a b 0 1:=by
  have e:=zeX e0
  rw[List.drop_zero]at e
  have hb:=sb
  unfold Srt at hb
  rw[e]at hb
  obtain⟨h1,h2⟩:=List.pairwise_cons.mp hb
  refine⟨List.pairwise_singleton _ _,by rw[List.drop_zero];exact sa,h2,fun x hx y hy=>?_,fun x hx y hy=>?_,?_⟩
  ·rw[List.mem_singleton.mp hx];exact first b0 e0 y (List.mem_of_mem_drop hy)
  ·rw[List.mem_singleton.mp hx];exact h1 y hy
  ·rw[List.drop_zero]
   conv=>rhs;rw[e]
   show (b0::(a.toList++b.toList.drop 1)).Perm (a.toList++b0::b.toList.drop 1)
   exact List.perm_middle.symm
 have size:∀ {out:Array Keyed}{ia ib:Nat},At rk (a.toList++b.toList) out a b ia ib→out.size≤a.size+b.size:=fun {out ia ib} L=>by
  have:=L.pm.length_eq
  simp only[List.length_append,Array.length_toList]at this
  lia
 refine wpS_bind (zb9 ?_)
 refine wpS_bind (zah e0 ?_)
 dsimp only
 by_cases z1:1=b.size
 ·rw[if_pos (by simpa using z1)]
  obtain⟨q1,q2⟩:=L0.endB (by lia)
  exact wpS_pure (h _ _ (Sm.refl _) q1 q2)
 rw[if_neg (by simpa using z1)]
 by_cases z2:0+1=a.size
 ·rw[if_pos (by simpa using z2)]
  obtain⟨q1,q2⟩:=lone L0 z2
  exact wpS_pure (h _ _ (Sm.refl _) q1 q2)
 rw[if_neg (by simpa using z2)]
 refine wpS_bind (wpS_get ?_)
 refine wpS_bind (wpS_mono (wpS_forRange (I:=fun i c st1=>Sm st st1∧∃ out ia ib g,c=(none,out,ia,ib,g)∧At rk (a.toList++b.toList) out a b ia ib∧ia+1<a.size∧ib<b.size∧i+1≤out.size)
  (Q:=fun c st1=>Sm st st1∧∃ r x,c=(some r,x)∧r.toList.Perm (a.toList++b.toList)∧Srt rk r.toList) ?step ?fin ⟨Sm.refl _,_,_,_,_,rfl,L0,by lia,by lia,by simp⟩) ?post)
 case post =>
  rintro c st1 ⟨S1,r,x,rfl,q1,q2⟩
  exact wpS_pure (h _ _ S1 q1 q2)
 case fin =>
  rintro c st1 ⟨S1,out,ia,ib,g,rfl,L,_,_,sz⟩
  have:=size L
  lia
 case step =>
  rintro i c st1 _ hi ⟨S1,out,ia,ib,g,rfl,L,la,lb,sz⟩
  dsimp only
  refine wpS_bind (wpS_mono (wpS_forRange (I:=fun j c st2=>st2=st1∧∃ out ia ib ca cb,c=(none,out,ia,ib,ca,cb)∧At rk (a.toList++b.toList) out a b ia ib∧ia+1<a.size∧ib<b.size∧i+1+j≤out.size)
   (Q:=fun c st2=>st2=st1∧((∃ r x,c=(some r,x)∧r.toList.Perm (a.toList++b.toList)∧Srt rk r.toList)∨∃ out ia ib ca cb,c=(none,out,ia,ib,ca,cb)∧At rk (a.toList++b.toList) out a b ia ib∧ia+1<a.size∧ib<b.size∧i+2≤out.size)) ?_ ?_ ⟨rfl,_,_,_,_,_,rfl,L,la,lb,by lia⟩) ?_)
  ·rintro j c st2 _ hj ⟨rfl,out,ia,ib,ca,cb,rfl,L,la,lb,sz⟩
   dsimp only
   obtain⟨x,ex,px⟩:=atA ia (by lia)
   obtain⟨y,ey,py⟩:=atB ib lb
   refine wpS_bind (zah ey (wpS_bind (zah ex (wpS_bind (zgU C (S1.kind.trans hk) py px ?_)))))
   by_cases z:rk y<rk x
   ·rw[decide_eq_true z]
    dsimp only
    rw[if_pos rfl]
    have L':=L.pushB ey fun u hu=>Int.le_trans (Int.le_of_lt z) (zbo sa ex u hu)
    refine wpS_bind (zah ey ?_)
    by_cases zb:ib+1=b.size
    ·rw[if_pos (by simpa using zb)]
     obtain⟨q1,q2⟩:=L'.endB (by lia)
     exact wpS_pure ⟨rfl,.inl ⟨_,_,rfl,q1,q2⟩⟩
    ·rw[if_neg (by simpa using zb)]
     by_cases zg:cb+1≥g
     ·rw[if_pos zg]
      exact wpS_pure ⟨rfl,.inr ⟨_,_,_,_,_,rfl,L',la,by lia,by rw[Array.size_push];lia⟩⟩
     ·rw[if_neg zg]
      exact wpS_pure ⟨rfl,_,_,_,_,_,rfl,L',la,by lia,by rw[Array.size_push];lia⟩
   ·rw[decide_eq_false z]
    dsimp only
    rw[if_neg Bool.false_ne_true]
    have L':=L.pushA ex fun u hu=>Int.le_trans (by lia) (zbo sb ey u hu)
    refine wpS_bind (zah ex ?_)
    by_cases zb:ia+1+1=a.size
    ·rw[if_pos (by simpa using zb)]
     obtain⟨q1,q2⟩:=lone L' zb
     exact wpS_pure ⟨rfl,.inl ⟨_,_,rfl,q1,q2⟩⟩
    ·rw[if_neg (by simpa using zb)]
     by_cases zg:ca+1≥g
     ·rw[if_pos zg]
      exact wpS_pure ⟨rfl,.inr ⟨_,_,_,_,_,rfl,L',by lia,lb,by rw[Array.size_push];lia⟩⟩
     ·rw[if_neg zg]
      exact wpS_pure ⟨rfl,_,_,_,_,_,rfl,L',by lia,lb,by rw[Array.size_push];lia⟩
  ·rintro c st2 ⟨rfl,out,ia,ib,ca,cb,rfl,L,la,lb,sz⟩
   have:=size L
   lia
  ·rintro c st2 ⟨rfl,⟨r,x,rfl,q1,q2⟩|⟨out,ia,ib,ca,cb,rfl,L,la,lb,sz⟩⟩
   ·exact wpS_pure ⟨S1,r,_,rfl,q1,q2⟩
   dsimp only
   refine wpS_bind (zb9 ?_)
   refine wpS_bind (wpS_mono (wpS_forRange (I:=fun j c st3=>Sm st st3∧∃ out ia ib g ca cb,c=(none,out,ia,ib,g,ca,cb)∧At rk (a.toList++b.toList) out a b ia ib∧ia+1<a.size∧ib<b.size∧i+2≤out.size)
    (Q:=fun c st3=>Sm st st3∧((∃ r x,c=(some r,x)∧r.toList.Perm (a.toList++b.toList)∧Srt rk r.toList)∨∃ out ia ib g ca cb,c=(none,out,ia,ib,g,ca,cb)∧At rk (a.toList++b.toList) out a b ia ib∧ia+1<a.size∧ib<b.size∧i+2≤out.size)) ?_ ?_ ⟨S1,_,_,_,_,_,_,rfl,L,la,lb,sz⟩) ?_)
   ·rintro j c st3 _ hj ⟨S3,out,ia,ib,g,ca,cb,rfl,L,la,lb,sz⟩
    dsimp only
    obtain⟨y,ey,py⟩:=atB ib lb
    by_cases zg:g > 1
    ·rw[if_pos zg]
     refine wpS_bind (zdg fun st4 S4=>?_)
     have S4:=S3.trans S4
     refine wpS_bind (zah ey (wpS_bind (za5 C (S4.kind.trans hk) py (fun t ht=>atA (ia+t) (by lia)) (zbK sa (by lia)) (by lia) fun k hk1 g1 g2=>?_)))
     dsimp only
     have L1:=L.cutA (k:=k) fun t u tk eu v hv=>by
      have:=g1 t tk
      rw[R_at eu]at this
      unfold bd at this
      simp only[Bool.false_eq_true,if_false,Bool.not_eq_true',decide_eq_false_iff_not]at this
      have:=zbo sb ey v hv
      lia
     have hle:∀ u∈a.toList.drop (ia+k),rk y≤rk u:=fun u hu=>by
      obtain⟨t,et⟩:=zbh hu
      have tl:=(Array.getElem?_eq_some_iff.mp et).1
      have:=g2 (k+t) (by lia) (by lia)
      rw[← Nat.add_assoc,R_at et]at this
      unfold bd at this
      simp only[Bool.false_eq_true,if_false,Bool.not_eq_false',decide_eq_true_eq]at this
      lia
     have sz1:i+2≤(out++a.extract ia (ia+k)).size:=by rw[Array.size_append];lia
     by_cases zk:k > 0
     ·rw[if_pos zk]
      by_cases za:ia+k+1=a.size
      ·rw[if_pos (by simpa using za)]
       obtain⟨q1,q2⟩:=lone L1 za
       exact wpS_pure ⟨S4,.inl ⟨_,_,rfl,q1,q2⟩⟩
      rw[if_neg (by simpa using za)]
      by_cases zc:ia+k=a.size
      ·rw[if_pos (by simpa using zc)]
       obtain⟨q1,q2⟩:=L1.endA (by lia)
       exact wpS_pure ⟨S4,.inl ⟨_,_,rfl,q1,q2⟩⟩
      rw[if_neg (by simpa using zc)]
      have la1:ia+k+1<a.size:=by lia
      generalize ia+k=ia1 at L1 hle la1 sz1 ⊢
      generalize out++a.extract ia ia1=out1 at L1 sz1 ⊢
      refine wpS_bind (zah ey ?_)
      have L2:=L1.pushB ey hle
      by_cases zb:ib+1=b.size
      ·rw[if_pos (by simpa using zb)]
       obtain⟨q1,q2⟩:=L2.endB (by lia)
       exact wpS_pure ⟨S4,.inl ⟨_,_,rfl,q1,q2⟩⟩
      rw[if_neg (by simpa using zb)]
      obtain⟨x1,ex1,px1⟩:=atA _ (Nat.lt_of_succ_lt la1)
      refine wpS_bind (zah ex1 (wpS_bind (za5 C (S4.kind.trans hk) px1 (fun t ht=>atB (ib+1+t) (by lia)) (zbK sb (by lia)) (by lia) fun k2 hk2 c1 c2=>?_)))
      dsimp only
      have L3:=L2.cutB (k:=k2) fun t u tk eu v hv=>by
       have:=c1 t tk
       rw[R_at eu]at this
       unfold bd at this
       simp only[if_true,decide_eq_true_eq]at this
       have:=zbo sa ex1 v hv
       lia
      have hle2:∀ u∈b.toList.drop (ib+1+k2),rk x1≤rk u:=fun u hu=>by
       obtain⟨t,et⟩:=zbh hu
       have tl:=(Array.getElem?_eq_some_iff.mp et).1
       have:=c2 (k2+t) (by lia) (by lia)
       rw[← Nat.add_assoc,R_at et]at this
       unfold bd at this
       simp only[if_true,decide_eq_false_iff_not]at this
       lia
      have sz2:=sz1
      by_cases zk2:k2 > 0
      ·rw[if_pos zk2]
       by_cases zd:ib+1+k2=b.size
       ·rw[if_pos (by simpa using zd)]
        obtain⟨q1,q2⟩:=L3.endB (by lia)
        exact wpS_pure ⟨S4,.inl ⟨_,_,rfl,q1,q2⟩⟩
       rw[if_neg (by simpa using zd)]
       have lb2:ib+1+k2<b.size:=by lia
       refine wpS_bind (zah ex1 ?_)
       have L4:=L3.pushA ex1 hle2
       by_cases ze:ia1+1+1=a.size
       ·rw[if_pos (by simpa using ze)]
        obtain⟨q1,q2⟩:=lone L4 ze
        exact wpS_pure ⟨S4,.inl ⟨_,_,rfl,q1,q2⟩⟩
       rw[if_neg (by simpa using ze)]
       split
       ·exact wpS_pure ⟨S4,.inr ⟨_,_,_,_,_,_,rfl,L4,by lia,lb2,by simp only[Array.size_push,Array.size_append];lia⟩⟩
       ·exact wpS_pure ⟨S4,_,_,_,_,_,_,rfl,L4,by lia,lb2,by simp only[Array.size_push,Array.size_append];lia⟩
      ·rw[if_neg zk2]
       obtain rfl:k2=0:=by lia
       rw[Nat.add_zero]at hle2
       refine wpS_bind (zah ex1 ?_)
       have L4:=L2.pushA ex1 hle2
       by_cases ze:ia1+1+1=a.size
       ·rw[if_pos (by simpa using ze)]
        obtain⟨q1,q2⟩:=lone L4 ze
        exact wpS_pure ⟨S4,.inl ⟨_,_,rfl,q1,q2⟩⟩
       rw[if_neg (by simpa using ze)]
       split
       ·exact wpS_pure ⟨S4,.inr ⟨_,_,_,_,_,_,rfl,L4,by lia,by lia,by simp only[Array.size_push,Array.size_append];lia⟩⟩
       ·exact wpS_pure ⟨S4,_,_,_,_,_,_,rfl,L4,by lia,by lia,by simp only[Array.size_push,Array.size_append];lia⟩
     ·rw[if_neg zk]
      obtain rfl:k=0:=by lia
      have L1:=L
      have la1:=la
      have sz1:=sz
      rw[Nat.add_zero]at hle
      refine wpS_bind (zah ey ?_)
      have L2:=L1.pushB ey hle
      by_cases zb:ib+1=b.size
      ·rw[if_pos (by simpa using zb)]
       obtain⟨q1,q2⟩:=L2.endB (by lia)
       exact wpS_pure ⟨S4,.inl ⟨_,_,rfl,q1,q2⟩⟩
      rw[if_neg (by simpa using zb)]
      obtain⟨x1,ex1,px1⟩:=atA _ (Nat.lt_of_succ_lt la1)
      refine wpS_bind (zah ex1 (wpS_bind (za5 C (S4.kind.trans hk) px1 (fun t ht=>atB (ib+1+t) (by lia)) (zbK sb (by lia)) (by lia) fun k2 hk2 c1 c2=>?_)))
      dsimp only
      have L3:=L2.cutB (k:=k2) fun t u tk eu v hv=>by
       have:=c1 t tk
       rw[R_at eu]at this
       unfold bd at this
       simp only[if_true,decide_eq_true_eq]at this
       have:=zbo sa ex1 v hv
       lia
      have hle2:∀ u∈b.toList.drop (ib+1+k2),rk x1≤rk u:=fun u hu=>by
       obtain⟨t,et⟩:=zbh hu
       have tl:=(Array.getElem?_eq_some_iff.mp et).1
       have:=c2 (k2+t) (by lia) (by lia)
       rw[← Nat.add_assoc,R_at et]at this
       unfold bd at this
       simp only[if_true,decide_eq_false_iff_not]at this
       lia
      have sz2:=sz1
      by_cases zk2:k2 > 0
      ·rw[if_pos zk2]
       by_cases zd:ib+1+k2=b.size
       ·rw[if_pos (by simpa using zd)]
        obtain⟨q1,q2⟩:=L3.endB (by lia)
        exact wpS_pure ⟨S4,.inl ⟨_,_,rfl,q1,q2⟩⟩
       rw[if_neg (by simpa using zd)]
       have lb2:ib+1+k2<b.size:=by lia
       refine wpS_bind (zah ex1 ?_)
       have L4:=L3.pushA ex1 hle2
       by_cases ze:ia+1+1=a.size
       ·rw[if_pos (by simpa using ze)]
        obtain⟨q1,q2⟩:=lone L4 ze
        exact wpS_pure ⟨S4,.inl ⟨_,_,rfl,q1,q2⟩⟩
       rw[if_neg (by simpa using ze)]
       split
       ·exact wpS_pure ⟨S4,.inr ⟨_,_,_,_,_,_,rfl,L4,by lia,lb2,by simp only[Array.size_push,Array.size_append];lia⟩⟩
       ·exact wpS_pure ⟨S4,_,_,_,_,_,_,rfl,L4,by lia,lb2,by simp only[Array.size_push,Array.size_append];lia⟩
      ·rw[if_neg zk2]
       obtain rfl:k2=0:=by lia
       rw[Nat.add_zero]at hle2
       refine wpS_bind (zah ex1 ?_)
       have L4:=L2.pushA ex1 hle2
       by_cases ze:ia+1+1=a.size
       ·rw[if_pos (by simpa using ze)]
        obtain⟨q1,q2⟩:=lone L4 ze
        exact wpS_pure ⟨S4,.inl ⟨_,_,rfl,q1,q2⟩⟩
       rw[if_neg (by simpa using ze)]
       split
       ·exact wpS_pure ⟨S4,.inr ⟨_,_,_,_,_,_,rfl,L4,by lia,by lia,by simp only[Array.size_push,Array.size_append];lia⟩⟩
       ·exact wpS_pure ⟨S4,_,_,_,_,_,_,rfl,L4,by lia,by lia,by simp only[Array.size_push,Array.size_append];lia⟩
    ·rw[if_neg zg]
     refine wpS_bind (zdg fun st4 S4=>?_)
     have S4:=S3.trans S4
     refine wpS_bind (zah ey (wpS_bind (za5 C (S4.kind.trans hk) py (fun t ht=>atA (ia+t) (by lia)) (zbK sa (by lia)) (by lia) fun k hk1 g1 g2=>?_)))
     dsimp only
     have L1:=L.cutA (k:=k) fun t u tk eu v hv=>by
      have:=g1 t tk
      rw[R_at eu]at this
      unfold bd at this
      simp only[Bool.false_eq_true,if_false,Bool.not_eq_true',decide_eq_false_iff_not]at this
      have:=zbo sb ey v hv
      lia
     have hle:∀ u∈a.toList.drop (ia+k),rk y≤rk u:=fun u hu=>by
      obtain⟨t,et⟩:=zbh hu
      have tl:=(Array.getElem?_eq_some_iff.mp et).1
      have:=g2 (k+t) (by lia) (by lia)
      rw[← Nat.add_assoc,R_at et]at this
      unfold bd at this
      simp only[Bool.false_eq_true,if_false,Bool.not_eq_false',decide_eq_true_eq]at this
      lia
     have sz1:i+2≤(out++a.extract ia (ia+k)).size:=by rw[Array.size_append];lia
     by_cases zk:k > 0
     ·rw[if_pos zk]
      by_cases za:ia+k+1=a.size
      ·rw[if_pos (by simpa using za)]
       obtain⟨q1,q2⟩:=lone L1 za
       exact wpS_pure ⟨S4,.inl ⟨_,_,rfl,q1,q2⟩⟩
      rw[if_neg (by simpa using za)]
      by_cases zc:ia+k=a.size
      ·rw[if_pos (by simpa using zc)]
       obtain⟨q1,q2⟩:=L1.endA (by lia)
       exact wpS_pure ⟨S4,.inl ⟨_,_,rfl,q1,q2⟩⟩
      rw[if_neg (by simpa using zc)]
      have la1:ia+k+1<a.size:=by lia
      generalize ia+k=ia1 at L1 hle la1 sz1 ⊢
      generalize out++a.extract ia ia1=out1 at L1 sz1 ⊢
      refine wpS_bind (zah ey ?_)
      have L2:=L1.pushB ey hle
      by_cases zb:ib+1=b.size
      ·rw[if_pos (by simpa using zb)]
       obtain⟨q1,q2⟩:=L2.endB (by lia)
       exact wpS_pure ⟨S4,.inl ⟨_,_,rfl,q1,q2⟩⟩
      rw[if_neg (by simpa using zb)]
      obtain⟨x1,ex1,px1⟩:=atA _ (Nat.lt_of_succ_lt la1)
      refine wpS_bind (zah ex1 (wpS_bind (za5 C (S4.kind.trans hk) px1 (fun t ht=>atB (ib+1+t) (by lia)) (zbK sb (by lia)) (by lia) fun k2 hk2 c1 c2=>?_)))
      dsimp only
      have L3:=L2.cutB (k:=k2) fun t u tk eu v hv=>by
       have:=c1 t tk
       rw[R_at eu]at this
       unfold bd at this
       simp only[if_true,decide_eq_true_eq]at this
       have:=zbo sa ex1 v hv
       lia
      have hle2:∀ u∈b.toList.drop (ib+1+k2),rk x1≤rk u:=fun u hu=>by
       obtain⟨t,et⟩:=zbh hu
       have tl:=(Array.getElem?_eq_some_iff.mp et).1
       have:=c2 (k2+t) (by lia) (by lia)
       rw[← Nat.add_assoc,R_at et]at this
       unfold bd at this
       simp only[if_true,decide_eq_false_iff_not]at this
       lia
      have sz2:=sz1
      by_cases zk2:k2 > 0
      ·rw[if_pos zk2]
       by_cases zd:ib+1+k2=b.size
       ·rw[if_pos (by simpa using zd)]
        obtain⟨q1,q2⟩:=L3.endB (by lia)
        exact wpS_pure ⟨S4,.inl ⟨_,_,rfl,q1,q2⟩⟩
       rw[if_neg (by simpa using zd)]
       have lb2:ib+1+k2<b.size:=by lia
       refine wpS_bind (zah ex1 ?_)
       have L4:=L3.pushA ex1 hle2
       by_cases ze:ia1+1+1=a.size
       ·rw[if_pos (by simpa using ze)]
        obtain⟨q1,q2⟩:=lone L4 ze
        exact wpS_pure ⟨S4,.inl ⟨_,_,rfl,q1,q2⟩⟩
       rw[if_neg (by simpa using ze)]
       split
       ·exact wpS_pure ⟨S4,.inr ⟨_,_,_,_,_,_,rfl,L4,by lia,lb2,by simp only[Array.size_push,Array.size_append];lia⟩⟩
       ·exact wpS_pure ⟨S4,_,_,_,_,_,_,rfl,L4,by lia,lb2,by simp only[Array.size_push,Array.size_append];lia⟩
      ·rw[if_neg zk2]
       obtain rfl:k2=0:=by lia
       rw[Nat.add_zero]at hle2
       refine wpS_bind (zah ex1 ?_)
       have L4:=L2.pushA ex1 hle2
       by_cases ze:ia1+1+1=a.size
       ·rw[if_pos (by simpa using ze)]
        obtain⟨q1,q2⟩:=lone L4 ze
        exact wpS_pure ⟨S4,.inl ⟨_,_,rfl,q1,q2⟩⟩
       rw[if_neg (by simpa using ze)]
       split
       ·exact wpS_pure ⟨S4,.inr ⟨_,_,_,_,_,_,rfl,L4,by lia,by lia,by simp only[Array.size_push,Array.size_append];lia⟩⟩
       ·exact wpS_pure ⟨S4,_,_,_,_,_,_,rfl,L4,by lia,by lia,by simp only[Array.size_push,Array.size_append];lia⟩
     ·rw[if_neg zk]
      obtain rfl:k=0:=by lia
      have L1:=L
      have la1:=la
      have sz1:=sz
      rw[Nat.add_zero]at hle
      refine wpS_bind (zah ey ?_)
      have L2:=L1.pushB ey hle
      by_cases zb:ib+1=b.size
      ·rw[if_pos (by simpa using zb)]
       obtain⟨q1,q2⟩:=L2.endB (by lia)
       exact wpS_pure ⟨S4,.inl ⟨_,_,rfl,q1,q2⟩⟩
      rw[if_neg (by simpa using zb)]
      obtain⟨x1,ex1,px1⟩:=atA _ (Nat.lt_of_succ_lt la1)
      refine wpS_bind (zah ex1 (wpS_bind (za5 C (S4.kind.trans hk) px1 (fun t ht=>atB (ib+1+t) (by lia)) (zbK sb (by lia)) (by lia) fun k2 hk2 c1 c2=>?_)))
      dsimp only
      have L3:=L2.cutB (k:=k2) fun t u tk eu v hv=>by
       have:=c1 t tk
       rw[R_at eu]at this
       unfold bd at this
       simp only[if_true,decide_eq_true_eq]at this
       have:=zbo sa ex1 v hv
       lia
      have hle2:∀ u∈b.toList.drop (ib+1+k2),rk x1≤rk u:=fun u hu=>by
       obtain⟨t,et⟩:=zbh hu
       have tl:=(Array.getElem?_eq_some_iff.mp et).1
       have:=c2 (k2+t) (by lia) (by lia)
       rw[← Nat.add_assoc,R_at et]at this
       unfold bd at this
       simp only[if_true,decide_eq_false_iff_not]at this
       lia
      have sz2:=sz1
      by_cases zk2:k2 > 0
      ·rw[if_pos zk2]
       by_cases zd:ib+1+k2=b.size
       ·rw[if_pos (by simpa using zd)]
        obtain⟨q1,q2⟩:=L3.endB (by lia)
        exact wpS_pure ⟨S4,.inl ⟨_,_,rfl,q1,q2⟩⟩
       rw[if_neg (by simpa using zd)]
       have lb2:ib+1+k2<b.size:=by lia
       refine wpS_bind (zah ex1 ?_)
       have L4:=L3.pushA ex1 hle2
       by_cases ze:ia+1+1=a.size
       ·rw[if_pos (by simpa using ze)]
        obtain⟨q1,q2⟩:=lone L4 ze
        exact wpS_pure ⟨S4,.inl ⟨_,_,rfl,q1,q2⟩⟩
       rw[if_neg (by simpa using ze)]
       split
       ·exact wpS_pure ⟨S4,.inr ⟨_,_,_,_,_,_,rfl,L4,by lia,lb2,by simp only[Array.size_push,Array.size_append];lia⟩⟩
       ·exact wpS_pure ⟨S4,_,_,_,_,_,_,rfl,L4,by lia,lb2,by simp only[Array.size_push,Array.size_append];lia⟩
      ·rw[if_neg zk2]
       obtain rfl:k2=0:=by lia
       rw[Nat.add_zero]at hle2
       refine wpS_bind (zah ex1 ?_)
       have L4:=L2.pushA ex1 hle2
       by_cases ze:ia+1+1=a.size
       ·rw[if_pos (by simpa using ze)]
        obtain⟨q1,q2⟩:=lone L4 ze
        exact wpS_pure ⟨S4,.inl ⟨_,_,rfl,q1,q2⟩⟩
       rw[if_neg (by simpa using ze)]
       split
       ·exact wpS_pure ⟨S4,.inr ⟨_,_,_,_,_,_,rfl,L4,by lia,by lia,by simp only[Array.size_push,Array.size_append];lia⟩⟩
       ·exact wpS_pure ⟨S4,_,_,_,_,_,_,rfl,L4,by lia,by lia,by simp only[Array.size_push,Array.size_append];lia⟩
   ·rintro c st3 ⟨S3,out,ia,ib,g,ca,cb,rfl,L,la,lb,sz⟩
    exact⟨S3,.inr ⟨_,_,_,_,_,_,rfl,L,la,lb,sz⟩⟩
   ·rintro c st3 ⟨S3,⟨r,x,rfl,q1,q2⟩|⟨out,ia,ib,g,ca,cb,rfl,L,la,lb,sz⟩⟩
    ·exact wpS_pure ⟨S3,r,_,rfl,q1,q2⟩
    dsimp only
    refine wpS_bind (zdg fun st4 S4=>?_)
    exact wpS_pure ⟨S3.trans S4,_,_,_,_,rfl,L,la,lb,by lia⟩
end
def zhZ:Array Keyed→Array Keyed→StateT SortSt Sem (Array Keyed):=sortPriv% PySem.Builtin.mergeHi
structure Hi (rk:Keyed→Int) (T a b out:List Keyed):Prop where
 sa:Srt rk a
 sb:Srt rk b
 so:Srt rk out
 ao:∀ x∈a,∀ y∈out,rk x≤rk y
 bo:∀ x∈b,∀ y∈out,rk x≤rk y
 pm:(a++b++out).Perm T
section
variable {rk:Keyed→Int}{T out a b c:List Keyed}
theorem Hi.swap (h:Hi rk T a b out):Hi rk T b a out:=⟨h.sb,h.sa,h.so,h.bo,h.ao,((List.perm_append_comm (l₁:=b) (l₂:=a)).append_right out).trans h.pm⟩
theorem Hi.take (h:Hi rk T (a++c) b out) (le:∀ x∈b,∀ y∈c,rk x≤rk y):Hi rk T a b (c++out):=by
 obtain⟨s1,s2,s3⟩:=List.pairwise_append.mp h.sa
 refine⟨s1,h.sb,List.pairwise_append.mpr ⟨s2,h.so,fun x hx y hy=>h.ao x (List.mem_append_right _ hx) y hy⟩,fun x hx y hy=>?_,fun x hx y hy=>?_,?_⟩
 ·rcases List.mem_append.mp hy with q|q
  ·exact s3 x hx y q
  ·exact h.ao x (List.mem_append_left _ hx) y q
 ·rcases List.mem_append.mp hy with q|q
  ·exact le x hx y q
  ·exact h.bo x hx y q
 ·refine List.Perm.trans ?_ h.pm
  rw[← List.append_assoc]
  refine List.Perm.append_right out ?_
  rw[List.append_assoc,List.append_assoc]
  exact List.Perm.append_left a List.perm_append_comm
theorem Hi.end (h:Hi rk T [] b out):(b++out).Perm T∧Srt rk (b++out):=⟨h.pm,List.pairwise_append.mpr ⟨h.sb,h.so,h.bo⟩⟩
theorem Hi.lone (h:Hi rk T a b out) (le:∀ x∈b,∀ y∈a,rk x≤rk y):(b++a++out).Perm T∧Srt rk (b++a++out):=by
 refine⟨((List.perm_append_comm (l₁:=b) (l₂:=a)).append_right out).trans h.pm,List.pairwise_append.mpr ⟨List.pairwise_append.mpr ⟨h.sb,h.sa,le⟩,h.so,fun x hx y hy=>?_⟩⟩
 rcases List.mem_append.mp hx with q|q
 ·exact h.bo x q y hy
 ·exact h.ao x q y hy
theorem ziw {arr:Array Keyed}{n:Nat}{p:Keyed}(h1:1≤n) (e:arr[n-1]?=some p):arr.toList.take n=arr.toList.take (n-1)++[p]:=by
 obtain⟨hi,e⟩:=Array.getElem?_eq_some_iff.mp e
 have hl:n-1<arr.toList.length:=by rw[Array.length_toList];exact hi
 have:=List.take_succ_eq_append_getElem hl
 rw[Nat.sub_add_cancel h1,Array.getElem_toList,e]at this
 exact this
theorem zht (arr:Array Keyed) {i n:Nat}(h:i≤n):arr.toList.take n=arr.toList.take i++(arr.extract i n).toList:=by
 rw[Array.toList_extract,List.extract_eq_take_drop]
 have:=List.take_add (l:=arr.toList) (i:=i) (j:=n-i)
 rw[show i+(n-i)=n by lia]at this
 exact this
theorem zcU (arr:Array Keyed) (n:Nat):(arr.extract 0 n).toList=arr.toList.take n:=by
 rw[Array.toList_extract,List.extract_eq_take_drop,List.drop_zero,Nat.sub_zero]
theorem zcV {arr:Array Keyed}{i n:Nat}{x:Keyed}(h:x∈(arr.extract i n).toList):∃ j,i≤j∧j<n∧arr[j]?=some x:=by
 rw[Array.toList_extract,List.extract_eq_take_drop]at h
 obtain⟨j,hj⟩:=List.mem_iff_getElem?.mp h
 have jk:j<n-i:=by
  have:=(List.getElem?_eq_some_iff.mp hj).1
  rw[List.length_take]at this;lia
 rw[List.getElem?_take_of_lt jk,List.getElem?_drop]at hj
 exact⟨i+j,by lia,by lia,by rw[← Array.getElem?_toList];exact hj⟩
theorem zaY {arr:Array Keyed}{n:Nat}{x:Keyed}(h:x∈arr.toList.take n):∃ j,j<n∧arr[j]?=some x:=by
 obtain⟨j,hj⟩:=List.mem_iff_getElem?.mp h
 have jk:j<n:=by
  have:=(List.getElem?_eq_some_iff.mp hj).1
  rw[List.length_take]at this;lia
 rw[List.getElem?_take_of_lt jk]at hj
 exact⟨j,jk,by rw[← Array.getElem?_toList];exact hj⟩
theorem za7 {arr:Array Keyed}{n:Nat}{p:Keyed}(h:Srt rk arr.toList) (h1:1≤n) (e:arr[n-1]?=some p):∀ y∈arr.toList.take n,rk y≤rk p:=by
 intro y hy
 obtain⟨j,jn,ej⟩:=zaY hy
 have hn:=(Array.getElem?_eq_some_iff.mp e).1
 have:=zbK h (base:=0) (n:=n) (by lia) j (n-1) (Nat.zero_le _) (by lia) (by lia)
 rw[R_at ej,R_at e]at this
 exact this
end
section
variable {rk:Keyed→Int}{T:List Keyed}{out a b:Array Keyed}{na nb i:Nat}{p q:Keyed}
abbrev Bt (rk:Keyed→Int) (T:List Keyed) (a b out:Array Keyed) (na nb:Nat):Prop:=Hi rk T (a.toList.take na) (b.toList.take nb) out.toList.reverse
theorem Bt.pushA (h:Bt rk T a b out na nb) (h1:1≤na) (e:a[na-1]?=some p) (le:∀ x∈b.toList.take nb,rk x≤rk p):Bt rk T a b (out.push p) (na-1) nb:=by
 have h':=h
 unfold Bt at h' ⊢
 rw[ziw h1 e]at h'
 rw[Array.toList_push,List.reverse_append]
 exact Hi.take (c:=[p]) h' fun x hx y hy=>by rw[List.mem_singleton.mp hy];exact le x hx
theorem Bt.pushB (h:Bt rk T a b out na nb) (h1:1≤nb) (e:b[nb-1]?=some p) (le:∀ x∈a.toList.take na,rk x≤rk p):Bt rk T a b (out.push p) na (nb-1):=(Bt.pushA (a:=b) (b:=a) h.swap h1 e le).swap
theorem Bt.cutA (h:Bt rk T a b out na nb) (hi:i≤na) (le:∀ j x,i≤j→j<na→a[j]?=some x→∀ y∈b.toList.take nb,rk y≤rk x):Bt rk T a b (out++(a.extract i na).reverse) i nb:=by
 have h':=h
 unfold Bt at h' ⊢
 rw[zht a hi]at h'
 rw[Array.toList_append,List.reverse_append,Array.toList_reverse,List.reverse_reverse]
 exact Hi.take h' fun y hy x hx=>by
  obtain⟨j,j1,j2,e⟩:=zcV hx
  exact le j x j1 j2 e y hy
theorem Bt.cutB (h:Bt rk T a b out na nb) (hi:i≤nb) (le:∀ j x,i≤j→j<nb→b[j]?=some x→∀ y∈a.toList.take na,rk y≤rk x):Bt rk T a b (out++(b.extract i nb).reverse) na i:=(Bt.cutA (a:=b) (b:=a) h.swap hi le).swap
theorem Bt.endA (h:Bt rk T a b out 0 nb):(a.extract 0 0++b.extract 0 nb++out.reverse).toList.Perm T∧Srt rk (a.extract 0 0++b.extract 0 nb++out.reverse).toList:=by
 rw[Array.toList_append,Array.toList_append,zcU,zcU,List.take_zero,List.nil_append,Array.toList_reverse]
 exact Hi.end h
theorem Bt.endB (h:Bt rk T a b out na 0):(a.extract 0 na++b.extract 0 0++out.reverse).toList.Perm T∧Srt rk (a.extract 0 na++b.extract 0 0++out.reverse).toList:=by
 rw[Array.toList_append,Array.toList_append,zcU,zcU,List.take_zero,List.append_nil,Array.toList_reverse]
 exact Hi.end h.swap
theorem Bt.lone (h:Bt rk T a b out na nb) (le:∀ x∈b.toList.take nb,∀ y∈a.toList.take na,rk x≤rk y):(b.extract 0 nb++a.extract 0 na++out.reverse).toList.Perm T∧Srt rk (b.extract 0 nb++a.extract 0 na++out.reverse).toList:=by
 rw[Array.toList_append,Array.toList_append,zcU,zcU,Array.toList_reverse]
 exact Hi.lone h le
end
section
variable {prog:Program}{w:World}{A:Around}{E:Value→Shared→Prop}{s:Shared}{κ:SortKind}{P:Keyed→Prop}{rk:Keyed→Int}{a₀:Array Keyed}
theorem zkv (C:Cmp prog w A s κ P rk) {st:SortSt}{a b:Array Keyed}{Q:Array Keyed→SortSt→Prop}(hk:kindOf st=κ) (pa:∀ x∈a.toList,P x) (pb:∀ x∈b.toList,P x) (sa:Srt rk a.toList) (sb:Srt rk b.toList) (a1:1≤a.size) (b1:1≤b.size)
  (first:∀ x,b[0]?=some x→∀ y∈a.toList,rk x≤rk y) (last:∀ x,a[a.size-1]?=some x→∀ y∈b.toList,rk y≤rk x)
  (h:∀ r st',Sm st st'→r.toList.Perm (a.toList++b.toList)→Srt rk r.toList→Q r st'):wpS (model prog w) A E s (zhZ a b) Q st:=by
 have atA:∀ i,i<a.size→∃ x,a[i]?=some x∧P x:=fun i hi=>⟨_,getElem?_pos a i hi,pa _ (by simp)⟩
 have atB:∀ i,i<b.size→∃ x,b[i]?=some x∧P x:=fun i hi=>⟨_,getElem?_pos b i hi,pb _ (by simp)⟩
 obtain⟨z0,e0,_⟩:=atA (a.size-1) (by lia)
 have lone:∀ {out:Array Keyed}{na:Nat},Bt rk (a.toList++b.toList) a b out na 1→(b.extract 0 1++a.extract 0 na++out.reverse).toList.Perm (a.toList++b.toList)∧Srt rk (b.extract 0 1++a.extract 0 na++out.reverse).toList:=fun {out na} L=>L.lone fun x hx y hy=>by
  obtain⟨j,j1,ej⟩:=zaY hx
  exact first x (by rw[show 0=j by lia];exact ej) y (List.mem_of_mem_take hy)
 have L0:Bt rk (a.toList++b.toList) a b #[z0] (a.size-1) b.size:=by
  have w0:Bt rk (a.toList++b.toList) a b #[] a.size b.size:=by
   have e1:a.toList.take a.size=a.toList:=List.take_of_length_le (by rw[Array.length_toList];exact Nat.le_refl _)
   have e2:b.toList.take b.size=b.toList:=List.take_of_length_le (by rw[Array.length_toList];exact Nat.le_refl _)
   unfold Bt
   rw[e1,e2]
   exact⟨sa,sb,List.Pairwise.nil,fun x hx y hy=>by simp at hy,fun x hx y hy=>by simp at hy,by simp⟩
  exact w0.pushA a1 e0 fun x hx=>last z0 e0 x (List.mem_of_mem_take hx)
 have size:∀ {out:Array Keyed}{na nb:Nat},Bt rk (a.toList++b.toList) a b out na nb→out.size≤a.size+b.size:=fun {out na nb} L=>by
  have:=L.pm.length_eq
  simp only[List.length_append,List.length_reverse,Array.length_toList]at this
  lia
 refine wpS_bind (zb9 ?_)
 refine wpS_bind (zah e0 ?_)
 dsimp only
 by_cases z1:a.size-1=0
 ·rw[if_pos (by simpa using z1)]
  rw[z1]at L0 ⊢
  obtain⟨q1,q2⟩:=L0.endA
  exact wpS_pure (h _ _ (Sm.refl _) q1 q2)
 rw[if_neg (by simpa using z1)]
 by_cases z2:b.size=1
 ·rw[if_pos (by simpa using z2)]
  rw[z2]at L0 ⊢
  obtain⟨q1,q2⟩:=lone L0
  exact wpS_pure (h _ _ (Sm.refl _) q1 q2)
 rw[if_neg (by simpa using z2)]
 refine wpS_bind (wpS_get ?_)
 refine wpS_bind (wpS_mono (wpS_forRange (I:=fun i c st1=>Sm st st1∧∃ na nb out g,c=(none,na,nb,out,g)∧Bt rk (a.toList++b.toList) a b out na nb∧1≤na∧na≤a.size∧2≤nb∧nb≤b.size∧i+1≤out.size)
  (Q:=fun c st1=>Sm st st1∧∃ r x,c=(some r,x)∧r.toList.Perm (a.toList++b.toList)∧Srt rk r.toList) ?step ?fin ⟨Sm.refl _,_,_,_,_,rfl,L0,by lia,by lia,by lia,by lia,by simp⟩) ?post)
 case post =>
  rintro c st1 ⟨S1,r,x,rfl,q1,q2⟩
  exact wpS_pure (h _ _ S1 q1 q2)
 case fin =>
  rintro c st1 ⟨S1,na,nb,out,g,rfl,L,_,_,_,_,sz⟩
  have:=size L
  lia
 case step =>
  rintro i c st1 _ hi ⟨S1,na,nb,out,g,rfl,L,la,la',lb,lb',sz⟩
  dsimp only
  refine wpS_bind (wpS_mono (wpS_forRange (I:=fun j c st2=>st2=st1∧∃ na nb out ca cb,c=(none,na,nb,out,ca,cb)∧Bt rk (a.toList++b.toList) a b out na nb∧1≤na∧na≤a.size∧2≤nb∧nb≤b.size∧i+1+j≤out.size)
   (Q:=fun c st2=>st2=st1∧((∃ r x,c=(some r,x)∧r.toList.Perm (a.toList++b.toList)∧Srt rk r.toList)∨∃ na nb out ca cb,c=(none,na,nb,out,ca,cb)∧Bt rk (a.toList++b.toList) a b out na nb∧1≤na∧na≤a.size∧2≤nb∧nb≤b.size∧i+2≤out.size)) ?_ ?_ ⟨rfl,_,_,_,_,_,rfl,L,la,la',lb,lb',by lia⟩) ?_)
  ·rintro j c st2 _ hj ⟨rfl,na,nb,out,ca,cb,rfl,L,la,la',lb,lb',sz⟩
   dsimp only
   obtain⟨x,ex,px⟩:=atA (na-1) (by lia)
   obtain⟨y,ey,py⟩:=atB (nb-1) (by lia)
   refine wpS_bind (zah ey (wpS_bind (zah ex (wpS_bind (zgU C (S1.kind.trans hk) py px ?_)))))
   by_cases z:rk y<rk x
   ·rw[decide_eq_true z]
    dsimp only
    rw[if_pos rfl]
    have L':=L.pushA la ex fun u hu=>Int.le_trans (za7 sb (by lia) ey u hu) (Int.le_of_lt z)
    refine wpS_bind (zah ex ?_)
    by_cases zb:na-1=0
    ·rw[if_pos (by simpa using zb)]
     rw[zb]at L' ⊢
     obtain⟨q1,q2⟩:=L'.endA
     exact wpS_pure ⟨rfl,.inl ⟨_,_,rfl,q1,q2⟩⟩
    ·rw[if_neg (by simpa using zb)]
     by_cases zg:ca+1≥g
     ·rw[if_pos zg]
      exact wpS_pure ⟨rfl,.inr ⟨_,_,_,_,_,rfl,L',by lia,by lia,lb,lb',by rw[Array.size_push];lia⟩⟩
     ·rw[if_neg zg]
      exact wpS_pure ⟨rfl,_,_,_,_,_,rfl,L',by lia,by lia,lb,lb',by rw[Array.size_push];lia⟩
   ·rw[decide_eq_false z]
    dsimp only
    rw[if_neg Bool.false_ne_true]
    have L':=L.pushB (by lia) ey fun u hu=>Int.le_trans (za7 sa la ex u hu) (by lia)
    refine wpS_bind (zah ey ?_)
    by_cases zb:nb-1=1
    ·rw[if_pos (by simpa using zb)]
     rw[zb]at L' ⊢
     obtain⟨q1,q2⟩:=lone L'
     exact wpS_pure ⟨rfl,.inl ⟨_,_,rfl,q1,q2⟩⟩
    ·rw[if_neg (by simpa using zb)]
     by_cases zg:cb+1≥g
     ·rw[if_pos zg]
      exact wpS_pure ⟨rfl,.inr ⟨_,_,_,_,_,rfl,L',la,la',by lia,by lia,by rw[Array.size_push];lia⟩⟩
     ·rw[if_neg zg]
      exact wpS_pure ⟨rfl,_,_,_,_,_,rfl,L',la,la',by lia,by lia,by rw[Array.size_push];lia⟩
  ·rintro c st2 ⟨rfl,na,nb,out,ca,cb,rfl,L,la,la',lb,lb',sz⟩
   have:=size L
   lia
  ·rintro c st2 ⟨rfl,⟨r,x,rfl,q1,q2⟩|⟨na,nb,out,ca,cb,rfl,L,la,la',lb,lb',sz⟩⟩
   ·exact wpS_pure ⟨S1,r,_,rfl,q1,q2⟩
   dsimp only
   refine wpS_bind (zb9 ?_)
   refine wpS_bind (wpS_mono (wpS_forRange (I:=fun j c st3=>Sm st st3∧∃ na nb out g ca cb,c=(none,na,nb,out,g,ca,cb)∧Bt rk (a.toList++b.toList) a b out na nb∧1≤na∧na≤a.size∧2≤nb∧nb≤b.size∧i+2≤out.size)
    (Q:=fun c st3=>Sm st st3∧((∃ r x,c=(some r,x)∧r.toList.Perm (a.toList++b.toList)∧Srt rk r.toList)∨∃ na nb out g ca cb,c=(none,na,nb,out,g,ca,cb)∧Bt rk (a.toList++b.toList) a b out na nb∧1≤na∧na≤a.size∧2≤nb∧nb≤b.size∧i+2≤out.size)) ?_ ?_ ⟨S1,_,_,_,_,_,_,rfl,L,la,la',lb,lb',sz⟩) ?_)
   ·rintro j c st3 _ hj ⟨S3,na,nb,out,g,ca,cb,rfl,L,la,la',lb,lb',sz⟩
    dsimp only
    obtain⟨y,ey,py⟩:=atB (nb-1) (by lia)
    by_cases zg:g > 1
    ·rw[if_pos zg]
     refine wpS_bind (zdg fun st4 S4=>?_)
     have S4:=S3.trans S4
     refine wpS_bind (zah ey (wpS_bind (za5 C (S4.kind.trans hk) py (fun t ht=>atA (0+t) (by lia)) (zbK sa (by lia)) (by lia) fun k hk1 g1 g2=>?_)))
     dsimp only
     have L1:=L.cutA (i:=k) hk1 fun t u tk tn eu v hv=>by
      have:=g2 t tk tn
      rw[Nat.zero_add,R_at eu]at this
      unfold bd at this
      simp only[Bool.false_eq_true,if_false,Bool.not_eq_false',decide_eq_true_eq]at this
      have:=za7 sb (by lia) ey v hv
      lia
     have hle:∀ u∈a.toList.take k,rk u≤rk y:=fun u hu=>by
      obtain⟨t,tk,et⟩:=zaY hu
      have:=g1 t tk
      rw[Nat.zero_add,R_at et]at this
      unfold bd at this
      simp only[Bool.false_eq_true,if_false,Bool.not_eq_true',decide_eq_false_iff_not]at this
      lia
     have sz1:i+2≤(out++(a.extract k na).reverse).size:=by rw[Array.size_append];lia
     by_cases zk:na-k > 0
     ·rw[if_pos zk]
      by_cases zc:k=0
      ·rw[if_pos (by simpa using zc)]
       subst zc
       obtain⟨q1,q2⟩:=L1.endA
       exact wpS_pure ⟨S4,.inl ⟨_,_,rfl,q1,q2⟩⟩
      rw[if_neg (by simpa using zc)]
      have ka:1≤k:=by lia
      generalize na-k=kk
      generalize out++(a.extract k na).reverse=out1 at L1 sz1 ⊢
      refine wpS_bind (zah ey ?_)
      have L2:=L1.pushB (by lia) ey hle
      by_cases zb:nb-1=1
      ·rw[if_pos (by simpa using zb)]
       rw[zb]at L2 ⊢
       obtain⟨q1,q2⟩:=lone L2
       exact wpS_pure ⟨S4,.inl ⟨_,_,rfl,q1,q2⟩⟩
      rw[if_neg (by simpa using zb)]
      obtain⟨x1,ex1,px1⟩:=atA (k-1) (by lia)
      refine wpS_bind (zah ex1 (wpS_bind (za5 C (S4.kind.trans hk) px1 (fun t ht=>atB (0+t) (by lia)) (zbK sb (by lia)) (by lia) fun k2 hk2 c1 c2=>?_)))
      dsimp only
      have L3:=L2.cutB (i:=k2) hk2 fun t u tk tn eu v hv=>by
       have:=c2 t tk tn
       rw[Nat.zero_add,R_at eu]at this
       unfold bd at this
       simp only[if_true,decide_eq_false_iff_not]at this
       have:=za7 sa ka ex1 v hv
       lia
      have hle2:∀ u∈b.toList.take k2,rk u≤rk x1:=fun u hu=>by
       obtain⟨t,tk,et⟩:=zaY hu
       have:=c1 t tk
       rw[Nat.zero_add,R_at et]at this
       unfold bd at this
       simp only[if_true,decide_eq_true_eq]at this
       lia
      by_cases zk2:nb-1-k2 > 0
      ·rw[if_pos zk2]
       by_cases zd:k2=1
       ·rw[if_pos (by simpa using zd)]
        subst zd
        obtain⟨q1,q2⟩:=lone L3
        exact wpS_pure ⟨S4,.inl ⟨_,_,rfl,q1,q2⟩⟩
       rw[if_neg (by simpa using zd)]
       by_cases zf:k2=0
       ·rw[if_pos (by simpa using zf)]
        subst zf
        obtain⟨q1,q2⟩:=L3.endB
        exact wpS_pure ⟨S4,.inl ⟨_,_,rfl,q1,q2⟩⟩
       rw[if_neg (by simpa using zf)]
       refine wpS_bind (zah ex1 ?_)
       have L4:=L3.pushA ka ex1 hle2
       by_cases ze:k-1=0
       ·rw[if_pos (by simpa using ze)]
        rw[ze]at L4 ⊢
        obtain⟨q1,q2⟩:=L4.endA
        exact wpS_pure ⟨S4,.inl ⟨_,_,rfl,q1,q2⟩⟩
       rw[if_neg (by simpa using ze)]
       split
       ·exact wpS_pure ⟨S4,.inr ⟨_,_,_,_,_,_,rfl,L4,by lia,by lia,by lia,by lia,by simp only[Array.size_push,Array.size_append];lia⟩⟩
       ·exact wpS_pure ⟨S4,_,_,_,_,_,_,rfl,L4,by lia,by lia,by lia,by lia,by simp only[Array.size_push,Array.size_append];lia⟩
      ·rw[if_neg zk2]
       obtain rfl:k2=nb-1:=by lia
       refine wpS_bind (zah ex1 ?_)
       have L4:=L2.pushA ka ex1 hle2
       by_cases ze:k-1=0
       ·rw[if_pos (by simpa using ze)]
        rw[ze]at L4 ⊢
        obtain⟨q1,q2⟩:=L4.endA
        exact wpS_pure ⟨S4,.inl ⟨_,_,rfl,q1,q2⟩⟩
       rw[if_neg (by simpa using ze)]
       split
       ·exact wpS_pure ⟨S4,.inr ⟨_,_,_,_,_,_,rfl,L4,by lia,by lia,by lia,by lia,by simp only[Array.size_push,Array.size_append];lia⟩⟩
       ·exact wpS_pure ⟨S4,_,_,_,_,_,_,rfl,L4,by lia,by lia,by lia,by lia,by simp only[Array.size_push,Array.size_append];lia⟩
     ·rw[if_neg zk]
      obtain rfl:k=na:=by lia
      have L1:=L
      have ka:=la
      have sz1:=sz
      generalize k-k=kk
      refine wpS_bind (zah ey ?_)
      have L2:=L1.pushB (by lia) ey hle
      by_cases zb:nb-1=1
      ·rw[if_pos (by simpa using zb)]
       rw[zb]at L2 ⊢
       obtain⟨q1,q2⟩:=lone L2
       exact wpS_pure ⟨S4,.inl ⟨_,_,rfl,q1,q2⟩⟩
      rw[if_neg (by simpa using zb)]
      obtain⟨x1,ex1,px1⟩:=atA (k-1) (by lia)
      refine wpS_bind (zah ex1 (wpS_bind (za5 C (S4.kind.trans hk) px1 (fun t ht=>atB (0+t) (by lia)) (zbK sb (by lia)) (by lia) fun k2 hk2 c1 c2=>?_)))
      dsimp only
      have L3:=L2.cutB (i:=k2) hk2 fun t u tk tn eu v hv=>by
       have:=c2 t tk tn
       rw[Nat.zero_add,R_at eu]at this
       unfold bd at this
       simp only[if_true,decide_eq_false_iff_not]at this
       have:=za7 sa ka ex1 v hv
       lia
      have hle2:∀ u∈b.toList.take k2,rk u≤rk x1:=fun u hu=>by
       obtain⟨t,tk,et⟩:=zaY hu
       have:=c1 t tk
       rw[Nat.zero_add,R_at et]at this
       unfold bd at this
       simp only[if_true,decide_eq_true_eq]at this
       lia
      by_cases zk2:nb-1-k2 > 0
      ·rw[if_pos zk2]
       by_cases zd:k2=1
       ·rw[if_pos (by simpa using zd)]
        subst zd
        obtain⟨q1,q2⟩:=lone L3
        exact wpS_pure ⟨S4,.inl ⟨_,_,rfl,q1,q2⟩⟩
       rw[if_neg (by simpa using zd)]
       by_cases zf:k2=0
       ·rw[if_pos (by simpa using zf)]
        subst zf
        obtain⟨q1,q2⟩:=L3.endB
        exact wpS_pure ⟨S4,.inl ⟨_,_,rfl,q1,q2⟩⟩
       rw[if_neg (by simpa using zf)]
       refine wpS_bind (zah ex1 ?_)
       have L4:=L3.pushA ka ex1 hle2
       by_cases ze:k-1=0
       ·rw[if_pos (by simpa using ze)]
        rw[ze]at L4 ⊢
        obtain⟨q1,q2⟩:=L4.endA
        exact wpS_pure ⟨S4,.inl ⟨_,_,rfl,q1,q2⟩⟩
       rw[if_neg (by simpa using ze)]
       split
       ·exact wpS_pure ⟨S4,.inr ⟨_,_,_,_,_,_,rfl,L4,by lia,by lia,by lia,by lia,by simp only[Array.size_push,Array.size_append];lia⟩⟩
       ·exact wpS_pure ⟨S4,_,_,_,_,_,_,rfl,L4,by lia,by lia,by lia,by lia,by simp only[Array.size_push,Array.size_append];lia⟩
      ·rw[if_neg zk2]
       obtain rfl:k2=nb-1:=by lia
       refine wpS_bind (zah ex1 ?_)
       have L4:=L2.pushA ka ex1 hle2
       by_cases ze:k-1=0
       ·rw[if_pos (by simpa using ze)]
        rw[ze]at L4 ⊢
        obtain⟨q1,q2⟩:=L4.endA
        exact wpS_pure ⟨S4,.inl ⟨_,_,rfl,q1,q2⟩⟩
       rw[if_neg (by simpa using ze)]
       split
       ·exact wpS_pure ⟨S4,.inr ⟨_,_,_,_,_,_,rfl,L4,by lia,by lia,by lia,by lia,by simp only[Array.size_push,Array.size_append];lia⟩⟩
       ·exact wpS_pure ⟨S4,_,_,_,_,_,_,rfl,L4,by lia,by lia,by lia,by lia,by simp only[Array.size_push,Array.size_append];lia⟩
    ·rw[if_neg zg]
     refine wpS_bind (zdg fun st4 S4=>?_)
     have S4:=S3.trans S4
     refine wpS_bind (zah ey (wpS_bind (za5 C (S4.kind.trans hk) py (fun t ht=>atA (0+t) (by lia)) (zbK sa (by lia)) (by lia) fun k hk1 g1 g2=>?_)))
     dsimp only
     have L1:=L.cutA (i:=k) hk1 fun t u tk tn eu v hv=>by
      have:=g2 t tk tn
      rw[Nat.zero_add,R_at eu]at this
      unfold bd at this
      simp only[Bool.false_eq_true,if_false,Bool.not_eq_false',decide_eq_true_eq]at this
      have:=za7 sb (by lia) ey v hv
      lia
     have hle:∀ u∈a.toList.take k,rk u≤rk y:=fun u hu=>by
      obtain⟨t,tk,et⟩:=zaY hu
      have:=g1 t tk
      rw[Nat.zero_add,R_at et]at this
      unfold bd at this
      simp only[Bool.false_eq_true,if_false,Bool.not_eq_true',decide_eq_false_iff_not]at this
      lia
     have sz1:i+2≤(out++(a.extract k na).reverse).size:=by rw[Array.size_append];lia
     by_cases zk:na-k > 0
     ·rw[if_pos zk]
      by_cases zc:k=0
      ·rw[if_pos (by simpa using zc)]
       subst zc
       obtain⟨q1,q2⟩:=L1.endA
       exact wpS_pure ⟨S4,.inl ⟨_,_,rfl,q1,q2⟩⟩
      rw[if_neg (by simpa using zc)]
      have ka:1≤k:=by lia
      generalize na-k=kk
      generalize out++(a.extract k na).reverse=out1 at L1 sz1 ⊢
      refine wpS_bind (zah ey ?_)
      have L2:=L1.pushB (by lia) ey hle
      by_cases zb:nb-1=1
      ·rw[if_pos (by simpa using zb)]
       rw[zb]at L2 ⊢
       obtain⟨q1,q2⟩:=lone L2
       exact wpS_pure ⟨S4,.inl ⟨_,_,rfl,q1,q2⟩⟩
      rw[if_neg (by simpa using zb)]
      obtain⟨x1,ex1,px1⟩:=atA (k-1) (by lia)
      refine wpS_bind (zah ex1 (wpS_bind (za5 C (S4.kind.trans hk) px1 (fun t ht=>atB (0+t) (by lia)) (zbK sb (by lia)) (by lia) fun k2 hk2 c1 c2=>?_)))
      dsimp only
      have L3:=L2.cutB (i:=k2) hk2 fun t u tk tn eu v hv=>by
       have:=c2 t tk tn
       rw[Nat.zero_add,R_at eu]at this
       unfold bd at this
       simp only[if_true,decide_eq_false_iff_not]at this
       have:=za7 sa ka ex1 v hv
       lia
      have hle2:∀ u∈b.toList.take k2,rk u≤rk x1:=fun u hu=>by
       obtain⟨t,tk,et⟩:=zaY hu
       have:=c1 t tk
       rw[Nat.zero_add,R_at et]at this
       unfold bd at this
       simp only[if_true,decide_eq_true_eq]at this
       lia
      by_cases zk2:nb-1-k2 > 0
      ·rw[if_pos zk2]
       by_cases zd:k2=1
       ·rw[if_pos (by simpa using zd)]
        subst zd
        obtain⟨q1,q2⟩:=lone L3
        exact wpS_pure ⟨S4,.inl ⟨_,_,rfl,q1,q2⟩⟩
       rw[if_neg (by simpa using zd)]
       by_cases zf:k2=0
       ·rw[if_pos (by simpa using zf)]
        subst zf
        obtain⟨q1,q2⟩:=L3.endB
        exact wpS_pure ⟨S4,.inl ⟨_,_,rfl,q1,q2⟩⟩
       rw[if_neg (by simpa using zf)]
       refine wpS_bind (zah ex1 ?_)
       have L4:=L3.pushA ka ex1 hle2
       by_cases ze:k-1=0
       ·rw[if_pos (by simpa using ze)]
        rw[ze]at L4 ⊢
        obtain⟨q1,q2⟩:=L4.endA
        exact wpS_pure ⟨S4,.inl ⟨_,_,rfl,q1,q2⟩⟩
       rw[if_neg (by simpa using ze)]
       split
       ·exact wpS_pure ⟨S4,.inr ⟨_,_,_,_,_,_,rfl,L4,by lia,by lia,by lia,by lia,by simp only[Array.size_push,Array.size_append];lia⟩⟩
       ·exact wpS_pure ⟨S4,_,_,_,_,_,_,rfl,L4,by lia,by lia,by lia,by lia,by simp only[Array.size_push,Array.size_append];lia⟩
      ·rw[if_neg zk2]
       obtain rfl:k2=nb-1:=by lia
       refine wpS_bind (zah ex1 ?_)
       have L4:=L2.pushA ka ex1 hle2
       by_cases ze:k-1=0
       ·rw[if_pos (by simpa using ze)]
        rw[ze]at L4 ⊢
        obtain⟨q1,q2⟩:=L4.endA
        exact wpS_pure ⟨S4,.inl ⟨_,_,rfl,q1,q2⟩⟩
       rw[if_neg (by simpa using ze)]
       split
       ·exact wpS_pure ⟨S4,.inr ⟨_,_,_,_,_,_,rfl,L4,by lia,by lia,by lia,by lia,by simp only[Array.size_push,Array.size_append];lia⟩⟩
       ·exact wpS_pure ⟨S4,_,_,_,_,_,_,rfl,L4,by lia,by lia,by lia,by lia,by simp only[Array.size_push,Array.size_append];lia⟩
     ·rw[if_neg zk]
      obtain rfl:k=na:=by lia
      have L1:=L
      have ka:=la
      have sz1:=sz
      generalize k-k=kk
      refine wpS_bind (zah ey ?_)
      have L2:=L1.pushB (by lia) ey hle
      by_cases zb:nb-1=1
      ·rw[if_pos (by simpa using zb)]
       rw[zb]at L2 ⊢
       obtain⟨q1,q2⟩:=lone L2
       exact wpS_pure ⟨S4,.inl ⟨_,_,rfl,q1,q2⟩⟩
      rw[if_neg (by simpa using zb)]
      obtain⟨x1,ex1,px1⟩:=atA (k-1) (by lia)
      refine wpS_bind (zah ex1 (wpS_bind (za5 C (S4.kind.trans hk) px1 (fun t ht=>atB (0+t) (by lia)) (zbK sb (by lia)) (by lia) fun k2 hk2 c1 c2=>?_)))
      dsimp only
      have L3:=L2.cutB (i:=k2) hk2 fun t u tk tn eu v hv=>by
       have:=c2 t tk tn
       rw[Nat.zero_add,R_at eu]at this
       unfold bd at this
       simp only[if_true,decide_eq_false_iff_not]at this
       have:=za7 sa ka ex1 v hv
       lia
      have hle2:∀ u∈b.toList.take k2,rk u≤rk x1:=fun u hu=>by
       obtain⟨t,tk,et⟩:=zaY hu
       have:=c1 t tk
       rw[Nat.zero_add,R_at et]at this
       unfold bd at this
       simp only[if_true,decide_eq_true_eq]at this
       lia
      by_cases zk2:nb-1-k2 > 0
      ·rw[if_pos zk2]
       by_cases zd:k2=1
       ·rw[if_pos (by simpa using zd)]
        subst zd
        obtain⟨q1,q2⟩:=lone L3
        exact wpS_pure ⟨S4,.inl ⟨_,_,rfl,q1,q2⟩⟩
       rw[if_neg (by simpa using zd)]
       by_cases zf:k2=0
       ·rw[if_pos (by simpa using zf)]
        subst zf
        obtain⟨q1,q2⟩:=L3.endB
        exact wpS_pure ⟨S4,.inl ⟨_,_,rfl,q1,q2⟩⟩
       rw[if_neg (by simpa using zf)]
       refine wpS_bind (zah ex1 ?_)
       have L4:=L3.pushA ka ex1 hle2
       by_cases ze:k-1=0
       ·rw[if_pos (by simpa using ze)]
        rw[ze]at L4 ⊢
        obtain⟨q1,q2⟩:=L4.endA
        exact wpS_pure ⟨S4,.inl ⟨_,_,rfl,q1,q2⟩⟩
       rw[if_neg (by simpa using ze)]
       split
       ·exact wpS_pure ⟨S4,.inr ⟨_,_,_,_,_,_,rfl,L4,by lia,by lia,by lia,by lia,by simp only[Array.size_push,Array.size_append];lia⟩⟩
       ·exact wpS_pure ⟨S4,_,_,_,_,_,_,rfl,L4,by lia,by lia,by lia,by lia,by simp only[Array.size_push,Array.size_append];lia⟩
      ·rw[if_neg zk2]
       obtain rfl:k2=nb-1:=by lia
       refine wpS_bind (zah ex1 ?_)
       have L4:=L2.pushA ka ex1 hle2
       by_cases ze:k-1=0
       ·rw[if_pos (by simpa using ze)]
        rw[ze]at L4 ⊢
        obtain⟨q1,q2⟩:=L4.endA
        exact wpS_pure ⟨S4,.inl ⟨_,_,rfl,q1,q2⟩⟩
       rw[if_neg (by simpa using ze)]
       split
       ·exact wpS_pure ⟨S4,.inr ⟨_,_,_,_,_,_,rfl,L4,by lia,by lia,by lia,by lia,by simp only[Array.size_push,Array.size_append];lia⟩⟩
       ·exact wpS_pure ⟨S4,_,_,_,_,_,_,rfl,L4,by lia,by lia,by lia,by lia,by simp only[Array.size_push,Array.size_append];lia⟩
   ·rintro c st3 ⟨S3,na,nb,out,g,ca,cb,rfl,L,la,la',lb,lb',sz⟩
    exact⟨S3,.inr ⟨_,_,_,_,_,_,rfl,L,la,la',lb,lb',sz⟩⟩
   ·rintro c st3 ⟨S3,⟨r,x,rfl,q1,q2⟩|⟨na,nb,out,g,ca,cb,rfl,L,la,la',lb,lb',sz⟩⟩
    ·exact wpS_pure ⟨S3,r,_,rfl,q1,q2⟩
    dsimp only
    refine wpS_bind (zdg fun st4 S4=>?_)
    exact wpS_pure ⟨S3.trans S4,_,_,_,_,rfl,L,la,la',lb,lb',by lia⟩
end
section
variable {rk:Keyed→Int}
theorem zc2 (b:Nat):∀ (l:List Keyed) (o:Nat) (arr:Array Keyed),b+o+l.length≤arr.size→(List.foldl (fun (a:Array Keyed) (x:Keyed × Nat)=>a.setIfInBounds (b+x.2) x.1) arr (l.zipIdx o)).toList=arr.toList.take (b+o)++l++arr.toList.drop (b+o+l.length)
 | [],o,arr,_=>by
  show arr.toList=_
  rw[List.append_nil,List.length_nil,Nat.add_zero,List.take_append_drop]
 | x::l,o,arr,h=>by
  rw[List.length_cons]at h
  rw[List.zipIdx_cons,List.foldl_cons,zc2 b l (o+1) _ (by rw[Array.size_setIfInBounds];lia)]
  have hl:b+o<arr.toList.length:=by rw[Array.length_toList];lia
  rw[Array.toList_setIfInBounds,← Nat.add_assoc,List.drop_set_of_lt (by lia),List.length_cons,show b+o+1+l.length=b+o+(l.length+1) by lia]
  have e:(arr.toList.set (b+o) x).take (b+o+1)=arr.toList.take (b+o)++[x]:=by
   rw[List.take_succ_eq_append_getElem (by rw[List.length_set];exact hl),List.getElem_set_self,List.take_set_of_le (Nat.le_refl _)]
  rw[e,List.append_assoc (arr.toList.take (b+o)) [x] l]
  rfl
theorem zhh {arr:Array Keyed}{i n j:Nat}(h:i+j<n) (hn:n≤arr.size):(arr.extract i n)[j]?=arr[i+j]?:=by
 rw[Array.getElem?_extract_of_lt (by lia)]
 exact(getElem?_pos arr (i+j) (by lia)).symm
theorem zgc {arr:Array Keyed}{lo n:Nat}(h:Up rk arr lo n) (hn:lo+n≤arr.size):Srt rk (arr.extract lo (lo+n)).toList:=by
 refine List.pairwise_iff_getElem.mpr fun i j hi hj ij=>?_
 have hs:(arr.extract lo (lo+n)).size=n:=by rw[Array.size_extract];lia
 rw[Array.length_toList,hs]at hi hj
 have:=h (lo+i) (lo+j) (by lia) (by lia) (by lia)
 rw[R_at (getElem?_pos arr (lo+i) (by lia)),R_at (getElem?_pos arr (lo+j) (by lia))]at this
 simpa using this
end
section
variable {prog:Program}{w:World}{A:Around}{E:Value→Shared→Prop}{s:Shared}{κ:SortKind}{P:Keyed→Prop}{rk:Keyed→Int}{a₀:Array Keyed}
theorem zkz (C:Cmp prog w A s κ P rk) {st:SortSt}{Q:Bool→SortSt→Prop}{i sa na p sb nb q:Nat}(hB:Bs κ P a₀ st) (e1:(pendingOf st)[i]?=some (sa,na,p)) (e2:(pendingOf st)[i+1]?=some (sb,nb,q)) (hs:sb=sa+na) (n1:1≤na) (n2:1≤nb) (hz:sb+nb≤a₀.size)
  (ua:Up rk (arrOf st) sa na) (ub:Up rk (arrOf st) sb nb)
  (h:∀ st',Bs κ P a₀ st'→pendingOf st'=((pendingOf st).setIfInBounds i (sa,na+nb,p)).eraseIdxIfInBounds (i+1)→(∀ k,k<sa∨sb+nb≤k→R rk (arrOf st') k=R rk (arrOf st) k)→Up rk (arrOf st') sa (na+nb)→Q true st'):wpS (model prog w) A E s (mergeAt' i) Q st:=by
 refine wpS_bind (wpS_get ?_)
 dsimp only
 rw[e1,e2]
 dsimp only
 obtain⟨b0,eb0,pb0,rb0⟩:=hB.at (i:=sb) (by lia) rk
 have sz:=hB.size
 have setS:∀ {st1 st2:SortSt}{Q':PUnit→SortSt→Prop},Q' ⟨⟩ st2→wpS (model prog w) A E s (set st2:StateT SortSt Sem PUnit) Q' st1:=fun {st1 st2 Q'} hq=>by
  unfold wpS;rw[StateT.run_set];exact wpAny_pure ⟨rfl,hq⟩
 refine wpS_bind (setS (st2:=SortSt.mk' (kindOf st) (arrOf st) (((pendingOf st).setIfInBounds i (sa,na+nb,p)).eraseIdxIfInBounds (i+1)) (gallopOf st) (failedOf st)) ?_)
 generalize hS1:SortSt.mk' (kindOf st) (arrOf st) (((pendingOf st).setIfInBounds i (sa,na+nb,p)).eraseIdxIfInBounds (i+1)) (gallopOf st) (failedOf st)=st1
 have hB1:Bs κ P a₀ st1:=by rw[← hS1];exact⟨hB.kind,hB.fail,hB.perm,hB.all⟩
 have ea:arrOf st1=arrOf st:=by rw[← hS1]
 have ep:pendingOf st1=((pendingOf st).setIfInBounds i (sa,na+nb,p)).eraseIdxIfInBounds (i+1):=by rw[← hS1]
 have pat:∀ j,j<a₀.size→∃ x,(arrOf st)[j]?=some x∧P x:=fun j hj=>by
  obtain⟨x,ex,px,_⟩:=hB.at hj rk
  exact⟨x,ex,px⟩
 refine wpS_bind (zah eb0 (wpS_bind (za5 (arr:=arrOf st) C hB1.kind pb0 (fun t ht=>pat (sa+t) (by lia)) ua (by lia) fun k hk1 g1 g2=>?_)))
 dsimp only
 have f1:∀ j,sa≤j→j<sa+k→R rk (arrOf st) j≤rk b0:=fun j j1 j2=>by
  have:=g1 (j-sa) (by lia)
  rw[show sa+(j-sa)=j by lia]at this
  unfold bd at this
  simp only[Bool.false_eq_true,if_false,Bool.not_eq_true',decide_eq_false_iff_not]at this
  lia
 have f2:∀ j,sa+k≤j→j<sb→rk b0≤R rk (arrOf st) j:=fun j j1 j2=>by
  have:=g2 (j-sa) (by lia) (by lia)
  rw[show sa+(j-sa)=j by lia]at this
  unfold bd at this
  simp only[Bool.false_eq_true,if_false,Bool.not_eq_false',decide_eq_true_eq]at this
  lia
 have f0:∀ j,sb≤j→j<sb+nb→rk b0≤R rk (arrOf st) j:=fun j j1 j2=>by rw[← rb0];exact ub _ _ (Nat.le_refl _) j1 j2
 by_cases zk:na-k=0
 ·rw[if_pos (by simpa using zk)]
  refine wpS_pure (h st1 hB1 ep (fun j _=>by rw[ea]) fun x y hx hxy hy=>?_)
  rw[ea]
  by_cases q1:y<sb
  ·exact ua _ _ hx hxy (by lia)
  ·by_cases q2:sb≤x
   ·exact ub _ _ q2 hxy (by lia)
   ·exact Int.le_trans (f1 x hx (by lia)) (f0 y (by lia) (by lia))
 rw[if_neg (by simpa using zk)]
 have ka:sa+k+(na-k)-1=sb-1:=by lia
 rw[ka]
 obtain⟨l0,el0,pl0,rl0⟩:=hB.at (i:=sb-1) (by lia) rk
 refine wpS_bind (zah el0 (wpS_bind (za5 (arr:=arrOf st) C hB1.kind pl0 (fun t ht=>pat (sb+t) (by lia)) ub (by lia) fun n hn1 c1 c2=>?_)))
 dsimp only
 have f3:∀ j,sb≤j→j<sb+n→R rk (arrOf st) j≤rk l0:=fun j j1 j2=>by
  have:=c1 (j-sb) (by lia)
  rw[show sb+(j-sb)=j by lia]at this
  unfold bd at this
  simp only[if_true,decide_eq_true_eq]at this
  lia
 have f4:∀ j,sb+n≤j→j<sb+nb→rk l0≤R rk (arrOf st) j:=fun j j1 j2=>by
  have:=c2 (j-sb) (by lia) (by lia)
  rw[show sb+(j-sb)=j by lia]at this
  unfold bd at this
  simp only[if_true,decide_eq_false_iff_not]at this
  lia
 have f5:∀ j,sa≤j→j<sb→R rk (arrOf st) j≤rk l0:=fun j j1 j2=>by rw[← rl0];exact ua _ _ j1 (by lia) (by lia)
 by_cases zn:n=0
 ·rw[if_pos (by simpa using zn)]
  refine wpS_pure (h st1 hB1 ep (fun j _=>by rw[ea]) fun x y hx hxy hy=>?_)
  rw[ea]
  by_cases q1:y<sb
  ·exact ua _ _ hx hxy (by lia)
  ·by_cases q2:sb≤x
   ·exact ub _ _ q2 hxy (by lia)
   ·exact Int.le_trans (f5 x hx (by lia)) (f4 y (by lia) (by lia))
 rw[if_neg (by simpa using zn)]
 have sx:((arrOf st).extract (sa+k) sb).size=na-k:=by rw[Array.size_extract];lia
 have sy:((arrOf st).extract sb (sb+n)).size=n:=by rw[Array.size_extract];lia
 have px:∀ x∈((arrOf st).extract (sa+k) sb).toList,P x:=fun x hx=>by
  obtain⟨j,j1,j2,ej⟩:=zcV hx
  obtain⟨y,ey,py⟩:=pat j (by lia)
  rw[ej]at ey;cases ey;exact py
 have py:∀ x∈((arrOf st).extract sb (sb+n)).toList,P x:=fun x hx=>by
  obtain⟨j,j1,j2,ej⟩:=zcV hx
  obtain⟨y,ey,py⟩:=pat j (by lia)
  rw[ej]at ey;cases ey;exact py
 have ox:Srt rk ((arrOf st).extract (sa+k) sb).toList:=by
  have:=zgc (rk:=rk) (arr:=arrOf st) (lo:=sa+k) (n:=na-k) (fun x y hx hxy hy=>ua x y (by lia) hxy (by lia)) (by lia)
  rwa [show sa+k+(na-k)=sb by lia]at this
 have oy:Srt rk ((arrOf st).extract sb (sb+n)).toList:=zgc (fun x y hx hxy hy=>ub x y (by lia) hxy (by lia)) (by lia)
 have first:∀ x,((arrOf st).extract sb (sb+n))[0]?=some x→∀ y∈((arrOf st).extract (sa+k) sb).toList,rk x≤rk y:=fun x ex y hy=>by
  rw[zhh (by lia) (by lia),Nat.add_zero,eb0]at ex
  obtain⟨j,j1,j2,ej⟩:=zcV hy
  have:=f2 j j1 j2
  rw[R_at ej]at this
  cases ex;exact this
 have last:∀ x,((arrOf st).extract (sa+k) sb)[((arrOf st).extract (sa+k) sb).size-1]?=some x→∀ y∈((arrOf st).extract sb (sb+n)).toList,rk y≤rk x:=fun x ex y hy=>by
  rw[sx,zhh (by lia) (by lia),show sa+k+(na-k-1)=sb-1 by lia,el0]at ex
  obtain⟨j,j1,j2,ej⟩:=zcV hy
  have:=f3 j j1 (by lia)
  rw[R_at ej]at this
  cases ex;exact this
 have fin:∀ (m:Array Keyed) (st2:SortSt),Sm st1 st2→m.toList.Perm (((arrOf st).extract (sa+k) sb).toList++((arrOf st).extract sb (sb+n)).toList)→Srt rk m.toList →
   wpS (model prog w) A E s (do
    modify fun s=>setArr s (m.toList.zipIdx.foldl (fun (a:Array Keyed) (x:Keyed × Nat)=>a.setIfInBounds (sa+k+x.2) x.1) (arrOf s))
    let s' ← get
    pure (failedOf s').isNone) Q st2:=by
  intro m st2 S2 pm sm
  have ea2:arrOf st2=arrOf st:=S2.arr.trans ea
  have ml:m.toList.length=na-k+n:=by rw[pm.length_eq,List.length_append,Array.length_toList,Array.length_toList,sx,sy]
  have wl:=zc2 (sa+k) m.toList 0 (arrOf st2) (by rw[ea2,sz,ml];lia)
  generalize hW:List.foldl (fun (a:Array Keyed) (x:Keyed × Nat)=>a.setIfInBounds (sa+k+x.2) x.1) (arrOf st2) m.toList.zipIdx=W at wl
  rw[Nat.add_zero,ml,ea2,show sa+k+(na-k+n)=sb+n by lia]at wl
  have cutL:(arrOf st).toList=(arrOf st).toList.take (sa+k)++(((arrOf st).extract (sa+k) sb).toList++((arrOf st).extract sb (sb+n)).toList)++(arrOf st).toList.drop (sb+n):=by
   have d1:=zdU (arrOf st) (sa+k) (na-k)
   rw[show sa+k+(na-k)=sb by lia]at d1
   have d2:=zdU (arrOf st) sb n
   rw[List.append_assoc,List.append_assoc,← d2,← d1,List.take_append_drop]
  have pw:W.Perm (arrOf st):=by
   rw[Array.perm_iff_toList_perm,wl]
   conv=>rhs;rw[cutL]
   exact((pm.append_left _).append_right _)
  have lt0:((arrOf st).toList.take (sa+k)).length=sa+k:=by rw[List.length_take,Array.length_toList,sz];lia
  have wsz:W.size=a₀.size:=by rw[pw.size_eq,sz]
  have out1:∀ j,j<sa+k→R rk W j=R rk (arrOf st) j:=fun j hj=>R_congr (by
   rw[← Array.getElem?_toList,← Array.getElem?_toList,wl,List.append_assoc,List.getElem?_append_left (by rw[lt0];exact hj),List.getElem?_take_of_lt hj])
  have out2:∀ j,sb+n≤j→R rk W j=R rk (arrOf st) j:=fun j hj=>R_congr (by
   rw[← Array.getElem?_toList,← Array.getElem?_toList,wl,List.getElem?_append_right (by rw[List.length_append,lt0,ml];lia),List.length_append,lt0,ml,List.getElem?_drop]
   congr 1;lia)
  have mid:∀ j,sa+k≤j→j<sb+n→∃ x,m[j-(sa+k)]?=some x∧R rk W j=rk x:=fun j j1 j2=>by
   have jl:j-(sa+k)<m.size:=by rw[← Array.length_toList,ml];lia
   refine⟨_,getElem?_pos m _ jl,R_at ?_⟩
   rw[← Array.getElem?_toList,wl,List.append_assoc,List.getElem?_append_right (by rw[lt0];exact j1),lt0,List.getElem?_append_left (by rw[ml];lia),Array.getElem?_toList]
   exact getElem?_pos m _ jl
  have kids:∀ j x,m[j]?=some x→∃ t,((sa+k≤t∧t<sb)∨(sb≤t∧t<sb+n))∧R rk (arrOf st) t=rk x:=fun j x ex=>by
   have hm:x∈m.toList:=by
    obtain⟨hj,e⟩:=Array.getElem?_eq_some_iff.mp ex
    rw[← e];simp
   rcases List.mem_append.mp (pm.mem_iff.mp hm) with u|u
   ·obtain⟨t,t1,t2,et⟩:=zcV u
    exact⟨t,.inl ⟨t1,t2⟩,R_at et⟩
   ·obtain⟨t,t1,t2,et⟩:=zcV u
    exact⟨t,.inr ⟨t1,t2⟩,R_at et⟩
  refine wpS_bind (wpS_modify (wpS_bind (wpS_get (wpS_pure ?_))))
  rw[hW]
  have ff:(failedOf (setArr st2 W)).isNone=true:=by
   show (failedOf st2).isNone=true
   rw[S2.fail,hB1.fail];rfl
  rw[ff]
  refine h _ ⟨S2.kind.trans hB1.kind,S2.fail.trans hB1.fail,pw.trans hB.perm,hB.all⟩ (S2.pend.trans ep) (fun j hj=>?_) fun x y hx hxy hy=>?_
  ·rcases hj with hj|hj
   ·exact out1 j (by lia)
   ·exact out2 j (by lia)
  ·show R rk W x≤R rk W y
   by_cases x1:x<sa+k
   ·rw[out1 x x1]
    by_cases y1:y<sa+k
    ·rw[out1 y y1];exact ua _ _ hx hxy (by lia)
    ·by_cases y2:y<sb+n
     ·obtain⟨v,ev,rv⟩:=mid y (by lia) y2
      obtain⟨t,ht,rt⟩:=kids _ v ev
      rw[rv,← rt]
      rcases ht with ⟨t1,t2⟩|⟨t1,t2⟩
      ·exact ua _ _ hx (by lia) (by lia)
      ·exact Int.le_trans (f1 x hx x1) (f0 t t1 (by lia))
     ·rw[out2 y (by lia)]
      exact Int.le_trans (f1 x hx x1) (f0 y (by lia) (by lia))
   ·by_cases x2:x<sb+n
    ·obtain⟨u,eu,ru⟩:=mid x (by lia) x2
     rw[ru]
     by_cases y2:y<sb+n
     ·obtain⟨v,ev,rv⟩:=mid y (by lia) y2
      rw[rv]
      have:=zbK sm (base:=0) (n:=m.size) (by lia) (x-(sa+k)) (y-(sa+k)) (Nat.zero_le _) (by lia) (by
       have:=(Array.getElem?_eq_some_iff.mp ev).1
       lia)
      rwa [R_at eu,R_at ev]at this
     ·rw[out2 y (by lia)]
      obtain⟨t,ht,rt⟩:=kids _ u eu
      rw[← rt]
      rcases ht with ⟨t1,t2⟩|⟨t1,t2⟩
      ·exact Int.le_trans (f5 t (by lia) t2) (f4 y (by lia) (by lia))
      ·exact ub _ _ t1 (by lia) (by lia)
    ·rw[out2 x (by lia),out2 y (by lia)]
     exact ub _ _ (by lia) hxy (by lia)
 split
 ·exact wpS_bind (zkr C hB1.kind px py ox oy (by rw[sx];lia) (by rw[sy];lia) first last fun m st2 S2 pm sm=>fin m st2 S2 pm sm)
 ·exact wpS_bind (zkv C hB1.kind px py ox oy (by rw[sx];lia) (by rw[sy];lia) first last fun m st2 S2 pm sm=>fin m st2 S2 pm sm)
end
abbrev Run:=Nat × Nat × Nat
def Runs:List Run→Nat→Nat→Prop
 | [],u,v=>u=v
 | x::r,u,v=>x.1=u∧1≤x.2.1∧Runs r (u+x.2.1) v
theorem Runs.cut:∀ {l r:List Run}{u v:Nat},Runs (l++r) u v→∃ m,Runs l u m∧Runs r m v
 | [],_,u,_,h=>⟨u,rfl,h⟩
 | x::l,r,u,v,⟨h1,h2,h3⟩=>by
  obtain⟨m,a,b⟩:=Runs.cut (l:=l) (r:=r) h3
  exact⟨m,⟨h1,h2,a⟩,b⟩
theorem Runs.app:∀ {l r:List Run}{u m v:Nat},Runs l u m→Runs r m v→Runs (l++r) u v
 | [],_,_,_,_,h,g=>by cases h;exact g
 | x::l,r,u,m,v,⟨h1,h2,h3⟩,g=>⟨h1,h2,Runs.app h3 g⟩
theorem Runs.len:∀ {l:List Run}{u v:Nat},Runs l u v→u+l.length≤v
 | [],_,_,h=>by cases h;exact Nat.le_refl _
 | x::l,u,v,⟨h1,h2,h3⟩=>by
  have:=Runs.len h3
  rw[List.length_cons];lia
theorem Runs.mem:∀ {l:List Run}{u v:Nat}{x:Run},Runs l u v→x∈l→u≤x.1∧1≤x.2.1∧x.1+x.2.1≤v
 | y::l,u,v,x,⟨h1,h2,h3⟩,hx=>by
  rcases List.mem_cons.mp hx with rfl|hx2
  ·have:=Runs.len h3;lia
  ·have:=Runs.mem h3 hx2;lia
theorem Runs.modify {f:Run→Run}(hf:∀ x,(f x).1=x.1∧(f x).2.1=x.2.1):∀ {l:List Run}{i u v:Nat},Runs l u v→Runs (l.modify i f) u v
 | [],i,_,_,h=>by cases i<;>exact h
 | x::l,0,u,v,⟨h1,h2,h3⟩=>by
  rw[List.modify_zero_cons]
  refine⟨(hf x).1.trans h1,by rw[(hf x).2];exact h2,by rw[(hf x).2];exact h3⟩
 | x::l,i+1,u,v,⟨h1,h2,h3⟩=>by
  rw[List.modify_succ_cons]
  exact⟨h1,h2,Runs.modify hf h3⟩
theorem zce {f:Run→Run}(hf:∀ x,(f x).1=x.1∧(f x).2.1=x.2.1):∀ {l:List Run}{i:Nat}{x:Run},x∈l.modify i f→∃ y∈l,x.1=y.1∧x.2.1=y.2.1
 | [],i,x,h=>by cases i<;>simp at h
 | y::l,0,x,h=>by
  rw[List.modify_zero_cons]at h
  rcases List.mem_cons.mp h with rfl|h2
  ·exact⟨y,List.mem_cons_self,(hf y).1,(hf y).2⟩
  ·exact⟨x,List.mem_cons_of_mem _ h2,rfl,rfl⟩
 | y::l,i+1,x,h=>by
  rw[List.modify_succ_cons]at h
  rcases List.mem_cons.mp h with rfl|h2
  ·exact⟨x,List.mem_cons_self,rfl,rfl⟩
  ·obtain⟨z,hz,e⟩:=zce hf h2
   exact⟨z,List.mem_cons_of_mem _ hz,e⟩
section
variable {prog:Program}{w:World}{A:Around}{E:Value→Shared→Prop}{s:Shared}{κ:SortKind}{P:Keyed→Prop}{rk:Keyed→Int}{a₀:Array Keyed}
structure Ji (κ:SortKind) (P:Keyed→Prop) (rk:Keyed→Int) (a₀:Array Keyed) (lo:Nat) (st:SortSt):Prop where
 b:Bs κ P a₀ st
 runs:Runs (pendingOf st).toList 0 lo
 up:∀ x∈(pendingOf st).toList,Up rk (arrOf st) x.1 x.2.1
theorem zi8 (C:Cmp prog w A s κ P rk) {st:SortSt}{lo i:Nat}{Q:Bool→SortSt→Prop}(J:Ji κ P rk a₀ lo st) (hlo:lo≤a₀.size) (hi:i+1<(pendingOf st).size)
  (h:∀ st',Ji κ P rk a₀ lo st'→(∀ k,lo≤k→R rk (arrOf st') k=R rk (arrOf st) k)→(pendingOf st').size+1=(pendingOf st).size→Q true st'):wpS (model prog w) A E s (mergeAt' i) Q st:=by
 obtain⟨x,ex⟩:∃ x,(pendingOf st)[i]?=some x:=⟨_,getElem?_pos _ i (by lia)⟩
 obtain⟨y,ey⟩:∃ y,(pendingOf st)[i+1]?=some y:=⟨_,getElem?_pos _ (i+1) hi⟩
 have ex':(pendingOf st).toList[i]?=some x:=by rw[Array.getElem?_toList];exact ex
 have ey':(pendingOf st).toList[i+1]?=some y:=by rw[Array.getElem?_toList];exact ey
 obtain⟨hxl,hx⟩:=List.getElem?_eq_some_iff.mp ex'
 obtain⟨hyl,hy⟩:=List.getElem?_eq_some_iff.mp ey'
 have sp:(pendingOf st).toList=(pendingOf st).toList.take i++x::y::(pendingOf st).toList.drop (i+1+1):=by
  rw[← hx,← hy,← List.drop_eq_getElem_cons hyl,← List.drop_eq_getElem_cons hxl,List.take_append_drop]
 have rr:=J.runs
 have up:=J.up
 generalize hpre:(pendingOf st).toList.take i=pre at sp
 generalize hpost:(pendingOf st).toList.drop (i+1+1)=post at sp
 have pl:pre.length=i:=by rw[← hpre,List.length_take];lia
 rw[sp]at rr up
 obtain⟨m,r1,r2⟩:=rr.cut
 obtain⟨s1,n1,s2,n2,r3⟩:=r2
 obtain⟨sa,na,p⟩:=x
 obtain⟨sb,nb,q⟩:=y
 simp only at s1 n1 s2 n2 r3
 have hl:=r3.len
 refine zkz C J.b ex ey (by lia) n1 n2 (by lia) (up (sa,na,p) (by simp)) (up (sb,nb,q) (by simp)) fun st' B' ep low u'=>?_
 have el:(pendingOf st').toList=pre++(sa,na+nb,p)::post:=by
  rw[ep,Array.toList_eraseIdxIfInBounds,Array.toList_setIfInBounds,sp,List.set_append_right _ _ (by lia),List.eraseIdx_append_of_length_le (by lia),pl,Nat.sub_self,Nat.add_sub_cancel_left]
  rfl
 refine h st' ⟨B',?_,?_⟩ (fun k hk=>low k (.inr (by lia))) ?_
 ·rw[el]
  refine r1.app ⟨s1,by show 1≤na+nb;lia,?_⟩
  show Runs post (m+(na+nb)) lo
  rw[← Nat.add_assoc];exact r3
 ·rw[el]
  intro z hz
  rcases List.mem_append.mp hz with hz|hz
  ·have b1:=r1.mem hz
   intro c d hc hcd hd
   rw[low c (.inl (by lia)),low d (.inl (by lia))]
   exact up z (List.mem_append_left _ hz) c d hc hcd hd
  ·rcases List.mem_cons.mp hz with rfl|hz
   ·exact u'
   ·have b1:=r3.mem hz
    intro c d hc hcd hd
    rw[low c (.inr (by lia)),low d (.inr (by lia))]
    exact up z (List.mem_append_right _ (by simp[hz])) c d hc hcd hd
 ·rw[← Array.length_toList,← Array.length_toList,el,sp]
  simp only[List.length_append,List.length_cons];lia
theorem ziO (C:Cmp prog w A s κ P rk) {st:SortSt}{Q:Unit→SortSt→Prop}(hB:Bs κ P a₀ st) (hp:pendingOf st = #[])
  (h:∀ st',Bs κ P a₀ st'→Up rk (arrOf st') 0 a₀.size→Q () st'):wpS (model prog w) A E s sortRuns' Q st:=by
 rw[sortRuns'_eq]
 refine wpS_bind (wpS_get ?_)
 dsimp only
 rw[hB.size]
 generalize minRun' a₀.size a₀.size 0=mr
 refine wpS_bind (wpS_mono (wpS_forRange (I:=fun i c st1=>∃ lo,c=(none,lo)∧i≤lo∧lo≤a₀.size∧Ji κ P rk a₀ lo st1)
  (Q:=fun c st1=>∃ lo,c=(none,lo)∧lo=a₀.size∧Ji κ P rk a₀ lo st1) ?step ?fin ?init) ?post)
 case init=>exact⟨0,rfl,Nat.le_refl _,Nat.zero_le _,hB,by rw[hp];rfl,fun x hx=>by rw[hp]at hx;simp at hx⟩
 case fin =>
  rintro c st1 ⟨lo,rfl,h1,h2,J⟩
  exact⟨lo,rfl,by lia,J⟩
 case step =>
  rintro i c st1 _ hi ⟨lo,rfl,h1,h2,J⟩
  dsimp only
  by_cases z:lo≥a₀.size
  ·rw[if_pos z]
   exact wpS_pure ⟨lo,rfl,by lia,J⟩
  rw[if_neg z]
  refine wpS_bind (zh9 C J.b (by lia) (by lia) fun st2 n K2 n1 n2 u2=>?_)
  dsimp only
  have Jk:∀ st3,Keep κ P rk a₀ lo st1 st3→Ji κ P rk a₀ lo st3:=fun st3 K3=>⟨K3.b,by rw[K3.pend];exact J.runs,fun x hx=>by
   rw[K3.pend]at hx
   have:=J.runs.mem hx
   intro c d hc hcd hd
   rw[K3.low c (by lia),K3.low d (by lia)]
   exact J.up x hx c d hc hcd hd⟩
  by_cases zm:n<mr
  ·rw[if_pos zm]
   refine wpS_bind (zb9 ?_)
   refine wpS_bind (zka C K2.b n1 (by lia) (by lia) u2 fun st3 K3 u3=>?_)
   have n1:1≤min (a₀.size-lo) mr:=by lia
   have n2:min (a₀.size-lo) mr≤a₀.size-lo:=by lia
   have J3:=Jk st3 (K2.trans K3)
   generalize min (a₀.size-lo) mr=n at n1 n2 u3 ⊢
   rw[if_neg (show ¬(!true)=true by decide)]
   refine wpS_bind (wpS_get ?_)
   have last:∀ st4,Ji κ P rk a₀ lo st4→Up rk (arrOf st4) lo n→wpS (model prog w) A E s (do
     modify fun st5=>setPending st5 ((pendingOf st5).push (lo,n,0))
     pure (ForInStep.yield ((none:Option Unit),lo+n))) (fun r st'=>match r with|.done c'=>∃ lo,c'=(none,lo)∧lo=a₀.size∧Ji κ P rk a₀ lo st'|.yield c'=>∃ lo,c'=(none,lo)∧i+1≤lo∧lo≤a₀.size∧Ji κ P rk a₀ lo st') st4:=by
    intro st4 J4 u4
    refine wpS_bind (wpS_modify (wpS_pure ⟨lo+n,rfl,by lia,by lia,⟨J4.b.kind,J4.b.fail,J4.b.perm,J4.b.all⟩,?_,?_⟩))
    ·show Runs ((pendingOf st4).push (lo,n,0)).toList 0 (lo+n)
     rw[Array.toList_push]
     exact J4.runs.app ⟨rfl,n1,rfl⟩
    ·show ∀ x∈((pendingOf st4).push (lo,n,0)).toList,Up rk (arrOf st4) x.1 x.2.1
     rw[Array.toList_push]
     intro x hx
     rcases List.mem_append.mp hx with hx1|hx1
     ·exact J4.up x hx1
     ·rw[List.mem_singleton.mp hx1];exact u4
   split
   ·rename_i s1 m1 w1 hb
    refine wpS_bind (wpS_mono (wpS_forRange (I:=fun j c st4=>c=(none,())∧Ji κ P rk a₀ lo st4∧Up rk (arrOf st4) lo n) (Q:=fun c st4=>c=(none,())∧Ji κ P rk a₀ lo st4∧Up rk (arrOf st4) lo n) ?_ (fun c st4 hh=>hh) ⟨rfl,J3,u3⟩) ?_)
    ·rintro j c st4 _ hj ⟨rfl,J4,u4⟩
     refine wpS_bind (wpS_get ?_)
     split
     ·rename_i a1 a2 older ho
      split
      ·exact wpS_pure ⟨rfl,J4,u4⟩
      ·have sz:(pendingOf st4).size > 1:=by
        by_cases q:(pendingOf st4).size > 1
        ·exact q
        ·rw[if_neg q]at ho;cases ho
       refine wpS_bind (zi8 C J4 h2 (by lia) fun st5 J5 low5 _=>?_)
       rw[if_neg (show ¬(!true)=true by decide)]
       exact wpS_pure ⟨rfl,J5,fun c d hc hcd hd=>by rw[low5 c hc,low5 d (by lia)];exact u4 c d hc hcd hd⟩
     ·exact wpS_pure ⟨rfl,J4,u4⟩
    ·rintro c st4 ⟨rfl,J4,u4⟩
     dsimp only
     refine wpS_bind (wpS_modify ?_)
     refine last _ ⟨⟨J4.b.kind,J4.b.fail,J4.b.perm,J4.b.all⟩,?_,?_⟩ u4
     ·show Runs ((pendingOf st4).modify _ _).toList 0 lo
      rw[Array.toList_modify]
      refine Runs.modify ?_ J4.runs
      exact fun x=>⟨rfl,rfl⟩
     ·show ∀ x∈((pendingOf st4).modify _ _).toList,Up rk (arrOf st4) x.1 x.2.1
      rw[Array.toList_modify]
      intro x hx
      obtain⟨y,hy,e1,e2⟩:=zce (by exact fun x=>⟨rfl,rfl⟩) hx
      rw[e1,e2];exact J4.up y hy
   ·exact last _ J3 u3
  ·rw[if_neg zm]
   have J3:=Jk st2 K2
   have u3:=u2
   generalize st2=st3 at J3 u3 ⊢
   refine wpS_bind (wpS_get ?_)
   have last:∀ st4,Ji κ P rk a₀ lo st4→Up rk (arrOf st4) lo n→wpS (model prog w) A E s (do
     modify fun st5=>setPending st5 ((pendingOf st5).push (lo,n,0))
     pure (ForInStep.yield ((none:Option Unit),lo+n))) (fun r st'=>match r with|.done c'=>∃ lo,c'=(none,lo)∧lo=a₀.size∧Ji κ P rk a₀ lo st'|.yield c'=>∃ lo,c'=(none,lo)∧i+1≤lo∧lo≤a₀.size∧Ji κ P rk a₀ lo st') st4:=by
    intro st4 J4 u4
    refine wpS_bind (wpS_modify (wpS_pure ⟨lo+n,rfl,by lia,by lia,⟨J4.b.kind,J4.b.fail,J4.b.perm,J4.b.all⟩,?_,?_⟩))
    ·show Runs ((pendingOf st4).push (lo,n,0)).toList 0 (lo+n)
     rw[Array.toList_push]
     exact J4.runs.app ⟨rfl,n1,rfl⟩
    ·show ∀ x∈((pendingOf st4).push (lo,n,0)).toList,Up rk (arrOf st4) x.1 x.2.1
     rw[Array.toList_push]
     intro x hx
     rcases List.mem_append.mp hx with hx1|hx1
     ·exact J4.up x hx1
     ·rw[List.mem_singleton.mp hx1];exact u4
   split
   ·rename_i s1 m1 w1 hb
    refine wpS_bind (wpS_mono (wpS_forRange (I:=fun j c st4=>c=(none,())∧Ji κ P rk a₀ lo st4∧Up rk (arrOf st4) lo n) (Q:=fun c st4=>c=(none,())∧Ji κ P rk a₀ lo st4∧Up rk (arrOf st4) lo n) ?_ (fun c st4 hh=>hh) ⟨rfl,J3,u3⟩) ?_)
    ·rintro j c st4 _ hj ⟨rfl,J4,u4⟩
     refine wpS_bind (wpS_get ?_)
     split
     ·rename_i a1 a2 older ho
      split
      ·exact wpS_pure ⟨rfl,J4,u4⟩
      ·have sz:(pendingOf st4).size > 1:=by
        by_cases q:(pendingOf st4).size > 1
        ·exact q
        ·rw[if_neg q]at ho;cases ho
       refine wpS_bind (zi8 C J4 h2 (by lia) fun st5 J5 low5 _=>?_)
       rw[if_neg (show ¬(!true)=true by decide)]
       exact wpS_pure ⟨rfl,J5,fun c d hc hcd hd=>by rw[low5 c hc,low5 d (by lia)];exact u4 c d hc hcd hd⟩
     ·exact wpS_pure ⟨rfl,J4,u4⟩
    ·rintro c st4 ⟨rfl,J4,u4⟩
     dsimp only
     refine wpS_bind (wpS_modify ?_)
     refine last _ ⟨⟨J4.b.kind,J4.b.fail,J4.b.perm,J4.b.all⟩,?_,?_⟩ u4
     ·show Runs ((pendingOf st4).modify _ _).toList 0 lo
      rw[Array.toList_modify]
      refine Runs.modify ?_ J4.runs
      exact fun x=>⟨rfl,rfl⟩
     ·show ∀ x∈((pendingOf st4).modify _ _).toList,Up rk (arrOf st4) x.1 x.2.1
      rw[Array.toList_modify]
      intro x hx
      obtain⟨y,hy,e1,e2⟩:=zce (by exact fun x=>⟨rfl,rfl⟩) hx
      rw[e1,e2];exact J4.up y hy
   ·exact last _ J3 u3
 case post =>
  rintro c st1 ⟨lo,rfl,rfl,J⟩
  dsimp only
  refine wpS_bind (wpS_mono (wpS_forRange (I:=fun i c st2=>c=(none,())∧Ji κ P rk a₀ a₀.size st2∧(pendingOf st2).size≤a₀.size-i+1)
   (Q:=fun c st2=>c=(none,())∧Ji κ P rk a₀ a₀.size st2∧(pendingOf st2).size≤1) ?_ ?_ ⟨rfl,J,?_⟩) ?_)
  ·rintro i c st2 _ hi ⟨rfl,J2,sz⟩
   refine wpS_bind (wpS_get ?_)
   by_cases z:(pendingOf st2).size≤1
   ·rw[if_pos z]
    exact wpS_pure ⟨rfl,J2,z⟩
   rw[if_neg z]
   have go:∀ t,t+1<(pendingOf st2).size→wpS (model prog w) A E s (mergeAt' t) (fun b st3=>b=true∧Ji κ P rk a₀ a₀.size st3∧(pendingOf st3).size≤a₀.size-(i+1)+1) st2:=fun t ht =>
    zi8 C J2 (Nat.le_refl _) ht fun st3 J3 _ sz3=>⟨rfl,J3,by lia⟩
   refine wpS_bind (wpS_mono (go _ ?_) ?_)
   ·repeat' split
    all_goals lia
   ·rintro b st3 ⟨rfl,J3,sz3⟩
    exact wpS_pure ⟨rfl,J3,sz3⟩
  ·rintro c st2 ⟨rfl,J2,sz⟩
   exact⟨rfl,J2,by lia⟩
  ·have:=J.runs.len
   rw[Array.length_toList]at this
   lia
  ·rintro c st2 ⟨rfl,J2,sz⟩
   refine wpS_pure (h st2 J2.b ?_)
   have rr:=J2.runs
   have up:=J2.up
   have ln:(pendingOf st2).toList.length≤1:=by rw[Array.length_toList];exact sz
   match hq:(pendingOf st2).toList,ln with
   | [],_ =>
    rw[hq]at rr
    intro c d hc hcd hd
    have:0=a₀.size:=rr
    lia
   | [x],_ =>
    rw[hq]at rr up
    obtain⟨r1,r2,r3⟩:=rr
    have:0+x.2.1=a₀.size:=r3
    have:=up x (by simp)
    rw[r1,show x.2.1=a₀.size by lia]at this
    exact this
end
end Ts
namespace L2
open PySem PySem.Spec PyProof.Rows Own
section
variable {X:Cx}
end
section
variable {prog:Program}{w:World}{A:Around}{E:Value→Shared→Prop}{s:Shared}
theorem zeW {t sl:Addr}{items:Array Value}{vl vu:Value}{lo hi:Option Int}{Q:Value→Shared→Prop}(ht:IsTup s.heap t items) (hs:s.heap.IsSliceOf sl vl vu .none) (pl:IsPart vl lo) (pu:IsPart vu hi)
  (e0:HT.sIx items.size 0 lo=0) (e1:HT.sIx items.size items.size hi=items.size) (h:Q (.ref t) s):wpAny (model prog w) A (getItem (.ref t) (.ref sl)) Q E s:=by
 obtain⟨os,hos,hcs,hds⟩:=id hs
 have hTs:s.TypeIs (.ref sl) "slice":=⟨os,hos,hcs⟩
 unfold getItem
 try with_reducible refine wpAny_holding ?_
 first|refine wpAny_bind (wpAny_pure ?_)|skip
 refine wpAny_bind (wpAny_sequenceKey ht.typeIs (by decide) (wpAny_bind (wpAny_callSpecial?_slot (name:=Str.ofString "__getitem__") ht.typeIs PyProof.Rows.slot_tuple_getitem (wpAny_call_entry PyProof.Rows.slot_tuple_getitem ht.typeIs PyProof.Rows.entry_tuple_getitem ?_ (PyProof.Rows.args_tuple_getitem _ _)))))
 show wpAny _ _ (Builtin.Tuple.tupleItemsOf (.ref t) >>= _) _ _ s
 refine wpAny_bind (tupleItemsOf_ ht (wpAny_bind (wpAny_typeOf hTs ?_)))
 rw[if_pos (by decide)]
 refine wpAny_bind (HT.sliceApplied_gen hs pl pu ?_)
 rw[e0,e1]
 show wpAny _ _ (if (((0:Nat):Int) == 0 && (1:Int) == 1 && (items.size-0) == items.size)=true then _ else _) _ _ s
 rw[if_pos (by simp)]
 refine wpAny_bind ?_
 unfold Builtin.Tuple.tupleIsExact
 refine wpAny_bind (wpAny_typeOf ht.typeIs (wpAny_pure ?_))
 rw[if_pos (by decide)]
 exact wpAny_bind (wpAny_rule (wpAny_pure ⟨_,rfl,wpAny_pure h⟩))
end
section
variable {X:Cx}
end
section
variable {prog:Program}{w:World}{A:Around}{R:Result→Shared→Prop}{I S:Addr}{fp wr:List Addr}{n:Nat}{P B:Nat→Value→Prop}{St:Nat→Heap→Prop}
end
section
variable {prog:Program}{w:World}{A:Around}{E:Value→Shared→Prop}{s:Shared}
end
section
variable {X:Cx}{e e2:Expr}{ta tb:TE}{p kp pos:Pos}
end
section
variable {X:Cx}
theorem zcd:OpR X (binaryOp .Add) (fun x y H Q=>∃ a b xs ys,x=.ref a∧y=.ref b∧H a=some (.tup xs)∧H b=some (.tup ys)∧xs.length+ys.length≤sizeLine∧∀ r H',Same H H'→H' r=some (.tup (xs++ys))→Q (.ref r) H'):=by
 intro pins s σ H x y v u Q I rx ry h
 obtain⟨a,b,xs,ys,rfl,rfl,ha,hb,hz,q⟩:=h
 by_cases hx:xs=[]
 ·subst hx
  cases rx;cases ry
  obtain⟨its,r1,p1,_⟩:=I.tuple (SqT.of ha)
  obtain⟨jts,r2,p2,_⟩:=I.tuple (SqT.of hb)
  cases r1
  obtain⟨⟨c1,d1,e1,sl1⟩,o1,c1',n1,e1'⟩:=p1
  obtain⟨⟨c2,d2,e2,sl2⟩,o2,c2',n2,e2'⟩:=p2
  simp only at c1' e1' c2' e2'
  subst c1' e1' c2' e2'
  refine concat_meets ⟨_,o1,rfl⟩ ⟨_,o2,rfl⟩ noFill_tuple_add seq_tuple_add PySem.F.slot_tuple_add PySem.F.entry_tuple_add (PySem.F.args_tuple_add_2 _ _) (tuple_addW0 a b #[] jts.toArray n1 n2 d1 d2 sl1 sl2 rfl) ⟨o1,o2,?_⟩
  exact⟨.ref b,H,I,rfl,q b H (Same.refl H) (by rw[List.nil_append];exact hb)⟩
 ·exact ziX pins s σ H _ _ v u Q I rx ry ⟨a,b,xs,ys,rfl,rfl,SqT.of ha,SqT.of hb,hx,hz,fun e=>q a H (Same.refl H) (by rw[e,List.append_nil];exact ha),fun _ p hp=>q p _ (zaa hp _) zac⟩
theorem zgj:SlR X (fun x lo hi H Q=>∃ a xs,x=.ref a∧H a=some (.tup xs)∧∀ p H',Same H H'→H' p=some (.tup (cutV xs lo hi))→Q (.ref p) H'):=by
 intro pins s σ H x v vl vu lo hi sl Q I rx hs pl pu h
 obtain⟨a,xs,rfl,hx,q⟩:=h
 by_cases hw:HT.sIx xs.length 0 lo=0∧HT.sIx xs.length xs.length hi=xs.length
 ·cases rx
  obtain⟨its,r,ht,hz⟩:=I.tuple (SqT.of hx)
  have hlen:its.toArray.size=xs.length:=by rw[List.size_toArray];exact r.length.symm
  refine⟨"tuple",_,PyProof.Rows.slot_tuple_getitem.lookup,ht.typeIs,zeW ht hs pl pu (by rw[hlen];exact hw.1) (by rw[hlen];exact hw.2) ⟨.ref a,H,I,rfl,q a H (Same.refl H) ?_⟩⟩
  unfold cutV
  rw[hw.1,hw.2,List.drop_zero,Nat.sub_zero,List.take_length]
  exact hx
 ·exact zjC pins s σ H _ v vl vu lo hi sl Q I rx hs pl pu ⟨a,xs,rfl,SqT.of hx,hw,fun p hp=>q p _ (zaa hp _) zac⟩
end
theorem zdW (xs:List V) (i:Nat) (h:i≤xs.length):cutV xs none (some (i:Int))=xs.take i:=by
 unfold cutV
 rw[HT.sIx_none,HT.sIx_nat,List.drop_zero,Nat.sub_zero,Nat.min_eq_left h]
theorem zdY (xs:List V) (i:Nat) (h:i≤xs.length):cutV xs (some (i:Int)) none=xs.drop i:=by
 unfold cutV
 rw[HT.sIx_none,HT.sIx_nat,Nat.min_eq_left h]
 exact List.take_of_length_le (by rw[List.length_drop];exact Nat.le_refl _)
section
variable {X:Cx}
end
theorem zed {h:Heap}:∀ (vs:List Value) (ds:List PyData),vs.length=ds.length→(∀ (j:Nat) (v:Value) (d:PyData),vs[j]?=some v→ds[j]?=some d→∃ as,Reads h v d as)→∃ as,ReadsAll h vs ds as
 | [],[],_,_=>⟨_,.nil⟩
 | v::vs,d::ds,hl,q=>by
  obtain⟨as,r⟩:=q 0 v d rfl rfl
  obtain⟨bs,r'⟩:=zed vs ds (by simpa using hl) fun j v' d' e1 e2=>q (j+1) v' d' (by simpa using e1) (by simpa using e2)
  exact⟨_,.cons r r'⟩
section
variable {X:Cx}
end
theorem zbE (ts:List Str):(tupleText ts).length≤piled ts+3:=by
 unfold tupleText;rw[strLen_append,strLen_append]
 have e1:(("(":String):Str).length=1:=rfl
 have e3:(((if ts.length == 1 then ",)" else ")":String):Str)).length≤2:=by split<;>decide
 rw[e1]
 by_cases h:ts=[]
 ·subst h
  have:(Str.join ", " ([]:List Str)).length=0:=rfl
  lia
 ·have jl:=join_length_add ts h
  lia
theorem zc9 {m:Nat}:∀ {ts:List Str},(∀ t∈ts,t.length≤m)→piled ts≤ts.length*(m+2)
 | [],_=>Nat.zero_le _
 | t::ts,h=>by
  have a:=h t List.mem_cons_self
  have b:=zc9 (ts:=ts) fun x hx=>h x (List.mem_cons_of_mem _ hx)
  rw[piled_cons,List.length_cons,Nat.add_one_mul]
  lia
end L2
namespace L2
open PySem PySem.Spec PyProof.Rows PySem.Calls PySem.NumText Own
section
variable {prog:Program}{w:World}{A:Around}{E:Value→Shared→Prop}{s:Shared}
end
section
variable {X:Cx}
end
end L2
namespace L2
open PySem PySem.Spec PyProof.Rows Own
section
variable {X:Cx}
end
def AnyT (K:PySem.W.Frag) (H:Hp) (x:V):Prop:=∃ T,TyOf K H x T∧∃ t:String,T=.type t
def zjH (H:Hp):V→Option (List V)
 | .ref a=>match H a with
  | some (.tup xs)=>some xs
  | _=>none
 | _=>none
section
variable {X:Cx}{pos:Pos}
end
end L2
namespace Bn
open PySem L2 Own
end Bn
namespace L2
open PySem PySem.Spec PyProof.Rows Own
def LtAt (A:Around) (s:Shared) (y x:Value) (b:Bool):Prop:=∀ (prog:Program) (w:World) (E:Value→Shared→Prop) (Q:Value→Shared→Prop),Q (.bool b) s→wpAny (model prog w) A (richCompare .Lt y x) Q E s
theorem LtAt.ints {A:Around}{s:Shared}(a b:Int) (t u:Tok):LtAt A s (.int a t) (.int b u) (decide (a<b)):=fun _ _ _ _ h=>lt_int h
theorem zeT (l b:Addr) (xs ys:Array Value) (n m:Nat) (d1 d2:Option Addr) (sl1 sl2:Array (Option Value)) (k:Nat) (k1:k<xs.size) (k2:k<ys.size) (c:Bool) :
  Meets (Builtin.«tuple.__lt__» ⟨[.ref l,.ref b],[]⟩)
   (fun A R s=>s.heap.get? l=some { cls:=.type "tuple",dict:=d1,data:=.seq xs n,slots:=sl1 }∧s.heap.get? b=some { cls:=.type "tuple",dict:=d2,data:=.seq ys m,slots:=sl2 } ∧
    (∀ j (h1:j<xs.size) (h2:j<ys.size),j<k→SeqAt.EqAt A.in1 s xs[j] ys[j] true)∧SeqAt.EqAt A.in1 s xs[k] ys[k] false∧LtAt A.in1 s xs[k] ys[k] c∧R (.ok (.ret (.bool c))) s) :=
 .of_wp fun prog w A R s h=>by
  obtain⟨hp,g,d,tk,os⟩:=s;obtain⟨hl,hb,he,hk,hc,h⟩:=h
  have kinds:=AutoSeq1.sub_tuple_tuple
  have zl:(xs.toList.zip ys.toList).length=min xs.size ys.size:=by simp
  wp_walk using wpAny_loadPart' hl,wpAny_loadPart' hb,wpAny_forIn_list _ (fun rest b s'=>b.1=none∧s'=⟨hp,g,d,tk,os⟩∧∃ i,i≤k∧rest=(xs.toList.zip ys.toList).drop i) _
  case turn =>
   rintro⟨y,x⟩ rest b s' ⟨hb',rfl,i,ik,hz⟩
   have i1:i<xs.size:=by lia
   have i2:i<ys.size:=by lia
   have il:i<(xs.toList.zip ys.toList).length:=by rw[zl];lia
   rw[List.drop_eq_getElem_cons il]at hz
   obtain⟨e1,e2⟩:=List.cons.inj hz
   have ey:y=xs[i]:=by simpa using congrArg Prod.fst e1
   have ex:x=ys[i]:=by simpa using congrArg Prod.snd e1
   subst ey ex
   by_cases z:i=k
   ·subst z
    refine wpAny_bind (hk prog w _ _ ?_)
    simp only[if_true,Bool.not_false]
    refine wpAny_bind (wpAny_rule (wpAny_bind (hc prog w _ _ ?_)))
    wp_walk
    exact⟨_,rfl,h⟩
   ·refine wpAny_bind (he i i1 i2 (by lia) prog w _ _ ?_)
    wp_walk
    exact⟨rfl,rfl,i+1,by lia,e2⟩
  case fin =>
   rintro⟨b1,b2⟩ s' ⟨hb',rfl,i,ik,hz⟩
   have il:i<(xs.toList.zip ys.toList).length:=by rw[zl];lia
   rw[List.drop_eq_getElem_cons il]at hz;cases hz
  case h =>
   exact⟨rfl,rfl,0,Nat.zero_le _,rfl⟩
theorem LtAt.tuples {A:Around}{s:Shared}{l b:Addr}{xs ys:Array Value}{k:Nat}{c:Bool}(hl:IsTup s.heap l xs) (hb:IsTup s.heap b ys) (hu:A.units<cLine) (k1:k<xs.size) (k2:k<ys.size)
  (he:∀ j (h1:j<xs.size) (h2:j<ys.size),j<k→SeqAt.EqAt A.in1 s xs[j] ys[j] true) (hk:SeqAt.EqAt A.in1 s xs[k] ys[k] false) (hc:LtAt A.in1 s xs[k] ys[k] c):LtAt A s (.ref l) (.ref b) c:=fun prog w E Q h=>by
 obtain⟨⟨cl1,dd1,da1,sl1⟩,o1,c1,n,e1⟩:=hl
 obtain⟨⟨cl2,dd2,da2,sl2⟩,o2,c2,m,e2⟩:=hb
 simp only at c1 e1 c2 e2;subst c1 e1 c2 e2
 exact richCompare_meets_room (op:=.Lt) ⟨_,o1,rfl⟩ ⟨_,o2,rfl⟩ F.slot_tuple_lt F.entry_tuple_lt (F.args_tuple_lt_2 _ _) (zeT l b xs ys n m dd1 dd2 sl1 sl2 k k1 k2 c) ⟨o1,o2,he,hk,hc,show Value.bool c≠Value.notImplemented∧Q (.bool c) s from⟨(fun x=>nomatch x),h⟩⟩ hu
section
variable {prog:Program}{w:World}{A:Around}{R:Result→Shared→Prop}{I S:Addr}{fp wr:List Addr}{n:Nat}{P:Nat→Value→Prop}{St:Nat→Heap→Prop}
end
section
variable {prog:Program}{w:World}{A:Around}{E:Value→Shared→Prop}{s:Shared}
end
section
variable {X:Cx}
end
end L2
namespace Ts
open PySem PyProof.Rows
section
variable {prog:Program}{w:World}{A:Around}{E:Value→Shared→Prop}{s:Shared}
theorem zgg {a:Addr}{vs:List Value}{n:Nat}{Pp:Fin→Shared→Prop}(ho:s.heap.get? a=some (seqObj "list" vs.toArray n)) (hz:vs.length≤10000) (κ:SortKind) (rv:Value→Int)
  (hkind:∀ h',(∀ c o,c≠a→s.heap.get? c=some o→h'.get? c=some o)→2≤vs.length→∀ {Q:SortKind→Shared→Prop}{E:Value→Shared→Prop},Q κ { s with heap:=h' }→wpAny (model prog w) A (keyKind' vs.toArray) Q E { s with heap:=h' })
  (hcmp:∀ h',(∀ c o,c≠a→s.heap.get? c=some o→h'.get? c=some o)→Cmp prog w A { s with heap:=h' } κ (fun p=>p.1∈vs) (fun p=>rv p.1))
  (h:∀ out:List Value,out.Perm vs→out.Pairwise (fun x y=>rv x≤rv y)→Pp (.done (.ret .none)) { s with heap:=sortedHeap s.heap a vs out.toArray }) :
  wpAny (model prog w) A (Builtin.«list.sort» ⟨[.ref a],[]⟩) Pp E s:=by
 have al:a<s.heap.objs.size:=Heap.lt_size ho
 have ln:vs.toArray.size=vs.length:=List.size_toArray ..
 have sl:vs.length≤sizeLine:=Nat.le_trans hz (by decide)
 rw[list_sort_plain]
 refine wpAny_bind (listItems_at ho rfl (wpAny_bind (listUpdate_at ho rfl ?_ (hsz:=by rw[ln];exact sl))))
 obtain⟨ep,e1⟩:∃ ep,(s.heap.update a (Obj.mapSeq fun _=>#[])).get? a=some (seqObj "list" #[] ep):=⟨_,get?_update_seq ho fun _=>#[]⟩
 refine wpAny_bind (seqEpoch_at e1 rfl (wpAny_bind (wpAny_newTuple (wpAny_bind (wpAny_newList (wpAny_holding ?_))))))
 have e6:(((s.heap.update a (Obj.mapSeq fun _=>#[])).push (seqObj "tuple" vs.toArray 0)).push (seqObj "list" #[] 0)).get? a=some (seqObj "list" #[] ep) :=
  Heap.get?_push_of_some _ (Heap.get?_push_of_some _ e1)
 have old:∀ c o,c≠a→s.heap.get? c=some o→(((s.heap.update a (Obj.mapSeq fun _=>#[])).push (seqObj "tuple" vs.toArray 0)).push (seqObj "list" #[] 0)).get? c=some o:=fun c o nc q =>
  Heap.get?_push_of_some _ (Heap.get?_push_of_some _ ((Heap.get?_update_other _ _ (Ne.symm nc)).trans q))
 show wpAny (model prog w) A _ Pp E { s with heap:=((s.heap.update a (Obj.mapSeq fun _=>#[])).push (seqObj "tuple" vs.toArray 0)).push (seqObj "list" #[] 0) }
 have lo:∀ out:List Value,out.Perm vs→out.toArray.size≤sizeLine+1:=fun out p1=>by rw[List.size_toArray,p1.length_eq];lia
 generalize hH:((s.heap.update a (Obj.mapSeq fun _=>#[])).push (seqObj "tuple" vs.toArray 0)).push (seqObj "list" #[] 0)=h6 at e6 old ⊢
 have back:∀ out:Array Value,sortedHeap s.heap a vs out=h6.update a (Obj.mapSeq fun _=>out):=fun out=>by rw[← hH];rfl
 by_cases few:vs.toArray.size<2
 ·rw[if_pos few,if_pos few]
  refine wpAny_bind (wpAny_pure (?_:wpAny _ _ _ _ _ _))
  refine wpAny_bind (wpAny_pure ?_)
  have em:(vs.toArray.zip vs.toArray).map (·.2)=vs.toArray:=by
   apply Array.ext'
   rw[Array.toList_map,Array.toList_zip]
   exact List.map_snd_zip (Nat.le_refl _)
  have one:vs.Pairwise (fun x y=>rv x≤rv y):=by
   match vs,few with
   | [],_=>exact List.Pairwise.nil
   | [x],_=>exact List.pairwise_singleton _ _
   | _::_::_,z=>simp at z;lia
  have k:=h vs (List.Perm.refl _) one
  rw[back]at k
  dsimp only
  rw[em]
  refine wpAny_bind (seqEpoch_at e6 rfl (wpAny_bind (listUpdate_at e6 rfl ?_ (hsz:=Nat.zero_le _) (hsz2:=lo vs (List.Perm.refl _)))))
  simp only[if_false,bne_self_eq_false,Bool.false_eq_true]
  exact wpAny_pure k
 rw[if_neg few,if_neg few]
 refine wpAny_bind (hkind h6 old (by lia) ?_)
 have C:=hcmp h6 old
 refine wpAny_bind (wpAny_mono (ziO C (a₀:=vs.toArray.zip vs.toArray) (st:=SortSt.mk' κ (vs.toArray.zip vs.toArray) #[] 7 none)
  (Q:=fun _ st'=>Bs κ (fun p=>p.1∈vs) (vs.toArray.zip vs.toArray) st'∧Up (fun p=>rv p.1) (arrOf st') 0 (vs.toArray.zip vs.toArray).size) ⟨rfl,rfl,Array.Perm.refl _,fun p hp=>?_⟩ rfl fun st' b u=>⟨b,u⟩) ?_ fun _ _ e=>e)
 ·have:(vs.toArray.zip vs.toArray).toList=vs.zip vs:=by simp
  rw[this]at hp
  exact(List.of_mem_zip hp).1
 rintro⟨⟨⟩,st'⟩ s' ⟨rfl,b,u⟩
 have pl:(arrOf st').toList.Perm (vs.zip vs):=by
  have:=Array.perm_iff_toList_perm.mp b.perm
  simpa using this
 have same:∀ p∈(arrOf st').toList,p.1=p.2:=fun p hp=>by
  have h1:=pl.mem_iff.mp hp
  obtain⟨i,hi⟩:=List.mem_iff_getElem?.mp h1
  rw[List.getElem?_zip_eq_some]at hi
  have:=hi.1.symm.trans hi.2
  exact Option.some.inj this
 have so:Srt (fun p=>rv p.1) (arrOf st').toList:=by
  have:=zgc (arr:=arrOf st') (lo:=0) (n:=(arrOf st').size) (by rw[b.size];exact u) (by lia)
  rw[Nat.zero_add,zcU,← Array.length_toList,List.take_length]at this
  exact this
 have pm:((arrOf st').toList.map (·.2)).Perm vs:=by
  have:=pl.map (·.2)
  rwa [List.map_snd_zip (Nat.le_refl _)]at this
 have em:(arrOf st').map (·.2)=((arrOf st').toList.map (·.2)).toArray:=by
  apply Array.ext';simp
 have k:=h _ pm (by
  refine List.pairwise_map.mpr (List.Pairwise.imp_of_mem ?_ so)
  intro x y hx hy le
  rw[← same x hx,← same y hy];exact le)
 rw[back]at k
 dsimp only
 rw[em,b.fail]
 refine wpAny_bind (seqEpoch_at e6 rfl (wpAny_bind (listUpdate_at e6 rfl ?_ (hsz:=Nat.zero_le _) (hsz2:=lo _ pm))))
 simp only[if_false,bne_self_eq_false,Bool.false_eq_true]
 exact wpAny_pure k
end
end Ts
namespace Own
open PySem PySem.Spec PyProof.Rows
abbrev IsZipN (h:Heap) (z TI TO t:Addr) (c:Bool):Prop:=h.get? z=some { cls:=.type "zip",dict:=none,data:=.fields #[rawInt t,.bool c,.bool false,.ref TI,.ref TO],slots:=#[] }
section
variable {prog:Program}{w:World}{A:Around}{E:Value→Shared→Prop}{s:Shared}{z TI TO i1 i2:Addr}{f1 f2:List Addr}{n1 n2 k:Nat}{P1 P2:Nat→Value→Prop}{S1 S2:Nat→Heap→Prop}{a b:Value}
theorem zdt {α:Type}{t:Addr}{c:Bool}{o:Obj}{f:Bool→Sem α}{Q:α→Shared→Prop}(hz:IsZipN s.heap z TI TO t c) (ho:s.heap.get? t=some o) (h:∀ h',IsZipN h' z TI TO t true→Heap.SameBut z s.heap h'→wpAny (model prog w) A (f false) Q E { s with heap:=h' }) :
  wpAny (model prog w) A (Builtin.SmallTypes.ownedTupleIsFree (.ref z) >>= f) Q E s:=by
 refine wpAny_bind ?_;unfold Builtin.SmallTypes.ownedTupleIsFree
 refine rf 0 hz rfl rfl ?_
 show wpAny _ _ (loadIfAlive ((t:Int).toNat) >>= _) _ _ _
 rw[Int.toNat_natCast]
 refine wpAny_bind (PySem.W.kdx_alive ho ?_)
 simp only[Bool.false_eq_true,if_false,Option.isNone_some]
 refine rf (x:=.bool c) 1 hz rfl rfl ?_
 have eT:(Value.bool true != Value.bool true)=false:=rfl
 have eF:(Value.bool false != Value.bool true)=true:=rfl
 cases c with
 | true =>
  rw[eT]
  exact wpAny_pure (h s.heap hz (Heap.SameBut.refl _ _))
 | false =>
  rw[eF]
  exact wpAny_bind (wpAny_setField_rec hz (show 1<5 by decide) fun h' z' sb=>wpAny_pure (h h' z' sb))
theorem zfV {t:Addr}{c:Bool}{o:Obj}(S:Sep z TI TO i1 i2 f1 f2) (D1:Draws prog w A i1 f1 n1 P1 S1) (D2:Draws prog w A i2 f2 n2 P2 S2) {Q:Value→Shared→Prop}
  (hz:IsZipN s.heap z TI TO t c) (ho:s.heap.get? t=some o) (hI:IsPair s.heap TI (.ref i1) (.ref i2)) (d1:S1 k s.heap) (d2:S2 k s.heap) (l1:k<n1) (l2:k<n2)
  (h:∀ x y h' tk,P1 k x→P2 k y→IsZipN h' z TI TO t true→S1 (k+1) h'→S2 (k+1) h'→IsPair h' s.heap.objs.size x y →
   (∀ c o,c∉[z,TO,i1,i2]→s.heap.get? c=some o→h'.get? c=some o)→Q (.ref s.heap.objs.size) { s with heap:=h',toks:=tk }) :
  wpAny (model prog w) A (Builtin.«zip.__next__» ⟨[.ref z],[]⟩) (fun r s'=>∃ v,r=.done (.ret v)∧Q v s') E s:=by
 have nd:=S.all
 simp only[List.nodup_cons,List.mem_cons,List.not_mem_nil,or_false,not_or]at nd
 obtain⟨⟨zI,zO,z1,z2⟩,⟨IO,I1,I2⟩,⟨O1,O2⟩,n12,_⟩:=nd
 refine rf 2 hz rfl rfl (rf 3 hz rfl rfl (wpAny_bind (wpAny_seqItems hI rfl (zdt hz ho fun ha za sa=>?_))))
 rw[if_neg Bool.false_ne_true]
 refine wpAny_bind ?_
 simp only[List.forIn_toArray,List.forIn_cons,List.forIn_nil]
 refine wpAny_bind (wpAny_bind (wpAny_holding (wpAny_bind (D1.item k _ _ _ l1 (D1.frame _ _ _ d1 fun c hc o e=>(sa.2 c fun q=>S.z1 (q ▸ hc)).trans e) fun x hb tb px db sb=>wpAny_pure (wpAny_pure ?_)))))
 have st2:S2 k hb:=D2.frame _ _ _ d2 fun c hm o e=>(sb.2 c fun q=>S.o2 (q ▸ hm)).trans ((sa.2 c fun q=>S.z2 (q ▸ hm)).trans e)
 refine wpAny_bind (wpAny_bind (wpAny_holding (wpAny_bind (D2.item k _ _ _ l2 st2 fun y hd td py dd sd=>wpAny_pure (wpAny_pure (wpAny_pure ?_))))))
 refine wpAny_bind (wpAny_newTuple (wpAny_pure ⟨_,rfl,?_⟩) (hsz:=by show 2≤sizeLine;decide))
 have sz:hd.objs.size=s.heap.objs.size:=by rw[sd.1,sb.1,sa.1]
 show Q (.ref hd.objs.size) _
 rw[sz]
 have zd:IsZipN hd z TI TO t true:=(sd.2 z z2).trans ((sb.2 z z1).trans za)
 have new:(hd.push { cls:=.type "tuple",data:=.seq #[x,y] }).get? s.heap.objs.size=some { cls:=.type "tuple",data:=.seq #[x,y] }:=by rw[← sz];exact Heap.get?_push_size _ rfl
 refine h x y _ td px py (Heap.get?_push_of_some _ zd) ?_ ?_ new fun c o hc e=>?_
 ·exact D1.frame _ _ _ db fun c hm o e=>Heap.get?_push_of_some _ ((sd.2 c fun q=>S.o1 (q ▸ hm)).trans e)
 ·exact D2.frame _ _ _ dd fun c hm o e=>Heap.get?_push_of_some _ e
 ·simp only[List.mem_cons,List.not_mem_nil,or_false,not_or]at hc
  exact Heap.get?_push_of_some _ ((sd.2 c hc.2.2.2).trans ((sb.2 c hc.2.2.1).trans ((sa.2 c hc.1).trans e)))
theorem zd0 {t:Addr}{c:Bool}{o:Obj}(S:Sep z TI TO i1 i2 f1 f2) (D1:Draws prog w A i1 f1 n1 P1 S1) {Q:Fin→Shared→Prop}(hz:IsZipN s.heap z TI TO t c) (ho:s.heap.get? t=some o) (hI:IsPair s.heap TI (.ref i1) (.ref i2)) (d1:S1 n1 s.heap)
  (h:∀ h' x,(∀ c o,c∉[z,TO,i1,i2]→s.heap.get? c=some o→h'.get? c=some o)→(∃ o,h'.get? x=some o∧o.cls=.type "StopIteration")→E (.ref x) { s with heap:=h' }):wpAny (model prog w) A (Builtin.«zip.__next__» ⟨[.ref z],[]⟩) Q E s:=by
 refine rf 2 hz rfl rfl (rf 3 hz rfl rfl (wpAny_bind (wpAny_seqItems hI rfl (zdt hz ho fun ha za sa=>?_))))
 rw[if_neg Bool.false_ne_true]
 refine wpAny_bind ?_
 simp only[List.forIn_toArray,List.forIn_cons,List.forIn_nil]
 refine wpAny_bind (wpAny_bind (wpAny_holding (wpAny_bind (D1.done _ _ _ (D1.frame _ _ _ d1 fun c hc o e=>(sa.2 c fun q=>S.z1 (q ▸ hc)).trans e) fun hb x kb ex=>?_))))
 refine h hb x (fun c o hm e=>?_) ex
 simp only[List.mem_cons,List.not_mem_nil,or_false,not_or]at hm
 exact kb c o hm.2.2.1 ((sa.2 c hm.1).trans e)
end
theorem zd1:typeLookup (.type "zip") "__len__" = pure none:=by rw[typeLookup_type,builtinLookup_eq_fast];kernel_rfl
theorem zc1:typeLookup (.type "zip") "__length_hint__" = pure none:=by rw[typeLookup_type,builtinLookup_eq_fast];kernel_rfl
def ZSt (z TI TO i1 i2:Addr) (S1 S2:Nat→Heap→Prop) (k:Nat) (acc:Array Value) (h:Heap):Prop :=
 IsPair h TI (.ref i1) (.ref i2)∧S1 k h∧S2 k h∧((k=0∧IsZip h z TI TO .none∧∃ a b,IsPair h TO a b)∨(1≤k∧∃ t c,acc[0]?=some (.ref t)∧IsZipN h z TI TO t c))
def Kept (far:List Addr) (P1 P2:Nat→Value→Prop) (acc:Array Value) (h:Heap):Prop:=∀ j v,acc[j]?=some v→∃ t x y,v=.ref t∧t∉far∧IsPair h t x y∧P1 j x∧P2 j y
section
variable {prog:Program}{w:World}{A:Around}{E:Value→Shared→Prop}{s:Shared}{z TI TO i1 i2 L:Addr}{f1 f2:List Addr}{n n2 k:Nat}{P1 P2:Nat→Value→Prop}{S1 S2:Nat→Heap→Prop}
theorem zjw {acc:Array Value}(S:Sep z TI TO i1 i2 f1 f2) (D1:Draws prog w A.in1 i1 f1 n P1 S1) (D2:Draws prog w A.in1 i2 f2 n2 P2 S2) (hle:n≤n2) {Q:Option Value→Shared→Prop}(Z:ZSt z TI TO i1 i2 S1 S2 k acc s.heap) (K:Kept [z,TI,TO,i1,i2,L] P1 P2 acc s.heap) (ha:acc.size=k) (hL:L<s.heap.objs.size) (hTO:TO<s.heap.objs.size) (lk:k<n)
  (h:∀ h' tk x y,P1 k x→P2 k y→IsPair h' s.heap.objs.size x y→ZSt z TI TO i1 i2 S1 S2 (k+1) (acc.push (.ref s.heap.objs.size)) h'→Kept [z,TI,TO,i1,i2,L] P1 P2 (acc.push (.ref s.heap.objs.size)) h' →
   (∀ c o,c∉[z,TO,i1,i2]→s.heap.get? c=some o→h'.get? c=some o)→Q (some (.ref s.heap.objs.size)) { s with heap:=h',toks:=tk }):wpAny (model prog w) A (pyNext (.ref z)) Q E s:=by
 obtain⟨hI,d1,d2,st⟩:=Z
 have nd:=S.all
 simp only[List.nodup_cons,List.mem_cons,List.not_mem_nil,or_false,not_or]at nd
 obtain⟨⟨zI,zO,z1,z2⟩,⟨IO,I1,I2⟩,⟨O1,O2⟩,n12,_⟩:=nd
 obtain⟨o1,e1⟩:=D1.live _ _ d1
 obtain⟨o2,e2⟩:=D2.live _ _ d2
 have old:∀ h':Heap,(∀ c o,c∉[z,TO,i1,i2]→s.heap.get? c=some o→h'.get? c=some o)→∀ x y,IsPair h' s.heap.objs.size x y→P1 k x→P2 k y→(∃ oz,s.heap.get? z=some oz)→TO<s.heap.objs.size→Kept [z,TI,TO,i1,i2,L] P1 P2 (acc.push (.ref s.heap.objs.size)) h':=by
  intro h' kk x y new px py ⟨oz,ez⟩ lt j v hv
  by_cases q:j<acc.size
  ·rw[Array.getElem?_push_lt q]at hv
   obtain⟨t,x',y',rfl,nt,ht,p1,p2⟩:=K j v ((getElem?_pos acc j q).trans hv)
   refine⟨t,x',y',rfl,nt,kk t _ (fun m=>nt ?_) ht,p1,p2⟩
   simp only[List.mem_cons,List.not_mem_nil,or_false]at m ⊢
   rcases m with m|m|m|m<;>simp[m]
  ·have jl:j<(acc.push (.ref s.heap.objs.size)).size:=(Array.getElem?_eq_some_iff.mp hv).1
   rw[Array.size_push]at jl
   obtain rfl:j=acc.size:=by lia
   rw[Array.getElem?_push_size]at hv
   obtain rfl:=Option.some.inj hv
   refine⟨_,x,y,rfl,fun m=>?_,new,by rw[ha];exact px,by rw[ha];exact py⟩
   simp only[List.mem_cons,List.not_mem_nil,or_false]at m
   have b1:=Heap.lt_size ez
   have b2:=Heap.lt_size hI
   have b3:=Heap.lt_size e1
   have b4:=Heap.lt_size e2
   rcases m with m|m|m|m|m|m
   ·exact Nat.ne_of_gt b1 m
   ·exact Nat.ne_of_gt b2 m
   ·exact Nat.ne_of_gt lt m
   ·exact Nat.ne_of_gt b3 m
   ·exact Nat.ne_of_gt b4 m
   ·exact Nat.ne_of_gt hL m
 have first:∀ t,acc[0]?=some (Value.ref t)→(acc.push (.ref s.heap.objs.size))[0]?=some (Value.ref t):=fun t e=>by
  have q:=(Array.getElem?_eq_some_iff.mp e).1
  rw[Array.getElem?_push_lt q];exact(getElem?_pos acc 0 q).symm.trans e
 rcases st with ⟨rfl,hz,a,b,hO⟩|⟨k1,t,c,ht,hz⟩
 ·have tyz:s.TypeIs (.ref z) "zip":=⟨_,hz,rfl⟩
  unfold pyNext
  refine wpAny_bind (wpAny_attempt (wpAny_callSpecial?_slot (name:="__next__") tyz F.slot_zip_next (wpAny_call_entry F.slot_zip_next tyz F.entry_zip_next (zdr S D1 D2 hz hI hO d1 d2 lk (by lia)
   fun x y h' tk p1 p2 zh Oh s1 s2 new kk=>wpAny_pure ?_) (F.args_zip_next_1 _))))
  have acc0:acc = #[]:=Array.size_eq_zero_iff.mp ha
  subst acc0
  exact h h' tk x y p1 p2 new ⟨kk TI _ (by simp[Ne.symm zI,IO,I1,I2]) hI,s1,s2,.inr ⟨by lia,s.heap.objs.size,false,rfl,zh⟩⟩ (old h' kk x y new p1 p2 ⟨_,hz⟩ (Heap.lt_size hO)) kk
 ·have tyz:s.TypeIs (.ref z) "zip":=⟨_,hz,rfl⟩
  obtain⟨t',x0,y0,et,nt,ht',_,_⟩:=K 0 _ ht
  cases et
  unfold pyNext
  refine wpAny_bind (wpAny_attempt (wpAny_callSpecial?_slot (name:="__next__") tyz F.slot_zip_next (wpAny_call_entry F.slot_zip_next tyz F.entry_zip_next (zfV S D1 D2 hz ht' hI d1 d2 lk (by lia)
   fun x y h' tk p1 p2 zh s1 s2 new kk=>wpAny_pure ?_) (F.args_zip_next_1 _))))
  exact h h' tk x y p1 p2 new ⟨kk TI _ (by simp[Ne.symm zI,IO,I1,I2]) hI,s1,s2,.inr ⟨by lia,t,true,first t ht,zh⟩⟩ (old h' kk x y new p1 p2 ⟨_,hz⟩ hTO) kk
theorem ziq {acc:Array Value}(S:Sep z TI TO i1 i2 f1 f2) (D1:Draws prog w A.in1 i1 f1 n P1 S1) {Q:Option Value→Shared→Prop}(Z:ZSt z TI TO i1 i2 S1 S2 n acc s.heap) (K:Kept [z,TI,TO,i1,i2,L] P1 P2 acc s.heap)
  (h:∀ h',(∀ c o,c∉[z,TO,i1,i2]→s.heap.get? c=some o→h'.get? c=some o)→Q none { s with heap:=h' }):wpAny (model prog w) A (pyNext (.ref z)) Q E s:=by
 obtain⟨hI,d1,d2,st⟩:=Z
 rcases st with ⟨rfl,hz,a,b,hO⟩|⟨k1,t,c,ht,hz⟩
 ·have tyz:s.TypeIs (.ref z) "zip":=⟨_,hz,rfl⟩
  unfold pyNext
  refine wpAny_bind (wpAny_attempt (wpAny_callSpecial?_slot (name:="__next__") tyz F.slot_zip_next (wpAny_call_entry F.slot_zip_next tyz F.entry_zip_next (zdq S D1 hz hI d1 fun h' x kk ⟨o,eo,co⟩=>?_) (F.args_zip_next_1 _))))
  exact wpAny_bind (wpAny_isInstance (T:="StopIteration") (b:=true) ⟨o,eo,co⟩ isSubtype_stop (wpAny_pure (h h' kk)))
 ·have tyz:s.TypeIs (.ref z) "zip":=⟨_,hz,rfl⟩
  obtain⟨t',x0,y0,et,nt,ht',_,_⟩:=K 0 _ ht
  cases et
  unfold pyNext
  refine wpAny_bind (wpAny_attempt (wpAny_callSpecial?_slot (name:="__next__") tyz F.slot_zip_next (wpAny_call_entry F.slot_zip_next tyz F.entry_zip_next (zd0 S D1 hz ht' hI d1 fun h' x kk ⟨o,eo,co⟩=>?_) (F.args_zip_next_1 _))))
  exact wpAny_bind (wpAny_isInstance (T:="StopIteration") (b:=true) ⟨o,eo,co⟩ isSubtype_stop (wpAny_pure (h h' kk)))
theorem zg7 {res:Value}{R:Result→Shared→Prop}{J:Array Value→Shared→Prop}(S:Sep z TI TO i1 i2 f1 f2) (D1:Draws prog w A.in1.in1 i1 f1 n P1 S1) (D2:Draws prog w A.in1.in1 i2 f2 n2 P2 S2) (hle:n≤n2) (nL:L∉[z,TI,TO,i1,i2]++f1++f2) (hn:n≤sizeLine)
  (jn:∀ (acc:Array Value) (s:Shared) (h':Heap) tk x y,J acc s→L<s.heap.objs.size→P1 acc.size x→P2 acc.size y→IsPair h' s.heap.objs.size x y→(∀ c o,c∉[z,TO,i1,i2]→s.heap.get? c=some o→h'.get? c=some o)→J (acc.push (.ref s.heap.objs.size)) { s with heap:=h',toks:=tk })
  (jf:∀ (acc:Array Value) (s:Shared) (h':Heap) tk,J acc s→(∀ c o,c∉[z,TO,i1,i2,L]→s.heap.get? c=some o→h'.get? c=some o)→J acc { s with heap:=h',toks:=tk }) :
  ∀ (m k:Nat) (s:Shared) (acc:Array Value) (c:Nat),k+m=n→acc.size=k→ZSt z TI TO i1 i2 S1 S2 k acc s.heap→Kept [z,TI,TO,i1,i2,L] P1 P2 acc s.heap→s.heap.get? L=some { cls:=.type "list",dict:=none,data:=.seq acc c,slots:=#[] }→TO<s.heap.objs.size→J acc s →
   (∀ h' tk acc' c',acc'.size=n→J acc' { s with heap:=h',toks:=tk }→Kept [z,TI,TO,i1,i2,L] P1 P2 acc' h'→h'.get? L=some { cls:=.type "list",dict:=none,data:=.seq acc' c',slots:=#[] }→(∀ b o,b∉[z,TO,i1,i2,L]→s.heap.get? b=some o→h'.get? b=some o)→R (.ok (.ret res)) { s with heap:=h',toks:=tk }) →
   codeAny (model prog w) A (.builtin "list.extend.loop" ⟨[.ref L,.ref z,res],[]⟩) R s:=by
 simp only[List.mem_append,List.mem_cons,List.not_mem_nil,or_false,not_or]at nL
 obtain⟨⟨⟨Lz,LI,LO,L1,L2⟩,Lf1⟩,Lf2⟩:=nL
 intro m
 induction m with
 | zero =>
  intro k s acc c km ha Z K hs hTO j0 fin
  obtain rfl:k=n:=by lia
  refine codeAny_builtin F.entry_extend_loop (by
   refine Around.under_plainId F.plain_extend_loop _ ▸ (show wpAny _ A.in1 (pyNext (.ref z) >>= _) _ _ _ from wpAny_bind (ziq S D1 Z K fun h' kk=>?_))
   refine wpAny_pure (fin h' s.toks acc c ha (jf acc s h' s.toks j0 fun c o hc e=>kk c o (fun m=>hc (by simp only[List.mem_cons,List.not_mem_nil,or_false]at m ⊢;rcases m with m|m|m|m<;>simp[m])) e) (fun j v hv=>?_) (kk L _ (by simp[Lz,LO,L1,L2]) hs) fun b o hb e=>kk b o (fun m=>hb ?_) e)
   ·obtain⟨t,x,y,rfl,nt,ht,p1,p2⟩:=K j v hv
    refine⟨t,x,y,rfl,nt,kk t _ (fun m=>nt ?_) ht,p1,p2⟩
    simp only[List.mem_cons,List.not_mem_nil,or_false]at m ⊢
    rcases m with m|m|m|m<;>simp[m]
   ·simp only[List.mem_cons,List.not_mem_nil,or_false]at m ⊢
    rcases m with m|m|m|m<;>simp[m])
 | succ m ih =>
  intro k s acc c km ha Z K hs hTO j0 fin
  have Ls:=Heap.lt_size hs
  refine codeAny_builtin F.entry_extend_loop (by
   refine Around.under_plainId F.plain_extend_loop _ ▸ (show wpAny _ A.in1 (pyNext (.ref z) >>= _) _ _ _ from wpAny_bind (zjw (L:=L) S D1 D2 hle Z K ha Ls hTO (by lia) fun h1 tk x y px py new Z1 K1 kk=>?_))
   have hs1:=kk L _ (by simp[Lz,LO,L1,L2]) hs
   show wpAny _ A.in1 (updateSeq L (·.push (.ref s.heap.objs.size)) >>= _) _ _ _
   refine wpAny_bind (wpAny_updateSeq hs1 rfl ?_ (hz:=by rw[ha];lia) (_hz':=by rw[Array.size_push,ha];lia))
   have oth:∀ b o,b≠L→h1.get? b=some o→(h1.update L (Obj.mapSeq (·.push (.ref s.heap.objs.size)))).get? b=some o:=fun b o hb e=>(Heap.get?_update_other _ _ (Ne.symm hb)).trans e
   obtain⟨hI,d1,d2,st⟩:=Z1
   have hs2:=Heap.get?_update_self (Obj.mapSeq (·.push (.ref s.heap.objs.size))) hs1 rfl
   refine wpAny_pure ⟨plainId_quiet F.plain_extend_loop _,ih (k+1) _ (acc.push (.ref s.heap.objs.size)) _ (by lia) (by rw[Array.size_push,ha]) ⟨oth _ _ (Ne.symm LI) hI,D1.frame _ _ _ d1 fun b hb o e=>oth b o (fun q=>Lf1 (q ▸ hb)) e,D2.frame _ _ _ d2 fun b hb o e=>oth b o (fun q=>Lf2 (q ▸ hb)) e,?_⟩ (fun j v hv=>?_) hs2 ?_ (jf _ _ _ tk (jn acc s h1 tk x y j0 Ls (by rw[ha];exact px) (by rw[ha];exact py) new kk) fun c o hc e=>oth c o (fun q=>hc (by simp[q])) e) fun h' tk' acc' c' a1 j1 a2 a3 a4=>fin h' tk' acc' c' a1 j1 a2 a3 fun b o hb e=>a4 b o hb ?_⟩
   ·rcases st with ⟨q,_⟩|⟨q,t,c',e,hz⟩
    ·lia
    ·exact .inr ⟨q,t,c',e,oth _ _ (Ne.symm Lz) hz⟩
   ·obtain⟨t,x,y,rfl,nt,ht,p1,p2⟩:=K1 j v hv
    exact⟨t,x,y,rfl,nt,oth t _ (fun q=>nt (by simp[q])) ht,p1,p2⟩
   ·rw[Heap.size_update]
    obtain⟨t,x,y,e,_,ht,_,_⟩:=K1 acc.size _ Array.getElem?_push_size
    cases e
    exact Nat.lt_trans hTO (Heap.lt_size ht)
   ·simp only[List.mem_cons,List.not_mem_nil,or_false,not_or]at hb
    exact oth b o hb.2.2.2.2 (kk b o (by simp[hb]) e))
theorem zfP {Q:List Value→Shared→Prop}{J:Array Value→Shared→Prop}(S:Sep z TI TO i1 i2 f1 f2) (D1:Draws prog w A.in1.in1 i1 f1 n P1 S1) (D2:Draws prog w A.in1.in1 i2 f2 n2 P2 S2) (hle:n≤n2) (hz:IsZip s.heap z TI TO .none) (hI:IsPair s.heap TI (.ref i1) (.ref i2)) {a b:Value}(hO:IsPair s.heap TO a b) (d1:S1 0 s.heap) (d2:S2 0 s.heap)
  (low:∀ c∈f1++f2,c<s.heap.objs.size) (hn:n≤sizeLine)
  (jn:∀ (acc:Array Value) (s':Shared) (h':Heap) tk x y,J acc s'→s.heap.objs.size<s'.heap.objs.size→P1 acc.size x→P2 acc.size y→IsPair h' s'.heap.objs.size x y→(∀ c o,c∉[z,TO,i1,i2]→s'.heap.get? c=some o→h'.get? c=some o)→J (acc.push (.ref s'.heap.objs.size)) { s' with heap:=h',toks:=tk })
  (jf:∀ (acc:Array Value) (s':Shared) (h':Heap) tk,J acc s'→(∀ c o,c∉[z,TO,i1,i2,s.heap.objs.size]→s'.heap.get? c=some o→h'.get? c=some o)→J acc { s' with heap:=h',toks:=tk })
  (j0:J #[] s)
  (h:∀ h' tk (acc:Array Value),acc.size=n→J acc { s with heap:=h',toks:=tk }→Kept [z,TI,TO,i1,i2,s.heap.objs.size] P1 P2 acc h'→(∀ b o,b∉[z,TO,i1,i2]→s.heap.get? b=some o→h'.get? b=some o)→s.heap.objs.size<h'.objs.size→Q acc.toList { s with heap:=h',toks:=tk }):wpAny (model prog w) A (collect (.ref z)) Q E s:=by
 obtain⟨o1,e1⟩:=D1.live _ _ d1
 obtain⟨o2,e2⟩:=D2.live _ _ d2
 have nL:s.heap.objs.size∉[z,TI,TO,i1,i2]++f1++f2:=fun m=>by
  simp only[List.mem_append,List.mem_cons,List.not_mem_nil,or_false]at m
  rcases m with ((m|m|m|m|m)|m)|m
  ·exact Nat.ne_of_gt (Heap.lt_size hz) m
  ·exact Nat.ne_of_gt (Heap.lt_size hI) m
  ·exact Nat.ne_of_gt (Heap.lt_size hO) m
  ·exact Nat.ne_of_gt (Heap.lt_size e1) m
  ·exact Nat.ne_of_gt (Heap.lt_size e2) m
  ·exact Nat.lt_irrefl _ (low _ (List.mem_append_left _ m))
  ·exact Nat.lt_irrefl _ (low _ (List.mem_append_right _ m))
 have p1:∀ c o,s.heap.get? c=some o→(s.heap.push (seqObj "list" #[] 0)).get? c=some o:=fun c o e=>Heap.get?_push_of_some _ e
 have tyz:Shared.TypeIs ({ s with heap:=s.heap.push (seqObj "list" #[] 0) }:Shared) (.ref z) "zip":=⟨_,p1 _ _ hz,rfl⟩
 have new:(s.heap.push (seqObj "list" #[] 0)).get? s.heap.objs.size=some (seqObj "list" #[] 0):=Heap.get?_push_size _ rfl
 unfold collect
 refine wpAny_bind (wpAny_runValue (codeAny_builtin entry_proto_collect' (Around.under_plainId F.plain_proto_collect _ ▸ (wpAny_bind (wpAny_newList (wpAny_pure ⟨Code.quiet_builtin _ (by decide +kernel),codeAny_builtin entry_list_iadd' (Around.under_plainId F.plain_list_iadd _ ▸ ?_)⟩))))))
 show wpAny _ A.in1 (Builtin.List.listExtendWith (.ref s.heap.objs.size) (.ref z) (.ref s.heap.objs.size)) _ _ ({ s with heap:=s.heap.push (seqObj "list" #[] 0) }:Shared)
 unfold Builtin.List.listExtendWith;refine wpAny_bind (wpAny_typeOf tyz ?_)
 have no:(Builtin.List.listSameRef (.ref s.heap.objs.size) (.ref z) || Value.type "zip" == Value.type "list" || Value.type "zip" == Value.type "tuple")=false:=by
  have:Builtin.List.listSameRef (.ref s.heap.objs.size) (.ref z)=false:=by simp[Builtin.List.listSameRef,Nat.ne_of_gt (Heap.lt_size hz)]
  rw[this];decide
 rw[no,if_neg Bool.false_ne_true]
 refine wpAny_bind (wpAny_pyIter_zip (p1 _ _ hz) (wpAny_bind (wpAny_holding ?_)))
 unfold Builtin.List.listLengthHint;refine wpAny_bind (wpAny_specialOf tyz zd1 ?_)
 show wpAny _ A.in1 (specialOf (Value.ref z) (Str.ofString "__length_hint__") >>= _) _ _ _
 refine wpAny_bind (wpAny_specialOf tyz zc1 (wpAny_pure ?_))
 refine wpAny_bind (wpAny_rule (wpAny_bind ?_))
 unfold Builtin.List.listTouch Builtin.List.listUpdate;refine wpAny_bind (wpAny_updateSeq new rfl ?_)
 have n2:=Heap.get?_update_self (Obj.mapSeq (·.push Value.none)) new rfl
 refine wpAny_updateSeq n2 rfl ?_
 have n3:=Heap.get?_update_self (Obj.mapSeq (·.pop)) n2 rfl
 have oth:∀ b o,s.heap.get? b=some o→(((s.heap.push (seqObj "list" #[] 0)).update s.heap.objs.size (Obj.mapSeq (·.push Value.none))).update s.heap.objs.size (Obj.mapSeq (·.pop))).get? b=some o :=
  fun b o e=>by
   have hb:=Nat.ne_of_gt (Heap.lt_size e)
   exact(Heap.get?_update_other _ _ hb).trans ((Heap.get?_update_other _ _ hb).trans (p1 b o e))
 refine wpAny_pure ⟨plainId_quiet F.plain_extend_loop _,zg7 (J:=J) (L:=s.heap.objs.size) S D1 D2 hle nL hn jn jf n 0 _ #[] _ (by lia) rfl ⟨oth _ _ hI,D1.frame _ _ _ d1 fun b _ o e=>oth b o e,D2.frame _ _ _ d2 fun b _ o e=>oth b o e,.inl ⟨rfl,oth _ _ hz,_,_,oth _ _ hO⟩⟩ (fun j v hv=>by simp at hv) n3 ?_ (jf #[] s _ s.toks j0 fun c o _ e=>oth c o e) fun h' tk acc' c' a1 j1 a2 a3 a4=>?_⟩
 ·rw[Heap.size_update,Heap.size_update,size_push']
  exact Nat.lt_succ_of_lt (Heap.lt_size hO)
 ·refine wpAny_bind (wpAny_load a3 (wpAny_pure (h h' tk acc' a1 j1 a2 (fun b o hb e=>a4 b o (fun m=>?_) (oth b o e)) (Heap.lt_size a3))))
  simp only[List.mem_cons,List.not_mem_nil,or_false]at m hb
  rcases m with m|m|m|m|m
  ·exact hb (.inl m)
  ·exact hb (.inr (.inl m))
  ·exact hb (.inr (.inr (.inl m)))
  ·exact hb (.inr (.inr (.inr m)))
  ·exact Nat.ne_of_gt (Heap.lt_size e) m.symm
theorem zhp {res:Value}{R:Result→Shared→Prop}{J:Array Value→Shared→Prop}{c0:Nat}(S:Sep z TI TO i1 i2 f1 f2) (D1:Draws prog w A.in1.in1 i1 f1 n P1 S1) (D2:Draws prog w A.in1.in1 i2 f2 n2 P2 S2) (hle:n≤n2) (hz:IsZip s.heap z TI TO .none) (hI:IsPair s.heap TI (.ref i1) (.ref i2)) {a b:Value}(hO:IsPair s.heap TO a b) (d1:S1 0 s.heap) (d2:S2 0 s.heap)
  (hL:s.heap.get? L=some (seqObj "list" #[] c0)) (nL:L∉[z,TI,TO,i1,i2]++f1++f2) (hn:n≤sizeLine)
  (jn:∀ (acc:Array Value) (s':Shared) (h':Heap) tk x y,J acc s'→L<s'.heap.objs.size→P1 acc.size x→P2 acc.size y→IsPair h' s'.heap.objs.size x y→(∀ c o,c∉[z,TO,i1,i2]→s'.heap.get? c=some o→h'.get? c=some o)→J (acc.push (.ref s'.heap.objs.size)) { s' with heap:=h',toks:=tk })
  (jf:∀ (acc:Array Value) (s':Shared) (h':Heap) tk,J acc s'→(∀ c o,c∉[z,TO,i1,i2,L]→s'.heap.get? c=some o→h'.get? c=some o)→J acc { s' with heap:=h',toks:=tk })
  (j0:J #[] s)
  (h:∀ h' tk acc' c',acc'.size=n→J acc' { s with heap:=h',toks:=tk }→Kept [z,TI,TO,i1,i2,L] P1 P2 acc' h'→h'.get? L=some (seqObj "list" acc' c')→R (.ok (.ret res)) { s with heap:=h',toks:=tk }) :
  wpAny (model prog w) A.in1 (Builtin.List.listExtendWith (.ref L) (.ref z) res) (fun fin s'=>match fin with|.done f=>R (.ok f) s'|.again c'=>c'.quiet=true∧codeAny (model prog w) A c' R s') (fun e s'=>R (.error e) s') s:=by
 have Lz:L≠z:=fun q=>nL (by simp[q])
 have tyz:s.TypeIs (.ref z) "zip":=⟨_,hz,rfl⟩
 unfold Builtin.List.listExtendWith;refine wpAny_bind (wpAny_typeOf tyz ?_)
 have no:(Builtin.List.listSameRef (.ref L) (.ref z) || Value.type "zip" == Value.type "list" || Value.type "zip" == Value.type "tuple")=false:=by
  have:Builtin.List.listSameRef (.ref L) (.ref z)=false:=by simp[Builtin.List.listSameRef,Lz]
  rw[this];decide
 rw[no,if_neg Bool.false_ne_true]
 refine wpAny_bind (wpAny_pyIter_zip hz (wpAny_bind (wpAny_holding ?_)))
 unfold Builtin.List.listLengthHint;refine wpAny_bind (wpAny_specialOf tyz zd1 ?_)
 show wpAny _ A.in1 (specialOf (Value.ref z) (Str.ofString "__length_hint__") >>= _) _ _ _
 refine wpAny_bind (wpAny_specialOf tyz zc1 (wpAny_pure ?_))
 refine wpAny_bind (wpAny_rule (wpAny_bind ?_))
 unfold Builtin.List.listTouch Builtin.List.listUpdate;refine wpAny_bind (wpAny_updateSeq hL rfl ?_)
 have m2:=Heap.get?_update_self (Obj.mapSeq (·.push Value.none)) hL rfl
 refine wpAny_updateSeq m2 rfl ?_
 have m3:=Heap.get?_update_self (Obj.mapSeq (·.pop)) m2 rfl
 have oth:∀ b o,b≠L→s.heap.get? b=some o→((s.heap.update L (Obj.mapSeq (·.push Value.none))).update L (Obj.mapSeq (·.pop))).get? b=some o :=
  fun _ _ away was=>(Heap.get?_update_other _ _ (Ne.symm away)).trans ((Heap.get?_update_other _ _ (Ne.symm away)).trans was)
 have ne:=fun c (hc:c∈[z,TI,TO,i1,i2]++f1++f2)=>(fun q=>nL (q ▸ hc):c≠L)
 refine wpAny_pure ⟨plainId_quiet F.plain_extend_loop _,zg7 (J:=J) (L:=L) S D1 D2 hle nL hn jn jf n 0 _ #[] _ (by lia) rfl ⟨oth _ _ (ne TI (by simp)) hI,D1.frame _ _ _ d1 fun b hb o e=>oth b o (ne b (by simp[hb])) e,D2.frame _ _ _ d2 fun b hb o e=>oth b o (ne b (by simp[hb])) e,.inl ⟨rfl,oth _ _ (ne z (by simp)) hz,_,_,oth _ _ (ne TO (by simp)) hO⟩⟩ (fun j v hv=>by simp at hv) m3 ?_ (jf #[] s _ s.toks j0 fun c o hc e=>oth c o (fun q=>hc (by simp[q])) e) fun h' tk acc' c' a1 j1 a2 a3 a4=>h h' tk acc' c' a1 j1 a2 a3⟩
 rw[Heap.size_update,Heap.size_update]
 exact Heap.lt_size hO
theorem zh0 {Q:Value→Shared→Prop}{J:Array Value→Shared→Prop}(S:Sep z TI TO i1 i2 f1 f2) (D1:Draws prog w A.in1.in1.in1 i1 f1 n P1 S1) (D2:Draws prog w A.in1.in1.in1 i2 f2 n2 P2 S2) (hle:n≤n2) (hz:IsZip s.heap z TI TO .none) (hI:IsPair s.heap TI (.ref i1) (.ref i2)) {a b:Value}(hO:IsPair s.heap TO a b) (d1:S1 0 s.heap) (d2:S2 0 s.heap)
  (low:∀ c∈f1++f2,c<s.heap.objs.size) (hn:n≤sizeLine)
  (jn:∀ (acc:Array Value) (s':Shared) (h':Heap) tk x y,J acc s'→s.heap.objs.size<s'.heap.objs.size→P1 acc.size x→P2 acc.size y→IsPair h' s'.heap.objs.size x y→(∀ c o,c∉[z,TO,i1,i2]→s'.heap.get? c=some o→h'.get? c=some o)→J (acc.push (.ref s'.heap.objs.size)) { s' with heap:=h',toks:=tk })
  (jf:∀ (acc:Array Value) (s':Shared) (h':Heap) tk,J acc s'→(∀ c o,c∉[z,TO,i1,i2,s.heap.objs.size]→s'.heap.get? c=some o→h'.get? c=some o)→J acc { s' with heap:=h',toks:=tk })
  (j0:J #[] s)
  (h:∀ h' tk acc' c',acc'.size=n→J acc' { s with heap:=h',toks:=tk }→Kept [z,TI,TO,i1,i2,s.heap.objs.size] P1 P2 acc' h'→h'.get? s.heap.objs.size=some (seqObj "list" acc' c')→Q (.ref s.heap.objs.size) { s with heap:=h',toks:=tk }):wpAny (model prog w) A (call (.type "list") [.ref z]) Q E s:=by
 obtain⟨o1,e1⟩:=D1.live _ _ d1
 obtain⟨o2,e2⟩:=D2.live _ _ d2
 have nL:s.heap.objs.size∉[z,TI,TO,i1,i2]++f1++f2:=fun m=>by
  simp only[List.mem_append,List.mem_cons,List.not_mem_nil,or_false]at m
  rcases m with ((m|m|m|m|m)|m)|m
  ·exact Nat.ne_of_gt (Heap.lt_size hz) m
  ·exact Nat.ne_of_gt (Heap.lt_size hI) m
  ·exact Nat.ne_of_gt (Heap.lt_size hO) m
  ·exact Nat.ne_of_gt (Heap.lt_size e1) m
  ·exact Nat.ne_of_gt (Heap.lt_size e2) m
  ·exact Nat.lt_irrefl _ (low _ (List.mem_append_left _ m))
  ·exact Nat.lt_irrefl _ (low _ (List.mem_append_right _ m))
 refine callType_codes (Q₁:=fun obj t=>obj=.ref s.heap.objs.size∧t={ s with heap:=s.heap.push (seqObj "list" #[] 0) }) F.called_list (F.typeCall_list_1 _) F.entry_list_init (code_list_new _ ⟨rfl,rfl⟩) fun obj t ht=>?_
 obtain⟨rfl,rfl⟩:=ht
 have new:(s.heap.push (seqObj "list" #[] 0)).get? s.heap.objs.size=some (seqObj "list" #[] 0):=Heap.get?_push_size _ rfl
 have old:∀ c o,s.heap.get? c=some o→((s.heap.push (seqObj "list" #[] 0)).update s.heap.objs.size (Obj.mapSeq (fun _=>(#[]:Array Value)))).get? c=some o:=fun c o e=>(Heap.get?_update_other _ _ (Nat.ne_of_gt (Heap.lt_size e))).trans (Heap.get?_push_of_some _ e)
 have m2:=Heap.get?_update_self (Obj.mapSeq (fun _=>(#[]:Array Value))) new rfl
 refine⟨⟨_,new,rfl⟩,F.args_list_init_2 _ _,?_⟩
 show wpAny _ _ (do let was ← Builtin.List.listItems (.ref s.heap.objs.size);Builtin.List.listUpdate (.ref s.heap.objs.size) (fun _=>#[]);letGo was.toList.reverse;Builtin.List.listExtendWith (.ref s.heap.objs.size) (.ref z) .none) _ _ _
 refine wpAny_bind (m:=Builtin.List.listItems _) ?_
 unfold Builtin.List.listItems;refine wpAny_bind (wpAny_seqItems new rfl (wpAny_pure ?_))
 refine wpAny_bind (m:=updateSeq _ _) (wpAny_updateSeq new rfl (wpAny_bind (wpAny_letGo ?_)))
 refine zhp (A:=A.in1) (J:=J) (L:=s.heap.objs.size) S D1 D2 hle (old _ _ hz) (old _ _ hI) (old _ _ hO) (D1.frame _ _ _ d1 fun c _ o e=>old c o e) (D2.frame _ _ _ d2 fun c _ o e=>old c o e) m2 nL hn jn jf (jf #[] s _ s.toks j0 fun c o _ e=>old c o e) fun h' tk acc' c' a1 j1 a2 a3=>?_
 exact⟨rfl,h h' tk acc' c' a1 j1 a2 a3⟩
end
end Own
namespace Own
open PySem PySem.Spec PyProof.Rows Ts
section
variable {prog:Program}{w:World}{A:Around}{E:Value→Shared→Prop}{s:Shared}
theorem zgf {x:Value}{Q:Value→Shared→Prop}
  (h:wpAny (model prog w) A.in1 (collect x) (fun vs s1=>∃ (κ:SortKind) (rv:Value→Int),vs.length≤10000 ∧
   (∀ h':Heap,(∀ c o,s1.heap.get? c=some o→h'.get? c=some o)→2≤vs.length→∀ (A':Around) {Q:SortKind→Shared→Prop}{E:Value→Shared→Prop},Q κ { s1 with heap:=h' }→wpAny (model prog w) A' (keyKind' vs.toArray) Q E { s1 with heap:=h' }) ∧
   (∀ h':Heap,(∀ c o,s1.heap.get? c=some o→h'.get? c=some o)→∀ (A':Around),A'.units≤A.units+8→Cmp prog w A' { s1 with heap:=h' } κ (fun p=>p.1∈vs) (fun p=>rv p.1)) ∧
   ∀ (h':Heap) (l:Addr) (e:Nat) (out:List Value),s1.heap.objs.size≤l→h'.get? l=some (seqObj "list" out.toArray e)→out.Perm vs→out.Pairwise (fun x y=>rv x≤rv y)→(∀ c o,s1.heap.get? c=some o→h'.get? c=some o)→Q (.ref l) { s1 with heap:=h' }) E s) :
  wpAny (model prog w) A (call (.builtin "sorted") [x]) Q E s:=by
 refine Calls.call_function_entry kind_sorted plain_sorted entry_sorted (args_sorted1 _) ?_;unfold Builtin.«sorted»
 refine wpAny_bind (m:=checkCount "sorted" 1 1 _) (wpAny_pure (wpAny_bind (wpAny_mono h (fun vs s1 z=>?_) fun _ _ e=>e)))
 obtain⟨κ,rv,hz,hk,hc,fin⟩:=z
 have sl:vs.length≤sizeLine:=Nat.le_trans hz (by decide)
 refine wpAny_bind (wpAny_newList ?_ (hsz:=sl))
 have new:(s1.heap.push (seqObj "list" vs.toArray 0)).get? s1.heap.objs.size=some (seqObj "list" vs.toArray 0):=Heap.get?_push_size _ rfl
 have up:∀ h':Heap,(∀ c o,c≠s1.heap.objs.size→(s1.heap.push (seqObj "list" vs.toArray 0)).get? c=some o→h'.get? c=some o)→∀ c o,s1.heap.get? c=some o→h'.get? c=some o:=fun h' k c o e=>k c o (Nat.ne_of_lt (Heap.lt_size e)) (Heap.get?_push_of_some _ e)
 refine wpAny_bind (wpAny_holding (wpAny_call_entry slot_list_sort ⟨_,new,rfl⟩ entry_list_sort (zgg new hz κ rv (fun h' k l2=>hk h' (up h' k) l2 _) (fun h' k=>hc h' (up h' k) _ ?_) fun out p1 p2=>⟨_,rfl,?_⟩) (args_list_sort _)))
 ·show A.units+1+1≤A.units+8
  lia
 obtain⟨e,he⟩:=sortedHeap_at (out:=out.toArray) new
 refine wpAny_pure ⟨_,rfl,fin _ _ e out (Nat.le_refl _) he p1 p2 fun c o q=>?_⟩
 have lt:=Heap.lt_size q
 rw[sortedHeap_old (Nat.ne_of_lt lt) (by rw[size_push'];exact Nat.lt_succ_of_lt lt)]
 exact Heap.get?_push_of_some _ q
end
end Own
namespace L2
open PySem PySem.Spec PyProof.Rows Own Ts
inductive Lx (H:Hp):Nat→V→V→Ordering→Prop where
 | int (n:Nat) (i j:Int):Lx H n (.int i) (.int j) (compare i j)
 | row {n:Nat}{a b:Addr}{xs ys:List V}{cs:List Ordering}(ha:H a=some (.tup xs)) (hb:H b=some (.tup ys)) (l1:xs.length=cs.length) (l2:ys.length=cs.length) (h:∀ (i:Nat) u v c,xs[i]?=some u→ys[i]?=some v→cs[i]?=some c→Lx H n u v c) :
   Lx H (n+1) (.ref a) (.ref b) (cs.foldr Ordering.then .eq)
theorem Lx.pair {H:Hp}{n:Nat}{a b:Addr}{x1 x2 y1 y2:V}{c1 c2:Ordering}(ha:H a=some (.tup [x1,x2])) (hb:H b=some (.tup [y1,y2])) (h1:Lx H n x1 y1 c1) (h2:Lx H n x2 y2 c2):Lx H (n+1) (.ref a) (.ref b) (c1.then c2):=by
 have e:c1.then c2=[c1,c2].foldr Ordering.then .eq:=by cases c1<;>cases c2<;>rfl
 rw[e]
 refine .row ha hb rfl rfl fun i u v c hu hv hc=>?_
 rcases i with _|_|i
 ·cases hu;cases hv;cases hc;exact h1
 ·cases hu;cases hv;cases hc;exact h2
 ·simp at hu
theorem zdx:∀ {cs:List Ordering},cs.foldr Ordering.then .eq=.eq↔∀ c∈cs,c=.eq
 | []=>by simp
 | c::cs=>by
  rw[List.foldr_cons]
  constructor
  ·intro h
   cases c<;>simp[Ordering.then]at h
   intro d hd
   rcases List.mem_cons.mp hd with rfl|hd2
   ·rfl
   ·exact zdx.mp h d hd2
  ·intro h
   rw[h c List.mem_cons_self]
   exact zdx.mpr fun d hd=>h d (List.mem_cons_of_mem _ hd)
theorem zeA:∀ {cs:List Ordering},cs.foldr Ordering.then .eq≠.eq→∃ (k:Nat) (c:Ordering),cs[k]?=some c∧c≠.eq∧cs.foldr Ordering.then .eq=c∧∀ j:Nat,j<k→cs[j]?=some Ordering.eq
 | [],h=>absurd rfl h
 | c::cs,h=>by
  by_cases z:c=.eq
  ·subst z
   have e:(Ordering.eq::cs).foldr Ordering.then .eq=cs.foldr Ordering.then .eq:=rfl
   rw[e]at h ⊢
   obtain⟨k,d,h1,h2,h3,h4⟩:=zeA h
   refine⟨k+1,d,by simpa using h1,h2,h3,fun j hj=>?_⟩
   cases j with
   | zero=>rfl
   | succ j=>simpa using h4 j (by lia)
  ·refine⟨0,c,rfl,z,?_,fun j hj=>by lia⟩
   rw[List.foldr_cons]
   cases c<;>first|rfl|exact absurd rfl z
section
variable {X:Cx}
theorem zcH (i j:Int):(compare i j == .eq)=decide (i=j)∧(compare i j == .lt)=decide (i<j):=by
 rw[show compare i j=compareOfLessAndEq i j from rfl]
 unfold compareOfLessAndEq
 by_cases h1:i<j
 ·rw[if_pos h1,decide_eq_true h1,decide_eq_false (by lia)];exact⟨rfl,rfl⟩
 ·rw[if_neg h1,decide_eq_false h1]
  by_cases h2:i=j
  ·rw[if_pos h2,decide_eq_true h2];exact⟨rfl,rfl⟩
  ·rw[if_neg h2,decide_eq_false h2];exact⟨rfl,rfl⟩
theorem Lx.refl {H:Hp}{n:Nat}{x y:V}{c:Ordering}(h:Lx H n x y c):x=y→c=.eq:=by
 induction h with
 | int n i j =>
  intro e
  cases e
  have:=(zcH i i).1
  rw[decide_eq_true rfl]at this
  simpa using this
 | @row n a b xs ys cs ha hb l1 l2 h ih =>
  intro e
  cases e
  rw[ha]at hb
  cases hb
  refine zdx.mpr fun c hc=>?_
  obtain⟨i,hi⟩:=List.mem_iff_getElem?.mp hc
  have il:=(List.getElem?_eq_some_iff.mp hi).1
  exact ih i _ _ c (List.getElem?_eq_getElem (by lia)) (List.getElem?_eq_getElem (by lia)) hi rfl
theorem zjb {pins:List (Addr × Obj)}{σ:St}{H:Hp}{s:Shared}(I:Inv X pins σ H s) {n:Nat}{x y:V}{c:Ordering}(h:Lx H n x y c):∀ (A:Around) (u v:Value),A.units+n<cLine→RelV x u→RelV y v→SeqAt.EqAt A s u v (c == .eq):=by
 induction h with
 | int n i j =>
  intro A u v _ r1 r2
  have:=zik (A:=A) (s:=s) (x:=.int j) (y:=.int i) r1 r2 rfl rfl
  rw[(zcH i j).1]
  have e:eqV (.int i) (.int j)=decide (i=j):=by
   show (i == j)=decide (i=j)
   by_cases z:i=j<;>simp[z]
  rwa [e]at this
 | @row n a b xs ys cs ha hb l1 l2 h ih =>
  intro A u v hu r1 r2
  cases r1;cases r2
  by_cases ab:a=b
  ·subst ab
   have:cs.foldr Ordering.then .eq=.eq:=Lx.refl (.row ha hb l1 l2 h) rfl
   rw[this];exact SeqAt.EqAt.same _
  ·obtain⟨its,g1,p1,_⟩:=I.tuple (SqT.of ha)
   obtain⟨jts,g2,p2,_⟩:=I.tuple (SqT.of hb)
   have m1:=g1.length
   have m2:=g2.length
   refine SeqAt.EqAt.of_refs ab ?_
   have e:((List.range (min its.toArray.size jts.toArray.size)).all (fun j=>(cs.getD j .eq) == .eq) && its.toArray.size == jts.toArray.size)=(cs.foldr Ordering.then .eq == .eq):=by
    rw[List.size_toArray,List.size_toArray,← m1,← m2,l1,l2,beq_self_eq_true,Bool.and_true,Nat.min_self]
    by_cases z:cs.foldr Ordering.then .eq=.eq
    ·rw[z]
     refine(List.all_eq_true.mpr fun j hj=>?_).trans rfl
     have jl:=List.mem_range.mp hj
     rw[List.getD_eq_getElem?_getD,List.getElem?_eq_getElem jl,Option.getD_some,zdx.mp z _ (List.getElem_mem jl)];rfl
    ·obtain⟨k,d,h1,h2,h3,_⟩:=zeA z
     have kl:=(List.getElem?_eq_some_iff.mp h1).1
     rw[h3]
     have f1:(d == Ordering.eq)=false:=by simpa using h2
     rw[f1]
     refine Bool.eq_false_iff.mpr fun t=>?_
     have:=List.all_eq_true.mp t k (List.mem_range.mpr kl)
     rw[List.getD_eq_getElem?_getD,h1,Option.getD_some,f1]at this
     cases this
   have:=SeqAt.RcAt.tuples (e:=fun j=>(cs.getD j .eq) == .eq) p1 p2 (A:=A) (s:=s) (by lia) (fun j k1 k2=>?_)
   ·rwa [e]at this
   ·have k1':j<xs.length:=by simpa [m1] using k1
    have k2':j<ys.length:=by simpa [m2] using k2
    obtain⟨w1,e1,q1⟩:=g1.get (List.getElem?_eq_getElem k1')
    obtain⟨w2,e2,q2⟩:=g2.get (List.getElem?_eq_getElem k2')
    have z1:its.toArray[j]=w1:=by simpa using (List.getElem?_eq_some_iff.mp e1).2
    have z2:jts.toArray[j]=w2:=by simpa using (List.getElem?_eq_some_iff.mp e2).2
    have kc:j<cs.length:=by lia
    rw[z1,z2,List.getD_eq_getElem?_getD,List.getElem?_eq_getElem kc,Option.getD_some]
    exact ih j _ _ _ (List.getElem?_eq_getElem k1') (List.getElem?_eq_getElem k2') (List.getElem?_eq_getElem kc) A.in1 _ _ (by show A.units+1+n<cLine;lia) q1 q2
theorem zkq {pins:List (Addr × Obj)}{σ:St}{H:Hp}{s:Shared}(I:Inv X pins σ H s) {n:Nat}{x y:V}{c:Ordering}(h:Lx H n x y c):c≠.eq→∀ (A:Around) (u v:Value),A.units+n<cLine→RelV x u→RelV y v→LtAt A s u v (c == .lt):=by
 induction h with
 | int n i j =>
  intro _ A u v _ ⟨t1,e1⟩ ⟨t2,e2⟩
  subst e1 e2
  rw[(zcH i j).2]
  exact LtAt.ints i j t1 t2
 | @row n a b xs ys cs ha hb l1 l2 h ih =>
  intro ne A u v hu r1 r2
  cases r1;cases r2
  obtain⟨its,g1,p1,_⟩:=I.tuple (SqT.of ha)
  obtain⟨jts,g2,p2,_⟩:=I.tuple (SqT.of hb)
  have m1:=g1.length
  have m2:=g2.length
  obtain⟨k,d,h1,h2,h3,h4⟩:=zeA ne
  have kl:=(List.getElem?_eq_some_iff.mp h1).1
  have at_:∀ j (k1:j<its.toArray.size) (k2:j<jts.toArray.size),∃ (j1:j<xs.length) (j2:j<ys.length),RelV xs[j] its.toArray[j]∧RelV ys[j] jts.toArray[j]:=fun j k1 k2=>by
   have k1':j<xs.length:=by simpa [m1] using k1
   have k2':j<ys.length:=by simpa [m2] using k2
   obtain⟨w1,e1,q1⟩:=g1.get (List.getElem?_eq_getElem k1')
   obtain⟨w2,e2,q2⟩:=g2.get (List.getElem?_eq_getElem k2')
   have z1:its.toArray[j]=w1:=by simpa using (List.getElem?_eq_some_iff.mp e1).2
   have z2:jts.toArray[j]=w2:=by simpa using (List.getElem?_eq_some_iff.mp e2).2
   rw[z1,z2]
   exact⟨k1',k2',q1,q2⟩
  rw[h3]
  have b1:k<its.toArray.size:=by rw[List.size_toArray];lia
  have b2:k<jts.toArray.size:=by rw[List.size_toArray];lia
  obtain⟨j1,j2,r1,r2⟩:=at_ k b1 b2
  refine LtAt.tuples (k:=k) p1 p2 (by lia) b1 b2 (fun j k1 k2 hj=>?_) ?_ ?_
  ·obtain⟨j1,j2,r1,r2⟩:=at_ j k1 k2
   exact zjb I (h j _ _ _ (List.getElem?_eq_getElem j1) (List.getElem?_eq_getElem j2) (h4 j hj)) A.in1 _ _ (by show A.units+1+n<cLine;lia) r1 r2
  ·have:=zjb I (h k _ _ _ (List.getElem?_eq_getElem j1) (List.getElem?_eq_getElem j2) h1) A.in1 _ _ (by show A.units+1+n<cLine;lia) r1 r2
   rwa [show (d == Ordering.eq)=false from by simpa using h2]at this
  ·exact ih k _ _ _ (List.getElem?_eq_getElem j1) (List.getElem?_eq_getElem j2) h1 h2 A.in1 _ _ (by show A.units+1+n<cLine;lia) r1 r2
end
def Rk (H:Hp) (xs:List V) (rk:V→Int):Prop:=(∀ x∈xs,∃ i,x=.int i∧rk x=i)∨∃ n,n≤20∧∀ x∈xs,(∃ a f r,x=.ref a∧H a=some (.tup (.int f::r)))∧∀ y∈xs,Lx H n x y (compare (rk x) (rk y))
def vOf:Value→V
 | .int i _=>.int i
 | .ref a=>.ref a
 | _=>.non
theorem zdw:∀ {xs:List V}{us:List Value},Vals xs us→(∀ x∈xs,(∃ i,x=.int i)∨∃ a,x=.ref a)→xs=us.map vOf∧∀ u∈us,RelV (vOf u) u
 | _,_,.nil,_=>⟨rfl,fun u hu=>by simp at hu⟩
 | x::xs,u::us,.cons r rs,h=>by
  obtain⟨e,f⟩:=zdw rs fun y hy=>h y (List.mem_cons_of_mem _ hy)
  have one:vOf u=x∧RelV (vOf u) u:=by
   rcases h x List.mem_cons_self with ⟨i,rfl⟩|⟨a,rfl⟩
   ·obtain⟨t,rfl⟩:=r;exact⟨rfl,t,rfl⟩
   ·cases r;exact⟨rfl,rfl⟩
  refine⟨by rw[List.map_cons,one.1,← e],fun v hv=>?_⟩
  rcases List.mem_cons.mp hv with rfl|hv2
  ·exact one.2
  ·exact f v hv2
theorem zcx:∀ {us:List Value},(∀ u∈us,RelV (vOf u) u)→Vals (us.map vOf) us
 | [],_=>.nil
 | u::us,h=>.cons (h u List.mem_cons_self) (zcx fun v hv=>h v (List.mem_cons_of_mem _ hv))
theorem Rk.kinds {H:Hp}{xs:List V}{rk:V→Int}(h:Rk H xs rk):∀ x∈xs,(∃ i,x=.int i)∨∃ a,x=.ref a:=fun x hx=>by
 rcases h with h|⟨n,_,h⟩
 ·obtain⟨i,e,_⟩:=h x hx;exact .inl ⟨i,e⟩
 ·obtain⟨⟨a,_,_,e,_⟩,_⟩:=h x hx;exact .inr ⟨a,e⟩
section
variable {prog:Program}{w:World}{A:Around}{E:Value→Shared→Prop}{s:Shared}
theorem zhM {u v:Value}{b:Bool}{Q:Bool→Shared→Prop}(l:LtAt A s u v b) (h:Q b s):wpAny (model prog w) A (oneLt' false u v) Q E s:=by
 rw[oneLt'_eq,if_neg Bool.false_ne_true]
 exact wpAny_bind (l prog w _ _ (wpAny_truthy_bool h))
theorem zji {Q:Bool→Shared→Prop}(cs:List Ordering):∀ (us vs:List Value) (i:Nat),us.length=cs.length→vs.length=cs.length→(∀ (j:Nat) u v c,us[j]?=some u→vs[j]?=some v→cs[j]?=some c→SeqAt.EqAt A s u v (c == .eq)∧(c≠.eq→LtAt A s u v (c == .lt))) →
  (i=0→∀ u v c,us[0]?=some u→vs[0]?=some v→cs[0]?=some c→∃ a b t t',u=.int a t∧v=.int b t'∧c=compare a b)→Q (cs.foldr Ordering.then .eq == .lt) s→PySem.W.KatLex prog w A true false Q (us.zip vs) i s:=by
 induction cs with
 | nil =>
  intro us vs i l1 l2 _ _ q
  rw[List.length_eq_zero_iff.mp l1]
  exact PySem.W.kat_nil q
 | cons c cs ih =>
  intro us vs i l1 l2 h h0 q
  obtain⟨u,us,rfl⟩:∃ u us',us=u::us':=by
   cases us with
   | nil=>simp at l1
   | cons u us=>exact⟨u,us,rfl⟩
  obtain⟨v,vs,rfl⟩:∃ v vs',vs=v::vs':=by
   cases vs with
   | nil=>simp at l2
   | cons v vs=>exact⟨v,vs,rfl⟩
  have hh:=h 0 u v c rfl rfl rfl
  refine PySem.W.kat_cons (hh.1 prog w _ _ ?_)
  by_cases z:c=.eq
  ·subst z
   refine PySem.W.kat_yes (ih us vs (i+1) (by simpa using l1) (by simpa using l2) (fun j u v c a1 a2 a3=>h (j+1) u v c (by simpa using a1) (by simpa using a2) (by simpa using a3)) (fun e=>by lia) q)
  ·have e1:(c == Ordering.eq)=false:=by simpa using z
   have e2:(c::cs).foldr Ordering.then .eq=c:=by
    rw[List.foldr_cons]
    cases c<;>first|rfl|exact absurd rfl z
   rw[e2]at q
   rw[e1]
   refine PySem.W.kat_no ?_
   by_cases i0:i=0
   ·obtain⟨a,b,t,t',rfl,rfl,ec⟩:=h0 i0 u v c rfl rfl rfl
    subst i0
    rw[ec,(zcH a b).2]at q
    exact oneLt_int q
   ·have:(true && i == 0)=false:=by simpa using i0
    rw[this]
    exact zhM (hh.2 z) q
end
section
variable {X:Cx}
theorem asks {pins:List (Addr × Obj)}{σ:St}{H:Hp}{s1:Shared}(I:Inv X pins σ H s1) (hu:X.A.units+64<cLine) {xs:List V}{vs:List Value}{rk:V→Int}(r:Vals xs vs) (R:Rk H xs rk) :
  ∃ κ:SortKind,(∀ h':Heap,(∀ c o,s1.heap.get? c=some o→h'.get? c=some o)→2≤vs.length→∀ (A':Around) {Q:SortKind→Shared→Prop}{E:Value→Shared→Prop},Q κ { s1 with heap:=h' }→wpAny (model X.prog X.w) A' (keyKind' vs.toArray) Q E { s1 with heap:=h' }) ∧
   (∀ h':Heap,(∀ c o,s1.heap.get? c=some o→h'.get? c=some o)→∀ (A':Around),A'.units≤X.A.units+8→Cmp X.prog X.w A' { s1 with heap:=h' } κ (fun p=>p.1∈vs) (fun p=>rk (vOf p.1))):=by
 obtain⟨ex,rel⟩:=zdw r R.kinds
 have mem:∀ u∈vs,vOf u∈xs:=fun u hu=>by rw[ex];exact List.mem_map.mpr ⟨u,hu,rfl⟩
 rcases R with R|⟨n,hn,R⟩
 ·have nms:∀ u∈vs,∃ i t,u=.int i t∧rk (vOf u)=i:=fun u hu=>by
   obtain⟨i,e,ei⟩:=R _ (mem u hu)
   have ru:=rel u hu
   rw[e]at ru
   obtain⟨t,rfl⟩:=ru
   exact⟨i,t,rfl,ei⟩
  refine⟨oneType',fun h' k l2 A' Q E q=>PySem.W.kas_kind l2 (T:=.type "int") (fun v hv=>?_) (by decide) (by decide) q,fun h' k A' _=>⟨fun x y hx hy Q E q=>?_⟩⟩
  ·obtain⟨i,t,rfl,_⟩:=nms v hv
   exact PySem.W.Looks.of_pure rfl
  ·obtain⟨x1,x2⟩:=x
   obtain⟨y1,y2⟩:=y
   obtain⟨i,t,e1,r1⟩:=nms x1 hx
   obtain⟨j,t',e2,r2⟩:=nms y1 hy
   simp only at q
   rw[r1,r2]at q
   subst e1 e2
   show wpAny _ _ (keyLt' oneType' (.int i t) (.int j t')) _ _ _
   rw[keyLt'_oneType]
   exact oneLt_int q
 ·refine⟨tuples' (Value.type "int" != Value.type "tuple"),fun h' k l2 A' Q E q=>?_,fun h' k A' hA=>⟨fun x y hx hy Q E q=>?_⟩⟩
  ·have I':Inv X pins σ H { s1 with heap:=h',toks:=s1.toks }:=I.kept k
   have kt:∀ us:List Value,(∀ u∈us,vOf u∈xs∧RelV (vOf u) u)→∃ fs,PySem.W.KatTups h' us fs∧fs.length=us.length∧∀ f∈fs,∃ i t,f=Value.int i t:=by
    intro us
    induction us with
    | nil=>intro _;exact⟨[],PySem.W.KatTups.nil,rfl,fun f hf=>by simp at hf⟩
    | cons u us ih =>
     intro h
     obtain⟨fs,k1,k2,k3⟩:=ih fun v hv=>h v (List.mem_cons_of_mem _ hv)
     obtain⟨m1,r1⟩:=h u List.mem_cons_self
     obtain⟨⟨a,f,rr,e,ha⟩,_⟩:=R _ m1
     rw[e]at r1
     cases r1
     obtain⟨its,g,⟨o,eo,co,no,dt⟩,_⟩:=I'.tuple (SqT.of ha)
     obtain⟨f0,ef,⟨t0,rfl⟩⟩:=g.get (i:=0) (x:=.int f) rfl
     exact⟨_,PySem.W.KatTups.cons eo co dt (by simpa using ef) k1,by rw[List.length_cons,List.length_cons,k2],fun f' hf=>by
      rcases List.mem_cons.mp hf with rfl|hf
      ·exact⟨_,_,rfl⟩
      ·exact k3 f' hf⟩
   obtain⟨fs,k1,k2,k3⟩:=kt vs fun u hu=>⟨mem u hu,rel u hu⟩
   refine PySem.W.kat_kind (T:=.type "int") k1 (by lia) (fun v hv=>?_) (by decide) q
   obtain⟨i,t,rfl⟩:=k3 v hv
   exact PySem.W.Looks.of_pure rfl
  ·have I':Inv X pins σ H { s1 with heap:=h',toks:=s1.toks }:=I.kept k
   obtain⟨x1,x2⟩:=x
   obtain⟨y1,y2⟩:=y
   have rx:=rel x1 hx
   have ry:=rel y1 hy
   obtain⟨⟨a,f,xr,ea,ha⟩,lx⟩:=R _ (mem x1 hx)
   obtain⟨⟨b,g,yr,eb,hb⟩,_⟩:=R _ (mem y1 hy)
   have L:=lx _ (mem y1 hy)
   simp only at q
   rw[ea]at rx L q
   rw[eb]at ry L q
   cases rx;cases ry
   generalize hc:compare (rk (V.ref a)) (rk (V.ref b))=c at L
   rw[← (zcH (rk (V.ref a)) (rk (V.ref b))).2,hc]at q
   cases L with
   | @row n _ _ xs' ys' cs ha' hb' l1 l2 hL =>
    rw[ha]at ha';cases ha'
    rw[hb]at hb';cases hb'
    obtain⟨its,g1,⟨o1,eo1,co1,no1,dt1⟩,_⟩:=I'.tuple (SqT.of ha)
    obtain⟨jts,g2,⟨o2,eo2,co2,no2,dt2⟩,_⟩:=I'.tuple (SqT.of hb)
    have m1:=g1.length
    have m2:=g2.length
    show wpAny _ _ (keyLt' (tuples' true) (.ref a) (.ref b)) _ _ _
    refine PySem.W.kat_lt eo1 dt1 eo2 dt2 ?_
    have ds:decide (its.toArray.size<jts.toArray.size)=false:=decide_eq_false (by rw[List.size_toArray,List.size_toArray];lia)
    rw[ds]
    refine zji cs its jts 0 (by lia) (by lia) (fun j u v c hu' hv hc'=>?_) (fun _ u v c hu' hv hc'=>?_) q
    ·have j1:j<(V.int f::xr).length:=by have:=(List.getElem?_eq_some_iff.mp hu').1;lia
     have j2:j<(V.int g::yr).length:=by have:=(List.getElem?_eq_some_iff.mp hv).1;lia
     obtain⟨u',e1,q1⟩:=g1.get (List.getElem?_eq_getElem j1)
     obtain⟨v',e2,q2⟩:=g2.get (List.getElem?_eq_getElem j2)
     rw[hu']at e1;obtain rfl:=Option.some.inj e1
     rw[hv]at e2;obtain rfl:=Option.some.inj e2
     have LL:=hL j _ _ c (List.getElem?_eq_getElem j1) (List.getElem?_eq_getElem j2) hc'
     exact⟨zjb I' LL A' _ _ (by lia) q1 q2,fun ne=>zkq I' LL ne A' _ _ (by lia) q1 q2⟩
    ·obtain⟨u',e1,t1,r1⟩:=g1.get (i:=0) (x:=.int f) rfl
     obtain⟨v',e2,t2,r2⟩:=g2.get (i:=0) (x:=.int g) rfl
     rw[hu']at e1;obtain rfl:=Option.some.inj e1
     rw[hv]at e2;obtain rfl:=Option.some.inj e2
     have LL:=hL 0 (.int f) (.int g) c rfl rfl hc'
     cases LL
     exact⟨f,g,t1,t2,r1,r2,rfl⟩
end
section
variable {X:Cx}
theorem zer (b:Bool) (hu:X.A.units+64<cLine):CallR X (.builtin "sorted") (fun vs H Q=>∃ a xs rk,vs=[.ref a]∧SqB b X.K H a xs∧xs.length≤10000∧Rk H xs rk∧∀ (l:Addr) (ys:List V),H l=none→ys.Perm xs→ys.Pairwise (fun x y=>rk x≤rk y)→Q (.ref l) (upd H l (.lst ys))):=by
 intro pins s σ H vs us Q I rv h
 obtain⟨a,xs,rk,rfl,hq,hz,R,q⟩:=h
 obtain⟨u,rfl,ru⟩:=rv.one
 cases ru
 obtain⟨its,r,p⟩:=I.sq hq
 have hl:=r.length
 have sl:its.length≤sizeLine:=Nat.le_trans (show _≤10000 by lia) (by decide)
 refine zgf (zj4 p sl fun h1 far k1=>?_)
 have I1:Inv X pins σ H { s with heap:=h1,toks:=s.toks }:=I.kept k1
 obtain⟨κ,hk,hc⟩:=asks I1 hu r R
 refine⟨κ,fun u=>rk (vOf u),by lia,hk,hc,fun h' l e out lo eo pm so kk=>?_⟩
 obtain⟨ex,rel⟩:=zdw r R.kinds
 have vo:Vals (out.map vOf) out:=zcx fun u hu=>rel u (pm.mem_iff.mp hu)
 refine⟨.ref l,_,I.laid (t':=s.toks) (o:=.lst (out.map vOf)) (fun c o q=>kk c o (k1 c o q)) (Nat.le_trans far lo) ⟨?_,out,e,vo,eo⟩,rfl,q l _ (I.hok.fresh (Nat.le_trans far lo)) ?_ ?_⟩
 ·rw[List.length_map,pm.length_eq];exact sl
 ·rw[ex];exact pm.map vOf
 ·exact List.pairwise_map.mpr so
end
def Zip2 (H:Hp) (ts xs ys:List V):Prop:=ts.length=xs.length∧∀ (i:Nat) t,ts[i]?=some t→∃ a x y,t=.ref a∧xs[i]?=some x∧ys[i]?=some y∧H a=some (.tup [x,y])
def zhv (K:PySem.W.Frag) (b1 b2:Bool) (ta:TA):TE:=fun σ H Q=>ta σ H fun vs H1=>∃ a1 a2 xs ys,vs=[.ref a1,.ref a2]∧SqB b1 K H1 a1 xs∧SqB b2 K H1 a2 ys∧ys.length=xs.length∧xs.length≤10000 ∧
 ∀ ts H2,Same H1 H2→Zip2 H2 ts xs ys→∃ rk,Rk H2 ts rk∧∀ l zs,H2 l=none→zs.Perm ts→zs.Pairwise (fun x y=>rk x≤rk y)→Q (.ref l) (upd H2 l (.lst zs))
theorem zfC {X:Cx}{a b:Expr}{ta:TA}{p p2 pos pos2:Pos}(b1 b2:Bool) (hg:Gl X "sorted") (hm:X.mg "sorted" = none) (hg2:Gl X "zip") (hm2:X.mg "zip" = none) (hc:X.calm=true) (hu:X.A.units+64<cLine) (ha:PA X [a,b] ta)
  (he:starEach [Expr.Call (.Name "zip" p2) [a,b] [] pos2] X.env=[(false,eval (Expr.Call (.Name "zip" p2) [a,b] [] pos2) X.env)]:=by rfl)
  (hs:starEach [a,b] X.env=[(false,eval a X.env),(false,eval b X.env)]:=by rfl) (hs2:starEach [b] X.env=[(false,eval b X.env)]:=by rfl) :
  PE X (.Call (.Name "sorted" p) [.Call (.Name "zip" p2) [a,b] [] pos2] [] pos) (zhv X.K b1 b2 ta):=by
 intro pins s σ H Q I h
 refine wpAny_Call_Name_kw (zaR I hg hm (u:=.builtin "sorted") (by rfl) (PyProof.Rows.callWith_builtin1 ?_ he rfl))
 rw[he]
 show wpAny _ _ (spliced ((false,eval (Expr.Call (.Name "zip" p2) [a,b] [] pos2) X.env)::[])) _ _ s
 refine Calls.spliced_cons ?_
 refine Call_ (zaR I hg2 hm2 (u:=.type "zip") (by rfl) (PyProof.Rows.callWith_type1 (thn (ha pos2 pins s σ H _ I h) fun us s1 ⟨vs,H1,I1,r1,q1⟩=>?_) (by rw[hs,hs2]) (by rw[hs2];rfl)))
 obtain⟨a1,a2,xs,ys,rfl,hq1,hq2,hl,hz,q⟩:=q1
 obtain⟨u,v,rfl,ru,rv⟩:=r1.two
 cases ru
 cases rv
 obtain⟨its,rx,pl1⟩:=I1.sq hq1
 obtain⟨jts,ry,pl2⟩:=I1.sq hq2
 have lx:=rx.length
 have ly:=ry.length
 refine callType_new F.called_zip (by decide) (F.typeCall_zip_2 _ _) (F.newCall_zip_2 _ _) (fun obj=>F.args_object_init_3 obj _ _) F.entry_zip_new (zds b1 b2 a1 a2 its.toArray jts.toArray) ⟨pl1,pl2,fun h' z ⟨TI,TO,i1,i2,nd,far,hzz,hI,hO,h1,h2⟩ hk=>⟨⟨_,hzz,rfl⟩,?_⟩⟩
 refine Calls.spliced_nil ?_
 have I2:Inv X pins σ H1 { s1 with heap:=h',toks:=s1.toks }:=I1.kept hk
 have fp:∀ c∈[z,TI,TO,i1,i2],FpOk X pins H1 c:=fun c hc=>I1.fpOk (far c hc) (I1.hok.fresh (far c hc))
 have na1:∀ c∈[z,TI,TO,i1,i2],c≠a1:=fun c hm=>I1.sq_ne hq1 (fp c hm)
 have na2:∀ c∈[z,TI,TO,i1,i2],c≠a2:=fun c hm=>I1.sq_ne hq2 (fp c hm)
 have nd':=nd
 simp only[List.nodup_cons,List.mem_cons,List.not_mem_nil,or_false,not_or]at nd'
 obtain⟨⟨zI,zO,z1,z2⟩,⟨IO,iI1,iI2⟩,⟨O1,O2⟩,n12,_⟩:=nd'
 have S:Sep z TI TO i1 i2 [i1,a1] [i2,a2]:=⟨nd,by simp[z1,na1 z (by simp)],by simp[O1,na1 TO (by simp)],by simp[Ne.symm n12,na1 i2 (by simp)],by simp[z2,na2 z (by simp)],by simp[O2,na2 TO (by simp)],by simp[n12,na2 i1 (by simp)]⟩
 have hd:=I1.ok.hd hc
 have q1':SqO b1 h' a1 its.toArray:=pl1.mv fun o e=>hk _ _ e
 have q2':SqO b2 h' a2 jts.toArray:=pl2.mv fun o e=>hk _ _ e
 have n12s:its.toArray.size=jts.toArray.size:=by rw[List.size_toArray,List.size_toArray];lia
 have D1:=zc0 (prog:=X.prog) (w:=X.w) (A:=X.A.in1.in1.in1) hd b1 i1 a1 its.toArray (q1'.ne h1)
 have D2:=zc0 (prog:=X.prog) (w:=X.w) (A:=X.A.in1.in1.in1) hd b2 i2 a2 jts.toArray (q2'.ne h2)
 rw[← n12s]at D2
 have low:∀ c∈[i1,a1]++[i2,a2],c<h'.objs.size:=fun c hc=>by
  obtain⟨o1,n1,e1,_⟩:=q1'.ob
  obtain⟨o2,n2,e2,_⟩:=q2'.ob
  simp only[List.cons_append,List.nil_append,List.mem_cons,List.not_mem_nil,or_false]at hc
  rcases hc with rfl|rfl|rfl|rfl
  ·exact Heap.lt_size h1
  ·exact Heap.lt_size e1
  ·exact Heap.lt_size h2
  ·exact Heap.lt_size e2
 have fpL:FpOk X pins H1 h'.objs.size:=I2.fpOk (Nat.le_refl _) (I2.hok.fresh (Nat.le_refl _))
 have lows:∀ c∈[z,TO,i1,i2],c<h'.objs.size:=fun c hc=>by
  simp only[List.mem_cons,List.not_mem_nil,or_false]at hc
  rcases hc with rfl|rfl|rfl|rfl
  ·exact Heap.lt_size hzz
  ·exact Heap.lt_size hO
  ·exact Heap.lt_size h1
  ·exact Heap.lt_size h2
 refine zgf (zfP (J:=fun acc s'=>∃ (ts:List Addr) (Hk:Hp),Inv X pins σ Hk s'∧Same H1 Hk∧acc.toList=ts.map Value.ref∧(∀ (i:Nat) t,ts[i]?=some t→∃ x y,xs[i]?=some x∧ys[i]?=some y∧Hk t=some (.tup [x,y]))∧(∀ c∈[z,TO,i1,i2,h'.objs.size],FpOk X pins Hk c)) S D1 D2 (Nat.le_refl _) hzz hI hO ⟨h1,q1'⟩ ⟨h2,q2'⟩ low ?_ ?_ ?_ ?_ ?_)
 ·rw[List.size_toArray];exact Nat.le_trans (show _≤10000 by lia) (by decide)
 ·rintro acc s' h2' tk x y ⟨ts,Hk,Ik,sm,ea,ht,fk⟩ lt px py new kk
  have il:acc.size<xs.length:=by
   have b:acc.size<its.toArray.size:=(Array.getElem?_eq_some_iff.mp px).1
   have b2:its.toArray.size=its.length:=List.size_toArray ..
   lia
  obtain⟨u,e1,r1⟩:=rx.get (List.getElem?_eq_getElem il)
  obtain⟨v,e2,r2⟩:=ry.get (List.getElem?_eq_getElem (show acc.size<ys.length by lia))
  have px':its[acc.size]?=some x:=by simpa using px
  have py':jts[acc.size]?=some y:=by simpa using py
  rw[px']at e1;obtain rfl:=Option.some.inj e1
  rw[py']at e2;obtain rfl:=Option.some.inj e2
  have nT:∀ c∈[z,TO,i1,i2,h'.objs.size],c≠s'.heap.objs.size:=fun c hc=>by
   simp only[List.mem_cons,List.not_mem_nil,or_false]at hc
   rcases hc with rfl|rfl|rfl|rfl|rfl
   ·exact Nat.ne_of_lt (Nat.lt_trans (Heap.lt_size hzz) lt)
   ·exact Nat.ne_of_lt (Nat.lt_trans (Heap.lt_size hO) lt)
   ·exact Nat.ne_of_lt (Nat.lt_trans (Heap.lt_size h1) lt)
   ·exact Nat.ne_of_lt (Nat.lt_trans (Heap.lt_size h2) lt)
   ·exact Nat.ne_of_lt lt
  have fk4:∀ c∈[z,TO,i1,i2],FpOk X pins Hk c:=fun c hc=>fk c (by simp only[List.mem_cons,List.not_mem_nil,or_false]at hc ⊢;rcases hc with m|m|m|m<;>simp[m])
  have fr:Hk s'.heap.objs.size=none:=Ik.fresh
  have al:acc.size=ts.length:=by rw[← Array.length_toList,ea,List.length_map]
  refine⟨ts++[s'.heap.objs.size],_,Ik.spunN (fp:=[z,TO,i1,i2]) kk fk4 (Nat.le_refl _) (zdK new r1 r2),sm.trans (zaa fr _),by rw[Array.toList_push,ea,List.map_append];rfl,fun i t hi=>?_,fun c hc=>⟨by rw[zag (nT c hc)];exact(fk c hc).1,(fk c hc).2⟩⟩
  by_cases q:i<ts.length
  ·rw[List.getElem?_append_left q]at hi
   obtain⟨x',y',a1',a2',a3'⟩:=ht i t hi
   exact⟨x',y',a1',a2',zaa fr _ _ _ a3'⟩
  ·have il2:=(List.getElem?_eq_some_iff.mp hi).1
   rw[List.length_append]at il2
   have il3:i=ts.length:=by simp at il2;lia
   subst il3
   rw[List.getElem?_append_right (Nat.le_refl _),Nat.sub_self]at hi
   obtain rfl:s'.heap.objs.size=t:=by simpa using hi
   rw[← al]
   exact⟨_,_,List.getElem?_eq_getElem il,List.getElem?_eq_getElem (show acc.size<ys.length by lia),zac⟩
 ·rintro acc s' h2' tk ⟨ts,Hk,Ik,sm,ea,ht,fk⟩ kk
  exact⟨ts,Hk,Ik.spun (fp:=[z,TO,i1,i2,h'.objs.size]) kk fk,sm,ea,ht,fk⟩
 ·refine⟨[],H1,I2,Same.refl _,rfl,fun i t hi=>by simp at hi,fun c hc=>?_⟩
  simp only[List.mem_cons,List.not_mem_nil,or_false]at hc
  rcases hc with rfl|rfl|rfl|rfl|rfl
  ·exact fp _ (by simp)
  ·exact fp _ (by simp)
  ·exact fp _ (by simp)
  ·exact fp _ (by simp)
  ·exact fpL
 ·rintro h2' tk acc hn ⟨ts,Hk,Ik,sm,ea,ht,fk⟩ _ kk lt
  have tl:ts.length=xs.length:=by
   have:acc.toList.length=ts.length:=by rw[ea,List.length_map]
   rw[Array.length_toList,hn,List.size_toArray]at this;lia
  obtain⟨rk,Rr,fin⟩:=q (ts.map V.ref) Hk sm ⟨by rw[List.length_map];exact tl,fun i t hi=>by
   rw[List.getElem?_map]at hi
   obtain⟨t',e',rfl⟩:=Option.map_eq_some_iff.mp hi
   obtain⟨x,y,a1',a2',a3'⟩:=ht i t' e'
   exact⟨t',x,y,rfl,a1',a2',a3'⟩⟩
  have vr:Vals (ts.map V.ref) acc.toList:=by
   rw[ea]
   clear ht ea tl Rr fin
   induction ts with
   | nil=>exact .nil
   | cons t ts ih=>exact .cons rfl ih
  obtain⟨κ,ak,ac⟩:=asks Ik hu vr Rr
  refine⟨κ,fun u=>rk (vOf u),by rw[Array.length_toList,hn,List.size_toArray];lia,ak,ac,fun h3 l e out lo eo pm so k3=>?_⟩
  obtain⟨ex,rel⟩:=zdw vr Rr.kinds
  have vo:Vals (out.map vOf) out:=zcx fun u hu=>rel u (pm.mem_iff.mp hu)
  refine⟨.ref l,_,Ik.laid (t':=tk) (o:=.lst (out.map vOf)) k3 lo ⟨?_,out,e,vo,eo⟩,rfl,fin l _ (Ik.hok.fresh lo) ?_ ?_⟩
  ·rw[List.length_map,pm.length_eq,Array.length_toList,hn,List.size_toArray];exact Nat.le_trans (show _≤10000 by lia) (by decide)
  ·rw[ex];exact pm.map vOf
  ·exact List.pairwise_map.mpr so
end L2
namespace Bn
open PySem L2 Own
theorem atNew {H:Hp}{a:Addr}(_:H a=none) (o:HO):L2.upd H a o a=some o:=zac
def decF (H:Hp):V→Fk
 | .ref g=>match H g with
  | some (.tup [.int a,.int b])=>(a.toNat,b.toNat)
  | _=>(0,0)
 | _=>(0,0)
def dec (H:Hp):V→Int × Fk
 | .ref t=>match H t with
  | some (.tup [.int l,x])=>(l,decF H x)
  | _=>(0,(0,0))
 | _=>(0,(0,0))
theorem zhe {H:Hp}{g:Addr}{f:Fk}(h:H g=some (.tup [.int f.1,.int f.2])):decF H (.ref g)=f:=by
 simp only[decF,h]
 obtain⟨a,b⟩:=f
 simp
theorem zj7 {H:Hp}{t g:Addr}{l:Int}{f:Fk}(h:H t=some (.tup [.int l,.ref g])) (hg:H g=some (.tup [.int f.1,.int f.2])):dec H (.ref t)=(l,f):=by
 show (match H t with|some (.tup [.int l,x])=>(l,decF H x)|_=>(0,(0,0)))=(l,f)
 rw[h]
 show (l,decF H (.ref g))=(l,f)
 rw[zhe hg]
def Trp (H:Hp) (x:V) (p:Int × Fk):Prop:=∃ t g,x=.ref t∧H t=some (.tup [.int p.1,.ref g])∧H g=some (.tup [.int p.2.1,.int p.2.2])
theorem Trp.dec {H:Hp}{x:V}{p:Int × Fk}(h:Trp H x p):dec H x=p:=by
 obtain⟨t,g,rfl,h1,h2⟩:=h
 exact zj7 h1 h2
theorem zbi {i j:Int}:(compare i j=.lt↔i<j)∧(compare i j=.eq↔i=j)∧(compare i j=.gt↔j<i):=by
 rw[show compare i j=compareOfLessAndEq i j from rfl]
 unfold compareOfLessAndEq
 by_cases h1:i<j
 ·rw[if_pos h1];simp[h1];lia
 ·rw[if_neg h1]
  by_cases h2:i=j
  ·rw[if_pos h2];simp[h2]
  ·rw[if_neg h2];simp[h1,h2];lia
theorem zim {i j:Int}{c:Ordering}(h:(c=.lt→i<j)∧(c=.eq→i=j)∧(c=.gt→j<i)):compare i j=c:=by
 cases c with
 | lt=>exact zbi.1.mpr (h.1 rfl)
 | eq=>exact zbi.2.1.mpr (h.2.1 rfl)
 | gt=>exact zbi.2.2.mpr (h.2.2 rfl)
theorem cmp2 {a b a' b':Int}(h1:0≤b∧b<32) (h2:0≤b'∧b'<32):compare (a*32+b) (a'*32+b')=(compare a a').then (compare b b'):=by
 apply zim
 have c1:=@zbi a a'
 have c2:=@zbi b b'
 cases e:compare a a'<;>rw[e]at c1<;>simp at c1
 ·refine⟨fun _=>by lia,fun z=>?_,fun z=>?_⟩<;>cases z
 ·cases f:compare b b'<;>rw[f]at c2<;>simp at c2
  ·refine⟨fun _=>by lia,fun z=>?_,fun z=>?_⟩<;>cases z
  ·refine⟨fun z=>?_,fun _=>by lia,fun z=>?_⟩<;>cases z
  ·refine⟨fun z=>?_,fun z=>?_,fun _=>by lia⟩<;>cases z
 ·refine⟨fun z=>?_,fun z=>?_,fun _=>by lia⟩<;>cases z
theorem zja {H:Hp}{n:Nat}{g g':Addr}{f f':Fk}(h:H g=some (.tup [.int f.1,.int f.2])) (h':H g'=some (.tup [.int f'.1,.int f'.2])) (b:f.2<32) (b':f'.2<32) :
  Lx H (n+1) (.ref g) (.ref g') (compare ((f.1:Int)*32+f.2) ((f'.1:Int)*32+f'.2)):=by
 rw[cmp2 (by lia) (by lia)]
 exact Lx.pair h h' (.int _ _ _) (.int _ _ _)
theorem zih {H:Hp}{x y:V}{p q:Int × Fk}(hx:Trp H x p) (hy:Trp H y q) (b:p.2.1<32∧p.2.2<32) (b':q.2.1<32∧q.2.2<32):Lx H 2 x y (compare (rnk p) (rnk q)):=by
 obtain⟨t,g,rfl,h1,h2⟩:=hx
 obtain⟨t',g',rfl,h3,h4⟩:=hy
 have e:compare (rnk p) (rnk q)=(compare p.1 q.1).then (compare ((p.2.1:Int)*32+p.2.2) ((q.2.1:Int)*32+q.2.2)):=by
  apply zim
  have c1:=@zbi p.1 q.1
  have c2:=@zbi ((p.2.1:Int)*32+p.2.2) ((q.2.1:Int)*32+q.2.2)
  unfold rnk
  cases e:compare p.1 q.1<;>rw[e]at c1<;>simp at c1
  ·refine⟨fun _=>by lia,fun z=>?_,fun z=>?_⟩<;>cases z
  ·cases f:compare ((p.2.1:Int)*32+p.2.2) ((q.2.1:Int)*32+q.2.2)<;>rw[f]at c2<;>simp at c2
   ·refine⟨fun _=>by lia,fun z=>?_,fun z=>?_⟩<;>cases z
   ·refine⟨fun z=>?_,fun _=>by lia,fun z=>?_⟩<;>cases z
   ·refine⟨fun z=>?_,fun z=>?_,fun _=>by lia⟩<;>cases z
  ·refine⟨fun z=>?_,fun z=>?_,fun _=>by lia⟩<;>cases z
 rw[e]
 exact Lx.pair h1 h3 (.int _ _ _) (zja h2 h4 b.2 b'.2)
theorem zio {H:Hp}{ts ps:List V}{ls:List Int}{fs:List Fk}(z:Zip2 H ts (ls.map V.int) ps) (pr:Prs H ps fs):ts.map (dec H)=ls.zip fs∧∀ x∈ts,Trp H x (dec H x):=by
 have pl:=pr.len
 have tl:=z.1
 rw[List.length_map]at tl
 have at_:∀ (i:Nat) t,ts[i]?=some t→∃ l f,ls[i]?=some l∧fs[i]?=some f∧Trp H t (l,f):=fun i t ht=>by
  obtain⟨a,x,y,rfl,hx,hy,ha⟩:=z.2 i t ht
  rw[List.getElem?_map]at hx
  obtain⟨l,hl,rfl⟩:=Option.map_eq_some_iff.mp hx
  obtain⟨g,f,rfl,hf,hg⟩:=pr.get hy
  exact⟨l,f,hl,hf,a,g,rfl,ha,hg⟩
 refine⟨List.ext_getElem? fun i=>?_,fun x hx=>?_⟩
 ·rw[List.getElem?_map]
  cases e:ts[i]? with
  | none =>
   have il:=List.getElem?_eq_none_iff.mp e
   exact(List.getElem?_eq_none_iff.mpr (by rw[List.length_zip];lia)).symm
  | some t =>
   obtain⟨l,f,hl,hf,tr⟩:=at_ i t e
   rw[Option.map_some,tr.dec]
   exact(List.getElem?_zip_eq_some.mpr ⟨hl,hf⟩).symm
 ·obtain⟨i,hi⟩:=List.mem_iff_getElem?.mp hx
  obtain⟨l,f,_,_,tr⟩:=at_ i x hi
  rw[tr.dec];exact tr
def IsFk (H:Hp) (x:V) (f:Fk):Prop:=∃ g,x=.ref g∧H g=some (.tup [.int f.1,.int f.2])
theorem IsFk.dec {H:Hp}{x:V}{f:Fk}(h:IsFk H x f):decF H x=f:=by
 obtain⟨g,rfl,e⟩:=h
 exact zhe e
theorem zie {H:Hp}:∀ {ps:List V},(∀ x∈ps,IsFk H x (decF H x))→Prs H ps (ps.map (decF H))
 | [],_=>trivial
 | x::ps,h=>by
  obtain⟨g,e,hg⟩:=h x List.mem_cons_self
  exact⟨⟨g,e,hg⟩,zie fun y hy=>h y (List.mem_cons_of_mem _ hy)⟩
theorem Prs.app {H:Hp}:∀ {ps qs:List V}{fs gs:List Fk},Prs H ps fs→Prs H qs gs→Prs H (ps++qs) (fs++gs)
 | [],_,[],_,_,h=>h
 | _::_,_,_::_,_,⟨x,r⟩,h=>⟨x,Prs.app r h⟩
theorem zid (N:Nt):pz N=(zdi N).zip N.forks:=by
 rw[← zgu,← zbe]
 induction pz N with
 | nil=>rfl
 | cons x l ih=>rw[List.map_cons,List.map_cons,List.zip_cons_cons,← ih]
theorem Trp.tups {H H':Hp}(s:Tups H H') {x:V}{p:Int × Fk}(h:Trp H x p):Trp H' x p:=by
 obtain⟨t,g,e,h1,h2⟩:=h
 exact⟨t,g,e,s _ _ h1,s _ _ h2⟩
def zg5 (f:Nat × Nat):PyData:=.tuple [.int f.1,.int f.2]
def netD (N:Nt):PyData:=.tuple [.int N.lanes,.tuple (N.forks.map zg5),.tuple (N.ends.map fun e=>.int ((e:Nat):Int))]
def Trs (H:Hp):List V→List (Int × Fk)→Prop
 | [],[]=>True
 | x::xs,p::ps=>Trp H x p∧Trs H xs ps
 | _,_=>False
theorem Trs.tups {H H':Hp}(s:Tups H H'):∀ {xs:List V}{ps:List (Int × Fk)},Trs H xs ps→Trs H' xs ps
 | [],[],_=>trivial
 | _::_,_::_,⟨a,b⟩=>⟨a.tups s,Trs.tups s b⟩
theorem Trs.add {H:Hp}{x:V}{p:Int × Fk}(h:Trp H x p):∀ {xs:List V}{ps:List (Int × Fk)},Trs H xs ps→Trs H (xs++[x]) (ps++[p])
 | [],[],_=>⟨h,trivial⟩
 | _::_,_::_,⟨a,b⟩=>⟨a,Trs.add h b⟩
theorem Trs.dec {H:Hp}:∀ {xs:List V}{ps:List (Int × Fk)},Trs H xs ps→xs.map (Bn.dec H)=ps∧∀ x∈xs,Trp H x (Bn.dec H x)
 | [],[],_=>⟨rfl,fun x hx=>by cases hx⟩
 | x::xs,p::ps,⟨a,b⟩=>by
  obtain⟨e,k⟩:=Trs.dec b
  refine⟨by rw[List.map_cons,a.dec,e],fun y among=>?_⟩
  rcases List.mem_cons.mp among with rfl|later
  ·rw[a.dec];exact a
  ·exact k y later
theorem Trs.len {H:Hp}{xs:List V}{ps:List (Int × Fk)}(h:Trs H xs ps):xs.length=ps.length:=by
 rw[← h.dec.1,List.length_map]
theorem zdN {q:List Nat}{j:Nat}(h:j<q.length):atI (nums q) ((j:Nat):Int)=some (.int (nmq q j:Nat)):=zaX (by
 unfold nums nmq
 rw[List.getElem?_map,List.getElem?_eq_getElem h,List.getD_eq_getElem?_getD,List.getElem?_eq_getElem h];rfl)
theorem ziS {n:Nat}{N:Nt}{i:Nat}{g:Fk}(eg:N.forks[i]?=some g) (x:Int) {a:List Int}(al:a.length=i):(a++[x]).zip (N.forks.take (i+1))=a.zip (N.forks.take i)++[(x,g)]:=by
 have il:=(List.getElem?_eq_some_iff.mp eg).1
 rw[List.take_succ_eq_append_getElem il,List.zip_append (by rw[al,List.length_take];lia),(List.getElem?_eq_some_iff.mp eg).2];rfl
end Bn
namespace K93
open PySem L2 Own Bn
abbrev zgs:Stmt:=top 29
def zcA:Sp:=fun vs H Q _=>∃ (l:Addr) (n:Nat),vs=[.ref l,.int n]∧n≤16∧PkAt H l∧∀ p q H',q.Perm (List.range n)→H' p=some (.tup (nums q))→PkAt H' l→But l H H'→Q (.ref p) H'
section
variable {P:Program}{w:World}{K:PySem.W.Frag}{mg:Str→Option Value}{base:Heap}
theorem scNm:FnScope ["_law_left_here","_law_lanes","_law_names_here","_law_lane"] ["_law_left_here","_law_lanes"] (zaf zgs):=⟨rfl,rfl,rfl,by decide +kernel,rfl,by decide +kernel,by decide +kernel⟩
theorem zhT {f fK:Addr}{fd dK:FuncData}(F:Fun K "_law_names" "_law_names" zgs f fd) (G:Mgs mg) (UK:Use P w K mg base "_law_pick" ["_law_left_here","_law_many"] 1 zcl fK dK):FnOk P w K mg base CX0 2 f fd ["_law_left_here","_law_lanes"] zcA:=by
 refine F.ok scNm (fun vs H Q E h=>?_) (fun cdv A outer s H vs Q E hr h=>?_)
 ·obtain⟨l,n,rfl,_⟩:=h
  rfl
 obtain⟨l,n,rfl,n16,S,k⟩:=h
 refine⟨_,(@pss_cons _ _ _ _ _ (@zak _ _ 2 _ _ _ _ scNm.nd rfl (.inl rfl) (@zay _ _ _ _ pa_nil) (by rfl) (by first|exact .inl rfl|exact .inr rfl|assumption)) (@pss_cons _ _ _ _ _ (@zcG _ _ _ _ _ _ _ _ PassesOwn.never rfl (@zbr _ _ _ _ _ _ rfl G.range (@pa_cons _ _ _ _ _ (@pv _ 1 _ _ (by rfl) (by first|exact Or.inl rfl|exact Or.inr (.inl rfl)|exact Or.inr (.inr rfl)) (by decide) (by decide)) pa_nil (by rfl)) (by rfl)) (@zab _ _ 3 _ scNm.nd rfl (.inl rfl) (by first|exact .inl rfl|exact .inr rfl|assumption)) (@pss_one _ _ _ (@ps_expr _ _ _ _ (@pe_bm _ _ _ _ _ _ _ _ _ _ _ _ PySem.F.plainAttrs_list PySem.F.slot_list_insert PySem.F.type_list_insert zgR (@pv _ 2 _ _ (by rfl) (by first|exact Or.inl rfl|exact Or.inr (.inl rfl)|exact Or.inr (.inr rfl)) (by decide) (by decide)) (@pa_cons _ _ _ _ _ (@pe_call _ _ _ _ _ _ _ _ _ _ _ _ _ _ _ _ UK.ok hr (by rfl) UK.m UK.kp UK.b .nil pass0 (@pa_cons _ _ _ _ _ (@pv _ 0 _ _ (by rfl) (by first|exact Or.inl rfl|exact Or.inr (.inl rfl)|exact Or.inr (.inr rfl)) (by decide) (by decide)) (@pa_cons _ _ _ _ _ (@pe_op _ _ _ _ _ _ _ _ op_add (@zaj _ _ _ _ _ _ _ _ _ zai (by rfl) G.len PySem.boot_len (@pa_cons _ _ _ _ _ (@pv _ 2 _ _ (by rfl) (by first|exact Or.inl rfl|exact Or.inr (.inl rfl)|exact Or.inr (.inr rfl)) (by decide) (by decide)) pa_nil (by rfl)) (by decide) (by decide) (by rfl) (by rfl)) pe_int) pa_nil (by rfl)) (by rfl)) (by decide) (by rfl) (by rfl)) (@pa_cons _ _ _ _ _ (@pv _ 3 _ _ (by rfl) (by first|exact Or.inl rfl|exact Or.inr (.inl rfl)|exact Or.inr (.inr rfl)) (by decide) (by decide)) pa_nil (by rfl)) (by rfl)) (by rfl) (by rfl) (by rfl) (by rfl) (by rfl)) (by rfl))) (by intro _;rfl)) (@pss_one _ _ _ (@ps_ret _ _ _ _ (@pe_callTy _ _ _ _ _ _ _ _ _ call_tuple_of (by rfl) G.tuple (by rfl) (@pa_cons _ _ _ _ _ (@pv _ 2 _ _ (by rfl) (by first|exact Or.inl rfl|exact Or.inr (.inl rfl)|exact Or.inr (.inr rfl)) (by decide) (by decide)) pa_nil (by rfl)) (by decide) (by decide) (by rfl) (by rfl)))))),?_⟩
 refine⟨(by show 0≤sizeLine;decide),fun le hle=>?_⟩
 have nle:=S.ne hle
 have fle:∀ {H':Hp},But l H H'→∀ o,But l H (upd H' le o):=fun B o x y e n=>by
  rw[zag (zad e hle)];exact B x y e n
 refine⟨_,rfl,n,rfl,by lia,by lia,zb3 (lo:=0) (n:=((n:Nat):Int).toNat) (fun i σ H2=>(∃ w3,σ=[some (.ref l),some (.int n),some (.ref le),w3])∧PkAt H2 l∧But l H H2∧∃ es:List Nat,H2 le=some (.lst (nums es))∧es.Perm (List.range i))
  ⟨⟨_,rfl⟩,S.upd nle,But.of (zaa hle _),[],zac,.nil⟩ ?_ ?_⟩
 ·rintro i σ H2 hi ⟨⟨w3,rfl⟩,S2,B2,es,h3,pe⟩
  have il:i<n:=by lia
  have el:es.length=i:=by rw[pe.length_eq,List.length_range]
  refine⟨_,rfl,.inl ⟨rfl,_,SqL.of h3⟩,_,rfl,_,rfl,le,_,rfl,.inl (SqL.of h3),_,_,rfl,rfl,l,_,rfl,by lia,by rw[zae];lia,S2,fun v H3 hv S3 B3=>?_⟩
  have h4:=B3 le _ h3 nle.symm
  rw[zae]at hv
  refine⟨_,rfl,le,_,_,v,rfl,rfl,h4,by rw[zae];lia,by rw[zae];lia,⟨_,rfl⟩,S3.upd nle,fle (B2.trans B3) _,es.take v++i::es.drop v,?_,zh6 pe⟩
  rw[zac,Int.zero_add,zhV]
 ·rintro σ H2 ⟨⟨w3,rfl⟩,S2,B2,es,h3,pe⟩
  have pe':es.Perm (List.range n):=by
   have e:((n:Nat):Int).toNat=n:=by lia
   rw[e]at pe;exact pe
  refine⟨_,rfl,le,_,rfl,.inl ⟨SqL.of h3,fun e1 he1=>?_⟩⟩
  have s2:=zaa he1 (.tup (nums es))
  exact k e1 es _ pe' (atNew he1 _) (S2.keep s2) (B2.trans (But.of s2))
end
end K93
namespace L2
open PySem PySem.Spec PyProof.Rows Own
theorem zd3 {acc:Array Value}{n lo:Nat}(h:ItemsOf (fun i v=>∃ t,v=Value.int ((lo:Int)+i*1) t) acc n):Vals ((List.range n).map fun (i:Nat)=>V.int ((lo+i:Nat):Int)) acc.toList:=by
 obtain⟨h1,h2⟩:=h
 have go:∀ (l:List Value) (k:Nat),(∀ (j:Nat) (v:Value),l[j]?=some v→∃ t,v=Value.int ((k+j:Nat):Int) t)→Vals ((List.range l.length).map fun (i:Nat)=>V.int ((k+i:Nat):Int)) l:=by
  intro l
  induction l with
  | nil=>intro k _;exact .nil
  | cons x l ih =>
   intro k hx
   rw[List.length_cons,List.range_succ_eq_map,List.map_cons,List.map_map]
   refine .cons (by obtain⟨t,e⟩:=hx 0 x rfl;exact⟨t,e⟩) ?_
   have:=ih (k+1) fun j v hj=>by
    obtain⟨t,e⟩:=hx (j+1) v (by simpa using hj)
    exact⟨t,by rw[e];congr 1;lia⟩
   refine cast (congrArg (fun z=>Vals z l) (List.map_congr_left fun i _=>?_)) this
   show V.int ((k+1+i:Nat):Int)=V.int ((k+(i+1):Nat):Int)
   congr 2;lia
 have:=go acc.toList lo fun j v hj=>by
  obtain⟨t,e⟩:=h2 j v (by simpa using hj)
  exact⟨t,by rw[e];congr 1;lia⟩
 rw[Array.length_toList,h1]at this
 exact this
section
variable {X:Cx}
def zix (ta:TA):TE:=fun σ H Q=>ta σ H fun vs H1=>∃ lo n:Nat,vs=[.int lo,.int (lo+n:Nat)]∧lo≤100000∧n≤100000∧∀ l,H1 l=none→Q (.ref l) (upd H1 l (.lst ((List.range n).map fun (i:Nat)=>V.int ((lo+i:Nat):Int))))
theorem zfD {a b:Expr}{ta:TA}{p p2 pos pos2:Pos}(hc:X.calm=true) (hgl:Gl X "list") (hml:X.mg "list" = none) (hgr:Gl X "range") (hmr:X.mg "range" = none) (ha:PA X [a,b] ta) (hs:starEach [a,b] X.env=[(false,eval a X.env),(false,eval b X.env)]:=by rfl) (hsb:starEach [b] X.env=[(false,eval b X.env)]:=by rfl)
  (hs2:starEach [.Call (.Name "range" p2) [a,b] [] pos2] X.env=[(false,eval (.Call (.Name "range" p2) [a,b] [] pos2) X.env)]:=by rfl):PE X (.Call (.Name "list" p) [.Call (.Name "range" p2) [a,b] [] pos2] [] pos) (zix ta):=by
 intro pins s σ H Q I h
 refine wpAny_Call_Name_kw (zaR I hgl hml (u:=.type "list") (by rfl) (PyProof.Rows.callWith_type1 ?_ hs2 rfl))
 rw[hs2]
 refine Calls.spliced_cons (Call_ (zaR I hgr hmr boot_range (PyProof.Rows.callWith_type1 (thn (ha pos2 pins s σ H _ I h) fun us s1 ⟨vs,H1,I1,r1,q1⟩=>?_) (by rw[hs,hsb]) (by rw[hsb];rfl))))
 obtain⟨lo,n,rfl,hlo,hn,q⟩:=q1
 cases r1 with
 | cons r rr =>
 cases rr with
 | cons r' rr =>
 cases rr
 obtain⟨t,rfl⟩:=r
 obtain⟨t',rfl⟩:=r'
 refine call_range_2 (Calls.spliced_nil ?_)
 have sz:Builtin.Range.rangeSize (lo:Int) ((lo+n:Nat):Int) 1=((n:Nat):Int):=by rw[rangeSize_one];split<;>lia
 refine call_list_range (n:=n) (I1.ok.hd hc) (IsRange.new ..) (small_one (by lia) (by lia) (by lia) (by lia)) sz (Nat.le_trans hn (by decide)) fun h' tk acc' c' kk e it=>?_
 have k2:∀ b o,s1.heap.get? b=some o→h'.get? b=some o:=fun b o z=>kk b o (Heap.get?_push_of_some _ z)
 refine⟨.ref _,_,I1.laid (t':=tk) (o:=.lst ((List.range n).map fun (i:Nat)=>V.int ((lo+i:Nat):Int))) k2 ?_ ⟨by rw[List.length_map,List.length_range];exact Nat.le_trans hn (by decide),acc'.toList,c',zd3 it,by simpa using e⟩,rfl,q _ (I1.hok.fresh ?_)⟩
 all_goals (show s1.heap.objs.size≤(s1.heap.push _).objs.size;rw[Heap.size_push];exact Nat.le_succ _)
end
end L2
namespace Bn
open PySem L2 Own
def za6 (lo n:Nat):List Nat:=(List.range n).map (lo + ·)
theorem zbF (lo n:Nat):((List.range n).map fun (i:Nat)=>V.int ((lo+i:Nat):Int))=nums (za6 lo n):=by
 unfold nums za6
 rw[List.map_map];rfl
theorem zci (lo n:Nat):(za6 lo n).length=n:=by unfold za6;rw[List.length_map,List.length_range]
theorem zcT {lo n i:Nat}(h:i<n):nmq (za6 lo n) i=lo+i:=by
 unfold nmq za6
 rw[List.getD_eq_getElem?_getD,List.getElem?_map,List.getElem?_range h];rfl
theorem zbs {lo n:Nat}{fs:List Fk}(h:∀ f∈fs,f.1<n∧f.2<n):fs.map (zaL (za6 lo n))=fs.map (shF lo):=List.map_congr_left fun f hf=>by
 unfold zaL shF
 rw[zcT (h f hf).1,zcT (h f hf).2]
theorem zbG {lo n:Nat}{es:List Nat}(h:∀ e∈es,e<n):es.map (nmq (za6 lo n))=es.map (lo + ·):=List.map_congr_left fun e he=>zcT (h e he)
structure Eqv (M N:Nt):Prop where
 l:N.lanes=M.lanes
 e:N.ends=M.ends
 f:SwU M.forks N.forks
theorem Eqv.plain {M N:Nt}(ok:M.Ok) (h:Eqv M N):zal N=zal M:=zgy ok h.l h.e h.f
theorem zaW {N:Nt}(ok:N.Ok):Eqv N (zal N):=⟨rfl,rfl,zf9 ok⟩
theorem zfs {n:Nat}{p:List Nat}(hp:p.Perm (List.range n)) {a b:List Fk}(h:SwU a b) (ok:∀ f∈a,f.1<n∧f.2<n):SwU (a.map (zaL p)) (b.map (zaL p)):=by
 have pl:=zbz hp
 exact h.map fun x hx y hy=>ze1 (zda hp) (by rw[pl];exact(ok x hx).1) (by rw[pl];exact(ok x hx).2) (by rw[pl];exact(ok y hy).1) (by rw[pl];exact(ok y hy).2)
theorem zjD {n:Nat}{a b:List Fk}(h:SwU a b):SwU (a.map (shF n)) (b.map (shF n)):=h.map fun x _ y _ m=>by
 obtain⟨m1,m2,m3,m4⟩:=zdP m
 unfold zbb shF
 rw[decide_eq_false (by show ¬(_∨_);rintro (e|e)<;>simp only at e<;>lia),decide_eq_false (by show ¬(_∨_);rintro (e|e)<;>simp only at e<;>lia)]
 rfl
theorem Nt.Ok.low {N:Nt}(ok:N.Ok):∀ f∈N.forks,f.1<N.lanes∧f.2<N.lanes:=fun f hf=>⟨(ok.fk f hf).1,(ok.fk f hf).2.1⟩
theorem zdp {A A' B B':Nt}(oka:A.Ok) (okb:B.Ok) (hl:B.lanes=A.lanes) (h:Eqv A A') (g:Eqv B B'):Eqv (zaM A B) (zaM A' B'):=⟨h.l,by
 show B'.ends.map (nmq A'.ends)=B.ends.map (nmq A.ends)
 rw[h.e,g.e],by
 show SwU (A.forks++B.forks.map (zaL A.ends)) (A'.forks++B'.forks.map (zaL A'.ends))
 rw[h.e]
 exact(h.f.right _).trans ((zfs oka.en g.f (by rw[← hl];exact okb.low)).left _)⟩
theorem zfR {A A' B B':Nt}(h:Eqv A A') (g:Eqv B B'):Eqv (zaw A B) (zaw A' B'):=⟨by
 show A'.lanes+B'.lanes=A.lanes+B.lanes
 rw[h.l,g.l],by
 show A'.ends++B'.ends.map (A'.lanes + ·)=A.ends++B.ends.map (A.lanes + ·)
 rw[h.e,g.e,h.l],by
 show SwU (A.forks++B.forks.map (shF A.lanes)) (A'.forks++B'.forks.map (shF A'.lanes))
 rw[h.l]
 exact(h.f.right _).trans ((zjD g.f).left _)⟩
theorem zeJ {A A':Nt}(oka:A.Ok) {p:List Nat}(hp:p.Perm (List.range A.lanes)) (h:Eqv A A'):Eqv (za1 A p) (za1 A' p):=⟨h.l,by
 show A'.ends.map (nmq p)=A.ends.map (nmq p)
 rw[h.e],zfs hp h.f oka.low⟩
theorem zdo (A B:Nt):(zaM A B).forks.length=A.forks.length+B.forks.length:=by
 show (A.forks++B.forks.map (zaL A.ends)).length=_
 rw[List.length_append,List.length_map]
theorem zbD (A B:Nt):(zaw A B).forks.length=A.forks.length+B.forks.length:=by
 show (A.forks++B.forks.map (shF A.lanes)).length=_
 rw[List.length_append,List.length_map]
theorem zaJ (N:Nt):(zal N).forks.length=N.forks.length:=(zcc N).length_eq
end Bn
namespace L2
open PySem PySem.Spec PyProof.Rows
abbrev e2 (elt tg iter tg1 iter1:Expr) (ifs:List Expr) (scope:Scope) (pos:Pos):Expr:=.ListComp elt [⟨tg,iter,[],0⟩,⟨tg1,iter1,ifs,0⟩] scope pos
theorem zf6 (elt tg iter tg1 iter1:Expr) (ifs:List Expr) (scope:Scope) (pos:Pos) (it acc:Value) (env:Env) :
  compTurn (e2 elt tg iter tg1 iter1 ifs scope pos) 0 it acc env=(standAt iter.pos >>= fun _=>pyNext it >>= fun r=>match r with
   | none=>pure (.done .next)
   | some v=>letOwnedTupleGo tg it v >>= fun _=>assign tg env v >>= fun _ =>
    (eval iter1 env >>= fun x=>standAt iter1.pos >>= fun _=>foldedSetIterable iter1 env x >>= fun x=>holding [x] (pyIter x) >>= fun i1=>runOwn (.compStart (e2 elt tg iter tg1 iter1 ifs scope pos) 1 i1 acc env) env >>= fun _ =>
     again (.compLoop (e2 elt tg iter tg1 iter1 ifs scope pos) 0 it acc env))):=by rfl
theorem zf5 (elt tg iter tg1 iter1:Expr) (scope:Scope) (pos:Pos) (it acc:Value) (env:Env) :
  compTurn (e2 elt tg iter tg1 iter1 [] scope pos) 1 it acc env=(standAt iter1.pos >>= fun _=>pyNext it >>= fun r=>match r with
   | none=>pure (.done .next)
   | some v=>letOwnedTupleGo tg1 it v >>= fun _=>assign tg1 env v >>= fun _ =>
    ((eval elt env >>= fun x=>call (.builtin "list.append") [acc,x] >>= fun _=>pure ()) >>= fun _ =>
     again (.compLoop (e2 elt tg iter tg1 iter1 [] scope pos) 1 it acc env))):=by rfl
theorem zfv (elt tg iter tg1 iter1 c:Expr) (scope:Scope) (pos:Pos) (it acc:Value) (env:Env) :
  compTurn (e2 elt tg iter tg1 iter1 [c] scope pos) 1 it acc env=(standAt iter1.pos >>= fun _=>pyNext it >>= fun r=>match r with
   | none=>pure (.done .next)
   | some v=>letOwnedTupleGo tg1 it v >>= fun _=>assign tg1 env v >>= fun _=>(forIn [c] true fun c r=>if r=true then (isTrue c env (eval c env) >>= fun ok=>pure (ForInStep.yield ok)) else pure (ForInStep.yield r)) >>= fun ok =>
    if ok=true then
    ((eval elt env >>= fun x=>call (.builtin "list.append") [acc,x] >>= fun _=>pure ()) >>= fun _ =>
     again (.compLoop (e2 elt tg iter tg1 iter1 [c] scope pos) 1 it acc env)) else again (.compLoop (e2 elt tg iter tg1 iter1 [c] scope pos) 1 it acc env)):=by rfl
section
variable {prog:Program}{w:World}{A:Around}{R:Result→Shared→Prop}{s:Shared}{elt tg iter tg1 iter1:Expr}{scope:Scope}{pos:Pos}{it acc:Value}{env:Env}
theorem zeZ {ifs:List Expr}
  (h0:codeAny (model prog w) A (.compLoop (e2 elt tg iter tg1 iter1 ifs scope pos) 1 it acc env) R s)
  (h:wpAny (model prog w) A (pyIter it) (fun i2 z=>codeAny (model prog w) A (.compLoop (e2 elt tg iter tg1 iter1 ifs scope pos) 1 i2 acc env) R z) NoX s) :
  codeAny (model prog w) A (.compStart (e2 elt tg iter tg1 iter1 ifs scope pos) 1 it acc env) R s:=by
 refine codeAny_of_tree ?_
 show wpAny _ A ((compStart (e2 elt tg iter tg1 iter1 ifs scope pos) 1 it acc env).onRaise (fun x=>do noteFrame x env;standAt theWindowsPlace)) _ _ s
 refine wpAny_notedAt ?_
 unfold compStart
 refine(show wpAny _ _ (ask >>= _) _ _ s from wpAny_bind (wpAny_askSetting (wpAny_ite ?_)))
 split
 ·first
   | exact wpAny_bind (wpAny_pure (wpAny_pure ⟨rfl,h0⟩))
   | exact wpAny_pure ⟨rfl,h0⟩
 ·apply wpAny_bind;refine wpAny_rule ?_
  first
   | exact wpAny_bind (wpAny_standAt (wpAny_bind (wpAny_mono h (fun it' s' h'=>wpAny_pure ⟨rfl,h'⟩) fun _ _ z=>z.elim)))
   | (show wpAny _ _ (standAt iter1.pos >>= _) _ _ s;exact wpAny_bind (wpAny_standAt (wpAny_bind (wpAny_mono h (fun it' s' h'=>wpAny_pure ⟨rfl,h'⟩) fun _ _ z=>z.elim))))
theorem zf2 {o:Option Expr}(J:Nat→Shared→Prop)
  (turn:∀ n s,J n s→Go (model prog w) A tg1 elt o it acc env R (fun z=>∃ m,m<n∧J m z) s) (n:Nat) (h:J n s) :
  codeAny (model prog w) A (.compLoop (.ListComp elt [⟨tg,iter,[],0⟩,⟨tg1,iter1,o.toList,0⟩] scope pos) 1 it acc env) R s:=by
 cases o with
 | none =>
  refine codeAny_loop rfl J (fun n s hI=>?_) n h
  show wpAny _ A ((compTurn (e2 elt tg iter tg1 iter1 [] scope pos) 1 it acc env).onRaise (fun x=>do noteFrame x env;theTreesLotGoes x)) _ _ s
  refine wpAny_noted ?_
  rw[zf5]
  refine wpAny_bind (wpAny_standAt (wpAny_bind (wpAny_mono (turn n s hI) (fun r a h1=>?_) fun _ _ z=>z.elim)))
  cases r with
  | none=>exact wpAny_pure h1
  | some v =>
   refine wpAny_bind (wpAny_mono h1 (fun _ b h2=>?_) fun _ _ z=>z.elim)
   refine wpAny_bind (wpAny_mono h2 (fun _ c h3=>?_) fun _ _ z=>z.elim)
   have h3':wpAny (model prog w) A (eval elt env) (fun x e=>wpAny (model prog w) A (call (.builtin "list.append") [acc,x]) (fun _ f=>∃ m,m<n∧J m f) NoX e) NoX c:=h3
   exact wpAny_bind (wpAny_bind (wpAny_mono h3' (fun x d h4=>wpAny_bind (wpAny_mono h4 (fun _ e h5=>wpAny_pure (wpAny_pure ⟨rfl,h5⟩)) fun _ _ z=>z.elim)) fun _ _ z=>z.elim))
 | some t =>
  refine codeAny_loop rfl J (fun n s hI=>?_) n h
  show wpAny _ A ((compTurn (e2 elt tg iter tg1 iter1 [t] scope pos) 1 it acc env).onRaise (fun x=>do noteFrame x env;theTreesLotGoes x)) _ _ s
  refine wpAny_noted ?_
  rw[zfv]
  refine wpAny_bind (wpAny_standAt (wpAny_bind (wpAny_mono (turn n s hI) (fun r a h1=>?_) fun _ _ z=>z.elim)))
  cases r with
  | none=>exact wpAny_pure h1
  | some v =>
   refine wpAny_bind (wpAny_mono h1 (fun _ b h2=>?_) fun _ _ z=>z.elim)
   refine wpAny_bind (wpAny_mono h2 (fun _ c h3=>?_) fun _ _ z=>z.elim)
   have h3':wpAny (model prog w) A (isTrue t env (eval t env)) (fun yes d=>if yes=true then wpAny (model prog w) A (eval elt env) (fun x e=>wpAny (model prog w) A (call (.builtin "list.append") [acc,x]) (fun _ f=>∃ m,m<n∧J m f) NoX e) NoX d else ∃ m,m<n∧J m d) NoX c:=h3
   refine wpAny_bind (wpAny_tests_one (wpAny_mono h3' (fun yes d h4=>?_) fun _ _ z=>z.elim))
   cases yes with
   | false=>exact wpAny_pure ⟨rfl,h4⟩
   | true=>exact wpAny_bind (wpAny_bind (wpAny_mono h4 (fun x e h5=>wpAny_bind (wpAny_mono h5 (fun _ f h6=>wpAny_pure (wpAny_pure ⟨rfl,h6⟩)) fun _ _ z=>z.elim)) fun _ _ z=>z.elim))
theorem zf3 {ifs:List Expr}(J:Nat→Shared→Prop)
  (turn:∀ n s,J n s→wpAny (model prog w) A (pyNext it) (fun r a=>match r with
   | none=>R (.ok .next) a
   | some v=>wpAny (model prog w) A (letOwnedTupleGo tg it v) (fun _ b=>wpAny (model prog w) A (assign tg env v) (fun _ c=>wpAny (model prog w) A (eval iter1 env) (fun x d=>wpAny (model prog w) A (pyIter x) (fun i1 e =>
     codeAny (model prog w) A (.compStart (e2 elt tg iter tg1 iter1 ifs scope pos) 1 i1 acc env) (fun r f=>match r with|.ok _=>∃ m,m<n∧J m f|.error _=>False) e) NoX d) NoX c) NoX b) NoX a) NoX s) (n:Nat) (h:J n s)
  (hs:∀ x,foldedSetIterable iter1 env x=pure x) :
  codeAny (model prog w) A (.compLoop (e2 elt tg iter tg1 iter1 ifs scope pos) 0 it acc env) R s:=by
 refine codeAny_loop rfl J (fun n s hI=>?_) n h
 show wpAny _ A ((compTurn (e2 elt tg iter tg1 iter1 ifs scope pos) 0 it acc env).onRaise (fun x=>do noteFrame x env;theTreesLotGoes x)) _ _ s
 refine wpAny_noted ?_
 rw[zf6]
 refine wpAny_bind (wpAny_standAt (wpAny_bind (wpAny_mono (turn n s hI) (fun r a h1=>?_) fun _ _ z=>z.elim)))
 cases r with
 | none=>exact wpAny_pure h1
 | some v =>
  refine wpAny_bind (wpAny_mono h1 (fun _ b h2=>?_) fun _ _ z=>z.elim)
  refine wpAny_bind (wpAny_mono h2 (fun _ c h3=>?_) fun _ _ z=>z.elim)
  refine wpAny_bind (wpAny_mono h3 (fun x d h4=>?_) fun _ _ z=>z.elim)
  refine wpAny_bind (wpAny_standAt (wpAny_bind (wpAny_of_eq (hs x) (wpAny_bind (wpAny_holding (wpAny_mono h4 (fun i1 e h5=>?_) fun _ _ z=>z.elim))))))
  refine wpAny_bind (wpAny_runOwn (codeAny_mono h5 (fun r f h6=>?_)))
  cases r with
  | ok fl=>exact wpAny_pure ⟨rfl,h6⟩
  | error x=>exact h6.elim
end
def LCW1 (J:It) (g:TG) (tt:TT) (te:TE) (l:Addr) (Q:List V→St→Hp→Prop) (W:Nat→Nat→List V→St→Hp→Prop):Prop :=
 ∀ i m acc σ' H',W i m acc σ' H'→H' l=some (.lst acc) ∧
  ((J.stop i H'∧Q acc σ' H')∨(J.go i H'∧∀ x H2,J.yld i H' x H2→g x σ' H2 fun σ3 H3=>tt σ3 H3 fun b H4 =>
   if b=true then te σ3 H4 fun y H5=>H5 l=some (.lst acc)∧acc.length<sizeLine∧∃ m',m'<m∧W (i+1) m' (acc++[y]) σ3 (upd H5 l (.lst (acc++[y])))
   else ∃ m',m'<m∧W (i+1) m' acc σ3 H4))
def tLC2 (cap:List (Option Nat)) (wi:TI) (g:TG) (wi1:TI) (g1:TG) (tt:TT) (te:TE):TE:=fun σ H Q=>wi σ H fun J H1=>∀ l,H1 l=none →
 ∃ W:Nat→Nat→List V→St→Hp→Prop,(∃ m,W 0 m [] (capσ cap σ) (upd H1 l (.lst []))) ∧
  ∀ i m acc σ' H',W i m acc σ' H'→H' l=some (.lst acc)∧((J.stop i H'∧Q (.ref l) H')∨(J.go i H'∧∀ x H2,J.yld i H' x H2→g x σ' H2 fun σ3 H3=>wi1 σ3 H3 fun J1 H4 =>
   ∃ W1:Nat→Nat→List V→St→Hp→Prop,(∃ m1,W1 0 m1 acc σ3 H4)∧LCW1 J1 g1 tt te l (fun ac τ G=>∃ m',m'<m∧W (i+1) m' ac τ G) W1))
theorem zh2 {X:Cx}{elt tg iter tg1 iter1:Expr}{o:Option Expr}{scope:Scope}{pos ppos:Pos}{wi wi1:TI}{g g1:TG}{tt:TT}{te:TE}{N':List Str}{cap:List (Option Nat)}{use:Option (Value→Sem Unit)}{Q0:Value→Shared→Prop}
  (hc:X.calm=true) (hi:PI X tg iter wi) (ck:CapOk X.N N' X.env.scope scope cap)
  (hg:∀ C s₀ H₀ fp pins,PG (zaI X N' scope C s₀ H₀ fp pins) tg g)
  (hi1:∀ C s₀ H₀ fp pins,PI (zaI X N' scope C s₀ H₀ fp pins) tg1 iter1 wi1)
  (hg1:∀ C s₀ H₀ fp pins,PG (zaI X N' scope C s₀ H₀ fp pins) tg1 g1)
  (ht:∀ C s₀ H₀ fp pins,PTo (zaI X N' scope C s₀ H₀ fp pins) o tt)
  (he:∀ C s₀ H₀ fp pins,PE (zaI X N' scope C s₀ H₀ fp pins) elt te)
  (hs:∀ x,foldedSetIterable iter X.env x=pure x) (hs1:∀ C x,foldedSetIterable iter1 (compEnvC scope (clOf X.env.cells scope.names []) C X.env) x=pure x) {pins:List (Addr × Obj)}{s:Shared}{σ:St}{H:Hp}{Q:VK}(I:Inv X pins σ H s) (h:tLC2 cap wi g wi1 g1 tt te σ H Q)
  (fin:∀ (l C:Addr) (H4:Hp) (s5:Shared) (m:Str→Option Value),Inv X pins σ H4 s5→Q (.ref l) H4→s5.heap.Ns C m→FpOk X pins H4 C→compPost (model X.prog X.w) X.A X.xe use Q0 (.ref l) C (.ok .next) s5) :
  wpAny (model X.prog X.w) X.A (comprehension (.ListComp elt [⟨tg,iter,[],0⟩,⟨tg1,iter1,o.toList,0⟩] scope pos) scope X.env ppos (newList []) false (eval iter X.env) use) Q0 X.xe s:=by
 have hcells:∀ y∈scope.names,y.2=.free→∃ c,X.env.cells.lookup y.1=some c:=fun y hy hf=>I.ok.has y.1 (ck.free y hy hf)
 refine wpAny_comprehension_free (use:=use) rfl hs (zdm hcells) ck.kind ck.names (thn (hi pins s σ H _ I h) fun v s1 h1=>thn h1 fun itv s2 h2=>?_)
 obtain⟨it,fp,tn,J,H2,e,I2,T,st2,f2,body⟩:=h2
 subst e
 have hfr2:H2 s2.heap.objs.size=none:=I2.hok.fresh (Nat.le_refl _)
 obtain⟨W,⟨m0,w0⟩,turn⟩:=body s2.heap.objs.size hfr2
 have I3:Inv X pins σ (upd H2 s2.heap.objs.size (.lst [])) { s2 with heap:=s2.heap.push { cls:=.type "list",data:=.seq ([]:List Value).toArray },toks:=s2.toks }:=I2.lnew (its:=[]) (t':=s2.toks) .nil (Nat.zero_le _)
 refine wpAny_newObj_type (wpAny_newFunctionEnv ck.nocell (by intro y hy;simp at hy) (fun h₁ hns₁ hsb₁=>?_) ck.kind)
 dsimp only at hns₁ hsb₁ ⊢
 generalize hl:s2.heap.objs.size=l at *
 generalize hP:s2.heap.push { cls:=.type "list",dict:=none,data:=.seq ([]:List Value).toArray }=P2 at *
 generalize hH3:upd H2 l (.lst [])=H3 at *
 have old:∀ b o,P2.get? b=some o→h₁.get? b=some o:=fun b o e=>hsb₁.extBut b o (Nat.ne_of_lt (Heap.lt_size e)) (Heap.get?_push_of_some _ e)
 have old2:∀ b o,s2.heap.get? b=some o→P2.get? b=some o:=fun b o e=>hP ▸ Heap.get?_push_of_some _ e
 have fpl:∀ b∈fp,b<l:=fun b hb=>by
  obtain⟨o,e,_⟩:=T.obj _ _ st2 b hb
  rw[← hl];exact Heap.lt_size e
 have fp3:∀ b∈fp,H3 b=none:=fun b hb=>by
  rw[← hH3,zag (Nat.ne_of_lt (fpl b hb))];exact(f2 b hb).1
 have hPs:P2.objs.size=l+1:=by rw[← hP,Heap.size_push,hl]
 have subc:∀ x c,(clOf X.env.cells scope.names []).lookup x=some c→X.env.cells.lookup x=some c:=fun x c e=>zcw _ _ x c hcells (fun _ _ z=>by simp at z) e
 generalize hs3:({ s2 with heap:=P2,toks:=s2.toks }:Shared)=s3 at *
 have hs3h:s3.heap=P2:=by rw[← hs3]
 let Y:=zaI X N' scope P2.objs.size s3 H3 fp pins
 have hYok:Y.Ok:=by
  refine⟨I3.ok.mod,ck.kind,I3.ok.glob,I3.ok.blt,by show s3.heap.objs.size≤P2.objs.size;rw[hs3h];exact Nat.le_refl _,fun x y c e1 e2=>I3.ok.inj x y c (subc x c e1) (subc y c e2),fun x hx=>?_,fun x c hx=>absurd (show false=true from hx) Bool.false_ne_true,I3.ok.hd,I3.ok.frames,.inl rfl,fun b hb=>⟨?_,fun x c e=>?_⟩,I3.bs,
   Nat.le_trans I3.ok.bsz I3.sz,fun b o e hb=>?_,fun b hb hz=>?_,I3.stack,I3.stkFree⟩
  ·have hx':scope.names.lookup x=some .free:=by
    rcases hx with hx|hx
    ·rcases za2 hx with z|z
     ·exact absurd rfl (ck.nocell _ (zcf z))
     ·exact z.2
    ·rcases za2 hx with z|z
     ·exact z
     ·exact z.2
   exact zbB _ _ x hx'
  ·exact Nat.ne_of_lt (by show b<P2.objs.size;rw[hPs];exact Nat.lt_succ_of_lt (fpl b hb))
  ·exact(f2 b hb).2.2.2.2.1 x c (subc x c e)
  ·rcases (f2 b hb).2.2.2.1 with z|z
   ·exact I3.ok.noex b o e z
   ·exact absurd (Nat.lt_of_lt_of_le (Heap.lt_size e) (Nat.le_trans I3.ok.bsz z)) (Nat.lt_irrefl _)
  ·rcases List.mem_cons.mp (I3.stkSub b hz) with z|z
   ·exact(f2 b hb).2.1 z
   ·exact(f2 b hb).2.2.1 z
 have hYi:Inv Y [] (capσ cap σ) H3 { s2 with heap:=h₁,toks:=s2.toks }:=by
  refine⟨hYok,by show s2.os=s3.os;rw[← hs3],I2.bare,by show Un _ _ _ _ s3.heap h₁;rw[hs3h];exact Un.kept old,⟨_,hns₁,fun j x v e1 e2 e3=>?_⟩,fun x c e=>?_,?_,fun x c e=>I3.freeC x c (subc x c e),fun p hp=>?_,fun b o e=>?_,?_⟩
  ·have e1':N'[j]?=some x:=e1
   unfold capσ at e2
   rw[List.getElem?_map]at e2
   cases ec:cap[j]? with
   | none=>rw[ec]at e2;cases e2
   | some oc =>
    rw[ec]at e2
    cases oc with
    | none=>cases e2
    | some i =>
     have e2':σ[i]?=some (some v):=by
      cases ei:σ[i]? with
      | none=>simp[ei]at e2
      | some v' =>
       simp[ei]at e2
       rw[e2]
     have hz:(x,some i)∈N'.zip cap:=by
      refine List.mem_of_getElem? (i:=j) ?_
      rw[List.getElem?_zip_eq_some]
      exact⟨e1',ec⟩
     obtain⟨hN,hf,hk⟩:=ck.cap _ hz i rfl
     obtain⟨m,hn,hlo⟩:=I3.loc
     obtain⟨u,r,lk⟩:=hlo i x v hN e2' (by rcases hk with z|z;exact .inr (.inl z);exact .inr (.inr z))
     refine⟨u,r,.inr ⟨?_,?_⟩⟩
     ·exact zcn hf
     ·rcases lk with ⟨z,_⟩|⟨_,c,hcx,hcell⟩
      ·have z':X.env.scope.names.lookup x=some .local:=z
       rcases hk with q|q
       ·rw[q]at z';cases z'
       ·rw[q]at z';cases z'
      ·obtain⟨c',hc'⟩:=zbB (cells:=X.env.cells) scope.names [] x hf
       have:=subc x c' hc'
       rw[hcx]at this;cases this
       obtain⟨ob,e,d⟩:=hcell
       rw[hs3h]at e
       exact⟨c,hc',ob,old c ob e,d⟩
  ·obtain⟨v,ob,e',d⟩:=I3.cell x c (subc x c e)
   rw[hs3h]at e'
   exact⟨v,ob,old c ob e',d⟩
  ·refine I3.hok.fresh ?_
   rw[hs3h];exact Nat.le_refl _
  ·have hp':p∈X.pn++pins:=(List.mem_append.mp hp).elim (fun z=>z) (fun z=>nomatch z)
   obtain⟨e,n,ne,nf,d⟩:=I3.pin p hp'
   rw[hs3h]at e
   refine⟨old _ _ e,n,Nat.ne_of_lt (Heap.lt_size e),fun z=>?_,d⟩
   rcases List.mem_cons.mp (I3.stkSub _ z) with q|q
   ·exact ne q
   ·exact nf q
  ·have:=I3.hok.kept (h':=h₁) (fun b u q=>old b u (by rw[← hs3h];exact q))
   exact this b o e
  ·show (cap.map _).length=N'.length
   rw[List.length_map,ck.len]
 have stat:∀ {H':Hp},(∀ b∈fp,H' b=none)→∀ b∈fp,FpOk Y [] H' b:=fun {H'} hn b hb=>by
  refine⟨hn b hb,(hYok.exf b hb).1,hYok.exfs b hb,.inl hb,(hYok.exf b hb).2,fun p hp=>?_⟩
  have hp':p∈X.pn++pins:=(List.mem_append.mp hp).elim (fun z=>z) (fun z=>nomatch z)
  exact(f2 b hb).2.2.2.2.2 p hp'
 have st1:tn 0 h₁:=T.keep 0 _ _ st2 fun b hb o e=>old b o (old2 b o e)
 have loop:codeAny (model X.prog X.w) X.A (.compLoop (.ListComp elt [⟨tg,iter,[],0⟩,⟨tg1,iter1,o.toList,0⟩] scope pos) 0 (.ref it) (.ref l) Y.env) (compPost (model X.prog X.w) X.A X.xe use Q0 (.ref l) P2.objs.size) { s2 with heap:=h₁,toks:=s2.toks }:=by
  refine zf3 (fun n s'=>∃ i acc σ' H',Inv Y [] σ' H' s'∧tn i s'.heap∧(∀ b∈fp,H' b=none)∧W i n acc σ' H') ?_ m0 ⟨0,[],_,H3,hYi,st1,fp3,w0⟩ (hs1 _)
  rintro n s4 ⟨i,acc,σ4,H4,I4,st4,fr4,w4⟩
  obtain⟨hlst,q4⟩:=turn i n acc σ4 H4 w4
  rcases q4 with ⟨stop,qn⟩|⟨go,step⟩
  ·refine thn (T.done Y rfl rfl rfl hc i [] s4 σ4 H4 Y.xe I4 (stat fr4) st4 stop) fun r s5 ⟨hr,I5⟩=>?_
   subst hr
   obtain⟨m,hn,_⟩:=id I5.loc
   have un:Un (frs X.stack) fp H3 H4 s3.heap s5.heap:=I5.base
   have sz3:s3.heap.objs.size≤P2.objs.size:=by rw[hs3h];exact Nat.le_refl _
   have IX:Inv X pins σ H4 s5:=I3.call' (ch:=fp) I5.os un I5.hok I5.bare fun b hb=>⟨(f2 b hb).2.2.2.1,(f2 b hb).2.1,(f2 b hb).2.2.2.2.1,(f2 b hb).2.2.2.2.2⟩
   exact fin l P2.objs.size H4 s5 m IX qn hn (I3.fpOk sz3 I5.free)
  ·refine thn (T.item Y rfl rfl rfl hc i [] s4 σ4 H4 Y.xe I4 (stat fr4) st4 go) fun r s5 ⟨u,hr,h5⟩=>?_
   subst hr
   refine thn h5 fun _ s6 ⟨x,H6,I6,r6,y6,st6,fr6⟩=>?_
   have I6':=I6.pinned (stat fr6) (T.obj _ _ st6)
   refine thn (hg _ _ _ _ _ _ s6 σ4 H6 x u _ I6' r6 (step x H6 y6)) fun _ s7 ⟨σ7,H7,I7,q7⟩=>?_
   have again:∀ {σ9:St}{H9:Hp}{s9:Shared}{acc9:List V},Inv Y ([]++zco fp s6.heap) σ9 H9 s9→(∃ m',m'<n∧W (i+1) m' acc9 σ9 H9)→∃ m,m<n∧∃ i acc σ' H',Inv Y [] σ' H' s9∧tn i s9.heap∧(∀ b∈fp,H' b=none)∧W i m acc σ' H':=fun {σ9 H9 s9 acc9} I9 ⟨m',hm,w9⟩=>by
    refine⟨m',hm,i+1,acc9,σ9,H9,I9.unpinned,T.keep _ _ _ st6 fun b hb o e=>(I9.pin (b,o) (List.mem_append_right _ (List.mem_append_right _ (zaB hb e)))).1,fun b hb=>?_,w9⟩
    obtain⟨o,e,d⟩:=T.obj _ _ st6 b hb
    exact(I9.pin (b,o) (List.mem_append_right _ (List.mem_append_right _ (zaB hb e)))).2.1
   generalize ([]++zco fp s6.heap:List (Addr × Obj))=pz at again I7
   refine thn (hi1 _ _ _ _ _ _ s7 σ7 H7 _ I7 q7) fun v1 s8 h8=>thn h8 fun itv1 s9 h9=>?_
   obtain⟨it1,fp1,tn1,J1,H9,e1,I9,T1,st9,f9,W1,⟨m1,w1⟩,turn1⟩:=h9
   subst e1
   have stat1:∀ {H':Hp},(∀ b∈fp1,H' b=none)→∀ b∈fp1,FpOk Y pz H' b:=fun hn b hb=>⟨hn b hb,(f9 b hb).2⟩
   have loop1:codeAny (model X.prog X.w) X.A (.compLoop (.ListComp elt [⟨tg,iter,[],0⟩,⟨tg1,iter1,o.toList,0⟩] scope pos) 1 (.ref it1) (.ref l) Y.env) (fun r z=>match r with|.ok _=>∃ m,m<n∧∃ i acc σ' H',Inv Y [] σ' H' z∧tn i z.heap∧(∀ b∈fp,H' b=none)∧W i m acc σ' H'|.error _=>False) s9:=by
    refine zf2 (fun n s'=>∃ i acc σ' H',Inv Y pz σ' H' s'∧tn1 i s'.heap∧(∀ b∈fp1,H' b=none)∧W1 i n acc σ' H') ?_ m1 ⟨0,acc,σ7,H9,I9,st9,fun b hb=>(f9 b hb).1,w1⟩
    rintro k t4 ⟨j,ac,τ4,G4,K4,u4,v4,z4⟩
    obtain⟨glst,p4⟩:=turn1 j k ac τ4 G4 z4
    rcases p4 with ⟨stop1,pn⟩|⟨go1,step1⟩
    ·refine thn (T1.done Y rfl rfl rfl hc j pz t4 τ4 G4 Y.xe K4 (stat1 v4) u4 stop1) fun r t5 ⟨hr,K5⟩=>?_
     subst hr
     exact again K5 pn
    ·refine thn (T1.item Y rfl rfl rfl hc j pz t4 τ4 G4 Y.xe K4 (stat1 v4) u4 go1) fun r t5 ⟨u,hr,h5⟩=>?_
     subst hr
     refine thn h5 fun _ t6 ⟨y,G6,K6,e6,d6,u6,v6⟩=>?_
     have K6':=K6.pinned (stat1 v6) (T1.obj _ _ u6)
     refine thn (hg1 _ _ _ _ _ _ t6 τ4 G6 y u _ K6' e6 (step1 y G6 d6)) fun _ t7 ⟨τ7,G7,K7,p7⟩=>?_
     refine ze4 (ht _ _ _ _ _ _ t7 τ7 G7 _ K7 p7) fun b t8 ⟨G8,K8,p8⟩=>?_
     have again1:∀ {τ9:St}{G9:Hp}{t9:Shared}{ac9:List V},Inv Y (pz++zco fp1 t6.heap) τ9 G9 t9→(∃ m',m'<k∧W1 (j+1) m' ac9 τ9 G9)→∃ m,m<k∧∃ i acc σ' H',Inv Y pz σ' H' t9∧tn1 i t9.heap∧(∀ b∈fp1,H' b=none)∧W1 i m acc σ' H':=fun {τ9 G9 t9 ac9} K9 ⟨m',hm,z9⟩=>by
      refine⟨m',hm,j+1,ac9,τ9,G9,K9.unpinned,T1.keep _ _ _ u6 fun b hb o e=>(K9.pin (b,o) (List.mem_append_right _ (List.mem_append_right _ (zaB hb e)))).1,fun b hb=>?_,z9⟩
      obtain⟨o,e,d⟩:=T1.obj _ _ u6 b hb
      exact(K9.pin (b,o) (List.mem_append_right _ (List.mem_append_right _ (zaB hb e)))).2.1
     cases b with
     | false =>
      rw[if_neg Bool.false_ne_true]at p8 ⊢
      exact again1 K8 p8
     | true =>
      rw[if_pos rfl]at p8 ⊢
      refine thn (he _ _ _ _ _ _ t8 τ7 G8 _ K8 p8) fun yv t9 ⟨yy,G9,K9,e9,hl9,hz9,p9⟩=>?_
      refine thn (mt_append (X:=Y) _ t9 τ7 G9 (.ref l) [yy] (.ref l) [yv] (fun _ H'=>H'=upd G9 l (.lst (ac++[yy]))) K9 rfl (.cons e9 .nil) ⟨l,ac,yy,rfl,rfl,hl9,hz9,rfl⟩) fun _ t10 ⟨_,G10,K10,_,e10⟩=>?_
      subst e10
      exact again1 K10 p9
   exact zeZ loop1 (T1.self X.A 0 _ _ _ st9 loop1)
 exact codeAny_compStart_list loop (T.self X.A 0 _ _ _ st1 loop)
theorem zjR {X:Cx}{elt tg iter tg1 iter1:Expr}{o:Option Expr}{scope:Scope}{pos:Pos}{wi wi1:TI}{g g1:TG}{tt:TT}{te:TE}{N':List Str}{cap:List (Option Nat)}
  (hc:X.calm=true) (hi:PI X tg iter wi) (ck:CapOk X.N N' X.env.scope scope cap)
  (hg:∀ C s₀ H₀ fp pins,PG (zaI X N' scope C s₀ H₀ fp pins) tg g)
  (hi1:∀ C s₀ H₀ fp pins,PI (zaI X N' scope C s₀ H₀ fp pins) tg1 iter1 wi1)
  (hg1:∀ C s₀ H₀ fp pins,PG (zaI X N' scope C s₀ H₀ fp pins) tg1 g1)
  (ht:∀ C s₀ H₀ fp pins,PTo (zaI X N' scope C s₀ H₀ fp pins) o tt)
  (he:∀ C s₀ H₀ fp pins,PE (zaI X N' scope C s₀ H₀ fp pins) elt te)
  (hs:∀ x,foldedSetIterable iter X.env x=pure x:=by intro _;rfl)
  (hs1:∀ C x,foldedSetIterable iter1 (compEnvC scope (clOf X.env.cells scope.names []) C X.env) x=pure x:=by intro _ _;rfl) :
  PE X (.ListComp elt [⟨tg,iter,[],0⟩,⟨tg1,iter1,o.toList,0⟩] scope pos) (tLC2 cap wi g wi1 g1 tt te):=by
 intro pins s σ H Q I h
 rw[eval_ListComp]
 exact zh2 (use:=none) hc hi ck hg hi1 hg1 ht he hs hs1 I h fun l C H4 s5 m I5 q hn f=>⟨m,hn,fun h' sb=>⟨.ref l,H4,I5.gone f sb,rfl,q⟩⟩
end L2
namespace Own
open PySem PySem.Spec PyProof.Rows
abbrev IsZipC (h:Heap) (z TI TO:Addr) (own:Value) (c:Bool):Prop:=h.get? z=some { cls:=.type "zip",dict:=none,data:=.fields #[own,.bool c,.bool false,.ref TI,.ref TO],slots:=#[] }
section
variable {prog:Program}{w:World}{A:Around}{E:Value→Shared→Prop}{s:Shared}{z TI TO i1 i2:Addr}{f1 f2:List Addr}{n1 n2 k:Nat}{P1 P2:Nat→Value→Prop}{S1 S2:Nat→Heap→Prop}{a b:Value}
theorem zhf {a:Addr}{Q:Option Obj→Shared→Prop}(ho:s.heap.get? a=none) (h:Q none s):wpAny (model prog w) A (loadIfAlive a) Q E s:=by
 have h':Q (s.heap.get? a) s:=ho.symm ▸ h
 exact fun _ _ _=>h'
theorem ze3 {α:Type}{t:Addr}{c:Bool}{f:Bool→Sem α}{Q:α→Shared→Prop}(hz:IsZipN s.heap z TI TO t c) (ho:s.heap.get? t=none) (h:wpAny (model prog w) A (f true) Q E s) :
  wpAny (model prog w) A (Builtin.SmallTypes.ownedTupleIsFree (.ref z) >>= f) Q E s:=by
 refine wpAny_bind ?_;unfold Builtin.SmallTypes.ownedTupleIsFree
 refine rf 0 hz rfl rfl ?_
 show wpAny _ _ (loadIfAlive ((t:Int).toNat) >>= _) _ _ _
 rw[Int.toNat_natCast]
 refine wpAny_bind (zhf ho ?_)
 simp only[Option.isNone_none,if_true]
 exact wpAny_pure h
theorem zfX (S:Sep z TI TO i1 i2 f1 f2) (D1:Draws prog w A i1 f1 n1 P1 S1) (D2:Draws prog w A i2 f2 n2 P2 S2) {Q:Value→Shared→Prop}
  {t:Addr}{c1:Bool}(hz:IsZipN s.heap z TI TO t c1) (hn:s.heap.get? t=none) (hI:IsPair s.heap TI (.ref i1) (.ref i2)) (hO:IsPair s.heap TO a b) (d1:S1 k s.heap) (d2:S2 k s.heap) (l1:k<n1) (l2:k<n2)
  (h:∀ x y h' tk,P1 k x→P2 k y→IsZip h' z TI TO (rawInt s.heap.objs.size)→IsPair h' TO x y→S1 (k+1) h'→S2 (k+1) h'→IsPair h' s.heap.objs.size x y →
   (∀ c o,c∉[z,TO,i1,i2]→s.heap.get? c=some o→h'.get? c=some o)→Q (.ref s.heap.objs.size) { s with heap:=h',toks:=tk }) :
  wpAny (model prog w) A (Builtin.«zip.__next__» ⟨[.ref z],[]⟩) (fun r s'=>∃ v,r=.done (.ret v)∧Q v s') E s:=by
 have nd:=S.all
 simp only[List.nodup_cons,List.mem_cons,List.not_mem_nil,or_false,not_or]at nd
 obtain⟨⟨zI,zO,z1,z2⟩,⟨IO,I1,I2⟩,⟨O1,O2⟩,n12,_⟩:=nd
 refine rf 2 hz rfl rfl (rf 3 hz rfl rfl (wpAny_bind (wpAny_seqItems hI rfl (ze3 hz hn ?_))))
 rw[if_pos rfl]
 refine wpAny_bind (wpAny_rule (rf 4 hz rfl rfl (wpAny_bind (wpAny_setField_rec hz (show 0<5 by decide) fun ha za sa=>wpAny_bind ?_))))
 have za':IsZipC ha z TI TO .ellipsis c1:=za;simp only[List.zipIdx_cons,List.zipIdx_nil,List.forIn_cons,List.forIn_nil]
 refine wpAny_bind (wpAny_bind (wpAny_onRaise (wpAny_bind (D1.item k _ _ _ l1 (D1.frame _ _ _ d1 fun c hc o e=>(sa.2 c fun q=>S.z1 (q ▸ hc)).trans e) fun x hb tb px db sb=>wpAny_pure ?_))))
 have Ob:IsPair hb TO a b:=(sb.2 TO O1).trans ((sa.2 TO (Ne.symm zO)).trans hO)
 refine wpAny_bind (wpAny_seqItems Ob rfl (wpAny_bind (wpAny_updateSeq_pair Ob fun hc Oc sc=>wpAny_bind (wpAny_letGo (wpAny_pure ?_)))))
 have Oc':IsPair hc TO x b:=Oc
 have st2:S2 k hc:=D2.frame _ _ _ d2 fun c hm o e=>(sc.2 c fun q=>S.t2 (q ▸ hm)).trans ((sb.2 c fun q=>S.o2 (q ▸ hm)).trans ((sa.2 c fun q=>S.z2 (q ▸ hm)).trans e))
 refine wpAny_bind (wpAny_bind (wpAny_onRaise (wpAny_bind (D2.item k _ _ _ l2 st2 fun y hd td py dd sd=>wpAny_pure ?_))))
 have Od:IsPair hd TO x b:=(sd.2 TO O2).trans Oc'
 refine wpAny_bind (wpAny_seqItems Od rfl (wpAny_bind (wpAny_updateSeq_pair Od fun he Oe se=>wpAny_bind (wpAny_letGo (wpAny_pure (wpAny_pure ?_))))))
 have Oe':IsPair he TO x y:=Oe
 refine wpAny_bind (wpAny_seqItems Oe' rfl (wpAny_bind (wpAny_newTuple (wpAny_bind ?_))))
 have sz:he.objs.size=s.heap.objs.size:=by rw[se.1,sd.1,sc.1,sb.1,sa.1]
 have ze:IsZipC he z TI TO .ellipsis c1:=(se.2 z zO).trans ((sd.2 z z2).trans ((sc.2 z zO).trans ((sb.2 z z1).trans za')))
 have zn:he.objs.size≠z:=Nat.ne_of_gt (Heap.lt_size ze)
 unfold Builtin.SmallTypes.ownedTupleHandOut;refine wpAny_bind (wpAny_setField_rec (Heap.get?_push_of_some _ ze) (show 0<5 by decide) fun hf zf sf=>wpAny_setField_rec zf (show 1<5 by decide) fun hg zg sg=>wpAny_pure ⟨_,rfl,?_⟩)
 have up:∀ c o,c≠z→he.get? c=some o→hg.get? c=some o:=fun c o q e=>(sg.2 c q).trans ((sf.2 c q).trans (Heap.get?_push_of_some _ e))
 have new:IsPair hg he.objs.size x y:=(sg.2 _ zn).trans ((sf.2 _ zn).trans (Heap.get?_push_size _ rfl))
 have zg':IsZip hg z TI TO (rawInt he.objs.size):=zg
 rw[sz]at new zg'
 show Q (.ref he.objs.size) _
 rw[sz]
 refine h x y hg td px py zg' (up _ _ (Ne.symm zO) Oe') ?_ ?_ new fun c o hc e=>?_
 ·exact D1.frame _ _ _ db fun c hm o e=>up c o (fun q=>S.z1 (q ▸ hm)) ((se.2 c fun q=>S.t1 (q ▸ hm)).trans ((sd.2 c fun q=>S.o1 (q ▸ hm)).trans ((sc.2 c fun q=>S.t1 (q ▸ hm)).trans e)))
 ·exact D2.frame _ _ _ dd fun c hm o e=>up c o (fun q=>S.z2 (q ▸ hm)) ((se.2 c fun q=>S.t2 (q ▸ hm)).trans e)
 ·simp only[List.mem_cons,List.not_mem_nil,or_false,not_or]at hc
  obtain⟨c1,c2,c3,c4⟩:=hc
  exact up c o c1 ((se.2 c c2).trans ((sd.2 c c4).trans ((sc.2 c c2).trans ((sb.2 c c3).trans ((sa.2 c c1).trans e)))))
theorem zfT (S:Sep z TI TO i1 i2 f1 f2) (D1:Draws prog w A i1 f1 n1 P1 S1) {Q:Fin→Shared→Prop}{t:Addr}{c1:Bool}(hz:IsZipN s.heap z TI TO t c1) (hn:s.heap.get? t=none) (hI:IsPair s.heap TI (.ref i1) (.ref i2)) (d1:S1 n1 s.heap)
  (h:∀ h' x,(∀ c o,c∉[z,TO,i1,i2]→s.heap.get? c=some o→h'.get? c=some o)→(∃ o,h'.get? x=some o∧o.cls=.type "StopIteration")→E (.ref x) { s with heap:=h' }):wpAny (model prog w) A (Builtin.«zip.__next__» ⟨[.ref z],[]⟩) Q E s:=by
 have nd:=S.all
 simp only[List.nodup_cons,List.mem_cons,List.not_mem_nil,or_false,not_or]at nd
 obtain⟨⟨zI,zO,z1,z2⟩,⟨IO,I1,I2⟩,⟨O1,O2⟩,n12,_⟩:=nd
 refine rf 2 hz rfl rfl (rf 3 hz rfl rfl (wpAny_bind (wpAny_seqItems hI rfl (ze3 hz hn ?_))))
 rw[if_pos rfl]
 refine wpAny_bind (wpAny_rule (rf 4 hz rfl rfl (wpAny_bind (wpAny_setField_rec hz (show 0<5 by decide) fun ha za sa=>wpAny_bind ?_))))
 have za':IsZipC ha z TI TO .ellipsis c1:=za;simp only[List.zipIdx_cons,List.zipIdx_nil,List.forIn_cons,List.forIn_nil]
 refine wpAny_bind (wpAny_bind (wpAny_onRaise (wpAny_bind (D1.done _ _ _ (D1.frame _ _ _ d1 fun c hc o e=>(sa.2 c fun q=>S.z1 (q ▸ hc)).trans e) fun hb x kb ⟨ox,ex,cx⟩=>?_))))
 have zb:IsZipC hb z TI TO .ellipsis c1:=kb z _ z1 za'
 have xz:x≠z:=fun q=>by rw[q,zb]at ex;cases ex;exact absurd (show Value.type "zip" = Value.type "StopIteration" from cx) (by decide)
 refine wpAny_setField_rec zb (show 0<5 by decide) fun hc _ sc=>h hc x (fun c o hm e=>?_) ⟨ox,(sc.2 x xz).trans ex,cx⟩
 simp only[List.mem_cons,List.not_mem_nil,or_false,not_or]at hm
 exact(sc.2 c hm.1).trans (kb c o hm.2.2.1 ((sa.2 c hm.1).trans e))
theorem zfW {t:Addr}{c:Bool}{o:Obj}(S:Sep z TI TO i1 i2 f1 f2) (D1:Draws prog w A i1 f1 n1 P1 S1) (D2:Draws prog w A i2 f2 n2 P2 S2) {Q:Value→Shared→Prop}
  (hz:IsZipN s.heap z TI TO t c) (ho:s.heap.get? t=some o) (hI:IsPair s.heap TI (.ref i1) (.ref i2)) (d1:S1 k s.heap) (d2:S2 k s.heap) (l1:k<n1) (l2:k<n2)
  (h:∀ x y h' tk,P1 k x→P2 k y→IsZipN h' z TI TO t true→S1 (k+1) h'→S2 (k+1) h'→IsPair h' s.heap.objs.size x y →
   (∀ c o,c∉[z,i1,i2]→s.heap.get? c=some o→h'.get? c=some o)→Q (.ref s.heap.objs.size) { s with heap:=h',toks:=tk }) :
  wpAny (model prog w) A (Builtin.«zip.__next__» ⟨[.ref z],[]⟩) (fun r s'=>∃ v,r=.done (.ret v)∧Q v s') E s:=by
 have nd:=S.all
 simp only[List.nodup_cons,List.mem_cons,List.not_mem_nil,or_false,not_or]at nd
 obtain⟨⟨zI,zO,z1,z2⟩,⟨IO,I1,I2⟩,⟨O1,O2⟩,n12,_⟩:=nd
 refine rf 2 hz rfl rfl (rf 3 hz rfl rfl (wpAny_bind (wpAny_seqItems hI rfl (zdt hz ho fun ha za sa=>?_))))
 rw[if_neg Bool.false_ne_true]
 refine wpAny_bind ?_
 simp only[List.forIn_toArray,List.forIn_cons,List.forIn_nil]
 refine wpAny_bind (wpAny_bind (wpAny_holding (wpAny_bind (D1.item k _ _ _ l1 (D1.frame _ _ _ d1 fun c hc o e=>(sa.2 c fun q=>S.z1 (q ▸ hc)).trans e) fun x hb tb px db sb=>wpAny_pure (wpAny_pure ?_)))))
 have st2:S2 k hb:=D2.frame _ _ _ d2 fun c hm o e=>(sb.2 c fun q=>S.o2 (q ▸ hm)).trans ((sa.2 c fun q=>S.z2 (q ▸ hm)).trans e)
 refine wpAny_bind (wpAny_bind (wpAny_holding (wpAny_bind (D2.item k _ _ _ l2 st2 fun y hd td py dd sd=>wpAny_pure (wpAny_pure (wpAny_pure ?_))))))
 refine wpAny_bind (wpAny_newTuple (wpAny_pure ⟨_,rfl,?_⟩) (hsz:=by show 2≤sizeLine;decide))
 have sz:hd.objs.size=s.heap.objs.size:=by rw[sd.1,sb.1,sa.1]
 show Q (.ref hd.objs.size) _
 rw[sz]
 have zd:IsZipN hd z TI TO t true:=(sd.2 z z2).trans ((sb.2 z z1).trans za)
 have new:(hd.push { cls:=.type "tuple",data:=.seq #[x,y] }).get? s.heap.objs.size=some { cls:=.type "tuple",data:=.seq #[x,y] }:=by rw[← sz];exact Heap.get?_push_size _ rfl
 refine h x y _ td px py (Heap.get?_push_of_some _ zd) ?_ ?_ new fun c o hc e=>?_
 ·exact D1.frame _ _ _ db fun c hm o e=>Heap.get?_push_of_some _ ((sd.2 c fun q=>S.o1 (q ▸ hm)).trans e)
 ·exact D2.frame _ _ _ dd fun c hm o e=>Heap.get?_push_of_some _ e
 ·simp only[List.mem_cons,List.not_mem_nil,or_false,not_or]at hc
  exact Heap.get?_push_of_some _ ((sd.2 c hc.2.2).trans ((sb.2 c hc.2.1).trans ((sa.2 c hc.1).trans e)))
def AnyZip (h:Heap) (z TI TO:Addr):Prop:=IsZip h z TI TO .none∨∃ t c,IsZipN h z TI TO t c
theorem AnyZip.obj {h:Heap}(x:AnyZip h z TI TO):∃ o,h.get? z=some o∧o.cls=.type "zip"∧∀ v,o.data≠.cell v:=by
 rcases x with x|⟨t,c,x⟩
 ·exact⟨_,x,rfl,fun v q=>by cases q⟩
 ·exact⟨_,x,rfl,fun v q=>by cases q⟩
theorem zfY (S:Sep z TI TO i1 i2 f1 f2) (D1:Draws prog w A i1 f1 n1 P1 S1) (D2:Draws prog w A i2 f2 n2 P2 S2) {Q:Value→Shared→Prop}
  (hz:AnyZip s.heap z TI TO) (hI:IsPair s.heap TI (.ref i1) (.ref i2)) (hO:IsPair s.heap TO a b) (d1:S1 k s.heap) (d2:S2 k s.heap) (l1:k<n1) (l2:k<n2)
  (h:∀ x y h' tk,P1 k x→P2 k y→AnyZip h' z TI TO→(∃ a b,IsPair h' TO a b)→S1 (k+1) h'→S2 (k+1) h'→IsPair h' s.heap.objs.size x y →
   (∀ c o,c∉[z,TO,i1,i2]→s.heap.get? c=some o→h'.get? c=some o)→Q (.ref s.heap.objs.size) { s with heap:=h',toks:=tk }) :
  wpAny (model prog w) A (Builtin.«zip.__next__» ⟨[.ref z],[]⟩) (fun r s'=>∃ v,r=.done (.ret v)∧Q v s') E s:=by
 rcases hz with hz|⟨t,c,hz⟩
 ·exact zdr S D1 D2 hz hI hO d1 d2 l1 l2 fun x y h' tk px py zz zo q1 q2 nw kk=>h x y h' tk px py (.inr ⟨_,_,zz⟩) ⟨_,_,zo⟩ q1 q2 nw kk
 ·cases et:s.heap.get? t with
  | none=>exact zfX S D1 D2 hz et hI hO d1 d2 l1 l2 fun x y h' tk px py zz zo q1 q2 nw kk=>h x y h' tk px py (.inr ⟨_,_,zz⟩) ⟨_,_,zo⟩ q1 q2 nw kk
  | some o =>
   have nd:=S.all
   simp only[List.nodup_cons,List.mem_cons,List.not_mem_nil,or_false,not_or]at nd
   obtain⟨⟨zI,zO,z1,z2⟩,⟨IO,I1,I2⟩,⟨O1,O2⟩,n12,_⟩:=nd
   refine zfW S D1 D2 hz et hI d1 d2 l1 l2 fun x y h' tk px py zz q1 q2 nw kk=>h x y h' tk px py (.inr ⟨_,_,zz⟩) ⟨_,_,kk TO _ (by simp[Ne.symm zO,O1,O2]) hO⟩ q1 q2 nw fun c o hc e=>kk c o (fun m=>hc ?_) e
   simp only[List.mem_cons,List.not_mem_nil,or_false]at m ⊢
   rcases m with m|m|m
   ·exact .inl m
   ·exact .inr (.inr (.inl m))
   ·exact .inr (.inr (.inr m))
theorem zfU (S:Sep z TI TO i1 i2 f1 f2) (D1:Draws prog w A i1 f1 n1 P1 S1) {Q:Fin→Shared→Prop}(hz:AnyZip s.heap z TI TO) (hI:IsPair s.heap TI (.ref i1) (.ref i2)) (d1:S1 n1 s.heap)
  (h:∀ h' x,(∀ c o,c∉[z,TO,i1,i2]→s.heap.get? c=some o→h'.get? c=some o)→(∃ o,h'.get? x=some o∧o.cls=.type "StopIteration")→E (.ref x) { s with heap:=h' }):wpAny (model prog w) A (Builtin.«zip.__next__» ⟨[.ref z],[]⟩) Q E s:=by
 rcases hz with hz|⟨t,c,hz⟩
 ·exact zdq S D1 hz hI d1 h
 ·cases et:s.heap.get? t with
  | none=>exact zfT S D1 hz et hI d1 h
  | some o=>exact zd0 S D1 hz et hI d1 h
theorem zg0 {s:Shared}{E:Value→Shared→Prop}{Q:Value→Shared→Prop}(hz:AnyZip s.heap z TI TO) (h:Q (.ref z) s):wpAny (model prog w) A (pyIter (.ref z)) Q E s:=by
 obtain⟨oz,ez,cz,_⟩:=hz.obj
 have ty:s.TypeIs (.ref z) "zip":=⟨oz,ez,cz⟩
 exact wpAny_pyIter_slot ty F.slot_zip_iter (wpAny_call_entry F.slot_zip_iter ty F.entry_zip_iter (show wpAny _ _ (ret (.ref z)) _ _ s from wpAny_pure ⟨_,rfl,"zip",_,ty,F.slot_zip_next.lookup,h⟩) (F.args_zip_iter_1 _))
end
end Own
namespace L2
open PySem PySem.Spec PyProof.Rows Own
theorem zf4 {P:Program}{w:World}{K:PySem.W.Frag}{y1:Str}{p1:Pos}(b1 b2:Bool) (a1 a2 z TI TO i1 i2:Addr) (nd:[z,TI,TO,i1,i2].Nodup) :
  Turn P w K (.Name y1 p1) (Itz K b1 b2 a1 a2) [z,TI,TO,i1,i2] z (fun i h=>AnyZip h z TI TO∧IsPair h TI (.ref i1) (.ref i2)∧(∃ a b,IsPair h TO a b)∧RIt b1 h i1 a1 i∧RIt b2 h i2 a2 i) where
 mem:=List.mem_cons_self
 obj:=fun i h ⟨hz,hI,⟨a,b,hO⟩,h1,h2⟩ c hc=>by
  simp only[List.mem_cons,List.not_mem_nil,or_false]at hc
  rcases hc with rfl|rfl|rfl|rfl|rfl
  ·obtain⟨o,e,_,d⟩:=hz.obj;exact⟨o,e,d⟩
  ·exact⟨_,hI,fun v q=>by cases q⟩
  ·exact⟨_,hO,fun v q=>by cases q⟩
  ·exact⟨_,h1,fun v q=>by cases q⟩
  ·exact⟨_,h2,fun v q=>by cases q⟩
 keep:=fun i h h' ⟨hz,hI,⟨a,b,hO⟩,h1,h2⟩ kk=>⟨hz.imp (fun q=>kk z (by simp) _ q) (fun ⟨t,c,q⟩=>⟨t,c,kk z (by simp) _ q⟩),kk TI (by simp) _ hI,⟨a,b,kk TO (by simp) _ hO⟩,kk i1 (by simp) _ h1,kk i2 (by simp) _ h2⟩
 item:=by
  intro X hP hw hK hc i pins s σ H E I hf ⟨hz,hI,⟨a,b,hO⟩,h1,h2⟩ ⟨xs,ys,x,y,q1,q2,hx,hy⟩
  subst hP hw hK
  obtain⟨u1,r1,p1⟩:=I.sq q1
  obtain⟨u2,r2,p2⟩:=I.sq q2
  obtain⟨v1,e1,rx⟩:=r1.get hx
  obtain⟨v2,e2,ry⟩:=r2.get hy
  have nd':=nd
  simp only[List.nodup_cons,List.mem_cons,List.not_mem_nil,or_false,not_or]at nd'
  obtain⟨⟨zI,zO,z1,z2⟩,⟨IO,I1,I2⟩,⟨O1,O2⟩,n12,_⟩:=nd'
  have na1:∀ c∈[z,TI,TO,i1,i2],c≠a1:=fun c hm=>I.sq_ne q1 (hf c hm)
  have na2:∀ c∈[z,TI,TO,i1,i2],c≠a2:=fun c hm=>I.sq_ne q2 (hf c hm)
  have S:Sep z TI TO i1 i2 [i1,a1] [i2,a2]:=⟨nd,by simp[z1,na1 z (by simp)],by simp[O1,na1 TO (by simp)],by simp[Ne.symm n12,na1 i2 (by simp)],by simp[z2,na2 z (by simp)],by simp[O2,na2 TO (by simp)],by simp[n12,na2 i1 (by simp)]⟩
  have hd:=I.ok.hd hc
  have D1:=zc0 (prog:=X.prog) (w:=X.w) (A:=X.A.in1) hd b1 i1 a1 u1.toArray (p1.ne h1)
  have D2:=zc0 (prog:=X.prog) (w:=X.w) (A:=X.A.in1) hd b2 i2 a2 u2.toArray (p2.ne h2)
  obtain⟨oz,ez,cz,dz⟩:=hz.obj
  have tyz:s.TypeIs (.ref z) "zip":=⟨oz,ez,cz⟩
  unfold pyNext
  refine wpAny_bind (wpAny_attempt (wpAny_callSpecial?_slot (name:="__next__") tyz F.slot_zip_next (wpAny_call_entry F.slot_zip_next tyz F.entry_zip_next (zfY S D1 D2 hz hI hO ⟨h1,p1⟩ ⟨h2,p2⟩ (by simpa using (List.getElem?_eq_some_iff.mp e1).1) (by simpa using (List.getElem?_eq_some_iff.mp e2).1)
   fun w1 w2 h' tk hw1 hw2 zh ⟨oa,ob,Oh⟩ d1 d2 new hk=>wpAny_pure ?_) (F.args_zip_next_1 _))))
  obtain rfl:v1=w1:=Option.some.inj (e1.symm.trans (by simpa using hw1))
  obtain rfl:v2=w2:=Option.some.inj (e2.symm.trans (by simpa using hw2))
  refine⟨_,rfl,wpAny_pure ?_⟩
  have nz:s.heap.objs.size≠z:=Nat.ne_of_gt (Heap.lt_size ez)
  have far:∀ c∈[z,TI,TO,i1,i2],c≠s.heap.objs.size:=fun c hm=>by
   simp only[List.mem_cons,or_false,List.not_mem_nil]at hm
   rcases hm with rfl|rfl|rfl|rfl|rfl
   ·exact Nat.ne_of_lt (Heap.lt_size ez)
   ·exact Nat.ne_of_lt (Heap.lt_size hI)
   ·exact Nat.ne_of_lt (Heap.lt_size hO)
   ·exact Nat.ne_of_lt (Heap.lt_size h1)
   ·exact Nat.ne_of_lt (Heap.lt_size h2)
  refine⟨.ref s.heap.objs.size,_,I.spunN (fp:=[z,TI,TO,i1,i2]) (fun c o hm q=>?_) hf (Nat.le_refl _) (zdK new rx ry),rfl,⟨x,y,fun l hl=>by rw[I.sq_inj hl q1];exact hx,fun l hl=>by rw[I.sq_inj hl q2];exact hy,_,I.fresh,rfl,rfl⟩,
   ⟨zh,hk TI _ (by simp[Ne.symm zI,IO,I1,I2]) hI,⟨_,_,Oh⟩,d1.1,d2.1⟩,fun c hm=>by rw[zag (far c hm),(hf c hm).1]⟩
  simp only[List.mem_cons,List.not_mem_nil,or_false,not_or]at hm
  exact hk c o (by simp[hm]) q
 done:=by
  intro X hP hw hK hc i pins s σ H E I hf ⟨hz,hI,⟨a,b,hO⟩,h1,h2⟩ ⟨xs,q1,hx⟩
  subst hP hw hK
  obtain⟨u1,r1,p1⟩:=I.sq q1
  have nd':=nd
  simp only[List.nodup_cons,List.mem_cons,List.not_mem_nil,or_false,not_or]at nd'
  obtain⟨⟨zI,zO,z1,z2⟩,⟨IO,I1,I2⟩,⟨O1,O2⟩,n12,_⟩:=nd'
  have na1:∀ c∈[z,TI,TO,i1,i2],c≠a1:=fun c hm=>I.sq_ne q1 (hf c hm)
  have S:Sep z TI TO i1 i2 [i1,a1] [i2]:=⟨nd,by simp[z1,na1 z (by simp)],by simp[O1,na1 TO (by simp)],by simp[Ne.symm n12,na1 i2 (by simp)],by simp[z2],by simp[O2],by simp[n12]⟩
  have hsz:i=u1.toArray.size:=by rw[List.size_toArray,← r1.length,hx]
  obtain⟨oz,ez,cz,dz⟩:=hz.obj
  have tyz:s.TypeIs (.ref z) "zip":=⟨oz,ez,cz⟩
  unfold pyNext
  refine wpAny_bind (wpAny_attempt (wpAny_callSpecial?_slot (name:="__next__") tyz F.slot_zip_next (wpAny_call_entry F.slot_zip_next tyz F.entry_zip_next
   (zfU S (zc0 (prog:=X.prog) (w:=X.w) (A:=X.A.in1) (I.ok.hd hc) b1 i1 a1 u1.toArray (p1.ne h1)) hz hI ⟨by rw[← hsz];exact h1,p1⟩ fun h' x hk ⟨o,eo,co⟩=>?_) (F.args_zip_next_1 _))))
  refine wpAny_bind (wpAny_isInstance (T:="StopIteration") (b:=true) ⟨o,eo,co⟩ isSubtype_stop (wpAny_pure ⟨rfl,I.spun (t':=s.toks) (fp:=[z,TI,TO,i1,i2]) (fun c o hm q=>hk c o ?_ q) hf⟩))
  simp only[List.mem_cons,List.not_mem_nil,or_false,not_or]at hm ⊢
  exact⟨hm.1,hm.2.2.1,hm.2.2.2.1,hm.2.2.2.2⟩
 self:=fun _ _ _ _ _ st h=>zg0 st.1 h
theorem ziT {X:Cx}{a b:Expr}{ta:TA}{p pos p1:Pos}{y1:Str}(b1 b2:Bool) (hg:Gl X "zip") (hm:X.mg "zip" = none) (ha:PA X [a,b] ta) (hs:starEach [a,b] X.env=[(false,eval a X.env),(false,eval b X.env)]:=by rfl) (hs2:starEach [b] X.env=[(false,eval b X.env)]:=by rfl) :
  PI X (.Name y1 p1) (.Call (.Name "zip" p) [a,b] [] pos) (iZip X.K b1 b2 ta):=by
 intro pins s σ H R I h
 refine Call_ (zaR I hg hm (u:=.type "zip") (by rfl) (PyProof.Rows.callWith_type1 (thn (ha pos pins s σ H _ I h) fun us s1 ⟨vs,H1,I1,r1,q1⟩=>?_) (by rw[hs,hs2]) (by rw[hs2];rfl)))
 obtain⟨a1,a2,xs,ys,rfl,hq1,hq2,q⟩:=q1
 obtain⟨u,v,rfl,ru,rv⟩:=r1.two
 cases ru
 cases rv
 obtain⟨its,_,pl1⟩:=I1.sq hq1
 obtain⟨jts,_,pl2⟩:=I1.sq hq2
 refine callType_new F.called_zip (by decide) (F.typeCall_zip_2 _ _) (F.newCall_zip_2 _ _) (fun obj=>F.args_object_init_3 obj _ _) F.entry_zip_new (zds b1 b2 a1 a2 its.toArray jts.toArray) ⟨pl1,pl2,fun h' z ⟨TI,TO,i1,i2,nd,far,hz,hI,hO,h1,h2⟩ hk=>⟨⟨_,hz,rfl⟩,?_⟩⟩
 exact wpAny_pyIter_zip hz ⟨_,[z,TI,TO,i1,i2],_,_,H1,rfl,I1.kept (t':=s1.toks) hk,zf4 b1 b2 a1 a2 z TI TO i1 i2 nd,⟨.inl hz,hI,⟨_,_,hO⟩,h1,h2⟩,fun c hc=>I1.fpOk (far c hc) (I1.hok.fresh (far c hc)),q⟩
end L2
namespace L2
open PySem PySem.Spec PyProof.Rows Own Ts
section
variable {X:Cx}{pins:List (Addr × Obj)}{σ:St}{H:Hp}{s:Shared}
theorem Inv.adopt {T:Addr}{o:HO}(I:Inv X pins σ H s) (hf:FpOk X pins H T) (new:ObjOk X.prog X.w (upd H T o) s.heap T o):Inv X pins σ (upd H T o) s:=by
 have hn:=hf.1
 have J:Inv X pins σ (upd H T o) { s with heap:=s.heap,gens:=s.gens,drawn:=s.drawn,toks:=s.toks }:=by
  refine I.step (ch:=[T]) (fun b hb=>?_) (fun b u _ _ _ e _=>e) (fun b u _ _ _ e _=>⟨u.slots,e⟩) (fun b u hc _ n=>by rw[zag fun q=>hc (List.mem_singleton.mpr q)];exact n)
   (fun b u _ e=>⟨u,e⟩) (fun b xs e=>by rw[zag (zad e hn)];exact e) (fun b u x e=>by rw[zag (zad e hn)];exact e) (fun b ps e=>⟨#[],by rw[zag (zad e hn),e];simp⟩) (fun m hm=>hm) (fun b u e=>?_) I.bare
  ·have only:=List.mem_singleton.mp hb
   subst only
   exact⟨hf.2.2.2.1,hf.2.1,hf.2.2.2.2.1,hf.2.2.2.2.2⟩
  ·by_cases hb:b=T
   ·subst hb;rw[zac]at e;cases e;exact new
   ·rw[zag hb]at e
    exact(I.hok b u e).stay (fun c v _ q=>q) (fun c q=>by rw[zag (zad q hn)];exact q) fun c xs q=>by rw[zag (zad q hn)];exact q
 exact J
end
def ziz (K:PySem.W.Frag) (b1 b2:Bool) (ta:TA):TE:=fun σ H Q=>ta σ H fun vs H1=>∃ a1 a2 xs ys,vs=[.ref a1,.ref a2]∧SqB b1 K H1 a1 xs∧SqB b2 K H1 a2 ys∧xs.length≤ys.length∧xs.length≤10000 ∧
 ∀ l ts H2,Same H1 H2→H1 l=none→H2 l=none→Zip2 H2 ts xs ys→Q (.ref l) (upd H2 l (.lst ts))
theorem zbZ {X:Cx}{a b:Expr}{ta:TA}{p p2 pos pos2:Pos}(b1 b2:Bool) (hg:Gl X "list") (hm:X.mg "list" = none) (hg2:Gl X "zip") (hm2:X.mg "zip" = none) (hc:X.calm=true) (ha:PA X [a,b] ta)
  (he:starEach [Expr.Call (.Name "zip" p2) [a,b] [] pos2] X.env=[(false,eval (Expr.Call (.Name "zip" p2) [a,b] [] pos2) X.env)]:=by rfl)
  (hs:starEach [a,b] X.env=[(false,eval a X.env),(false,eval b X.env)]:=by rfl) (hs2:starEach [b] X.env=[(false,eval b X.env)]:=by rfl) :
  PE X (.Call (.Name "list" p) [.Call (.Name "zip" p2) [a,b] [] pos2] [] pos) (ziz X.K b1 b2 ta):=by
 intro pins s σ H Q I h
 refine wpAny_Call_Name_kw (zaR I hg hm (u:=.type "list") (by rfl) (PyProof.Rows.callWith_type1 ?_ he rfl))
 rw[he]
 refine Calls.spliced_cons ?_
 refine Call_ (zaR I hg2 hm2 (u:=.type "zip") (by rfl) (PyProof.Rows.callWith_type1 (thn (ha pos2 pins s σ H _ I h) fun us s1 ⟨vs,H1,I1,r1,q1⟩=>?_) (by rw[hs,hs2]) (by rw[hs2];rfl)))
 obtain⟨a1,a2,xs,ys,rfl,hq1,hq2,hl,hz,q⟩:=q1
 obtain⟨u,v,rfl,ru,rv⟩:=r1.two
 cases ru
 cases rv
 obtain⟨its,rx,pl1⟩:=I1.sq hq1
 obtain⟨jts,ry,pl2⟩:=I1.sq hq2
 have lx:=rx.length
 have ly:=ry.length
 refine callType_new F.called_zip (by decide) (F.typeCall_zip_2 _ _) (F.newCall_zip_2 _ _) (fun obj=>F.args_object_init_3 obj _ _) F.entry_zip_new (zds b1 b2 a1 a2 its.toArray jts.toArray) ⟨pl1,pl2,fun h' z ⟨TI,TO,i1,i2,nd,far,hzz,hI,hO,h1,h2⟩ hk=>⟨⟨_,hzz,rfl⟩,?_⟩⟩
 refine Calls.spliced_nil ?_
 have I2:Inv X pins σ H1 { s1 with heap:=h',toks:=s1.toks }:=I1.kept hk
 have fp:∀ c∈[z,TI,TO,i1,i2],FpOk X pins H1 c:=fun c hc=>I1.fpOk (far c hc) (I1.hok.fresh (far c hc))
 have na1:∀ c∈[z,TI,TO,i1,i2],c≠a1:=fun c hm=>I1.sq_ne hq1 (fp c hm)
 have na2:∀ c∈[z,TI,TO,i1,i2],c≠a2:=fun c hm=>I1.sq_ne hq2 (fp c hm)
 have nd':=nd
 simp only[List.nodup_cons,List.mem_cons,List.not_mem_nil,or_false,not_or]at nd'
 obtain⟨⟨zI,zO,z1,z2⟩,⟨IO,iI1,iI2⟩,⟨O1,O2⟩,n12,_⟩:=nd'
 have S:Sep z TI TO i1 i2 [i1,a1] [i2,a2]:=⟨nd,by simp[z1,na1 z (by simp)],by simp[O1,na1 TO (by simp)],by simp[Ne.symm n12,na1 i2 (by simp)],by simp[z2,na2 z (by simp)],by simp[O2,na2 TO (by simp)],by simp[n12,na2 i1 (by simp)]⟩
 have hd:=I1.ok.hd hc
 have q1':SqO b1 h' a1 its.toArray:=pl1.mv fun o e=>hk _ _ e
 have q2':SqO b2 h' a2 jts.toArray:=pl2.mv fun o e=>hk _ _ e
 have D1:=zc0 (prog:=X.prog) (w:=X.w) (A:=X.A.in1.in1.in1) hd b1 i1 a1 its.toArray (q1'.ne h1)
 have D2:=zc0 (prog:=X.prog) (w:=X.w) (A:=X.A.in1.in1.in1) hd b2 i2 a2 jts.toArray (q2'.ne h2)
 have low:∀ c∈[i1,a1]++[i2,a2],c<h'.objs.size:=fun c hc=>by
  obtain⟨o1,n1,e1,_⟩:=q1'.ob
  obtain⟨o2,n2,e2,_⟩:=q2'.ob
  simp only[List.cons_append,List.nil_append,List.mem_cons,List.not_mem_nil,or_false]at hc
  rcases hc with rfl|rfl|rfl|rfl
  ·exact Heap.lt_size h1
  ·exact Heap.lt_size e1
  ·exact Heap.lt_size h2
  ·exact Heap.lt_size e2
 have fpL:FpOk X pins H1 h'.objs.size:=I2.fpOk (Nat.le_refl _) (I2.hok.fresh (Nat.le_refl _))
 refine zh0 (J:=fun acc s'=>∃ (ts:List Addr) (Hk:Hp),Inv X pins σ Hk s'∧Same H1 Hk∧acc.toList=ts.map Value.ref∧(∀ (i:Nat) t,ts[i]?=some t→∃ x y,xs[i]?=some x∧ys[i]?=some y∧Hk t=some (.tup [x,y]))∧(∀ c∈[z,TO,i1,i2,h'.objs.size],FpOk X pins Hk c)) S D1 D2 (by rw[List.size_toArray,List.size_toArray];lia) hzz hI hO ⟨h1,q1'⟩ ⟨h2,q2'⟩ low ?_ ?_ ?_ ?_ ?_
 ·rw[List.size_toArray];exact Nat.le_trans (show _≤10000 by lia) (by decide)
 ·rintro acc s' h2' tk x y ⟨ts,Hk,Ik,sm,ea,ht,fk⟩ lt px py new kk
  have il:acc.size<xs.length:=by
   have b:acc.size<its.toArray.size:=(Array.getElem?_eq_some_iff.mp px).1
   have b2:its.toArray.size=its.length:=List.size_toArray ..
   lia
  obtain⟨u,e1,r1⟩:=rx.get (List.getElem?_eq_getElem il)
  obtain⟨v,e2,r2⟩:=ry.get (List.getElem?_eq_getElem (show acc.size<ys.length by lia))
  have px':its[acc.size]?=some x:=by simpa using px
  have py':jts[acc.size]?=some y:=by simpa using py
  rw[px']at e1;obtain rfl:=Option.some.inj e1
  rw[py']at e2;obtain rfl:=Option.some.inj e2
  have nT:∀ c∈[z,TO,i1,i2,h'.objs.size],c≠s'.heap.objs.size:=fun c hc=>by
   simp only[List.mem_cons,List.not_mem_nil,or_false]at hc
   rcases hc with rfl|rfl|rfl|rfl|rfl
   ·exact Nat.ne_of_lt (Nat.lt_trans (Heap.lt_size hzz) lt)
   ·exact Nat.ne_of_lt (Nat.lt_trans (Heap.lt_size hO) lt)
   ·exact Nat.ne_of_lt (Nat.lt_trans (Heap.lt_size h1) lt)
   ·exact Nat.ne_of_lt (Nat.lt_trans (Heap.lt_size h2) lt)
   ·exact Nat.ne_of_lt lt
  have fk4:∀ c∈[z,TO,i1,i2],FpOk X pins Hk c:=fun c hc=>fk c (by simp only[List.mem_cons,List.not_mem_nil,or_false]at hc ⊢;rcases hc with m|m|m|m<;>simp[m])
  have fr:Hk s'.heap.objs.size=none:=Ik.fresh
  have al:acc.size=ts.length:=by rw[← Array.length_toList,ea,List.length_map]
  refine⟨ts++[s'.heap.objs.size],_,Ik.spunN (fp:=[z,TO,i1,i2]) kk fk4 (Nat.le_refl _) (zdK new r1 r2),sm.trans (zaa fr _),by rw[Array.toList_push,ea,List.map_append];rfl,fun i t hi=>?_,fun c hc=>⟨by rw[zag (nT c hc)];exact(fk c hc).1,(fk c hc).2⟩⟩
  by_cases q:i<ts.length
  ·rw[List.getElem?_append_left q]at hi
   obtain⟨x',y',a1',a2',a3'⟩:=ht i t hi
   exact⟨x',y',a1',a2',zaa fr _ _ _ a3'⟩
  ·have il2:=(List.getElem?_eq_some_iff.mp hi).1
   rw[List.length_append]at il2
   have il3:i=ts.length:=by simp at il2;lia
   subst il3
   rw[List.getElem?_append_right (Nat.le_refl _),Nat.sub_self]at hi
   obtain rfl:s'.heap.objs.size=t:=by simpa using hi
   rw[← al]
   exact⟨_,_,List.getElem?_eq_getElem il,List.getElem?_eq_getElem (show acc.size<ys.length by lia),zac⟩
 ·rintro acc s' h2' tk ⟨ts,Hk,Ik,sm,ea,ht,fk⟩ kk
  exact⟨ts,Hk,Ik.spun (fp:=[z,TO,i1,i2,h'.objs.size]) kk fk,sm,ea,ht,fk⟩
 ·refine⟨[],H1,I2,Same.refl _,rfl,fun i t hi=>by simp at hi,fun c hc=>?_⟩
  simp only[List.mem_cons,List.not_mem_nil,or_false]at hc
  rcases hc with rfl|rfl|rfl|rfl|rfl
  ·exact fp _ (by simp)
  ·exact fp _ (by simp)
  ·exact fp _ (by simp)
  ·exact fp _ (by simp)
  ·exact fpL
 ·rintro h2' tk acc c' an ⟨ts,Hk,Ik,sm,ea,ht,fk⟩ K a3
  have fL:=fk h'.objs.size (by simp)
  have tl:ts.length=xs.length:=by
   have:acc.size=ts.length:=by rw[← Array.length_toList,ea,List.length_map]
   have b2:its.toArray.size=its.length:=List.size_toArray ..
   lia
  have vals:∀ l:List Addr,Vals (l.map V.ref) (l.map Value.ref):=fun l=>by
   induction l with
   | nil=>exact .nil
   | cons x l ih=>exact .cons rfl ih
  have new:ObjOk X.prog X.w (upd Hk h'.objs.size (.lst (ts.map V.ref))) h2' h'.objs.size (.lst (ts.map V.ref)):=⟨by rw[List.length_map,tl];exact Nat.le_trans hz (by decide),ts.map Value.ref,c',vals ts,by rw[a3,← ea]⟩
  refine⟨.ref _,_,Ik.adopt fL new,rfl,q h'.objs.size (ts.map V.ref) Hk sm fpL.1 fL.1 ⟨by rw[List.length_map];exact tl,fun i t hi=>?_⟩⟩
  rw[List.getElem?_map]at hi
  obtain⟨t',et,rfl⟩:=Option.map_eq_some_iff.mp hi
  obtain⟨x,y,e1,e2,e3⟩:=ht i t' et
  exact⟨t',x,y,rfl,e1,e2,e3⟩
end L2
namespace L2
open PySem PySem.Spec PyProof.Rows Own
section
variable {prog:Program}{w:World}{A:Around}{E:Value→Shared→Prop}{s:Shared}
end
section
variable {X:Cx}
end
section
variable {X:Cx}
end
section
variable {X:Cx}{tg:Expr}
end
end L2
namespace Bn
open PySem L2 Own
def pw (e:Nat):Int:=((2 ^ e:Nat):Int)
def zaz:Nat→List Nat→List Fk
 | 0,_=>[]
 | m+1,row=>if row.length<2 then [] else (row.take (row.length / 2)).zip row.reverse++zaz m (row.take (row.length / 2))++zaz m (row.drop (row.length / 2))
def zbn (k:Nat):Nt:=⟨2 ^ k,(List.replicate k (zaz k (List.range (2 ^ k)))).flatten,List.range (2 ^ k)⟩
def rowF (size b:Nat):List Fk:=(List.range (size / 2)).map fun i=>(b*size+i,b*size+size-1-i)
def zjY (k j:Nat):List Fk:=(List.range (2 ^ j)).flatMap (rowF (2 ^ (k-j)))
def zkd (k:Nat):List Fk:=(List.range k).flatMap (zjY k)
def dueN (k:Nat):Nt:=⟨2 ^ k,(List.replicate k (zkd k)).flatten,List.range (2 ^ k)⟩
theorem zfz:∀ k,k<5→(zbn k).forks.length≤128∧∀ f∈(zbn k).forks,f.1<2 ^ k∧f.2<2 ^ k∧f.1≠f.2:=by decide +kernel
theorem zd9 {k:Nat}(h:k<5):(zbn k).Ok:=by
 obtain⟨a,b⟩:=zfz k h
 refine⟨Nat.one_le_two_pow,?_,a,b,.refl _⟩
 show 2 ^ k≤2 ^ 4
 exact Nat.pow_le_pow_right (show 0<2 by decide) (show k≤4 by lia)
theorem zea:∀ k,k<5→zbj (zbn k)=(dueN k).forks:=by decide +kernel
theorem zc8 {k:Nat}(h:k<5):zal (zbn k)=dueN k:=by
 unfold zal
 rw[zea k h];rfl
theorem zaP:∀ (m:Nat) (row:List Nat),(zaz m row).length≤m*row.length
 | 0,_=>Nat.zero_le _
 | m+1,row=>by
  unfold zaz
  split
  ·exact Nat.zero_le _
  ·rw[List.length_append,List.length_append,List.length_zip,List.length_take]
   have a:=zaP m (row.take (row.length / 2))
   have b:=zaP m (row.drop (row.length / 2))
   rw[List.length_take]at a
   rw[List.length_drop]at b
   have c:m*min (row.length / 2) row.length+m*(row.length-row.length / 2)=m*row.length:=by
    rw[← Nat.mul_add];congr 1;lia
   rw[Nat.succ_mul]
   lia
theorem zdI {H:Hp}{ts:List V}{a b:List Nat}(z:Zip2 H ts (nums a) (nums b)) (hl:a.length≤b.length):Prs H ts (a.zip b):=by
 have tl:=z.1
 rw[zae]at tl
 have all:∀ (i:Nat) t,ts[i]?=some t→IsFk H t ((a.zip b).getD i (0,0)):=fun i t ht=>by
  obtain⟨c,x,y,rfl,hx,hy,hc⟩:=z.2 i t ht
  unfold nums at hx hy
  rw[List.getElem?_map]at hx hy
  obtain⟨x',ex,rfl⟩:=Option.map_eq_some_iff.mp hx
  obtain⟨y',ey,rfl⟩:=Option.map_eq_some_iff.mp hy
  have both:(a.zip b)[i]?=some (x',y'):=List.getElem?_zip_eq_some.mpr ⟨ex,ey⟩
  rw[List.getD_eq_getElem?_getD,both]
  exact⟨c,rfl,hc⟩
 have mp:ts.map (decF H)=a.zip b:=by
  refine List.ext_getElem? fun i=>?_
  rw[List.getElem?_map]
  cases e:ts[i]? with
  | none =>
   have il:=List.getElem?_eq_none_iff.mp e
   exact(List.getElem?_eq_none_iff.mpr (by rw[List.length_zip];lia)).symm
  | some t =>
   have il:=(List.getElem?_eq_some_iff.mp e).1
   rw[Option.map_some,(all i t e).dec,List.getD_eq_getElem?_getD,List.getElem?_eq_getElem (by rw[List.length_zip];lia)];rfl
 rw[← mp]
 refine zie fun x hx=>?_
 obtain⟨i,hi⟩:=List.mem_iff_getElem?.mp hx
 rw[(all i x hi).dec]
 exact all i x hi
end Bn
namespace L2
open PySem PySem.Spec PyProof.Rows Own
theorem zjg {K:PySem.W.Frag}{b1 b2:Bool}{a1 a2:Addr}{xs ys:List V}(hxy:xs.length=ys.length) {g g1:TG}{wi1:TI}{tt:TT}{te:TE}{l:Addr}{σ:St}{H:Hp}{Q:VK}(Pv:Nat→List V→St→Hp→Prop) (h0:Pv 0 [] σ H)
  (hl:∀ i acc σ H,Pv i acc σ H→H l=some (.lst acc)∧SqB b1 K H a1 xs∧SqB b2 K H a2 ys)
  (hs:∀ i acc σ H x y T,xs[i]?=some x→ys[i]?=some y→H T=none→Pv i acc σ H→g (.ref T) σ (upd H T (.tup [x,y])) fun σ3 H3=>wi1 σ3 H3 fun J1 H4 =>
   ∃ W1:Nat→Nat→List V→St→Hp→Prop,(∃ m1,W1 0 m1 acc σ3 H4)∧LCW1 J1 g1 tt te l (fun ac τ G=>Nx xs.length i (Pv (i+1) ac τ G)) W1)
  (hd:∀ acc σ H,Pv xs.length acc σ H→Q (.ref l) H):∃ W:Nat→Nat→List V→St→Hp→Prop,(∃ m,W 0 m [] σ H) ∧
   ∀ i m acc σ' H',W i m acc σ' H'→H' l=some (.lst acc)∧(((Itz K b1 b2 a1 a2).stop i H'∧Q (.ref l) H')∨((Itz K b1 b2 a1 a2).go i H'∧∀ x H2,(Itz K b1 b2 a1 a2).yld i H' x H2→g x σ' H2 fun σ3 H3=>wi1 σ3 H3 fun J1 H4 =>
    ∃ W1:Nat→Nat→List V→St→Hp→Prop,(∃ m1,W1 0 m1 acc σ3 H4)∧LCW1 J1 g1 tt te l (fun ac τ G=>∃ m',m'<m∧W (i+1) m' ac τ G) W1)):=by
 refine⟨fun i m acc σ H=>m=xs.length-i∧i≤xs.length∧Pv i acc σ H,⟨xs.length,by simp,Nat.zero_le _,h0⟩,?_⟩
 rintro i m acc σ H ⟨rfl,hi,p⟩
 obtain⟨q0,q1,q2⟩:=hl i acc σ H p
 refine⟨q0,?_⟩
 by_cases hlt:i<xs.length
 ·refine .inr ⟨⟨xs,ys,_,_,q1,q2,List.getElem?_eq_getElem hlt,List.getElem?_eq_getElem (by lia)⟩,fun v H2 ⟨x,y,ex,ey,T,hT,e1,e2⟩=>?_⟩
  subst e1 e2
  exact hs i acc σ H x y T (ex xs q1) (ey ys q2) hT p
 ·have e:i=xs.length:=by lia
  subst e
  exact .inl ⟨⟨xs,q1,rfl⟩,hd acc σ H p⟩
theorem zjh {K:PySem.W.Frag}{a:Addr}{zs:List V}{g:TG}{te:TE}{l:Addr}{ac:List V}{σ:St}{H:Hp}{Q:List V→St→Hp→Prop}(Pv:Nat→List V→St→Hp→Prop) (h0:Pv 0 ac σ H) (hl:∀ i acc σ H,Pv i acc σ H→H l=some (.lst acc)∧SqT K H a zs)
  (hs:∀ i x acc σ H,zs[i]?=some x→Pv i acc σ H→g x σ H fun σ3 H3=>te σ3 H3 fun y H5=>H5 l=some (.lst acc)∧acc.length<sizeLine∧Nx zs.length i (Pv (i+1) (acc++[y]) σ3 (upd H5 l (.lst (acc++[y])))))
  (hd:∀ acc σ H,Pv zs.length acc σ H→Q acc σ H):∃ W:Nat→Nat→List V→St→Hp→Prop,(∃ m,W 0 m ac σ H)∧LCW1 (Itt K a) g tYes te l Q W:=by
 refine⟨fun i m acc σ H=>m=zs.length-i∧i≤zs.length∧Pv i acc σ H,⟨_,rfl,Nat.zero_le _,h0⟩,?_⟩
 rintro i m acc σ H ⟨rfl,hi,p⟩
 obtain⟨q0,q1⟩:=hl i acc σ H p
 refine⟨q0,?_⟩
 by_cases hlt:i<zs.length
 ·refine .inr ⟨⟨zs,zs[i],q1,List.getElem?_eq_getElem hlt⟩,fun x H2 ⟨e,y⟩=>?_⟩
  subst e
  exact hs i x acc σ _ (y zs q1) p
 ·obtain rfl:i=zs.length:=by lia
  exact .inl ⟨⟨zs,q1,Nat.le_refl _⟩,hd acc σ H p⟩
def zaC {α:Type}(xs ys:List α):List α:=(xs.zip ys).flatMap fun p=>[p.1,p.2]
theorem zbv {α:Type}:∀ (xs ys:List α),xs.length=ys.length→(zaC xs ys).length=2*xs.length
 | [],[],_=>rfl
 | x::xs,y::ys,h=>by
  have h':xs.length=ys.length:=by simpa using h
  have:=zbv xs ys h'
  show (zaC xs ys).length+2=2*(xs.length+1)
  rw[this];lia
theorem zc4 {α β:Type}(f:α→β) (xs ys:List α):zaC (xs.map f) (ys.map f)=(zaC xs ys).map f:=by
 induction xs generalizing ys with
 | nil=>rfl
 | cons x xs ih =>
  cases ys with
  | nil=>rfl
  | cons y ys =>
   show f x::f y::zaC (xs.map f) (ys.map f)=f x::f y::(zaC xs ys).map f
   rw[ih ys]
theorem zb4 {α β:Type}{f g:α→Option β}:∀ (l:List α),(∀ x∈l,f x=g x)→l.filterMap f=l.filterMap g
 | [],_=>rfl
 | x::l,h=>by
  have e:=zb4 l fun y hy=>h y (List.mem_cons_of_mem _ hy)
  simp only[List.filterMap_cons,h x List.mem_cons_self,e]
def by2 {α:Type}(off:Nat) (xs:List α):List α:=(List.range ((xs.length+1-off) / 2)).filterMap fun k=>xs[off+2*k]?
theorem ze2 {α:Type}(off:Nat) (ho:off≤1) (xs:List α):(by2 off xs).length=(xs.length+1-off) / 2:=by
 unfold by2
 have e:(List.range ((xs.length+1-off) / 2)).filterMap (fun k=>xs[off+2*k]?)=(List.range ((xs.length+1-off) / 2)).pmap (fun k (h:k<(xs.length+1-off) / 2)=>xs[off+2*k]'(by lia)) (fun k h=>List.mem_range.mp h):=by
  rw[List.pmap_eq_map_attach,← List.filterMap_eq_map]
  conv=>lhs;rw[← List.attach_map_subtype_val (List.range ((xs.length+1-off) / 2)),List.filterMap_map]
  refine zb4 _ fun k hk=>?_
  have:=List.mem_range.mp k.2
  show xs[off+2*k.1]?=some _
  rw[List.getElem?_eq_getElem (by lia)]
 rw[e,List.length_pmap,List.length_range]
theorem zcY {α β:Type}(f:α→β) (off:Nat) (xs:List α):by2 off (xs.map f)=(by2 off xs).map f:=by
 unfold by2
 rw[List.length_map,List.map_filterMap]
 refine zb4 _ fun k _=>?_
 rw[List.getElem?_map]
theorem zf0 {xs:List V}{us:List Value}(r:Vals xs us) (ix:List Nat):Vals (ix.filterMap fun k=>xs[k]?) (ix.filterMap fun k=>us[k]?):=by
 induction ix with
 | nil=>exact .nil
 | cons i ix ih =>
  cases e:xs[i]? with
  | none =>
   have e2:us[i]?=none:=List.getElem?_eq_none_iff.mpr (by rw[← r.length];exact List.getElem?_eq_none_iff.mp e)
   rw[List.filterMap_cons_none e,List.filterMap_cons_none e2];exact ih
  | some x =>
   obtain⟨u,e2,ru⟩:=r.get e
   rw[List.filterMap_cons_some e,List.filterMap_cons_some e2];exact .cons ru ih
theorem zhH (items:Array Value):slicePick items none none (some 2)=((List.range ((items.size+1) / 2)).filterMap fun k=>items.toList[2*k]?).toArray:=by
 have b:sliceBounds none none (some 2) items.size=(0,(items.size:Int),2):=rfl
 have c:sliceRange 0 (items.size:Int) 2=(List.range ((items.size+1) / 2)).map fun k=>2*k:=by
  unfold sliceRange
  have h2:(2:Int) > 0:=by decide
  by_cases h:(0:Int)<items.size
  ·have e:(((items.size:Int)-0+2-1) / 2).toNat=(items.size+1) / 2:=by lia
   simp only[h2,if_true,h,e]
   apply List.map_congr_left;intro k _;lia
  ·have e:items.size=0:=by lia
   rw[e];rfl
 unfold slicePick
 rw[b]
 show ((sliceRange 0 (items.size:Int) 2).filterMap (items[·]?)).toArray=_
 rw[c,List.filterMap_map]
 refine congrArg List.toArray (zb4 _ fun k _=>?_)
 simp
theorem zgC (items:Array Value):slicePick items (some 1) none (some 2)=((List.range (items.size / 2)).filterMap fun k=>items.toList[1+2*k]?).toArray:=by
 have b:sliceBounds (some 1) none (some 2) items.size=(max 0 (min 1 (items.size:Int)),(items.size:Int),2):=rfl
 have c:sliceRange (max 0 (min 1 (items.size:Int))) (items.size:Int) 2=(List.range (items.size / 2)).map fun k=>1+2*k:=by
  unfold sliceRange
  have h2:(2:Int) > 0:=by decide
  by_cases h:(1:Int)<items.size
  ·have m:max 0 (min 1 (items.size:Int))=1:=by lia
   rw[m]
   have e:(((items.size:Int)-1+2-1) / 2).toNat=items.size / 2:=by lia
   simp only[h2,if_true,h,e]
   apply List.map_congr_left;intro k _;lia
  ·have e:items.size=0∨items.size=1:=by lia
   rcases e with e|e<;>rw[e]<;>rfl
 unfold slicePick
 rw[b]
 show ((sliceRange (max 0 (min 1 (items.size:Int))) (items.size:Int) 2).filterMap (items[·]?)).toArray=_
 rw[c,List.filterMap_map]
 refine congrArg List.toArray (zb4 _ fun k _=>?_)
 simp
def tBy2 (K:PySem.W.Frag) (te:TE) (tl ts:TO):TE:=fun σ H Q=>te σ H fun x H1=>tl σ H1 fun lo H2=>ts σ H2 fun o H3=>o=some 2∧∃ off a xs,((lo=none∧off=0)∨(lo=some 1∧off=1))∧x=.ref a∧SqL K H3 a xs∧∀ p,H3 p=none→Q (.ref p) (upd H3 p (.lst (by2 off xs)))
theorem zcp {X:Cx}{e st:Expr}{lo:Option Expr}{te:TE}{tl ts:TO}{p2 pos:Pos}(he:PE X e te) (hl:PO X lo tl) (hs:PO X (some st) ts):PE X (.Subscript e (.Slice lo none (some st) p2) pos) (tBy2 X.K te tl ts):=by
 intro pins s σ H Q I h
 refine Subscript_ (thn (he pins s σ H _ I h) fun v s1 ⟨x,H1,I1,r1,q1⟩=>wpAny_Slice (thn (hl pins s1 σ H1 _ I1 q1) fun vl s0 ⟨ol,H0,I0,pl,q0⟩=>?_))
 rw[evalPart_none]
 refine wpAny_pure (thn (hs pins s0 σ H0 _ I0 q0) fun vst s2 ⟨o,H2,I2,po,q2⟩=>?_)
 obtain⟨rfl,off,a,xs,hoff,rfl,hq,k⟩:=q2
 cases r1
 have I3:Inv X pins σ H2 { s2 with heap:=s2.heap.push { cls:=.type "slice",data:=.fields #[vl,.none,vst] } }:=I2.kept (t':=s2.toks) fun b ob q=>Heap.get?_push_of_some _ q
 obtain⟨its,r,ht,hz⟩:=I3.list hq
 have hlen:=r.length
 show wpAny (model X.prog X.w) X.A (subscriptTail e (.Slice lo none (some st) p2) (.ref a) (.ref s2.heap.objs.size)) (EP X pins σ Q) X.xe { s2 with heap:=s2.heap.push { cls:=.type "slice",data:=.fields #[vl,.none,vst] } }
 refine tail_any (ops:=[.ref a,.ref s2.heap.objs.size]) ht.isList.typeIs slot_list_getitem.lookup (wpAny_getItem_list_slice ht.isList (Heap.IsSliceOf.new ..) pl .none po (by simp) ?_ (by rw[List.size_toArray]<;>lia)) (by with_unfolding_all rfl)
 have pk:slicePick its.toArray ol none (some 2)=((List.range ((its.length+1-off) / 2)).filterMap fun k=>its[off+2*k]?).toArray:=by
  rcases hoff with ⟨rfl,rfl⟩|⟨rfl,rfl⟩
  ·rw[zhH];simp only[List.size_toArray,Nat.sub_zero,Nat.zero_add]
  ·rw[zgC];simp only[List.size_toArray,Nat.add_sub_cancel]
 rw[pk]
 have ho1:off≤1:=by rcases hoff with ⟨_,rfl⟩|⟨_,rfl⟩<;>decide
 have vv:Vals (by2 off xs) ((List.range ((its.length+1-off) / 2)).filterMap fun k=>its[off+2*k]?):=by
  have:=zf0 r ((List.range ((its.length+1-off) / 2)).map fun k=>off+2*k)
  rw[List.filterMap_map,List.filterMap_map]at this
  unfold by2
  rw[hlen];exact this
 refine⟨.ref _,_,I3.laid (t':=s2.toks) (o:=.lst (by2 off xs)) (fun b ob q=>Heap.get?_push_of_some _ q) (Nat.le_refl _) ⟨by rw[ze2 off ho1];lia,_,0,vv,?_⟩,rfl,k _ (I3.hok.fresh (Nat.le_refl _))⟩
 exact Heap.get?_push_size _ rfl
theorem FnOk.any {P:Program}{w:World}{K:PySem.W.Frag}{mg:Str→Option Value}{base:Heap}{CX:CXT}{k:Nat}{f:Addr}{fd:FuncData}{ps:List Str}{sp:Nat→Sp}(M:Nat) (F:∀ m,m≤M→FnOk P w K mg base CX k f fd ps (sp m)) :
  FnOk P w K mg base CX k f fd ps (fun vs H Q E=>∃ m,m≤M∧sp m vs H Q E) :=
 ⟨fun vs H Q E ⟨m,hm,q⟩=>(F m hm).len vs H Q E q,fun A outer s H args us vs Q E hr he hb hv ⟨m,hm,q⟩=>(F m hm).run A outer s H args us vs Q E hr he hb hv q⟩
end L2
namespace Bn
open PySem L2 Own
def zas:Nat→List Nat→List Nat→List Fk × List Nat
 | 0,a,b=>(a.zip b,a++b)
 | m+1,a,b=>((zas m (by2 0 a) (by2 1 b)).1++(zas m (by2 1 a) (by2 0 b)).1++(zas m (by2 0 a) (by2 1 b)).2.zip (zas m (by2 1 a) (by2 0 b)).2,zaC (zas m (by2 0 a) (by2 1 b)).2 (zas m (by2 1 a) (by2 0 b)).2)
def zaZ:Nat→List Nat→List Fk × List Nat
 | 0,row=>([],row)
 | m+1,row=>((zaZ m (row.take (row.length / 2))).1++(zaZ m (row.drop (row.length / 2))).1++(zas m (zaZ m (row.take (row.length / 2))).2 (zaZ m (row.drop (row.length / 2))).2).1,(zas m (zaZ m (row.take (row.length / 2))).2 (zaZ m (row.drop (row.length / 2))).2).2)
theorem zbL {m n:Nat}(h:n=2 ^ (m+1)):n / 2=2 ^ m∧n-n / 2=2 ^ m∧n / 2≤n:=by
 rw[Nat.pow_succ]at h;lia
theorem zdT {m:Nat}{row:List Nat}(h:row.length=2 ^ (m+1)):(row.take (row.length / 2)).length=2 ^ m∧(row.drop (row.length / 2)).length=2 ^ m:=by
 obtain⟨a,b,c⟩:=zbL h
 rw[List.length_take,List.length_drop]
 exact⟨by rw[Nat.min_eq_left c];exact a,b⟩
theorem zbC {α:Type}{m:Nat}{a:List α}(h:a.length=2 ^ (m+1)):(by2 0 a).length=2 ^ m∧(by2 1 a).length=2 ^ m:=by
 rw[ze2 0 (by decide),ze2 1 (by decide),h,Nat.pow_succ]
 lia
theorem zaA:∀ (m:Nat) (a b:List Nat),a.length=2 ^ m→b.length=2 ^ m→(zas m a b).2.length=2 ^ (m+1)∧(zas m a b).1.length=(m+1)*2 ^ m
 | 0,a,b,ha,hb=>by
  show (a++b).length=_∧(a.zip b).length=_
  rw[List.length_append,List.length_zip,ha,hb];exact⟨rfl,rfl⟩
 | m+1,a,b,ha,hb=>by
  obtain⟨a0,a1⟩:=zbC ha
  obtain⟨b0,b1⟩:=zbC hb
  obtain⟨x1,x2⟩:=zaA m _ _ a0 b1
  obtain⟨y1,y2⟩:=zaA m _ _ a1 b0
  show (zaC _ _).length=_∧(_++_++List.zip _ _).length=_
  rw[zbv _ _ (x1.trans y1.symm),List.length_append,List.length_append,List.length_zip,x1,y1,x2,y2,Nat.min_self]
  have e:(m+1)*2 ^ m+(m+1)*2 ^ m=(m+1)*2 ^ (m+1):=by rw[← Nat.two_mul,Nat.pow_succ,Nat.mul_left_comm,Nat.mul_comm 2 (2 ^ m)]
  refine⟨by rw[Nat.pow_succ 2 (m+1),Nat.mul_comm],?_⟩
  rw[e,← Nat.succ_mul]
def zc5:Nat→Nat
 | 0=>0
 | m+1=>zc5 m+zc5 m+(m+1)*2 ^ m
theorem za0:∀ m,m≤10→zc5 m≤100000∧(m+1)*2 ^ m≤20000:=by decide +kernel
theorem za8:∀ (m:Nat) (row:List Nat),row.length=2 ^ m→(zaZ m row).2.length=2 ^ m∧(zaZ m row).1.length=zc5 m
 | 0,row,h=>⟨h,rfl⟩
 | m+1,row,h=>by
  obtain⟨a,b⟩:=zdT h
  obtain⟨x1,x2⟩:=za8 m _ a
  obtain⟨y1,y2⟩:=za8 m _ b
  obtain⟨z1,z2⟩:=zaA m _ _ x1 y1
  refine⟨z1,?_⟩
  show (List.append (List.append _ _) _).length=zc5 m+zc5 m+(m+1)*2 ^ m
  rw[List.append_eq,List.append_eq,List.length_append,List.length_append,z2,x2,y2]
def zck (k:Nat):Nt:=⟨2 ^ k,(zaZ k (List.range (2 ^ k))).1,(zaZ k (List.range (2 ^ k))).2⟩
def zaG (m:Nat):Nt:=⟨2 ^ (m+1),(zas m ((List.range (2 ^ (m+1))).take (2 ^ m)) ((List.range (2 ^ (m+1))).drop (2 ^ m))).1,(zas m ((List.range (2 ^ (m+1))).take (2 ^ m)) ((List.range (2 ^ (m+1))).drop (2 ^ m))).2⟩
theorem zgb:∀ k,k<5→(zck k).forks.length≤128∧(∀ f∈(zck k).forks,f.1<2 ^ k∧f.2<2 ^ k∧f.1≠f.2)∧(zck k).ends.Perm (List.range (2 ^ k)):=by decide +kernel
theorem zgT:∀ m,m<4→(zaG m).forks.length≤128∧(∀ f∈(zaG m).forks,f.1<2 ^ (m+1)∧f.2<2 ^ (m+1)∧f.1≠f.2)∧(zaG m).ends.Perm (List.range (2 ^ (m+1))):=by decide +kernel
theorem zb2 {k:Nat}(h:k<5):1≤2 ^ k∧2 ^ k≤16:=⟨Nat.one_le_two_pow,Nat.pow_le_pow_right (show 0<2 by decide) (show k≤4 by lia)⟩
theorem ze5 {k:Nat}(h:k<5):(zck k).Ok:=let ⟨a,b,c⟩:=zgb k h;⟨(zb2 h).1,(zb2 h).2,a,b,c⟩
theorem zb0 {m:Nat}(h:m<4):(zaG m).Ok:=let ⟨a,b,c⟩:=zgT m h;⟨(zb2 (k:=m+1) (by lia)).1,(zb2 (k:=m+1) (by lia)).2,a,b,c⟩
def Deep (K:PySem.W.Frag) (H:Hp):Nat→V→Prop
 | 0,x=>AnyT K H x
 | n+1,x=>AnyT K H x∧∀ xs,zjH H x=some xs→xs.length≤1000∧∀ y∈xs,Deep K H n y
end Bn
namespace L2
open PySem PySem.Spec PyProof.Rows Own
end L2
namespace Bn
open PySem L2 Own
end Bn
namespace L2
open PySem PySem.Spec PyProof.Rows Own
def zkm:V→List V→Hp→VK→Prop:=fun x vs H Q=>∃ i,x=.int i∧vs=[]∧Q (.int (Builtin.Int.intBits i:Nat)) H
theorem zi7 {X:Cx}:MtR X "int.bit_length" zkm:=by
 intro pins s σ H x vs v us Q I rx rv h
 obtain⟨i,rfl,rfl,q⟩:=h
 cases rv
 obtain⟨t,rfl⟩:=rx
 exact call_gives F.slot_int_bit_length (typeIs_int _ _ _) F.entry_int_bit_length (F.args_int_bit_length_1 _) (AutoIntG2.int_bit_length_int_0 i t) ⟨.int (Builtin.Int.intBits i:Nat),H,I.kept (t':=s.toks+1) (fun _ _ e=>e),⟨_,rfl⟩,q⟩
end L2
namespace Bn
open PySem L2 Own
theorem zcM (f:Nat→Nat):∀ (m:Nat) (a b:List Nat),zas m (a.map f) (b.map f)=((zas m a b).1.map (fun p=>(f p.1,f p.2)),(zas m a b).2.map f)
 | 0,a,b=>by
  show ((a.map f).zip (b.map f),a.map f++b.map f)=((a.zip b).map _,(a++b).map f)
  rw[List.map_append,List.zip_map];rfl
 | m+1,a,b=>by
  have e1:=zcM f m (by2 0 a) (by2 1 b)
  have e2:=zcM f m (by2 1 a) (by2 0 b)
  unfold zas
  rw[zcY,zcY,zcY,zcY,e1,e2]
  show (List.map _ _++List.map _ _++List.zip (List.map f _) (List.map f _),zaC (List.map f _) (List.map f _))=_
  rw[zc4,List.zip_map,List.map_append,List.map_append];rfl
theorem zeK (es:List Nat):(List.range es.length).map (nmq es)=es:=by
 refine List.ext_getElem (by rw[List.length_map,List.length_range]) fun i h1 h2=>?_
 rw[List.getElem_map,List.getElem_range]
 unfold nmq
 rw[List.getD_eq_getElem?_getD,List.getElem?_eq_getElem h2];rfl
def zaK (k:Nat) (A:Nt):Nt:=⟨A.lanes+A.lanes,(A.forks++A.forks.map (shF A.lanes))++(zas k A.ends (A.ends.map (A.lanes + ·))).1,(zas k A.ends (A.ends.map (A.lanes + ·))).2⟩
theorem zb6 {k:Nat}{A:Nt}(ok:A.Ok) (hl:A.lanes=2 ^ k):zaM (zaw A A) (zaG k)=zaK k A:=by
 have el:A.ends.length=2 ^ k:=by rw[ok.en.length_eq,List.length_range,hl]
 have nl:(A.ends++A.ends.map (A.lanes + ·)).length=2 ^ (k+1):=by rw[List.length_append,List.length_map,el,Nat.pow_succ];lia
 have r:=zeK (A.ends++A.ends.map (A.lanes + ·))
 rw[nl]at r
 have t:((List.range (2 ^ (k+1))).take (2 ^ k)).map (nmq (A.ends++A.ends.map (A.lanes + ·)))=A.ends:=by
  rw[List.map_take,r,List.take_append_of_le_length (by lia),List.take_of_length_le (by lia)]
 have d:((List.range (2 ^ (k+1))).drop (2 ^ k)).map (nmq (A.ends++A.ends.map (A.lanes + ·)))=A.ends.map (A.lanes + ·):=by
  rw[List.map_drop,r,List.drop_append_of_le_length (by lia),List.drop_of_length_le (by lia),List.nil_append]
 have e:=zcM (nmq (A.ends++A.ends.map (A.lanes + ·))) k ((List.range (2 ^ (k+1))).take (2 ^ k)) ((List.range (2 ^ (k+1))).drop (2 ^ k))
 rw[t,d]at e
 unfold zaK
 rw[e];rfl
theorem zcN:∀ k,k<4→(zaG k).forks.length≤32∧(zaG k).lanes=2 ^ k+2 ^ k∧2 ^ k+2 ^ k≤16:=by decide +kernel
theorem zia:∀ k,k<5→Builtin.Int.intBits ((2 ^ k:Nat):Int)=k+1:=by decide +kernel
end Bn
namespace L2
open PySem PySem.Spec PyProof.Rows Own
def FlD (x:V) (d:PyData):Prop:=(∃ i,x=.int i∧d=.int i)∨(∃ z,x=.str z∧d=.str z∧(PyData.str z).canLay0=true)∨(∃ b,x=.bl b∧d=.bool b)∨(x=.non∧d=.none)
def DD (H:Hp):Nat→V→PyData→Prop
 | 0,x,d=>FlD x d
 | n+1,x,d=>FlD x d∨∃ a xs ds,x=.ref a∧xs.length=ds.length∧((d=.tuple ds∧H a=some (.tup xs))∨(d=.list ds∧H a=some (.lst xs)))∧∀ (j:Nat) (u:V) (e:PyData),xs[j]?=some u→ds[j]?=some e→DD H n u e
theorem DD.same {H H':Hp}(s:Same H H'):∀ {n:Nat}{x:V}{d:PyData},DD H n x d→DD H' n x d
 | 0,_,_,h=>h
 | n+1,_,_,h=>by
  rcases h with h|⟨a,xs,ds,e1,e2,h1,h2⟩
  ·exact .inl h
  ·refine .inr ⟨a,xs,ds,e1,e2,?_,fun j u e p q=>DD.same s (h2 j u e p q)⟩
   rcases h1 with ⟨y,z⟩|⟨y,z⟩
   ·exact .inl ⟨y,s _ _ z⟩
   ·exact .inr ⟨y,s _ _ z⟩
theorem DD.fl {H:Hp}{n:Nat}{x:V}{d:PyData}(h:FlD x d):DD H n x d:=by
 cases n
 ·exact h
 ·exact .inl h
theorem DD.up {H:Hp}:∀ {n m:Nat}{x:V}{d:PyData},n≤m→DD H n x d→DD H m x d
 | 0,m,_,_,_,h=>DD.fl h
 | n+1,0,_,_,l,_=>by lia
 | n+1,m+1,_,_,l,h=>by
  rcases h with h|⟨a,xs,ds,e1,e2,h1,h2⟩
  ·exact .inl h
  ·exact .inr ⟨a,xs,ds,e1,e2,h1,fun j u e p q=>DD.up (by lia) (h2 j u e p q)⟩
theorem DD.i {H:Hp}{n:Nat}(i:Int):DD H n (.int i) (.int i):=DD.fl (.inl ⟨i,rfl,rfl⟩)
theorem DD.tup {H:Hp}{n:Nat}{a:Addr}{xs:List V}{ds:List PyData}(h:H a=some (.tup xs)) (l:xs.length=ds.length) (f:∀ (j:Nat) (u:V) (e:PyData),xs[j]?=some u→ds[j]?=some e→DD H n u e):DD H (n+1) (.ref a) (.tuple ds):=.inr ⟨a,xs,ds,rfl,l,.inl ⟨rfl,h⟩,f⟩
theorem zj8 {H:Hp}{n:Nat}{α:Type}{f:α→V}{g:α→PyData}{l:List α}(h:∀ x∈l,DD H n (f x) (g x)):(l.map f).length=(l.map g).length∧∀ (j:Nat) (u:V) (e:PyData),(l.map f)[j]?=some u→(l.map g)[j]?=some e→DD H n u e:=by
 refine⟨by rw[List.length_map,List.length_map],fun j u e p q=>?_⟩
 rw[List.getElem?_map]at p q
 cases z:l[j]? with
 | none=>rw[z]at p;cases p
 | some x =>
  rw[z]at p q
  obtain rfl:=Option.some.inj p
  obtain rfl:=Option.some.inj q
  exact h x (List.mem_of_getElem? z)
theorem zhn:∀ {ds:List PyData}{n:Nat},(∀ e∈ds,e.canLay0=true∧e.depth≤n)→PyData.canLayAll0 ds=true∧PyData.depthAll ds≤n
 | [],_,_=>⟨rfl,Nat.zero_le _⟩
 | d::ds,n,h=>by
  obtain⟨a1,a2⟩:=h d List.mem_cons_self
  obtain⟨b1,b2⟩:=zhn (ds:=ds) fun e he=>h e (List.mem_cons_of_mem _ he)
  refine⟨?_,?_⟩
  ·show (d.canLay0 && PyData.canLayAll0 ds)=true
   rw[a1,b1];rfl
  ·show max d.depth (PyData.depthAll ds)≤n
   lia
theorem FlD.ok {x:V}{d:PyData}(h:FlD x d):d.canLay0=true∧d.depth≤0:=by
 rcases h with ⟨i,_,rfl⟩|⟨z,_,rfl,e⟩|⟨b,_,rfl⟩|⟨_,rfl⟩
 ·exact⟨rfl,Nat.le_refl _⟩
 ·exact⟨e,Nat.le_refl _⟩
 ·exact⟨rfl,Nat.le_refl _⟩
 ·exact⟨rfl,Nat.le_refl _⟩
theorem DD.ok {H:Hp}:∀ {n:Nat}{x:V}{d:PyData},DD H n x d→d.canLay0=true∧d.depth≤n
 | 0,_,_,h=>FlD.ok h
 | n+1,_,_,h=>by
  rcases h with h|⟨a,xs,ds,e1,e2,h1,h2⟩
  ·have:=FlD.ok h
   exact⟨this.1,by lia⟩
  ·obtain⟨p,q⟩:=zhn (n:=n) (ds:=ds) fun e he=>by
    obtain⟨j,jl,ej⟩:=List.getElem_of_mem he
    exact(h2 j _ e (List.getElem?_eq_getElem (by lia)) (by rw[List.getElem?_eq_getElem jl,ej])).ok
   rcases h1 with ⟨rfl,_⟩|⟨rfl,_⟩
   ·exact⟨p,Nat.succ_le_succ q⟩
   ·exact⟨p,Nat.succ_le_succ q⟩
section
variable {X:Cx}
theorem FlD.reads {h:Heap}{x:V}{d:PyData}{v:Value}(f:FlD x d) (r:RelV x v):∃ as,Reads h v d as:=by
 rcases f with ⟨i,rfl,rfl⟩|⟨z,rfl,rfl,e⟩|⟨b,rfl,rfl⟩|⟨rfl,rfl⟩
 ·obtain⟨t,rfl⟩:=r
  exact⟨_,.int i t⟩
 ·obtain⟨t,rfl⟩:=r
  exact⟨_,.str z t⟩
 ·cases r
  exact⟨_,.bool b⟩
 ·cases r
  exact⟨_,.none⟩
theorem DD.reads {pins:List (Addr × Obj)}{σ:St}{H:Hp}{s:Shared}(I:Inv X pins σ H s):∀ (n:Nat) (x:V) (d:PyData) (v:Value),DD H n x d→RelV x v→∃ as,Reads s.heap v d as
 | 0,x,d,v,h,r=>FlD.reads h r
 | n+1,x,d,v,h,r=>by
  rcases h with h|⟨a,xs,ds,rfl,hl,h1,hx⟩
  ·exact FlD.reads h r
  ·cases r
   have key:∀ its:List Value,Vals xs its→∃ as,ReadsAll s.heap its ds as:=fun its g=>by
    have gl:=g.length
    exact zed (h:=s.heap) its ds (by lia) fun j v' d' e1 e2=>by
     have jl:j<xs.length:=by have:=(List.getElem?_eq_some_iff.mp e1).1;lia
     obtain⟨w',f1,f2⟩:=g.get (List.getElem?_eq_getElem jl)
     obtain rfl:=Option.some.inj (e1.symm.trans f1)
     exact DD.reads I n _ _ _ (hx j _ _ (List.getElem?_eq_getElem jl) e2) f2
   rcases h1 with ⟨rfl,ha⟩|⟨rfl,ha⟩
   ·obtain⟨its,g,⟨o,eo,co,m,dm⟩,_⟩:=I.tuple (SqT.of ha)
    obtain⟨as,ra⟩:=key its g
    exact⟨as,.tuple eo co dm (by simpa using ra)⟩
   ·obtain⟨its,g,p,_⟩:=I.list (SqL.of ha)
    obtain⟨as,ra⟩:=key its g
    obtain⟨o,eo,co,m,dm⟩:=p.isList
    exact⟨_,.list eo co dm (by simpa using ra)⟩
def rDat (c:Bool):R2:=fun x y H Q=>∃ n d d',n≤20∧DD H n x d∧DD H n y d'∧Q (.bl (if c then PyData.eqv d d' else !PyData.eqv d d')) H
theorem op_eqX (hu:X.A.units+64<cLine):OpR X (compareOp .Eq) (rDat true):=by
 intro pins s σ H x y vx vy Q I rx ry ⟨n,d,d',hn,h1,h2,q⟩
 obtain⟨as,r1⟩:=h1.reads I _ _ _ _ rx
 obtain⟨bs,r2⟩:=h2.reads I _ _ _ _ ry
 have k1:=h1.ok
 have k2:=h2.ok
 exact PySem.SeqAt.compareEq_reads r1 r2 k1.1 k2.1 (by have:=k1.2;lia) ⟨.bl _,H,I,rfl,q⟩
end
end L2
namespace Bn
open PySem L2 Own
theorem zjq {H:Hp}{n:Nat}{a:Addr}{es:List Nat}(h:H a=some (.tup (nums es))):DD H (n+1) (.ref a) (.tuple (es.map fun e=>.int ((e:Nat):Int))):=by
 obtain⟨p,q⟩:=zj8 (H:=H) (n:=n) (f:=fun (e:Nat)=>V.int (e:Int)) (g:=fun (e:Nat)=>PyData.int ((e:Nat):Int)) (l:=es) fun x _=>DD.i _
 exact DD.tup h p q
theorem zfo {H:Hp}:∀ {ps:List V}{fs:List (Nat × Nat)},Prs H ps fs→ps.length=(fs.map zg5).length∧∀ (j:Nat) (u:V) (e:PyData),ps[j]?=some u→(fs.map zg5)[j]?=some e→DD H 1 u e
 | [],[],_=>⟨rfl,fun j u e h _=>by simp at h⟩
 | [],_::_,h=>h.elim
 | _::_,[],h=>h.elim
 | x::ps,f::fs,⟨⟨t,e,h⟩,r⟩=>by
  obtain⟨a,b⟩:=zfo r
  refine⟨by rw[List.map_cons,List.length_cons,List.length_cons,a],fun j u d hu hd=>?_⟩
  cases j with
  | zero =>
   obtain rfl:x=u:=by simpa using hu
   obtain rfl:zg5 f=d:=by simpa using hd
   subst e
   refine DD.tup h rfl fun j u e p q=>?_
   match j,p,q with
   | 0,p,q=>obtain rfl:=Option.some.inj p;obtain rfl:=Option.some.inj q;exact DD.i _
   | 1,p,q=>obtain rfl:=Option.some.inj p;obtain rfl:=Option.some.inj q;exact DD.i _
   | j+2,p,q=>simp at p
  | succ j=>exact b j u d (by simpa using hu) (by simpa using hd)
theorem zhg {H:Hp}{r fr er:Addr}{ps:List V}{N:Nt}(na:NetAt H r fr er ps N):DD H 3 (.ref r) (netD N):=by
 obtain⟨a,b⟩:=zfo na.prs
 refine DD.tup na.net rfl fun j u e p q=>?_
 match j,p,q with
 | 0,p,q=>obtain rfl:=Option.some.inj p;obtain rfl:=Option.some.inj q;exact DD.i _
 | 1,p,q=>obtain rfl:=Option.some.inj p;obtain rfl:=Option.some.inj q;exact DD.tup na.forks a b
 | 2,p,q=>obtain rfl:=Option.some.inj p;obtain rfl:=Option.some.inj q;exact zjq na.ends
 | j+3,p,q=>simp at p
inductive Pln where
 | net (N:Nt)|way (w k:Nat)|dbl (p:Pln)|ren (p:Pln) (ns:List Nat)|bes (p q:Pln)|beh (p q:Pln)
def pwr (n:Nat):Nat:=if n=2 then 1 else if n=4 then 2 else if n=8 then 3 else if n=16 then 4 else 0
def wayM (w k:Nat):Nat:=if w=0 then 2 ^ k*k*(k+1) / 4 else if w=1 then 2 ^ k*k*k / 2 else 2 ^ k*k / 2
def wayS (w:Nat):Str:=if w=0 then "stairway" else if w=1 then "rounds" else "merger"
namespace Pln
def lanes:Pln→Nat
 | .net N=>N.lanes
 | .way _ k=>2 ^ k
 | .dbl p=>2*p.lanes
 | .ren p _=>p.lanes
 | .bes p q=>p.lanes+q.lanes
 | .beh p _=>p.lanes
def many:Pln→Nat
 | .net N=>N.forks.length
 | .way w k=>wayM w k
 | .dbl p=>2*p.many+p.lanes*pwr (2*p.lanes)
 | .ren p _=>p.many
 | .bes p q=>p.many+q.many
 | .beh p q=>p.many+q.many
def hi:Pln→Nat
 | .net _=>1
 | .way _ _=>1
 | .dbl p=>p.hi+1
 | .ren p _=>p.hi+1
 | .bes p q=>max p.hi q.hi+1
 | .beh p q=>max p.hi q.hi+1
def Ok:Pln→Prop
 | .net N=>N.Ok
 | .way w k=>w<3∧k<5∧(w=2→1≤k)
 | .dbl p=>p.Ok∧p.lanes∈([1,2,4,8]:List Nat)∧2*p.many+p.lanes*pwr (2*p.lanes)≤128
 | .ren p ns=>p.Ok∧ns.Perm (List.range p.lanes)
 | .bes p q=>p.Ok∧q.Ok∧p.lanes+q.lanes≤16∧p.many+q.many≤128
 | .beh p q=>p.Ok∧q.Ok∧q.lanes=p.lanes∧p.many+q.many≤128
end Pln
theorem Pln.hi_pos (p:Pln):1≤p.hi:=by cases p<;>simp[Pln.hi]
inductive Kn where
 | no|stair|merges|halves
 deriving DecidableEq
def Kn.v:Kn→V
 | .no=>.non
 | .stair=>.str "stair"
 | .merges=>.str "merges"
 | .halves=>.str "halves"
def Pln.known:Pln→Kn
 | .net N=>if N.lanes=1 then .stair else .no
 | .way w k=>if w<2 then .stair else if k=1 then .stair else .merges
 | .dbl p=>if p.known=.stair then .stair else .no
 | .ren p _=>if p.known=.merges then .no else p.known
 | .bes p q=>if p.known=.stair∧q.known=.stair∧p.lanes=q.lanes then .halves else .no
 | .beh p q=>if q.known=.stair∨p.known=.halves∧q.known=.merges then .stair else .no
def PlnAt (H:Hp):Pln→V→Prop
 | .net N,v=>∃ t r fr er ps,v=.ref t∧H t=some (.tup [.str "net",.ref r])∧NetAt H r fr er ps N
 | .way w k,v=>∃ t,v=.ref t∧H t=some (.tup [.str (wayS w),.int (k:Nat)])
 | .dbl p,v=>∃ t u,v=.ref t∧H t=some (.tup [.str "doubled",u])∧PlnAt H p u
 | .ren p ns,v=>∃ t u n,v=.ref t∧H t=some (.tup [.str "renamed",u,.ref n])∧H n=some (.tup (nums ns))∧PlnAt H p u
 | .bes p q,v=>∃ t u x,v=.ref t∧H t=some (.tup [.str "beside",u,x])∧PlnAt H p u∧PlnAt H q x
 | .beh p q,v=>∃ t u x,v=.ref t∧H t=some (.tup [.str "behind",u,x])∧PlnAt H p u∧PlnAt H q x
theorem PlnAt.tups {H H':Hp}(s:Tups H H'):∀ {p:Pln}{v:V},PlnAt H p v→PlnAt H' p v
 | .net N,v,⟨t,r,fr,er,ps,e,h,na⟩=>⟨t,r,fr,er,ps,e,s _ _ h,na.tups s⟩
 | .way w k,v,⟨t,e,h⟩=>⟨t,e,s _ _ h⟩
 | .dbl p,v,⟨t,u,e,h,a⟩=>⟨t,u,e,s _ _ h,PlnAt.tups s a⟩
 | .ren p ns,v,⟨t,u,n,e,h,hn,a⟩=>⟨t,u,n,e,s _ _ h,s _ _ hn,PlnAt.tups s a⟩
 | .bes p q,v,⟨t,u,x,e,h,a,b⟩=>⟨t,u,x,e,s _ _ h,PlnAt.tups s a,PlnAt.tups s b⟩
 | .beh p q,v,⟨t,u,x,e,h,a,b⟩=>⟨t,u,x,e,s _ _ h,PlnAt.tups s a,PlnAt.tups s b⟩
theorem PlnAt.top {H:Hp}:∀ {p:Pln}{v:V},PlnAt H p v→∃ t w y xs,v=.ref t∧H t=some (.tup (.str w::y::xs))
 | .net N,v,⟨t,r,fr,er,ps,e,h,na⟩=>⟨t,_,_,_,e,h⟩
 | .way w k,v,⟨t,e,h⟩=>⟨t,_,_,_,e,h⟩
 | .dbl p,v,⟨t,u,e,h,a⟩=>⟨t,_,_,_,e,h⟩
 | .ren p ns,v,⟨t,u,n,e,h,hn,a⟩=>⟨t,_,_,_,e,h⟩
 | .bes p q,v,⟨t,u,x,e,h,a,b⟩=>⟨t,_,_,_,e,h⟩
 | .beh p q,v,⟨t,u,x,e,h,a,b⟩=>⟨t,_,_,_,e,h⟩
theorem zaQ {H:Hp}{t:Addr}{xs ys:List V}(a:H t=some (.tup xs)) (b:H t=some (.tup ys)):xs=ys:=by
 have:=a.symm.trans b
 injection this with e
 injection e
theorem zgw:∀ k,k<5→1≤2 ^ k∧2 ^ k≤16:=by decide
theorem Pln.fit:∀ {p:Pln},p.Ok→1≤p.lanes∧p.lanes≤16
 | .net N,h=>⟨(show N.Ok from h).l1,(show N.Ok from h).l16⟩
 | .way w k,h=>zgw k h.2.1
 | .dbl p,h=>by
  have:=h.2.1
  simp only[List.mem_cons,List.mem_nil_iff,or_false]at this
  show 1≤2*p.lanes∧2*p.lanes≤16
  lia
 | .ren p _,h=>Pln.fit (p:=p) h.1
 | .bes p q,h=>by
  have:=Pln.fit (p:=p) h.1
  show 1≤p.lanes+q.lanes∧_
  exact⟨by lia,h.2.2.1⟩
 | .beh p q,h=>Pln.fit (p:=p) h.1
theorem zcb:∀ n∈([1,2,4,8]:List Nat),∃ k,k<4∧n=2 ^ k∧pwr (2*n)=k+1:=fun n h=>by
 simp only[List.mem_cons,List.mem_nil_iff,or_false]at h
 rcases h with rfl|rfl|rfl|rfl
 ·exact⟨0,by decide,rfl,rfl⟩
 ·exact⟨1,by decide,rfl,rfl⟩
 ·exact⟨2,by decide,rfl,rfl⟩
 ·exact⟨3,by decide,rfl,rfl⟩
theorem zfy:∀ k,k<5→(zck k).forks.length=wayM 0 k:=by decide +kernel
theorem zbA:∀ k,k<4→(zaG k).forks.length=wayM 2 (k+1)∧wayM 2 (k+1)=2 ^ k*(k+1)∧(zaG k).lanes=2 ^ (k+1):=by decide +kernel
def Pln.dat:Pln→PyData
 | .net N=>.tuple [.str "net",netD N]
 | .way w k=>.tuple [.str (wayS w),.int (k:Nat)]
 | .dbl p=>.tuple [.str "doubled",p.dat]
 | .ren p ns=>.tuple [.str "renamed",p.dat,.tuple (ns.map fun e=>.int ((e:Nat):Int))]
 | .bes p q=>.tuple [.str "beside",p.dat,q.dat]
 | .beh p q=>.tuple [.str "behind",p.dat,q.dat]
theorem zis:∀ w,(PyData.str (wayS w)).canLay0=true:=fun w=>by
 unfold wayS
 split
 ·decide +kernel
 split
 ·decide +kernel
 ·decide +kernel
theorem zbJ:(PyData.str "net").canLay0=true∧(PyData.str "doubled").canLay0=true∧(PyData.str "renamed").canLay0=true∧(PyData.str "beside").canLay0=true∧(PyData.str "behind").canLay0=true∧(PyData.str "merger").canLay0=true:=by decide +kernel
theorem zfQ {H:Hp}{n:Nat}{z:Str}(h:(PyData.str z).canLay0=true):DD H n (.str z) (.str z):=DD.fl (.inr (.inl ⟨z,rfl,rfl,h⟩))
theorem zjr {H:Hp}{n:Nat}{t:Addr}{x y:V}{d e:PyData}(h:H t=some (.tup [x,y])) (a:DD H n x d) (b:DD H n y e):DD H (n+1) (.ref t) (.tuple [d,e]):=DD.tup h rfl fun j u z p q=>by
 match j,p,q with
 | 0,p,q=>cases p;cases q;exact a
 | 1,p,q=>cases p;cases q;exact b
 | j+2,p,q=>cases p
theorem zeY {H:Hp}{n:Nat}{t:Addr}{x y w:V}{d e f:PyData}(h:H t=some (.tup [x,y,w])) (a:DD H n x d) (b:DD H n y e) (c:DD H n w f):DD H (n+1) (.ref t) (.tuple [d,e,f]):=DD.tup h rfl fun j u z p q=>by
 match j,p,q with
 | 0,p,q=>cases p;cases q;exact a
 | 1,p,q=>cases p;cases q;exact b
 | 2,p,q=>cases p;cases q;exact c
 | j+3,p,q=>cases p
theorem zj9 {H:Hp}{n:Nat}{t:Addr}{ns:List Nat}(h:H t=some (.tup (nums ns))):DD H (n+1) (.ref t) (.tuple (ns.map fun e=>.int ((e:Nat):Int))):=DD.tup h (by unfold nums;rw[List.length_map,List.length_map]) fun j u z p q=>by
 unfold nums at p
 rw[List.getElem?_map]at p q
 cases e:ns[j]? with
 | none=>rw[e]at p;cases p
 | some i=>rw[e]at p q;cases p;cases q;exact DD.i _
theorem PlnAt.dd {H:Hp}:∀ {p:Pln}{v:V},PlnAt H p v→DD H (p.hi+3) v p.dat
 | .net N,v,⟨t,r,fr,er,ps,e,h,na⟩=>by subst e;exact zjr (n:=3) h (zfQ zbJ.1) (zhg na)
 | .way w k,v,⟨t,e,h⟩=>by subst e;exact zjr (n:=3) h (zfQ (zis w)) (DD.i _)
 | .dbl p,v,⟨t,u,e,h,a⟩=>by subst e;exact(zjr h (zfQ zbJ.2.1) a.dd).up (by show _≤p.hi+1+3;lia)
 | .ren p ns,v,⟨t,u,n,e,h,hn,a⟩=>by subst e;exact(zeY h (zfQ zbJ.2.2.1) a.dd (zj9 hn)).up (by show _≤p.hi+1+3;lia)
 | .bes p q,v,⟨t,u,x,e,h,a,b⟩=>by
  subst e
  exact(zeY h (zfQ zbJ.2.2.2.1) (a.dd.up (m:=max p.hi q.hi+3) (by lia)) (b.dd.up (by lia))).up (by show _≤max p.hi q.hi+1+3;lia)
 | .beh p q,v,⟨t,u,x,e,h,a,b⟩=>by
  subst e
  exact(zeY h (zfQ zbJ.2.2.2.2.1) (a.dd.up (m:=max p.hi q.hi+3) (by lia)) (b.dd.up (by lia))).up (by show _≤max p.hi q.hi+1+3;lia)
end Bn
namespace L2
open PySem PySem.Spec PyProof.Rows
section
variable {κ:Type} [DecidableEq κ]
end
section
variable {P:Program}{w:World}{H:Hp}{h:Heap}{a:Addr}
end
section
variable {X:Cx}{pins:List (Addr × Obj)}{σ:St}{H:Hp}{s:Shared}{a:Addr}{y v:V}{u r:Value}{o:Option V}{A:Around}{E:Value→Shared→Prop}
end
section
variable {X:Cx}{pins:List (Addr × Obj)}{σ:St}{H:Hp}{s:Shared}{a:Addr}{kvs:List (Key × V)}{k:Key}{u:Value}{A:Around}{E:Value→Shared→Prop}
end
section
variable {X:Cx}{o i e value:Expr}{pos pos' tpos:Pos}{td ty tv:TE}
end
section
variable {X:Cx}{pos:Pos}
end
section
variable {X:Cx}{pins:List (Addr × Obj)}{σ:St}{H:Hp}{s:Shared}{a:Addr}{y d:V}{u r:Value}{o:Option V}{A:Around}{E:Value→Shared→Prop}
end
section
variable {X:Cx}{o e f:Expr}{apos cpos:Pos}{td ty tx:TE}
end
section
variable {X:Cx}{pins:List (Addr × Obj)}{σ:St}{H:Hp}{s:Shared}{a:Addr}{kvs:List (Key × V)}{A:Around}{E:Value→Shared→Prop}
end
section
variable {X:Cx}{pins:List (Addr × Obj)}{σ:St}{H:Hp}{s:Shared}{a:Addr}{y:V}{u:Value}{A:Around}{E:Value→Shared→Prop}
end
end L2
namespace Bn
open PySem L2 Own
structure Grp where
 many:Int
 lane:Nat
 fork:Nat
def part (m:Int) (lane k:Nat):List Grp:=if m=0 then [] else [⟨m,lane,k⟩]
end Bn
namespace L2
open PySem PySem.Spec PyProof.Rows Own
section
variable {X:Cx}
end
section
variable {prog:Program}{w:World}{A:Around}{E:Value→Shared→Prop}{it l:Addr}{items:Array Value}
end
section
variable {X:Cx}
end
end L2
namespace L2
open PySem
end L2
namespace Bn
open PySem L2 Own
section
variable {H0 H H':Hp}{l d lt lg lo:Addr}{qa:List Addr}{ts os:List Int}{gs:List Grp}
end
section
variable {H0 H:Hp}{l d lt lg lo:Addr}{qa:List Addr}{ts os:List Int}{gs:List Grp}
end
end Bn
namespace L2
open PySem Own
section
variable {X:Cx}
end
end L2
namespace L2
open PySem
end L2
namespace L2
open PySem Own PyProof.Rows PySem.Spec
section
variable {X:Cx}
end
end L2
namespace Bn
open PySem L2 Own
abbrev Sn:=List Int × List Grp × List Int
abbrev Sn.none (N:Nt):Sn:=(List.replicate N.forks.length 0,[],List.replicate N.lanes 0)
section
variable {H0 H H':Hp}{l d lt lg lo:Addr}{qa qa':List Addr}{ts os ts' os':List Int}{gs gs':List Grp}
end
end Bn
namespace L2
open PySem PySem.Spec PyProof.Rows
section
variable {P:Program}{w:World}{K:PySem.W.Frag}{mg:Str→Option Value}{base:Heap}{N:List Str}{qual:Str}{scope:Scope}{f:Addr}{cd:Value}{A:Around}{outer:List Env}{s:Shared}{H:Hp}{E:XK}{pins:List (Addr × Obj)}{σ:St}
end
section
variable {X:Cx}{pins:List (Addr × Obj)}{σ:St}{H:Hp}{s:Shared}
end
abbrev Cx.held (X:Cx) (e:Addr):Cx:={ X with A:=X.A.mark (some (.ref e)),calm:=false }
section
variable {X:Cx}{pins:List (Addr × Obj)}{σ:St}{H:Hp}{s:Shared}
def zkC (i:Nat) (D:Ends):Ends:={ nx:=fun σ H=>D.nx (σ.set i none) H,rt:=D.rt,bk:=fun σ H=>D.bk (σ.set i none) H,ct:=fun σ H=>D.ct (σ.set i none) H }
end
section
variable {X:Cx}{k:Nat}{f L:Addr}{fd:FuncData}{ps:List Str}{sp:Sp}{x cn n:Str}{p cpos epos np hpos pos:Pos}{e:Expr}{es:List Expr}{t:TA}{i:Nat}{b0:Stmt}{suite:List Stmt}{ts:TS}{rest:List ExceptHandler}
end
section
variable {h:Heap}{w:World}{prog:Program}{E:Value→Shared→Prop}{A:Around}{g:Array GenState}{os:OsState}{t:Nat}{d:Drawn}
variable {B newId initId:String}{bmB:List Value}{nm q:Str}{C N:Addr}{bs bm:List Value}{hdct:Bool}{sn:List Str}{sub:List Value}{ab:Bool}{col:Option Bool}{dd:Option Addr}{k0 k1 k2 k3 k5:Option Value}
end
section
variable {prog:Program}{w:World}{A:Around}{E:Value→Shared→Prop}{K:PySem.W.Frag}{hp:Heap}{gs:Array GenState}{dr:Drawn}{tk:Nat}{os:OsState}{nm q f:Str}{C N L e:Addr}{bs sub:List Value}{sn:List Str}{ab:Bool}{col:Option Bool}{dd:Option Addr}{k0 k1 k2 k3 k5:Option Value}{nid:String}{oe:Obj}{u:Value}{Q:Unit→Shared→Prop}
end
section
variable {X:Cx}{C L fI:Addr}{cn f:Str}{np apos pos pos':Pos}{a b o value:Expr}{t:TA}{ta tv:TE}
end
section
variable {X:Cx}{C L fI:Addr}{cn f:Str}{np apos pos pos':Pos}{a b o value:Expr}{t:TA}{ta tv:TE}
end
section
variable {P:Program}{w:World}{K:PySem.W.Frag}{mg:Str→Option Value}{base:Heap}{N:List Str}{qual:Str}{scope:Scope}{fn:Addr}{cd:Value}{A:Around}{outer:List Env}{s:Shared}{H:Hp}{E:XK}
end
section
variable {prog:Program}{w:World}{A:Around}{E:Value→Shared→Prop}{K:PySem.W.Frag}{s:Shared}{x C:Addr}{ox:Obj}{od:Option Obj}{name:Str}{tk:Tok}
end
section
variable {X:Cx}{pins:List (Addr × Obj)}{σ:St}{H:Hp}{s:Shared}
end
end L2
namespace L2
open PySem PySem.Spec PyProof.Rows Own
end L2
namespace Bn
open PySem L2 Own
section
variable {n s p c u:Addr}
end
end Bn
namespace L2
open PySem
end L2
namespace Bn
open PySem L2 Own
def isAt (p:Nat × Nat→Bool):Option (Nat × Nat)→Bool
 | some o=>p o
 | none=>false
def cnt (os:List (Option (Nat × Nat))) (p:Nat × Nat→Bool):Int:=(os.countP (isAt p):Nat)
def iw (b:Bool) (m:Int):Int:=if b=true then m else 0
def dN (q:Nat→Bool):Nat→Nat
 | 0=>0
 | n+1=>dN q n+(if q n=true then 1 else 0)
def hasG (gs:List Grp) (j l:Nat):Bool:=gs.any fun g=>decide (g.fork=j∧g.lane=l)
def later (N:Nt) (j:Nat):Nat:=if j<N.forks.length then 2*(N.forks.length-1-j)+N.lanes else 0
def far (N:Nt) (gs:List Grp) (j:Nat):Nat:=later N j+dN (hasG gs j) N.lanes
end Bn
namespace L2
open PySem PySem.Spec PyProof.Rows
section
variable {P:Program}{w:World}{K:PySem.W.Frag}{mg:Str→Option Value}{base:Heap}{k:Nat}{f:Addr}{fd:FuncData}{ps:List Str}
def tOrT (K:PySem.W.Frag) (ta tb:TE):TE:=fun σ H Q=>ta σ H fun x H1=>∃ k,TruV K x H1 k∧if k=true then Q x H1 else tb σ H1 Q
theorem zjQ {X:Cx}{a b:Expr}{rest:List Expr}{pos:Pos}{ta tb:TE}(ha:PE X a ta) (hb:PE X (.BoolOp .Or (b::rest) pos) tb):PE X (.BoolOp .Or (a::b::rest) pos) (tOrT X.K ta tb):=by
 intro pins s σ H Q I h
 refine BoolOp_or (thn (ha pins s σ H _ I h) fun v s1 ⟨x,H1,I1,r1,k,tk,q1⟩=>?_)
 refine thn (zjy pins s1 σ H1 x v (fun c H2=>if c=true then Q x H2 else tb σ H2 Q) I1 r1 ⟨k,tk,q1⟩) fun c s2 ⟨H2,I2,q2⟩=>?_
 cases c with
 | true=>exact⟨x,H2,I2,r1,q2⟩
 | false=>exact hb pins s2 σ H2 Q I2 q2
end
end L2
namespace K93
open PySem L2 Own Bn
abbrev zgp:Stmt:=top 27
abbrev zgr:Stmt:=top 28
def powV (n:Nat):V:=if n=1 then .int 0 else if n=2 then .int 1 else if n=4 then .int 2 else if n=8 then .int 3 else if n=16 then .int 4 else .non
def zcz:Sp:=fun vs H Q _=>∃ n:Nat,vs=[.int (n:Nat)]∧1≤n∧n≤16∧∀ H',Same H H'→Q (powV n) H'
theorem zhF:∀ n:Nat,1≤n→n≤16→([V.non,.int 0,.int 1,.non,.int 2,.non,.non,.non,.int 3,.non,.non,.non,.non,.non,.non,.non,.int 4]:List V)[n]?=some (powV n):=fun n a b=>by
 have:∀ m,m<17→1≤m→([V.non,.int 0,.int 1,.non,.int 2,.non,.non,.non,.int 3,.non,.non,.non,.non,.non,.non,.non,.int 4]:List V)[m]?=some (powV m):=by decide +kernel
 exact this n (by lia) a
def zeB:Sp:=fun vs H Q _=>∃ (l:Addr) (lanes most:Nat),vs=[.ref l,.int lanes,.int most]∧1≤lanes∧lanes≤16∧most≤128∧PkAt H l∧∀ r fr er ps N H',Nt.Ok N→N.lanes=lanes→N.forks.length≤most→NetAt H' r fr er ps N→PkAt H' l→But l H H'→Q (.ref r) H'
section
variable {P:Program}{w:World}{K:PySem.W.Frag}{mg:Str→Option Value}{base:Heap}
theorem scPw:FnScope ["_law_lanes"] ["_law_lanes"] (zaf zgp):=⟨rfl,rfl,rfl,by decide +kernel,rfl,by decide +kernel,by decide +kernel⟩
theorem zhP {f:Addr}{fd:FuncData}(F:Fun K "_law_power" "_law_power" zgp f fd):FnOk P w K mg base CX0 1 f fd ["_law_lanes"] zcz:=by
 refine F.ok scPw (fun vs H Q E h=>?_) (fun cdv A outer s H vs Q E hr h=>?_)
 ·obtain⟨n,rfl,_⟩:=h
  rfl
 obtain⟨n,rfl,n1,n16,k⟩:=h
 refine⟨_,(@pss_one _ _ _ (@ps_ret _ _ _ _ (@pe_ix _ _ _ _ _ _ _ ix_list (@zay _ _ _ _ (@pa_cons _ _ _ _ _ zaF (@pa_cons _ _ _ _ _ pe_int (@pa_cons _ _ _ _ _ pe_int (@pa_cons _ _ _ _ _ zaF (@pa_cons _ _ _ _ _ pe_int (@pa_cons _ _ _ _ _ zaF (@pa_cons _ _ _ _ _ zaF (@pa_cons _ _ _ _ _ zaF (@pa_cons _ _ _ _ _ pe_int (@pa_cons _ _ _ _ _ zaF (@pa_cons _ _ _ _ _ zaF (@pa_cons _ _ _ _ _ zaF (@pa_cons _ _ _ _ _ zaF (@pa_cons _ _ _ _ _ zaF (@pa_cons _ _ _ _ _ zaF (@pa_cons _ _ _ _ _ zaF (@pa_cons _ _ _ _ _ pe_int pa_nil (by rfl)) (by rfl)) (by rfl)) (by rfl)) (by rfl)) (by rfl)) (by rfl)) (by rfl)) (by rfl)) (by rfl)) (by rfl)) (by rfl)) (by rfl)) (by rfl)) (by rfl)) (by rfl)) (by rfl))) (@pv _ 0 _ _ (by rfl) (by first|exact Or.inl rfl|exact Or.inr (.inl rfl)|exact Or.inr (.inr rfl)) (by decide) (by decide)) (fun _ _=>rfl)))),?_⟩
 refine⟨(by show 17≤sizeLine;decide),fun l hl=>?_⟩
 exact⟨_,rfl,l,_,_,_,rfl,rfl,SqL.of zac,zaX (zhF n n1 n16),k _ (zaa hl _)⟩
theorem scN:FnScope ["_law_left_here","_law_lanes","_law_most","_law_forks","_law_k","_law_one"] ["_law_left_here","_law_lanes","_law_most"] (zaf zgr):=⟨rfl,rfl,rfl,by decide +kernel,rfl,by decide +kernel,by decide +kernel⟩
theorem zhS {f fK fM:Addr}{fd dK dM:FuncData}(F:Fun K "_law_net_of" "_law_net_of" zgr f fd) (G:Mgs mg) (UK:Use P w K mg base "_law_pick" ["_law_left_here","_law_many"] 1 zcl fK dK) (UM:Use P w K mg base "_law_names" ["_law_left_here","_law_lanes"] 2 zcA fM dM):FnOk P w K mg base CX0 3 f fd ["_law_left_here","_law_lanes","_law_most"] zeB:=by
 refine F.ok scN (fun vs H Q E h=>?_) (fun cdv A outer s H vs Q E hr h=>?_)
 ·obtain⟨l,lanes,most,rfl,_⟩:=h
  rfl
 obtain⟨l,lanes,most,rfl,l1,l16,m128,S,k⟩:=h
 have hr1:Room 1 _:=hr.mono (by decide)
 refine⟨_,(@pss_cons _ _ _ _ _ (@zak _ _ 3 _ _ _ _ scN.nd rfl (.inl rfl) (@zay _ _ _ _ pa_nil) (by rfl) (by first|exact .inl rfl|exact .inr rfl|assumption)) (@pss_cons _ _ _ _ _ (@zcG _ _ _ _ _ _ _ _ PassesOwn.never rfl (@zbr _ _ _ _ _ _ rfl G.range (@pa_cons _ _ _ _ _ (@pe_op _ _ _ _ _ _ _ _ op_mul (@zaj _ _ _ _ _ _ _ _ _ (zes rfl) (by rfl) G.min (by rfl) (@pa_cons _ _ _ _ _ (@pv _ 2 _ _ (by rfl) (by first|exact Or.inl rfl|exact Or.inr (.inl rfl)|exact Or.inr (.inr rfl)) (by decide) (by decide)) (@pa_cons _ _ _ _ _ (@pe_ix _ _ _ _ _ _ _ ix_list (@zay _ _ _ _ (@pa_cons _ _ _ _ _ pe_int (@pa_cons _ _ _ _ _ pe_int (@pa_cons _ _ _ _ _ pe_int (@pa_cons _ _ _ _ _ pe_int (@pa_cons _ _ _ _ _ pe_int (@pa_cons _ _ _ _ _ pe_int pa_nil (by rfl)) (by rfl)) (by rfl)) (by rfl)) (by rfl)) (by rfl))) (@pe_call _ _ _ _ _ _ _ _ _ _ _ _ _ _ _ _ UK.ok hr1 (by rfl) UK.m UK.kp UK.b .nil pass0 (@pa_cons _ _ _ _ _ (@pv _ 0 _ _ (by rfl) (by first|exact Or.inl rfl|exact Or.inr (.inl rfl)|exact Or.inr (.inr rfl)) (by decide) (by decide)) (@pa_cons _ _ _ _ _ pe_int pa_nil (by rfl)) (by rfl)) (by decide) (by rfl) (by rfl)) (fun _ _=>rfl)) pa_nil (by rfl)) (by rfl)) (by decide) (by decide) (by rfl) (by rfl)) (@pe_callTy _ _ _ _ _ _ _ _ _ zeu (by rfl) G.int (by rfl) (@pa_cons _ _ _ _ _ (@pe_cmpR _ _ _ _ _ _ _ _ zdL (@pv _ 1 _ _ (by rfl) (by first|exact Or.inl rfl|exact Or.inr (.inl rfl)|exact Or.inr (.inr rfl)) (by decide) (by decide)) pe_int (nomark _)) pa_nil (by rfl)) (by decide) (by decide) (by rfl) (by rfl))) pa_nil (by rfl)) (by rfl)) (@zab _ _ 4 _ scN.nd rfl (.inl rfl) (by first|exact .inl rfl|exact .inr rfl|assumption)) (@pss_cons _ _ _ _ _ (@zak _ _ 5 _ _ _ _ scN.nd rfl (.inl rfl) (@pe_call _ _ _ _ _ _ _ _ _ _ _ _ _ _ _ _ UK.ok hr1 (by rfl) UK.m UK.kp UK.b .nil pass0 (@pa_cons _ _ _ _ _ (@pv _ 0 _ _ (by rfl) (by first|exact Or.inl rfl|exact Or.inr (.inl rfl)|exact Or.inr (.inr rfl)) (by decide) (by decide)) (@pa_cons _ _ _ _ _ (@pv _ 1 _ _ (by rfl) (by first|exact Or.inl rfl|exact Or.inr (.inl rfl)|exact Or.inr (.inr rfl)) (by decide) (by decide)) pa_nil (by rfl)) (by rfl)) (by decide) (by rfl) (by rfl)) (by rfl) (by first|exact .inl rfl|exact .inr rfl|assumption)) (@pss_one _ _ _ (@ps_expr _ _ _ _ (@pe_bm _ _ _ _ _ _ _ _ _ _ _ _ PySem.F.plainAttrs_list PySem.F.slot_list_append PySem.F.type_list_append mt_append (@pv _ 3 _ _ (by rfl) (by first|exact Or.inl rfl|exact Or.inr (.inl rfl)|exact Or.inr (.inr rfl)) (by decide) (by decide)) (@pa_cons _ _ _ _ _ (@pe_tup _ _ _ _ _ (@pa_cons _ _ _ _ _ (@pv _ 5 _ _ (by rfl) (by first|exact Or.inl rfl|exact Or.inr (.inl rfl)|exact Or.inr (.inr rfl)) (by decide) (by decide)) (@pa_cons _ _ _ _ _ (@pe_op _ _ _ _ _ _ _ _ op_mod (@pe_op _ _ _ _ _ _ _ _ op_add (@pe_op _ _ _ _ _ _ _ _ op_add (@pv _ 5 _ _ (by rfl) (by first|exact Or.inl rfl|exact Or.inr (.inl rfl)|exact Or.inr (.inr rfl)) (by decide) (by decide)) pe_int) (@pe_call _ _ _ _ _ _ _ _ _ _ _ _ _ _ _ _ UK.ok hr1 (by rfl) UK.m UK.kp UK.b .nil pass0 (@pa_cons _ _ _ _ _ (@pv _ 0 _ _ (by rfl) (by first|exact Or.inl rfl|exact Or.inr (.inl rfl)|exact Or.inr (.inr rfl)) (by decide) (by decide)) (@pa_cons _ _ _ _ _ (@pe_op _ _ _ _ _ _ _ _ zba (@pv _ 1 _ _ (by rfl) (by first|exact Or.inl rfl|exact Or.inr (.inl rfl)|exact Or.inr (.inr rfl)) (by decide) (by decide)) pe_int) pa_nil (by rfl)) (by rfl)) (by decide) (by rfl) (by rfl))) (@pv _ 1 _ _ (by rfl) (by first|exact Or.inl rfl|exact Or.inr (.inl rfl)|exact Or.inr (.inr rfl)) (by decide) (by decide))) pa_nil (by rfl)) (by rfl))) pa_nil (by rfl)) (by rfl) (by rfl) (by rfl) (by rfl) (by rfl)) (by rfl)))) (by intro _;rfl)) (@pss_one _ _ _ (@ps_ret _ _ _ _ (@pe_tup _ _ _ _ _ (@pa_cons _ _ _ _ _ (@pv _ 1 _ _ (by rfl) (by first|exact Or.inl rfl|exact Or.inr (.inl rfl)|exact Or.inr (.inr rfl)) (by decide) (by decide)) (@pa_cons _ _ _ _ _ (@pe_callTy _ _ _ _ _ _ _ _ _ call_tuple_of (by rfl) G.tuple (by rfl) (@pa_cons _ _ _ _ _ (@pv _ 3 _ _ (by rfl) (by first|exact Or.inl rfl|exact Or.inr (.inl rfl)|exact Or.inr (.inr rfl)) (by decide) (by decide)) pa_nil (by rfl)) (by decide) (by decide) (by rfl) (by rfl)) (@pa_cons _ _ _ _ _ (@pe_call _ _ _ _ _ _ _ _ _ _ _ _ _ _ _ _ UM.ok hr (by rfl) UM.m UM.kp UM.b .nil pass0 (@pa_cons _ _ _ _ _ (@pv _ 0 _ _ (by rfl) (by first|exact Or.inl rfl|exact Or.inr (.inl rfl)|exact Or.inr (.inr rfl)) (by decide) (by decide)) (@pa_cons _ _ _ _ _ (@pv _ 1 _ _ (by rfl) (by first|exact Or.inl rfl|exact Or.inr (.inl rfl)|exact Or.inr (.inr rfl)) (by decide) (by decide)) pa_nil (by rfl)) (by rfl)) (by decide) (by rfl) (by rfl)) pa_nil (by rfl)) (by rfl)) (by rfl))))))),?_⟩
 refine⟨(by show 0≤sizeLine;decide),fun lf hlf=>?_⟩
 have nlf:=S.ne hlf
 have s0:=zaa hlf (.lst [])
 have S1:=(S.upd (o:=.lst []) nlf)
 refine⟨_,rfl,(by show 6≤sizeLine;decide),fun p2 hp2=>?_⟩
 have np2:=S1.ne hp2
 refine⟨_,rfl,l,6,rfl,by decide,by decide,S1.upd np2,fun v2 H2 hv2 S3 B3=>?_⟩
 obtain⟨fm,fmem,hat2⟩:=zdJ (xs:=[0,1,2,3,5,8]) (v:=v2) (by show v2<6;lia)
 have f8:fm≤8:=by
  simp only[List.mem_cons,List.mem_nil_iff,or_false]at fmem
  lia
 refine⟨p2,_,_,_,rfl,rfl,SqL.of (B3 p2 _ zac np2.symm),hat2,?_⟩
 refine⟨_,_,rfl,_,rfl,_,_,rfl,rfl,.inr ⟨_,rfl,_,_,rfl,rfl,.inl ⟨by split<;>lia,by split<;>lia⟩,?_⟩⟩
 obtain⟨cnt,cb,cl,c1⟩:∃ cnt:Nat,((if ((fm:Nat):Int)<((most:Nat):Int) then ((fm:Nat):Int) else ((most:Nat):Int))*(if decide ((1:Int)<lanes)=true then 1 else 0))=(cnt:Int)∧cnt≤most∧(0<cnt→1<lanes):=by
  by_cases z:1<lanes
  ·rw[show (if decide ((1:Int)<lanes)=true then (1:Int) else 0)=1 from if_pos (decide_eq_true (by lia)),Int.mul_one]
   refine⟨if fm<most then fm else most,?_,?_,fun _=>z⟩
   ·split<;>split<;>lia
   ·split<;>lia
  ·rw[show (if decide ((1:Int)<lanes)=true then (1:Int) else 0)=0 from if_neg (by rw[decide_eq_false (by lia)];exact Bool.false_ne_true),Int.mul_zero]
   exact⟨0,rfl,by lia,fun h=>by lia⟩
 refine⟨_,rfl,by rw[cb];lia,by rw[cb];lia,?_⟩
 rw[cb]
 have h3:H2 lf=some (.lst []):=B3 lf _ (by rw[zag (zad (atNew hlf _) hp2)];exact atNew hlf _) nlf.symm
 have flf:∀ {H':Hp},But l H H'→∀ o,But l H (upd H' lf o):=fun B o x y e n=>by
  rw[zag (zad e hlf)];exact B x y e n
 have B2':But l H H2:=((But.of s0).trans (But.of (zaa hp2 _))).trans B3
 refine zb3 (lo:=0) (n:=((cnt:Nat):Int).toNat) (fun i σ H4=>(∃ w4 w5,σ=[some (.ref l),some (.int lanes),some (.int most),some (.ref lf),w4,w5])∧PkAt H4 l∧But l H H4∧∃ ps fs,H4 lf=some (.lst ps)∧Prs H4 ps fs∧fs.length=i∧∀ f∈fs,f.1<lanes∧f.2<lanes∧f.1≠f.2)
  ⟨⟨_,_,rfl⟩,S3,B2',[],[],h3,trivial,rfl,fun f hf=>by simp at hf⟩ ?_ ?_
 ·rintro i σ H4 hi ⟨⟨w4,w5,rfl⟩,S4,B4,ps,fs,h4,p4,len,fok⟩
  have ic:i<cnt:=by lia
  have l2:1<lanes:=c1 (by lia)
  refine⟨_,rfl,_,rfl,l,lanes,rfl,by lia,by lia,S4,fun one H5 ho S5 B5=>?_⟩
  have h5:=B5 lf _ h4 nlf.symm
  refine⟨_,rfl,.inl ⟨rfl,_,SqL.of h5⟩,_,rfl,_,rfl,_,_,rfl,rfl,_,rfl,_,rfl,_,_,rfl,rfl,l,_,rfl,by lia,by lia,S5,fun d H6 hd S6 B6=>?_⟩
  refine⟨_,_,rfl,rfl,_,rfl,_,_,rfl,rfl,by lia,(by show 2≤sizeLine;decide),fun t ht=>?_⟩
  obtain⟨ok1,ok2⟩:=zhK (one:=one) (d:=d) (lanes:=lanes) (by lia) (by lia)
  have ec:(((one+1+d)%lanes:Nat):Int)=((one:Int)+1+d)%lanes:=by rw[Int.natCast_emod,Int.natCast_add,Int.natCast_add];rfl
  have s7:=zaa ht (.tup [.int one,.int (((one:Int)+1+d)%lanes)])
  have S7:=S6.keep s7
  have B7':But l H _:=((B4.trans B5).trans B6).trans (But.of s7)
  have T7:=((B5.tups S4).trans (B6.tups S5)).trans (Tups.of s7)
  have h7:=s7 _ _ (B6 lf _ h5 nlf.symm)
  have p7:=p4.tups T7
  have t7:L2.upd H6 t (.tup [.int one,.int (((one:Int)+1+d)%lanes)]) t=some (.tup [.int one,.int (((one+1+d)%lanes:Nat):Int)]):=by rw[ec];exact zac
  have pl:=p4.len
  refine⟨lf,_,_,rfl,rfl,h7,by rw[pl,len,sizeLine_eq];lia,⟨_,_,rfl⟩,S7.upd nlf,flf B7' _,ps++[.ref t],fs++[(one,(one+1+d)%lanes)],zac,((p7.tups (Tups.lst h7)).add (Tups.lst h7 _ _ t7)),by rw[List.length_append,len];rfl,fun f hf=>?_⟩
  rcases List.mem_append.mp hf with z|z
  ·exact fok f z
  ·rw[List.mem_singleton.mp z];exact⟨by show one<lanes;lia,ok1,ok2⟩
 ·rintro σ H4 ⟨⟨w4,w5,rfl⟩,S4,B4,ps,fs,h4,p4,len,fok⟩
  refine⟨_,rfl,_,rfl,lf,_,rfl,.inl ⟨SqL.of h4,fun fr hfr=>?_⟩⟩
  have s1:=zaa hfr (.tup ps)
  refine⟨_,rfl,_,rfl,l,lanes,rfl,l16,S4.keep s1,fun e1 es H5 pe he S5 B5=>?_⟩
  have t5:=(Tups.of s1).trans (B5.tups (S4.keep s1))
  refine⟨(by show 3≤sizeLine;decide),fun r hr'=>?_⟩
  have s3:=zaa hr' (.tup [.int lanes,.ref fr,.ref e1])
  exact k r fr e1 ps ⟨lanes,fs,es⟩ _ ⟨l1,l16,(by show fs.length≤128;lia),fok,pe⟩ rfl (by show fs.length≤most;lia) ⟨zac,s3 _ _ (B5.tups (S4.keep s1) _ _ (atNew hfr _)),p4.tups (t5.trans (Tups.of s3)),s3 _ _ he⟩ (S5.keep s3) (((B4.trans (But.of s1)).trans B5).trans (But.of s3))
end
abbrev zdF:Stmt:=top 20
def zbQ:Sp:=fun vs H Q _=>∃ r fr er ps N p q,vs=[.ref r,.ref p]∧Nt.Ok N∧NetAt H r fr er ps N∧H p=some (.tup (nums q))∧N.lanes≤q.length ∧
 ∀ t fr' er' ps' H',Same H H'→H' t=some (.tup [.ref fr',.ref er'])→H' fr'=some (.tup ps')→Prs H' ps' (N.forks.map (zaL q))→H' er'=some (.tup (nums (N.ends.map (nmq q))))→Q (.ref t) H'
section
variable {P:Program}{w:World}{K:PySem.W.Frag}{mg:Str→Option Value}{base:Heap}
theorem zhz:FnScope ["net","names","lanes","forks","ends"] ["net","names"] (zaf zdF):=⟨rfl,rfl,rfl,by decide +kernel,rfl,by decide +kernel,by decide +kernel⟩
theorem zfI {f:Addr}{fd:FuncData}(F:Fun K "called" "called" zdF f fd) (G:Mgs mg):FnOk P w K mg base CX0 1 f fd ["net","names"] zbQ:=by
 refine F.ok zhz (fun vs H Q E h=>?_) (fun cdv A outer s H vs Q E hr h=>?_)
 ·obtain⟨r,fr,er,ps,N,p,q,rfl,_⟩:=h
  rfl
 obtain⟨r,fr,er,ps,N,p,q,rfl,ok,na,hp,ql,k⟩:=h
 refine⟨_,(@pss_cons _ _ _ _ _ (@ps_asg _ _ _ _ _ _ (@pv _ 0 _ _ (by rfl) (by first|exact Or.inl rfl|exact Or.inr (.inl rfl)|exact Or.inr (.inr rfl)) (by decide) (by decide)) (@zao _ _ _ _ _ _ rfl (@pgs_cons _ _ _ _ _ (@zab _ _ 2 _ zhz.nd rfl (.inl rfl) (by first|exact .inl rfl|exact .inr rfl|assumption)) (@pgs_cons _ _ _ _ _ (@zab _ _ 3 _ zhz.nd rfl (.inl rfl) (by first|exact .inl rfl|exact .inr rfl|assumption)) (@pgs_cons _ _ _ _ _ (@zab _ _ 4 _ zhz.nd rfl (.inl rfl) (by first|exact .inl rfl|exact .inr rfl|assumption)) pgs_nil (by rfl)) (by rfl)) (by rfl)) (by rfl) (by rfl)) (by rfl) (by rfl) (by rfl)) (@pss_one _ _ _ (@ps_ret _ _ _ _ (@pe_tup _ _ _ _ _ (@pa_cons _ _ _ _ _ (@pe_callTy _ _ _ _ _ _ _ _ _ call_tuple_of (by rfl) G.tuple (by rfl) (@pa_cons _ _ _ _ _ (@pe_lc _ _ _ _ none _ _ _ (gTup K 2 (zcS (zch 0) (zcS (zch 1) gNil))) _ _ ["one","other","names"] [none,none,some 1] rfl (@zbY _ _ _ _ (@pv _ 3 _ _ (by rfl) (by first|exact Or.inl rfl|exact Or.inr (.inl rfl)|exact Or.inr (.inr rfl)) (by decide) (by decide))) (CapOk.of (by kernel_rfl)) (fun _ _ _ _ _=>(@zao _ _ _ _ _ _ rfl (@pgs_cons _ _ _ _ _ (@zab _ _ 0 _ (show (["one","other","names"]:List Str).Nodup from by decide +kernel) rfl (.inl rfl) (.inr rfl)) (@pgs_cons _ _ _ _ _ (@zab _ _ 1 _ (show (["one","other","names"]:List Str).Nodup from by decide +kernel) rfl (.inl rfl) (.inr rfl)) pgs_nil (by rfl)) (by rfl)) (by rfl) (by rfl))) (fun _ _ _ _ _=>zaV) (fun _ _ _ _ _=>(@pe_tup _ _ _ _ _ (@pa_cons _ _ _ _ _ (@pe_ix _ _ _ _ _ _ (rIxT K) zam (@pv _ 2 _ _ (by rfl) (by first|exact Or.inl rfl|exact Or.inr (.inl rfl)|exact Or.inr (.inr rfl)) (by decide) (by decide)) (@pv _ 0 _ _ (by rfl) (by first|exact Or.inl rfl|exact Or.inr (.inl rfl)|exact Or.inr (.inr rfl)) (by decide) (by decide)) (fun _ _=>rfl)) (@pa_cons _ _ _ _ _ (@pe_ix _ _ _ _ _ _ (rIxT K) zam (@pv _ 2 _ _ (by rfl) (by first|exact Or.inl rfl|exact Or.inr (.inl rfl)|exact Or.inr (.inr rfl)) (by decide) (by decide)) (@pv _ 1 _ _ (by rfl) (by first|exact Or.inl rfl|exact Or.inr (.inl rfl)|exact Or.inr (.inr rfl)) (by decide) (by decide)) (fun _ _=>rfl)) pa_nil (by rfl)) (by rfl)))) (by intro _;rfl)) pa_nil (by rfl)) (by decide) (by decide) (by rfl) (by rfl)) (@pa_cons _ _ _ _ _ (@pe_callTy _ _ _ _ _ _ _ _ _ call_tuple_of (by rfl) G.tuple (by rfl) (@pa_cons _ _ _ _ _ (@pe_lc _ _ _ _ none _ _ _ _ _ _ ["lane","names"] [none,some 1] rfl (@zbY _ _ _ _ (@pv _ 4 _ _ (by rfl) (by first|exact Or.inl rfl|exact Or.inr (.inl rfl)|exact Or.inr (.inr rfl)) (by decide) (by decide))) (CapOk.of (by kernel_rfl)) (fun _ _ _ _ _=>(@zab _ _ 0 _ (show (["lane","names"]:List Str).Nodup from by decide +kernel) rfl (.inl rfl) (.inr rfl))) (fun _ _ _ _ _=>zaV) (fun _ _ _ _ _=>(@pe_ix _ _ _ _ _ _ (rIxT K) zam (@pv _ 1 _ _ (by rfl) (by first|exact Or.inl rfl|exact Or.inr (.inl rfl)|exact Or.inr (.inr rfl)) (by decide) (by decide)) (@pv _ 0 _ _ (by rfl) (by first|exact Or.inl rfl|exact Or.inr (.inl rfl)|exact Or.inr (.inr rfl)) (by decide) (by decide)) (fun _ _=>rfl))) (by intro _;rfl)) pa_nil (by rfl)) (by decide) (by decide) (by rfl) (by rfl)) pa_nil (by rfl)) (by rfl)))))),?_⟩
 have l16:=ok.l16
 have fm:=ok.fm
 have pl:=na.prs.len
 have el:=zaH ok
 refine⟨_,rfl,r,_,rfl,SqT.of na.net,rfl,_,_,rfl,_,_,rfl,_,_,rfl,rfl,?_⟩
 refine⟨_,rfl,fr,rfl,⟨_,SqT.of na.forks⟩,fun lq hlq=>?_⟩
 refine zdh (K:=K) (a:=fr) (xs:=ps) (fun i acc σ H4=>(∃ v0 v1,σ=[v0,v1,some (.ref p)])∧Same H H4∧H4 lq=some (.lst acc)∧acc.length=i∧Prs H4 acc ((N.forks.take i).map (zaL q))) ⟨⟨_,_,rfl⟩,zaa hlq _,zac,rfl,trivial⟩ (fun i acc σ H4 z=>⟨z.2.2.1,SqT.of (z.2.1 _ _ na.forks)⟩) ?_ ?_
 ·rintro i x acc σ H4 hx ⟨⟨v0,v1,rfl⟩,s4,h4,al,pr⟩
  obtain⟨a,g,rfl,eg,ha⟩:=(na.prs.tups (Tups.of s4)).get hx
  have okg:=ok.fk g (List.mem_of_getElem? eg)
  have il:i<ps.length:=(List.getElem?_eq_some_iff.mp hx).1
  have ig:i<N.forks.length:=(List.getElem?_eq_some_iff.mp eg).1
  refine⟨a,_,rfl,SqT.of ha,rfl,_,_,rfl,_,_,rfl,rfl,?_⟩
  refine⟨_,rfl,_,rfl,p,_,_,_,rfl,rfl,SqT.of (s4 _ _ hp),zdN (by lia),_,rfl,_,rfl,p,_,_,_,rfl,rfl,SqT.of (s4 _ _ hp),zdN (by lia),(by show 2≤sizeLine;decide),fun t ht=>?_⟩
  have s5:=zaa ht (.tup [.int (nmq q g.1:Nat),.int (nmq q g.2:Nat)])
  have h5:=s5 _ _ h4
  refine⟨h5,Nat.lt_of_lt_of_le (show _<1000 by lia) (by decide),nx il ⟨⟨_,_,rfl⟩,fun b o e=>?_,zac,by simp[al],?_⟩⟩
  ·rw[zag (zad e hlq)];exact s5 _ _ (s4 b o e)
  ·rw[List.take_succ_eq_append_getElem ig,List.map_append,(List.getElem?_eq_some_iff.mp eg).2]
   exact Prs.add (f:=zaL q g) (Tups.lst h5 _ _ (atNew ht _)) ((pr.tups (Tups.of s5)).tups (Tups.lst h5))
 rintro acc σ H4 ⟨⟨v0,v1,rfl⟩,s4,h4,al,pr⟩
 rw[pl,List.take_length]at pr
 refine⟨lq,_,rfl,.inl ⟨SqL.of h4,fun fr' hfr'=>?_⟩⟩
 have s5:=zaa hfr' (.tup acc)
 have h5:=atNew hfr' (.tup acc)
 have u5:=s4.trans s5
 have pr5:=pr.tups (Tups.of s5)
 generalize upd H4 fr' (.tup acc)=H5 at s5 h5 u5 pr5
 refine⟨_,rfl,er,rfl,⟨_,SqT.of (u5 _ _ na.ends)⟩,fun l hl=>?_⟩
 refine zdh (K:=K) (a:=er) (xs:=nums N.ends) (fun i acc σ H4=>(∃ v,σ=[v,some (.ref p)])∧Same H5 H4∧H4 l=some (.lst acc)∧acc=nums ((N.ends.take i).map (nmq q))) ⟨⟨_,rfl⟩,zaa hl _,zac,rfl⟩ (fun i acc σ H4 z=>⟨z.2.2.1,SqT.of (z.2.1 _ _ (u5 _ _ na.ends))⟩) ?_ ?_
 ·rintro i x acc σ H6 hx ⟨⟨v,rfl⟩,s6,h6,rfl⟩
  have il:i<N.ends.length:=by have:=(List.getElem?_eq_some_iff.mp hx).1;rwa [zae]at this
  have ex:x=.int N.ends[i]:=by
   unfold nums at hx
   rw[List.getElem?_map,List.getElem?_eq_getElem il]at hx;exact(Option.some.inj hx).symm
  subst ex
  have lt':=zbH ok (List.getElem_mem il)
  refine⟨_,rfl,_,rfl,p,_,_,_,rfl,rfl,SqT.of (s6 _ _ (u5 _ _ hp)),zdN (by lia),h6,?_,nx (by rw[zae];exact il) ⟨⟨_,rfl⟩,fun b o e=>?_,zac,?_⟩⟩
  ·rw[zae,List.length_map,List.length_take];exact Nat.lt_of_le_of_lt (Nat.min_le_left _ _) (Nat.lt_of_lt_of_le (show i<1000 by lia) (by decide))
  ·rw[zag (zad e hl)];exact s6 b o e
  ·rw[List.take_succ_eq_append_getElem il,List.map_append]
   unfold nums
   rw[List.map_append];rfl
 rintro acc σ H6 ⟨⟨v,rfl⟩,s6,h6,rfl⟩
 rw[zae,List.take_length]at h6
 refine⟨l,_,rfl,.inl ⟨SqL.of h6,fun er' her'=>?_⟩⟩
 have s7:=zaa her' (.tup (nums (N.ends.map (nmq q))))
 refine⟨(by show 2≤sizeLine;decide),fun t ht=>?_⟩
 have s8:=zaa ht (.tup [.ref fr',.ref er'])
 have u8:=(s6.trans s7).trans s8
 exact k t fr' er' acc _ (u5.trans u8) (atNew ht _) (u8 _ _ h5) (pr5.tups (Tups.of u8)) (s8 _ _ (atNew her' _))
end
abbrev zeF:Stmt:=top 1
theorem zi4 (n:Nat):(List.replicate n [V.int 0]).flatten=(List.replicate n (0:Int)).map V.int:=by
 induction n with
 | zero=>rfl
 | succ n ih=>rw[List.replicate_succ,List.flatten_cons,ih,List.replicate_succ];rfl
def zdA:Sp:=fun vs H Q _=>∃ r fr er ps N,vs=[.ref r]∧Nt.Ok N∧NetAt H r fr er ps N∧∀ p H',Same H H'→H' p=some (.tup ((zdi N).map V.int))→Q (.ref p) H'
section
variable {P:Program}{w:World}{K:PySem.W.Frag}{mg:Str→Option Value}{base:Heap}
theorem scLy:FnScope ["net","lanes","forks","ends","reached","found","one","other","layer"] ["net"] (zaf zeF):=⟨rfl,rfl,rfl,by decide +kernel,rfl,by decide +kernel,by decide +kernel⟩
theorem zgM {f:Addr}{fd:FuncData}(F:Fun K "layers" "layers" zeF f fd) (G:Mgs mg):FnOk P w K mg base CX0 1 f fd ["net"] zdA:=by
 refine F.ok scLy (fun vs H Q E h=>?_) (fun cdv A outer s H vs Q E hr h=>?_)
 ·obtain⟨r,fr,er,ps,N,rfl,_⟩:=h
  rfl
 obtain⟨r,fr,er,ps,N,rfl,ok,na,k⟩:=h
 refine⟨_,(@pss_cons _ _ _ _ _ (@ps_asg _ _ _ _ _ _ (@pv _ 0 _ _ (by rfl) (by first|exact Or.inl rfl|exact Or.inr (.inl rfl)|exact Or.inr (.inr rfl)) (by decide) (by decide)) (@zao _ _ _ _ _ _ rfl (@pgs_cons _ _ _ _ _ (@zab _ _ 1 _ scLy.nd rfl (.inl rfl) (by first|exact .inl rfl|exact .inr rfl|assumption)) (@pgs_cons _ _ _ _ _ (@zab _ _ 2 _ scLy.nd rfl (.inl rfl) (by first|exact .inl rfl|exact .inr rfl|assumption)) (@pgs_cons _ _ _ _ _ (@zab _ _ 3 _ scLy.nd rfl (.inl rfl) (by first|exact .inl rfl|exact .inr rfl|assumption)) pgs_nil (by rfl)) (by rfl)) (by rfl)) (by rfl) (by rfl)) (by rfl) (by rfl) (by rfl)) (@pss_cons _ _ _ _ _ (@zak _ _ 4 _ _ _ _ scLy.nd rfl (.inl rfl) (@pe_op _ _ _ _ _ _ _ _ zff (@zay _ _ _ _ (@pa_cons _ _ _ _ _ pe_int pa_nil (by rfl))) (@pv _ 1 _ _ (by rfl) (by first|exact Or.inl rfl|exact Or.inr (.inl rfl)|exact Or.inr (.inr rfl)) (by decide) (by decide))) (by rfl) (by first|exact .inl rfl|exact .inr rfl|assumption)) (@pss_cons _ _ _ _ _ (@zak _ _ 5 _ _ _ _ scLy.nd rfl (.inl rfl) (@zay _ _ _ _ pa_nil) (by rfl) (by first|exact .inl rfl|exact .inr rfl|assumption)) (@pss_cons _ _ _ _ _ (@zcG _ _ _ _ _ _ _ _ PassesOwn.never rfl (@zbY _ _ _ _ (@pv _ 2 _ _ (by rfl) (by first|exact Or.inl rfl|exact Or.inr (.inl rfl)|exact Or.inr (.inr rfl)) (by decide) (by decide))) (@zao _ _ _ _ _ _ rfl (@pgs_cons _ _ _ _ _ (@zab _ _ 6 _ scLy.nd rfl (.inl rfl) (by first|exact .inl rfl|exact .inr rfl|assumption)) (@pgs_cons _ _ _ _ _ (@zab _ _ 7 _ scLy.nd rfl (.inl rfl) (by first|exact .inl rfl|exact .inr rfl|assumption)) pgs_nil (by rfl)) (by rfl)) (by rfl) (by rfl)) (@pss_cons _ _ _ _ _ (@zak _ _ 8 _ _ _ _ scLy.nd rfl (.inl rfl) (@pe_op _ _ _ _ _ _ _ _ op_add pe_int (@zaj _ _ _ _ _ _ _ _ _ (zb7 rfl) (by rfl) G.max (by rfl) (@pa_cons _ _ _ _ _ (@pe_ix _ _ _ _ _ _ _ ix_list (@pv _ 4 _ _ (by rfl) (by first|exact Or.inl rfl|exact Or.inr (.inl rfl)|exact Or.inr (.inr rfl)) (by decide) (by decide)) (@pv _ 6 _ _ (by rfl) (by first|exact Or.inl rfl|exact Or.inr (.inl rfl)|exact Or.inr (.inr rfl)) (by decide) (by decide)) (fun _ _=>rfl)) (@pa_cons _ _ _ _ _ (@pe_ix _ _ _ _ _ _ _ ix_list (@pv _ 4 _ _ (by rfl) (by first|exact Or.inl rfl|exact Or.inr (.inl rfl)|exact Or.inr (.inr rfl)) (by decide) (by decide)) (@pv _ 7 _ _ (by rfl) (by first|exact Or.inl rfl|exact Or.inr (.inl rfl)|exact Or.inr (.inr rfl)) (by decide) (by decide)) (fun _ _=>rfl)) pa_nil (by rfl)) (by rfl)) (by decide) (by decide) (by rfl) (by rfl))) (by rfl) (by first|exact .inl rfl|exact .inr rfl|assumption)) (@pss_cons _ _ _ _ _ (@ps_asg _ _ _ _ _ _ (@pv _ 8 _ _ (by rfl) (by first|exact Or.inl rfl|exact Or.inr (.inl rfl)|exact Or.inr (.inr rfl)) (by decide) (by decide)) (@pg_sub _ _ _ _ _ _ _ (@pv _ 4 _ _ (by rfl) (by first|exact Or.inl rfl|exact Or.inr (.inl rfl)|exact Or.inr (.inr rfl)) (by decide) (by decide)) (@pv _ 6 _ _ (by rfl) (by first|exact Or.inl rfl|exact Or.inr (.inl rfl)|exact Or.inr (.inr rfl)) (by decide) (by decide)) set_list (by intro _;rfl)) (by rfl) (by rfl) (by rfl)) (@pss_cons _ _ _ _ _ (@ps_asg _ _ _ _ _ _ (@pv _ 8 _ _ (by rfl) (by first|exact Or.inl rfl|exact Or.inr (.inl rfl)|exact Or.inr (.inr rfl)) (by decide) (by decide)) (@pg_sub _ _ _ _ _ _ _ (@pv _ 4 _ _ (by rfl) (by first|exact Or.inl rfl|exact Or.inr (.inl rfl)|exact Or.inr (.inr rfl)) (by decide) (by decide)) (@pv _ 7 _ _ (by rfl) (by first|exact Or.inl rfl|exact Or.inr (.inl rfl)|exact Or.inr (.inr rfl)) (by decide) (by decide)) set_list (by intro _;rfl)) (by rfl) (by rfl) (by rfl)) (@pss_one _ _ _ (@ps_expr _ _ _ _ (@pe_bm _ _ _ _ _ _ _ _ _ _ _ _ PySem.F.plainAttrs_list PySem.F.slot_list_append PySem.F.type_list_append mt_append (@pv _ 5 _ _ (by rfl) (by first|exact Or.inl rfl|exact Or.inr (.inl rfl)|exact Or.inr (.inr rfl)) (by decide) (by decide)) (@pa_cons _ _ _ _ _ (@pv _ 8 _ _ (by rfl) (by first|exact Or.inl rfl|exact Or.inr (.inl rfl)|exact Or.inr (.inr rfl)) (by decide) (by decide)) pa_nil (by rfl)) (by rfl) (by rfl) (by rfl) (by rfl) (by rfl)) (by rfl)))))) (by intro _;rfl)) (@pss_one _ _ _ (@ps_ret _ _ _ _ (@pe_callTy _ _ _ _ _ _ _ _ _ call_tuple_of (by rfl) G.tuple (by rfl) (@pa_cons _ _ _ _ _ (@pv _ 5 _ _ (by rfl) (by first|exact Or.inl rfl|exact Or.inr (.inl rfl)|exact Or.inr (.inr rfl)) (by decide) (by decide)) pa_nil (by rfl)) (by decide) (by decide) (by rfl) (by rfl)))))))),?_⟩
 have l1:=ok.l1
 have l16:=ok.l16
 have fm:=ok.fm
 have pl:=na.prs.len
 have tn:((N.lanes:Nat):Int).toNat=N.lanes:=by lia
 refine⟨_,rfl,r,_,rfl,SqT.of na.net,rfl,_,_,rfl,_,_,rfl,_,_,rfl,rfl,?_⟩
 refine⟨(by show 1≤sizeLine;decide),fun p1 hp1=>?_⟩
 have s1:=zaa hp1 (.lst [.int 0])
 refine⟨_,rfl,p1,N.lanes,_,rfl,rfl,zac,by lia,by lia,by show 1*_≤sizeLine;rw[sizeLine_eq];lia,fun lr hlr=>?_⟩
 have s2:=s1.trans (zaa hlr (.lst (List.replicate ((N.lanes:Int)).toNat [V.int 0]).flatten))
 have hlr0:H lr=none:=by
  cases z:H lr with
  | none=>rfl
  | some o=>exact absurd (s1 _ _ z) (by rw[hlr];exact fun w=>nomatch w)
 refine⟨(by show 0≤sizeLine;decide),fun lf hlf=>?_⟩
 have s3:=s2.trans (zaa hlf (.lst []))
 have hlf0:H lf=none:=by
  cases z:H lf with
  | none=>rfl
  | some o=>exact absurd (s2 _ _ z) (by rw[hlf];exact fun w=>nomatch w)
 have nrf:lr≠lf:=zad zac hlf
 refine⟨_,rfl,fr,rfl,⟨_,SqT.of (s3 _ _ na.forks)⟩,?_⟩
 refine zg6 (K:=K) (a:=fr) (xs:=ps) (fun i σ H2=>(∃ v6 v7 v8,σ=[some (.ref r),some (.int N.lanes),some (.ref fr),some (.ref er),some (.ref lr),some (.ref lf),v6,v7,v8])∧Same H H2∧H2 lr=some (.lst ((lay N.lanes (N.forks.take i)).1.map V.int))∧H2 lf=some (.lst ((lay N.lanes (N.forks.take i)).2.map V.int)))
  ⟨⟨_,_,_,rfl⟩,s3,by rw[zag nrf,zac,tn,zi4];rfl,zac⟩ (fun i σ H2 _ q=>SqT.of (q.2.1 _ _ na.forks)) ?_ ?_
 ·rintro i p σ H2 hp ⟨⟨v6,v7,v8,rfl⟩,s4,h1,h2⟩
  obtain⟨a,g,rfl,eg,ha⟩:=(na.prs.tups (Tups.of s4)).get hp
  have okg:=ok.fk g (List.mem_of_getElem? eg)
  have ig:i<N.forks.length:=(List.getElem?_eq_some_iff.mp eg).1
  have ln:=zcv (n:=N.lanes) i N.forks (by lia)
  have lx:=zdR (n:=N.lanes) eg
  generalize lay N.lanes (N.forks.take i)=st at *
  refine⟨a,_,rfl,SqT.of ha,rfl,_,_,rfl,_,_,rfl,rfl,?_⟩
  refine⟨_,rfl,_,rfl,lr,_,_,_,rfl,rfl,SqL.of h1,zez (by lia),_,rfl,_,rfl,lr,_,_,_,rfl,rfl,SqL.of h1,zez (by lia),_,_,rfl,_,_,rfl,rfl,?_⟩
  refine⟨_,rfl,_,rfl,_,rfl,lr,_,_,g.1,rfl,rfl,h1,zh5 (by rw[List.length_map];lia),?_⟩
  refine⟨_,rfl,_,rfl,_,rfl,lr,_,_,g.2,rfl,rfl,zac,zh5 (by rw[List.length_set,List.length_map];lia),?_⟩
  have h3:∀ x y,L2.upd (L2.upd H2 lr x) lr y lf=some (.lst (st.2.map V.int)):=fun x y=>by rw[zag nrf.symm,zag nrf.symm];exact h2
  refine⟨_,rfl,.inl ⟨rfl,_,SqL.of (h3 _ _)⟩,_,rfl,lf,_,_,rfl,rfl,h3 _ _,by rw[List.length_map,ln.2];exact Nat.lt_of_lt_of_le (show i<1000 by lia) (by decide),⟨_,_,_,rfl⟩,fun b o e=>?_,?_,?_⟩
  ·rw[zag (zad e hlf0),zag (zad e hlr0),zag (zad e hlr0)];exact s4 b o e
  ·rw[zag nrf,zac,lx]
   unfold zbg
   rw[zcs,zcs];rfl
  ·rw[zac,lx]
   unfold zbg
   rw[List.map_append];rfl
 ·rintro σ H2 ⟨⟨v6,v7,v8,rfl⟩,s4,h1,h2⟩
  rw[pl,List.take_length]at h2
  exact⟨_,rfl,lf,_,rfl,.inl ⟨SqL.of h2,fun q hq=>k q _ (s4.trans (zaa hq _)) zac⟩⟩
end
abbrev zgq:Stmt:=top 2
def zbk:Sp:=fun vs H Q _=>∃ r fr er ps N,vs=[.ref r]∧Nt.Ok N∧NetAt H r fr er ps N∧∀ r' fr' ps' H',Same H H'→NetAt H' r' fr' er ps' (zal N)→Q (.ref r') H'
section
variable {P:Program}{w:World}{K:PySem.W.Frag}{mg:Str→Option Value}{base:Heap}
theorem scPl:FnScope ["net","lanes","forks","ends"] ["net"] (zaf zgq):=⟨rfl,rfl,rfl,by decide +kernel,rfl,by decide +kernel,by decide +kernel⟩
theorem zhR {f fY:Addr}{fd dY:FuncData}(F:Fun K "plain" "plain" zgq f fd) (G:Mgs mg) (UY:Use P w K mg base "layers" ["net"] 1 zdA fY dY):FnOk P w K mg base CX0 2 f fd ["net"] zbk:=by
 refine F.ok scPl (fun vs H Q E h=>?_) (fun cdv A outer s H vs Q E hr h=>?_)
 ·obtain⟨r,fr,er,ps,N,rfl,_⟩:=h
  rfl
 obtain⟨r,fr,er,ps,N,rfl,ok,na,k⟩:=h
 refine⟨_,(@pss_cons _ _ _ _ _ (@ps_asg _ _ _ _ _ _ (@pv _ 0 _ _ (by rfl) (by first|exact Or.inl rfl|exact Or.inr (.inl rfl)|exact Or.inr (.inr rfl)) (by decide) (by decide)) (@zao _ _ _ _ _ _ rfl (@pgs_cons _ _ _ _ _ (@zab _ _ 1 _ scPl.nd rfl (.inl rfl) (by first|exact .inl rfl|exact .inr rfl|assumption)) (@pgs_cons _ _ _ _ _ (@zab _ _ 2 _ scPl.nd rfl (.inl rfl) (by first|exact .inl rfl|exact .inr rfl|assumption)) (@pgs_cons _ _ _ _ _ (@zab _ _ 3 _ scPl.nd rfl (.inl rfl) (by first|exact .inl rfl|exact .inr rfl|assumption)) pgs_nil (by rfl)) (by rfl)) (by rfl)) (by rfl) (by rfl)) (by rfl) (by rfl) (by rfl)) (@pss_one _ _ _ (@ps_ret _ _ _ _ (@pe_tup _ _ _ _ _ (@pa_cons _ _ _ _ _ (@pv _ 1 _ _ (by rfl) (by first|exact Or.inl rfl|exact Or.inr (.inl rfl)|exact Or.inr (.inr rfl)) (by decide) (by decide)) (@pa_cons _ _ _ _ _ (@pe_callTy _ _ _ _ _ _ _ _ _ call_tuple_of (by rfl) G.tuple (by rfl) (@pa_cons _ _ _ _ _ (@pe_lc _ _ _ _ none _ _ _ (gTup K 2 (zcS (zch 0) (zcS (zch 1) gNil))) _ _ ["layer","fork"] [none,none] rfl (@zeN _ _ _ _ (@zfC _ _ _ _ _ _ _ _ false false (by rfl) G.sorted (by rfl) G.zip rfl hr.units (@pa_cons _ _ _ _ _ (@pe_call _ _ _ _ _ _ _ _ _ _ _ _ _ _ _ _ UY.ok hr (by rfl) UY.m UY.kp UY.b .nil pass0 (@pa_cons _ _ _ _ _ (@pv _ 0 _ _ (by rfl) (by first|exact Or.inl rfl|exact Or.inr (.inl rfl)|exact Or.inr (.inr rfl)) (by decide) (by decide)) pa_nil (by rfl)) (by decide) (by rfl) (by rfl)) (@pa_cons _ _ _ _ _ (@pv _ 2 _ _ (by rfl) (by first|exact Or.inl rfl|exact Or.inr (.inl rfl)|exact Or.inr (.inr rfl)) (by decide) (by decide)) pa_nil (by rfl)) (by rfl)) (by rfl) (by rfl) (by rfl))) (CapOk.of (by kernel_rfl)) (fun _ _ _ _ _=>(@zao _ _ _ _ _ _ rfl (@pgs_cons _ _ _ _ _ (@zab _ _ 0 _ (show (["layer","fork"]:List Str).Nodup from by decide +kernel) rfl (.inl rfl) (.inr rfl)) (@pgs_cons _ _ _ _ _ (@zab _ _ 1 _ (show (["layer","fork"]:List Str).Nodup from by decide +kernel) rfl (.inl rfl) (.inr rfl)) pgs_nil (by rfl)) (by rfl)) (by rfl) (by rfl))) (fun _ _ _ _ _=>zaV) (fun _ _ _ _ _=>(@pv _ 1 _ _ (by rfl) (by first|exact Or.inl rfl|exact Or.inr (.inl rfl)|exact Or.inr (.inr rfl)) (by decide) (by decide))) (by intro _;rfl)) pa_nil (by rfl)) (by decide) (by decide) (by rfl) (by rfl)) (@pa_cons _ _ _ _ _ (@pv _ 3 _ _ (by rfl) (by first|exact Or.inl rfl|exact Or.inr (.inl rfl)|exact Or.inr (.inr rfl)) (by decide) (by decide)) pa_nil (by rfl)) (by rfl)) (by rfl)))))),?_⟩
 have fm:=ok.fm
 have pl:=na.prs.len
 have ll:=zfN N
 refine⟨_,rfl,r,_,rfl,SqT.of na.net,rfl,_,_,rfl,_,_,rfl,_,_,rfl,rfl,?_⟩
 refine⟨_,rfl,_,rfl,r,fr,er,ps,N,rfl,ok,na,fun p H1 s1 hp=>?_⟩
 have na1:=na.tups (Tups.of s1)
 refine⟨_,rfl,p,fr,_,ps,rfl,SqT.of hp,SqT.of na1.forks,by rw[List.length_map];lia,by rw[List.length_map];lia,fun ts H2 s2 z2=>?_⟩
 have na2:=na1.tups (Tups.of s2)
 obtain⟨te,tr⟩:=zio z2 na2.prs
 rw[← zid]at te
 have low:∀ x∈ts,(dec H2 x).2.1<32∧(dec H2 x).2.2<32:=fun x hx=>zee ok _ (by rw[← te];exact List.mem_map.mpr ⟨x,hx,rfl⟩)
 refine⟨fun x=>rnk (dec H2 x),.inr ⟨2,by decide,fun x hx=>⟨?_,fun y hy=>zih (tr x hx) (tr y hy) (low x hx) (low y hy)⟩⟩,fun l zs hl pm so=>?_⟩
 ·obtain⟨t,g,rfl,h1,_⟩:=tr x hx
  exact⟨t,_,_,rfl,h1⟩
 have s3:=zaa hl (.lst zs)
 have zl:zs.length=N.forks.length:=by rw[pm.length_eq,z2.1,List.length_map];exact ll
 have ze:zs.map (dec H2)=zdS (pz N):=zbq ok (by rw[← te];exact pm.map _) (List.pairwise_map.mpr so)
 have trz:∀ x∈zs,Trp H2 x (dec H2 x):=fun x hx=>tr x (pm.mem_iff.mp hx)
 refine⟨l,rfl,⟨_,SqL.of (atNew hl (.lst zs))⟩,fun lq hlq=>?_⟩
 refine zgX (K:=K) (a:=l) (xs:=zs) (fun j acc σ H4=>(∃ v0 v1,σ=[v0,v1])∧Same H2 H4∧H4 l=some (.lst zs)∧H4 lq=some (.lst acc)∧acc.length=j∧Prs H4 acc ((zs.take j).map fun x=>(dec H2 x).2)) ⟨⟨_,_,rfl⟩,s3.trans (zaa hlq _),zaa hlq _ _ _ (atNew hl (.lst zs)),zac,rfl,trivial⟩ (fun j acc σ H4 q=>⟨q.2.2.2.1,SqL.of q.2.2.1⟩) ?_ ?_
 ·rintro j x acc σ H4 hx ⟨⟨v0,v1,rfl⟩,s4,l4,h4,al,pr⟩
  have jl:=(List.getElem?_eq_some_iff.mp hx).1
  obtain⟨t,g,e,h1,h2⟩:=trz x (List.mem_of_getElem? hx)
  have ne:lq≠l:=by rintro rfl;rw[atNew hl (.lst zs)]at hlq;cases hlq
  have keep:Same H2 (upd H4 lq (.lst (acc++[.ref g]))):=fun b o e=>by rw[zag (zad (s3 b o e) hlq)];exact s4 b o e
  refine⟨t,_,e,SqT.of (s4 _ _ h1),rfl,_,_,rfl,_,_,rfl,rfl,_,rfl,h4,Nat.lt_of_lt_of_le (show _<1000 by lia) (by decide),nx jl ⟨⟨_,_,rfl⟩,keep,by rw[zag ne.symm];exact l4,zac,by simp[al],?_⟩⟩
  have xe:zs[j]=x:=(List.getElem?_eq_some_iff.mp hx).2
  rw[List.take_succ_eq_append_getElem jl,List.map_append,xe]
  exact Prs.add (f:=(dec H2 x).2) (keep _ _ h2) (pr.tups (Tups.lst h4))
 ·rintro acc σ H4 ⟨⟨v0,v1,rfl⟩,s4,l4,h4,al,pr⟩
  rw[List.take_length]at pr
  have pe:(zs.map fun x=>(dec H2 x).2)=zbj N:=by
   unfold zbj
   rw[← ze,List.map_map];rfl
  rw[pe]at pr
  refine⟨lq,_,rfl,.inl ⟨SqL.of h4,fun q hq=>?_⟩⟩
  have s5:=zaa hq (.tup acc)
  refine⟨_,rfl,(by show 3≤sizeLine;decide),fun r' hr'=>?_⟩
  have s6:=zaa hr' (.tup [.int N.lanes,.ref q,.ref er])
  refine k r' q acc _ ((((s1.trans s2).trans s4).trans s5).trans s6) ⟨atNew hr' _,s6 _ _ (atNew hq _),pr.tups (Tups.of (s5.trans s6)),?_⟩
  exact s6 _ _ (s5 _ _ (s4 _ _ na2.ends))
end
abbrev zeH:Stmt:=top 16
def zbS:Sp:=fun vs H Q _=>∃ r fr er ps A r2 fr2 er2 ps2 B,vs=[.ref r,.ref r2]∧Nt.Ok A∧NetAt H r fr er ps A∧Nt.Ok B∧NetAt H r2 fr2 er2 ps2 B∧B.lanes=A.lanes∧A.forks.length+B.forks.length≤128∧∀ r' fr' er' ps' H',Same H H'→NetAt H' r' fr' er' ps' (zal (zaM A B))→Q (.ref r') H'
section
variable {P:Program}{w:World}{K:PySem.W.Frag}{mg:Str→Option Value}{base:Heap}
theorem scJb:FnScope ["one","other","lanes","forks","ends","more_forks","more_ends"] ["one","other"] (zaf zeH):=⟨rfl,rfl,rfl,by decide +kernel,rfl,by decide +kernel,by decide +kernel⟩
theorem zgO {f fC fP:Addr}{fd dC dP:FuncData}(F:Fun K "behind" "behind" zeH f fd) (UC:Use P w K mg base "called" ["net","names"] 1 zbQ fC dC) (UP:Use P w K mg base "plain" ["net"] 2 zbk fP dP):FnOk P w K mg base CX0 3 f fd ["one","other"] zbS:=by
 refine F.ok scJb (fun vs H Q E h=>?_) (fun cdv A outer s H vs Q E hr h=>?_)
 ·obtain⟨r,fr,er,ps,A,r2,fr2,er2,ps2,B,rfl,_⟩:=h
  rfl
 obtain⟨r,fr,er,ps,N,r2,fr2,er2,ps2,B,rfl,ok,na,okb,nb,hl,fm,k⟩:=h
 have hr1:Room 1 _:=hr.mono (by decide)
 refine⟨_,(@pss_cons _ _ _ _ _ (@ps_asg _ _ _ _ _ _ (@pv _ 0 _ _ (by rfl) (by first|exact Or.inl rfl|exact Or.inr (.inl rfl)|exact Or.inr (.inr rfl)) (by decide) (by decide)) (@zao _ _ _ _ _ _ rfl (@pgs_cons _ _ _ _ _ (@zab _ _ 2 _ scJb.nd rfl (.inl rfl) (by first|exact .inl rfl|exact .inr rfl|assumption)) (@pgs_cons _ _ _ _ _ (@zab _ _ 3 _ scJb.nd rfl (.inl rfl) (by first|exact .inl rfl|exact .inr rfl|assumption)) (@pgs_cons _ _ _ _ _ (@zab _ _ 4 _ scJb.nd rfl (.inl rfl) (by first|exact .inl rfl|exact .inr rfl|assumption)) pgs_nil (by rfl)) (by rfl)) (by rfl)) (by rfl) (by rfl)) (by rfl) (by rfl) (by rfl)) (@pss_cons _ _ _ _ _ (@ps_asg _ _ _ _ _ _ (@pe_call _ _ _ _ _ _ _ _ _ _ _ _ _ _ _ _ UC.ok hr1 (by rfl) UC.m UC.kp UC.b .nil pass0 (@pa_cons _ _ _ _ _ (@pv _ 1 _ _ (by rfl) (by first|exact Or.inl rfl|exact Or.inr (.inl rfl)|exact Or.inr (.inr rfl)) (by decide) (by decide)) (@pa_cons _ _ _ _ _ (@pv _ 4 _ _ (by rfl) (by first|exact Or.inl rfl|exact Or.inr (.inl rfl)|exact Or.inr (.inr rfl)) (by decide) (by decide)) pa_nil (by rfl)) (by rfl)) (by decide) (by rfl) (by rfl)) (@zao _ _ _ _ _ _ rfl (@pgs_cons _ _ _ _ _ (@zab _ _ 5 _ scJb.nd rfl (.inl rfl) (by first|exact .inl rfl|exact .inr rfl|assumption)) (@pgs_cons _ _ _ _ _ (@zab _ _ 6 _ scJb.nd rfl (.inl rfl) (by first|exact .inl rfl|exact .inr rfl|assumption)) pgs_nil (by rfl)) (by rfl)) (by rfl) (by rfl)) (by rfl) (by rfl) (by rfl)) (@pss_one _ _ _ (@ps_ret _ _ _ _ (@pe_call _ _ _ _ _ _ _ _ _ _ _ _ _ _ _ _ UP.ok hr (by rfl) UP.m UP.kp UP.b .nil pass0 (@pa_cons _ _ _ _ _ (@pe_tup _ _ _ _ _ (@pa_cons _ _ _ _ _ (@pv _ 2 _ _ (by rfl) (by first|exact Or.inl rfl|exact Or.inr (.inl rfl)|exact Or.inr (.inr rfl)) (by decide) (by decide)) (@pa_cons _ _ _ _ _ (@pe_op _ _ _ _ _ _ _ _ zcd (@pv _ 3 _ _ (by rfl) (by first|exact Or.inl rfl|exact Or.inr (.inl rfl)|exact Or.inr (.inr rfl)) (by decide) (by decide)) (@pv _ 5 _ _ (by rfl) (by first|exact Or.inl rfl|exact Or.inr (.inl rfl)|exact Or.inr (.inr rfl)) (by decide) (by decide))) (@pa_cons _ _ _ _ _ (@pv _ 6 _ _ (by rfl) (by first|exact Or.inl rfl|exact Or.inr (.inl rfl)|exact Or.inr (.inr rfl)) (by decide) (by decide)) pa_nil (by rfl)) (by rfl)) (by rfl))) pa_nil (by rfl)) (by decide) (by rfl) (by rfl)))))),?_⟩
 have pl:=na.prs.len
 refine⟨_,rfl,r,_,rfl,SqT.of na.net,rfl,_,_,rfl,_,_,rfl,_,_,rfl,rfl,?_⟩
 refine⟨_,rfl,_,rfl,r2,fr2,er2,ps2,B,er,N.ends,rfl,okb,nb,na.ends,by rw[zaH ok,hl];exact Nat.le_refl _,fun t f1 e1 p1 H1 s1 ht hf1 pf1 he1=>?_⟩
 refine⟨t,_,rfl,SqT.of ht,rfl,_,_,rfl,_,_,rfl,rfl,?_⟩
 have na1:=na.tups (Tups.of s1)
 have pl1:=pf1.len
 rw[List.length_map]at pl1
 refine⟨_,rfl,_,rfl,_,rfl,fr,f1,ps,p1,rfl,rfl,na1.forks,hf1,by rw[sizeLine_eq];lia,fun f2 H2 s2 hf2=>?_⟩
 refine⟨_,rfl,(by show 3≤sizeLine;decide),fun r3 hr3=>?_⟩
 have s3:=zaa hr3 (.tup [.int N.lanes,.ref f2,.ref e1])
 have u3:=s2.trans s3
 exact⟨r3,f2,e1,_,zaM N B,rfl,zbu ok okb hl fm,⟨atNew hr3 _,s3 _ _ hf2,(Prs.app na1.prs pf1).tups (Tups.of u3),u3 _ _ he1⟩,fun r' fr' ps' H' s' n'=>k r' fr' e1 ps' H' ((s1.trans u3).trans s') n'⟩
end
abbrev zfa:Stmt:=top 20
def zcC:Sp:=fun vs H Q _=>∃ r fr er ps N p q,vs=[.ref r,.ref p]∧Nt.Ok N∧NetAt H r fr er ps N∧H p=some (.lst (nums q))∧N.lanes≤q.length ∧
 ∀ t fr' er' ps' H',Same H H'→H' t=some (.tup [.ref fr',.ref er'])→H' fr'=some (.tup ps')→Prs H' ps' (N.forks.map (zaL q))→H' er'=some (.tup (nums (N.ends.map (nmq q))))→Q (.ref t) H'
section
variable {P:Program}{w:World}{K:PySem.W.Frag}{mg:Str→Option Value}{base:Heap}
theorem zhA:FnScope ["net","names","lanes","forks","ends"] ["net","names"] (zaf zfa):=⟨rfl,rfl,rfl,by decide +kernel,rfl,by decide +kernel,by decide +kernel⟩
theorem zfJ {f:Addr}{fd:FuncData}(F:Fun K "called" "called" zfa f fd) (G:Mgs mg):FnOk P w K mg base CX0 1 f fd ["net","names"] zcC:=by
 refine F.ok zhA (fun vs H Q E h=>?_) (fun cdv A outer s H vs Q E hr h=>?_)
 ·obtain⟨r,fr,er,ps,N,p,q,rfl,_⟩:=h
  rfl
 obtain⟨r,fr,er,ps,N,p,q,rfl,ok,na,hp,ql,k⟩:=h
 refine⟨_,(@pss_cons _ _ _ _ _ (@ps_asg _ _ _ _ _ _ (@pv _ 0 _ _ (by rfl) (by first|exact Or.inl rfl|exact Or.inr (.inl rfl)|exact Or.inr (.inr rfl)) (by decide) (by decide)) (@zao _ _ _ _ _ _ rfl (@pgs_cons _ _ _ _ _ (@zab _ _ 2 _ zhA.nd rfl (.inl rfl) (by first|exact .inl rfl|exact .inr rfl|assumption)) (@pgs_cons _ _ _ _ _ (@zab _ _ 3 _ zhA.nd rfl (.inl rfl) (by first|exact .inl rfl|exact .inr rfl|assumption)) (@pgs_cons _ _ _ _ _ (@zab _ _ 4 _ zhA.nd rfl (.inl rfl) (by first|exact .inl rfl|exact .inr rfl|assumption)) pgs_nil (by rfl)) (by rfl)) (by rfl)) (by rfl) (by rfl)) (by rfl) (by rfl) (by rfl)) (@pss_one _ _ _ (@ps_ret _ _ _ _ (@pe_tup _ _ _ _ _ (@pa_cons _ _ _ _ _ (@pe_callTy _ _ _ _ _ _ _ _ _ call_tuple_of (by rfl) G.tuple (by rfl) (@pa_cons _ _ _ _ _ (@pe_lc _ _ _ _ none _ _ _ (gTup K 2 (zcS (zch 0) (zcS (zch 1) gNil))) _ _ ["one","other","names"] [none,none,some 1] rfl (@zbY _ _ _ _ (@pv _ 3 _ _ (by rfl) (by first|exact Or.inl rfl|exact Or.inr (.inl rfl)|exact Or.inr (.inr rfl)) (by decide) (by decide))) (CapOk.of (by kernel_rfl)) (fun _ _ _ _ _=>(@zao _ _ _ _ _ _ rfl (@pgs_cons _ _ _ _ _ (@zab _ _ 0 _ (show (["one","other","names"]:List Str).Nodup from by decide +kernel) rfl (.inl rfl) (.inr rfl)) (@pgs_cons _ _ _ _ _ (@zab _ _ 1 _ (show (["one","other","names"]:List Str).Nodup from by decide +kernel) rfl (.inl rfl) (.inr rfl)) pgs_nil (by rfl)) (by rfl)) (by rfl) (by rfl))) (fun _ _ _ _ _=>zaV) (fun _ _ _ _ _=>(@pe_tup _ _ _ _ _ (@pa_cons _ _ _ _ _ (@pe_ix _ _ _ _ _ _ (rIxL K) ix_list (@pv _ 2 _ _ (by rfl) (by first|exact Or.inl rfl|exact Or.inr (.inl rfl)|exact Or.inr (.inr rfl)) (by decide) (by decide)) (@pv _ 0 _ _ (by rfl) (by first|exact Or.inl rfl|exact Or.inr (.inl rfl)|exact Or.inr (.inr rfl)) (by decide) (by decide)) (fun _ _=>rfl)) (@pa_cons _ _ _ _ _ (@pe_ix _ _ _ _ _ _ (rIxL K) ix_list (@pv _ 2 _ _ (by rfl) (by first|exact Or.inl rfl|exact Or.inr (.inl rfl)|exact Or.inr (.inr rfl)) (by decide) (by decide)) (@pv _ 1 _ _ (by rfl) (by first|exact Or.inl rfl|exact Or.inr (.inl rfl)|exact Or.inr (.inr rfl)) (by decide) (by decide)) (fun _ _=>rfl)) pa_nil (by rfl)) (by rfl)))) (by intro _;rfl)) pa_nil (by rfl)) (by decide) (by decide) (by rfl) (by rfl)) (@pa_cons _ _ _ _ _ (@pe_callTy _ _ _ _ _ _ _ _ _ call_tuple_of (by rfl) G.tuple (by rfl) (@pa_cons _ _ _ _ _ (@pe_lc _ _ _ _ none _ _ _ _ _ _ ["lane","names"] [none,some 1] rfl (@zbY _ _ _ _ (@pv _ 4 _ _ (by rfl) (by first|exact Or.inl rfl|exact Or.inr (.inl rfl)|exact Or.inr (.inr rfl)) (by decide) (by decide))) (CapOk.of (by kernel_rfl)) (fun _ _ _ _ _=>(@zab _ _ 0 _ (show (["lane","names"]:List Str).Nodup from by decide +kernel) rfl (.inl rfl) (.inr rfl))) (fun _ _ _ _ _=>zaV) (fun _ _ _ _ _=>(@pe_ix _ _ _ _ _ _ (rIxL K) ix_list (@pv _ 1 _ _ (by rfl) (by first|exact Or.inl rfl|exact Or.inr (.inl rfl)|exact Or.inr (.inr rfl)) (by decide) (by decide)) (@pv _ 0 _ _ (by rfl) (by first|exact Or.inl rfl|exact Or.inr (.inl rfl)|exact Or.inr (.inr rfl)) (by decide) (by decide)) (fun _ _=>rfl))) (by intro _;rfl)) pa_nil (by rfl)) (by decide) (by decide) (by rfl) (by rfl)) pa_nil (by rfl)) (by rfl)))))),?_⟩
 have l16:=ok.l16
 have fm:=ok.fm
 have pl:=na.prs.len
 have el:=zaH ok
 refine⟨_,rfl,r,_,rfl,SqT.of na.net,rfl,_,_,rfl,_,_,rfl,_,_,rfl,rfl,?_⟩
 refine⟨_,rfl,fr,rfl,⟨_,SqT.of na.forks⟩,fun lq hlq=>?_⟩
 refine zdh (K:=K) (a:=fr) (xs:=ps) (fun i acc σ H4=>(∃ v0 v1,σ=[v0,v1,some (.ref p)])∧Same H H4∧H4 lq=some (.lst acc)∧acc.length=i∧Prs H4 acc ((N.forks.take i).map (zaL q))) ⟨⟨_,_,rfl⟩,zaa hlq _,zac,rfl,trivial⟩ (fun i acc σ H4 z=>⟨z.2.2.1,SqT.of (z.2.1 _ _ na.forks)⟩) ?_ ?_
 ·rintro i x acc σ H4 hx ⟨⟨v0,v1,rfl⟩,s4,h4,al,pr⟩
  obtain⟨a,g,rfl,eg,ha⟩:=(na.prs.tups (Tups.of s4)).get hx
  have okg:=ok.fk g (List.mem_of_getElem? eg)
  have il:i<ps.length:=(List.getElem?_eq_some_iff.mp hx).1
  have ig:i<N.forks.length:=(List.getElem?_eq_some_iff.mp eg).1
  refine⟨a,_,rfl,SqT.of ha,rfl,_,_,rfl,_,_,rfl,rfl,?_⟩
  refine⟨_,rfl,_,rfl,p,_,_,_,rfl,rfl,SqL.of (s4 _ _ hp),zdN (by lia),_,rfl,_,rfl,p,_,_,_,rfl,rfl,SqL.of (s4 _ _ hp),zdN (by lia),(by show 2≤sizeLine;decide),fun t ht=>?_⟩
  have s5:=zaa ht (.tup [.int (nmq q g.1:Nat),.int (nmq q g.2:Nat)])
  have h5:=s5 _ _ h4
  refine⟨h5,Nat.lt_of_lt_of_le (show _<1000 by lia) (by decide),nx il ⟨⟨_,_,rfl⟩,fun b o e=>?_,zac,by simp[al],?_⟩⟩
  ·rw[zag (zad e hlq)];exact s5 _ _ (s4 b o e)
  ·rw[List.take_succ_eq_append_getElem ig,List.map_append,(List.getElem?_eq_some_iff.mp eg).2]
   exact Prs.add (f:=zaL q g) (Tups.lst h5 _ _ (atNew ht _)) ((pr.tups (Tups.of s5)).tups (Tups.lst h5))
 rintro acc σ H4 ⟨⟨v0,v1,rfl⟩,s4,h4,al,pr⟩
 rw[pl,List.take_length]at pr
 refine⟨lq,_,rfl,.inl ⟨SqL.of h4,fun fr' hfr'=>?_⟩⟩
 have s5:=zaa hfr' (.tup acc)
 have h5:=atNew hfr' (.tup acc)
 have u5:=s4.trans s5
 have pr5:=pr.tups (Tups.of s5)
 generalize upd H4 fr' (.tup acc)=H5 at s5 h5 u5 pr5
 refine⟨_,rfl,er,rfl,⟨_,SqT.of (u5 _ _ na.ends)⟩,fun l hl=>?_⟩
 refine zdh (K:=K) (a:=er) (xs:=nums N.ends) (fun i acc σ H4=>(∃ v,σ=[v,some (.ref p)])∧Same H5 H4∧H4 l=some (.lst acc)∧acc=nums ((N.ends.take i).map (nmq q))) ⟨⟨_,rfl⟩,zaa hl _,zac,rfl⟩ (fun i acc σ H4 z=>⟨z.2.2.1,SqT.of (z.2.1 _ _ (u5 _ _ na.ends))⟩) ?_ ?_
 ·rintro i x acc σ H6 hx ⟨⟨v,rfl⟩,s6,h6,rfl⟩
  have il:i<N.ends.length:=by have:=(List.getElem?_eq_some_iff.mp hx).1;rwa [zae]at this
  have ex:x=.int N.ends[i]:=by
   unfold nums at hx
   rw[List.getElem?_map,List.getElem?_eq_getElem il]at hx;exact(Option.some.inj hx).symm
  subst ex
  have lt':=zbH ok (List.getElem_mem il)
  refine⟨_,rfl,_,rfl,p,_,_,_,rfl,rfl,SqL.of (s6 _ _ (u5 _ _ hp)),zdN (by lia),h6,?_,nx (by rw[zae];exact il) ⟨⟨_,rfl⟩,fun b o e=>?_,zac,?_⟩⟩
  ·rw[zae,List.length_map,List.length_take];exact Nat.lt_of_le_of_lt (Nat.min_le_left _ _) (Nat.lt_of_lt_of_le (show i<1000 by lia) (by decide))
  ·rw[zag (zad e hl)];exact s6 b o e
  ·rw[List.take_succ_eq_append_getElem il,List.map_append]
   unfold nums
   rw[List.map_append];rfl
 rintro acc σ H6 ⟨⟨v,rfl⟩,s6,h6,rfl⟩
 rw[zae,List.take_length]at h6
 refine⟨l,_,rfl,.inl ⟨SqL.of h6,fun er' her'=>?_⟩⟩
 have s7:=zaa her' (.tup (nums (N.ends.map (nmq q))))
 refine⟨(by show 2≤sizeLine;decide),fun t ht=>?_⟩
 have s8:=zaa ht (.tup [.ref fr',.ref er'])
 have u8:=(s6.trans s7).trans s8
 exact k t fr' er' acc _ (u5.trans u8) (atNew ht _) (u8 _ _ h5) (pr5.tups (Tups.of u8)) (s8 _ _ (atNew her' _))
end
abbrev zeG:Stmt:=top 17
def zbR:Sp:=fun vs H Q _=>∃ r fr er ps A r2 fr2 er2 ps2 B,vs=[.ref r,.ref r2]∧Nt.Ok A∧NetAt H r fr er ps A∧Nt.Ok B∧NetAt H r2 fr2 er2 ps2 B∧A.lanes+B.lanes≤16∧A.forks.length+B.forks.length≤128∧∀ r' fr' er' ps' H',Same H H'→NetAt H' r' fr' er' ps' (zal (zaw A B))→Q (.ref r') H'
theorem zhW (a b:List Nat):nums a++nums b=nums (a++b):=by unfold nums;rw[List.map_append]
section
variable {P:Program}{w:World}{K:PySem.W.Frag}{mg:Str→Option Value}{base:Heap}
theorem scJs:FnScope ["one","other","lanes","forks","ends","more_forks","more_ends"] ["one","other"] (zaf zeG):=⟨rfl,rfl,rfl,by decide +kernel,rfl,by decide +kernel,by decide +kernel⟩
theorem zgN {f fC fP:Addr}{fd dC dP:FuncData}(F:Fun K "beside" "beside" zeG f fd) (G:Mgs mg) (UC:Use P w K mg base "called" ["net","names"] 1 zcC fC dC) (UP:Use P w K mg base "plain" ["net"] 2 zbk fP dP):FnOk P w K mg base CX0 3 f fd ["one","other"] zbR:=by
 refine F.ok scJs (fun vs H Q E h=>?_) (fun cdv A outer s H vs Q E hr h=>?_)
 ·obtain⟨r,fr,er,ps,A,r2,fr2,er2,ps2,B,rfl,_⟩:=h
  rfl
 obtain⟨r,fr,er,ps,N,r2,fr2,er2,ps2,B,rfl,ok,na,okb,nb,hl,fm,k⟩:=h
 have hr1:Room 1 _:=hr.mono (by decide)
 refine⟨_,(@pss_cons _ _ _ _ _ (@ps_asg _ _ _ _ _ _ (@pv _ 0 _ _ (by rfl) (by first|exact Or.inl rfl|exact Or.inr (.inl rfl)|exact Or.inr (.inr rfl)) (by decide) (by decide)) (@zao _ _ _ _ _ _ rfl (@pgs_cons _ _ _ _ _ (@zab _ _ 2 _ scJs.nd rfl (.inl rfl) (by first|exact .inl rfl|exact .inr rfl|assumption)) (@pgs_cons _ _ _ _ _ (@zab _ _ 3 _ scJs.nd rfl (.inl rfl) (by first|exact .inl rfl|exact .inr rfl|assumption)) (@pgs_cons _ _ _ _ _ (@zab _ _ 4 _ scJs.nd rfl (.inl rfl) (by first|exact .inl rfl|exact .inr rfl|assumption)) pgs_nil (by rfl)) (by rfl)) (by rfl)) (by rfl) (by rfl)) (by rfl) (by rfl) (by rfl)) (@pss_cons _ _ _ _ _ (@ps_asg _ _ _ _ _ _ (@pe_call _ _ _ _ _ _ _ _ _ _ _ _ _ _ _ _ UC.ok hr1 (by rfl) UC.m UC.kp UC.b .nil pass0 (@pa_cons _ _ _ _ _ (@pv _ 1 _ _ (by rfl) (by first|exact Or.inl rfl|exact Or.inr (.inl rfl)|exact Or.inr (.inr rfl)) (by decide) (by decide)) (@pa_cons _ _ _ _ _ (@zfD _ _ _ _ _ _ _ _ rfl (by rfl) G.list (by rfl) G.range (@pa_cons _ _ _ _ _ (@pv _ 2 _ _ (by rfl) (by first|exact Or.inl rfl|exact Or.inr (.inl rfl)|exact Or.inr (.inr rfl)) (by decide) (by decide)) (@pa_cons _ _ _ _ _ (@pe_op _ _ _ _ _ _ _ _ op_add (@pv _ 2 _ _ (by rfl) (by first|exact Or.inl rfl|exact Or.inr (.inl rfl)|exact Or.inr (.inr rfl)) (by decide) (by decide)) (@pe_ix _ _ _ _ _ _ _ zam (@pv _ 1 _ _ (by rfl) (by first|exact Or.inl rfl|exact Or.inr (.inl rfl)|exact Or.inr (.inr rfl)) (by decide) (by decide)) pe_int (fun _ _=>rfl))) pa_nil (by rfl)) (by rfl)) (by rfl) (by rfl) (by rfl)) pa_nil (by rfl)) (by rfl)) (by decide) (by rfl) (by rfl)) (@zao _ _ _ _ _ _ rfl (@pgs_cons _ _ _ _ _ (@zab _ _ 5 _ scJs.nd rfl (.inl rfl) (by first|exact .inl rfl|exact .inr rfl|assumption)) (@pgs_cons _ _ _ _ _ (@zab _ _ 6 _ scJs.nd rfl (.inl rfl) (by first|exact .inl rfl|exact .inr rfl|assumption)) pgs_nil (by rfl)) (by rfl)) (by rfl) (by rfl)) (by rfl) (by rfl) (by rfl)) (@pss_one _ _ _ (@ps_ret _ _ _ _ (@pe_call _ _ _ _ _ _ _ _ _ _ _ _ _ _ _ _ UP.ok hr (by rfl) UP.m UP.kp UP.b .nil pass0 (@pa_cons _ _ _ _ _ (@pe_tup _ _ _ _ _ (@pa_cons _ _ _ _ _ (@pe_op _ _ _ _ _ _ _ _ op_add (@pv _ 2 _ _ (by rfl) (by first|exact Or.inl rfl|exact Or.inr (.inl rfl)|exact Or.inr (.inr rfl)) (by decide) (by decide)) (@pe_ix _ _ _ _ _ _ _ zam (@pv _ 1 _ _ (by rfl) (by first|exact Or.inl rfl|exact Or.inr (.inl rfl)|exact Or.inr (.inr rfl)) (by decide) (by decide)) pe_int (fun _ _=>rfl))) (@pa_cons _ _ _ _ _ (@pe_op _ _ _ _ _ _ _ _ zcd (@pv _ 3 _ _ (by rfl) (by first|exact Or.inl rfl|exact Or.inr (.inl rfl)|exact Or.inr (.inr rfl)) (by decide) (by decide)) (@pv _ 5 _ _ (by rfl) (by first|exact Or.inl rfl|exact Or.inr (.inl rfl)|exact Or.inr (.inr rfl)) (by decide) (by decide))) (@pa_cons _ _ _ _ _ (@pe_op _ _ _ _ _ _ _ _ zcd (@pv _ 4 _ _ (by rfl) (by first|exact Or.inl rfl|exact Or.inr (.inl rfl)|exact Or.inr (.inr rfl)) (by decide) (by decide)) (@pv _ 6 _ _ (by rfl) (by first|exact Or.inl rfl|exact Or.inr (.inl rfl)|exact Or.inr (.inr rfl)) (by decide) (by decide))) pa_nil (by rfl)) (by rfl)) (by rfl))) pa_nil (by rfl)) (by decide) (by rfl) (by rfl)))))),?_⟩
 have pl:=na.prs.len
 have ela:=zaH ok
 have elb:=zaH okb
 refine⟨_,rfl,r,_,rfl,SqT.of na.net,rfl,_,_,rfl,_,_,rfl,_,_,rfl,rfl,?_⟩
 refine⟨_,rfl,_,rfl,_,rfl,_,rfl,r2,_,_,_,rfl,rfl,SqT.of nb.net,rfl,_,_,rfl,rfl,N.lanes,B.lanes,rfl,by lia,by lia,fun lq hlq=>?_⟩
 rw[zbF]
 have s0:=zaa hlq (.lst (nums (za6 N.lanes B.lanes)))
 refine⟨r2,fr2,er2,ps2,B,lq,za6 N.lanes B.lanes,rfl,okb,nb.tups (Tups.of s0),atNew hlq _,by rw[zci];exact Nat.le_refl _,fun t f1 e1 p1 H1 s1 ht hf1 pf1 he1=>?_⟩
 rw[zbs (fun f hf=>⟨(okb.fk f hf).1,(okb.fk f hf).2.1⟩)]at pf1
 rw[zbG (fun e he=>zbH okb he)]at he1
 refine⟨t,_,rfl,SqT.of ht,rfl,_,_,rfl,_,_,rfl,rfl,?_⟩
 have na1:=na.tups (Tups.of (s0.trans s1))
 have nb1:=nb.tups (Tups.of (s0.trans s1))
 have pl1:=pf1.len
 rw[List.length_map]at pl1
 refine⟨_,rfl,_,rfl,r2,_,_,_,rfl,rfl,SqT.of nb1.net,rfl,_,_,rfl,rfl,?_⟩
 refine⟨_,rfl,_,rfl,fr,f1,ps,p1,rfl,rfl,na1.forks,hf1,by rw[sizeLine_eq];lia,fun f2 H2 s2 hf2=>?_⟩
 refine⟨_,rfl,_,rfl,er,e1,_,_,rfl,rfl,s2 _ _ na1.ends,s2 _ _ he1,by rw[zae,zae,List.length_map,sizeLine_eq];lia,fun e2 H3 s3 he2=>?_⟩
 rw[zhW]at he2
 refine⟨(by show 3≤sizeLine;decide),fun r3 hr3=>?_⟩
 have s4:=zaa hr3 (.tup [.int (N.lanes+B.lanes:Nat),.ref f2,.ref e2])
 have u4:=(s2.trans s3).trans s4
 exact⟨r3,f2,e2,_,zaw N B,rfl,zbc ok okb hl fm,⟨atNew hr3 _,s4 _ _ (s3 _ _ hf2),(Prs.app na1.prs pf1).tups (Tups.of u4),s4 _ _ he2⟩,fun r' fr' ps' H' s' n'=>k r' fr' e2 ps' H' (((s0.trans s1).trans u4).trans s') n'⟩
end
abbrev sPow:Stmt:=top 4
abbrev zgo:Stmt:=top 9
abbrev zdD:Stmt:=top 10
def ziC:Sp:=fun vs H Q _=>∃ m:Nat,vs=[.int m]∧m≤20∧Q (.int ((2 ^ m:Nat):Int)) H
def zcy:Sp:=fun vs H Q _=>∃ m:Nat,vs=[.int m]∧m≤10∧∀ l,H l=none→Q (.ref l) (upd H l (.lst (nums (List.range (2 ^ m)))))
def zbl:Sp:=fun vs H Q _=>∃ (p c lf le:Addr) (ps:List V) (fs:List Fk) (row es:List Nat),vs=[.ref p,.ref c]∧H p=some (.lst (nums row))∧H c=some (.tup [.ref lf,.ref le])∧H lf=some (.lst ps)∧Prs H ps fs∧H le=some (.lst (nums es))∧Nt.Ok ⟨row.length,fs,es⟩ ∧
 ∀ r' fr' er' ps' H',Same H H'→NetAt H' r' fr' er' ps' (zal ⟨row.length,fs,es⟩)→Q (.ref r') H'
section
variable {P:Program}{w:World}{K:PySem.W.Frag}{mg:Str→Option Value}{base:Heap}
theorem scP2:FnScope ["many","power","doubling"] ["many"] (zaf sPow):=⟨rfl,rfl,rfl,by decide +kernel,rfl,by decide +kernel,by decide +kernel⟩
theorem zjV {f:Addr}{fd:FuncData}(F:Fun K "power_of_two" "power_of_two" sPow f fd) (G:Mgs mg):FnOk P w K mg base CX0 1 f fd ["many"] ziC:=by
 refine F.ok scP2 (fun vs H Q E h=>?_) (fun cdv A outer s H vs Q E hr h=>?_)
 ·obtain⟨m,rfl,_⟩:=h
  rfl
 obtain⟨m,rfl,hm,k⟩:=h
 refine⟨_,(@pss_cons _ _ _ _ _ (@zak _ _ 1 _ _ _ _ scP2.nd rfl (.inl rfl) pe_int (by rfl) (by first|exact .inl rfl|exact .inr rfl|assumption)) (@pss_cons _ _ _ _ _ (@zcG _ _ _ _ _ _ _ _ PassesOwn.never rfl (@zbr _ _ _ _ _ _ rfl G.range (@pa_cons _ _ _ _ _ (@pv _ 0 _ _ (by rfl) (by first|exact Or.inl rfl|exact Or.inr (.inl rfl)|exact Or.inr (.inr rfl)) (by decide) (by decide)) pa_nil (by rfl)) (by rfl)) (@zab _ _ 2 _ scP2.nd rfl (.inl rfl) (by first|exact .inl rfl|exact .inr rfl|assumption)) (@pss_one _ _ _ (@zjK _ _ 1 _ _ _ _ _ _ scP2.nd rfl (.inl rfl) pe_int zjj (by first|exact .inl rfl|exact .inr rfl|assumption))) (by intro _;rfl)) (@pss_one _ _ _ (@ps_ret _ _ _ _ (@pv _ 1 _ _ (by rfl) (by first|exact Or.inl rfl|exact Or.inr (.inl rfl)|exact Or.inr (.inr rfl)) (by decide) (by decide)))))),?_⟩
 refine⟨_,rfl,m,rfl,by lia,by lia,zb3 (lo:=0) (n:=((m:Nat):Int).toNat) (fun i σ H2=>H2=H∧∃ v2,σ=[some (.int m),some (.int ((2 ^ i:Nat):Int)),v2]) ⟨rfl,_,rfl⟩ ?_ ?_⟩
 ·rintro i σ H2 hi ⟨rfl,v2,rfl⟩
  refine⟨_,rfl,_,_,rfl,rfl,.inr ⟨by decide,by decide⟩,rfl,some (.int (0+(i:Nat))),?_⟩
  rw[← show ((2 ^ i:Nat):Int)*2=((2 ^ (i+1):Nat):Int) from by rw[Nat.pow_succ,Int.natCast_mul];rfl];rfl
 ·rintro σ H2 ⟨rfl,v2,rfl⟩
  refine⟨_,rfl,?_⟩
  rw[show ((m:Nat):Int).toNat=m from by lia]
  exact k
theorem scRo:FnScope ["k"] ["k"] (zaf zgo):=⟨rfl,rfl,rfl,by decide +kernel,rfl,by decide +kernel,by decide +kernel⟩
theorem zhO {f fP:Addr}{fd dP:FuncData}(F:Fun K "row_of" "row_of" zgo f fd) (G:Mgs mg) (UP:Use P w K mg base "power_of_two" ["many"] 1 ziC fP dP):FnOk P w K mg base CX0 2 f fd ["k"] zcy:=by
 refine F.ok scRo (fun vs H Q E h=>?_) (fun cdv A outer s H vs Q E hr h=>?_)
 ·obtain⟨m,rfl,_⟩:=h
  rfl
 obtain⟨m,rfl,hm,k⟩:=h
 refine⟨_,(@pss_one _ _ _ (@ps_ret _ _ _ _ (@zeg _ _ _ _ _ _ _ rfl (by rfl) G.list (by rfl) G.range (@pa_cons _ _ _ _ _ (@pe_call _ _ _ _ _ _ _ _ _ _ _ _ _ _ _ _ UP.ok hr (by rfl) UP.m UP.kp UP.b .nil pass0 (@pa_cons _ _ _ _ _ (@pv _ 0 _ _ (by rfl) (by first|exact Or.inl rfl|exact Or.inr (.inl rfl)|exact Or.inr (.inr rfl)) (by decide) (by decide)) pa_nil (by rfl)) (by decide) (by rfl) (by rfl)) pa_nil (by rfl)) (by rfl) (by rfl)))),?_⟩
 have b:2 ^ m≤2 ^ 10:=Nat.pow_le_pow_right (by decide) hm
 exact⟨_,rfl,m,rfl,by lia,2 ^ m,rfl,Nat.le_trans b (by decide),fun l hl=>k l hl⟩
theorem scMn:FnScope ["row","made","forks","ends"] ["row","made"] (zaf zdD):=⟨rfl,rfl,rfl,by decide +kernel,rfl,by decide +kernel,by decide +kernel⟩
theorem zfG {f fP:Addr}{fd dP:FuncData}(F:Fun K "net_of" "net_of" zdD f fd) (G:Mgs mg) (UP:Use P w K mg base "plain" ["net"] 2 zbk fP dP):FnOk P w K mg base CX0 3 f fd ["row","made"] zbl:=by
 refine F.ok scMn (fun vs H Q E h=>?_) (fun cdv A outer s H vs Q E hr h=>?_)
 ·obtain⟨p,c,lf,le,ps,fs,row,es,rfl,_⟩:=h
  rfl
 obtain⟨p,c,lf,le,ps,fs,row,es,rfl,hp,hc,hlf,pr,hle,ok,k⟩:=h
 refine⟨_,(@pss_cons _ _ _ _ _ (@ps_asg _ _ _ _ _ _ (@pv _ 1 _ _ (by rfl) (by first|exact Or.inl rfl|exact Or.inr (.inl rfl)|exact Or.inr (.inr rfl)) (by decide) (by decide)) (@zao _ _ _ _ _ _ rfl (@pgs_cons _ _ _ _ _ (@zab _ _ 2 _ scMn.nd rfl (.inl rfl) (by first|exact .inl rfl|exact .inr rfl|assumption)) (@pgs_cons _ _ _ _ _ (@zab _ _ 3 _ scMn.nd rfl (.inl rfl) (by first|exact .inl rfl|exact .inr rfl|assumption)) pgs_nil (by rfl)) (by rfl)) (by rfl) (by rfl)) (by rfl) (by rfl) (by rfl)) (@pss_one _ _ _ (@ps_ret _ _ _ _ (@pe_call _ _ _ _ _ _ _ _ _ _ _ _ _ _ _ _ UP.ok hr (by rfl) UP.m UP.kp UP.b .nil pass0 (@pa_cons _ _ _ _ _ (@pe_tup _ _ _ _ _ (@pa_cons _ _ _ _ _ (@zaj _ _ _ _ _ _ _ _ _ zai (by rfl) G.len PySem.boot_len (@pa_cons _ _ _ _ _ (@pv _ 0 _ _ (by rfl) (by first|exact Or.inl rfl|exact Or.inr (.inl rfl)|exact Or.inr (.inr rfl)) (by decide) (by decide)) pa_nil (by rfl)) (by decide) (by decide) (by rfl) (by rfl)) (@pa_cons _ _ _ _ _ (@pe_callTy _ _ _ _ _ _ _ _ _ call_tuple_of (by rfl) G.tuple (by rfl) (@pa_cons _ _ _ _ _ (@pv _ 2 _ _ (by rfl) (by first|exact Or.inl rfl|exact Or.inr (.inl rfl)|exact Or.inr (.inr rfl)) (by decide) (by decide)) pa_nil (by rfl)) (by decide) (by decide) (by rfl) (by rfl)) (@pa_cons _ _ _ _ _ (@pe_callTy _ _ _ _ _ _ _ _ _ call_tuple_of (by rfl) G.tuple (by rfl) (@pa_cons _ _ _ _ _ (@pv _ 3 _ _ (by rfl) (by first|exact Or.inl rfl|exact Or.inr (.inl rfl)|exact Or.inr (.inr rfl)) (by decide) (by decide)) pa_nil (by rfl)) (by decide) (by decide) (by rfl) (by rfl)) pa_nil (by rfl)) (by rfl)) (by rfl))) pa_nil (by rfl)) (by decide) (by rfl) (by rfl))))),?_⟩
 refine⟨_,rfl,c,_,rfl,SqT.of hc,rfl,_,_,rfl,_,_,rfl,rfl,?_⟩
 refine⟨_,rfl,p,_,rfl,.inl (SqL.of hp),_,rfl,lf,_,rfl,.inl ⟨SqL.of hlf,fun fr hfr=>?_⟩⟩
 have s1:=zaa hfr (.tup ps)
 refine⟨_,rfl,le,_,rfl,.inl ⟨SqL.of (s1 _ _ hle),fun er her=>?_⟩⟩
 have s2:=zaa her (.tup (nums es))
 refine⟨(by show 3≤sizeLine;decide),fun r hr'=>?_⟩
 have s3:=zaa hr' (.tup [.int ((nums row).length:Nat),.ref fr,.ref er])
 have n3:L2.upd (L2.upd (L2.upd H fr (.tup ps)) er (.tup (nums es))) r (.tup [.int ((nums row).length:Nat),.ref fr,.ref er]) r=some (.tup [.int (row.length:Nat),.ref fr,.ref er]):=by rw[zac,zae]
 refine⟨r,fr,er,ps,⟨row.length,fs,es⟩,rfl,ok,⟨n3,s3 _ _ (s2 _ _ (atNew hfr _)),pr.tups (Tups.of ((s1.trans s2).trans s3)),s3 _ _ (atNew her _)⟩,fun r' fr' ps' H' s' n'=>k r' fr' er ps' H' (((s1.trans s2).trans s3).trans s') n'⟩
end
abbrev sBy:Stmt:=top 14
def spBy:Sp:=fun vs H Q _=>∃ p1 p2 xs ys,vs=[.ref p1,.ref p2]∧H p1=some (.lst xs)∧H p2=some (.lst ys)∧xs.length=ys.length∧xs.length≤1000∧∀ l H',Same H H'→H' l=some (.lst (zaC xs ys))→Q (.ref l) H'
theorem zc3 {α:Type}(xs ys:List α) (i:Nat) (x y:α) (hx:xs[i]?=some x) (hy:ys[i]?=some y):zaC (xs.take (i+1)) (ys.take (i+1))=zaC (xs.take i) (ys.take i)++[x,y]:=by
 obtain⟨ix,ex⟩:=List.getElem?_eq_some_iff.mp hx
 obtain⟨iy,ey⟩:=List.getElem?_eq_some_iff.mp hy
 rw[List.take_succ_eq_append_getElem ix,List.take_succ_eq_append_getElem iy,ex,ey]
 unfold zaC
 rw[List.zip_append (by rw[List.length_take,List.length_take];lia),List.flatMap_append]
 rfl
section
variable {P:Program}{w:World}{K:PySem.W.Frag}{mg:Str→Option Value}{base:Heap}
theorem scBt:FnScope ["one","other"] ["one","other"] (zaf sBy):=⟨rfl,rfl,rfl,by decide +kernel,rfl,by decide +kernel,by decide +kernel⟩
theorem zko {f:Addr}{fd:FuncData}(F:Fun K "by_turns" "by_turns" sBy f fd) (G:Mgs mg):FnOk P w K mg base CX0 1 f fd ["one","other"] spBy:=by
 refine F.ok scBt (fun vs H Q E h=>?_) (fun cdv A outer s H vs Q E hr h=>?_)
 ·obtain⟨p1,p2,xs,ys,rfl,_⟩:=h
  rfl
 obtain⟨p1,p2,xs,ys,rfl,h1,h2,hxy,hz,k⟩:=h
 refine⟨_,(@pss_one _ _ _ (@ps_ret _ _ _ _ (@zjR _ _ _ _ _ _ none _ _ _ (iTup K (tVar 0)) _ _ _ _ ["pair","thing"] [none,none] rfl (@ziT _ _ _ _ _ _ _ _ true true rfl G.zip (@pa_cons _ _ _ _ _ (@pv _ 0 _ _ (by rfl) (by first|exact Or.inl rfl|exact Or.inr (.inl rfl)|exact Or.inr (.inr rfl)) (by decide) (by decide)) (@pa_cons _ _ _ _ _ (@pv _ 1 _ _ (by rfl) (by first|exact Or.inl rfl|exact Or.inr (.inl rfl)|exact Or.inr (.inr rfl)) (by decide) (by decide)) pa_nil (by rfl)) (by rfl)) (by rfl) (by rfl)) (CapOk.of (by kernel_rfl)) (fun _ _ _ _ _=>(@zab _ _ 0 _ (show (["pair","thing"]:List Str).Nodup from by decide +kernel) rfl (.inl rfl) (.inr rfl))) (fun _ _ _ _ _=>(@zbY _ _ _ _ (@pv _ 0 _ _ (by rfl) (by first|exact Or.inl rfl|exact Or.inr (.inl rfl)|exact Or.inr (.inr rfl)) (by decide) (by decide)))) (fun _ _ _ _ _=>(@zab _ _ 1 _ (show (["pair","thing"]:List Str).Nodup from by decide +kernel) rfl (.inl rfl) (.inr rfl))) (fun _ _ _ _ _=>zaV) (fun _ _ _ _ _=>(@pv _ 1 _ _ (by rfl) (by first|exact Or.inl rfl|exact Or.inr (.inl rfl)|exact Or.inr (.inr rfl)) (by decide) (by decide))) (by intro _;rfl) (by intro _ _;rfl)))),?_⟩
 refine⟨_,rfl,_,rfl,p1,p2,xs,ys,rfl,SqL.of h1,SqL.of h2,fun l hl=>?_⟩
 refine zjg hxy (fun i acc σ H2=>(∃ v0 v1,σ=[v0,v1])∧Same H H2∧H2 l=some (.lst acc)∧acc=zaC (xs.take i) (ys.take i)) ⟨⟨_,_,rfl⟩,zaa hl _,zac,rfl⟩ (fun i acc σ H2 z=>⟨z.2.2.1,SqL.of (z.2.1 _ _ h1),SqL.of (z.2.1 _ _ h2)⟩) ?_ ?_
 ·rintro i acc σ H2 x y T hx hy hT ⟨⟨v0,v1,rfl⟩,s2,hl2,e2⟩
  have ix:=(List.getElem?_eq_some_iff.mp hx).1
  have al:acc.length≤2000:=by
   rw[e2,zbv _ _ (by rw[List.length_take,List.length_take,hxy]),List.length_take];lia
  refine⟨_,rfl,T,rfl,⟨_,.inl (.inl (atNew hT _))⟩,?_⟩
  have lT:l≠T:=zad hl2 hT
  refine zjh (zs:=[x,y]) (fun j ac τ G=>(∃ v1,τ=[some (.ref T),v1])∧Same H G∧G T=some (.tup [x,y])∧G l=some (.lst ac)∧ac=acc++[x,y].take j) ⟨⟨_,rfl⟩,s2.trans (zaa hT _),atNew hT _,zaa hT _ _ _ hl2,(List.append_nil _).symm⟩ (fun j ac τ G z=>⟨z.2.2.2.1,.inl (.inl z.2.2.1)⟩) ?_ ?_
  ·rintro j u ac τ G hu ⟨⟨v1,rfl⟩,s3,hT3,hl3,e3⟩
   have jl:=(List.getElem?_eq_some_iff.mp hu).1
   refine⟨_,rfl,hl3,?_,nx jl ⟨⟨_,rfl⟩,fun c o e=>?_,?_,zac,?_⟩⟩
   ·rw[e3,List.length_append,List.length_take,sizeLine_eq]
    simp only[List.length_cons,List.length_nil]at jl ⊢
    lia
   ·rw[zag (zad e hl)];exact s3 c o e
   ·rw[zag (Ne.symm lT)];exact hT3
   ·obtain⟨_,eu⟩:=List.getElem?_eq_some_iff.mp hu
    rw[e3,List.append_assoc,List.take_succ_eq_append_getElem jl,eu]
  ·rintro ac τ G ⟨⟨v1,rfl⟩,s3,hT3,hl3,e3⟩
   refine nx ix ⟨⟨_,_,rfl⟩,s3,hl3,?_⟩
   rw[e3,e2,zc3 xs ys i x y hx hy];rfl
 ·rintro acc σ H2 ⟨_,s2,hl2,e2⟩
  refine k l H2 s2 ?_
  rw[hl2,e2,List.take_length,hxy,List.take_length]
end
abbrev zbW:Stmt:=top 11
def zaE (m:Nat):Sp:=fun vs H Q _=>∃ p1 p2 a b,vs=[.ref p1,.ref p2]∧H p1=some (.lst (nums a))∧H p2=some (.lst (nums b))∧a.length=2 ^ m∧b.length=2 ^ m∧m≤8∧∀ c lf le ps H',Same H H'→H' c=some (.tup [.ref lf,.ref le])→H' lf=some (.lst ps)→Prs H' ps (zas m a b).1→H' le=some (.lst (nums (zas m a b).2))→Q (.ref c) H'
theorem zfl (row:List Nat) (i:Nat) (h:i≤row.length):cutV (nums row) none (some (i:Int))=nums (row.take i):=by
 rw[zdW _ _ (by rw[zae];exact h)]
 unfold nums
 rw[List.map_take]
theorem zfm (row:List Nat) (i:Nat) (h:i≤row.length):cutV (nums row) (some (i:Int)) none=nums (row.drop i):=by
 rw[zdY _ _ (by rw[zae];exact h)]
 unfold nums
 rw[List.map_drop]
theorem zi9 (a b:List Nat):zaC (nums a) (nums b)=nums (zaC a b):=by unfold nums;exact zc4 _ a b
theorem zem (off:Nat) (a:List Nat):by2 off (nums a)=nums (by2 off a):=by unfold nums;exact zcY _ off a
theorem zkp (a b:List Nat):nums a++nums b=nums (a++b):=by unfold nums;exact(List.map_append ..).symm
section
variable {P:Program}{w:World}{K:PySem.W.Frag}{mg:Str→Option Value}{base:Heap}
theorem scMo:FnScope ["one","other","first_forks","first_ends","second_forks","second_ends","last_forks"] ["one","other"] (zaf zbW):=⟨rfl,rfl,rfl,by decide +kernel,rfl,by decide +kernel,by decide +kernel⟩
theorem zcK {f fB:Addr}{fd dB:FuncData}(F:Fun K "merger_of" "merger_of" zbW f fd) (G:Mgs mg) (UB:Use P w K mg base "by_turns" ["one","other"] 1 spBy fB dB) (bS:Binds K fd ["one","other"] []) (mS:mg "merger_of" = some (.ref f)) (n:Nat)
  (GS:FnOk P w K mg base CX0 (n+1) f fd ["one","other"] (fun vs H Q E=>∃ m,n=m+1∧zaE m vs H Q E)):FnOk P w K mg base CX0 (n+2) f fd ["one","other"] (zaE n):=by
 have UT:Use P w K mg base "merger_of" ["one","other"] (n+1) (fun vs H Q E=>∃ m,n=m+1∧zaE m vs H Q E) f fd:=⟨GS,bS,F.kp,mS⟩
 refine F.ok scMo (fun vs H Q E h=>?_) (fun cdv A outer s H vs Q E hr h=>?_)
 ·obtain⟨p1,p2,a,b,rfl,_⟩:=h
  rfl
 obtain⟨p1,p2,a,b,rfl,h1,h2,al,bl,n20,k⟩:=h
 have hr1:Room 1 _:=hr.mono (by lia)
 refine⟨_,(@pss_cons _ _ _ _ _ (@zau _ _ _ _ _ _ _ _ (@pt_cmpR _ _ _ _ _ _ _ _ zgD (@zaj _ _ _ _ _ _ _ _ _ zai (by rfl) G.len PySem.boot_len (@pa_cons _ _ _ _ _ (@pv _ 0 _ _ (by rfl) (by first|exact Or.inl rfl|exact Or.inr (.inl rfl)|exact Or.inr (.inr rfl)) (by decide) (by decide)) pa_nil (by rfl)) (by decide) (by decide) (by rfl) (by rfl)) pe_int (nomark _)) (@pss_one _ _ _ (@ps_ret _ _ _ _ (@pe_tup _ _ _ _ _ (@pa_cons _ _ _ _ _ (@zbZ _ _ _ _ _ _ _ _ true true (by rfl) G.list (by rfl) G.zip rfl (@pa_cons _ _ _ _ _ (@pv _ 0 _ _ (by rfl) (by first|exact Or.inl rfl|exact Or.inr (.inl rfl)|exact Or.inr (.inr rfl)) (by decide) (by decide)) (@pa_cons _ _ _ _ _ (@pv _ 1 _ _ (by rfl) (by first|exact Or.inl rfl|exact Or.inr (.inl rfl)|exact Or.inr (.inr rfl)) (by decide) (by decide)) pa_nil (by rfl)) (by rfl)) (by rfl) (by rfl) (by rfl)) (@pa_cons _ _ _ _ _ (@pe_op _ _ _ _ _ _ _ _ op_cat (@pv _ 0 _ _ (by rfl) (by first|exact Or.inl rfl|exact Or.inr (.inl rfl)|exact Or.inr (.inr rfl)) (by decide) (by decide)) (@pv _ 1 _ _ (by rfl) (by first|exact Or.inl rfl|exact Or.inr (.inl rfl)|exact Or.inr (.inr rfl)) (by decide) (by decide))) pa_nil (by rfl)) (by rfl))))) pss_nil) (@pss_cons _ _ _ _ _ (@ps_asg _ _ _ _ _ _ (@pe_call _ _ _ _ _ _ _ _ _ _ _ _ _ _ _ _ UT.ok hr (by rfl) UT.m UT.kp UT.b .nil pass0 (@pa_cons _ _ _ _ _ (@zcp _ _ _ _ _ _ _ _ _ (@pv _ 0 _ _ (by rfl) (by first|exact Or.inl rfl|exact Or.inr (.inl rfl)|exact Or.inr (.inr rfl)) (by decide) (by decide)) po_none (@po_some _ _ _ pe_int)) (@pa_cons _ _ _ _ _ (@zcp _ _ _ _ _ _ _ _ _ (@pv _ 1 _ _ (by rfl) (by first|exact Or.inl rfl|exact Or.inr (.inl rfl)|exact Or.inr (.inr rfl)) (by decide) (by decide)) (@po_some _ _ _ pe_int) (@po_some _ _ _ pe_int)) pa_nil (by rfl)) (by rfl)) (by decide) (by rfl) (by rfl)) (@zao _ _ _ _ _ _ rfl (@pgs_cons _ _ _ _ _ (@zab _ _ 2 _ scMo.nd rfl (.inl rfl) (by first|exact .inl rfl|exact .inr rfl|assumption)) (@pgs_cons _ _ _ _ _ (@zab _ _ 3 _ scMo.nd rfl (.inl rfl) (by first|exact .inl rfl|exact .inr rfl|assumption)) pgs_nil (by rfl)) (by rfl)) (by rfl) (by rfl)) (by rfl) (by rfl) (by rfl)) (@pss_cons _ _ _ _ _ (@ps_asg _ _ _ _ _ _ (@pe_call _ _ _ _ _ _ _ _ _ _ _ _ _ _ _ _ UT.ok hr (by rfl) UT.m UT.kp UT.b .nil pass0 (@pa_cons _ _ _ _ _ (@zcp _ _ _ _ _ _ _ _ _ (@pv _ 0 _ _ (by rfl) (by first|exact Or.inl rfl|exact Or.inr (.inl rfl)|exact Or.inr (.inr rfl)) (by decide) (by decide)) (@po_some _ _ _ pe_int) (@po_some _ _ _ pe_int)) (@pa_cons _ _ _ _ _ (@zcp _ _ _ _ _ _ _ _ _ (@pv _ 1 _ _ (by rfl) (by first|exact Or.inl rfl|exact Or.inr (.inl rfl)|exact Or.inr (.inr rfl)) (by decide) (by decide)) po_none (@po_some _ _ _ pe_int)) pa_nil (by rfl)) (by rfl)) (by decide) (by rfl) (by rfl)) (@zao _ _ _ _ _ _ rfl (@pgs_cons _ _ _ _ _ (@zab _ _ 4 _ scMo.nd rfl (.inl rfl) (by first|exact .inl rfl|exact .inr rfl|assumption)) (@pgs_cons _ _ _ _ _ (@zab _ _ 5 _ scMo.nd rfl (.inl rfl) (by first|exact .inl rfl|exact .inr rfl|assumption)) pgs_nil (by rfl)) (by rfl)) (by rfl) (by rfl)) (by rfl) (by rfl) (by rfl)) (@pss_cons _ _ _ _ _ (@zak _ _ 6 _ _ _ _ scMo.nd rfl (.inl rfl) (@zbZ _ _ _ _ _ _ _ _ true true (by rfl) G.list (by rfl) G.zip rfl (@pa_cons _ _ _ _ _ (@pv _ 3 _ _ (by rfl) (by first|exact Or.inl rfl|exact Or.inr (.inl rfl)|exact Or.inr (.inr rfl)) (by decide) (by decide)) (@pa_cons _ _ _ _ _ (@pv _ 5 _ _ (by rfl) (by first|exact Or.inl rfl|exact Or.inr (.inl rfl)|exact Or.inr (.inr rfl)) (by decide) (by decide)) pa_nil (by rfl)) (by rfl)) (by rfl) (by rfl) (by rfl)) (by rfl) (by first|exact .inl rfl|exact .inr rfl|assumption)) (@pss_one _ _ _ (@ps_ret _ _ _ _ (@pe_tup _ _ _ _ _ (@pa_cons _ _ _ _ _ (@pe_op _ _ _ _ _ _ _ _ op_cat (@pe_op _ _ _ _ _ _ _ _ op_cat (@pv _ 2 _ _ (by rfl) (by first|exact Or.inl rfl|exact Or.inr (.inl rfl)|exact Or.inr (.inr rfl)) (by decide) (by decide)) (@pv _ 4 _ _ (by rfl) (by first|exact Or.inl rfl|exact Or.inr (.inl rfl)|exact Or.inr (.inr rfl)) (by decide) (by decide))) (@pv _ 6 _ _ (by rfl) (by first|exact Or.inl rfl|exact Or.inr (.inl rfl)|exact Or.inr (.inr rfl)) (by decide) (by decide))) (@pa_cons _ _ _ _ _ (@pe_call _ _ _ _ _ _ _ _ _ _ _ _ _ _ _ _ UB.ok hr1 (by rfl) UB.m UB.kp UB.b .nil pass0 (@pa_cons _ _ _ _ _ (@pv _ 3 _ _ (by rfl) (by first|exact Or.inl rfl|exact Or.inr (.inl rfl)|exact Or.inr (.inr rfl)) (by decide) (by decide)) (@pa_cons _ _ _ _ _ (@pv _ 5 _ _ (by rfl) (by first|exact Or.inl rfl|exact Or.inr (.inl rfl)|exact Or.inr (.inr rfl)) (by decide) (by decide)) pa_nil (by rfl)) (by rfl)) (by decide) (by rfl) (by rfl)) pa_nil (by rfl)) (by rfl))))))))),?_⟩
 have na:=zae a
 have nb:=zae b
 have p8:2 ^ n≤2 ^ 8:=Nat.pow_le_pow_right (by decide) n20
 have e8:2 ^ 8=256:=rfl
 refine⟨_,rfl,p1,_,rfl,.inl (SqL.of h1),_,_,rfl,rfl,_,rfl,?_⟩
 cases n with
 | zero =>
  have al1:a.length=1:=al
  have bl1:b.length=1:=bl
  rw[decide_eq_true (show (((nums a).length:Nat):Int)<2 by lia)]
  refine iteT ⟨_,rfl,_,rfl,p1,p2,_,_,rfl,SqL.of h1,SqL.of h2,by lia,by lia,fun lz ts H2 s3 n1 n2 z=>?_⟩
  have pz:=zdI z (by lia)
  have s4:=zaa n2 (.lst ts)
  have u4:=s3.trans s4
  refine⟨_,rfl,_,rfl,p1,p2,_,_,rfl,rfl,u4 _ _ h1,u4 _ _ h2,by rw[sizeLine_eq];lia,fun l5 hl5=>⟨(by show 2≤sizeLine;decide),fun c hc=>?_⟩⟩
  have s5:=zaa hl5 (.lst (nums a++nums b))
  have s6:=zaa hc (.tup [.ref lz,.ref l5])
  refine k c lz l5 ts _ ((u4.trans s5).trans s6) (atNew hc _) (s6 _ _ (s5 _ _ (atNew n2 _))) (((pz.tups (Tups.of s4)).tups (Tups.of s5)).tups (Tups.of s6)) ?_
  rw[s6 _ _ (atNew hl5 _),zkp];rfl
 | succ m =>
  obtain⟨a0,a1⟩:=zbC al
  obtain⟨b0,b1⟩:=zbC bl
  have pw:2 ^ (m+1)=2 ^ m*2:=Nat.pow_succ ..
  have p0:=Nat.one_le_two_pow (n:=m)
  rw[decide_eq_false (show ¬(((nums a).length:Nat):Int)<2 by lia)]
  refine iteF ⟨_,rfl,2,rfl,rfl,0,p1,_,.inl ⟨rfl,rfl⟩,rfl,SqL.of h1,fun q1 hq1=>?_⟩
  rw[zem]
  have s1:=zaa hq1 (.lst (nums (by2 0 a)))
  refine⟨_,rfl,1,rfl,2,rfl,rfl,1,p2,_,.inr ⟨rfl,rfl⟩,rfl,SqL.of (s1 _ _ h2),fun q2 hq2=>?_⟩
  rw[zem]
  have s2:=zaa hq2 (.lst (nums (by2 1 b)))
  refine⟨m,rfl,q1,q2,by2 0 a,by2 1 b,rfl,s2 _ _ (atNew hq1 _),atNew hq2 _,a0,b1,by lia,fun c3 lf3 le3 ps3 H3 s3 hc3 hf3 pr3 he3=>?_⟩
  have u3:=(s1.trans s2).trans s3
  refine⟨c3,_,rfl,SqT.of hc3,rfl,_,_,rfl,_,_,rfl,rfl,?_⟩
  refine⟨_,rfl,1,rfl,2,rfl,rfl,1,p1,_,.inr ⟨rfl,rfl⟩,rfl,SqL.of (u3 _ _ h1),fun q4 hq4=>?_⟩
  rw[zem]
  have s4:=zaa hq4 (.lst (nums (by2 1 a)))
  refine⟨_,rfl,2,rfl,rfl,0,p2,_,.inl ⟨rfl,rfl⟩,rfl,SqL.of (s4 _ _ (u3 _ _ h2)),fun q5 hq5=>?_⟩
  rw[zem]
  have s5:=zaa hq5 (.lst (nums (by2 0 b)))
  refine⟨m,rfl,q4,q5,by2 1 a,by2 0 b,rfl,s5 _ _ (atNew hq4 _),atNew hq5 _,a1,b0,by lia,fun c6 lf6 le6 ps6 H6 s6 hc6 hf6 pr6 he6=>?_⟩
  have u6:=(s4.trans s5).trans s6
  refine⟨c6,_,rfl,SqT.of hc6,rfl,_,_,rfl,_,_,rfl,rfl,?_⟩
  obtain⟨xl,xf⟩:=zaA m _ _ a0 b1
  obtain⟨yl,yf⟩:=zaA m _ _ a1 b0
  have bd:=(za0 m (by lia)).2
  have pl3:=pr3.len
  have pl6:=pr6.len
  refine⟨_,rfl,_,rfl,le3,le6,_,_,rfl,SqL.of (u6 _ _ he3),SqL.of he6,by rw[zae,zae,xl,yl];exact Nat.le_refl _,by rw[zae,xl];lia,fun lz ts H7 s7 n1 n2 z=>?_⟩
  have pz:=zdI z (by rw[xl,yl];exact Nat.le_refl _)
  have s8:=zaa n2 (.lst ts)
  have u8:=s7.trans s8
  have tl:=pz.len
  rw[List.length_zip,xl,yl,Nat.min_self]at tl
  refine⟨_,rfl,_,rfl,lf3,lf6,_,_,rfl,rfl,u8 _ _ (u6 _ _ hf3),u8 _ _ hf6,by rw[sizeLine_eq];lia,fun l9 hl9=>?_⟩
  have s9:=zaa hl9 (.lst (ps3++ps6))
  refine⟨_,rfl,l9,lz,_,_,rfl,rfl,atNew hl9 _,s9 _ _ (atNew n2 _),by rw[sizeLine_eq,List.length_append];lia,fun l10 hl10=>?_⟩
  have s10:=zaa hl10 (.lst ((ps3++ps6)++ts))
  have u10:=(u8.trans s9).trans s10
  refine⟨_,rfl,_,rfl,le3,le6,_,_,rfl,u10 _ _ (u6 _ _ he3),u10 _ _ he6,by rw[zae,zae,xl,yl],by rw[zae,xl];lia,fun l11 H11 s11 h11=>?_⟩
  rw[zi9]at h11
  refine⟨(by show 2≤sizeLine;decide),fun c hc=>?_⟩
  have s12:=zaa hc (.tup [.ref l10,.ref l11])
  refine k c l10 l11 _ _ ((u3.trans u6).trans ((u10.trans s11).trans s12)) (atNew hc _) (s12 _ _ (s11 _ _ (atNew hl10 _))) ?_ (s12 _ _ h11)
  refine Prs.tups (Tups.of ((s9.trans s10).trans (s11.trans s12))) ?_
  exact Prs.app (Prs.app ((pr3.tups (Tups.of u6)).tups (Tups.of u8)) (pr6.tups (Tups.of u8))) (pz.tups (Tups.of s8))
theorem zdd {f fB:Addr}{fd dB:FuncData}(F:Fun K "merger_of" "merger_of" zbW f fd) (G:Mgs mg) (UB:Use P w K mg base "by_turns" ["one","other"] 1 spBy fB dB) (bS:Binds K fd ["one","other"] []) (mS:mg "merger_of" = some (.ref f)):∀ n:Nat,FnOk P w K mg base CX0 (n+2) f fd ["one","other"] (zaE n)
 | 0=>zcK F G UB bS mS 0 ⟨fun vs H Q E ⟨m,h,_⟩=>by lia,fun A outer s H args us vs Q E _ _ _ _ ⟨m,h,_⟩=>by lia⟩
 | m+1=>zcK F G UB bS mS (m+1) ((zdd F G UB bS mS m).imp fun vs H Q E ⟨m',h,q⟩=>by cases h;exact q)
abbrev zan:Sp:=fun vs H Q E=>∃ m,m≤4∧zaE m vs H Q E
theorem zeR {f fB:Addr}{fd dB:FuncData}(F:Fun K "merger_of" "merger_of" zbW f fd) (G:Mgs mg) (UB:Use P w K mg base "by_turns" ["one","other"] 1 spBy fB dB) (bS:Binds K fd ["one","other"] []) (mS:mg "merger_of" = some (.ref f)):FnOk P w K mg base CX0 6 f fd ["one","other"] zan :=
 FnOk.any 4 fun m hm=>(zdd F G UB bS mS m).mono (by lia)
end
abbrev zeE:Stmt:=top 6
def zbO:Sp:=fun vs H Q _=>∃ k:Nat,vs=[.int ((k+1:Nat):Int)]∧k<4∧∀ r' fr' er' ps' H',Same H H'→NetAt H' r' fr' er' ps' (zal (zaG k))→Q (.ref r') H'
section
variable {P:Program}{w:World}{K:PySem.W.Frag}{mg:Str→Option Value}{base:Heap}
theorem scMr:FnScope ["k","row","half"] ["k"] (zaf zeE):=⟨rfl,rfl,rfl,by decide +kernel,rfl,by decide +kernel,by decide +kernel⟩
theorem zgJ {f fR fT fM:Addr}{fd dR dT dM:FuncData}(F:Fun K "merger" "merger" zeE f fd) (G:Mgs mg) (UR:Use P w K mg base "row_of" ["k"] 2 zcy fR dR) (UT:Use P w K mg base "merger_of" ["one","other"] 6 zan fT dT) (UM:Use P w K mg base "net_of" ["row","made"] 3 zbl fM dM):FnOk P w K mg base CX0 7 f fd ["k"] zbO:=by
 refine F.ok scMr (fun vs H Q E h=>?_) (fun cdv A outer s H vs Q E hr h=>?_)
 ·obtain⟨k,rfl,_⟩:=h
  rfl
 obtain⟨k,rfl,k4,q⟩:=h
 have hr2:Room 2 _:=hr.mono (by decide)
 have hr3:Room 3 _:=hr.mono (by decide)
 refine⟨_,(@pss_cons _ _ _ _ _ (@zak _ _ 1 _ _ _ _ scMr.nd rfl (.inl rfl) (@pe_call _ _ _ _ _ _ _ _ _ _ _ _ _ _ _ _ UR.ok hr2 (by rfl) UR.m UR.kp UR.b .nil pass0 (@pa_cons _ _ _ _ _ (@pv _ 0 _ _ (by rfl) (by first|exact Or.inl rfl|exact Or.inr (.inl rfl)|exact Or.inr (.inr rfl)) (by decide) (by decide)) pa_nil (by rfl)) (by decide) (by rfl) (by rfl)) (by rfl) (by first|exact .inl rfl|exact .inr rfl|assumption)) (@pss_cons _ _ _ _ _ (@zak _ _ 2 _ _ _ _ scMr.nd rfl (.inl rfl) (@pe_op _ _ _ _ _ _ _ _ zar (@zaj _ _ _ _ _ _ _ _ _ zai (by rfl) G.len PySem.boot_len (@pa_cons _ _ _ _ _ (@pv _ 1 _ _ (by rfl) (by first|exact Or.inl rfl|exact Or.inr (.inl rfl)|exact Or.inr (.inr rfl)) (by decide) (by decide)) pa_nil (by rfl)) (by decide) (by decide) (by rfl) (by rfl)) pe_int) (by rfl) (by first|exact .inl rfl|exact .inr rfl|assumption)) (@pss_one _ _ _ (@ps_ret _ _ _ _ (@pe_call _ _ _ _ _ _ _ _ _ _ _ _ _ _ _ _ UM.ok hr3 (by rfl) UM.m UM.kp UM.b .nil pass0 (@pa_cons _ _ _ _ _ (@pv _ 1 _ _ (by rfl) (by first|exact Or.inl rfl|exact Or.inr (.inl rfl)|exact Or.inr (.inr rfl)) (by decide) (by decide)) (@pa_cons _ _ _ _ _ (@pe_call _ _ _ _ _ _ _ _ _ _ _ _ _ _ _ _ UT.ok hr (by rfl) UT.m UT.kp UT.b .nil pass0 (@pa_cons _ _ _ _ _ (@pe_slice _ _ _ _ _ _ _ _ _ _ sl_list (@pv _ 1 _ _ (by rfl) (by first|exact Or.inl rfl|exact Or.inr (.inl rfl)|exact Or.inr (.inr rfl)) (by decide) (by decide)) po_none (@po_some _ _ _ (@pv _ 2 _ _ (by rfl) (by first|exact Or.inl rfl|exact Or.inr (.inl rfl)|exact Or.inr (.inr rfl)) (by decide) (by decide)))) (@pa_cons _ _ _ _ _ (@pe_slice _ _ _ _ _ _ _ _ _ _ sl_list (@pv _ 1 _ _ (by rfl) (by first|exact Or.inl rfl|exact Or.inr (.inl rfl)|exact Or.inr (.inr rfl)) (by decide) (by decide)) (@po_some _ _ _ (@pv _ 2 _ _ (by rfl) (by first|exact Or.inl rfl|exact Or.inr (.inl rfl)|exact Or.inr (.inr rfl)) (by decide) (by decide))) po_none) pa_nil (by rfl)) (by rfl)) (by decide) (by rfl) (by rfl)) pa_nil (by rfl)) (by rfl)) (by decide) (by rfl) (by rfl)))))),?_⟩
 refine⟨_,rfl,k+1,rfl,by lia,fun p hp=>?_⟩
 have s1:=zaa hp (.lst (nums (List.range (2 ^ (k+1)))))
 have h1:=atNew hp (.lst (nums (List.range (2 ^ (k+1)))))
 have rl:(List.range (2 ^ (k+1))).length=2 ^ (k+1):=List.length_range
 obtain⟨t1,t2,t3⟩:=zbL rl
 have nl:=zae (List.range (2 ^ (k+1)))
 refine⟨_,rfl,p,_,rfl,.inl (SqL.of h1),_,_,rfl,rfl,⟨by decide,by decide⟩,?_⟩
 have eh:(((nums (List.range (2 ^ (k+1)))).length:Nat):Int) / 2=((2 ^ k:Nat):Int):=by rw[nl,← t1];lia
 simp only[eh]
 have kl:2 ^ k≤(List.range (2 ^ (k+1))).length:=by rw[← t1];exact t3
 refine⟨_,rfl,_,rfl,_,rfl,_,rfl,p,_,rfl,SqL.of h1,fun p2 hp2=>?_⟩
 rw[zfl _ _ kl]
 have s2:=zaa hp2 (.lst (nums ((List.range (2 ^ (k+1))).take (2 ^ k))))
 refine⟨_,rfl,_,rfl,_,rfl,p,_,rfl,SqL.of (s2 _ _ h1),fun p3 hp3=>?_⟩
 rw[zfm _ _ kl]
 have s3:=zaa hp3 (.lst (nums ((List.range (2 ^ (k+1))).drop (2 ^ k))))
 have l2:((List.range (2 ^ (k+1))).take (2 ^ k)).length=2 ^ k:=by rw[List.length_take];lia
 have l3:((List.range (2 ^ (k+1))).drop (2 ^ k)).length=2 ^ k:=by rw[List.length_drop];lia
 refine⟨k,by lia,p2,p3,_,_,rfl,s3 _ _ (atNew hp2 _),atNew hp3 _,l2,l3,by lia,fun c lf le ps H4 s4 hc hf pr he=>?_⟩
 have u4:=(s2.trans s3).trans s4
 have eN:(⟨(List.range (2 ^ (k+1))).length,(zas k ((List.range (2 ^ (k+1))).take (2 ^ k)) ((List.range (2 ^ (k+1))).drop (2 ^ k))).1,(zas k ((List.range (2 ^ (k+1))).take (2 ^ k)) ((List.range (2 ^ (k+1))).drop (2 ^ k))).2⟩:Nt)=zaG k:=by rw[List.length_range];rfl
 refine⟨p,c,lf,le,ps,_,List.range (2 ^ (k+1)),_,rfl,u4 _ _ h1,hc,hf,pr,he,by rw[eN];exact zb0 k4,fun r' fr' er' ps' H' s' n'=>?_⟩
 rw[eN]at n'
 exact q r' fr' er' ps' H' ((s1.trans u4).trans s') n'
end
abbrev zdE:Stmt:=top 18
def zbP:Sp:=fun vs H Q _=>∃ r fr er ps A k,vs=[.ref r]∧Nt.Ok A∧NetAt H r fr er ps A∧A.lanes=2 ^ k∧k<4∧2*A.forks.length+2 ^ k*(k+1)≤128∧∀ r' fr' er' ps' H',Same H H'→NetAt H' r' fr' er' ps' (zal (zaM (zal (zaw A A)) (zal (zaG k))))→Q (.ref r') H'
section
variable {P:Program}{w:World}{K:PySem.W.Frag}{mg:Str→Option Value}{base:Heap}
theorem scDb:FnScope ["net"] ["net"] (zaf zdE):=⟨rfl,rfl,rfl,by decide +kernel,rfl,by decide +kernel,by decide +kernel⟩
theorem zfH {f fB fS fM:Addr}{fd dB dS dM:FuncData}(F:Fun K "doubled" "doubled" zdE f fd) (UB:Use P w K mg base "behind" ["one","other"] 3 zbS fB dB) (US:Use P w K mg base "beside" ["one","other"] 3 zbR fS dS) (UM:Use P w K mg base "merger" ["k"] 7 zbO fM dM):FnOk P w K mg base CX0 8 f fd ["net"] zbP:=by
 refine F.ok scDb (fun vs H Q E h=>?_) (fun cdv A outer s H vs Q E hr h=>?_)
 ·obtain⟨r,fr,er,ps,A,k,rfl,_⟩:=h
  rfl
 obtain⟨r,fr,er,ps,N,k,rfl,ok,na,hl,k4,fm,q⟩:=h
 have hr3:Room 3 _:=hr.mono (by decide)
 refine⟨_,(@pss_one _ _ _ (@ps_ret _ _ _ _ (@pe_call _ _ _ _ _ _ _ _ _ _ _ _ _ _ _ _ UB.ok hr3 (by rfl) UB.m UB.kp UB.b .nil pass0 (@pa_cons _ _ _ _ _ (@pe_call _ _ _ _ _ _ _ _ _ _ _ _ _ _ _ _ US.ok hr3 (by rfl) US.m US.kp US.b .nil pass0 (@pa_cons _ _ _ _ _ (@pv _ 0 _ _ (by rfl) (by first|exact Or.inl rfl|exact Or.inr (.inl rfl)|exact Or.inr (.inr rfl)) (by decide) (by decide)) (@pa_cons _ _ _ _ _ (@pv _ 0 _ _ (by rfl) (by first|exact Or.inl rfl|exact Or.inr (.inl rfl)|exact Or.inr (.inr rfl)) (by decide) (by decide)) pa_nil (by rfl)) (by rfl)) (by decide) (by rfl) (by rfl)) (@pa_cons _ _ _ _ _ (@pe_call _ _ _ _ _ _ _ _ _ _ _ _ _ _ _ _ UM.ok hr (by rfl) UM.m UM.kp UM.b .nil pass0 (@pa_cons _ _ _ _ _ (@zjS _ _ _ _ _ _ _ _ _ PySem.F.plainAttrs_int PySem.F.slot_int_bit_length PySem.F.type_int_bit_length zi7 (@pe_ix _ _ _ _ _ _ _ zam (@pv _ 0 _ _ (by rfl) (by first|exact Or.inl rfl|exact Or.inr (.inl rfl)|exact Or.inr (.inr rfl)) (by decide) (by decide)) pe_int (fun _ _=>rfl)) (by rfl) (by rfl)) pa_nil (by rfl)) (by decide) (by rfl) (by rfl)) pa_nil (by rfl)) (by rfl)) (by decide) (by rfl) (by rfl)))),?_⟩
 obtain⟨m1,m4,m2⟩:=zbA k k4
 rw[m4]at m1
 have m3:=(zcN k k4).2.2
 have lb:N.lanes+N.lanes≤16:=by rw[hl];exact m3
 refine⟨_,rfl,_,rfl,r,fr,er,ps,N,r,fr,er,ps,N,rfl,ok,na,ok,na,lb,by lia,fun rb fb eb pb H1 s1 nb=>?_⟩
 have na1:=na.tups (Tups.of s1)
 have okB:=zaN (zbc ok ok lb (by lia))
 refine⟨_,rfl,r,_,0,_,rfl,rfl,SqT.of na1.net,rfl,rfl,_,rfl,rfl,k,?_,k4,fun rm fm' em pm H2 s2 nm=>?_⟩
 ·rw[hl,zia k (by lia)];rfl
 have hl2:(zal (zaG k)).lanes=(zal (zaw N N)).lanes:=by
  show (zaG k).lanes=N.lanes+N.lanes
  rw[m2,hl,Nat.pow_succ];lia
 have fm2:(zal (zaw N N)).forks.length+(zal (zaG k)).forks.length≤128:=by
  rw[zaJ,zaJ,zbD];lia
 refine⟨rb,fb,eb,pb,_,rm,fm',em,pm,_,rfl,okB,nb.tups (Tups.of s2),zaN (zb0 k4),nm,hl2,fm2,fun r' fr' er' ps' H3 s3 n3=>?_⟩
 exact q r' fr' er' ps' H3 ((s1.trans s2).trans s3) n3
end
abbrev zdC:Stmt:=top 19
def zbN:Sp:=fun vs H Q _=>∃ r fr er ps A p q,vs=[.ref r,.ref p]∧Nt.Ok A∧NetAt H r fr er ps A∧H p=some (.tup (nums q))∧q.Perm (List.range A.lanes)∧∀ r' fr' er' ps' H',Same H H'→NetAt H' r' fr' er' ps' (zal (za1 A q))→Q (.ref r') H'
section
variable {P:Program}{w:World}{K:PySem.W.Frag}{mg:Str→Option Value}{base:Heap}
theorem scJr:FnScope ["net","p","forks","ends"] ["net","p"] (zaf zdC):=⟨rfl,rfl,rfl,by decide +kernel,rfl,by decide +kernel,by decide +kernel⟩
theorem zfF {f fC fP:Addr}{fd dC dP:FuncData}(F:Fun K "renamed" "renamed" zdC f fd) (UC:Use P w K mg base "called" ["net","names"] 1 zbQ fC dC) (UP:Use P w K mg base "plain" ["net"] 2 zbk fP dP):FnOk P w K mg base CX0 3 f fd ["net","p"] zbN:=by
 refine F.ok scJr (fun vs H Q E h=>?_) (fun cdv A outer s H vs Q E hr h=>?_)
 ·obtain⟨r,fr,er,ps,A,p,q,rfl,_⟩:=h
  rfl
 obtain⟨r,fr,er,ps,N,p,q,rfl,ok,na,hp,pq,k⟩:=h
 have hr1:Room 1 _:=hr.mono (by decide)
 refine⟨_,(@pss_cons _ _ _ _ _ (@ps_asg _ _ _ _ _ _ (@pe_call _ _ _ _ _ _ _ _ _ _ _ _ _ _ _ _ UC.ok hr1 (by rfl) UC.m UC.kp UC.b .nil pass0 (@pa_cons _ _ _ _ _ (@pv _ 0 _ _ (by rfl) (by first|exact Or.inl rfl|exact Or.inr (.inl rfl)|exact Or.inr (.inr rfl)) (by decide) (by decide)) (@pa_cons _ _ _ _ _ (@pv _ 1 _ _ (by rfl) (by first|exact Or.inl rfl|exact Or.inr (.inl rfl)|exact Or.inr (.inr rfl)) (by decide) (by decide)) pa_nil (by rfl)) (by rfl)) (by decide) (by rfl) (by rfl)) (@zao _ _ _ _ _ _ rfl (@pgs_cons _ _ _ _ _ (@zab _ _ 2 _ scJr.nd rfl (.inl rfl) (by first|exact .inl rfl|exact .inr rfl|assumption)) (@pgs_cons _ _ _ _ _ (@zab _ _ 3 _ scJr.nd rfl (.inl rfl) (by first|exact .inl rfl|exact .inr rfl|assumption)) pgs_nil (by rfl)) (by rfl)) (by rfl) (by rfl)) (by rfl) (by rfl) (by rfl)) (@pss_one _ _ _ (@ps_ret _ _ _ _ (@pe_call _ _ _ _ _ _ _ _ _ _ _ _ _ _ _ _ UP.ok hr (by rfl) UP.m UP.kp UP.b .nil pass0 (@pa_cons _ _ _ _ _ (@pe_tup _ _ _ _ _ (@pa_cons _ _ _ _ _ (@pe_ix _ _ _ _ _ _ _ zam (@pv _ 0 _ _ (by rfl) (by first|exact Or.inl rfl|exact Or.inr (.inl rfl)|exact Or.inr (.inr rfl)) (by decide) (by decide)) pe_int (fun _ _=>rfl)) (@pa_cons _ _ _ _ _ (@pv _ 2 _ _ (by rfl) (by first|exact Or.inl rfl|exact Or.inr (.inl rfl)|exact Or.inr (.inr rfl)) (by decide) (by decide)) (@pa_cons _ _ _ _ _ (@pv _ 3 _ _ (by rfl) (by first|exact Or.inl rfl|exact Or.inr (.inl rfl)|exact Or.inr (.inr rfl)) (by decide) (by decide)) pa_nil (by rfl)) (by rfl)) (by rfl))) pa_nil (by rfl)) (by decide) (by rfl) (by rfl))))),?_⟩
 refine⟨_,rfl,_,rfl,r,fr,er,ps,N,p,q,rfl,ok,na,hp,by rw[zbz pq];exact Nat.le_refl _,fun t f1 e1 p1 H1 s1 ht hf1 pf1 he1=>?_⟩
 refine⟨t,_,rfl,SqT.of ht,rfl,_,_,rfl,_,_,rfl,rfl,?_⟩
 refine⟨_,rfl,r,_,_,_,rfl,rfl,SqT.of (s1 _ _ na.net),rfl,_,rfl,_,rfl,(by show 3≤sizeLine;decide),fun r3 hr3=>?_⟩
 have s3:=zaa hr3 (.tup [.int N.lanes,.ref f1,.ref e1])
 exact⟨r3,f1,e1,_,za1 N q,rfl,zca ok pq,⟨atNew hr3 _,s3 _ _ hf1,pf1.tups (Tups.of s3),s3 _ _ he1⟩,fun r' fr' ps' H' s' n'=>k r' fr' e1 ps' H' ((s1.trans s3).trans s') n'⟩
end
abbrev zbV:Stmt:=top 12
abbrev zcE:Stmt:=top 7
def zaD (m:Nat):Sp:=fun vs H Q _=>∃ p row,vs=[.ref p]∧H p=some (.lst (nums row))∧row.length=2 ^ m∧m≤4∧∀ c lf le ps H',Same H H'→H' c=some (.tup [.ref lf,.ref le])→H' lf=some (.lst ps)→Prs H' ps (zaZ m row).1→H' le=some (.lst (nums (zaZ m row).2))→Q (.ref c) H'
def zbw:Sp:=fun vs H Q _=>∃ k:Nat,vs=[.int k]∧k<5∧∀ r' fr' er' ps' H',Same H H'→NetAt H' r' fr' er' ps' (zal (zck k))→Q (.ref r') H'
section
variable {P:Program}{w:World}{K:PySem.W.Frag}{mg:Str→Option Value}{base:Heap}
theorem scSo:FnScope ["row","half","first_forks","first_ends","second_forks","second_ends","last_forks","ends"] ["row"] (zaf zbV):=⟨rfl,rfl,rfl,by decide +kernel,rfl,by decide +kernel,by decide +kernel⟩
theorem zcJ {f fB:Addr}{fd dB:FuncData}(F:Fun K "stairway_of" "stairway_of" zbV f fd) (G:Mgs mg) (UM:Use P w K mg base "merger_of" ["one","other"] 6 zan fB dB) (bS:Binds K fd ["row"] []) (mS:mg "stairway_of" = some (.ref f)) (n:Nat)
  (GS:FnOk P w K mg base CX0 (n+6) f fd ["row"] (fun vs H Q E=>∃ m,n=m+1∧zaD m vs H Q E)):FnOk P w K mg base CX0 (n+7) f fd ["row"] (zaD n):=by
 have UT:Use P w K mg base "stairway_of" ["row"] (n+6) (fun vs H Q E=>∃ m,n=m+1∧zaD m vs H Q E) f fd:=⟨GS,bS,F.kp,mS⟩
 refine F.ok scSo (fun vs H Q E h=>?_) (fun cdv A outer s H vs Q E hr h=>?_)
 ·obtain⟨p,row,rfl,_⟩:=h
  rfl
 obtain⟨p,row,rfl,hp,rl,n20,k⟩:=h
 have hr6:Room 6 _:=hr.mono (by lia)
 refine⟨_,(@pss_cons _ _ _ _ _ (@zau _ _ _ _ _ _ _ _ (@pt_cmpR _ _ _ _ _ _ _ _ zgD (@zaj _ _ _ _ _ _ _ _ _ zai (by rfl) G.len PySem.boot_len (@pa_cons _ _ _ _ _ (@pv _ 0 _ _ (by rfl) (by first|exact Or.inl rfl|exact Or.inr (.inl rfl)|exact Or.inr (.inr rfl)) (by decide) (by decide)) pa_nil (by rfl)) (by decide) (by decide) (by rfl) (by rfl)) pe_int (nomark _)) (@pss_one _ _ _ (@ps_ret _ _ _ _ (@pe_tup _ _ _ _ _ (@pa_cons _ _ _ _ _ (@zay _ _ _ _ pa_nil) (@pa_cons _ _ _ _ _ (@pv _ 0 _ _ (by rfl) (by first|exact Or.inl rfl|exact Or.inr (.inl rfl)|exact Or.inr (.inr rfl)) (by decide) (by decide)) pa_nil (by rfl)) (by rfl))))) pss_nil) (@pss_cons _ _ _ _ _ (@zak _ _ 1 _ _ _ _ scSo.nd rfl (.inl rfl) (@pe_op _ _ _ _ _ _ _ _ zar (@zaj _ _ _ _ _ _ _ _ _ zai (by rfl) G.len PySem.boot_len (@pa_cons _ _ _ _ _ (@pv _ 0 _ _ (by rfl) (by first|exact Or.inl rfl|exact Or.inr (.inl rfl)|exact Or.inr (.inr rfl)) (by decide) (by decide)) pa_nil (by rfl)) (by decide) (by decide) (by rfl) (by rfl)) pe_int) (by rfl) (by first|exact .inl rfl|exact .inr rfl|assumption)) (@pss_cons _ _ _ _ _ (@ps_asg _ _ _ _ _ _ (@pe_call _ _ _ _ _ _ _ _ _ _ _ _ _ _ _ _ UT.ok hr (by rfl) UT.m UT.kp UT.b .nil pass0 (@pa_cons _ _ _ _ _ (@pe_slice _ _ _ _ _ _ _ _ _ _ sl_list (@pv _ 0 _ _ (by rfl) (by first|exact Or.inl rfl|exact Or.inr (.inl rfl)|exact Or.inr (.inr rfl)) (by decide) (by decide)) po_none (@po_some _ _ _ (@pv _ 1 _ _ (by rfl) (by first|exact Or.inl rfl|exact Or.inr (.inl rfl)|exact Or.inr (.inr rfl)) (by decide) (by decide)))) pa_nil (by rfl)) (by decide) (by rfl) (by rfl)) (@zao _ _ _ _ _ _ rfl (@pgs_cons _ _ _ _ _ (@zab _ _ 2 _ scSo.nd rfl (.inl rfl) (by first|exact .inl rfl|exact .inr rfl|assumption)) (@pgs_cons _ _ _ _ _ (@zab _ _ 3 _ scSo.nd rfl (.inl rfl) (by first|exact .inl rfl|exact .inr rfl|assumption)) pgs_nil (by rfl)) (by rfl)) (by rfl) (by rfl)) (by rfl) (by rfl) (by rfl)) (@pss_cons _ _ _ _ _ (@ps_asg _ _ _ _ _ _ (@pe_call _ _ _ _ _ _ _ _ _ _ _ _ _ _ _ _ UT.ok hr (by rfl) UT.m UT.kp UT.b .nil pass0 (@pa_cons _ _ _ _ _ (@pe_slice _ _ _ _ _ _ _ _ _ _ sl_list (@pv _ 0 _ _ (by rfl) (by first|exact Or.inl rfl|exact Or.inr (.inl rfl)|exact Or.inr (.inr rfl)) (by decide) (by decide)) (@po_some _ _ _ (@pv _ 1 _ _ (by rfl) (by first|exact Or.inl rfl|exact Or.inr (.inl rfl)|exact Or.inr (.inr rfl)) (by decide) (by decide))) po_none) pa_nil (by rfl)) (by decide) (by rfl) (by rfl)) (@zao _ _ _ _ _ _ rfl (@pgs_cons _ _ _ _ _ (@zab _ _ 4 _ scSo.nd rfl (.inl rfl) (by first|exact .inl rfl|exact .inr rfl|assumption)) (@pgs_cons _ _ _ _ _ (@zab _ _ 5 _ scSo.nd rfl (.inl rfl) (by first|exact .inl rfl|exact .inr rfl|assumption)) pgs_nil (by rfl)) (by rfl)) (by rfl) (by rfl)) (by rfl) (by rfl) (by rfl)) (@pss_cons _ _ _ _ _ (@ps_asg _ _ _ _ _ _ (@pe_call _ _ _ _ _ _ _ _ _ _ _ _ _ _ _ _ UM.ok hr6 (by rfl) UM.m UM.kp UM.b .nil pass0 (@pa_cons _ _ _ _ _ (@pv _ 3 _ _ (by rfl) (by first|exact Or.inl rfl|exact Or.inr (.inl rfl)|exact Or.inr (.inr rfl)) (by decide) (by decide)) (@pa_cons _ _ _ _ _ (@pv _ 5 _ _ (by rfl) (by first|exact Or.inl rfl|exact Or.inr (.inl rfl)|exact Or.inr (.inr rfl)) (by decide) (by decide)) pa_nil (by rfl)) (by rfl)) (by decide) (by rfl) (by rfl)) (@zao _ _ _ _ _ _ rfl (@pgs_cons _ _ _ _ _ (@zab _ _ 6 _ scSo.nd rfl (.inl rfl) (by first|exact .inl rfl|exact .inr rfl|assumption)) (@pgs_cons _ _ _ _ _ (@zab _ _ 7 _ scSo.nd rfl (.inl rfl) (by first|exact .inl rfl|exact .inr rfl|assumption)) pgs_nil (by rfl)) (by rfl)) (by rfl) (by rfl)) (by rfl) (by rfl) (by rfl)) (@pss_one _ _ _ (@ps_ret _ _ _ _ (@pe_tup _ _ _ _ _ (@pa_cons _ _ _ _ _ (@pe_op _ _ _ _ _ _ _ _ op_cat (@pe_op _ _ _ _ _ _ _ _ op_cat (@pv _ 2 _ _ (by rfl) (by first|exact Or.inl rfl|exact Or.inr (.inl rfl)|exact Or.inr (.inr rfl)) (by decide) (by decide)) (@pv _ 4 _ _ (by rfl) (by first|exact Or.inl rfl|exact Or.inr (.inl rfl)|exact Or.inr (.inr rfl)) (by decide) (by decide))) (@pv _ 6 _ _ (by rfl) (by first|exact Or.inl rfl|exact Or.inr (.inl rfl)|exact Or.inr (.inr rfl)) (by decide) (by decide))) (@pa_cons _ _ _ _ _ (@pv _ 7 _ _ (by rfl) (by first|exact Or.inl rfl|exact Or.inr (.inl rfl)|exact Or.inr (.inr rfl)) (by decide) (by decide)) pa_nil (by rfl)) (by rfl)))))))))),?_⟩
 have nl:=zae row
 have p8:2 ^ n≤2 ^ 4:=Nat.pow_le_pow_right (by decide) n20
 have e8:2 ^ 4=16:=rfl
 refine⟨_,rfl,p,_,rfl,.inl (SqL.of hp),_,_,rfl,rfl,_,rfl,?_⟩
 cases n with
 | zero =>
  have rl1:row.length=1:=rl
  rw[decide_eq_true (show (((nums row).length:Nat):Int)<2 by lia)]
  refine iteT ⟨(by show 0≤sizeLine;decide),fun l hl=>⟨_,rfl,(by show 2≤sizeLine;decide),fun c hc=>?_⟩⟩
  have s1:=zaa hl (.lst [])
  have s2:=zaa hc (.tup [.ref l,.ref p])
  exact k c l p [] _ (s1.trans s2) (atNew hc _) (s2 _ _ (atNew hl _)) trivial (s2 _ _ (s1 _ _ hp))
 | succ m =>
  obtain⟨t1,t2,t3⟩:=zbL rl
  obtain⟨la,lb⟩:=zdT rl
  have pw:2 ^ (m+1)=2 ^ m*2:=Nat.pow_succ ..
  have p0:=Nat.one_le_two_pow (n:=m)
  rw[decide_eq_false (show ¬(((nums row).length:Nat):Int)<2 by lia)]
  refine iteF ⟨_,rfl,p,_,rfl,.inl (SqL.of hp),_,_,rfl,rfl,⟨by decide,by decide⟩,?_⟩
  have eh:(((nums row).length:Nat):Int) / 2=((row.length / 2:Nat):Int):=by rw[nl];lia
  simp only[eh]
  refine⟨_,rfl,_,rfl,_,rfl,p,_,rfl,SqL.of hp,fun p1 hp1=>?_⟩
  rw[zfl row _ t3]
  have s1:=zaa hp1 (.lst (nums (row.take (row.length / 2))))
  refine⟨m,rfl,p1,row.take (row.length / 2),rfl,atNew hp1 _,la,by lia,fun c2 lf2 le2 ps2 H2 s2 hc2 hf2 pr2 he2=>?_⟩
  have u2:=s1.trans s2
  refine⟨c2,_,rfl,SqT.of hc2,rfl,_,_,rfl,_,_,rfl,rfl,?_⟩
  refine⟨_,rfl,_,rfl,_,rfl,p,_,rfl,SqL.of (u2 _ _ hp),fun p3 hp3=>?_⟩
  rw[zfm row _ t3]
  have s3:=zaa hp3 (.lst (nums (row.drop (row.length / 2))))
  refine⟨m,rfl,p3,row.drop (row.length / 2),rfl,atNew hp3 _,lb,by lia,fun c4 lf4 le4 ps4 H4 s4 hc4 hf4 pr4 he4=>?_⟩
  have u4:=s3.trans s4
  refine⟨c4,_,rfl,SqT.of hc4,rfl,_,_,rfl,_,_,rfl,rfl,?_⟩
  obtain⟨xl,xf⟩:=za8 m _ la
  obtain⟨yl,yf⟩:=za8 m _ lb
  obtain⟨zl,zf⟩:=zaA m _ _ xl yl
  have pl2:=pr2.len
  have pl4:=pr4.len
  obtain⟨bd1,bd2⟩:=za0 m (by lia)
  refine⟨_,rfl,_,rfl,m,by lia,le2,le4,_,_,rfl,u4 _ _ he2,he4,xl,yl,by lia,fun c6 lf6 le6 ps6 H6 s6 hc6 hf6 pr6 he6=>?_⟩
  refine⟨c6,_,rfl,SqT.of hc6,rfl,_,_,rfl,_,_,rfl,rfl,?_⟩
  have pl6:=pr6.len
  refine⟨_,rfl,_,rfl,lf2,lf4,_,_,rfl,rfl,s6 _ _ (u4 _ _ hf2),s6 _ _ hf4,by rw[sizeLine_eq];lia,fun l7 hl7=>?_⟩
  have s7:=zaa hl7 (.lst (ps2++ps4))
  refine⟨_,rfl,l7,lf6,_,_,rfl,rfl,atNew hl7 _,s7 _ _ hf6,by rw[sizeLine_eq,List.length_append];lia,fun l8 hl8=>?_⟩
  have s8:=zaa hl8 (.lst ((ps2++ps4)++ps6))
  refine⟨_,rfl,(by show 2≤sizeLine;decide),fun c hc=>?_⟩
  have s9:=zaa hc (.tup [.ref l8,.ref le6])
  have u9:=(s7.trans s8).trans s9
  refine k c l8 le6 _ _ ((u2.trans u4).trans (s6.trans u9)) (atNew hc _) (s9 _ _ (atNew hl8 _)) ?_ (u9 _ _ he6)
  refine Prs.tups (Tups.of u9) ?_
  exact Prs.app (Prs.app ((pr2.tups (Tups.of u4)).tups (Tups.of s6)) (pr4.tups (Tups.of s6))) pr6
theorem zdc {f fB:Addr}{fd dB:FuncData}(F:Fun K "stairway_of" "stairway_of" zbV f fd) (G:Mgs mg) (UM:Use P w K mg base "merger_of" ["one","other"] 6 zan fB dB) (bS:Binds K fd ["row"] []) (mS:mg "stairway_of" = some (.ref f)):∀ n:Nat,FnOk P w K mg base CX0 (n+7) f fd ["row"] (zaD n)
 | 0=>zcJ F G UM bS mS 0 ⟨fun vs H Q E ⟨m,h,_⟩=>by lia,fun A outer s H args us vs Q E _ _ _ _ ⟨m,h,_⟩=>by lia⟩
 | m+1=>zcJ F G UM bS mS (m+1) ((zdc F G UM bS mS m).imp fun vs H Q E ⟨m',h,q⟩=>by cases h;exact q)
abbrev zaU:Sp:=fun vs H Q E=>∃ m,m≤4∧zaD m vs H Q E
theorem zeQ {f fB:Addr}{fd dB:FuncData}(F:Fun K "stairway_of" "stairway_of" zbV f fd) (G:Mgs mg) (UM:Use P w K mg base "merger_of" ["one","other"] 6 zan fB dB) (bS:Binds K fd ["row"] []) (mS:mg "stairway_of" = some (.ref f)):FnOk P w K mg base CX0 11 f fd ["row"] zaU :=
 FnOk.any 4 fun m hm=>(zdc F G UM bS mS m).mono (by lia)
theorem scSw:FnScope ["k","row"] ["k"] (zaf zcE):=⟨rfl,rfl,rfl,by decide +kernel,rfl,by decide +kernel,by decide +kernel⟩
theorem zeP {f fR fT fM:Addr}{fd dR dT dM:FuncData}(F:Fun K "stairway" "stairway" zcE f fd) (UR:Use P w K mg base "row_of" ["k"] 2 zcy fR dR) (UT:Use P w K mg base "stairway_of" ["row"] 11 zaU fT dT) (UM:Use P w K mg base "net_of" ["row","made"] 3 zbl fM dM):FnOk P w K mg base CX0 12 f fd ["k"] zbw:=by
 refine F.ok scSw (fun vs H Q E h=>?_) (fun cdv A outer s H vs Q E hr h=>?_)
 ·obtain⟨k,rfl,_⟩:=h
  rfl
 obtain⟨k,rfl,k5,q⟩:=h
 have hr2:Room 2 _:=hr.mono (by decide)
 have hr3:Room 3 _:=hr.mono (by decide)
 refine⟨_,(@pss_cons _ _ _ _ _ (@zak _ _ 1 _ _ _ _ scSw.nd rfl (.inl rfl) (@pe_call _ _ _ _ _ _ _ _ _ _ _ _ _ _ _ _ UR.ok hr2 (by rfl) UR.m UR.kp UR.b .nil pass0 (@pa_cons _ _ _ _ _ (@pv _ 0 _ _ (by rfl) (by first|exact Or.inl rfl|exact Or.inr (.inl rfl)|exact Or.inr (.inr rfl)) (by decide) (by decide)) pa_nil (by rfl)) (by decide) (by rfl) (by rfl)) (by rfl) (by first|exact .inl rfl|exact .inr rfl|assumption)) (@pss_one _ _ _ (@ps_ret _ _ _ _ (@pe_call _ _ _ _ _ _ _ _ _ _ _ _ _ _ _ _ UM.ok hr3 (by rfl) UM.m UM.kp UM.b .nil pass0 (@pa_cons _ _ _ _ _ (@pv _ 1 _ _ (by rfl) (by first|exact Or.inl rfl|exact Or.inr (.inl rfl)|exact Or.inr (.inr rfl)) (by decide) (by decide)) (@pa_cons _ _ _ _ _ (@pe_call _ _ _ _ _ _ _ _ _ _ _ _ _ _ _ _ UT.ok hr (by rfl) UT.m UT.kp UT.b .nil pass0 (@pa_cons _ _ _ _ _ (@pv _ 1 _ _ (by rfl) (by first|exact Or.inl rfl|exact Or.inr (.inl rfl)|exact Or.inr (.inr rfl)) (by decide) (by decide)) pa_nil (by rfl)) (by decide) (by rfl) (by rfl)) pa_nil (by rfl)) (by rfl)) (by decide) (by rfl) (by rfl))))),?_⟩
 refine⟨_,rfl,k,rfl,by lia,fun p hp=>?_⟩
 have s1:=zaa hp (.lst (nums (List.range (2 ^ k))))
 refine⟨_,rfl,_,rfl,k,by lia,p,List.range (2 ^ k),rfl,atNew hp _,List.length_range,by lia,fun c lf le ps H2 s2 hc hf pr he=>?_⟩
 have eN:(⟨(List.range (2 ^ k)).length,(zaZ k (List.range (2 ^ k))).1,(zaZ k (List.range (2 ^ k))).2⟩:Nt)=zck k:=by rw[List.length_range];rfl
 refine⟨p,c,lf,le,ps,_,List.range (2 ^ k),_,rfl,s2 _ _ (atNew hp _),hc,hf,pr,he,by rw[eN];exact ze5 k5,fun r' fr' er' ps' H' s' n'=>?_⟩
 rw[eN]at n'
 exact q r' fr' er' ps' H' ((s1.trans s2).trans s') n'
end
abbrev zfb:Stmt:=top 13
abbrev zeC:Stmt:=top 8
def zb8 (m:Nat):Sp:=fun vs H Q _=>∃ p row,vs=[.ref p]∧H p=some (.lst (nums row))∧row.length≤2 ^ m∧row.length≤1000∧m≤20∧∀ l ps H',Same H H'→H' l=some (.lst ps)→Prs H' ps (zaz m row)→Q (.ref l) H'
def zcr:Sp:=fun vs H Q _=>∃ k:Nat,vs=[.int k]∧k<5∧∀ r' fr' er' ps' H',Same H H'→NetAt H' r' fr' er' ps' (dueN k)→Q (.ref r') H'
theorem zdX (row:List Nat) (i:Nat) (h:i≤row.length):cutV (nums row) none (some (i:Int))=nums (row.take i):=by
 rw[zdW _ _ (by rw[zae];exact h)]
 unfold nums
 rw[List.map_take]
theorem zfq (row:List Nat) (i:Nat) (h:i≤row.length):cutV (nums row) (some (i:Int)) none=nums (row.drop i):=by
 rw[zdY _ _ (by rw[zae];exact h)]
 unfold nums
 rw[List.map_drop]
section
variable {P:Program}{w:World}{K:PySem.W.Frag}{mg:Str→Option Value}{base:Heap}
theorem scBk:FnScope ["row","half"] ["row"] (zaf zfb):=⟨rfl,rfl,rfl,by decide +kernel,rfl,by decide +kernel,by decide +kernel⟩
theorem zek {f:Addr}{fd:FuncData}(F:Fun K "block_of" "block_of" zfb f fd) (G:Mgs mg) (bS:Binds K fd ["row"] []) (mS:mg "block_of" = some (.ref f)) (n:Nat)
  (GS:FnOk P w K mg base CX0 n f fd ["row"] (fun vs H Q E=>∃ m,n=m+1∧zb8 m vs H Q E)):FnOk P w K mg base CX0 (n+1) f fd ["row"] (zb8 n):=by
 have UB:Use P w K mg base "block_of" ["row"] n (fun vs H Q E=>∃ m,n=m+1∧zb8 m vs H Q E) f fd:=⟨GS,bS,F.kp,mS⟩
 refine F.ok scBk (fun vs H Q E h=>?_) (fun cdv A outer s H vs Q E hr h=>?_)
 ·obtain⟨p,row,rfl,_⟩:=h
  rfl
 obtain⟨p,row,rfl,hp,rl,r1000,n20,k⟩:=h
 refine⟨_,(@pss_cons _ _ _ _ _ (@zau _ _ _ _ _ _ _ _ (@pt_cmpR _ _ _ _ _ _ _ _ zgD (@zaj _ _ _ _ _ _ _ _ _ zai (by rfl) G.len PySem.boot_len (@pa_cons _ _ _ _ _ (@pv _ 0 _ _ (by rfl) (by first|exact Or.inl rfl|exact Or.inr (.inl rfl)|exact Or.inr (.inr rfl)) (by decide) (by decide)) pa_nil (by rfl)) (by decide) (by decide) (by rfl) (by rfl)) pe_int (nomark _)) (@pss_one _ _ _ (@ps_ret _ _ _ _ (@zay _ _ _ _ pa_nil))) pss_nil) (@pss_cons _ _ _ _ _ (@zak _ _ 1 _ _ _ _ scBk.nd rfl (.inl rfl) (@pe_op _ _ _ _ _ _ _ _ zar (@zaj _ _ _ _ _ _ _ _ _ zai (by rfl) G.len PySem.boot_len (@pa_cons _ _ _ _ _ (@pv _ 0 _ _ (by rfl) (by first|exact Or.inl rfl|exact Or.inr (.inl rfl)|exact Or.inr (.inr rfl)) (by decide) (by decide)) pa_nil (by rfl)) (by decide) (by decide) (by rfl) (by rfl)) pe_int) (by rfl) (by first|exact .inl rfl|exact .inr rfl|assumption)) (@pss_one _ _ _ (@ps_ret _ _ _ _ (@pe_op _ _ _ _ _ _ _ _ op_cat (@pe_op _ _ _ _ _ _ _ _ op_cat (@zbZ _ _ _ _ _ _ _ _ true true (by rfl) G.list (by rfl) G.zip rfl (@pa_cons _ _ _ _ _ (@pe_slice _ _ _ _ _ _ _ _ _ _ sl_list (@pv _ 0 _ _ (by rfl) (by first|exact Or.inl rfl|exact Or.inr (.inl rfl)|exact Or.inr (.inr rfl)) (by decide) (by decide)) po_none (@po_some _ _ _ (@pv _ 1 _ _ (by rfl) (by first|exact Or.inl rfl|exact Or.inr (.inl rfl)|exact Or.inr (.inr rfl)) (by decide) (by decide)))) (@pa_cons _ _ _ _ _ (@zjP _ _ _ _ _ _ _ (@pv _ 0 _ _ (by rfl) (by first|exact Or.inl rfl|exact Or.inr (.inl rfl)|exact Or.inr (.inr rfl)) (by decide) (by decide)) (@po_some _ _ _ (@zjO _ _ _ _ _ _ zib pe_int))) pa_nil (by rfl)) (by rfl)) (by rfl) (by rfl) (by rfl)) (@pe_call _ _ _ _ _ _ _ _ _ _ _ _ _ _ _ _ UB.ok hr (by rfl) UB.m UB.kp UB.b .nil pass0 (@pa_cons _ _ _ _ _ (@pe_slice _ _ _ _ _ _ _ _ _ _ sl_list (@pv _ 0 _ _ (by rfl) (by first|exact Or.inl rfl|exact Or.inr (.inl rfl)|exact Or.inr (.inr rfl)) (by decide) (by decide)) po_none (@po_some _ _ _ (@pv _ 1 _ _ (by rfl) (by first|exact Or.inl rfl|exact Or.inr (.inl rfl)|exact Or.inr (.inr rfl)) (by decide) (by decide)))) pa_nil (by rfl)) (by decide) (by rfl) (by rfl))) (@pe_call _ _ _ _ _ _ _ _ _ _ _ _ _ _ _ _ UB.ok hr (by rfl) UB.m UB.kp UB.b .nil pass0 (@pa_cons _ _ _ _ _ (@pe_slice _ _ _ _ _ _ _ _ _ _ sl_list (@pv _ 0 _ _ (by rfl) (by first|exact Or.inl rfl|exact Or.inr (.inl rfl)|exact Or.inr (.inr rfl)) (by decide) (by decide)) (@po_some _ _ _ (@pv _ 1 _ _ (by rfl) (by first|exact Or.inl rfl|exact Or.inr (.inl rfl)|exact Or.inr (.inr rfl)) (by decide) (by decide))) po_none) pa_nil (by rfl)) (by decide) (by rfl) (by rfl))))))),?_⟩
 have nl:=zae row
 refine⟨_,rfl,p,_,rfl,.inl (SqL.of hp),_,_,rfl,rfl,_,rfl,?_⟩
 by_cases c:row.length<2
 ·rw[decide_eq_true (show (((nums row).length:Nat):Int)<2 by lia)]
  refine iteT ⟨(by show 0≤sizeLine;decide),fun l hl=>k l [] _ (zaa hl _) (atNew hl _) ?_⟩
  have e:zaz n row=[]:=by
   cases n with
   | zero=>rfl
   | succ m=>unfold zaz;rw[if_pos c]
  rw[e];trivial
 rw[decide_eq_false (show ¬(((nums row).length:Nat):Int)<2 by lia)]
 obtain⟨m,rfl⟩:∃ m,n=m+1:=by
  cases n with
  | zero=>rw[show 2 ^ 0=1 from rfl]at rl;lia
  | succ m=>exact⟨m,rfl⟩
 rw[Nat.pow_succ]at rl
 refine iteF ⟨_,rfl,p,_,rfl,.inl (SqL.of hp),_,_,rfl,rfl,⟨by decide,by decide⟩,?_⟩
 have eh:(((nums row).length:Nat):Int) / 2=((row.length / 2:Nat):Int):=by rw[nl];lia
 simp only[eh]
 have hh:row.length / 2≤row.length:=by lia
 refine⟨_,rfl,_,rfl,_,rfl,p,_,rfl,SqL.of hp,fun p1 hp1=>?_⟩
 rw[zdX row _ hh]
 have s1:=zaa hp1 (.lst (nums (row.take (row.length / 2))))
 refine⟨_,rfl,_,rfl,_,rfl,rfl,p,_,rfl,SqL.of (s1 _ _ hp),fun p2 hp2=>?_⟩
 have er:(nums row).reverse=nums row.reverse:=by unfold nums;rw[List.map_reverse]
 rw[er]
 have s2:=zaa hp2 (.lst (nums row.reverse))
 refine⟨p1,p2,_,_,rfl,SqL.of (s2 _ _ (atNew hp1 _)),SqL.of (atNew hp2 _),by rw[zae,zae,List.length_take,List.length_reverse];lia,by rw[zae,List.length_take];lia,fun lz ts H2 s3 n1 n2 z=>?_⟩
 have pz:=zdI z (by rw[List.length_take,List.length_reverse];lia)
 have s4:=zaa n2 (.lst ts)
 have u4:=((s1.trans s2).trans s3).trans s4
 have pz4:=pz.tups (Tups.of s4)
 have hz4:=atNew n2 (.lst ts)
 have tl:=pz.len
 rw[List.length_zip,List.length_take,List.length_reverse]at tl
 generalize upd H2 lz (.lst ts)=H4 at s4 u4 pz4 hz4
 have hp4:=u4 _ _ hp
 refine⟨_,rfl,_,rfl,_,rfl,p,_,rfl,SqL.of hp4,fun p5 hp5=>?_⟩
 rw[zdX row _ hh]
 have s5:=zaa hp5 (.lst (nums (row.take (row.length / 2))))
 refine⟨m,rfl,p5,row.take (row.length / 2),rfl,atNew hp5 _,by rw[List.length_take];lia,by rw[List.length_take];lia,by lia,fun l6 ps6 H6 s6 h6 pr6=>?_⟩
 have u6:=s5.trans s6
 have b6:=zaP m (row.take (row.length / 2))
 rw[List.length_take]at b6
 have b6':m*min (row.length / 2) row.length≤20*1000:=Nat.mul_le_mul (by lia) (by lia)
 have pl6:=pr6.len
 refine⟨lz,l6,_,_,rfl,rfl,u6 _ _ hz4,h6,by rw[sizeLine_eq];lia,fun l7 hl7=>?_⟩
 have s7:=zaa hl7 (.lst (ts++ps6))
 have pr7:=(Prs.app (pz4.tups (Tups.of u6)) pr6).tups (Tups.of s7)
 have h7:=atNew hl7 (.lst (ts++ps6))
 have u7:=u4.trans (u6.trans s7)
 generalize upd H6 l7 _=H7 at s7 pr7 h7 u7
 have hp7:=u7 _ _ hp
 refine⟨_,rfl,_,rfl,_,rfl,p,_,rfl,SqL.of hp7,fun p8 hp8=>?_⟩
 rw[zfq row _ hh]
 have s8:=zaa hp8 (.lst (nums (row.drop (row.length / 2))))
 refine⟨m,rfl,p8,row.drop (row.length / 2),rfl,atNew hp8 _,by rw[List.length_drop];lia,by rw[List.length_drop];lia,by lia,fun l9 ps9 H9 s9 h9 pr9=>?_⟩
 have u9:=s8.trans s9
 have b9:=zaP m (row.drop (row.length / 2))
 rw[List.length_drop]at b9
 have b9':m*(row.length-row.length / 2)≤20*1000:=Nat.mul_le_mul (by lia) (by lia)
 have pl9:=pr9.len
 refine⟨l7,l9,_,_,rfl,rfl,u9 _ _ h7,h9,by rw[List.length_append,sizeLine_eq];lia,fun l10 hl10=>?_⟩
 have s10:=zaa hl10 (.lst ((ts++ps6)++ps9))
 have pr10:=(Prs.app (pr7.tups (Tups.of u9)) pr9).tups (Tups.of s10)
 refine k l10 _ _ (u7.trans (u9.trans s10)) (atNew hl10 _) ?_
 have e:zaz (m+1) row=(row.take (row.length / 2)).zip row.reverse++zaz m (row.take (row.length / 2))++zaz m (row.drop (row.length / 2)):=by
  conv=>lhs;unfold zaz
  rw[if_neg c]
 rw[e];exact pr10
theorem zfi {f:Addr}{fd:FuncData}(F:Fun K "block_of" "block_of" zfb f fd) (G:Mgs mg) (bS:Binds K fd ["row"] []) (mS:mg "block_of" = some (.ref f)):∀ n:Nat,FnOk P w K mg base CX0 (n+1) f fd ["row"] (zb8 n)
 | 0=>zek F G bS mS 0 ⟨fun vs H Q E ⟨m,h,_⟩=>by lia,fun A outer s H args us vs Q E _ _ _ _ ⟨m,h,_⟩=>by lia⟩
 | m+1=>zek F G bS mS (m+1) ((zfi F G bS mS m).imp fun vs H Q E ⟨m',h,q⟩=>by cases h;exact q)
theorem zdn:∀ k,k<5→zaz 4 (List.range (2 ^ k))=zaz k (List.range (2 ^ k)):=by decide +kernel
theorem zeL {H:Hp}{ps:List V}{fs:List Fk}(h:Prs H ps fs):∀ n:Nat,Prs H (List.replicate n ps).flatten (List.replicate n fs).flatten
 | 0=>trivial
 | n+1=>by
  rw[List.replicate_succ,List.replicate_succ,List.flatten_cons,List.flatten_cons]
  exact Prs.app h (zeL h n)
theorem scRd:FnScope ["k","row"] ["k"] (zaf zeC):=⟨rfl,rfl,rfl,by decide +kernel,rfl,by decide +kernel,by decide +kernel⟩
theorem zgG {f fR fB fM:Addr}{fd dR dB dM:FuncData}(F:Fun K "rounds" "rounds" zeC f fd) (UR:Use P w K mg base "row_of" ["k"] 2 zcy fR dR) (UB:Use P w K mg base "block_of" ["row"] 5 (zb8 4) fB dB) (UM:Use P w K mg base "net_of" ["row","made"] 3 zbl fM dM):FnOk P w K mg base CX0 6 f fd ["k"] zcr:=by
 refine F.ok scRd (fun vs H Q E h=>?_) (fun cdv A outer s H vs Q E hr h=>?_)
 ·obtain⟨k,rfl,_⟩:=h
  rfl
 obtain⟨k,rfl,k5,q⟩:=h
 have hr2:Room 2 _:=hr.mono (by decide)
 have hr3:Room 3 _:=hr.mono (by decide)
 refine⟨_,(@pss_cons _ _ _ _ _ (@zak _ _ 1 _ _ _ _ scRd.nd rfl (.inl rfl) (@pe_call _ _ _ _ _ _ _ _ _ _ _ _ _ _ _ _ UR.ok hr2 (by rfl) UR.m UR.kp UR.b .nil pass0 (@pa_cons _ _ _ _ _ (@pv _ 0 _ _ (by rfl) (by first|exact Or.inl rfl|exact Or.inr (.inl rfl)|exact Or.inr (.inr rfl)) (by decide) (by decide)) pa_nil (by rfl)) (by decide) (by rfl) (by rfl)) (by rfl) (by first|exact .inl rfl|exact .inr rfl|assumption)) (@pss_one _ _ _ (@ps_ret _ _ _ _ (@pe_call _ _ _ _ _ _ _ _ _ _ _ _ _ _ _ _ UM.ok hr3 (by rfl) UM.m UM.kp UM.b .nil pass0 (@pa_cons _ _ _ _ _ (@pv _ 1 _ _ (by rfl) (by first|exact Or.inl rfl|exact Or.inr (.inl rfl)|exact Or.inr (.inr rfl)) (by decide) (by decide)) (@pa_cons _ _ _ _ _ (@pe_tup _ _ _ _ _ (@pa_cons _ _ _ _ _ (@pe_op _ _ _ _ _ _ _ _ zff (@pe_call _ _ _ _ _ _ _ _ _ _ _ _ _ _ _ _ UB.ok hr (by rfl) UB.m UB.kp UB.b .nil pass0 (@pa_cons _ _ _ _ _ (@pv _ 1 _ _ (by rfl) (by first|exact Or.inl rfl|exact Or.inr (.inl rfl)|exact Or.inr (.inr rfl)) (by decide) (by decide)) pa_nil (by rfl)) (by decide) (by rfl) (by rfl)) (@pv _ 0 _ _ (by rfl) (by first|exact Or.inl rfl|exact Or.inr (.inl rfl)|exact Or.inr (.inr rfl)) (by decide) (by decide))) (@pa_cons _ _ _ _ _ (@pv _ 1 _ _ (by rfl) (by first|exact Or.inl rfl|exact Or.inr (.inl rfl)|exact Or.inr (.inr rfl)) (by decide) (by decide)) pa_nil (by rfl)) (by rfl))) pa_nil (by rfl)) (by rfl)) (by decide) (by rfl) (by rfl))))),?_⟩
 have p16:2 ^ k≤2 ^ 4:=Nat.pow_le_pow_right (by decide) (by lia)
 refine⟨_,rfl,k,rfl,by lia,fun p hp=>?_⟩
 have s1:=zaa hp (.lst (nums (List.range (2 ^ k))))
 refine⟨_,rfl,_,rfl,p,List.range (2 ^ k),rfl,atNew hp _,by rw[List.length_range];exact p16,by rw[List.length_range];exact Nat.le_trans p16 (by decide),by decide,fun l ps H2 s2 hl pr=>?_⟩
 rw[zdn k k5]at pr
 have pl:=pr.len
 have bl:=zaP k (List.range (2 ^ k))
 rw[List.length_range]at bl
 have b2:k*2 ^ k≤4*2 ^ 4:=Nat.mul_le_mul (by lia) p16
 have b3:ps.length*k≤(4*2 ^ 4)*4:=Nat.mul_le_mul (by lia) (by lia)
 refine⟨_,rfl,l,k,ps,rfl,rfl,hl,by lia,by lia,by rw[Int.toNat_natCast,sizeLine_eq];lia,fun l2 hl2=>?_⟩
 rw[Int.toNat_natCast]
 have s3:=zaa hl2 (.lst (List.replicate k ps).flatten)
 refine⟨_,rfl,(by show 2≤sizeLine;decide),fun c hc=>?_⟩
 have s4:=zaa hc (.tup [.ref l2,.ref p])
 have hp4:=s4 _ _ (s3 _ _ (s2 _ _ (atNew hp (.lst (nums (List.range (2 ^ k)))))))
 have okr:=zd9 k5
 have eN:(⟨(List.range (2 ^ k)).length,(List.replicate k (zaz k (List.range (2 ^ k)))).flatten,List.range (2 ^ k)⟩:Nt)=zbn k:=by rw[List.length_range];rfl
 refine⟨p,c,l2,p,_,_,List.range (2 ^ k),List.range (2 ^ k),rfl,hp4,atNew hc _,s4 _ _ (atNew hl2 _),(zeL pr k).tups (Tups.of (s3.trans s4)),hp4,by rw[eN];exact okr,fun r' fr' er' ps' H' s' n'=>?_⟩
 rw[eN,zc8 k5]at n'
 exact q r' fr' er' ps' H' ((((s1.trans s2).trans s3).trans s4).trans s') n'
end
end K93
namespace Bn
open PySem L2 Own
def Pln.raw:Pln→Nt
 | .net N=>N
 | .way w k=>if w=0 then zck k else if w=1 then zbn k else zaG (k-1)
 | .dbl p=>zaK (pwr (2*p.lanes)-1) p.raw
 | .ren p ns=>za1 p.raw ns
 | .bes p q=>zaw p.raw q.raw
 | .beh p q=>zaM p.raw q.raw
theorem zeb:∀ k,k<5→(zbn k).forks.length=wayM 1 k:=by decide +kernel
theorem zha {k:Nat}{A:Nt}(k4:k<4) (ok:A.Ok) (hl:A.lanes=2 ^ k) (few:2*A.forks.length+2 ^ k*(k+1)≤128):(zaK k A).Ok∧(zaK k A).lanes=2*A.lanes∧(zaK k A).forks.length=2*A.forks.length+2 ^ k*(k+1):=by
 obtain⟨m1,m4,m2⟩:=zbA k k4
 rw[m4]at m1
 have m3:=(zcN k k4).2.2
 have lb:A.lanes+A.lanes≤16:=by rw[hl];exact m3
 have okB:=zbc ok ok lb (by lia)
 have ll:(zaG k).lanes=(zaw A A).lanes:=by rw[m2];show _=A.lanes+A.lanes;rw[hl,Nat.pow_succ];lia
 have bl:=zbD A A
 have okD:=zbu okB (zb0 k4) ll (by lia)
 rw[← zb6 ok hl]
 refine⟨okD,?_,?_⟩
 ·show A.lanes+A.lanes=_
  lia
 ·rw[zdo,bl,m1];lia
theorem Pln.raw_ok:∀ {p:Pln},p.Ok→p.raw.Ok∧p.raw.lanes=p.lanes∧p.raw.forks.length=p.many
 | .net N,h=>⟨h,rfl,rfl⟩
 | .way w k,⟨w3,k5,wk⟩=>by
  match w,w3,wk with
  | 0,_,_=>exact⟨ze5 k5,rfl,zfy k k5⟩
  | 1,_,_=>exact⟨zd9 k5,rfl,zeb k k5⟩
  | 2,_,wk =>
   obtain⟨i,rfl⟩:∃ i,k=i+1:=⟨k-1,by have:=wk rfl;lia⟩
   have mm:=zbA i (by lia)
   exact⟨zb0 (m:=i) (by lia),mm.2.2,mm.1⟩
 | .dbl p,⟨h,l4,few⟩=>by
  obtain⟨a,b,c⟩:=Pln.raw_ok h
  obtain⟨i,i4,ei,epw⟩:=zcb _ l4
  rw[epw,ei,← c]at few
  obtain⟨x,y,z⟩:=zha i4 a (b.trans ei) few
  have e:(Pln.dbl p).raw=zaK i p.raw:=by show zaK (pwr (2*p.lanes)-1) p.raw=_;rw[epw];rfl
  rw[e]
  refine⟨x,by rw[y,b];rfl,?_⟩
  show _=2*p.many+p.lanes*pwr (2*p.lanes)
  rw[z,c,epw,ei]
 | .ren p ns,⟨h,pm⟩=>by
  obtain⟨a,b,c⟩:=Pln.raw_ok h
  refine⟨zca a (by rw[b];exact pm),b,?_⟩
  show (p.raw.forks.map _).length=p.many
  rw[List.length_map,c]
 | .bes p q,⟨hp,hq,l16,few⟩=>by
  obtain⟨a,b,c⟩:=Pln.raw_ok hp
  obtain⟨a',b',c'⟩:=Pln.raw_ok hq
  refine⟨zbc a a' (by rw[b,b'];exact l16) (by rw[c,c'];exact few),by show p.raw.lanes+q.raw.lanes=_;rw[b,b'];rfl,?_⟩
  show (zaw p.raw q.raw).forks.length=_
  rw[zbD,c,c'];rfl
 | .beh p q,⟨hp,hq,ll,few⟩=>by
  obtain⟨a,b,c⟩:=Pln.raw_ok hp
  obtain⟨a',b',c'⟩:=Pln.raw_ok hq
  refine⟨zbu a a' (by rw[b,b'];exact ll) (by rw[c,c'];exact few),b,?_⟩
  show (zaM p.raw q.raw).forks.length=_
  rw[zdo,c,c'];rfl
theorem zgB {A B:Nt}(oka:A.Ok) (okb:B.Ok) (hl:B.lanes=A.lanes) (few:A.forks.length+B.forks.length≤128):zal (zaM (zal A) (zal B))=zal (zaM A B):=(zdp oka okb hl (zaW oka) (zaW okb)).plain (zbu oka okb hl few)
theorem zef {A B:Nt}(oka:A.Ok) (okb:B.Ok) (hl:A.lanes+B.lanes≤16) (few:A.forks.length+B.forks.length≤128):zal (zaw (zal A) (zal B))=zal (zaw A B):=(zfR (zaW oka) (zaW okb)).plain (zbc oka okb hl few)
theorem zgz {A:Nt}(oka:A.Ok) {p:List Nat}(hp:p.Perm (List.range A.lanes)):zal (za1 (zal A) p)=zal (za1 A p):=(zeJ oka hp (zaW oka)).plain (zca oka hp)
theorem zgA {k:Nat}{A:Nt}(k4:k<4) (ok:A.Ok) (hl:A.lanes=2 ^ k) (few:2*A.forks.length+2 ^ k*(k+1)≤128):zal (zaM (zal (zaw (zal A) (zal A))) (zal (zaG k)))=zal (zaK k A):=by
 obtain⟨m1,m4,m2⟩:=zbA k k4
 rw[m4]at m1
 have m3:=(zcN k k4).2.2
 have lb:A.lanes+A.lanes≤16:=by rw[hl];exact m3
 have okB:=zbc ok ok lb (by lia)
 have okM:=zb0 k4
 have ll:(zaG k).lanes=(zaw A A).lanes:=by rw[m2];show _=A.lanes+A.lanes;rw[hl,Nat.pow_succ];lia
 have bl:=zbD A A
 have okD:=zbu okB okM ll (by lia)
 rw[zef ok ok lb (by lia),← zb6 ok hl]
 exact(zdp okB okM ll (zaW okB) (zaW okM)).plain okD
end Bn
namespace K93
open PySem L2 Own Bn
abbrev zhD:Stmt:=top 22
def zc6 (m:Nat):Sp:=fun vs H Q _=>∃ v p,vs=[v]∧Pln.Ok p∧p.hi≤m∧PlnAt H p v∧∀ r fr er ps H',Same H H'→NetAt H' r fr er ps (zal p.raw)→Q (.ref r) H'
theorem iteFc {c:Bool}{A B:Prop}(h:c=false) (b:B):if c=true then A else B:=by rw[h];exact b
theorem zaq {c:Bool}{A B:Prop}(h:c=true) (a:A):if c=true then A else B:=by rw[h];exact a
theorem cut2 (x y:V) (xs:List V):cutV (x::y::xs) none (some 2)=[x,y]:=zdW (x::y::xs) 2 (by simp)
section
variable {P:Program}{w:World}{K:PySem.W.Frag}{mg:Str→Option Value}{base:Heap}
theorem scMd:FnScope ["plan","word","first","net"] ["plan"] (zaf zhD):=⟨rfl,rfl,rfl,by decide +kernel,rfl,by decide +kernel,by decide +kernel⟩
theorem zhU {f fP fS fR fM fD fN fE fH:Addr}{fd dP dS dR dM dD dN dE dH:FuncData}(F:Fun K "made_by" "made_by" zhD f fd) (bS:Binds K fd ["plan"] []) (mS:mg "made_by" = some (.ref f)) (UP:Use P w K mg base "plain" ["net"] 2 zbk fP dP) (US:Use P w K mg base "stairway" ["k"] 12 zbw fS dS) (UR:Use P w K mg base "rounds" ["k"] 6 zcr fR dR) (UM:Use P w K mg base "merger" ["k"] 7 zbO fM dM)
  (UD:Use P w K mg base "doubled" ["net"] 8 zbP fD dD) (UN:Use P w K mg base "renamed" ["net","p"] 3 zbN fN dN) (UE:Use P w K mg base "beside" ["one","other"] 3 zbR fE dE) (UH:Use P w K mg base "behind" ["one","other"] 3 zbS fH dH) (n:Nat)
  (GS:FnOk P w K mg base CX0 (12+n) f fd ["plan"] (zc6 n)):FnOk P w K mg base CX0 (12+n+1) f fd ["plan"] (zc6 (n+1)):=by
 have UB:Use P w K mg base "made_by" ["plan"] (12+n) (zc6 n) f fd:=⟨GS,bS,F.kp,mS⟩
 refine F.ok scMd (fun vs H Q E h=>?_) (fun cdv A outer s H vs Q E hr h=>?_)
 ·obtain⟨v,p,rfl,_⟩:=h
  rfl
 obtain⟨v,p,rfl,ok,hn,at',k⟩:=h
 have hr12:Room 12 _:=hr.mono (by lia)
 have hr2:Room 2 _:=hr.mono (by lia)
 have hr3:Room 3 _:=hr.mono (by lia)
 have hr6:Room 6 _:=hr.mono (by lia)
 have hr7:Room 7 _:=hr.mono (by lia)
 have hr8:Room 8 _:=hr.mono (by lia)
 refine⟨_,(@pss_cons _ _ _ _ _ (@ps_asg _ _ _ _ _ _ (@pe_slice _ _ _ _ _ _ _ _ _ _ zgj (@pv _ 0 _ _ (by rfl) (by first|exact Or.inl rfl|exact Or.inr (.inl rfl)|exact Or.inr (.inr rfl)) (by decide) (by decide)) po_none (@po_some _ _ _ pe_int)) (@zao _ _ _ _ _ _ rfl (@pgs_cons _ _ _ _ _ (@zab _ _ 1 _ scMd.nd rfl (.inl rfl) (by first|exact .inl rfl|exact .inr rfl|assumption)) (@pgs_cons _ _ _ _ _ (@zab _ _ 2 _ scMd.nd rfl (.inl rfl) (by first|exact .inl rfl|exact .inr rfl|assumption)) pgs_nil (by rfl)) (by rfl)) (by rfl) (by rfl)) (by rfl) (by rfl) (by rfl)) (@pss_cons _ _ _ _ _ (@zau _ _ _ _ _ _ _ _ (@pt_cmpR _ _ _ _ _ _ _ _ zaS (@pv _ 1 _ _ (by rfl) (by first|exact Or.inl rfl|exact Or.inr (.inl rfl)|exact Or.inr (.inr rfl)) (by decide) (by decide)) pe_str (nomark _)) (@pss_one _ _ _ (@ps_ret _ _ _ _ (@pe_call _ _ _ _ _ _ _ _ _ _ _ _ _ _ _ _ UP.ok hr2 (by rfl) UP.m UP.kp UP.b .nil pass0 (@pa_cons _ _ _ _ _ (@pv _ 2 _ _ (by rfl) (by first|exact Or.inl rfl|exact Or.inr (.inl rfl)|exact Or.inr (.inr rfl)) (by decide) (by decide)) pa_nil (by rfl)) (by decide) (by rfl) (by rfl)))) pss_nil) (@pss_cons _ _ _ _ _ (@zau _ _ _ _ _ _ _ _ (@pt_cmpR _ _ _ _ _ _ _ _ zaS (@pv _ 1 _ _ (by rfl) (by first|exact Or.inl rfl|exact Or.inr (.inl rfl)|exact Or.inr (.inr rfl)) (by decide) (by decide)) pe_str (nomark _)) (@pss_one _ _ _ (@ps_ret _ _ _ _ (@pe_call _ _ _ _ _ _ _ _ _ _ _ _ _ _ _ _ US.ok hr12 (by rfl) US.m US.kp US.b .nil pass0 (@pa_cons _ _ _ _ _ (@pv _ 2 _ _ (by rfl) (by first|exact Or.inl rfl|exact Or.inr (.inl rfl)|exact Or.inr (.inr rfl)) (by decide) (by decide)) pa_nil (by rfl)) (by decide) (by rfl) (by rfl)))) pss_nil) (@pss_cons _ _ _ _ _ (@zau _ _ _ _ _ _ _ _ (@pt_cmpR _ _ _ _ _ _ _ _ zaS (@pv _ 1 _ _ (by rfl) (by first|exact Or.inl rfl|exact Or.inr (.inl rfl)|exact Or.inr (.inr rfl)) (by decide) (by decide)) pe_str (nomark _)) (@pss_one _ _ _ (@ps_ret _ _ _ _ (@pe_call _ _ _ _ _ _ _ _ _ _ _ _ _ _ _ _ UR.ok hr6 (by rfl) UR.m UR.kp UR.b .nil pass0 (@pa_cons _ _ _ _ _ (@pv _ 2 _ _ (by rfl) (by first|exact Or.inl rfl|exact Or.inr (.inl rfl)|exact Or.inr (.inr rfl)) (by decide) (by decide)) pa_nil (by rfl)) (by decide) (by rfl) (by rfl)))) pss_nil) (@pss_cons _ _ _ _ _ (@zau _ _ _ _ _ _ _ _ (@pt_cmpR _ _ _ _ _ _ _ _ zaS (@pv _ 1 _ _ (by rfl) (by first|exact Or.inl rfl|exact Or.inr (.inl rfl)|exact Or.inr (.inr rfl)) (by decide) (by decide)) pe_str (nomark _)) (@pss_one _ _ _ (@ps_ret _ _ _ _ (@pe_call _ _ _ _ _ _ _ _ _ _ _ _ _ _ _ _ UM.ok hr7 (by rfl) UM.m UM.kp UM.b .nil pass0 (@pa_cons _ _ _ _ _ (@pv _ 2 _ _ (by rfl) (by first|exact Or.inl rfl|exact Or.inr (.inl rfl)|exact Or.inr (.inr rfl)) (by decide) (by decide)) pa_nil (by rfl)) (by decide) (by rfl) (by rfl)))) pss_nil) (@pss_cons _ _ _ _ _ (@zak _ _ 3 _ _ _ _ scMd.nd rfl (.inl rfl) (@pe_call _ _ _ _ _ _ _ _ _ _ _ _ _ _ _ _ UB.ok hr (by rfl) UB.m UB.kp UB.b .nil pass0 (@pa_cons _ _ _ _ _ (@pv _ 2 _ _ (by rfl) (by first|exact Or.inl rfl|exact Or.inr (.inl rfl)|exact Or.inr (.inr rfl)) (by decide) (by decide)) pa_nil (by rfl)) (by decide) (by rfl) (by rfl)) (by rfl) (by first|exact .inl rfl|exact .inr rfl|assumption)) (@pss_cons _ _ _ _ _ (@zau _ _ _ _ _ _ _ _ (@pt_cmpR _ _ _ _ _ _ _ _ zaS (@pv _ 1 _ _ (by rfl) (by first|exact Or.inl rfl|exact Or.inr (.inl rfl)|exact Or.inr (.inr rfl)) (by decide) (by decide)) pe_str (nomark _)) (@pss_one _ _ _ (@ps_ret _ _ _ _ (@pe_call _ _ _ _ _ _ _ _ _ _ _ _ _ _ _ _ UD.ok hr8 (by rfl) UD.m UD.kp UD.b .nil pass0 (@pa_cons _ _ _ _ _ (@pv _ 3 _ _ (by rfl) (by first|exact Or.inl rfl|exact Or.inr (.inl rfl)|exact Or.inr (.inr rfl)) (by decide) (by decide)) pa_nil (by rfl)) (by decide) (by rfl) (by rfl)))) pss_nil) (@pss_cons _ _ _ _ _ (@zau _ _ _ _ _ _ _ _ (@pt_cmpR _ _ _ _ _ _ _ _ zaS (@pv _ 1 _ _ (by rfl) (by first|exact Or.inl rfl|exact Or.inr (.inl rfl)|exact Or.inr (.inr rfl)) (by decide) (by decide)) pe_str (nomark _)) (@pss_one _ _ _ (@ps_ret _ _ _ _ (@pe_call _ _ _ _ _ _ _ _ _ _ _ _ _ _ _ _ UN.ok hr3 (by rfl) UN.m UN.kp UN.b .nil pass0 (@pa_cons _ _ _ _ _ (@pv _ 3 _ _ (by rfl) (by first|exact Or.inl rfl|exact Or.inr (.inl rfl)|exact Or.inr (.inr rfl)) (by decide) (by decide)) (@pa_cons _ _ _ _ _ (@pe_ix _ _ _ _ _ _ _ zam (@pv _ 0 _ _ (by rfl) (by first|exact Or.inl rfl|exact Or.inr (.inl rfl)|exact Or.inr (.inr rfl)) (by decide) (by decide)) pe_int (fun _ _=>rfl)) pa_nil (by rfl)) (by rfl)) (by decide) (by rfl) (by rfl)))) pss_nil) (@pss_cons _ _ _ _ _ (@zau _ _ _ _ _ _ _ _ (@pt_cmpR _ _ _ _ _ _ _ _ zaS (@pv _ 1 _ _ (by rfl) (by first|exact Or.inl rfl|exact Or.inr (.inl rfl)|exact Or.inr (.inr rfl)) (by decide) (by decide)) pe_str (nomark _)) (@pss_one _ _ _ (@ps_ret _ _ _ _ (@pe_call _ _ _ _ _ _ _ _ _ _ _ _ _ _ _ _ UE.ok hr3 (by rfl) UE.m UE.kp UE.b .nil pass0 (@pa_cons _ _ _ _ _ (@pv _ 3 _ _ (by rfl) (by first|exact Or.inl rfl|exact Or.inr (.inl rfl)|exact Or.inr (.inr rfl)) (by decide) (by decide)) (@pa_cons _ _ _ _ _ (@pe_call _ _ _ _ _ _ _ _ _ _ _ _ _ _ _ _ UB.ok hr (by rfl) UB.m UB.kp UB.b .nil pass0 (@pa_cons _ _ _ _ _ (@pe_ix _ _ _ _ _ _ _ zam (@pv _ 0 _ _ (by rfl) (by first|exact Or.inl rfl|exact Or.inr (.inl rfl)|exact Or.inr (.inr rfl)) (by decide) (by decide)) pe_int (fun _ _=>rfl)) pa_nil (by rfl)) (by decide) (by rfl) (by rfl)) pa_nil (by rfl)) (by rfl)) (by decide) (by rfl) (by rfl)))) pss_nil) (@pss_one _ _ _ (@ps_ret _ _ _ _ (@pe_call _ _ _ _ _ _ _ _ _ _ _ _ _ _ _ _ UH.ok hr3 (by rfl) UH.m UH.kp UH.b .nil pass0 (@pa_cons _ _ _ _ _ (@pv _ 3 _ _ (by rfl) (by first|exact Or.inl rfl|exact Or.inr (.inl rfl)|exact Or.inr (.inr rfl)) (by decide) (by decide)) (@pa_cons _ _ _ _ _ (@pe_call _ _ _ _ _ _ _ _ _ _ _ _ _ _ _ _ UB.ok hr (by rfl) UB.m UB.kp UB.b .nil pass0 (@pa_cons _ _ _ _ _ (@pe_ix _ _ _ _ _ _ _ zam (@pv _ 0 _ _ (by rfl) (by first|exact Or.inl rfl|exact Or.inr (.inl rfl)|exact Or.inr (.inr rfl)) (by decide) (by decide)) pe_int (fun _ _=>rfl)) pa_nil (by rfl)) (by decide) (by rfl) (by rfl)) pa_nil (by rfl)) (by rfl)) (by decide) (by rfl) (by rfl))))))))))))),?_⟩
 obtain⟨t,wd,y,xs,rfl,ht⟩:=at'.top
 refine⟨_,rfl,_,rfl,t,_,rfl,ht,fun p1 H1 s1 h1=>?_⟩
 rw[cut2]at h1
 refine⟨p1,_,rfl,SqT.of h1,rfl,_,_,rfl,_,_,rfl,rfl,?_⟩
 have at1:=at'.tups (Tups.of s1)
 have ht1:=s1 _ _ ht
 cases p with
 | net N =>
  obtain⟨t',r,fr,er,ps,e,h,na⟩:=at1
  cases e
  cases zaQ ht1 h
  refine⟨_,rfl,rfl,_,rfl,zaq (by decide +kernel) ⟨_,rfl,r,fr,er,ps,N,rfl,ok,na,fun r' fr' ps' H2 s2 n2=>?_⟩⟩
  exact k r' fr' er ps' H2 (s1.trans s2) n2
 | way u j =>
  obtain⟨t',e,h⟩:=at1
  cases e
  cases zaQ ht1 h
  obtain⟨u3,j5,uj⟩:=ok
  match u,u3,uj,k with
  | 0,_,_,k =>
   refine⟨_,rfl,rfl,_,rfl,iteFc (by decide +kernel) ⟨_,rfl,rfl,_,rfl,zaq (by decide +kernel) ⟨_,rfl,j,rfl,j5,fun r' fr' er' ps' H2 s2 n2=>?_⟩⟩⟩
   exact k r' fr' er' ps' H2 (s1.trans s2) n2
  | 1,_,_,k =>
   refine⟨_,rfl,rfl,_,rfl,iteFc (by decide +kernel) ⟨_,rfl,rfl,_,rfl,iteFc (by decide +kernel) ⟨_,rfl,rfl,_,rfl,zaq (by decide +kernel) ⟨_,rfl,j,rfl,j5,fun r' fr' er' ps' H2 s2 n2=>?_⟩⟩⟩⟩
   exact k r' fr' er' ps' H2 (s1.trans s2) (by rw[← zc8 j5]at n2;exact n2)
  | 2,_,uj,k =>
   obtain⟨i,rfl⟩:∃ i,j=i+1:=⟨j-1,by have:=uj rfl;lia⟩
   refine⟨_,rfl,rfl,_,rfl,iteFc (by decide +kernel) ⟨_,rfl,rfl,_,rfl,iteFc (by decide +kernel) ⟨_,rfl,rfl,_,rfl,iteFc (by decide +kernel) ⟨_,rfl,rfl,_,rfl,zaq (by decide +kernel) ⟨_,rfl,i,rfl,by lia,fun r' fr' er' ps' H2 s2 n2=>?_⟩⟩⟩⟩⟩
   exact k r' fr' er' ps' H2 (s1.trans s2) n2
 | dbl p =>
  obtain⟨t',u,e,h,a⟩:=at1
  cases e
  cases zaQ ht1 h
  obtain⟨ok,l4,few⟩:=ok
  have hn':p.hi+1≤n+1:=hn
  refine⟨_,rfl,rfl,_,rfl,iteFc (by decide +kernel) ⟨_,rfl,rfl,_,rfl,iteFc (by decide +kernel) ⟨_,rfl,rfl,_,rfl,iteFc (by decide +kernel) ⟨_,rfl,rfl,_,rfl,iteFc (by decide +kernel) ⟨_,rfl,_,p,rfl,ok,by lia,a,fun r2 fr2 er2 ps2 H2 s2 na=>?_⟩⟩⟩⟩⟩
  obtain⟨i,i4,ei,epw⟩:=zcb _ l4
  obtain⟨okR,lR,mR⟩:=Pln.raw_ok ok
  rw[epw,ei,← mR]at few
  have lA:(zal p.raw).lanes=2 ^ i:=lR.trans ei
  have mA:=zaJ p.raw
  refine⟨_,rfl,rfl,_,rfl,zaq (by decide +kernel) ⟨_,rfl,r2,fr2,er2,ps2,_,i,rfl,zaN okR,na,lA,i4,by rw[mA];exact few,fun r' fr' er' ps' H3 s3 n3=>?_⟩⟩
  refine k r' fr' er' ps' H3 ((s1.trans s2).trans s3) ?_
  rw[zgA i4 okR (lR.trans ei) few]at n3
  have e:(Pln.dbl p).raw=zaK i p.raw:=by show zaK (pwr (2*p.lanes)-1) p.raw=_;rw[epw];rfl
  rw[e];exact n3
 | ren p ns =>
  obtain⟨t',u,nn,e,h,hnn,a⟩:=at1
  cases e
  cases zaQ ht1 h
  obtain⟨ok,pm⟩:=ok
  have hn':p.hi+1≤n+1:=hn
  refine⟨_,rfl,rfl,_,rfl,iteFc (by decide +kernel) ⟨_,rfl,rfl,_,rfl,iteFc (by decide +kernel) ⟨_,rfl,rfl,_,rfl,iteFc (by decide +kernel) ⟨_,rfl,rfl,_,rfl,iteFc (by decide +kernel) ⟨_,rfl,_,p,rfl,ok,by lia,a,fun r2 fr2 er2 ps2 H2 s2 na=>?_⟩⟩⟩⟩⟩
  obtain⟨okR,lR,mR⟩:=Pln.raw_ok ok
  refine⟨_,rfl,rfl,_,rfl,iteFc (by decide +kernel) ⟨_,rfl,rfl,_,rfl,zaq (by decide +kernel) ⟨_,rfl,_,rfl,t,_,2,_,rfl,rfl,SqT.of (s2 _ _ ht1),rfl,r2,fr2,er2,ps2,_,nn,ns,rfl,zaN okR,na,s2 _ _ hnn,by show ns.Perm (List.range p.raw.lanes);rw[lR];exact pm,fun r' fr' er' ps' H3 s3 n3=>?_⟩⟩⟩
  rw[zgz okR (by rw[lR];exact pm)]at n3
  exact k r' fr' er' ps' H3 ((s1.trans s2).trans s3) n3
 | bes p q =>
  obtain⟨t',u,x,e,h,a,b⟩:=at1
  cases e
  cases zaQ ht1 h
  obtain⟨okp,okq,l16,few⟩:=ok
  have hn':max p.hi q.hi+1≤n+1:=hn
  refine⟨_,rfl,rfl,_,rfl,iteFc (by decide +kernel) ⟨_,rfl,rfl,_,rfl,iteFc (by decide +kernel) ⟨_,rfl,rfl,_,rfl,iteFc (by decide +kernel) ⟨_,rfl,rfl,_,rfl,iteFc (by decide +kernel) ⟨_,rfl,_,p,rfl,okp,by lia,a,fun r2 fr2 er2 ps2 H2 s2 na=>?_⟩⟩⟩⟩⟩
  refine⟨_,rfl,rfl,_,rfl,iteFc (by decide +kernel) ⟨_,rfl,rfl,_,rfl,iteFc (by decide +kernel) ⟨_,rfl,rfl,_,rfl,zaq (by decide +kernel) ⟨_,rfl,_,rfl,t,_,2,_,rfl,rfl,SqT.of (s2 _ _ ht1),rfl,_,q,rfl,okq,by lia,b.tups (Tups.of s2),fun r3 fr3 er3 ps3 H3 s3 nm=>?_⟩⟩⟩⟩
  obtain⟨okR,lR,mR⟩:=Pln.raw_ok okp
  obtain⟨okS,lS,mS'⟩:=Pln.raw_ok okq
  have l16':p.raw.lanes+q.raw.lanes≤16:=by rw[lR,lS];exact l16
  have few':p.raw.forks.length+q.raw.forks.length≤128:=by rw[mR,mS'];exact few
  refine⟨r2,fr2,er2,ps2,_,r3,fr3,er3,ps3,_,rfl,zaN okR,na.tups (Tups.of s3),zaN okS,nm,l16',by rw[zaJ,zaJ];exact few',fun r' fr' er' ps' H4 s4 n4=>?_⟩
  rw[zef okR okS l16' few']at n4
  exact k r' fr' er' ps' H4 (((s1.trans s2).trans s3).trans s4) n4
 | beh p q =>
  obtain⟨t',u,x,e,h,a,b⟩:=at1
  cases e
  cases zaQ ht1 h
  obtain⟨okp,okq,ll,few⟩:=ok
  have hn':max p.hi q.hi+1≤n+1:=hn
  refine⟨_,rfl,rfl,_,rfl,iteFc (by decide +kernel) ⟨_,rfl,rfl,_,rfl,iteFc (by decide +kernel) ⟨_,rfl,rfl,_,rfl,iteFc (by decide +kernel) ⟨_,rfl,rfl,_,rfl,iteFc (by decide +kernel) ⟨_,rfl,_,p,rfl,okp,by lia,a,fun r2 fr2 er2 ps2 H2 s2 na=>?_⟩⟩⟩⟩⟩
  refine⟨_,rfl,rfl,_,rfl,iteFc (by decide +kernel) ⟨_,rfl,rfl,_,rfl,iteFc (by decide +kernel) ⟨_,rfl,rfl,_,rfl,iteFc (by decide +kernel) ⟨_,rfl,_,rfl,t,_,2,_,rfl,rfl,SqT.of (s2 _ _ ht1),rfl,_,q,rfl,okq,by lia,b.tups (Tups.of s2),fun r3 fr3 er3 ps3 H3 s3 nm=>?_⟩⟩⟩⟩
  obtain⟨okR,lR,mR⟩:=Pln.raw_ok okp
  obtain⟨okS,lS,mS'⟩:=Pln.raw_ok okq
  have ll':q.raw.lanes=p.raw.lanes:=by rw[lR,lS];exact ll
  have few':p.raw.forks.length+q.raw.forks.length≤128:=by rw[mR,mS'];exact few
  refine⟨r2,fr2,er2,ps2,_,r3,fr3,er3,ps3,_,rfl,zaN okR,na.tups (Tups.of s3),zaN okS,nm,ll',by rw[zaJ,zaJ];exact few',fun r' fr' er' ps' H4 s4 n4=>?_⟩
  rw[zgB okR okS ll' few']at n4
  exact k r' fr' er' ps' H4 (((s1.trans s2).trans s3).trans s4) n4
theorem zgK {f fP fS fR fM fD fN fE fH:Addr}{fd dP dS dR dM dD dN dE dH:FuncData}(F:Fun K "made_by" "made_by" zhD f fd) (bS:Binds K fd ["plan"] []) (mS:mg "made_by" = some (.ref f)) (UP:Use P w K mg base "plain" ["net"] 2 zbk fP dP) (US:Use P w K mg base "stairway" ["k"] 12 zbw fS dS) (UR:Use P w K mg base "rounds" ["k"] 6 zcr fR dR) (UM:Use P w K mg base "merger" ["k"] 7 zbO fM dM)
  (UD:Use P w K mg base "doubled" ["net"] 8 zbP fD dD) (UN:Use P w K mg base "renamed" ["net","p"] 3 zbN fN dN) (UE:Use P w K mg base "beside" ["one","other"] 3 zbR fE dE) (UH:Use P w K mg base "behind" ["one","other"] 3 zbS fH dH):∀ n:Nat,FnOk P w K mg base CX0 (12+n) f fd ["plan"] (zc6 n)
 | 0=>⟨fun vs H Q E ⟨v,p,_,_,h,_⟩=>absurd h (by have:=p.hi_pos;lia),fun A outer s H args us vs Q E _ _ _ _ ⟨v,p,_,_,h,_⟩=>absurd h (by have:=p.hi_pos;lia)⟩
 | n+1=>zhU F bS mS UP US UR UM UD UN UE UH n (zgK F bS mS UP US UR UM UD UN UE UH n)
end
abbrev ziM:Stmt:=top 30
def Fits (p:Pln) (lanes most deep:Nat):Prop:=p.Ok∧p.lanes=lanes∧p.many≤most∧p.hi≤deep
def ze7:Sp:=fun vs H Q _=>∃ (l:Addr) (lanes most:Nat),vs=[.ref l,.int lanes,.int most]∧1≤lanes∧lanes≤16∧most≤128∧PkAt H l∧∀ v p H',Fits p lanes most 1→PlnAt H' p v→PkAt H' l→But l H H'→Q v H'
theorem zct:∀ n:Nat,1≤n→n≤16→powV n=.non∨∃ k,k<5∧powV n=.int (k:Nat)∧n=2 ^ k:=fun n a b=>by
 unfold powV
 by_cases c1:n=1
 ·rw[if_pos c1];exact .inr ⟨0,by decide,rfl,c1⟩
 rw[if_neg c1]
 by_cases c2:n=2
 ·rw[if_pos c2];exact .inr ⟨1,by decide,rfl,c2⟩
 rw[if_neg c2]
 by_cases c3:n=4
 ·rw[if_pos c3];exact .inr ⟨2,by decide,rfl,c3⟩
 rw[if_neg c3]
 by_cases c4:n=8
 ·rw[if_pos c4];exact .inr ⟨3,by decide,rfl,c4⟩
 rw[if_neg c4]
 by_cases c5:n=16
 ·rw[if_pos c5];exact .inr ⟨4,by decide,rfl,c5⟩
 rw[if_neg c5];exact .inl rfl
theorem zdu:∀ k:Nat,k<5→((2 ^ k:Nat):Int)*(k:Int)*((k:Int)+1) / 4=(wayM 0 k:Int)∧((2 ^ k:Nat):Int)*(k:Int)*(k:Int) / 2=(wayM 1 k:Int)∧((2 ^ k:Nat):Int)*(k:Int) / 2=(wayM 2 k:Int):=by decide +kernel
theorem zbm {c:TT}{ta tb u:TS}{D:Ends}{σ:St}{H:Hp}(I:St→Hp→Prop) (key:∀ σ H,I σ H→u D σ H) (h:∀ D':Ends,(∀ σ H,I σ H→D'.nx σ H)→tIfS c ta tb D' σ H):tSeq (tIfS c ta tb) u D σ H:=h { D with nx:=u D } key
theorem nxt {D:Ends}{σ:St}{H:Hp}(h:D.nx σ H):zjA D σ H:=h
theorem gset {i:Nat}{v:V}{σ:St}{H:Hp}{Q:St→Hp→Prop}(h:Q (σ.set i (some v)) H):zch i v σ H Q:=h
structure Lfs (H0:Hp) (l lf:Addr) (lanes most n:Nat) (H:Hp):Prop where
 pk:PkAt H l
 bu:But l H0 H
 ne:l≠lf
 ex:∃ xs,H lf=some (.lst xs)∧1≤xs.length∧xs.length≤n∧∀ x∈xs,∃ p,Fits p lanes most 1∧PlnAt H p x
theorem Lfs.more {H0 H:Hp}{l lf:Addr}{lanes most n m:Nat}(h:Lfs H0 l lf lanes most n H) (le:n≤m):Lfs H0 l lf lanes most m H:=⟨h.pk,h.bu,h.ne,let ⟨xs,a,b,c,d⟩:=h.ex;⟨xs,a,b,Nat.le_trans c le,d⟩⟩
theorem Lfs.keep {H0 H H':Hp}{l lf:Addr}{lanes most n:Nat}(s:Same H H') (h:Lfs H0 l lf lanes most n H):Lfs H0 l lf lanes most n H':=⟨h.pk.keep s,h.bu.trans (But.of s),h.ne,let ⟨xs,a,b,c,d⟩:=h.ex;⟨xs,s _ _ a,b,c,fun x hx=>let ⟨p,u,v⟩:=d x hx;⟨p,u,v.tups (Tups.of s)⟩⟩⟩
theorem Lfs.add {H0 H:Hp}{l lf:Addr}{lanes most n m:Nat}{xs ys:List V}(h0:H0 lf=none) (h:Lfs H0 l lf lanes most n H) (hx:H lf=some (.lst xs)) (hy:∀ y∈ys,∃ p,Fits p lanes most 1∧PlnAt H p y) (le:n+ys.length≤m):Lfs H0 l lf lanes most m (upd H lf (.lst (xs++ys))):=by
 obtain⟨xs',a,b,c,d⟩:=h.ex
 have e:xs'=xs:=by
  have:=a.symm.trans hx
  injection this with this
  injection this
 subst e
 have tl:=Tups.lst (ys:=xs'++ys) hx
 refine⟨h.pk.upd h.ne,fun x o e n=>by rw[zag (zad e h0)];exact h.bu x o e n,h.ne,xs'++ys,zac,?_,?_,fun x hx=>?_⟩
 ·rw[List.length_append];lia
 ·rw[List.length_append];lia
 ·rcases List.mem_append.mp hx with z|z
  ·obtain⟨p,u,v⟩:=d x z
   exact⟨p,u,v.tups tl⟩
  ·obtain⟨p,u,v⟩:=hy x z
   exact⟨p,u,v.tups tl⟩
section
variable {P:Program}{w:World}{K:PySem.W.Frag}{mg:Str→Option Value}{base:Heap}
theorem scLf:FnScope ["_law_left_here","_law_lanes","_law_most","_law_power_here","_law_some"] ["_law_left_here","_law_lanes","_law_most"] (zaf ziM):=⟨rfl,rfl,rfl,by decide +kernel,rfl,by decide +kernel,by decide +kernel⟩
theorem zi1 {f fK fW fN:Addr}{fd dK dW dN:FuncData}(F:Fun K "_law_leaf" "_law_leaf" ziM f fd) (G:Mgs mg) (UK:Use P w K mg base "_law_pick" ["_law_left_here","_law_many"] 1 zcl fK dK) (UW:Use P w K mg base "_law_power" ["_law_lanes"] 1 zcz fW dW) (UN:Use P w K mg base "_law_net_of" ["_law_left_here","_law_lanes","_law_most"] 3 zeB fN dN):FnOk P w K mg base CX0 4 f fd ["_law_left_here","_law_lanes","_law_most"] ze7:=by
 refine F.ok scLf (fun vs H Q E h=>?_) (fun cdv A outer s H vs Q E hr h=>?_)
 ·obtain⟨l,lanes,most,rfl,_⟩:=h
  rfl
 obtain⟨l,lanes,most,rfl,l1,l16,m128,S,k⟩:=h
 have hr1:Room 1 _:=hr.mono (by decide)
 refine⟨_,(@pss_cons _ _ _ _ _ (@zak _ _ 3 _ _ _ _ scLf.nd rfl (.inl rfl) (@pe_call _ _ _ _ _ _ _ _ _ _ _ _ _ _ _ _ UW.ok hr1 (by rfl) UW.m UW.kp UW.b .nil pass0 (@pa_cons _ _ _ _ _ (@pv _ 1 _ _ (by rfl) (by first|exact Or.inl rfl|exact Or.inr (.inl rfl)|exact Or.inr (.inr rfl)) (by decide) (by decide)) pa_nil (by rfl)) (by decide) (by rfl) (by rfl)) (by rfl) (by first|exact .inl rfl|exact .inr rfl|assumption)) (@pss_cons _ _ _ _ _ (@zak _ _ 4 _ _ _ _ scLf.nd rfl (.inl rfl) (@zay _ _ _ _ (@pa_cons _ _ _ _ _ (@pe_tup _ _ _ _ _ (@pa_cons _ _ _ _ _ pe_str (@pa_cons _ _ _ _ _ (@pe_call _ _ _ _ _ _ _ _ _ _ _ _ _ _ _ _ UN.ok hr (by rfl) UN.m UN.kp UN.b .nil pass0 (@pa_cons _ _ _ _ _ (@pv _ 0 _ _ (by rfl) (by first|exact Or.inl rfl|exact Or.inr (.inl rfl)|exact Or.inr (.inr rfl)) (by decide) (by decide)) (@pa_cons _ _ _ _ _ (@pv _ 1 _ _ (by rfl) (by first|exact Or.inl rfl|exact Or.inr (.inl rfl)|exact Or.inr (.inr rfl)) (by decide) (by decide)) (@pa_cons _ _ _ _ _ (@pv _ 2 _ _ (by rfl) (by first|exact Or.inl rfl|exact Or.inr (.inl rfl)|exact Or.inr (.inr rfl)) (by decide) (by decide)) pa_nil (by rfl)) (by rfl)) (by rfl)) (by decide) (by rfl) (by rfl)) pa_nil (by rfl)) (by rfl))) pa_nil (by rfl))) (by rfl) (by first|exact .inl rfl|exact .inr rfl|assumption)) (@pss_cons _ _ _ _ _ (@zau _ _ _ _ _ _ _ _ (@za3 _ _ _ _ _ _ _ (@pt_cmpR _ _ _ _ _ _ _ _ zeO (@pv _ 3 _ _ (by rfl) (by first|exact Or.inl rfl|exact Or.inr (.inl rfl)|exact Or.inr (.inr rfl)) (by decide) (by decide)) zaF (by rfl)) (@zbp _ _ _ _ (@pt_cmpR _ _ _ _ _ _ _ _ ziV (@pe_op _ _ _ _ _ _ _ _ zar (@pe_op _ _ _ _ _ _ _ _ op_mul (@pe_op _ _ _ _ _ _ _ _ op_mul (@pv _ 1 _ _ (by rfl) (by first|exact Or.inl rfl|exact Or.inr (.inl rfl)|exact Or.inr (.inr rfl)) (by decide) (by decide)) (@pv _ 3 _ _ (by rfl) (by first|exact Or.inl rfl|exact Or.inr (.inl rfl)|exact Or.inr (.inr rfl)) (by decide) (by decide))) (@pe_op _ _ _ _ _ _ _ _ op_add (@pv _ 3 _ _ (by rfl) (by first|exact Or.inl rfl|exact Or.inr (.inl rfl)|exact Or.inr (.inr rfl)) (by decide) (by decide)) pe_int)) pe_int) (@pv _ 2 _ _ (by rfl) (by first|exact Or.inl rfl|exact Or.inr (.inl rfl)|exact Or.inr (.inr rfl)) (by decide) (by decide)) (nomark _)))).pt (@pss_one _ _ _ (@ps_expr _ _ _ _ (@pe_bm _ _ _ _ _ _ _ _ _ _ _ _ PySem.F.plainAttrs_list PySem.F.slot_list_extend PySem.F.type_list_extend zgS (@pv _ 4 _ _ (by rfl) (by first|exact Or.inl rfl|exact Or.inr (.inl rfl)|exact Or.inr (.inr rfl)) (by decide) (by decide)) (@pa_cons _ _ _ _ _ (@zay _ _ _ _ (@pa_cons _ _ _ _ _ (@pe_tup _ _ _ _ _ (@pa_cons _ _ _ _ _ pe_str (@pa_cons _ _ _ _ _ (@pv _ 3 _ _ (by rfl) (by first|exact Or.inl rfl|exact Or.inr (.inl rfl)|exact Or.inr (.inr rfl)) (by decide) (by decide)) pa_nil (by rfl)) (by rfl))) (@pa_cons _ _ _ _ _ (@pe_tup _ _ _ _ _ (@pa_cons _ _ _ _ _ pe_str (@pa_cons _ _ _ _ _ (@pv _ 3 _ _ (by rfl) (by first|exact Or.inl rfl|exact Or.inr (.inl rfl)|exact Or.inr (.inr rfl)) (by decide) (by decide)) pa_nil (by rfl)) (by rfl))) pa_nil (by rfl)) (by rfl))) pa_nil (by rfl)) (by rfl) (by rfl) (by rfl) (by rfl) (by rfl)) (by rfl))) pss_nil) (@pss_cons _ _ _ _ _ (@zau _ _ _ _ _ _ _ _ (@za3 _ _ _ _ _ _ _ (@pt_cmpR _ _ _ _ _ _ _ _ zeO (@pv _ 3 _ _ (by rfl) (by first|exact Or.inl rfl|exact Or.inr (.inl rfl)|exact Or.inr (.inr rfl)) (by decide) (by decide)) zaF (by rfl)) (@zbp _ _ _ _ (@pt_cmpR _ _ _ _ _ _ _ _ ziV (@pe_op _ _ _ _ _ _ _ _ zar (@pe_op _ _ _ _ _ _ _ _ op_mul (@pe_op _ _ _ _ _ _ _ _ op_mul (@pv _ 1 _ _ (by rfl) (by first|exact Or.inl rfl|exact Or.inr (.inl rfl)|exact Or.inr (.inr rfl)) (by decide) (by decide)) (@pv _ 3 _ _ (by rfl) (by first|exact Or.inl rfl|exact Or.inr (.inl rfl)|exact Or.inr (.inr rfl)) (by decide) (by decide))) (@pv _ 3 _ _ (by rfl) (by first|exact Or.inl rfl|exact Or.inr (.inl rfl)|exact Or.inr (.inr rfl)) (by decide) (by decide))) pe_int) (@pv _ 2 _ _ (by rfl) (by first|exact Or.inl rfl|exact Or.inr (.inl rfl)|exact Or.inr (.inr rfl)) (by decide) (by decide)) (nomark _)))).pt (@pss_one _ _ _ (@ps_expr _ _ _ _ (@pe_bm _ _ _ _ _ _ _ _ _ _ _ _ PySem.F.plainAttrs_list PySem.F.slot_list_append PySem.F.type_list_append mt_append (@pv _ 4 _ _ (by rfl) (by first|exact Or.inl rfl|exact Or.inr (.inl rfl)|exact Or.inr (.inr rfl)) (by decide) (by decide)) (@pa_cons _ _ _ _ _ (@pe_tup _ _ _ _ _ (@pa_cons _ _ _ _ _ pe_str (@pa_cons _ _ _ _ _ (@pv _ 3 _ _ (by rfl) (by first|exact Or.inl rfl|exact Or.inr (.inl rfl)|exact Or.inr (.inr rfl)) (by decide) (by decide)) pa_nil (by rfl)) (by rfl))) pa_nil (by rfl)) (by rfl) (by rfl) (by rfl) (by rfl) (by rfl)) (by rfl))) pss_nil) (@pss_cons _ _ _ _ _ (@zau _ _ _ _ _ _ _ _ (@za3 _ _ _ _ _ _ _ (@pt_cmpR _ _ _ _ _ _ _ _ zeO (@pv _ 3 _ _ (by rfl) (by first|exact Or.inl rfl|exact Or.inr (.inl rfl)|exact Or.inr (.inr rfl)) (by decide) (by decide)) zaF (by rfl)) (@za3 _ _ _ _ _ _ _ (@pt_cmpR _ _ _ _ _ _ _ _ zdL (@pv _ 3 _ _ (by rfl) (by first|exact Or.inl rfl|exact Or.inr (.inl rfl)|exact Or.inr (.inr rfl)) (by decide) (by decide)) pe_int (nomark _)) (@zbp _ _ _ _ (@pt_cmpR _ _ _ _ _ _ _ _ ziV (@pe_op _ _ _ _ _ _ _ _ zar (@pe_op _ _ _ _ _ _ _ _ op_mul (@pv _ 1 _ _ (by rfl) (by first|exact Or.inl rfl|exact Or.inr (.inl rfl)|exact Or.inr (.inr rfl)) (by decide) (by decide)) (@pv _ 3 _ _ (by rfl) (by first|exact Or.inl rfl|exact Or.inr (.inl rfl)|exact Or.inr (.inr rfl)) (by decide) (by decide))) pe_int) (@pv _ 2 _ _ (by rfl) (by first|exact Or.inl rfl|exact Or.inr (.inl rfl)|exact Or.inr (.inr rfl)) (by decide) (by decide)) (nomark _))))).pt (@pss_one _ _ _ (@ps_expr _ _ _ _ (@pe_bm _ _ _ _ _ _ _ _ _ _ _ _ PySem.F.plainAttrs_list PySem.F.slot_list_append PySem.F.type_list_append mt_append (@pv _ 4 _ _ (by rfl) (by first|exact Or.inl rfl|exact Or.inr (.inl rfl)|exact Or.inr (.inr rfl)) (by decide) (by decide)) (@pa_cons _ _ _ _ _ (@pe_tup _ _ _ _ _ (@pa_cons _ _ _ _ _ pe_str (@pa_cons _ _ _ _ _ (@pv _ 3 _ _ (by rfl) (by first|exact Or.inl rfl|exact Or.inr (.inl rfl)|exact Or.inr (.inr rfl)) (by decide) (by decide)) pa_nil (by rfl)) (by rfl))) pa_nil (by rfl)) (by rfl) (by rfl) (by rfl) (by rfl) (by rfl)) (by rfl))) pss_nil) (@pss_one _ _ _ (@ps_ret _ _ _ _ (@pe_ix _ _ _ _ _ _ _ ix_list (@pv _ 4 _ _ (by rfl) (by first|exact Or.inl rfl|exact Or.inr (.inl rfl)|exact Or.inr (.inr rfl)) (by decide) (by decide)) (@pe_call _ _ _ _ _ _ _ _ _ _ _ _ _ _ _ _ UK.ok hr1 (by rfl) UK.m UK.kp UK.b .nil pass0 (@pa_cons _ _ _ _ _ (@pv _ 0 _ _ (by rfl) (by first|exact Or.inl rfl|exact Or.inr (.inl rfl)|exact Or.inr (.inr rfl)) (by decide) (by decide)) (@pa_cons _ _ _ _ _ (@zaj _ _ _ _ _ _ _ _ _ zai (by rfl) G.len PySem.boot_len (@pa_cons _ _ _ _ _ (@pv _ 4 _ _ (by rfl) (by first|exact Or.inl rfl|exact Or.inr (.inl rfl)|exact Or.inr (.inr rfl)) (by decide) (by decide)) pa_nil (by rfl)) (by decide) (by decide) (by rfl) (by rfl)) pa_nil (by rfl)) (by rfl)) (by decide) (by rfl) (by rfl)) (fun _ _=>rfl))))))))),?_⟩
 refine⟨_,rfl,lanes,rfl,l1,l16,fun H1 s1=>?_⟩
 refine⟨_,rfl,_,rfl,_,rfl,l,lanes,most,rfl,l1,l16,m128,S.keep s1,fun r fr er ps N H2 okN lN mN na S2 B2=>?_⟩
 refine⟨(by show 2≤sizeLine;decide),fun t ht=>?_⟩
 have s3:=zaa ht (.tup [.str "net",.ref r])
 refine⟨(by show 1≤sizeLine;decide),fun lf hlf=>?_⟩
 have s4:=zaa hlf (.lst [.ref t])
 have u4:=s3.trans s4
 have B4:=((But.of s1).trans B2).trans (But.of u4)
 have nlf:l≠lf:=(S2.keep s3).ne hlf
 have h0:H lf=none:=by
  cases e:H lf with
  | none=>rfl
  | some o=>rw[s3 _ _ (B2 _ _ (s1 _ _ e) nlf.symm)]at hlf;cases hlf
 have L1:Lfs H l lf lanes most 1 _:=⟨S2.keep u4,B4,nlf,[.ref t],atNew hlf _,Nat.le_refl _,Nat.le_refl _,fun x hx=>⟨.net N,⟨okN,lN,mN,Nat.le_refl _⟩,by
  rw[List.mem_singleton.mp hx]
  exact⟨t,r,fr,er,ps,rfl,s4 _ _ (atNew ht _),na.tups (Tups.of u4)⟩⟩⟩
 generalize L2.upd (L2.upd H2 t _) lf _=H4 at L1 ⊢
 refine gset ?_
 dsimp only
 have szl:∀ n,n≤10→n<sizeLine:=fun n h=>by rw[sizeLine_eq];lia
 have fin:∀ H5,Lfs H l lf lanes most 5 H5→∃ xs,H5 lf=some (.lst xs)∧1≤xs.length∧xs.length≤5∧∀ (v:Nat) H6,v<xs.length→PkAt H6 l→But l H5 H6→∃ x,atI xs (v:Int)=some x∧H6 lf=some (.lst xs)∧Q x H6:=fun H5 L=>by
  obtain⟨xs,a,b,c,d⟩:=L.ex
  refine⟨xs,a,b,c,fun v H6 hv S6 B6=>⟨xs[v],zaX (List.getElem?_eq_getElem hv),B6 _ _ a nlf.symm,?_⟩⟩
  obtain⟨p,u,z⟩:=d _ (List.getElem_mem hv)
  exact k _ p H6 u (z.tups (B6.tups L.pk)) S6 (L.bu.trans B6)
 refine zbm (fun σ H5=>σ=[some (.ref l),some (.int lanes),some (.int most),some (powV lanes),some (.ref lf)]∧Lfs H l lf lanes most 3 H5) ?_ ?_
 rotate_left
 ·intro D1 hD
  rcases zct lanes l1 l16 with e|⟨j,j5,e,el⟩
  ·exact⟨_,rfl,rfl,_,rfl,iteFc (by rw[e];rfl) (iteFc rfl (nxt (hD _ _ ⟨rfl,L1.more (by decide)⟩)))⟩
  rw[e]at hD ⊢
  obtain⟨w0,w1,w2⟩:=zdu j j5
  refine⟨_,rfl,rfl,_,rfl,zaq rfl ⟨_,rfl,_,rfl,_,_,rfl,rfl,.inl ⟨by lia,by lia⟩,_,rfl,_,_,rfl,rfl,_,_,rfl,rfl,.inr ⟨by lia,by lia⟩,_,_,rfl,rfl,⟨by decide,by decide⟩,_,rfl,_,_,rfl,rfl,_,rfl,?_⟩⟩
  rw[el,w0]
  by_cases c:wayM 0 j≤most
  ·obtain⟨xs,hx,_,x2,_⟩:=L1.ex
   refine zaq (decide_eq_true (by lia)) ⟨_,rfl,.inl ⟨rfl,_,SqL.of hx⟩,_,rfl,(by show 2≤sizeLine;decide),fun t1 ht1=>?_⟩
   have z1:=zaa ht1 (.tup [.str "stairway",.int (j:Nat)])
   refine⟨_,rfl,(by show 2≤sizeLine;decide),fun t2 ht2=>?_⟩
   have z2:=zaa ht2 (.tup [.str "stairway",.int (j:Nat)])
   refine⟨(by show 2≤sizeLine;decide),fun lx hlx=>?_⟩
   have z3:=zaa hlx (.lst [.ref t1,.ref t2])
   have z:=(z1.trans z2).trans z3
   refine⟨lf,lx,xs,_,rfl,rfl,z _ _ hx,atNew hlx _,Nat.le_of_lt (szl _ (by show xs.length+2≤10;lia)),?_⟩
   refine hD _ _ ⟨by rw[← el];rfl,(L1.keep z).add h0 (z _ _ hx) (fun y hy=>⟨.way 0 j,⟨⟨by decide,j5,fun h=>by cases h⟩,el.symm,c,Nat.le_refl _⟩,?_⟩) (by show 1+2≤3;decide)⟩
   simp only[List.mem_cons,List.mem_nil_iff,or_false]at hy
   rcases hy with rfl|rfl
   ·exact⟨t1,rfl,z3 _ _ (z2 _ _ (atNew ht1 _))⟩
   ·exact⟨t2,rfl,z3 _ _ (atNew ht2 _)⟩
  ·exact iteFc (decide_eq_false (by lia)) (nxt (hD _ _ ⟨by rw[← el];rfl,L1.more (by decide)⟩))
 rintro σ H5 ⟨rfl,L5⟩
 refine zbm (fun σ H5=>σ=[some (.ref l),some (.int lanes),some (.int most),some (powV lanes),some (.ref lf)]∧Lfs H l lf lanes most 4 H5) ?_ ?_
 rotate_left
 ·intro D1 hD
  rcases zct lanes l1 l16 with e|⟨j,j5,e,el⟩
  ·exact⟨_,rfl,rfl,_,rfl,iteFc (by rw[e];rfl) (iteFc rfl (nxt (hD _ _ ⟨rfl,L5.more (by decide)⟩)))⟩
  rw[e]at hD ⊢
  obtain⟨w0,w1,w2⟩:=zdu j j5
  refine⟨_,rfl,rfl,_,rfl,zaq rfl ⟨_,rfl,_,rfl,_,_,rfl,rfl,.inl ⟨by lia,by lia⟩,_,rfl,_,_,rfl,rfl,.inr ⟨by lia,by lia⟩,_,_,rfl,rfl,⟨by decide,by decide⟩,_,rfl,_,_,rfl,rfl,_,rfl,?_⟩⟩
  rw[el,w1]
  by_cases c:wayM 1 j≤most
  ·obtain⟨xs,hx,_,x2,_⟩:=L5.ex
   refine zaq (decide_eq_true (by lia)) ⟨_,rfl,.inl ⟨rfl,_,SqL.of hx⟩,_,rfl,(by show 2≤sizeLine;decide),fun t1 ht1=>?_⟩
   have z:=zaa ht1 (.tup [.str "rounds",.int (j:Nat)])
   refine⟨lf,xs,_,rfl,rfl,z _ _ hx,szl _ (by lia),?_⟩
   refine hD _ _ ⟨by rw[← el],(L5.keep z).add h0 (z _ _ hx) (fun y hy=>⟨.way 1 j,⟨⟨by decide,j5,fun h=>by cases h⟩,el.symm,c,Nat.le_refl _⟩,?_⟩) (by show 3+1≤4;decide)⟩
   rw[List.mem_singleton.mp hy]
   exact⟨t1,rfl,atNew ht1 _⟩
  ·exact iteFc (decide_eq_false (by lia)) (nxt (hD _ _ ⟨by rw[← el],L5.more (by decide)⟩))
 rintro σ H6 ⟨rfl,L6⟩
 refine zbm (fun σ H5=>σ=[some (.ref l),some (.int lanes),some (.int most),some (powV lanes),some (.ref lf)]∧Lfs H l lf lanes most 5 H5) ?_ ?_
 rotate_left
 ·intro D1 hD
  rcases zct lanes l1 l16 with e|⟨j,j5,e,el⟩
  ·exact⟨_,rfl,rfl,_,rfl,iteFc (by rw[e];rfl) (iteFc rfl (nxt (hD _ _ ⟨rfl,L6.more (by decide)⟩)))⟩
  rw[e]at hD ⊢
  obtain⟨w0,w1,w2⟩:=zdu j j5
  refine⟨_,rfl,rfl,_,rfl,zaq rfl ⟨_,rfl,_,_,rfl,rfl,_,rfl,?_⟩⟩
  by_cases c0:0<j
  ·refine zaq (decide_eq_true (by lia)) ⟨_,rfl,_,rfl,_,_,rfl,rfl,.inl ⟨by lia,by lia⟩,_,_,rfl,rfl,⟨by decide,by decide⟩,_,rfl,_,_,rfl,rfl,_,rfl,?_⟩
   rw[el,w2]
   by_cases c:wayM 2 j≤most
   ·obtain⟨xs,hx,_,x2,_⟩:=L6.ex
    refine zaq (decide_eq_true (by lia)) ⟨_,rfl,.inl ⟨rfl,_,SqL.of hx⟩,_,rfl,(by show 2≤sizeLine;decide),fun t1 ht1=>?_⟩
    have z:=zaa ht1 (.tup [.str "merger",.int (j:Nat)])
    refine⟨lf,xs,_,rfl,rfl,z _ _ hx,szl _ (by lia),?_⟩
    refine hD _ _ ⟨by rw[← el],(L6.keep z).add h0 (z _ _ hx) (fun y hy=>⟨.way 2 j,⟨⟨by decide,j5,fun _=>c0⟩,el.symm,c,Nat.le_refl _⟩,?_⟩) (by show 4+1≤5;decide)⟩
    rw[List.mem_singleton.mp hy]
    exact⟨t1,rfl,atNew ht1 _⟩
   ·exact iteFc (decide_eq_false (by lia)) (nxt (hD _ _ ⟨by rw[← el],L6.more (by decide)⟩))
  ·exact iteFc (decide_eq_false (by lia)) (iteFc rfl (nxt (hD _ _ ⟨rfl,L6.more (by decide)⟩)))
 rintro σ H7 ⟨rfl,L7⟩
 obtain⟨xs,a,b,c,d⟩:=fin H7 L7
 refine⟨_,rfl,_,rfl,_,rfl,lf,_,rfl,.inl (SqL.of a),l,_,rfl,by lia,by lia,L7.pk,fun v H8 hv S8 B8=>?_⟩
 obtain⟨x,e1,e2,e3⟩:=d v H8 (by lia) S8 B8
 exact⟨lf,_,_,_,rfl,rfl,SqL.of e2,e1,e3⟩
end
abbrev zhC:Stmt:=top 31
abbrev zdH:Stmt:=top 32
def zd6 (m:Nat):Sp:=fun vs H Q _=>∃ (l:Addr) (lanes most deep:Nat),vs=[.ref l,.int lanes,.int most,.int deep]∧1≤lanes∧lanes≤16∧most≤128∧1≤deep∧deep≤m∧PkAt H l∧∀ v p H',Fits p lanes most deep→PlnAt H' p v→PkAt H' l→But l H H'→Q v H'
def zcD:Sp:=fun vs H Q _=>∃ l:Addr,vs=[.ref l]∧PkAt H l∧∀ v p H',Pln.Ok p→p.hi≤8→PlnAt H' p v→PkAt H' l→But l H H'→Q v H'
theorem zjL:∀ n:Nat,1≤n→n≤16→(powV n=.non∧pwr n=0)∨∃ k,k<5∧powV n=.int (k:Nat)∧n=2 ^ k∧pwr n=k:=fun n a b=>by
 rcases zct n a b with e|⟨k,k5,e,rfl⟩
 ·refine .inl ⟨e,?_⟩
  have:∀ m,m<17→powV m=.non→pwr m=0:=by decide +kernel
  exact this n (by lia) e
 ·have:∀ m,m<5→pwr (2 ^ m)=m:=by decide
  exact .inr ⟨k,k5,e,rfl,this k k5⟩
section
variable {P:Program}{w:World}{K:PySem.W.Frag}{mg:Str→Option Value}{base:Heap}
theorem scPp:FnScope ["_law_left_here","_law_lanes","_law_most","_law_deep","_law_way","_law_power_here","_law_one","_law_first","_law_rest","_law_halves"] ["_law_left_here","_law_lanes","_law_most","_law_deep"] (zaf zhC):=⟨rfl,rfl,rfl,by decide +kernel,rfl,by decide +kernel,by decide +kernel⟩
theorem zhQ {f fK fW fM fF:Addr}{fd dK dW dM dF:FuncData}(n:Nat) (F:Fun K "_law_plan" "_law_plan" zhC f fd) (G:Mgs mg) (UK:Use P w K mg base "_law_pick" ["_law_left_here","_law_many"] 1 zcl fK dK) (UW:Use P w K mg base "_law_power" ["_law_lanes"] 1 zcz fW dW) (UM:Use P w K mg base "_law_names" ["_law_left_here","_law_lanes"] 2 zcA fM dM) (UF:Use P w K mg base "_law_leaf" ["_law_left_here","_law_lanes","_law_most"] 4 ze7 fF dF)
  (UP:Use P w K mg base "_law_plan" ["_law_left_here","_law_lanes","_law_most","_law_deep"] (4+n) (zd6 n) f fd):FnOk P w K mg base CX0 (4+n+1) f fd ["_law_left_here","_law_lanes","_law_most","_law_deep"] (zd6 (n+1)):=by
 refine F.ok scPp (fun vs H Q E h=>?_) (fun cdv A outer s H vs Q E hr h=>?_)
 ·obtain⟨l,lanes,most,deep,rfl,_⟩:=h
  rfl
 obtain⟨l,lanes,most,deep,rfl,l1,l16,m128,d1,dn,S,k⟩:=h
 have hr1:Room 1 _:=hr.mono (by lia)
 have hr2:Room 2 _:=hr.mono (by lia)
 have hr4:Room 4 _:=hr.mono (by lia)
 refine⟨_,(@pss_cons _ _ _ _ _ (@zgv _ _ 4 5 _ _ _ _ _ _ _ _ _ _ _ rfl scPp.nd rfl rfl (by decide) rfl rfl (@pa_cons _ _ _ _ _ (@pe_call _ _ _ _ _ _ _ _ _ _ _ _ _ _ _ _ UK.ok hr1 (by rfl) UK.m UK.kp UK.b .nil pass0 (@pa_cons _ _ _ _ _ (@pv _ 0 _ _ (by rfl) (by first|exact Or.inl rfl|exact Or.inr (.inl rfl)|exact Or.inr (.inr rfl)) (by decide) (by decide)) (@pa_cons _ _ _ _ _ pe_int pa_nil (by rfl)) (by rfl)) (by decide) (by rfl) (by rfl)) (@pa_cons _ _ _ _ _ (@pe_call _ _ _ _ _ _ _ _ _ _ _ _ _ _ _ _ UW.ok hr1 (by rfl) UW.m UW.kp UW.b .nil pass0 (@pa_cons _ _ _ _ _ (@pv _ 1 _ _ (by rfl) (by first|exact Or.inl rfl|exact Or.inr (.inl rfl)|exact Or.inr (.inr rfl)) (by decide) (by decide)) pa_nil (by rfl)) (by decide) (by rfl) (by rfl)) pa_nil (by rfl)) (by rfl)) (by rfl) (by rfl)) (@pss_cons _ _ _ _ _ (@zau _ _ _ _ _ _ _ _ (@za3 _ _ _ _ _ _ _ (@pt_cmpR _ _ _ _ _ _ _ _ zdL (@pv _ 3 _ _ (by rfl) (by first|exact Or.inl rfl|exact Or.inr (.inl rfl)|exact Or.inr (.inr rfl)) (by decide) (by decide)) pe_int (nomark _)) (@zbp _ _ _ _ (@pt_cmpR _ _ _ _ _ _ _ _ zgD (@pv _ 4 _ _ (by rfl) (by first|exact Or.inl rfl|exact Or.inr (.inl rfl)|exact Or.inr (.inr rfl)) (by decide) (by decide)) pe_int (nomark _)))).pt (@pss_cons _ _ _ _ _ (@zak _ _ 6 _ _ _ _ scPp.nd rfl (.inl rfl) (@pe_call _ _ _ _ _ _ _ _ _ _ _ _ _ _ _ _ UP.ok hr (by rfl) UP.m UP.kp UP.b .nil pass0 (@pa_cons _ _ _ _ _ (@pv _ 0 _ _ (by rfl) (by first|exact Or.inl rfl|exact Or.inr (.inl rfl)|exact Or.inr (.inr rfl)) (by decide) (by decide)) (@pa_cons _ _ _ _ _ (@pv _ 1 _ _ (by rfl) (by first|exact Or.inl rfl|exact Or.inr (.inl rfl)|exact Or.inr (.inr rfl)) (by decide) (by decide)) (@pa_cons _ _ _ _ _ (@pe_op _ _ _ _ _ _ _ _ zar (@pv _ 2 _ _ (by rfl) (by first|exact Or.inl rfl|exact Or.inr (.inl rfl)|exact Or.inr (.inr rfl)) (by decide) (by decide)) pe_int) (@pa_cons _ _ _ _ _ (@pe_op _ _ _ _ _ _ _ _ zba (@pv _ 3 _ _ (by rfl) (by first|exact Or.inl rfl|exact Or.inr (.inl rfl)|exact Or.inr (.inr rfl)) (by decide) (by decide)) pe_int) pa_nil (by rfl)) (by rfl)) (by rfl)) (by rfl)) (by decide) (by rfl) (by rfl)) (by rfl) (by first|exact .inl rfl|exact .inr rfl|assumption)) (@pss_one _ _ _ (@ps_ret _ _ _ _ (@pe_tup _ _ _ _ _ (@pa_cons _ _ _ _ _ pe_str (@pa_cons _ _ _ _ _ (@pv _ 6 _ _ (by rfl) (by first|exact Or.inl rfl|exact Or.inr (.inl rfl)|exact Or.inr (.inr rfl)) (by decide) (by decide)) (@pa_cons _ _ _ _ _ (@pe_call _ _ _ _ _ _ _ _ _ _ _ _ _ _ _ _ UP.ok hr (by rfl) UP.m UP.kp UP.b .nil pass0 (@pa_cons _ _ _ _ _ (@pv _ 0 _ _ (by rfl) (by first|exact Or.inl rfl|exact Or.inr (.inl rfl)|exact Or.inr (.inr rfl)) (by decide) (by decide)) (@pa_cons _ _ _ _ _ (@pv _ 1 _ _ (by rfl) (by first|exact Or.inl rfl|exact Or.inr (.inl rfl)|exact Or.inr (.inr rfl)) (by decide) (by decide)) (@pa_cons _ _ _ _ _ (@pe_op _ _ _ _ _ _ _ _ zar (@pv _ 2 _ _ (by rfl) (by first|exact Or.inl rfl|exact Or.inr (.inl rfl)|exact Or.inr (.inr rfl)) (by decide) (by decide)) pe_int) (@pa_cons _ _ _ _ _ (@pe_op _ _ _ _ _ _ _ _ zba (@pv _ 3 _ _ (by rfl) (by first|exact Or.inl rfl|exact Or.inr (.inl rfl)|exact Or.inr (.inr rfl)) (by decide) (by decide)) pe_int) pa_nil (by rfl)) (by rfl)) (by rfl)) (by rfl)) (by decide) (by rfl) (by rfl)) pa_nil (by rfl)) (by rfl)) (by rfl)))))) pss_nil) (@pss_cons _ _ _ _ _ (@zau _ _ _ _ _ _ _ _ (@za3 _ _ _ _ _ _ _ (@pt_cmpR _ _ _ _ _ _ _ _ zdL (@pv _ 3 _ _ (by rfl) (by first|exact Or.inl rfl|exact Or.inr (.inl rfl)|exact Or.inr (.inr rfl)) (by decide) (by decide)) pe_int (nomark _)) (@za3 _ _ _ _ _ _ _ (@pt_cmpR _ _ _ _ _ _ _ _ zaS (@pv _ 4 _ _ (by rfl) (by first|exact Or.inl rfl|exact Or.inr (.inl rfl)|exact Or.inr (.inr rfl)) (by decide) (by decide)) pe_int (nomark _)) (@zbp _ _ _ _ (@pt_cmpR _ _ _ _ _ _ _ _ zdL (@pv _ 1 _ _ (by rfl) (by first|exact Or.inl rfl|exact Or.inr (.inl rfl)|exact Or.inr (.inr rfl)) (by decide) (by decide)) pe_int (nomark _))))).pt (@pss_cons _ _ _ _ _ (@zak _ _ 7 _ _ _ _ scPp.nd rfl (.inl rfl) (@pe_ix _ _ _ _ _ _ _ ix_list (@zay _ _ _ _ (@pa_cons _ _ _ _ _ (@pe_op _ _ _ _ _ _ _ _ zar (@pv _ 1 _ _ (by rfl) (by first|exact Or.inl rfl|exact Or.inr (.inl rfl)|exact Or.inr (.inr rfl)) (by decide) (by decide)) pe_int) (@pa_cons _ _ _ _ _ (@pe_op _ _ _ _ _ _ _ _ op_add pe_int (@pe_call _ _ _ _ _ _ _ _ _ _ _ _ _ _ _ _ UK.ok hr1 (by rfl) UK.m UK.kp UK.b .nil pass0 (@pa_cons _ _ _ _ _ (@pv _ 0 _ _ (by rfl) (by first|exact Or.inl rfl|exact Or.inr (.inl rfl)|exact Or.inr (.inr rfl)) (by decide) (by decide)) (@pa_cons _ _ _ _ _ (@pe_op _ _ _ _ _ _ _ _ zba (@pv _ 1 _ _ (by rfl) (by first|exact Or.inl rfl|exact Or.inr (.inl rfl)|exact Or.inr (.inr rfl)) (by decide) (by decide)) pe_int) pa_nil (by rfl)) (by rfl)) (by decide) (by rfl) (by rfl))) pa_nil (by rfl)) (by rfl))) (@pe_call _ _ _ _ _ _ _ _ _ _ _ _ _ _ _ _ UK.ok hr1 (by rfl) UK.m UK.kp UK.b .nil pass0 (@pa_cons _ _ _ _ _ (@pv _ 0 _ _ (by rfl) (by first|exact Or.inl rfl|exact Or.inr (.inl rfl)|exact Or.inr (.inr rfl)) (by decide) (by decide)) (@pa_cons _ _ _ _ _ pe_int pa_nil (by rfl)) (by rfl)) (by decide) (by rfl) (by rfl)) (fun _ _=>rfl)) (by rfl) (by first|exact .inl rfl|exact .inr rfl|assumption)) (@pss_cons _ _ _ _ _ (@zak _ _ 6 _ _ _ _ scPp.nd rfl (.inl rfl) (@pe_call _ _ _ _ _ _ _ _ _ _ _ _ _ _ _ _ UP.ok hr (by rfl) UP.m UP.kp UP.b .nil pass0 (@pa_cons _ _ _ _ _ (@pv _ 0 _ _ (by rfl) (by first|exact Or.inl rfl|exact Or.inr (.inl rfl)|exact Or.inr (.inr rfl)) (by decide) (by decide)) (@pa_cons _ _ _ _ _ (@pv _ 7 _ _ (by rfl) (by first|exact Or.inl rfl|exact Or.inr (.inl rfl)|exact Or.inr (.inr rfl)) (by decide) (by decide)) (@pa_cons _ _ _ _ _ (@pe_op _ _ _ _ _ _ _ _ zar (@pv _ 2 _ _ (by rfl) (by first|exact Or.inl rfl|exact Or.inr (.inl rfl)|exact Or.inr (.inr rfl)) (by decide) (by decide)) pe_int) (@pa_cons _ _ _ _ _ (@pe_op _ _ _ _ _ _ _ _ zba (@pv _ 3 _ _ (by rfl) (by first|exact Or.inl rfl|exact Or.inr (.inl rfl)|exact Or.inr (.inr rfl)) (by decide) (by decide)) pe_int) pa_nil (by rfl)) (by rfl)) (by rfl)) (by rfl)) (by decide) (by rfl) (by rfl)) (by rfl) (by first|exact .inl rfl|exact .inr rfl|assumption)) (@pss_one _ _ _ (@ps_ret _ _ _ _ (@pe_tup _ _ _ _ _ (@pa_cons _ _ _ _ _ pe_str (@pa_cons _ _ _ _ _ (@pv _ 6 _ _ (by rfl) (by first|exact Or.inl rfl|exact Or.inr (.inl rfl)|exact Or.inr (.inr rfl)) (by decide) (by decide)) (@pa_cons _ _ _ _ _ (@pe_call _ _ _ _ _ _ _ _ _ _ _ _ _ _ _ _ UP.ok hr (by rfl) UP.m UP.kp UP.b .nil pass0 (@pa_cons _ _ _ _ _ (@pv _ 0 _ _ (by rfl) (by first|exact Or.inl rfl|exact Or.inr (.inl rfl)|exact Or.inr (.inr rfl)) (by decide) (by decide)) (@pa_cons _ _ _ _ _ (@pe_op _ _ _ _ _ _ _ _ zba (@pv _ 1 _ _ (by rfl) (by first|exact Or.inl rfl|exact Or.inr (.inl rfl)|exact Or.inr (.inr rfl)) (by decide) (by decide)) (@pv _ 7 _ _ (by rfl) (by first|exact Or.inl rfl|exact Or.inr (.inl rfl)|exact Or.inr (.inr rfl)) (by decide) (by decide))) (@pa_cons _ _ _ _ _ (@pe_op _ _ _ _ _ _ _ _ zar (@pv _ 2 _ _ (by rfl) (by first|exact Or.inl rfl|exact Or.inr (.inl rfl)|exact Or.inr (.inr rfl)) (by decide) (by decide)) pe_int) (@pa_cons _ _ _ _ _ (@pe_op _ _ _ _ _ _ _ _ zba (@pv _ 3 _ _ (by rfl) (by first|exact Or.inl rfl|exact Or.inr (.inl rfl)|exact Or.inr (.inr rfl)) (by decide) (by decide)) pe_int) pa_nil (by rfl)) (by rfl)) (by rfl)) (by rfl)) (by decide) (by rfl) (by rfl)) pa_nil (by rfl)) (by rfl)) (by rfl))))))) pss_nil) (@pss_cons _ _ _ _ _ (@zau _ _ _ _ _ _ _ _ (@za3 _ _ _ _ _ _ _ (@pt_cmpR _ _ _ _ _ _ _ _ zdL (@pv _ 3 _ _ (by rfl) (by first|exact Or.inl rfl|exact Or.inr (.inl rfl)|exact Or.inr (.inr rfl)) (by decide) (by decide)) pe_int (nomark _)) (@zbp _ _ _ _ (@pt_cmpR _ _ _ _ _ _ _ _ zaS (@pv _ 4 _ _ (by rfl) (by first|exact Or.inl rfl|exact Or.inr (.inl rfl)|exact Or.inr (.inr rfl)) (by decide) (by decide)) pe_int (nomark _)))).pt (@pss_one _ _ _ (@ps_ret _ _ _ _ (@pe_tup _ _ _ _ _ (@pa_cons _ _ _ _ _ pe_str (@pa_cons _ _ _ _ _ (@pe_call _ _ _ _ _ _ _ _ _ _ _ _ _ _ _ _ UP.ok hr (by rfl) UP.m UP.kp UP.b .nil pass0 (@pa_cons _ _ _ _ _ (@pv _ 0 _ _ (by rfl) (by first|exact Or.inl rfl|exact Or.inr (.inl rfl)|exact Or.inr (.inr rfl)) (by decide) (by decide)) (@pa_cons _ _ _ _ _ (@pv _ 1 _ _ (by rfl) (by first|exact Or.inl rfl|exact Or.inr (.inl rfl)|exact Or.inr (.inr rfl)) (by decide) (by decide)) (@pa_cons _ _ _ _ _ (@pv _ 2 _ _ (by rfl) (by first|exact Or.inl rfl|exact Or.inr (.inl rfl)|exact Or.inr (.inr rfl)) (by decide) (by decide)) (@pa_cons _ _ _ _ _ (@pe_op _ _ _ _ _ _ _ _ zba (@pv _ 3 _ _ (by rfl) (by first|exact Or.inl rfl|exact Or.inr (.inl rfl)|exact Or.inr (.inr rfl)) (by decide) (by decide)) pe_int) pa_nil (by rfl)) (by rfl)) (by rfl)) (by rfl)) (by decide) (by rfl) (by rfl)) (@pa_cons _ _ _ _ _ (@pe_call _ _ _ _ _ _ _ _ _ _ _ _ _ _ _ _ UM.ok hr2 (by rfl) UM.m UM.kp UM.b .nil pass0 (@pa_cons _ _ _ _ _ (@pv _ 0 _ _ (by rfl) (by first|exact Or.inl rfl|exact Or.inr (.inl rfl)|exact Or.inr (.inr rfl)) (by decide) (by decide)) (@pa_cons _ _ _ _ _ (@pv _ 1 _ _ (by rfl) (by first|exact Or.inl rfl|exact Or.inr (.inl rfl)|exact Or.inr (.inr rfl)) (by decide) (by decide)) pa_nil (by rfl)) (by rfl)) (by decide) (by rfl) (by rfl)) pa_nil (by rfl)) (by rfl)) (by rfl))))) pss_nil) (@pss_cons _ _ _ _ _ (@zak _ _ 8 _ _ _ _ scPp.nd rfl (.inl rfl) (@pe_op _ _ _ _ _ _ _ _ zba (@pv _ 2 _ _ (by rfl) (by first|exact Or.inl rfl|exact Or.inr (.inl rfl)|exact Or.inr (.inr rfl)) (by decide) (by decide)) (@pe_op _ _ _ _ _ _ _ _ zar (@pe_op _ _ _ _ _ _ _ _ op_mul (@pv _ 1 _ _ (by rfl) (by first|exact Or.inl rfl|exact Or.inr (.inl rfl)|exact Or.inr (.inr rfl)) (by decide) (by decide)) (zjQ (@pv _ 5 _ _ (by rfl) (by first|exact Or.inl rfl|exact Or.inr (.inl rfl)|exact Or.inr (.inr rfl)) (by decide) (by decide)) (@zfd _ _ _ _ _ pe_int))) pe_int)) (by rfl) (by first|exact .inl rfl|exact .inr rfl|assumption)) (@pss_cons _ _ _ _ _ (@zau _ _ _ _ _ _ _ _ (@za3 _ _ _ _ _ _ _ (@pt_cmpR _ _ _ _ _ _ _ _ zdL (@pv _ 3 _ _ (by rfl) (by first|exact Or.inl rfl|exact Or.inr (.inl rfl)|exact Or.inr (.inr rfl)) (by decide) (by decide)) pe_int (nomark _)) (@za3 _ _ _ _ _ _ _ (@pt_cmpR _ _ _ _ _ _ _ _ zaS (@pv _ 4 _ _ (by rfl) (by first|exact Or.inl rfl|exact Or.inr (.inl rfl)|exact Or.inr (.inr rfl)) (by decide) (by decide)) pe_int (nomark _)) (@za3 _ _ _ _ _ _ _ (@pt_cmpR _ _ _ _ _ _ _ _ zcq (@pv _ 5 _ _ (by rfl) (by first|exact Or.inl rfl|exact Or.inr (.inl rfl)|exact Or.inr (.inr rfl)) (by decide) (by decide)) (@pe_tup _ _ _ _ _ (@pa_cons _ _ _ _ _ zaF (@pa_cons _ _ _ _ _ pe_int pa_nil (by rfl)) (by rfl))) (by rfl)) (@zbp _ _ _ _ (@pt_cmpR _ _ _ _ _ _ _ _ ziW (@pv _ 8 _ _ (by rfl) (by first|exact Or.inl rfl|exact Or.inr (.inl rfl)|exact Or.inr (.inr rfl)) (by decide) (by decide)) pe_int (nomark _)))))).pt (@pss_one _ _ _ (@ps_ret _ _ _ _ (@pe_tup _ _ _ _ _ (@pa_cons _ _ _ _ _ pe_str (@pa_cons _ _ _ _ _ (@pe_call _ _ _ _ _ _ _ _ _ _ _ _ _ _ _ _ UP.ok hr (by rfl) UP.m UP.kp UP.b .nil pass0 (@pa_cons _ _ _ _ _ (@pv _ 0 _ _ (by rfl) (by first|exact Or.inl rfl|exact Or.inr (.inl rfl)|exact Or.inr (.inr rfl)) (by decide) (by decide)) (@pa_cons _ _ _ _ _ (@pe_op _ _ _ _ _ _ _ _ zar (@pv _ 1 _ _ (by rfl) (by first|exact Or.inl rfl|exact Or.inr (.inl rfl)|exact Or.inr (.inr rfl)) (by decide) (by decide)) pe_int) (@pa_cons _ _ _ _ _ (@pe_op _ _ _ _ _ _ _ _ zar (@pv _ 8 _ _ (by rfl) (by first|exact Or.inl rfl|exact Or.inr (.inl rfl)|exact Or.inr (.inr rfl)) (by decide) (by decide)) pe_int) (@pa_cons _ _ _ _ _ (@pe_op _ _ _ _ _ _ _ _ zba (@pv _ 3 _ _ (by rfl) (by first|exact Or.inl rfl|exact Or.inr (.inl rfl)|exact Or.inr (.inr rfl)) (by decide) (by decide)) pe_int) pa_nil (by rfl)) (by rfl)) (by rfl)) (by rfl)) (by decide) (by rfl) (by rfl)) pa_nil (by rfl)) (by rfl))))) pss_nil) (@pss_cons _ _ _ _ _ (@zau _ _ _ _ _ _ _ _ (@za3 _ _ _ _ _ _ _ (@pt_cmpR _ _ _ _ _ _ _ _ zdL (@pv _ 3 _ _ (by rfl) (by first|exact Or.inl rfl|exact Or.inr (.inl rfl)|exact Or.inr (.inr rfl)) (by decide) (by decide)) pe_int (nomark _)) (@za3 _ _ _ _ _ _ _ (@pt_cmpR _ _ _ _ _ _ _ _ zaS (@pv _ 4 _ _ (by rfl) (by first|exact Or.inl rfl|exact Or.inr (.inl rfl)|exact Or.inr (.inr rfl)) (by decide) (by decide)) pe_int (nomark _)) (@za3 _ _ _ _ _ _ _ (@pt_cmpR _ _ _ _ _ _ _ _ zcq (@pv _ 5 _ _ (by rfl) (by first|exact Or.inl rfl|exact Or.inr (.inl rfl)|exact Or.inr (.inr rfl)) (by decide) (by decide)) (@pe_tup _ _ _ _ _ (@pa_cons _ _ _ _ _ zaF (@pa_cons _ _ _ _ _ pe_int pa_nil (by rfl)) (by rfl))) (by rfl)) (@zbp _ _ _ _ (@pt_cmpR _ _ _ _ _ _ _ _ ziW (@pv _ 8 _ _ (by rfl) (by first|exact Or.inl rfl|exact Or.inr (.inl rfl)|exact Or.inr (.inr rfl)) (by decide) (by decide)) pe_int (nomark _)))))).pt (@pss_cons _ _ _ _ _ (@zak _ _ 6 _ _ _ _ scPp.nd rfl (.inl rfl) (@pe_call _ _ _ _ _ _ _ _ _ _ _ _ _ _ _ _ UP.ok hr (by rfl) UP.m UP.kp UP.b .nil pass0 (@pa_cons _ _ _ _ _ (@pv _ 0 _ _ (by rfl) (by first|exact Or.inl rfl|exact Or.inr (.inl rfl)|exact Or.inr (.inr rfl)) (by decide) (by decide)) (@pa_cons _ _ _ _ _ (@pe_op _ _ _ _ _ _ _ _ zar (@pv _ 1 _ _ (by rfl) (by first|exact Or.inl rfl|exact Or.inr (.inl rfl)|exact Or.inr (.inr rfl)) (by decide) (by decide)) pe_int) (@pa_cons _ _ _ _ _ (@pe_op _ _ _ _ _ _ _ _ zar (@pv _ 8 _ _ (by rfl) (by first|exact Or.inl rfl|exact Or.inr (.inl rfl)|exact Or.inr (.inr rfl)) (by decide) (by decide)) pe_int) (@pa_cons _ _ _ _ _ (@pe_op _ _ _ _ _ _ _ _ zba (@pv _ 3 _ _ (by rfl) (by first|exact Or.inl rfl|exact Or.inr (.inl rfl)|exact Or.inr (.inr rfl)) (by decide) (by decide)) pe_int) pa_nil (by rfl)) (by rfl)) (by rfl)) (by rfl)) (by decide) (by rfl) (by rfl)) (by rfl) (by first|exact .inl rfl|exact .inr rfl|assumption)) (@pss_cons _ _ _ _ _ (@zak _ _ 9 _ _ _ _ scPp.nd rfl (.inl rfl) (@pe_tup _ _ _ _ _ (@pa_cons _ _ _ _ _ pe_str (@pa_cons _ _ _ _ _ (@pv _ 6 _ _ (by rfl) (by first|exact Or.inl rfl|exact Or.inr (.inl rfl)|exact Or.inr (.inr rfl)) (by decide) (by decide)) (@pa_cons _ _ _ _ _ (@pe_call _ _ _ _ _ _ _ _ _ _ _ _ _ _ _ _ UP.ok hr (by rfl) UP.m UP.kp UP.b .nil pass0 (@pa_cons _ _ _ _ _ (@pv _ 0 _ _ (by rfl) (by first|exact Or.inl rfl|exact Or.inr (.inl rfl)|exact Or.inr (.inr rfl)) (by decide) (by decide)) (@pa_cons _ _ _ _ _ (@pe_op _ _ _ _ _ _ _ _ zar (@pv _ 1 _ _ (by rfl) (by first|exact Or.inl rfl|exact Or.inr (.inl rfl)|exact Or.inr (.inr rfl)) (by decide) (by decide)) pe_int) (@pa_cons _ _ _ _ _ (@pe_op _ _ _ _ _ _ _ _ zar (@pv _ 8 _ _ (by rfl) (by first|exact Or.inl rfl|exact Or.inr (.inl rfl)|exact Or.inr (.inr rfl)) (by decide) (by decide)) pe_int) (@pa_cons _ _ _ _ _ (@pe_op _ _ _ _ _ _ _ _ zba (@pv _ 3 _ _ (by rfl) (by first|exact Or.inl rfl|exact Or.inr (.inl rfl)|exact Or.inr (.inr rfl)) (by decide) (by decide)) pe_int) pa_nil (by rfl)) (by rfl)) (by rfl)) (by rfl)) (by decide) (by rfl) (by rfl)) pa_nil (by rfl)) (by rfl)) (by rfl))) (by rfl) (by first|exact .inl rfl|exact .inr rfl|assumption)) (@pss_one _ _ _ (@ps_ret _ _ _ _ (@pe_tup _ _ _ _ _ (@pa_cons _ _ _ _ _ pe_str (@pa_cons _ _ _ _ _ (@pv _ 9 _ _ (by rfl) (by first|exact Or.inl rfl|exact Or.inr (.inl rfl)|exact Or.inr (.inr rfl)) (by decide) (by decide)) (@pa_cons _ _ _ _ _ (@pe_tup _ _ _ _ _ (@pa_cons _ _ _ _ _ pe_str (@pa_cons _ _ _ _ _ (@pv _ 5 _ _ (by rfl) (by first|exact Or.inl rfl|exact Or.inr (.inl rfl)|exact Or.inr (.inr rfl)) (by decide) (by decide)) pa_nil (by rfl)) (by rfl))) pa_nil (by rfl)) (by rfl)) (by rfl))))))) pss_nil) (@pss_one _ _ _ (@ps_ret _ _ _ _ (@pe_call _ _ _ _ _ _ _ _ _ _ _ _ _ _ _ _ UF.ok hr4 (by rfl) UF.m UF.kp UF.b .nil pass0 (@pa_cons _ _ _ _ _ (@pv _ 0 _ _ (by rfl) (by first|exact Or.inl rfl|exact Or.inr (.inl rfl)|exact Or.inr (.inr rfl)) (by decide) (by decide)) (@pa_cons _ _ _ _ _ (@pv _ 1 _ _ (by rfl) (by first|exact Or.inl rfl|exact Or.inr (.inl rfl)|exact Or.inr (.inr rfl)) (by decide) (by decide)) (@pa_cons _ _ _ _ _ (@pv _ 2 _ _ (by rfl) (by first|exact Or.inl rfl|exact Or.inr (.inl rfl)|exact Or.inr (.inr rfl)) (by decide) (by decide)) pa_nil (by rfl)) (by rfl)) (by rfl)) (by decide) (by rfl) (by rfl))))))))))),?_⟩
 refine⟨_,rfl,l,7,rfl,by decide,by decide,S,fun wy H1 hw S1 B1=>?_⟩
 refine⟨_,rfl,lanes,rfl,l1,l16,fun H2 s2=>⟨_,_,rfl,?_⟩⟩
 have S2:=S1.keep s2
 have B2:=B1.trans (But.of s2)
 have e1:((most:Nat):Int) / 2=((most / 2:Nat):Int):=by lia
 have e2:((deep:Nat):Int)-1=((deep-1:Nat):Int):=by lia
 by_cases c1:1<deep∧wy<2
 ·refine⟨_,rfl,_,_,rfl,rfl,_,rfl,zaq (decide_eq_true (by lia)) ⟨_,rfl,_,_,rfl,rfl,_,rfl,zaq (decide_eq_true (by lia)) ?_⟩⟩
  refine⟨_,rfl,_,rfl,_,rfl,_,_,rfl,rfl,⟨by decide,by decide⟩,_,rfl,_,_,rfl,rfl,l,lanes,most / 2,deep-1,(by show [V.ref l,V.int ((lanes:Nat):Int),V.int (((most:Nat):Int) / 2),V.int (((deep:Nat):Int)-1)]=_;rw[e1,e2]),l1,l16,by lia,by lia,by lia,S2,fun v p H3 fp ap S3 B3=>?_⟩
  refine⟨_,rfl,_,rfl,_,rfl,_,rfl,_,_,rfl,rfl,⟨by decide,by decide⟩,_,rfl,_,_,rfl,rfl,l,lanes,most / 2,deep-1,(by show [V.ref l,V.int ((lanes:Nat):Int),V.int (((most:Nat):Int) / 2),V.int (((deep:Nat):Int)-1)]=_;rw[e1,e2]),l1,l16,by lia,by lia,by lia,S3,fun x q H4 fq aq S4 B4=>?_⟩
  refine⟨(by show 3≤sizeLine;decide),fun t ht=>?_⟩
  have st:=zaa ht (.tup [.str "behind",v,x])
  obtain⟨p1,p2,p3,p4⟩:=fp
  obtain⟨q1,q2,q3,q4⟩:=fq
  exact k _ (.beh p q) _ ⟨⟨p1,q1,by rw[p2,q2],by lia⟩,p2,(by show p.many+q.many≤most;lia),(by show max p.hi q.hi+1≤deep;lia)⟩ ⟨t,v,x,rfl,atNew ht _,(ap.tups (B4.tups S3)).tups (Tups.of st),aq.tups (Tups.of st)⟩ (S4.keep st) (((B2.trans B3).trans B4).trans (But.of st))
 dsimp only
 refine zbm (fun σ H'=>σ=[some (.ref l),some (.int lanes),some (.int most),some (.int deep),some (.int wy),some (powV lanes),none,none,none,none]∧H2=H') ?_ ?_
 rotate_left
 ·intro D1 hD
  by_cases c:1<deep
  ·exact⟨_,rfl,_,_,rfl,rfl,_,rfl,zaq (decide_eq_true (by lia)) ⟨_,rfl,_,_,rfl,rfl,_,rfl,iteFc (decide_eq_false (by lia)) (nxt (hD _ _ ⟨rfl,rfl⟩))⟩⟩
  ·exact⟨_,rfl,_,_,rfl,rfl,_,rfl,iteFc (decide_eq_false (by lia)) (iteFc rfl (nxt (hD _ _ ⟨rfl,rfl⟩)))⟩
 rintro σ H' ⟨rfl,rfl⟩
 by_cases c2:1<deep∧wy=2∧1<lanes
 ·refine⟨_,rfl,_,_,rfl,rfl,_,rfl,zaq (decide_eq_true (by lia)) ⟨_,rfl,rfl,_,rfl,zaq (decide_eq_true (by rw[c2.2.1];rfl)) ⟨_,rfl,_,_,rfl,rfl,_,rfl,zaq (decide_eq_true (by lia)) ?_⟩⟩⟩
  refine⟨_,rfl,_,_,rfl,rfl,⟨by decide,by decide⟩,_,rfl,_,rfl,_,_,rfl,rfl,l,_,rfl,by lia,by lia,S2,fun a H3 ha S3 B3=>⟨_,_,rfl,rfl,(by show 2≤sizeLine;decide),fun lx hlx=>?_⟩⟩
  have e3:((lanes:Nat):Int) / 2=((lanes / 2:Nat):Int):=by lia
  have e4:(1:Int)+((a:Nat):Int)=((1+a:Nat):Int):=by lia
  have sx:=zaa hlx (.lst [.int (((lanes:Nat):Int) / 2),.int ((1:Int)+((a:Nat):Int))])
  have ax:=atNew hlx (.lst [.int (((lanes:Nat):Int) / 2),.int ((1:Int)+((a:Nat):Int))])
  have nlx:=S3.ne hlx
  refine⟨_,rfl,l,2,rfl,by decide,by decide,S3.keep sx,fun b H4 hb S4 B4=>?_⟩
  obtain⟨ff,fmem,hat2⟩:=zdJ (xs:=[lanes / 2,1+a]) (v:=b) (by show b<2;lia)
  have fb:1≤ff∧ff<lanes:=by
   simp only[List.mem_cons,List.mem_nil_iff,or_false]at fmem
   lia
  have hat3:atI ([.int (((lanes:Nat):Int) / 2),.int ((1:Int)+((a:Nat):Int))]:List V) ((b:Nat):Int)=some (.int ff):=by rw[e3,e4];exact hat2
  refine⟨lx,_,_,_,rfl,rfl,SqL.of (B4 lx _ ax nlx.symm),hat3,?_⟩
  refine⟨_,rfl,_,rfl,_,rfl,_,_,rfl,rfl,⟨by decide,by decide⟩,_,rfl,_,_,rfl,rfl,l,ff,most / 2,deep-1,(by show [V.ref l,V.int ((ff:Nat):Int),V.int (((most:Nat):Int) / 2),V.int (((deep:Nat):Int)-1)]=_;rw[e1,e2]),by lia,by lia,by lia,by lia,by lia,S4,fun v p H5 fp ap S5 B5=>?_⟩
  have e5:((lanes:Nat):Int)-((ff:Nat):Int)=((lanes-ff:Nat):Int):=by lia
  refine⟨_,rfl,_,rfl,_,rfl,_,rfl,_,_,rfl,rfl,_,rfl,_,_,rfl,rfl,⟨by decide,by decide⟩,_,rfl,_,_,rfl,rfl,l,lanes-ff,most / 2,deep-1,(by show [V.ref l,V.int (((lanes:Nat):Int)-((ff:Nat):Int)),V.int (((most:Nat):Int) / 2),V.int (((deep:Nat):Int)-1)]=_;rw[e5,e1,e2]),by lia,by lia,by lia,by lia,by lia,S5,fun x q H6 fq aq S6 B6=>?_⟩
  refine⟨(by show 3≤sizeLine;decide),fun t ht=>?_⟩
  have st:=zaa ht (.tup [.str "beside",v,x])
  obtain⟨p1,p2,p3,p4⟩:=fp
  obtain⟨q1,q2,q3,q4⟩:=fq
  exact k _ (.bes p q) _ ⟨⟨p1,q1,by lia,by lia⟩,(by show p.lanes+q.lanes=lanes;lia),(by show p.many+q.many≤most;lia),(by show max p.hi q.hi+1≤deep;lia)⟩ ⟨t,v,x,rfl,atNew ht _,(ap.tups (B6.tups S5)).tups (Tups.of st),aq.tups (Tups.of st)⟩ (S6.keep st) ((((((B2.trans B3).trans (But.of sx)).trans B4).trans B5).trans B6).trans (But.of st))
 refine zbm (fun σ H'=>σ=[some (.ref l),some (.int lanes),some (.int most),some (.int deep),some (.int wy),some (powV lanes),none,none,none,none]∧H2=H') ?_ ?_
 rotate_left
 ·intro D1 hD
  by_cases c:1<deep
  ·refine⟨_,rfl,_,_,rfl,rfl,_,rfl,zaq (decide_eq_true (by lia)) ⟨_,rfl,rfl,_,rfl,?_⟩⟩
   by_cases c':wy=2
   ·exact zaq (decide_eq_true (by rw[c'];rfl)) ⟨_,rfl,_,_,rfl,rfl,_,rfl,iteFc (decide_eq_false (by lia)) (nxt (hD _ _ ⟨rfl,rfl⟩))⟩
   ·exact iteFc (decide_eq_false (fun z=>c' (by injection z with z;lia))) (iteFc rfl (nxt (hD _ _ ⟨rfl,rfl⟩)))
  ·exact⟨_,rfl,_,_,rfl,rfl,_,rfl,iteFc (decide_eq_false (by lia)) (iteFc rfl (nxt (hD _ _ ⟨rfl,rfl⟩)))⟩
 rintro σ H' ⟨rfl,rfl⟩
 by_cases c3:1<deep∧wy=3
 ·refine⟨_,rfl,_,_,rfl,rfl,_,rfl,zaq (decide_eq_true (by lia)) ⟨_,rfl,rfl,_,rfl,zaq (decide_eq_true (by rw[c3.2];rfl)) ?_⟩⟩
  refine⟨_,rfl,_,rfl,_,rfl,_,rfl,_,_,rfl,rfl,l,lanes,most,deep-1,(by show [V.ref l,V.int ((lanes:Nat):Int),V.int ((most:Nat):Int),V.int (((deep:Nat):Int)-1)]=_;rw[e2]),l1,l16,m128,by lia,by lia,S2,fun v p H3 fp ap S3 B3=>?_⟩
  refine⟨_,rfl,_,rfl,l,lanes,rfl,l16,S3,fun nn ns H4 pe hnn S4 B4=>?_⟩
  refine⟨(by show 3≤sizeLine;decide),fun t ht=>?_⟩
  have st:=zaa ht (.tup [.str "renamed",v,.ref nn])
  obtain⟨p1,p2,p3,p4⟩:=fp
  exact k _ (.ren p ns) _ ⟨⟨p1,by rw[p2];exact pe⟩,p2,p3,(by show p.hi+1≤deep;lia)⟩ ⟨t,v,nn,rfl,atNew ht _,st _ _ hnn,(ap.tups (B4.tups S3)).tups (Tups.of st)⟩ (S4.keep st) (((B2.trans B3).trans B4).trans (But.of st))
 refine zbm (fun σ H'=>σ=[some (.ref l),some (.int lanes),some (.int most),some (.int deep),some (.int wy),some (powV lanes),none,none,none,none]∧H2=H') ?_ ?_
 rotate_left
 ·intro D1 hD
  by_cases c:1<deep
  ·exact⟨_,rfl,_,_,rfl,rfl,_,rfl,zaq (decide_eq_true (by lia)) ⟨_,rfl,rfl,_,rfl,iteFc (decide_eq_false (fun z=>c3 ⟨c,by injection z with z;lia⟩)) (nxt (hD _ _ ⟨rfl,rfl⟩))⟩⟩
  ·exact⟨_,rfl,_,_,rfl,rfl,_,rfl,iteFc (decide_eq_false (by lia)) (iteFc rfl (nxt (hD _ _ ⟨rfl,rfl⟩)))⟩
 rintro σ H' ⟨rfl,rfl⟩
 have po:=zjL lanes l1 l16
 have restK:∀ {Q':V→Hp→Prop},Q' (.int (((most:Nat):Int)-((lanes*pwr lanes / 2:Nat):Int))) H2→(tOp (rI0 fun i j=>V.int (i-j)) (tVar 2) (tOp (rI CDiv fun i j=>V.int (i / j)) (tOp (rI CMul fun i j=>V.int (i*j)) (tVar 1) (tOrT K (tVar 5) (tC (.int 0)))) (tC (.int 2)))) [some (.ref l),some (.int lanes),some (.int most),some (.int deep),some (.int wy),some (powV lanes),none,none,none,none] H2 Q':=fun {Q'} q=>by
  have ed:((lanes:Nat):Int)*((pwr lanes:Nat):Int) / 2=((lanes*pwr lanes / 2:Nat):Int):=by rw[Int.natCast_ediv,Int.natCast_mul];rfl
  rw[← ed]at q
  rcases po with ⟨e,ep⟩|⟨j,j5,e,el,ep⟩
  ·rw[ep]at q
   rw[e]
   exact⟨_,rfl,_,rfl,_,rfl,false,rfl,iteFc rfl ⟨_,_,rfl,rfl,.inl ⟨by lia,by lia⟩,_,_,rfl,rfl,⟨by decide,by decide⟩,_,_,rfl,rfl,q⟩⟩
  ·rw[ep]at q
   rw[e]
   cases j with
   | zero=>exact⟨_,rfl,_,rfl,_,rfl,false,rfl,iteFc rfl ⟨_,_,rfl,rfl,.inl ⟨by lia,by lia⟩,_,_,rfl,rfl,⟨by decide,by decide⟩,_,_,rfl,rfl,q⟩⟩
   | succ i=>exact⟨_,rfl,_,rfl,_,rfl,true,(by show true=((((i+1:Nat):Int)) != 0);simp;lia),zaq rfl ⟨_,_,rfl,rfl,.inl ⟨by lia,by lia⟩,_,_,rfl,rfl,⟨by decide,by decide⟩,_,_,rfl,rfl,q⟩⟩
 refine restK ?_
 refine gset ?_
 dsimp only
 have pf:zb5 (powV lanes)=true:=by
  rcases po with ⟨e,_⟩|⟨j,_,e,_⟩<;>rw[e]<;>rfl
 have pin:inV (powV lanes) [.non,.int 0]=decide (pwr lanes=0):=by
  rcases po with ⟨e,ep⟩|⟨j,_,e,_,ep⟩
  ·rw[e,ep];rfl
  ·rw[e,ep]
   show (eqV .non (.int ((j:Nat):Int)) || (((0:Int) == ((j:Nat):Int)) || false))=_
   cases j with
   | zero=>rfl
   | succ j =>
    have:((0:Int) == ((j+1:Nat):Int))=false:=by simp;lia
    rw[this];rfl
 have pw2:0<pwr lanes→lanes / 2∈([1,2,4,8]:List Nat)∧lanes=2*(lanes / 2)∧lanes*pwr lanes / 2=lanes / 2*pwr (2*(lanes / 2)):=fun h=>by
  have:∀ m,m<17→0<pwr m→m / 2∈([1,2,4,8]:List Nat)∧m=2*(m / 2)∧m*pwr m / 2=m / 2*pwr (2*(m / 2)):=by decide
  exact this lanes (by lia) h
 have e3:lanes*pwr lanes / 2≤most→((lanes:Nat):Int) / 2=((lanes / 2:Nat):Int):=fun _=>by lia
 have e6:lanes*pwr lanes / 2≤most→(((most:Nat):Int)-((lanes*pwr lanes / 2:Nat):Int)) / 2=(((most-lanes*pwr lanes / 2) / 2:Nat):Int):=fun h=>by lia
 have e7:2<deep→((deep:Nat):Int)-2=((deep-2:Nat):Int):=fun _=>by lia
 by_cases c4:1<deep∧wy=4∧0<pwr lanes∧lanes*pwr lanes / 2≤most
 ·obtain⟨d2,w4,wp,wl⟩:=c4
  obtain⟨g1,g2,g3⟩:=pw2 wp
  refine⟨_,rfl,_,_,rfl,rfl,_,rfl,zaq (decide_eq_true (by lia)) ⟨_,rfl,rfl,_,rfl,zaq (decide_eq_true (by rw[w4];rfl)) ⟨_,rfl,(by show 2≤sizeLine;decide),fun tt htt=>⟨tt,_,rfl,.inr (SqT.of (atNew htt _)),pf,rfl,_,rfl,zaq (by rw[pin,decide_eq_false (by lia)];rfl) ⟨_,rfl,_,_,rfl,rfl,_,rfl,zaq (decide_eq_true (by lia)) ?_⟩⟩⟩⟩⟩
  have st:=zaa htt (.tup [.non,.int 0])
  refine⟨_,rfl,_,rfl,_,_,rfl,rfl,⟨by decide,by decide⟩,_,rfl,_,_,rfl,rfl,⟨by decide,by decide⟩,_,rfl,_,_,rfl,rfl,l,lanes / 2,(most-lanes*pwr lanes / 2) / 2,deep-1,(by show [V.ref l,V.int (((lanes:Nat):Int) / 2),V.int ((((most:Nat):Int)-((lanes*pwr lanes / 2:Nat):Int)) / 2),V.int (((deep:Nat):Int)-1)]=_;rw[e3 wl,e6 wl,e2]),by lia,by lia,by lia,by lia,by lia,S2.keep st,fun v p H3 fp ap S3 B3=>?_⟩
  refine⟨(by show 2≤sizeLine;decide),fun t ht=>?_⟩
  have sv:=zaa ht (.tup [.str "doubled",v])
  obtain⟨p1,p2,p3,p4⟩:=fp
  exact k _ (.dbl p) _ ⟨⟨p1,by rw[p2];exact g1,by rw[p2,← g3];lia⟩,(by show 2*p.lanes=lanes;lia),(by show 2*p.many+p.lanes*pwr (2*p.lanes)≤most;rw[p2,← g3];lia),(by show p.hi+1≤deep;lia)⟩ ⟨t,v,rfl,atNew ht _,ap.tups (Tups.of sv)⟩ (S3.keep sv) (((B2.trans (But.of st)).trans B3).trans (But.of sv))
 refine zbm (fun σ H'=>σ=[some (.ref l),some (.int lanes),some (.int most),some (.int deep),some (.int wy),some (powV lanes),none,none,some (.int (((most:Nat):Int)-((lanes*pwr lanes / 2:Nat):Int))),none]∧Same H2 H') ?_ ?_
 rotate_left
 ·intro D1 hD
  by_cases c:1<deep
  ·refine⟨_,rfl,_,_,rfl,rfl,_,rfl,zaq (decide_eq_true (by lia)) ⟨_,rfl,rfl,_,rfl,?_⟩⟩
   by_cases c':wy=4
   ·refine zaq (decide_eq_true (by rw[c'];rfl)) ⟨_,rfl,(by show 2≤sizeLine;decide),fun tt htt=>⟨tt,_,rfl,.inr (SqT.of (atNew htt _)),pf,rfl,_,rfl,?_⟩⟩
    have st:=zaa htt (.tup [.non,.int 0])
    rw[if_pos rfl,pin]
    by_cases c'':pwr lanes=0
    ·exact iteFc (by rw[decide_eq_true c''];rfl) (iteFc rfl (nxt (hD _ _ ⟨rfl,st⟩)))
    ·exact zaq (by rw[decide_eq_false c''];rfl) ⟨_,rfl,_,_,rfl,rfl,_,rfl,iteFc (decide_eq_false (by lia)) (nxt (hD _ _ ⟨rfl,st⟩))⟩
   ·exact iteFc (decide_eq_false (fun z=>c' (by injection z with z;lia))) (iteFc rfl (nxt (hD _ _ ⟨rfl,Same.refl _⟩)))
  ·exact⟨_,rfl,_,_,rfl,rfl,_,rfl,iteFc (decide_eq_false (by lia)) (iteFc rfl (nxt (hD _ _ ⟨rfl,Same.refl _⟩)))⟩
 rintro σ H3 ⟨rfl,s3⟩
 have S3:=S2.keep s3
 have B3:=B2.trans (But.of s3)
 by_cases c5:2<deep∧wy=5∧0<pwr lanes∧lanes*pwr lanes / 2≤most
 ·obtain⟨d2,w4,wp,wl⟩:=c5
  obtain⟨g1,g2,g3⟩:=pw2 wp
  refine⟨_,rfl,_,_,rfl,rfl,_,rfl,zaq (decide_eq_true (by lia)) ⟨_,rfl,rfl,_,rfl,zaq (decide_eq_true (by rw[w4];rfl)) ⟨_,rfl,(by show 2≤sizeLine;decide),fun tt htt=>⟨tt,_,rfl,.inr (SqT.of (atNew htt _)),pf,rfl,_,rfl,zaq (by rw[pin,decide_eq_false (by lia)];rfl) ⟨_,rfl,_,_,rfl,rfl,_,rfl,zaq (decide_eq_true (by lia)) ?_⟩⟩⟩⟩⟩
  have st:=zaa htt (.tup [.non,.int 0])
  refine⟨_,rfl,_,rfl,_,_,rfl,rfl,⟨by decide,by decide⟩,_,rfl,_,_,rfl,rfl,⟨by decide,by decide⟩,_,rfl,_,_,rfl,rfl,l,lanes / 2,(most-lanes*pwr lanes / 2) / 2,deep-2,(by show [V.ref l,V.int (((lanes:Nat):Int) / 2),V.int ((((most:Nat):Int)-((lanes*pwr lanes / 2:Nat):Int)) / 2),V.int (((deep:Nat):Int)-2)]=_;rw[e3 wl,e6 wl,e7 d2]),by lia,by lia,by lia,by lia,by lia,S3.keep st,fun v p H4 fp ap S4 B4=>?_⟩
  refine⟨_,rfl,_,rfl,_,rfl,_,_,rfl,rfl,⟨by decide,by decide⟩,_,rfl,_,_,rfl,rfl,⟨by decide,by decide⟩,_,rfl,_,_,rfl,rfl,l,lanes / 2,(most-lanes*pwr lanes / 2) / 2,deep-2,(by show [V.ref l,V.int (((lanes:Nat):Int) / 2),V.int ((((most:Nat):Int)-((lanes*pwr lanes / 2:Nat):Int)) / 2),V.int (((deep:Nat):Int)-2)]=_;rw[e3 wl,e6 wl,e7 d2]),by lia,by lia,by lia,by lia,by lia,S4,fun x q H5 fq aq S5 B5=>?_⟩
  refine⟨(by show 3≤sizeLine;decide),fun t ht=>?_⟩
  have sv:=zaa ht (.tup [.str "beside",v,x])
  rcases po with ⟨e,ep⟩|⟨j,j5,e,el,ep⟩
  ·lia
  rw[e]
  refine⟨_,rfl,_,rfl,(by show 2≤sizeLine;decide),fun t2 ht2=>?_⟩
  have sm:=zaa ht2 (.tup [.str "merger",.int (j:Nat)])
  refine⟨(by show 3≤sizeLine;decide),fun t3 ht3=>?_⟩
  have sw:=zaa ht3 (.tup [.str "behind",.ref t,.ref t2])
  obtain⟨p1,p2,p3,p4⟩:=fp
  obtain⟨q1,q2,q3,q4⟩:=fq
  have wm:wayM 2 j=lanes*pwr lanes / 2:=by rw[ep,el];rfl
  have u:=(sv.trans sm).trans sw
  refine k _ (.beh (.bes p q) (.way 2 j)) _ ⟨⟨⟨p1,q1,by lia,by lia⟩,⟨by decide,j5,fun _=>by lia⟩,?_,?_⟩,?_,?_,?_⟩ ⟨t3,.ref t,.ref t2,rfl,atNew ht3 _,⟨t,v,x,rfl,sw _ _ (sm _ _ (atNew ht _)),(ap.tups (B5.tups S4)).tups (Tups.of u),aq.tups (Tups.of u)⟩,⟨t2,rfl,sw _ _ (atNew ht2 _)⟩⟩ (S5.keep u) ((((B3.trans (But.of st)).trans B4).trans B5).trans (But.of u))
  ·show 2 ^ j=p.lanes+q.lanes
   lia
  ·show p.many+q.many+wayM 2 j≤128
   lia
  ·show p.lanes+q.lanes=lanes
   lia
  ·show p.many+q.many+wayM 2 j≤most
   lia
  ·show max (max p.hi q.hi+1) 1+1≤deep
   lia
 refine zbm (fun σ H'=>σ=[some (.ref l),some (.int lanes),some (.int most),some (.int deep),some (.int wy),some (powV lanes),none,none,some (.int (((most:Nat):Int)-((lanes*pwr lanes / 2:Nat):Int))),none]∧Same H3 H') ?_ ?_
 rotate_left
 ·intro D1 hD
  by_cases c:2<deep
  ·refine⟨_,rfl,_,_,rfl,rfl,_,rfl,zaq (decide_eq_true (by lia)) ⟨_,rfl,rfl,_,rfl,?_⟩⟩
   by_cases c':wy=5
   ·refine zaq (decide_eq_true (by rw[c'];rfl)) ⟨_,rfl,(by show 2≤sizeLine;decide),fun tt htt=>⟨tt,_,rfl,.inr (SqT.of (atNew htt _)),pf,rfl,_,rfl,?_⟩⟩
    have st:=zaa htt (.tup [.non,.int 0])
    rw[if_pos rfl,pin]
    by_cases c'':pwr lanes=0
    ·exact iteFc (by rw[decide_eq_true c''];rfl) (iteFc rfl (nxt (hD _ _ ⟨rfl,st⟩)))
    ·exact zaq (by rw[decide_eq_false c''];rfl) ⟨_,rfl,_,_,rfl,rfl,_,rfl,iteFc (decide_eq_false (by lia)) (nxt (hD _ _ ⟨rfl,st⟩))⟩
   ·exact iteFc (decide_eq_false (fun z=>c' (by injection z with z;lia))) (iteFc rfl (nxt (hD _ _ ⟨rfl,Same.refl _⟩)))
  ·exact⟨_,rfl,_,_,rfl,rfl,_,rfl,iteFc (decide_eq_false (by lia)) (iteFc rfl (nxt (hD _ _ ⟨rfl,Same.refl _⟩)))⟩
 rintro σ H4 ⟨rfl,s4⟩
 refine⟨_,rfl,_,rfl,_,rfl,l,lanes,most,rfl,l1,l16,m128,S3.keep s4,fun v p H5 fp ap S5 B5=>?_⟩
 obtain⟨p1,p2,p3,p4⟩:=fp
 exact k v p H5 ⟨p1,p2,p3,by lia⟩ ap S5 ((B3.trans (But.of s4)).trans B5)
theorem zgH {f fK fW fM fF:Addr}{fd dK dW dM dF:FuncData}(F:Fun K "_law_plan" "_law_plan" zhC f fd) (G:Mgs mg) (bS:Binds K fd ["_law_left_here","_law_lanes","_law_most","_law_deep"] []) (mS:mg "_law_plan" = some (.ref f)) (UK:Use P w K mg base "_law_pick" ["_law_left_here","_law_many"] 1 zcl fK dK) (UW:Use P w K mg base "_law_power" ["_law_lanes"] 1 zcz fW dW) (UM:Use P w K mg base "_law_names" ["_law_left_here","_law_lanes"] 2 zcA fM dM) (UF:Use P w K mg base "_law_leaf" ["_law_left_here","_law_lanes","_law_most"] 4 ze7 fF dF):∀ n:Nat,FnOk P w K mg base CX0 (4+n) f fd ["_law_left_here","_law_lanes","_law_most","_law_deep"] (zd6 n)
 | 0=>⟨fun vs H Q E ⟨_,_,_,_,_,_,_,_,h1,h2,_⟩=>absurd h1 (by lia),fun A outer s H args us vs Q E _ _ _ _ ⟨_,_,_,_,_,_,_,_,h1,h2,_⟩=>absurd h1 (by lia)⟩
 | n+1=>zhQ n F G UK UW UM UF ⟨zgH F G bS mS UK UW UM UF n,bS,F.kp,mS⟩
theorem scAp:FnScope ["_law_left_here","_law_lanes"] ["_law_left_here"] (zaf zdH):=⟨rfl,rfl,rfl,by decide +kernel,rfl,by decide +kernel,by decide +kernel⟩
theorem zfK {f fK fP:Addr}{fd dK dP:FuncData}(F:Fun K "_law_any_plan" "_law_any_plan" zdH f fd) (UK:Use P w K mg base "_law_pick" ["_law_left_here","_law_many"] 1 zcl fK dK) (UP:Use P w K mg base "_law_plan" ["_law_left_here","_law_lanes","_law_most","_law_deep"] 12 (zd6 8) fP dP):FnOk P w K mg base CX0 13 f fd ["_law_left_here"] zcD:=by
 refine F.ok scAp (fun vs H Q E h=>?_) (fun cdv A outer s H vs Q E hr h=>?_)
 ·obtain⟨l,rfl,_⟩:=h
  rfl
 obtain⟨l,rfl,S,k⟩:=h
 have hr1:Room 1 _:=hr.mono (by lia)
 refine⟨_,(@pss_cons _ _ _ _ _ (@zak _ _ 1 _ _ _ _ scAp.nd rfl (.inl rfl) (@pe_ix _ _ _ _ _ _ _ ix_list (@zay _ _ _ _ (@pa_cons _ _ _ _ _ pe_int (@pa_cons _ _ _ _ _ pe_int (@pa_cons _ _ _ _ _ pe_int (@pa_cons _ _ _ _ _ pe_int (@pa_cons _ _ _ _ _ pe_int (@pa_cons _ _ _ _ _ pe_int (@pa_cons _ _ _ _ _ pe_int (@pa_cons _ _ _ _ _ (@pe_op _ _ _ _ _ _ _ _ op_add pe_int (@pe_call _ _ _ _ _ _ _ _ _ _ _ _ _ _ _ _ UK.ok hr1 (by rfl) UK.m UK.kp UK.b .nil pass0 (@pa_cons _ _ _ _ _ (@pv _ 0 _ _ (by rfl) (by first|exact Or.inl rfl|exact Or.inr (.inl rfl)|exact Or.inr (.inr rfl)) (by decide) (by decide)) (@pa_cons _ _ _ _ _ pe_int pa_nil (by rfl)) (by rfl)) (by decide) (by rfl) (by rfl))) pa_nil (by rfl)) (by rfl)) (by rfl)) (by rfl)) (by rfl)) (by rfl)) (by rfl)) (by rfl))) (@pe_call _ _ _ _ _ _ _ _ _ _ _ _ _ _ _ _ UK.ok hr1 (by rfl) UK.m UK.kp UK.b .nil pass0 (@pa_cons _ _ _ _ _ (@pv _ 0 _ _ (by rfl) (by first|exact Or.inl rfl|exact Or.inr (.inl rfl)|exact Or.inr (.inr rfl)) (by decide) (by decide)) (@pa_cons _ _ _ _ _ pe_int pa_nil (by rfl)) (by rfl)) (by decide) (by rfl) (by rfl)) (fun _ _=>rfl)) (by rfl) (by first|exact .inl rfl|exact .inr rfl|assumption)) (@pss_one _ _ _ (@ps_ret _ _ _ _ (@pe_call _ _ _ _ _ _ _ _ _ _ _ _ _ _ _ _ UP.ok hr (by rfl) UP.m UP.kp UP.b .nil pass0 (@pa_cons _ _ _ _ _ (@pv _ 0 _ _ (by rfl) (by first|exact Or.inl rfl|exact Or.inr (.inl rfl)|exact Or.inr (.inr rfl)) (by decide) (by decide)) (@pa_cons _ _ _ _ _ (@pv _ 1 _ _ (by rfl) (by first|exact Or.inl rfl|exact Or.inr (.inl rfl)|exact Or.inr (.inr rfl)) (by decide) (by decide)) (@pa_cons _ _ _ _ _ pe_int (@pa_cons _ _ _ _ _ (@pe_ix _ _ _ _ _ _ _ ix_list (@zay _ _ _ _ (@pa_cons _ _ _ _ _ pe_int (@pa_cons _ _ _ _ _ pe_int (@pa_cons _ _ _ _ _ pe_int (@pa_cons _ _ _ _ _ pe_int (@pa_cons _ _ _ _ _ pe_int (@pa_cons _ _ _ _ _ pe_int pa_nil (by rfl)) (by rfl)) (by rfl)) (by rfl)) (by rfl)) (by rfl))) (@pe_call _ _ _ _ _ _ _ _ _ _ _ _ _ _ _ _ UK.ok hr1 (by rfl) UK.m UK.kp UK.b .nil pass0 (@pa_cons _ _ _ _ _ (@pv _ 0 _ _ (by rfl) (by first|exact Or.inl rfl|exact Or.inr (.inl rfl)|exact Or.inr (.inr rfl)) (by decide) (by decide)) (@pa_cons _ _ _ _ _ pe_int pa_nil (by rfl)) (by rfl)) (by decide) (by rfl) (by rfl)) (fun _ _=>rfl)) pa_nil (by rfl)) (by rfl)) (by rfl)) (by rfl)) (by decide) (by rfl) (by rfl))))),?_⟩
 refine⟨_,rfl,l,16,rfl,by decide,by decide,S,fun a H1 ha S1 B1=>⟨_,_,rfl,rfl,(by show 8≤sizeLine;decide),fun lx hlx=>?_⟩⟩
 have sx:=zaa hlx (.lst [.int 1,.int 2,.int 4,.int 8,.int 16,.int 4,.int 3,.int ((1:Int)+((a:Nat):Int))])
 have ax:=atNew hlx (.lst [.int 1,.int 2,.int 4,.int 8,.int 16,.int 4,.int 3,.int ((1:Int)+((a:Nat):Int))])
 have nlx:=S1.ne hlx
 refine⟨_,rfl,l,8,rfl,by decide,by decide,S1.keep sx,fun b H2 hb S2 B2=>?_⟩
 obtain⟨lanes,fmem,hat2⟩:=zdJ (xs:=[1,2,4,8,16,4,3,1+a]) (v:=b) (by show b<8;lia)
 have fb:1≤lanes∧lanes≤16:=by
  simp only[List.mem_cons,List.mem_nil_iff,or_false]at fmem
  lia
 have hat3:atI ([.int 1,.int 2,.int 4,.int 8,.int 16,.int 4,.int 3,.int ((1:Int)+((a:Nat):Int))]:List V) ((b:Nat):Int)=some (.int lanes):=by
  rw[show (1:Int)+((a:Nat):Int)=((1+a:Nat):Int) from by lia];exact hat2
 refine⟨lx,_,_,_,rfl,rfl,SqL.of (B2 lx _ ax nlx.symm),hat3,?_⟩
 refine⟨_,rfl,_,rfl,(by show 6≤sizeLine;decide),fun ly hly=>?_⟩
 have sy:=zaa hly (.lst [.int 1,.int 2,.int 3,.int 4,.int 3,.int 8])
 have ay:=atNew hly (.lst [.int 1,.int 2,.int 3,.int 4,.int 3,.int 8])
 have nly:=S2.ne hly
 refine⟨_,rfl,l,6,rfl,by decide,by decide,S2.keep sy,fun c H3 hc S3 B3=>?_⟩
 obtain⟨deep,dmem,hat4⟩:=zdJ (xs:=[1,2,3,4,3,8]) (v:=c) (by show c<6;lia)
 have db:1≤deep∧deep≤8:=by
  simp only[List.mem_cons,List.mem_nil_iff,or_false]at dmem
  lia
 refine⟨ly,_,_,_,rfl,rfl,SqL.of (B3 ly _ ay nly.symm),hat4,?_⟩
 refine⟨l,lanes,128,deep,rfl,fb.1,fb.2,by decide,db.1,db.2,S3,fun v p H4 fp ap S4 B4=>?_⟩
 obtain⟨p1,p2,p3,p4⟩:=fp
 exact k v p H4 p1 (by lia) ap S4 (((((B1.trans (But.of sx)).trans B2).trans (But.of sy)).trans B3).trans B4)
end
abbrev zcF:Stmt:=top 34
theorem zcu (row:List Nat) (i:Nat) (h:i<row.length):(nums row)[i]?=some (.int ((row.getD i 0:Nat):Int)):=by
 unfold nums
 rw[List.getElem?_map,List.getElem?_eq_getElem h,List.getD_eq_getElem?_getD,List.getElem?_eq_getElem h];rfl
section
variable {P:Program}{w:World}{K:PySem.W.Frag}{mg:Str→Option Value}{base:Heap}
theorem scMm:FnScope ["_law_one","_law_other","_law_first","_law_begins","_law_second","_law_further","_law_pairs","_law_ends","_law_pair"] ["_law_one","_law_other"] (zaf zcF):=⟨rfl,rfl,rfl,by decide +kernel,rfl,by decide +kernel,by decide +kernel⟩
theorem zde {f:Addr}{fd:FuncData}(F:Fun K "_law_merged" "_law_merged" zcF f fd) (G:Mgs mg) (bS:Binds K fd ["_law_one","_law_other"] []) (mS:mg "_law_merged" = some (.ref f)) (n:Nat)
  (GS:FnOk P w K mg base CX0 n f fd ["_law_one","_law_other"] (fun vs H Q E=>∃ m,n=m+1∧zaE m vs H Q E)):FnOk P w K mg base CX0 (n+1) f fd ["_law_one","_law_other"] (zaE n):=by
 have UT:Use P w K mg base "_law_merged" ["_law_one","_law_other"] n (fun vs H Q E=>∃ m,n=m+1∧zaE m vs H Q E) f fd:=⟨GS,bS,F.kp,mS⟩
 refine F.ok scMm (fun vs H Q E h=>?_) (fun cdv A outer s H vs Q E hr h=>?_)
 ·obtain⟨p1,p2,a,b,rfl,_⟩:=h
  rfl
 obtain⟨p1,p2,a,b,rfl,h1,h2,al,bl,n20,k⟩:=h
 refine⟨_,(@pss_cons _ _ _ _ _ (@zau _ _ _ _ _ _ _ _ (@pt_cmpR _ _ _ _ _ _ _ _ zaS (@zaj _ _ _ _ _ _ _ _ _ zai (by rfl) G.len PySem.boot_len (@pa_cons _ _ _ _ _ (@pv _ 0 _ _ (by rfl) (by first|exact Or.inl rfl|exact Or.inr (.inl rfl)|exact Or.inr (.inr rfl)) (by decide) (by decide)) pa_nil (by rfl)) (by decide) (by decide) (by rfl) (by rfl)) pe_int (nomark _)) (@pss_one _ _ _ (@ps_ret _ _ _ _ (@pe_tup _ _ _ _ _ (@pa_cons _ _ _ _ _ (@zay _ _ _ _ (@pa_cons _ _ _ _ _ (@pe_tup _ _ _ _ _ (@pa_cons _ _ _ _ _ (@pe_ix _ _ _ _ _ _ _ ix_list (@pv _ 0 _ _ (by rfl) (by first|exact Or.inl rfl|exact Or.inr (.inl rfl)|exact Or.inr (.inr rfl)) (by decide) (by decide)) pe_int (fun _ _=>rfl)) (@pa_cons _ _ _ _ _ (@pe_ix _ _ _ _ _ _ _ ix_list (@pv _ 1 _ _ (by rfl) (by first|exact Or.inl rfl|exact Or.inr (.inl rfl)|exact Or.inr (.inr rfl)) (by decide) (by decide)) pe_int (fun _ _=>rfl)) pa_nil (by rfl)) (by rfl))) pa_nil (by rfl))) (@pa_cons _ _ _ _ _ (@zay _ _ _ _ (@pa_cons _ _ _ _ _ (@pe_ix _ _ _ _ _ _ _ ix_list (@pv _ 0 _ _ (by rfl) (by first|exact Or.inl rfl|exact Or.inr (.inl rfl)|exact Or.inr (.inr rfl)) (by decide) (by decide)) pe_int (fun _ _=>rfl)) (@pa_cons _ _ _ _ _ (@pe_ix _ _ _ _ _ _ _ ix_list (@pv _ 1 _ _ (by rfl) (by first|exact Or.inl rfl|exact Or.inr (.inl rfl)|exact Or.inr (.inr rfl)) (by decide) (by decide)) pe_int (fun _ _=>rfl)) pa_nil (by rfl)) (by rfl))) pa_nil (by rfl)) (by rfl))))) pss_nil) (@pss_cons _ _ _ _ _ (@ps_asg _ _ _ _ _ _ (@pe_call _ _ _ _ _ _ _ _ _ _ _ _ _ _ _ _ UT.ok hr (by rfl) UT.m UT.kp UT.b .nil pass0 (@pa_cons _ _ _ _ _ (@zcp _ _ _ _ _ _ _ _ _ (@pv _ 0 _ _ (by rfl) (by first|exact Or.inl rfl|exact Or.inr (.inl rfl)|exact Or.inr (.inr rfl)) (by decide) (by decide)) po_none (@po_some _ _ _ pe_int)) (@pa_cons _ _ _ _ _ (@zcp _ _ _ _ _ _ _ _ _ (@pv _ 1 _ _ (by rfl) (by first|exact Or.inl rfl|exact Or.inr (.inl rfl)|exact Or.inr (.inr rfl)) (by decide) (by decide)) (@po_some _ _ _ pe_int) (@po_some _ _ _ pe_int)) pa_nil (by rfl)) (by rfl)) (by decide) (by rfl) (by rfl)) (@zao _ _ _ _ _ _ rfl (@pgs_cons _ _ _ _ _ (@zab _ _ 2 _ scMm.nd rfl (.inl rfl) (by first|exact .inl rfl|exact .inr rfl|assumption)) (@pgs_cons _ _ _ _ _ (@zab _ _ 3 _ scMm.nd rfl (.inl rfl) (by first|exact .inl rfl|exact .inr rfl|assumption)) pgs_nil (by rfl)) (by rfl)) (by rfl) (by rfl)) (by rfl) (by rfl) (by rfl)) (@pss_cons _ _ _ _ _ (@ps_asg _ _ _ _ _ _ (@pe_call _ _ _ _ _ _ _ _ _ _ _ _ _ _ _ _ UT.ok hr (by rfl) UT.m UT.kp UT.b .nil pass0 (@pa_cons _ _ _ _ _ (@zcp _ _ _ _ _ _ _ _ _ (@pv _ 0 _ _ (by rfl) (by first|exact Or.inl rfl|exact Or.inr (.inl rfl)|exact Or.inr (.inr rfl)) (by decide) (by decide)) (@po_some _ _ _ pe_int) (@po_some _ _ _ pe_int)) (@pa_cons _ _ _ _ _ (@zcp _ _ _ _ _ _ _ _ _ (@pv _ 1 _ _ (by rfl) (by first|exact Or.inl rfl|exact Or.inr (.inl rfl)|exact Or.inr (.inr rfl)) (by decide) (by decide)) po_none (@po_some _ _ _ pe_int)) pa_nil (by rfl)) (by rfl)) (by decide) (by rfl) (by rfl)) (@zao _ _ _ _ _ _ rfl (@pgs_cons _ _ _ _ _ (@zab _ _ 4 _ scMm.nd rfl (.inl rfl) (by first|exact .inl rfl|exact .inr rfl|assumption)) (@pgs_cons _ _ _ _ _ (@zab _ _ 5 _ scMm.nd rfl (.inl rfl) (by first|exact .inl rfl|exact .inr rfl|assumption)) pgs_nil (by rfl)) (by rfl)) (by rfl) (by rfl)) (by rfl) (by rfl) (by rfl)) (@pss_cons _ _ _ _ _ (@zak _ _ 6 _ _ _ _ scMm.nd rfl (.inl rfl) (@zbZ _ _ _ _ _ _ _ _ true true (by rfl) G.list (by rfl) G.zip rfl (@pa_cons _ _ _ _ _ (@pv _ 3 _ _ (by rfl) (by first|exact Or.inl rfl|exact Or.inr (.inl rfl)|exact Or.inr (.inr rfl)) (by decide) (by decide)) (@pa_cons _ _ _ _ _ (@pv _ 5 _ _ (by rfl) (by first|exact Or.inl rfl|exact Or.inr (.inl rfl)|exact Or.inr (.inr rfl)) (by decide) (by decide)) pa_nil (by rfl)) (by rfl)) (by rfl) (by rfl) (by rfl)) (by rfl) (by first|exact .inl rfl|exact .inr rfl|assumption)) (@pss_cons _ _ _ _ _ (@zak _ _ 7 _ _ _ _ scMm.nd rfl (.inl rfl) (@zay _ _ _ _ pa_nil) (by rfl) (by first|exact .inl rfl|exact .inr rfl|assumption)) (@pss_cons _ _ _ _ _ (@zcG _ _ _ _ _ _ _ _ PassesOwn.never rfl (@zeN _ _ _ _ (@pv _ 6 _ _ (by rfl) (by first|exact Or.inl rfl|exact Or.inr (.inl rfl)|exact Or.inr (.inr rfl)) (by decide) (by decide))) (@zab _ _ 8 _ scMm.nd rfl (.inl rfl) (by first|exact .inl rfl|exact .inr rfl|assumption)) (@pss_one _ _ _ (@zak _ _ 7 _ _ _ _ scMm.nd rfl (.inl rfl) (@pe_op _ _ _ _ _ _ _ _ op_cat (@pv _ 7 _ _ (by rfl) (by first|exact Or.inl rfl|exact Or.inr (.inl rfl)|exact Or.inr (.inr rfl)) (by decide) (by decide)) (@pe_callTy _ _ _ _ _ _ _ _ _ zbt (by rfl) G.list (by rfl) (@pa_cons _ _ _ _ _ (@pv _ 8 _ _ (by rfl) (by first|exact Or.inl rfl|exact Or.inr (.inl rfl)|exact Or.inr (.inr rfl)) (by decide) (by decide)) pa_nil (by rfl)) (by decide) (by decide) (by rfl) (by rfl))) (by rfl) (by first|exact .inl rfl|exact .inr rfl|assumption))) (by intro _;rfl)) (@pss_one _ _ _ (@ps_ret _ _ _ _ (@pe_tup _ _ _ _ _ (@pa_cons _ _ _ _ _ (@pe_op _ _ _ _ _ _ _ _ op_cat (@pe_op _ _ _ _ _ _ _ _ op_cat (@pv _ 2 _ _ (by rfl) (by first|exact Or.inl rfl|exact Or.inr (.inl rfl)|exact Or.inr (.inr rfl)) (by decide) (by decide)) (@pv _ 4 _ _ (by rfl) (by first|exact Or.inl rfl|exact Or.inr (.inl rfl)|exact Or.inr (.inr rfl)) (by decide) (by decide))) (@pv _ 6 _ _ (by rfl) (by first|exact Or.inl rfl|exact Or.inr (.inl rfl)|exact Or.inr (.inr rfl)) (by decide) (by decide))) (@pa_cons _ _ _ _ _ (@pv _ 7 _ _ (by rfl) (by first|exact Or.inl rfl|exact Or.inr (.inl rfl)|exact Or.inr (.inr rfl)) (by decide) (by decide)) pa_nil (by rfl)) (by rfl))))))))))),?_⟩
 have na:=zae a
 have nb:=zae b
 have p8:2 ^ n≤2 ^ 8:=Nat.pow_le_pow_right (by decide) n20
 have e8:2 ^ 8=256:=rfl
 refine⟨_,rfl,p1,_,rfl,.inl (SqL.of h1),rfl,_,rfl,?_⟩
 cases n with
 | zero =>
  have al1:a.length=1:=al
  have bl1:b.length=1:=bl
  rw[decide_eq_true (show V.int (((nums a).length:Nat):Int)=V.int 1 by rw[na,al1];rfl)]
  refine iteT ⟨_,rfl,p1,_,0,_,rfl,rfl,SqL.of h1,zaX (j:=0) (zcu a 0 (by lia)),?_⟩
  refine⟨_,rfl,p2,_,0,_,rfl,rfl,SqL.of h2,zaX (j:=0) (zcu b 0 (by lia)),(by show 2≤sizeLine;decide),fun t ht=>?_⟩
  have s1:=zaa ht (.tup [.int ((a.getD 0 0:Nat):Int),.int ((b.getD 0 0:Nat):Int)])
  refine⟨(by show 1≤sizeLine;decide),fun l2 hl2=>?_⟩
  have s2:=zaa hl2 (.lst [.ref t])
  have u2:=s1.trans s2
  refine⟨_,rfl,p1,_,0,_,rfl,rfl,SqL.of (u2 _ _ h1),zaX (j:=0) (zcu a 0 (by lia)),?_⟩
  refine⟨_,rfl,p2,_,0,_,rfl,rfl,SqL.of (u2 _ _ h2),zaX (j:=0) (zcu b 0 (by lia)),(by show 2≤sizeLine;decide),fun l3 hl3=>?_⟩
  have s3:=zaa hl3 (.lst [.int ((a.getD 0 0:Nat):Int),.int ((b.getD 0 0:Nat):Int)])
  refine⟨(by show 2≤sizeLine;decide),fun c hc=>?_⟩
  have s4:=zaa hc (.tup [.ref l2,.ref l3])
  have ea:a=[a.getD 0 0]:=by
   match a,al1 with
   | [x],_=>rfl
  have eb:b=[b.getD 0 0]:=by
   match b,bl1 with
   | [x],_=>rfl
  have em:zas 0 a b=([(a.getD 0 0,b.getD 0 0)],[a.getD 0 0,b.getD 0 0]):=by
   rw[ea,eb];rfl
  refine k c l2 l3 [.ref t] _ ((u2.trans s3).trans s4) (atNew hc _) (s4 _ _ (s3 _ _ (atNew hl2 _))) ?_ ?_
  ·rw[em]
   exact⟨⟨t,rfl,s4 _ _ (s3 _ _ (s2 _ _ (atNew ht _)))⟩,trivial⟩
  ·rw[em]
   exact s4 _ _ (atNew hl3 _)
 | succ m =>
  obtain⟨a0,a1⟩:=zbC al
  obtain⟨b0,b1⟩:=zbC bl
  have pw:2 ^ (m+1)=2 ^ m*2:=Nat.pow_succ ..
  have p0:=Nat.one_le_two_pow (n:=m)
  rw[decide_eq_false (show ¬ V.int (((nums a).length:Nat):Int)=V.int 1 by intro h;injection h;lia)]
  refine iteF ⟨_,rfl,2,rfl,rfl,0,p1,_,.inl ⟨rfl,rfl⟩,rfl,SqL.of h1,fun q1 hq1=>?_⟩
  rw[zem]
  have s1:=zaa hq1 (.lst (nums (by2 0 a)))
  refine⟨_,rfl,1,rfl,2,rfl,rfl,1,p2,_,.inr ⟨rfl,rfl⟩,rfl,SqL.of (s1 _ _ h2),fun q2 hq2=>?_⟩
  rw[zem]
  have s2:=zaa hq2 (.lst (nums (by2 1 b)))
  refine⟨m,rfl,q1,q2,by2 0 a,by2 1 b,rfl,s2 _ _ (atNew hq1 _),atNew hq2 _,a0,b1,by lia,fun c3 lf3 le3 ps3 H3 s3 hc3 hf3 pr3 he3=>?_⟩
  have u3:=(s1.trans s2).trans s3
  refine⟨c3,_,rfl,SqT.of hc3,rfl,_,_,rfl,_,_,rfl,rfl,?_⟩
  refine⟨_,rfl,1,rfl,2,rfl,rfl,1,p1,_,.inr ⟨rfl,rfl⟩,rfl,SqL.of (u3 _ _ h1),fun q4 hq4=>?_⟩
  rw[zem]
  have s4:=zaa hq4 (.lst (nums (by2 1 a)))
  refine⟨_,rfl,2,rfl,rfl,0,p2,_,.inl ⟨rfl,rfl⟩,rfl,SqL.of (s4 _ _ (u3 _ _ h2)),fun q5 hq5=>?_⟩
  rw[zem]
  have s5:=zaa hq5 (.lst (nums (by2 0 b)))
  refine⟨m,rfl,q4,q5,by2 1 a,by2 0 b,rfl,s5 _ _ (atNew hq4 _),atNew hq5 _,a1,b0,by lia,fun c6 lf6 le6 ps6 H6 s6 hc6 hf6 pr6 he6=>?_⟩
  have u6:=(s4.trans s5).trans s6
  refine⟨c6,_,rfl,SqT.of hc6,rfl,_,_,rfl,_,_,rfl,rfl,?_⟩
  obtain⟨xl,xf⟩:=zaA m _ _ a0 b1
  obtain⟨yl,yf⟩:=zaA m _ _ a1 b0
  have bd:=(za0 m (by lia)).2
  have pl3:=pr3.len
  have pl6:=pr6.len
  refine⟨_,rfl,_,rfl,le3,le6,_,_,rfl,SqL.of (u6 _ _ he3),SqL.of he6,by rw[zae,zae,xl,yl];exact Nat.le_refl _,by rw[zae,xl];lia,fun lz ts H7 s7 n1 n2 z=>?_⟩
  have pz:=zdI z (by rw[xl,yl];exact Nat.le_refl _)
  have s8:=zaa n2 (.lst ts)
  have u8:=s7.trans s8
  have tl:=pz.len
  rw[List.length_zip,xl,yl,Nat.min_self]at tl
  have pz8:=pz.tups (Tups.of s8)
  have hz8:=atNew n2 (.lst ts)
  have hf3':=u8 _ _ (u6 _ _ hf3)
  have hf6':=u8 _ _ hf6
  have pr3':=(pr3.tups (Tups.of u6)).tups (Tups.of u8)
  have pr6':=pr6.tups (Tups.of u8)
  have uu:=(u3.trans u6).trans u8
  generalize upd H7 lz (.lst ts)=H8 at s8 u8 pz8 hz8 hf3' hf6' pr3' pr6' uu
  refine⟨(by show 0≤sizeLine;decide),fun le hle=>?_⟩
  have s9:=zaa hle (.lst [])
  refine⟨_,rfl,lz,rfl,⟨_,SqL.of (s9 _ _ hz8)⟩,?_⟩
  generalize hX:(zas m (by2 0 a) (by2 1 b)).2=X at *
  generalize hY:(zas m (by2 1 a) (by2 0 b)).2=Y at *
  refine zh8 (K:=K) (a:=lz) (xs:=ts) (fun i σ H9=>(∃ ld v7,σ=[some (.ref p1),some (.ref p2),some (.ref lf3),some (.ref le3),some (.ref lf6),some (.ref le6),some (.ref lz),some (.ref ld),v7]∧H9 ld=some (.lst (nums (zaC (X.take i) (Y.take i)))))∧Same H8 H9) ⟨⟨le,_,rfl,atNew hle _⟩,s9⟩ (fun i σ H9 _ z=>SqL.of (z.2 _ _ hz8)) ?_ ?_
  ·rintro i x σ H9 hx ⟨⟨ld,v7,rfl,hd9⟩,s10⟩
   obtain⟨g,⟨u,v⟩,rfl,eg,hg⟩:=(pz8.tups (Tups.of s10)).get hx
   obtain⟨ex,ey⟩:=List.getElem?_zip_eq_some.mp eg
   have il:=(List.getElem?_eq_some_iff.mp hx).1
   refine⟨_,rfl,_,rfl,g,_,rfl,.inr (SqT.of hg),fun l11 hl11=>?_⟩
   have s11:=zaa hl11 (.lst [V.int (u:Nat),V.int (v:Nat)])
   have tl1:(zaC (X.take i) (Y.take i)).length≤2*1000:=by
    rw[zbv _ _ (by rw[List.length_take,List.length_take,xl,yl]),List.length_take];lia
   refine⟨ld,l11,_,_,rfl,rfl,s11 _ _ hd9,atNew hl11 _,by rw[zae,sizeLine_eq];show _+2≤_;lia,fun l12 hl12=>?_⟩
   have s12:=zaa hl12 (.lst (nums (zaC (X.take i) (Y.take i))++[V.int (u:Nat),V.int (v:Nat)]))
   refine⟨⟨l12,_,rfl,?_⟩,(s10.trans s11).trans s12⟩
   rw[zac,zc3 X Y i u v ex ey]
   unfold nums
   rw[List.map_append];rfl
  ·rintro σ H9 ⟨⟨ld,v7,rfl,hd9⟩,s10⟩
   have tX:X.take ts.length=X:=List.take_of_length_le (by rw[xl];lia)
   have tY:Y.take ts.length=Y:=List.take_of_length_le (by rw[yl];lia)
   rw[tX,tY]at hd9
   refine⟨_,rfl,_,rfl,lf3,lf6,_,_,rfl,rfl,s10 _ _ hf3',s10 _ _ hf6',by rw[sizeLine_eq];lia,fun l13 hl13=>?_⟩
   have s13:=zaa hl13 (.lst (ps3++ps6))
   refine⟨_,rfl,l13,lz,_,_,rfl,rfl,atNew hl13 _,s13 _ _ (s10 _ _ hz8),by rw[sizeLine_eq,List.length_append];lia,fun l14 hl14=>?_⟩
   have s14:=zaa hl14 (.lst ((ps3++ps6)++ts))
   refine⟨_,rfl,(by show 2≤sizeLine;decide),fun c hc=>?_⟩
   have s15:=zaa hc (.tup [.ref l14,.ref ld])
   have u15:=(s13.trans s14).trans s15
   refine k c l14 ld _ _ (uu.trans (s10.trans u15)) (atNew hc _) (s15 _ _ (atNew hl14 _)) ?_ ?_
   ·refine Prs.tups (Tups.of (s10.trans u15)) ?_
    have:=Prs.app (Prs.app pr3' pr6') pz8
    rw[← hX,← hY]at this
    exact this
   ·rw[u15 _ _ hd9,← hX,← hY];rfl
theorem zei {f:Addr}{fd:FuncData}(F:Fun K "_law_merged" "_law_merged" zcF f fd) (G:Mgs mg) (bS:Binds K fd ["_law_one","_law_other"] []) (mS:mg "_law_merged" = some (.ref f)):∀ n:Nat,FnOk P w K mg base CX0 (n+1) f fd ["_law_one","_law_other"] (zaE n)
 | 0=>zde F G bS mS 0 ⟨fun vs H Q E ⟨m,h,_⟩=>by lia,fun A outer s H args us vs Q E _ _ _ _ ⟨m,h,_⟩=>by lia⟩
 | m+1=>zde F G bS mS (m+1) ((zei F G bS mS m).imp fun vs H Q E ⟨m',h,q⟩=>by cases h;exact q)
theorem zeh {f:Addr}{fd:FuncData}(F:Fun K "_law_merged" "_law_merged" zcF f fd) (G:Mgs mg) (bS:Binds K fd ["_law_one","_law_other"] []) (mS:mg "_law_merged" = some (.ref f)):FnOk P w K mg base CX0 5 f fd ["_law_one","_law_other"] zan :=
 FnOk.any 4 fun m hm=>(zei F G bS mS m).mono (by lia)
end
abbrev zdG:Stmt:=top 36
def zbx (m:Nat):Sp:=fun vs H Q _=>∃ p row,vs=[.ref p]∧H p=some (.lst (nums row))∧row.length≤2 ^ m∧row.length≤1000∧m≤20∧∀ l ps H',Same H H'→H' l=some (.lst ps)→Prs H' ps (zaz m row)→Q (.ref l) H'
theorem zju {row:List Nat}{j:Nat}(h:j<row.length):atI (nums row) (-1-((j:Nat):Int))=some (.int ((row.reverse.getD j 0:Nat):Int)):=by
 have nl:=zae row
 unfold atI ixN
 rw[if_neg (by lia),if_pos (by lia)]
 show (nums row)[(-1-((j:Nat):Int)+((nums row).length:Nat)).toNat]?=_
 rw[nl,show (-1-((j:Nat):Int)+((row.length:Nat):Int)).toNat=row.length-1-j by lia]
 unfold nums
 rw[List.getElem?_map,List.getD_eq_getElem?_getD,List.getElem?_reverse h,List.getElem?_eq_getElem (by lia)];rfl
theorem zho {a b:List Nat}{j:Nat}(ha:j<a.length) (hb:j<b.length):(a.zip b).take (j+1)=(a.zip b).take j++[(a.getD j 0,b.getD j 0)]:=by
 rw[List.take_succ_eq_append_getElem (by rw[List.length_zip];lia),List.getElem_zip,List.getD_eq_getElem?_getD,List.getElem?_eq_getElem ha,List.getD_eq_getElem?_getD,List.getElem?_eq_getElem hb];rfl
section
variable {P:Program}{w:World}{K:PySem.W.Frag}{mg:Str→Option Value}{base:Heap}
theorem scBL:FnScope ["_law_row","_law_half"] ["_law_row"] (zaf zdG):=⟨rfl,rfl,rfl,by decide +kernel,rfl,by decide +kernel,by decide +kernel⟩
theorem zdf {f:Addr}{fd:FuncData}(F:Fun K "_law_block" "_law_block" zdG f fd) (G:Mgs mg) (bS:Binds K fd ["_law_row"] []) (mS:mg "_law_block" = some (.ref f)) (n:Nat)
  (GS:FnOk P w K mg base CX0 n f fd ["_law_row"] (fun vs H Q E=>∃ m,n=m+1∧zbx m vs H Q E)):FnOk P w K mg base CX0 (n+1) f fd ["_law_row"] (zbx n):=by
 have UB:Use P w K mg base "_law_block" ["_law_row"] n (fun vs H Q E=>∃ m,n=m+1∧zbx m vs H Q E) f fd:=⟨GS,bS,F.kp,mS⟩
 refine F.ok scBL (fun vs H Q E h=>?_) (fun cdv A outer s H vs Q E hr h=>?_)
 ·obtain⟨p,row,rfl,_⟩:=h
  rfl
 obtain⟨p,row,rfl,hp,rl,r1000,n20,k⟩:=h
 refine⟨_,(@pss_cons _ _ _ _ _ (@zak _ _ 1 _ _ _ _ scBL.nd rfl (.inl rfl) (@pe_op _ _ _ _ _ _ _ _ zar (@zaj _ _ _ _ _ _ _ _ _ zai (by rfl) G.len PySem.boot_len (@pa_cons _ _ _ _ _ (@pv _ 0 _ _ (by rfl) (by first|exact Or.inl rfl|exact Or.inr (.inl rfl)|exact Or.inr (.inr rfl)) (by decide) (by decide)) pa_nil (by rfl)) (by decide) (by decide) (by rfl) (by rfl)) pe_int) (by rfl) (by first|exact .inl rfl|exact .inr rfl|assumption)) (@pss_cons _ _ _ _ _ (@zau _ _ _ _ _ _ _ _ (@pt_cmpR _ _ _ _ _ _ _ _ zaS (@pv _ 1 _ _ (by rfl) (by first|exact Or.inl rfl|exact Or.inr (.inl rfl)|exact Or.inr (.inr rfl)) (by decide) (by decide)) pe_int (nomark _)) (@pss_one _ _ _ (@ps_ret _ _ _ _ (@zay _ _ _ _ pa_nil))) pss_nil) (@pss_one _ _ _ (@ps_ret _ _ _ _ (@pe_op _ _ _ _ _ _ _ _ op_cat (@pe_op _ _ _ _ _ _ _ _ op_cat (@pe_lc _ _ _ _ none _ _ _ _ _ _ ["_law_k","_law_row"] [none,some 0] rfl (@zbr _ _ _ _ _ _ rfl G.range (@pa_cons _ _ _ _ _ (@pv _ 1 _ _ (by rfl) (by first|exact Or.inl rfl|exact Or.inr (.inl rfl)|exact Or.inr (.inr rfl)) (by decide) (by decide)) pa_nil (by rfl)) (by rfl)) (CapOk.of (by kernel_rfl)) (fun _ _ _ _ _=>(@zab _ _ 0 _ (show (["_law_k","_law_row"]:List Str).Nodup from by decide +kernel) rfl (.inl rfl) (.inr rfl))) (fun _ _ _ _ _=>zaV) (fun _ _ _ _ _=>(@pe_tup _ _ _ _ _ (@pa_cons _ _ _ _ _ (@pe_ix _ _ _ _ _ _ (rIxL K) ix_list (@pv _ 1 _ _ (by rfl) (by first|exact Or.inl rfl|exact Or.inr (.inl rfl)|exact Or.inr (.inr rfl)) (by decide) (by decide)) (@pv _ 0 _ _ (by rfl) (by first|exact Or.inl rfl|exact Or.inr (.inl rfl)|exact Or.inr (.inr rfl)) (by decide) (by decide)) (fun _ _=>rfl)) (@pa_cons _ _ _ _ _ (@pe_ix _ _ _ _ _ _ (rIxL K) ix_list (@pv _ 1 _ _ (by rfl) (by first|exact Or.inl rfl|exact Or.inr (.inl rfl)|exact Or.inr (.inr rfl)) (by decide) (by decide)) (@pe_op _ _ _ _ _ _ _ _ zba (@zjO _ _ _ _ _ _ zib pe_int) (@pv _ 0 _ _ (by rfl) (by first|exact Or.inl rfl|exact Or.inr (.inl rfl)|exact Or.inr (.inr rfl)) (by decide) (by decide))) (fun _ _=>rfl)) pa_nil (by rfl)) (by rfl)))) (by intro _;rfl)) (@pe_call _ _ _ _ _ _ _ _ _ _ _ _ _ _ _ _ UB.ok hr (by rfl) UB.m UB.kp UB.b .nil pass0 (@pa_cons _ _ _ _ _ (@pe_slice _ _ _ _ _ _ _ _ _ _ sl_list (@pv _ 0 _ _ (by rfl) (by first|exact Or.inl rfl|exact Or.inr (.inl rfl)|exact Or.inr (.inr rfl)) (by decide) (by decide)) po_none (@po_some _ _ _ (@pv _ 1 _ _ (by rfl) (by first|exact Or.inl rfl|exact Or.inr (.inl rfl)|exact Or.inr (.inr rfl)) (by decide) (by decide)))) pa_nil (by rfl)) (by decide) (by rfl) (by rfl))) (@pe_call _ _ _ _ _ _ _ _ _ _ _ _ _ _ _ _ UB.ok hr (by rfl) UB.m UB.kp UB.b .nil pass0 (@pa_cons _ _ _ _ _ (@pe_slice _ _ _ _ _ _ _ _ _ _ sl_list (@pv _ 0 _ _ (by rfl) (by first|exact Or.inl rfl|exact Or.inr (.inl rfl)|exact Or.inr (.inr rfl)) (by decide) (by decide)) (@po_some _ _ _ (@pv _ 1 _ _ (by rfl) (by first|exact Or.inl rfl|exact Or.inr (.inl rfl)|exact Or.inr (.inr rfl)) (by decide) (by decide))) po_none) pa_nil (by rfl)) (by decide) (by rfl) (by rfl))))))),?_⟩
 have nl:=zae row
 refine⟨_,rfl,p,_,rfl,.inl (SqL.of hp),_,_,rfl,rfl,⟨by decide,by decide⟩,?_⟩
 have eh:(((nums row).length:Nat):Int) / 2=((row.length / 2:Nat):Int):=by rw[nl];lia
 simp only[eh]
 refine⟨_,rfl,rfl,_,rfl,?_⟩
 by_cases c:row.length<2
 ·rw[decide_eq_true (show V.int ((row.length / 2:Nat):Int)=V.int 0 by congr 1;lia)]
  refine iteT ⟨(by show 0≤sizeLine;decide),fun l hl=>k l [] _ (zaa hl _) (atNew hl _) ?_⟩
  have e:zaz n row=[]:=by
   cases n with
   | zero=>rfl
   | succ m=>unfold zaz;rw[if_pos c]
  rw[e];trivial
 rw[decide_eq_false (show ¬ V.int ((row.length / 2:Nat):Int)=V.int 0 by intro z;injection z with z;lia)]
 obtain⟨m,rfl⟩:∃ m,n=m+1:=by
  cases n with
  | zero=>rw[show 2 ^ 0=1 from rfl]at rl;lia
  | succ m=>exact⟨m,rfl⟩
 rw[Nat.pow_succ]at rl
 have hh:row.length / 2≤row.length:=by lia
 refine iteF ⟨_,rfl,((row.length / 2:Nat):Int),rfl,by lia,by lia,fun lc hlc=>?_⟩
 refine zh1 (lo:=0) (n:=((row.length / 2:Nat):Int).toNat) (fun j acc σ H6=>(∃ v0,σ=[v0,some (.ref p)])∧Same H H6∧H6 lc=some (.lst acc)∧acc.length=j∧Prs H6 acc (((row.take (row.length / 2)).zip row.reverse).take j)) ⟨⟨_,rfl⟩,zaa hlc _,zac,rfl,trivial⟩ (fun j acc σ H6 z=>z.2.2.1) ?_ ?_
 ·rintro j acc σ H6 hj ⟨⟨v0,rfl⟩,s6,h6,al,pr6⟩
  have jl:j<row.length / 2:=by lia
  have hp6:=s6 _ _ hp
  have g1:atI (nums row) (0+((j:Nat):Int))=some (.int ((row.getD j 0:Nat):Int)):=by
   rw[Int.zero_add]
   refine zaX ?_
   unfold nums
   rw[List.getElem?_map,List.getElem?_eq_getElem (by lia),List.getD_eq_getElem?_getD,List.getElem?_eq_getElem (by lia)];rfl
  have g2:=zju (row:=row) (j:=j) (by lia)
  refine⟨_,rfl,_,rfl,p,_,_,_,rfl,rfl,SqL.of hp6,g1,?_⟩
  refine⟨_,rfl,_,rfl,_,rfl,_,_,rfl,rfl,?_⟩
  refine⟨p,_,_,_,rfl,rfl,SqL.of hp6,(by rw[Int.zero_add];exact g2),?_⟩
  refine⟨(by show 2≤sizeLine;decide),fun t ht=>?_⟩
  have s7:=zaa ht (.tup [.int ((row.getD j 0:Nat):Int),.int ((row.reverse.getD j 0:Nat):Int)])
  have h7:=s7 _ _ h6
  refine⟨h7,by rw[sizeLine_eq];lia,nx hj ⟨⟨_,rfl⟩,fun c o e=>?_,zac,by rw[List.length_append,al];rfl,?_⟩⟩
  ·rw[zag (zad e hlc)];exact s7 _ _ (s6 c o e)
  ·rw[zho (by rw[List.length_take];lia) (by rw[List.length_reverse];lia)]
   refine Prs.add (f:=((row.take (row.length / 2)).getD j 0,row.reverse.getD j 0)) ?_ ((pr6.tups (Tups.of s7)).tups (Tups.lst h7))
   rw[Tups.lst h7 _ _ (atNew ht _),List.getD_eq_getElem?_getD (l:=row.take _),List.getElem?_take_of_lt jl,← List.getD_eq_getElem?_getD]
 rintro acc σ H6 ⟨⟨v0,rfl⟩,s6,h6,al,pr6⟩
 rw[Int.toNat_natCast]at al pr6
 rw[List.take_of_length_le (by rw[List.length_zip,List.length_take,List.length_reverse];lia)]at pr6
 have hp6:=s6 _ _ hp
 refine⟨_,rfl,_,rfl,_,rfl,p,_,rfl,SqL.of hp6,fun p5 hp5=>?_⟩
 rw[zdX row _ hh]
 have s5:=zaa hp5 (.lst (nums (row.take (row.length / 2))))
 refine⟨m,rfl,p5,row.take (row.length / 2),rfl,atNew hp5 _,by rw[List.length_take];lia,by rw[List.length_take];lia,by lia,fun l6 ps6 H7 s6' h6' pr6'=>?_⟩
 have u6:=s5.trans s6'
 have b6:=zaP m (row.take (row.length / 2))
 rw[List.length_take]at b6
 have b6':m*min (row.length / 2) row.length≤20*1000:=Nat.mul_le_mul (by lia) (by lia)
 have pl6:=pr6'.len
 refine⟨lc,l6,_,_,rfl,rfl,u6 _ _ h6,h6',by rw[sizeLine_eq];lia,fun l7 hl7=>?_⟩
 have s8:=zaa hl7 (.lst (acc++ps6))
 have pr8:=(Prs.app (pr6.tups (Tups.of u6)) pr6').tups (Tups.of s8)
 have u8:=s6.trans (u6.trans s8)
 have hp8:=u8 _ _ hp
 have h8:=atNew hl7 (.lst (acc++ps6))
 generalize L2.upd H7 l7 _=H8 at s8 pr8 u8 hp8 h8 ⊢
 refine⟨_,rfl,_,rfl,_,rfl,p,_,rfl,SqL.of hp8,fun p9 hp9=>?_⟩
 rw[zfq row _ hh]
 have s9:=zaa hp9 (.lst (nums (row.drop (row.length / 2))))
 refine⟨m,rfl,p9,row.drop (row.length / 2),rfl,atNew hp9 _,by rw[List.length_drop];lia,by rw[List.length_drop];lia,by lia,fun l9 ps9 H9 s9' h9 pr9=>?_⟩
 have u9:=s9.trans s9'
 have b9:=zaP m (row.drop (row.length / 2))
 rw[List.length_drop]at b9
 have b9':m*(row.length-row.length / 2)≤20*1000:=Nat.mul_le_mul (by lia) (by lia)
 have pl9:=pr9.len
 refine⟨l7,l9,_,_,rfl,rfl,u9 _ _ h8,h9,by rw[List.length_append,sizeLine_eq];lia,fun l10 hl10=>?_⟩
 have s10:=zaa hl10 (.lst ((acc++ps6)++ps9))
 have pr10:=(Prs.app (pr8.tups (Tups.of u9)) pr9).tups (Tups.of s10)
 refine k l10 _ _ (u8.trans (u9.trans s10)) (atNew hl10 _) ?_
 have e:zaz (m+1) row=(row.take (row.length / 2)).zip row.reverse++zaz m (row.take (row.length / 2))++zaz m (row.drop (row.length / 2)):=by
  conv=>lhs;unfold zaz
  rw[if_neg c]
 rw[e];exact pr10
theorem zej {f:Addr}{fd:FuncData}(F:Fun K "_law_block" "_law_block" zdG f fd) (G:Mgs mg) (bS:Binds K fd ["_law_row"] []) (mS:mg "_law_block" = some (.ref f)):∀ n:Nat,FnOk P w K mg base CX0 (n+1) f fd ["_law_row"] (zbx n)
 | 0=>zdf F G bS mS 0 ⟨fun vs H Q E ⟨m,h,_⟩=>by lia,fun A outer s H args us vs Q E _ _ _ _ ⟨m,h,_⟩=>by lia⟩
 | m+1=>zdf F G bS mS (m+1) ((zej F G bS mS m).imp fun vs H Q E ⟨m',h,q⟩=>by cases h;exact q)
abbrev zbU:Stmt:=top 35
theorem scSl:FnScope ["_law_row","_law_half","_law_one","_law_other","_law_forks","_law_ends"] ["_law_row"] (zaf zbU):=⟨rfl,rfl,rfl,by decide +kernel,rfl,by decide +kernel,by decide +kernel⟩
theorem zcI {f fB:Addr}{fd dB:FuncData}(F:Fun K "_law_stairs" "_law_stairs" zbU f fd) (G:Mgs mg) (UM:Use P w K mg base "_law_merged" ["_law_one","_law_other"] 5 zan fB dB) (bS:Binds K fd ["_law_row"] []) (mS:mg "_law_stairs" = some (.ref f)) (n:Nat)
  (GS:FnOk P w K mg base CX0 (n+5) f fd ["_law_row"] (fun vs H Q E=>∃ m,n=m+1∧zaD m vs H Q E)):FnOk P w K mg base CX0 (n+6) f fd ["_law_row"] (zaD n):=by
 have UT:Use P w K mg base "_law_stairs" ["_law_row"] (n+5) (fun vs H Q E=>∃ m,n=m+1∧zaD m vs H Q E) f fd:=⟨GS,bS,F.kp,mS⟩
 refine F.ok scSl (fun vs H Q E h=>?_) (fun cdv A outer s H vs Q E hr h=>?_)
 ·obtain⟨p,row,rfl,_⟩:=h
  rfl
 obtain⟨p,row,rfl,hp,rl,n20,k⟩:=h
 have hr5:Room 5 _:=hr.mono (by lia)
 refine⟨_,(@pss_cons _ _ _ _ _ (@zau _ _ _ _ _ _ _ _ (@pt_cmpR _ _ _ _ _ _ _ _ zaS (@zaj _ _ _ _ _ _ _ _ _ zai (by rfl) G.len PySem.boot_len (@pa_cons _ _ _ _ _ (@pv _ 0 _ _ (by rfl) (by first|exact Or.inl rfl|exact Or.inr (.inl rfl)|exact Or.inr (.inr rfl)) (by decide) (by decide)) pa_nil (by rfl)) (by decide) (by decide) (by rfl) (by rfl)) pe_int (nomark _)) (@pss_one _ _ _ (@ps_ret _ _ _ _ (@pe_tup _ _ _ _ _ (@pa_cons _ _ _ _ _ (@zay _ _ _ _ pa_nil) (@pa_cons _ _ _ _ _ (@pv _ 0 _ _ (by rfl) (by first|exact Or.inl rfl|exact Or.inr (.inl rfl)|exact Or.inr (.inr rfl)) (by decide) (by decide)) pa_nil (by rfl)) (by rfl))))) pss_nil) (@pss_cons _ _ _ _ _ (@zak _ _ 1 _ _ _ _ scSl.nd rfl (.inl rfl) (@pe_op _ _ _ _ _ _ _ _ zar (@zaj _ _ _ _ _ _ _ _ _ zai (by rfl) G.len PySem.boot_len (@pa_cons _ _ _ _ _ (@pv _ 0 _ _ (by rfl) (by first|exact Or.inl rfl|exact Or.inr (.inl rfl)|exact Or.inr (.inr rfl)) (by decide) (by decide)) pa_nil (by rfl)) (by decide) (by decide) (by rfl) (by rfl)) pe_int) (by rfl) (by first|exact .inl rfl|exact .inr rfl|assumption)) (@pss_cons _ _ _ _ _ (@zgv _ _ 2 3 _ _ _ _ _ _ _ _ _ _ _ rfl scSl.nd rfl rfl (by decide) rfl rfl (@pa_cons _ _ _ _ _ (@pe_call _ _ _ _ _ _ _ _ _ _ _ _ _ _ _ _ UT.ok hr (by rfl) UT.m UT.kp UT.b .nil pass0 (@pa_cons _ _ _ _ _ (@pe_slice _ _ _ _ _ _ _ _ _ _ sl_list (@pv _ 0 _ _ (by rfl) (by first|exact Or.inl rfl|exact Or.inr (.inl rfl)|exact Or.inr (.inr rfl)) (by decide) (by decide)) po_none (@po_some _ _ _ (@pv _ 1 _ _ (by rfl) (by first|exact Or.inl rfl|exact Or.inr (.inl rfl)|exact Or.inr (.inr rfl)) (by decide) (by decide)))) pa_nil (by rfl)) (by decide) (by rfl) (by rfl)) (@pa_cons _ _ _ _ _ (@pe_call _ _ _ _ _ _ _ _ _ _ _ _ _ _ _ _ UT.ok hr (by rfl) UT.m UT.kp UT.b .nil pass0 (@pa_cons _ _ _ _ _ (@pe_slice _ _ _ _ _ _ _ _ _ _ sl_list (@pv _ 0 _ _ (by rfl) (by first|exact Or.inl rfl|exact Or.inr (.inl rfl)|exact Or.inr (.inr rfl)) (by decide) (by decide)) (@po_some _ _ _ (@pv _ 1 _ _ (by rfl) (by first|exact Or.inl rfl|exact Or.inr (.inl rfl)|exact Or.inr (.inr rfl)) (by decide) (by decide))) po_none) pa_nil (by rfl)) (by decide) (by rfl) (by rfl)) pa_nil (by rfl)) (by rfl)) (by rfl) (by rfl)) (@pss_cons _ _ _ _ _ (@ps_asg _ _ _ _ _ _ (@pe_call _ _ _ _ _ _ _ _ _ _ _ _ _ _ _ _ UM.ok hr5 (by rfl) UM.m UM.kp UM.b .nil pass0 (@pa_cons _ _ _ _ _ (@pe_ix _ _ _ _ _ _ _ zam (@pv _ 2 _ _ (by rfl) (by first|exact Or.inl rfl|exact Or.inr (.inl rfl)|exact Or.inr (.inr rfl)) (by decide) (by decide)) pe_int (fun _ _=>rfl)) (@pa_cons _ _ _ _ _ (@pe_ix _ _ _ _ _ _ _ zam (@pv _ 3 _ _ (by rfl) (by first|exact Or.inl rfl|exact Or.inr (.inl rfl)|exact Or.inr (.inr rfl)) (by decide) (by decide)) pe_int (fun _ _=>rfl)) pa_nil (by rfl)) (by rfl)) (by decide) (by rfl) (by rfl)) (@zao _ _ _ _ _ _ rfl (@pgs_cons _ _ _ _ _ (@zab _ _ 4 _ scSl.nd rfl (.inl rfl) (by first|exact .inl rfl|exact .inr rfl|assumption)) (@pgs_cons _ _ _ _ _ (@zab _ _ 5 _ scSl.nd rfl (.inl rfl) (by first|exact .inl rfl|exact .inr rfl|assumption)) pgs_nil (by rfl)) (by rfl)) (by rfl) (by rfl)) (by rfl) (by rfl) (by rfl)) (@pss_one _ _ _ (@ps_ret _ _ _ _ (@pe_tup _ _ _ _ _ (@pa_cons _ _ _ _ _ (@pe_op _ _ _ _ _ _ _ _ op_cat (@pe_op _ _ _ _ _ _ _ _ op_cat (@pe_ix _ _ _ _ _ _ _ zam (@pv _ 2 _ _ (by rfl) (by first|exact Or.inl rfl|exact Or.inr (.inl rfl)|exact Or.inr (.inr rfl)) (by decide) (by decide)) pe_int (fun _ _=>rfl)) (@pe_ix _ _ _ _ _ _ _ zam (@pv _ 3 _ _ (by rfl) (by first|exact Or.inl rfl|exact Or.inr (.inl rfl)|exact Or.inr (.inr rfl)) (by decide) (by decide)) pe_int (fun _ _=>rfl))) (@pv _ 4 _ _ (by rfl) (by first|exact Or.inl rfl|exact Or.inr (.inl rfl)|exact Or.inr (.inr rfl)) (by decide) (by decide))) (@pa_cons _ _ _ _ _ (@pv _ 5 _ _ (by rfl) (by first|exact Or.inl rfl|exact Or.inr (.inl rfl)|exact Or.inr (.inr rfl)) (by decide) (by decide)) pa_nil (by rfl)) (by rfl))))))))),?_⟩
 have nl:=zae row
 have p8:2 ^ n≤2 ^ 4:=Nat.pow_le_pow_right (by decide) n20
 have e8:2 ^ 4=16:=rfl
 refine⟨_,rfl,p,_,rfl,.inl (SqL.of hp),rfl,_,rfl,?_⟩
 cases n with
 | zero =>
  have rl1:row.length=1:=rl
  rw[decide_eq_true (show V.int (((nums row).length:Nat):Int)=V.int 1 by congr 1;lia)]
  refine iteT ⟨(by show 0≤sizeLine;decide),fun l hl=>⟨_,rfl,(by show 2≤sizeLine;decide),fun c hc=>?_⟩⟩
  have s1:=zaa hl (.lst [])
  have s2:=zaa hc (.tup [.ref l,.ref p])
  exact k c l p [] _ (s1.trans s2) (atNew hc _) (s2 _ _ (atNew hl _)) trivial (s2 _ _ (s1 _ _ hp))
 | succ m =>
  obtain⟨t1,t2,t3⟩:=zbL rl
  obtain⟨la,lb⟩:=zdT rl
  have pw:2 ^ (m+1)=2 ^ m*2:=Nat.pow_succ ..
  have p0:=Nat.one_le_two_pow (n:=m)
  rw[decide_eq_false (show ¬ V.int (((nums row).length:Nat):Int)=V.int 1 by intro z;injection z with z;lia)]
  refine iteF ⟨_,rfl,p,_,rfl,.inl (SqL.of hp),_,_,rfl,rfl,⟨by decide,by decide⟩,?_⟩
  have eh:(((nums row).length:Nat):Int) / 2=((row.length / 2:Nat):Int):=by rw[nl];lia
  simp only[eh]
  refine⟨_,rfl,_,rfl,_,rfl,p,_,rfl,SqL.of hp,fun p1 hp1=>?_⟩
  rw[zfl row _ t3]
  have s1:=zaa hp1 (.lst (nums (row.take (row.length / 2))))
  refine⟨m,rfl,p1,row.take (row.length / 2),rfl,atNew hp1 _,la,by lia,fun c2 lf2 le2 ps2 H2 s2 hc2 hf2 pr2 he2=>?_⟩
  have u2:=s1.trans s2
  refine⟨_,rfl,_,rfl,_,rfl,p,_,rfl,SqL.of (u2 _ _ hp),fun p3 hp3=>?_⟩
  rw[zfm row _ t3]
  have s3:=zaa hp3 (.lst (nums (row.drop (row.length / 2))))
  refine⟨m,rfl,p3,row.drop (row.length / 2),rfl,atNew hp3 _,lb,by lia,fun c4 lf4 le4 ps4 H4 s4 hc4 hf4 pr4 he4=>⟨_,_,rfl,?_⟩⟩
  have u4:=s3.trans s4
  obtain⟨xl,xf⟩:=za8 m _ la
  obtain⟨yl,yf⟩:=za8 m _ lb
  obtain⟨zl,zf⟩:=zaA m _ _ xl yl
  have pl2:=pr2.len
  have pl4:=pr4.len
  obtain⟨bd1,bd2⟩:=za0 m (by lia)
  have hc24:=u4 _ _ hc2
  refine⟨_,rfl,c2,_,1,_,rfl,rfl,SqT.of hc24,rfl,_,rfl,c4,_,1,_,rfl,rfl,SqT.of hc4,rfl,m,by lia,le2,le4,_,_,rfl,u4 _ _ he2,he4,xl,yl,by lia,fun c6 lf6 le6 ps6 H6 s6 hc6 hf6 pr6 he6=>?_⟩
  refine⟨c6,_,rfl,SqT.of hc6,rfl,_,_,rfl,_,_,rfl,rfl,?_⟩
  have pl6:=pr6.len
  refine⟨_,rfl,c2,_,0,_,rfl,rfl,SqT.of (s6 _ _ hc24),rfl,_,rfl,c4,_,0,_,rfl,rfl,SqT.of (s6 _ _ hc4),rfl,lf2,lf4,_,_,rfl,rfl,s6 _ _ (u4 _ _ hf2),s6 _ _ hf4,by rw[sizeLine_eq];lia,fun l7 hl7=>?_⟩
  have s7:=zaa hl7 (.lst (ps2++ps4))
  refine⟨_,rfl,l7,lf6,_,_,rfl,rfl,atNew hl7 _,s7 _ _ hf6,by rw[sizeLine_eq,List.length_append];lia,fun l8 hl8=>?_⟩
  have s8:=zaa hl8 (.lst ((ps2++ps4)++ps6))
  refine⟨_,rfl,(by show 2≤sizeLine;decide),fun c hc=>?_⟩
  have s9:=zaa hc (.tup [.ref l8,.ref le6])
  have u9:=(s7.trans s8).trans s9
  refine k c l8 le6 _ _ ((u2.trans u4).trans (s6.trans u9)) (atNew hc _) (s9 _ _ (atNew hl8 _)) ?_ (u9 _ _ he6)
  refine Prs.tups (Tups.of u9) ?_
  exact Prs.app (Prs.app ((pr2.tups (Tups.of u4)).tups (Tups.of s6)) (pr4.tups (Tups.of s6))) pr6
theorem zdb {f fB:Addr}{fd dB:FuncData}(F:Fun K "_law_stairs" "_law_stairs" zbU f fd) (G:Mgs mg) (UM:Use P w K mg base "_law_merged" ["_law_one","_law_other"] 5 zan fB dB) (bS:Binds K fd ["_law_row"] []) (mS:mg "_law_stairs" = some (.ref f)):∀ n:Nat,FnOk P w K mg base CX0 (n+6) f fd ["_law_row"] (zaD n)
 | 0=>zcI F G UM bS mS 0 ⟨fun vs H Q E ⟨m,h,_⟩=>by lia,fun A outer s H args us vs Q E _ _ _ _ ⟨m,h,_⟩=>by lia⟩
 | m+1=>zcI F G UM bS mS (m+1) ((zdb F G UM bS mS m).imp fun vs H Q E ⟨m',h,q⟩=>by cases h;exact q)
theorem zdM {f fB:Addr}{fd dB:FuncData}(F:Fun K "_law_stairs" "_law_stairs" zbU f fd) (G:Mgs mg) (UM:Use P w K mg base "_law_merged" ["_law_one","_law_other"] 5 zan fB dB) (bS:Binds K fd ["_law_row"] []) (mS:mg "_law_stairs" = some (.ref f)):FnOk P w K mg base CX0 10 f fd ["_law_row"] zaU :=
 FnOk.any 4 fun m hm=>(zdb F G UM bS mS m).mono (by lia)
end
end K93
namespace L2
open PySem PySem.Spec PyProof.Rows Own
section
variable {X:Cx}
def zhu (ta:TA):TE:=fun σ H Q=>ta σ H fun vs H1=>∃ lo n:Nat,vs=[.int lo,.int (lo+n:Nat)]∧lo≤100000∧n≤100000∧∀ l,H1 l=none→Q (.ref l) (upd H1 l (.tup ((List.range n).map fun (i:Nat)=>V.int ((lo+i:Nat):Int))))
theorem zfB {a b:Expr}{ta:TA}{p p2 pos pos2:Pos}(hc:X.calm=true) (hgl:Gl X "tuple") (hml:X.mg "tuple" = none) (hgr:Gl X "range") (hmr:X.mg "range" = none) (ha:PA X [a,b] ta) (hs:starEach [a,b] X.env=[(false,eval a X.env),(false,eval b X.env)]:=by rfl) (hsb:starEach [b] X.env=[(false,eval b X.env)]:=by rfl)
  (hs2:starEach [.Call (.Name "range" p2) [a,b] [] pos2] X.env=[(false,eval (.Call (.Name "range" p2) [a,b] [] pos2) X.env)]:=by rfl):PE X (.Call (.Name "tuple" p) [.Call (.Name "range" p2) [a,b] [] pos2] [] pos) (zhu ta):=by
 intro pins s σ H Q I h
 refine wpAny_Call_Name_kw (zaR I hgl hml (u:=.type "tuple") (by rfl) (PyProof.Rows.callWith_type1 ?_ hs2 rfl))
 rw[hs2]
 refine Calls.spliced_cons (Call_ (zaR I hgr hmr boot_range (PyProof.Rows.callWith_type1 (thn (ha pos2 pins s σ H _ I h) fun us s1 ⟨vs,H1,I1,r1,q1⟩=>?_) (by rw[hs,hsb]) (by rw[hsb];rfl))))
 obtain⟨lo,n,rfl,hlo,hn,q⟩:=q1
 cases r1 with
 | cons r rr =>
 cases rr with
 | cons r' rr =>
 cases rr
 obtain⟨t,rfl⟩:=r
 obtain⟨t',rfl⟩:=r'
 refine call_range_2 (Calls.spliced_nil ?_)
 have sz:Builtin.Range.rangeSize (lo:Int) ((lo+n:Nat):Int) 1=((n:Nat):Int):=by rw[rangeSize_one];split<;>lia
 refine zeq (n:=n) (I1.ok.hd hc) (IsRange.new ..) (small_one (by lia) (by lia) (by lia) (by lia)) sz (Nat.le_trans hn (by decide)) fun h' tk acc kk it=>?_
 have k2:∀ b o,s1.heap.get? b=some o→h'.get? b=some o:=fun b o z=>kk b o (Heap.get?_push_of_some _ z)
 have I2:Inv X pins σ H1 { s1 with heap:=h',toks:=tk }:=I1.kept k2
 refine⟨.ref h'.objs.size,_,I2.laid (t':=tk) (o:=.tup ((List.range n).map fun (i:Nat)=>V.int ((lo+i:Nat):Int))) (fun b o e=>Heap.get?_push_of_some _ e) (Nat.le_refl _) ⟨by rw[List.length_map,List.length_range];exact Nat.le_trans hn (by decide),acc.toList,zd3 it,?_⟩,rfl,q _ (I2.hok.fresh (Nat.le_refl _))⟩
 exact⟨_,Heap.get?_push_size _ rfl,rfl,0,by simp,rfl⟩
end
end L2
namespace K93
open PySem L2 Own Bn
abbrev zgn:Stmt:=top 37
abbrev ziJ:Stmt:=top 38
abbrev ze9:Stmt:=top 39
theorem ziI {t u:TS}{D:Ends}{σ:St}{H:Hp}(G:St→Hp→Prop) (key:∀ σ H,G σ H→u D σ H) (h:(∀ σ H,G σ H→u D σ H)→t { D with nx:=u D } σ H):tSeq t u D σ H:=h key
theorem zfp (x y z:V):cutV [x,y,z] (some 1) none=[y,z]:=zdY [x,y,z] 1 (by simp)
def zdy:Sp:=fun vs H Q _=>∃ w k:Nat,vs=[.str (wayS w),.int (k:Nat)]∧Pln.Ok (.way w k)∧∀ r fr er ps H',Same H H'→NetAt H' r fr er ps (Pln.raw (.way w k))→Q (.ref r) H'
def ze6:Sp:=fun vs H Q _=>∃ (lanes:Nat) (r1 f1:Addr) (x1 y1:V) (ps1:List V) (fs1:List (Nat × Nat)) (r fr er:Addr) (ps:List V) (N:Nt) (p:Addr) (q:List Nat),vs=[.int (lanes:Nat),.ref r1,.ref r,.ref p]∧H r1=some (.tup [x1,.ref f1,y1])∧H f1=some (.tup ps1)∧Prs H ps1 fs1∧fs1.length≤128∧Nt.Ok N∧NetAt H r fr er ps N∧H p=some (.tup (nums q))∧N.lanes≤q.length ∧
 ∀ r' fr' er' ps' H',Same H H'→H' r'=some (.tup [.int (lanes:Nat),.ref fr',.ref er'])→H' fr'=some (.tup ps')→Prs H' ps' (fs1++N.forks.map (zaL q))→H' er'=some (.tup (nums (N.ends.map (nmq q))))→Q (.ref r') H'
def zcB (m:Nat):Sp:=fun vs H Q _=>∃ v p,vs=[v]∧Pln.Ok p∧p.hi≤m∧PlnAt H p v∧∀ r fr er ps H',Same H H'→NetAt H' r fr er ps p.raw→Q (.ref r) H'
section
variable {P:Program}{w:World}{K:PySem.W.Frag}{mg:Str→Option Value}{base:Heap}
theorem scTw:FnScope ["_law_word","_law_k","_law_row","_law_forks","_law_ends"] ["_law_word","_law_k"] (zaf zgn):=⟨rfl,rfl,rfl,by decide +kernel,rfl,by decide +kernel,by decide +kernel⟩
theorem zhN {f fS fB fM:Addr}{fd dS dB dM:FuncData}(F:Fun K "_law_told_way" "_law_told_way" zgn f fd) (G:Mgs mg) (US:Use P w K mg base "_law_stairs" ["_law_row"] 10 zaU fS dS) (UB:Use P w K mg base "_law_block" ["_law_row"] 5 (zbx 4) fB dB) (UM:Use P w K mg base "_law_merged" ["_law_one","_law_other"] 5 zan fM dM):FnOk P w K mg base CX0 11 f fd ["_law_word","_law_k"] zdy:=by
 refine F.ok scTw (fun vs H Q E h=>?_) (fun cdv A outer s H vs Q E hr h=>?_)
 ·obtain⟨u,k0,rfl,_⟩:=h
  rfl
 obtain⟨u,k0,rfl,⟨u3,k5,uk⟩,k⟩:=h
 have hr5:Room 5 _:=hr.mono (by decide)
 refine⟨_,(@pss_cons _ _ _ _ _ (@zak _ _ 2 _ _ _ _ scTw.nd rfl (.inl rfl) (@zeg _ _ _ _ _ _ _ rfl (by rfl) G.list (by rfl) G.range (@pa_cons _ _ _ _ _ (@pe_op _ _ _ _ _ _ _ _ zjT pe_int (@pv _ 1 _ _ (by rfl) (by first|exact Or.inl rfl|exact Or.inr (.inl rfl)|exact Or.inr (.inr rfl)) (by decide) (by decide))) pa_nil (by rfl)) (by rfl) (by rfl)) (by rfl) (by first|exact .inl rfl|exact .inr rfl|assumption)) (@pss_cons _ _ _ _ _ (@zgv _ _ 3 4 _ _ _ _ _ _ _ _ _ _ _ rfl scTw.nd rfl rfl (by decide) rfl rfl (@pa_cons _ _ _ _ _ (@zay _ _ _ _ pa_nil) (@pa_cons _ _ _ _ _ (@pv _ 2 _ _ (by rfl) (by first|exact Or.inl rfl|exact Or.inr (.inl rfl)|exact Or.inr (.inr rfl)) (by decide) (by decide)) pa_nil (by rfl)) (by rfl)) (by rfl) (by rfl)) (@pss_cons _ _ _ _ _ (@zau _ _ _ _ _ _ _ _ (@pt_cmpR _ _ _ _ _ _ _ _ zaS (@pv _ 0 _ _ (by rfl) (by first|exact Or.inl rfl|exact Or.inr (.inl rfl)|exact Or.inr (.inr rfl)) (by decide) (by decide)) pe_str (nomark _)) (@pss_one _ _ _ (@ps_asg _ _ _ _ _ _ (@pe_call _ _ _ _ _ _ _ _ _ _ _ _ _ _ _ _ US.ok hr (by rfl) US.m US.kp US.b .nil pass0 (@pa_cons _ _ _ _ _ (@pv _ 2 _ _ (by rfl) (by first|exact Or.inl rfl|exact Or.inr (.inl rfl)|exact Or.inr (.inr rfl)) (by decide) (by decide)) pa_nil (by rfl)) (by decide) (by rfl) (by rfl)) (@zao _ _ _ _ _ _ rfl (@pgs_cons _ _ _ _ _ (@zab _ _ 3 _ scTw.nd rfl (.inl rfl) (by first|exact .inl rfl|exact .inr rfl|assumption)) (@pgs_cons _ _ _ _ _ (@zab _ _ 4 _ scTw.nd rfl (.inl rfl) (by first|exact .inl rfl|exact .inr rfl|assumption)) pgs_nil (by rfl)) (by rfl)) (by rfl) (by rfl)) (by rfl) (by rfl) (by rfl))) (@pss_one _ _ _ (@zau _ _ _ _ _ _ _ _ (@pt_cmpR _ _ _ _ _ _ _ _ zaS (@pv _ 0 _ _ (by rfl) (by first|exact Or.inl rfl|exact Or.inr (.inl rfl)|exact Or.inr (.inr rfl)) (by decide) (by decide)) pe_str (nomark _)) (@pss_one _ _ _ (@zak _ _ 3 _ _ _ _ scTw.nd rfl (.inl rfl) (@pe_op _ _ _ _ _ _ _ _ zff (@pe_call _ _ _ _ _ _ _ _ _ _ _ _ _ _ _ _ UB.ok hr5 (by rfl) UB.m UB.kp UB.b .nil pass0 (@pa_cons _ _ _ _ _ (@pv _ 2 _ _ (by rfl) (by first|exact Or.inl rfl|exact Or.inr (.inl rfl)|exact Or.inr (.inr rfl)) (by decide) (by decide)) pa_nil (by rfl)) (by decide) (by rfl) (by rfl)) (@pv _ 1 _ _ (by rfl) (by first|exact Or.inl rfl|exact Or.inr (.inl rfl)|exact Or.inr (.inr rfl)) (by decide) (by decide))) (by rfl) (by first|exact .inl rfl|exact .inr rfl|assumption))) (@pss_one _ _ _ (@ps_asg _ _ _ _ _ _ (@pe_call _ _ _ _ _ _ _ _ _ _ _ _ _ _ _ _ UM.ok hr5 (by rfl) UM.m UM.kp UM.b .nil pass0 (@pa_cons _ _ _ _ _ (@pe_slice _ _ _ _ _ _ _ _ _ _ sl_list (@pv _ 2 _ _ (by rfl) (by first|exact Or.inl rfl|exact Or.inr (.inl rfl)|exact Or.inr (.inr rfl)) (by decide) (by decide)) po_none (@po_some _ _ _ (@pe_op _ _ _ _ _ _ _ _ zar (@zaj _ _ _ _ _ _ _ _ _ zai (by rfl) G.len PySem.boot_len (@pa_cons _ _ _ _ _ (@pv _ 2 _ _ (by rfl) (by first|exact Or.inl rfl|exact Or.inr (.inl rfl)|exact Or.inr (.inr rfl)) (by decide) (by decide)) pa_nil (by rfl)) (by decide) (by decide) (by rfl) (by rfl)) pe_int))) (@pa_cons _ _ _ _ _ (@pe_slice _ _ _ _ _ _ _ _ _ _ sl_list (@pv _ 2 _ _ (by rfl) (by first|exact Or.inl rfl|exact Or.inr (.inl rfl)|exact Or.inr (.inr rfl)) (by decide) (by decide)) (@po_some _ _ _ (@pe_op _ _ _ _ _ _ _ _ zar (@zaj _ _ _ _ _ _ _ _ _ zai (by rfl) G.len PySem.boot_len (@pa_cons _ _ _ _ _ (@pv _ 2 _ _ (by rfl) (by first|exact Or.inl rfl|exact Or.inr (.inl rfl)|exact Or.inr (.inr rfl)) (by decide) (by decide)) pa_nil (by rfl)) (by decide) (by decide) (by rfl) (by rfl)) pe_int)) po_none) pa_nil (by rfl)) (by rfl)) (by decide) (by rfl) (by rfl)) (@zao _ _ _ _ _ _ rfl (@pgs_cons _ _ _ _ _ (@zab _ _ 3 _ scTw.nd rfl (.inl rfl) (by first|exact .inl rfl|exact .inr rfl|assumption)) (@pgs_cons _ _ _ _ _ (@zab _ _ 4 _ scTw.nd rfl (.inl rfl) (by first|exact .inl rfl|exact .inr rfl|assumption)) pgs_nil (by rfl)) (by rfl)) (by rfl) (by rfl)) (by rfl) (by rfl) (by rfl)))))) (@pss_one _ _ _ (@ps_ret _ _ _ _ (@pe_tup _ _ _ _ _ (@pa_cons _ _ _ _ _ (@zaj _ _ _ _ _ _ _ _ _ zai (by rfl) G.len PySem.boot_len (@pa_cons _ _ _ _ _ (@pv _ 2 _ _ (by rfl) (by first|exact Or.inl rfl|exact Or.inr (.inl rfl)|exact Or.inr (.inr rfl)) (by decide) (by decide)) pa_nil (by rfl)) (by decide) (by decide) (by rfl) (by rfl)) (@pa_cons _ _ _ _ _ (@pe_callTy _ _ _ _ _ _ _ _ _ call_tuple_of (by rfl) G.tuple (by rfl) (@pa_cons _ _ _ _ _ (@pv _ 3 _ _ (by rfl) (by first|exact Or.inl rfl|exact Or.inr (.inl rfl)|exact Or.inr (.inr rfl)) (by decide) (by decide)) pa_nil (by rfl)) (by decide) (by decide) (by rfl) (by rfl)) (@pa_cons _ _ _ _ _ (@pe_callTy _ _ _ _ _ _ _ _ _ call_tuple_of (by rfl) G.tuple (by rfl) (@pa_cons _ _ _ _ _ (@pv _ 4 _ _ (by rfl) (by first|exact Or.inl rfl|exact Or.inr (.inl rfl)|exact Or.inr (.inr rfl)) (by decide) (by decide)) pa_nil (by rfl)) (by decide) (by decide) (by rfl) (by rfl)) pa_nil (by rfl)) (by rfl)) (by rfl)))))))),?_⟩
 have p16:2 ^ k0≤16:=(zgw k0 k5).2
 have e1:((1:Int)*2 ^ ((k0:Nat):Int).toNat)=((2 ^ k0:Nat):Int):=by
  rw[Int.toNat_natCast,Int.one_mul,Int.natCast_pow];rfl
 refine⟨_,rfl,_,_,rfl,rfl,⟨by lia,by lia,by decide⟩,?_⟩
 refine⟨2 ^ k0,by show [V.int ((1:Int)*2 ^ ((k0:Nat):Int).toNat)]=_;rw[e1],by lia,fun p hp=>?_⟩
 have s1:=zaa hp (.lst (nums (List.range (2 ^ k0))))
 have hp1:L2.upd H p (.lst (upTo (2 ^ k0))) p=some (.lst (nums (List.range (2 ^ k0)))):=zac
 refine⟨(by show 0≤sizeLine;decide),fun l0 hl0=>⟨_,rfl,_,_,rfl,?_⟩⟩
 have s2:=zaa hl0 (.lst [])
 have hp2:=s2 _ _ hp1
 have hl2:=atNew hl0 (.lst [])
 have u2:=s1.trans s2
 generalize L2.upd (L2.upd H p _) l0 _=H2 at s2 hp2 hl2 u2 ⊢
 have rl:(List.range (2 ^ k0)).length=2 ^ k0:=List.length_range
 dsimp only
 refine ziI (fun σ H3=>∃ lf le ps fs es,σ=[some (.str (wayS u)),some (.int (k0:Nat)),some (.ref p),some (.ref lf),some (.ref le)]∧Same H2 H3∧H3 lf=some (.lst ps)∧Prs H3 ps fs∧H3 le=some (.lst (nums es))∧(⟨2 ^ k0,fs,es⟩:Nt)=Pln.raw (.way u k0)) ?_ ?_
 rotate_left
 ·intro go
  match u,u3,uk with
  | 0,_,_ =>
   refine⟨_,rfl,rfl,_,rfl,zaq (by decide +kernel) ⟨_,rfl,k0,by lia,p,List.range (2 ^ k0),rfl,hp2,rl,by lia,fun c lf le ps H3 s3 hc hf pr he=>?_⟩⟩
   exact⟨c,_,rfl,SqT.of hc,rfl,_,_,rfl,_,_,rfl,rfl,go _ _ ⟨lf,le,ps,_,_,rfl,s3,hf,pr,he,rfl⟩⟩
  | 1,_,_ =>
   refine⟨_,rfl,rfl,_,rfl,iteFc (by decide +kernel) ⟨_,rfl,rfl,_,rfl,zaq (by decide +kernel) ⟨_,rfl,p,List.range (2 ^ k0),rfl,hp2,by rw[rl];exact p16,by rw[rl];lia,by decide,fun lf ps H3 s3 hf pr=>?_⟩⟩⟩
   rw[zdn k0 k5]at pr
   have pl:=pr.len
   have bl:=zaP k0 (List.range (2 ^ k0))
   rw[List.length_range]at bl
   have b2:k0*2 ^ k0≤4*16:=Nat.mul_le_mul (by lia) p16
   have b3:ps.length*k0≤(4*16)*4:=Nat.mul_le_mul (by lia) (by lia)
   refine⟨_,rfl,lf,k0,ps,rfl,rfl,hf,by lia,by lia,by rw[Int.toNat_natCast,sizeLine_eq];lia,fun l2 hl2=>?_⟩
   rw[Int.toNat_natCast]
   have s4:=zaa hl2 (.lst (List.replicate k0 ps).flatten)
   exact go _ _ ⟨l2,p,_,_,_,rfl,s3.trans s4,atNew hl2 _,(zeL pr k0).tups (Tups.of s4),s4 _ _ (s3 _ _ hp2),rfl⟩
  | 2,_,uk =>
   obtain⟨i,rfl⟩:∃ i,k0=i+1:=⟨k0-1,by have:=uk rfl;lia⟩
   refine⟨_,rfl,rfl,_,rfl,iteFc (by decide +kernel) ⟨_,rfl,rfl,_,rfl,iteFc (by decide +kernel) ?_⟩⟩
   obtain⟨t1,t2,t3⟩:=zbL rl
   have nl:=zae (List.range (2 ^ (i+1)))
   have eh:(((nums (List.range (2 ^ (i+1)))).length:Nat):Int) / 2=((2 ^ i:Nat):Int):=by rw[nl,← t1];lia
   have kl:2 ^ i≤(List.range (2 ^ (i+1))).length:=by rw[← t1];exact t3
   refine⟨_,rfl,_,rfl,p,_,rfl,.inl (SqL.of hp2),_,_,rfl,rfl,⟨by decide,by decide⟩,?_⟩
   simp only[eh]
   refine⟨_,rfl,p,_,rfl,SqL.of hp2,fun p3 hp3=>?_⟩
   rw[zfl _ _ kl]
   have s3:=zaa hp3 (.lst (nums ((List.range (2 ^ (i+1))).take (2 ^ i))))
   have hp23:=s3 _ _ hp2
   refine⟨_,rfl,_,rfl,p,_,rfl,.inl (SqL.of hp23),_,_,rfl,rfl,⟨by decide,by decide⟩,?_⟩
   simp only[eh]
   refine⟨_,rfl,p,_,rfl,SqL.of hp23,fun p4 hp4=>?_⟩
   rw[zfm _ _ kl]
   have s4:=zaa hp4 (.lst (nums ((List.range (2 ^ (i+1))).drop (2 ^ i))))
   have l2:((List.range (2 ^ (i+1))).take (2 ^ i)).length=2 ^ i:=by rw[List.length_take];lia
   have l3:((List.range (2 ^ (i+1))).drop (2 ^ i)).length=2 ^ i:=by rw[List.length_drop];lia
   refine⟨i,by lia,p3,p4,_,_,rfl,s4 _ _ (atNew hp3 _),atNew hp4 _,l2,l3,by lia,fun c lf le ps H5 s5 hc hf pr he=>?_⟩
   exact⟨c,_,rfl,SqT.of hc,rfl,_,_,rfl,_,_,rfl,rfl,go _ _ ⟨lf,le,ps,_,_,rfl,(s3.trans s4).trans s5,hf,pr,he,rfl⟩⟩
 rintro σ H3 ⟨lf,le,ps,fs,es,rfl,s3,hf,pr,he,eN⟩
 have okN:=(Pln.raw_ok (p:=.way u k0) ⟨u3,k5,uk⟩).1
 rw[← eN]at okN
 have fm:=okN.fm
 refine⟨_,rfl,p,_,rfl,.inl (SqL.of (s3 _ _ hp2)),_,rfl,lf,_,rfl,.inl ⟨SqL.of hf,fun fr hfr=>?_⟩⟩
 have s4:=zaa hfr (.tup ps)
 refine⟨_,rfl,le,_,rfl,.inl ⟨SqL.of (s4 _ _ he),fun er her=>?_⟩⟩
 have s5:=zaa her (.tup (nums es))
 refine⟨(by show 3≤sizeLine;decide),fun r hr'=>?_⟩
 have s6:=zaa hr' (.tup [.int (((nums (List.range (2 ^ k0))).length:Nat):Int),.ref fr,.ref er])
 refine k r fr er ps _ ((u2.trans s3).trans ((s4.trans s5).trans s6)) ?_
 rw[← eN]
 refine⟨?_,s6 _ _ (s5 _ _ (atNew hfr _)),pr.tups (Tups.of ((s4.trans s5).trans s6)),s6 _ _ (atNew her _)⟩
 rw[atNew hr' _,zae,rl]
theorem scTh:FnScope ["_law_lanes","_law_one","_law_other","_law_names_here","_law_forks"] ["_law_lanes","_law_one","_law_other","_law_names_here"] (zaf ziJ):=⟨rfl,rfl,rfl,by decide +kernel,rfl,by decide +kernel,by decide +kernel⟩
theorem ziY {f:Addr}{fd:FuncData}(F:Fun K "_law_then" "_law_then" ziJ f fd) (G:Mgs mg):FnOk P w K mg base CX0 1 f fd ["_law_lanes","_law_one","_law_other","_law_names_here"] ze6:=by
 refine F.ok scTh (fun vs H Q E h=>?_) (fun cdv A outer s H vs Q E hr h=>?_)
 ·obtain⟨lanes,r1,f1,x1,y1,ps1,fs1,r,fr,er,ps,N,p,q,rfl,_⟩:=h
  rfl
 obtain⟨lanes,r1,f1,x1,y1,ps1,fs1,r,fr,er,ps,N,p,q,rfl,h1,hf1,pr1,few1,ok,na,hp,ql,k⟩:=h
 refine⟨_,(@pss_cons _ _ _ _ _ (@zak _ _ 4 _ _ _ _ scTh.nd rfl (.inl rfl) (@pe_op _ _ _ _ _ _ _ _ zcd (@pe_ix _ _ _ _ _ _ _ zam (@pv _ 1 _ _ (by rfl) (by first|exact Or.inl rfl|exact Or.inr (.inl rfl)|exact Or.inr (.inr rfl)) (by decide) (by decide)) pe_int (fun _ _=>rfl)) (@pe_callTy _ _ _ _ _ _ _ _ _ call_tuple_of (by rfl) G.tuple (by rfl) (@pa_cons _ _ _ _ _ (@pe_lc _ _ _ _ none _ _ _ (gTup K 2 (zcS (zch 0) (zcS (zch 1) gNil))) _ _ ["_law_here","_law_there","_law_names_here"] [none,none,some 3] rfl (@zbY _ _ _ _ (@pe_ix _ _ _ _ _ _ _ zam (@pv _ 2 _ _ (by rfl) (by first|exact Or.inl rfl|exact Or.inr (.inl rfl)|exact Or.inr (.inr rfl)) (by decide) (by decide)) pe_int (fun _ _=>rfl))) (CapOk.of (by kernel_rfl)) (fun _ _ _ _ _=>(@zao _ _ _ _ _ _ rfl (@pgs_cons _ _ _ _ _ (@zab _ _ 0 _ (show (["_law_here","_law_there","_law_names_here"]:List Str).Nodup from by decide +kernel) rfl (.inl rfl) (.inr rfl)) (@pgs_cons _ _ _ _ _ (@zab _ _ 1 _ (show (["_law_here","_law_there","_law_names_here"]:List Str).Nodup from by decide +kernel) rfl (.inl rfl) (.inr rfl)) pgs_nil (by rfl)) (by rfl)) (by rfl) (by rfl))) (fun _ _ _ _ _=>zaV) (fun _ _ _ _ _=>(@pe_tup _ _ _ _ _ (@pa_cons _ _ _ _ _ (@pe_ix _ _ _ _ _ _ (rIxT K) zam (@pv _ 2 _ _ (by rfl) (by first|exact Or.inl rfl|exact Or.inr (.inl rfl)|exact Or.inr (.inr rfl)) (by decide) (by decide)) (@pv _ 0 _ _ (by rfl) (by first|exact Or.inl rfl|exact Or.inr (.inl rfl)|exact Or.inr (.inr rfl)) (by decide) (by decide)) (fun _ _=>rfl)) (@pa_cons _ _ _ _ _ (@pe_ix _ _ _ _ _ _ (rIxT K) zam (@pv _ 2 _ _ (by rfl) (by first|exact Or.inl rfl|exact Or.inr (.inl rfl)|exact Or.inr (.inr rfl)) (by decide) (by decide)) (@pv _ 1 _ _ (by rfl) (by first|exact Or.inl rfl|exact Or.inr (.inl rfl)|exact Or.inr (.inr rfl)) (by decide) (by decide)) (fun _ _=>rfl)) pa_nil (by rfl)) (by rfl)))) (by intro _;rfl)) pa_nil (by rfl)) (by decide) (by decide) (by rfl) (by rfl))) (by rfl) (by first|exact .inl rfl|exact .inr rfl|assumption)) (@pss_one _ _ _ (@ps_ret _ _ _ _ (@pe_tup _ _ _ _ _ (@pa_cons _ _ _ _ _ (@pv _ 0 _ _ (by rfl) (by first|exact Or.inl rfl|exact Or.inr (.inl rfl)|exact Or.inr (.inr rfl)) (by decide) (by decide)) (@pa_cons _ _ _ _ _ (@pv _ 4 _ _ (by rfl) (by first|exact Or.inl rfl|exact Or.inr (.inl rfl)|exact Or.inr (.inr rfl)) (by decide) (by decide)) (@pa_cons _ _ _ _ _ (@pe_callTy _ _ _ _ _ _ _ _ _ call_tuple_of (by rfl) G.tuple (by rfl) (@pa_cons _ _ _ _ _ (@pe_lc _ _ _ _ none _ _ _ _ _ _ ["_law_lane","_law_names_here"] [none,some 3] rfl (@zbY _ _ _ _ (@pe_ix _ _ _ _ _ _ _ zam (@pv _ 2 _ _ (by rfl) (by first|exact Or.inl rfl|exact Or.inr (.inl rfl)|exact Or.inr (.inr rfl)) (by decide) (by decide)) pe_int (fun _ _=>rfl))) (CapOk.of (by kernel_rfl)) (fun _ _ _ _ _=>(@zab _ _ 0 _ (show (["_law_lane","_law_names_here"]:List Str).Nodup from by decide +kernel) rfl (.inl rfl) (.inr rfl))) (fun _ _ _ _ _=>zaV) (fun _ _ _ _ _=>(@pe_ix _ _ _ _ _ _ (rIxT K) zam (@pv _ 1 _ _ (by rfl) (by first|exact Or.inl rfl|exact Or.inr (.inl rfl)|exact Or.inr (.inr rfl)) (by decide) (by decide)) (@pv _ 0 _ _ (by rfl) (by first|exact Or.inl rfl|exact Or.inr (.inl rfl)|exact Or.inr (.inr rfl)) (by decide) (by decide)) (fun _ _=>rfl))) (by intro _;rfl)) pa_nil (by rfl)) (by decide) (by decide) (by rfl) (by rfl)) pa_nil (by rfl)) (by rfl)) (by rfl)))))),?_⟩
 have l16:=ok.l16
 have fm:=ok.fm
 have pl:=na.prs.len
 have pl1:=pr1.len
 have el:=zaH ok
 refine⟨_,rfl,r1,_,1,_,rfl,rfl,SqT.of h1,rfl,_,rfl,r,_,1,_,rfl,rfl,SqT.of na.net,rfl,fr,rfl,⟨_,SqT.of na.forks⟩,fun lq hlq=>?_⟩
 refine zdh (K:=K) (a:=fr) (xs:=ps) (fun i acc σ H4=>(∃ v0 v1,σ=[v0,v1,some (.ref p)])∧Same H H4∧H4 lq=some (.lst acc)∧acc.length=i∧Prs H4 acc ((N.forks.take i).map (zaL q))) ⟨⟨_,_,rfl⟩,zaa hlq _,zac,rfl,trivial⟩ (fun i acc σ H4 z=>⟨z.2.2.1,SqT.of (z.2.1 _ _ na.forks)⟩) ?_ ?_
 ·rintro i x acc σ H4 hx ⟨⟨v0,v1,rfl⟩,s4,h4,al,pr⟩
  obtain⟨a,g,rfl,eg,ha⟩:=(na.prs.tups (Tups.of s4)).get hx
  have okg:=ok.fk g (List.mem_of_getElem? eg)
  have il:i<ps.length:=(List.getElem?_eq_some_iff.mp hx).1
  have ig:i<N.forks.length:=(List.getElem?_eq_some_iff.mp eg).1
  refine⟨a,_,rfl,SqT.of ha,rfl,_,_,rfl,_,_,rfl,rfl,?_⟩
  refine⟨_,rfl,_,rfl,p,_,_,_,rfl,rfl,SqT.of (s4 _ _ hp),zdN (by lia),_,rfl,_,rfl,p,_,_,_,rfl,rfl,SqT.of (s4 _ _ hp),zdN (by lia),(by show 2≤sizeLine;decide),fun t ht=>?_⟩
  have s5:=zaa ht (.tup [.int (nmq q g.1:Nat),.int (nmq q g.2:Nat)])
  have h5:=s5 _ _ h4
  refine⟨h5,Nat.lt_of_lt_of_le (show _<1000 by lia) (by decide),nx il ⟨⟨_,_,rfl⟩,fun b o e=>?_,zac,by simp[al],?_⟩⟩
  ·rw[zag (zad e hlq)];exact s5 _ _ (s4 b o e)
  ·rw[List.take_succ_eq_append_getElem ig,List.map_append,(List.getElem?_eq_some_iff.mp eg).2]
   exact Prs.add (f:=zaL q g) (Tups.lst h5 _ _ (atNew ht _)) ((pr.tups (Tups.of s5)).tups (Tups.lst h5))
 rintro acc σ H4 ⟨⟨v0,v1,rfl⟩,s4,h4,al,pr⟩
 rw[pl,List.take_length]at pr
 refine⟨lq,_,rfl,.inl ⟨SqL.of h4,fun t5 ht5=>?_⟩⟩
 have s5:=zaa ht5 (.tup acc)
 have u5:=s4.trans s5
 refine⟨f1,t5,_,_,rfl,rfl,u5 _ _ hf1,atNew ht5 _,by rw[sizeLine_eq];lia,fun fr' H6 s6 h6=>?_⟩
 have u6:=u5.trans s6
 have pr6:=Prs.app (pr1.tups (Tups.of u6)) (pr.tups (Tups.of (s5.trans s6)))
 refine⟨_,rfl,_,rfl,_,rfl,r,_,2,_,rfl,rfl,SqT.of (u6 _ _ na.net),rfl,er,rfl,⟨_,SqT.of (u6 _ _ na.ends)⟩,fun l hl=>?_⟩
 refine zdh (K:=K) (a:=er) (xs:=nums N.ends) (fun i acc σ H4=>(∃ v,σ=[v,some (.ref p)])∧Same H6 H4∧H4 l=some (.lst acc)∧acc=nums ((N.ends.take i).map (nmq q))) ⟨⟨_,rfl⟩,zaa hl _,zac,rfl⟩ (fun i acc σ H4 z=>⟨z.2.2.1,SqT.of (z.2.1 _ _ (u6 _ _ na.ends))⟩) ?_ ?_
 ·rintro i x acc σ H7 hx ⟨⟨v,rfl⟩,s7,h7,rfl⟩
  have il:i<N.ends.length:=by have:=(List.getElem?_eq_some_iff.mp hx).1;rwa [zae]at this
  have ex:x=.int N.ends[i]:=by
   unfold nums at hx
   rw[List.getElem?_map,List.getElem?_eq_getElem il]at hx;exact(Option.some.inj hx).symm
  subst ex
  have lt':=zbH ok (List.getElem_mem il)
  refine⟨_,rfl,_,rfl,p,_,_,_,rfl,rfl,SqT.of (s7 _ _ (u6 _ _ hp)),zdN (by lia),h7,?_,nx (by rw[zae];exact il) ⟨⟨_,rfl⟩,fun b o e=>?_,zac,?_⟩⟩
  ·rw[zae,List.length_map,List.length_take];exact Nat.lt_of_le_of_lt (Nat.min_le_left _ _) (Nat.lt_of_lt_of_le (show i<1000 by lia) (by decide))
  ·rw[zag (zad e hl)];exact s7 b o e
  ·rw[List.take_succ_eq_append_getElem il,List.map_append]
   unfold nums
   rw[List.map_append];rfl
 rintro acc7 σ H7 ⟨⟨v,rfl⟩,s7,h7,rfl⟩
 rw[zae,List.take_length]at h7
 refine⟨l,_,rfl,.inl ⟨SqL.of h7,fun er' her'=>?_⟩⟩
 have s8:=zaa her' (.tup (nums (N.ends.map (nmq q))))
 refine⟨(by show 3≤sizeLine;decide),fun t ht=>?_⟩
 have s9:=zaa ht (.tup [.int (lanes:Nat),.ref fr',.ref er'])
 have u9:=(s7.trans s8).trans s9
 exact k t fr' er' _ _ (u6.trans u9) (atNew ht _) (u9 _ _ h6) (pr6.tups (Tups.of u9)) (s9 _ _ (atNew her' _))
theorem scLm:FnScope ["_law_plan_here","_law_word","_law_one","_law_other","_law_lanes","_law_forks","_law_ends","_law_made_here","_law_last"] ["_law_plan_here"] (zaf ze9):=⟨rfl,rfl,rfl,by decide +kernel,rfl,by decide +kernel,by decide +kernel⟩
theorem zgL {f fW fT fM:Addr}{fd dW dT dM:FuncData}(n:Nat) (F:Fun K "_law_made" "_law_made" ze9 f fd) (G:Mgs mg) (UW:Use P w K mg base "_law_told_way" ["_law_word","_law_k"] 11 zdy fW dW) (UT:Use P w K mg base "_law_then" ["_law_lanes","_law_one","_law_other","_law_names_here"] 1 ze6 fT dT) (UM:Use P w K mg base "_law_merged" ["_law_one","_law_other"] 5 zan fM dM)
  (UD:Use P w K mg base "_law_made" ["_law_plan_here"] (11+n) (zcB n) f fd):FnOk P w K mg base CX0 (11+n+1) f fd ["_law_plan_here"] (zcB (n+1)):=by
 refine F.ok scLm (fun vs H Q E h=>?_) (fun cdv A outer s H vs Q E hr h=>?_)
 ·obtain⟨v,p,rfl,_⟩:=h
  rfl
 obtain⟨v,p,rfl,ok,hn,at',k⟩:=h
 have hr1:Room 1 _:=hr.mono (by lia)
 have hr5:Room 5 _:=hr.mono (by lia)
 have hr11:Room 11 _:=hr.mono (by lia)
 refine⟨_,(@pss_cons _ _ _ _ _ (@zak _ _ 1 _ _ _ _ scLm.nd rfl (.inl rfl) (@pe_ix _ _ _ _ _ _ _ zam (@pv _ 0 _ _ (by rfl) (by first|exact Or.inl rfl|exact Or.inr (.inl rfl)|exact Or.inr (.inr rfl)) (by decide) (by decide)) pe_int (fun _ _=>rfl)) (by rfl) (by first|exact .inl rfl|exact .inr rfl|assumption)) (@pss_cons _ _ _ _ _ (@zau _ _ _ _ _ _ _ _ (@pt_cmpR _ _ _ _ _ _ _ _ zaS (@pv _ 1 _ _ (by rfl) (by first|exact Or.inl rfl|exact Or.inr (.inl rfl)|exact Or.inr (.inr rfl)) (by decide) (by decide)) pe_str (nomark _)) (@pss_one _ _ _ (@ps_ret _ _ _ _ (@pe_ix _ _ _ _ _ _ _ zam (@pv _ 0 _ _ (by rfl) (by first|exact Or.inl rfl|exact Or.inr (.inl rfl)|exact Or.inr (.inr rfl)) (by decide) (by decide)) pe_int (fun _ _=>rfl)))) pss_nil) (@pss_cons _ _ _ _ _ (@zau _ _ _ _ _ _ _ _ (@pt_cmpR _ _ _ _ _ _ _ _ zgE (@pv _ 1 _ _ (by rfl) (by first|exact Or.inl rfl|exact Or.inr (.inl rfl)|exact Or.inr (.inr rfl)) (by decide) (by decide)) (@pe_tup _ _ _ _ _ (@pa_cons _ _ _ _ _ pe_str (@pa_cons _ _ _ _ _ pe_str (@pa_cons _ _ _ _ _ pe_str pa_nil (by rfl)) (by rfl)) (by rfl))) (by rfl)) (@pss_one _ _ _ (@ps_ret _ _ _ _ (@pe_call _ _ _ _ _ _ _ _ _ _ _ _ _ _ _ _ UW.ok hr11 (by rfl) UW.m UW.kp UW.b .nil pass0 (@pa_cons _ _ _ _ _ (@pv _ 1 _ _ (by rfl) (by first|exact Or.inl rfl|exact Or.inr (.inl rfl)|exact Or.inr (.inr rfl)) (by decide) (by decide)) (@pa_cons _ _ _ _ _ (@pe_ix _ _ _ _ _ _ _ zam (@pv _ 0 _ _ (by rfl) (by first|exact Or.inl rfl|exact Or.inr (.inl rfl)|exact Or.inr (.inr rfl)) (by decide) (by decide)) pe_int (fun _ _=>rfl)) pa_nil (by rfl)) (by rfl)) (by decide) (by rfl) (by rfl)))) pss_nil) (@pss_cons _ _ _ _ _ (@zak _ _ 2 _ _ _ _ scLm.nd rfl (.inl rfl) (@pe_call _ _ _ _ _ _ _ _ _ _ _ _ _ _ _ _ UD.ok hr (by rfl) UD.m UD.kp UD.b .nil pass0 (@pa_cons _ _ _ _ _ (@pe_ix _ _ _ _ _ _ _ zam (@pv _ 0 _ _ (by rfl) (by first|exact Or.inl rfl|exact Or.inr (.inl rfl)|exact Or.inr (.inr rfl)) (by decide) (by decide)) pe_int (fun _ _=>rfl)) pa_nil (by rfl)) (by decide) (by rfl) (by rfl)) (by rfl) (by first|exact .inl rfl|exact .inr rfl|assumption)) (@pss_cons _ _ _ _ _ (@zau _ _ _ _ _ _ _ _ (@pt_cmpR _ _ _ _ _ _ _ _ zaS (@pv _ 1 _ _ (by rfl) (by first|exact Or.inl rfl|exact Or.inr (.inl rfl)|exact Or.inr (.inr rfl)) (by decide) (by decide)) pe_str (nomark _)) (@pss_one _ _ _ (@ps_ret _ _ _ _ (@pe_call _ _ _ _ _ _ _ _ _ _ _ _ _ _ _ _ UT.ok hr1 (by rfl) UT.m UT.kp UT.b .nil pass0 (@pa_cons _ _ _ _ _ (@pe_ix _ _ _ _ _ _ _ zam (@pv _ 2 _ _ (by rfl) (by first|exact Or.inl rfl|exact Or.inr (.inl rfl)|exact Or.inr (.inr rfl)) (by decide) (by decide)) pe_int (fun _ _=>rfl)) (@pa_cons _ _ _ _ _ (@pe_tup _ _ _ _ _ (@pa_cons _ _ _ _ _ (@pe_ix _ _ _ _ _ _ _ zam (@pv _ 2 _ _ (by rfl) (by first|exact Or.inl rfl|exact Or.inr (.inl rfl)|exact Or.inr (.inr rfl)) (by decide) (by decide)) pe_int (fun _ _=>rfl)) (@pa_cons _ _ _ _ _ (@pe_tup _ _ _ _ _ pa_nil) (@pa_cons _ _ _ _ _ (@pe_tup _ _ _ _ _ pa_nil) pa_nil (by rfl)) (by rfl)) (by rfl))) (@pa_cons _ _ _ _ _ (@pv _ 2 _ _ (by rfl) (by first|exact Or.inl rfl|exact Or.inr (.inl rfl)|exact Or.inr (.inr rfl)) (by decide) (by decide)) (@pa_cons _ _ _ _ _ (@pe_ix _ _ _ _ _ _ _ zam (@pv _ 0 _ _ (by rfl) (by first|exact Or.inl rfl|exact Or.inr (.inl rfl)|exact Or.inr (.inr rfl)) (by decide) (by decide)) pe_int (fun _ _=>rfl)) pa_nil (by rfl)) (by rfl)) (by rfl)) (by rfl)) (by decide) (by rfl) (by rfl)))) pss_nil) (@pss_cons _ _ _ _ _ (@zau _ _ _ _ _ _ _ _ (@pt_cmpR _ _ _ _ _ _ _ _ zaS (@pv _ 1 _ _ (by rfl) (by first|exact Or.inl rfl|exact Or.inr (.inl rfl)|exact Or.inr (.inr rfl)) (by decide) (by decide)) pe_str (nomark _)) (@pss_one _ _ _ (@ps_ret _ _ _ _ (@pe_call _ _ _ _ _ _ _ _ _ _ _ _ _ _ _ _ UT.ok hr1 (by rfl) UT.m UT.kp UT.b .nil pass0 (@pa_cons _ _ _ _ _ (@pe_ix _ _ _ _ _ _ _ zam (@pv _ 2 _ _ (by rfl) (by first|exact Or.inl rfl|exact Or.inr (.inl rfl)|exact Or.inr (.inr rfl)) (by decide) (by decide)) pe_int (fun _ _=>rfl)) (@pa_cons _ _ _ _ _ (@pv _ 2 _ _ (by rfl) (by first|exact Or.inl rfl|exact Or.inr (.inl rfl)|exact Or.inr (.inr rfl)) (by decide) (by decide)) (@pa_cons _ _ _ _ _ (@pe_call _ _ _ _ _ _ _ _ _ _ _ _ _ _ _ _ UD.ok hr (by rfl) UD.m UD.kp UD.b .nil pass0 (@pa_cons _ _ _ _ _ (@pe_ix _ _ _ _ _ _ _ zam (@pv _ 0 _ _ (by rfl) (by first|exact Or.inl rfl|exact Or.inr (.inl rfl)|exact Or.inr (.inr rfl)) (by decide) (by decide)) pe_int (fun _ _=>rfl)) pa_nil (by rfl)) (by decide) (by rfl) (by rfl)) (@pa_cons _ _ _ _ _ (@pe_ix _ _ _ _ _ _ _ zam (@pv _ 2 _ _ (by rfl) (by first|exact Or.inl rfl|exact Or.inr (.inl rfl)|exact Or.inr (.inr rfl)) (by decide) (by decide)) pe_int (fun _ _=>rfl)) pa_nil (by rfl)) (by rfl)) (by rfl)) (by rfl)) (by decide) (by rfl) (by rfl)))) pss_nil) (@pss_cons _ _ _ _ _ (@zak _ _ 3 _ _ _ _ scLm.nd rfl (.inl rfl) (@zhJ _ _ _ _ _ _ _ _ (@pt_cmpR _ _ _ _ _ _ _ _ zaS (@pv _ 1 _ _ (by rfl) (by first|exact Or.inl rfl|exact Or.inr (.inl rfl)|exact Or.inr (.inr rfl)) (by decide) (by decide)) pe_str (nomark _)) (@pv _ 2 _ _ (by rfl) (by first|exact Or.inl rfl|exact Or.inr (.inl rfl)|exact Or.inr (.inr rfl)) (by decide) (by decide)) (@pe_call _ _ _ _ _ _ _ _ _ _ _ _ _ _ _ _ UD.ok hr (by rfl) UD.m UD.kp UD.b .nil pass0 (@pa_cons _ _ _ _ _ (@pe_ix _ _ _ _ _ _ _ zam (@pv _ 0 _ _ (by rfl) (by first|exact Or.inl rfl|exact Or.inr (.inl rfl)|exact Or.inr (.inr rfl)) (by decide) (by decide)) pe_int (fun _ _=>rfl)) pa_nil (by rfl)) (by decide) (by rfl) (by rfl))) (by rfl) (by first|exact .inl rfl|exact .inr rfl|assumption)) (@pss_cons _ _ _ _ _ (@zak _ _ 4 _ _ _ _ scLm.nd rfl (.inl rfl) (@pe_op _ _ _ _ _ _ _ _ op_add (@pe_ix _ _ _ _ _ _ _ zam (@pv _ 2 _ _ (by rfl) (by first|exact Or.inl rfl|exact Or.inr (.inl rfl)|exact Or.inr (.inr rfl)) (by decide) (by decide)) pe_int (fun _ _=>rfl)) (@pe_ix _ _ _ _ _ _ _ zam (@pv _ 3 _ _ (by rfl) (by first|exact Or.inl rfl|exact Or.inr (.inl rfl)|exact Or.inr (.inr rfl)) (by decide) (by decide)) pe_int (fun _ _=>rfl))) (by rfl) (by first|exact .inl rfl|exact .inr rfl|assumption)) (@pss_cons _ _ _ _ _ (@ps_asg _ _ _ _ _ _ (@pe_slice _ _ _ _ _ _ _ _ _ _ zgj (@pe_call _ _ _ _ _ _ _ _ _ _ _ _ _ _ _ _ UT.ok hr1 (by rfl) UT.m UT.kp UT.b .nil pass0 (@pa_cons _ _ _ _ _ (@pv _ 4 _ _ (by rfl) (by first|exact Or.inl rfl|exact Or.inr (.inl rfl)|exact Or.inr (.inr rfl)) (by decide) (by decide)) (@pa_cons _ _ _ _ _ (@pv _ 2 _ _ (by rfl) (by first|exact Or.inl rfl|exact Or.inr (.inl rfl)|exact Or.inr (.inr rfl)) (by decide) (by decide)) (@pa_cons _ _ _ _ _ (@pv _ 3 _ _ (by rfl) (by first|exact Or.inl rfl|exact Or.inr (.inl rfl)|exact Or.inr (.inr rfl)) (by decide) (by decide)) (@pa_cons _ _ _ _ _ (@zfB _ _ _ _ _ _ _ _ rfl (by rfl) G.tuple (by rfl) G.range (@pa_cons _ _ _ _ _ (@pe_ix _ _ _ _ _ _ _ zam (@pv _ 2 _ _ (by rfl) (by first|exact Or.inl rfl|exact Or.inr (.inl rfl)|exact Or.inr (.inr rfl)) (by decide) (by decide)) pe_int (fun _ _=>rfl)) (@pa_cons _ _ _ _ _ (@pv _ 4 _ _ (by rfl) (by first|exact Or.inl rfl|exact Or.inr (.inl rfl)|exact Or.inr (.inr rfl)) (by decide) (by decide)) pa_nil (by rfl)) (by rfl)) (by rfl) (by rfl) (by rfl)) pa_nil (by rfl)) (by rfl)) (by rfl)) (by rfl)) (by decide) (by rfl) (by rfl)) (@po_some _ _ _ pe_int) po_none) (@zao _ _ _ _ _ _ rfl (@pgs_cons _ _ _ _ _ (@zab _ _ 5 _ scLm.nd rfl (.inl rfl) (by first|exact .inl rfl|exact .inr rfl|assumption)) (@pgs_cons _ _ _ _ _ (@zab _ _ 6 _ scLm.nd rfl (.inl rfl) (by first|exact .inl rfl|exact .inr rfl|assumption)) pgs_nil (by rfl)) (by rfl)) (by rfl) (by rfl)) (by rfl) (by rfl) (by rfl)) (@pss_cons _ _ _ _ _ (@zau _ _ _ _ _ _ _ _ (@pt_cmpR _ _ _ _ _ _ _ _ zaS (@pv _ 1 _ _ (by rfl) (by first|exact Or.inl rfl|exact Or.inr (.inl rfl)|exact Or.inr (.inr rfl)) (by decide) (by decide)) pe_str (nomark _)) (@pss_one _ _ _ (@ps_ret _ _ _ _ (@pe_tup _ _ _ _ _ (@pa_cons _ _ _ _ _ (@pv _ 4 _ _ (by rfl) (by first|exact Or.inl rfl|exact Or.inr (.inl rfl)|exact Or.inr (.inr rfl)) (by decide) (by decide)) (@pa_cons _ _ _ _ _ (@pv _ 5 _ _ (by rfl) (by first|exact Or.inl rfl|exact Or.inr (.inl rfl)|exact Or.inr (.inr rfl)) (by decide) (by decide)) (@pa_cons _ _ _ _ _ (@pe_op _ _ _ _ _ _ _ _ zcd (@pe_ix _ _ _ _ _ _ _ zam (@pv _ 2 _ _ (by rfl) (by first|exact Or.inl rfl|exact Or.inr (.inl rfl)|exact Or.inr (.inr rfl)) (by decide) (by decide)) pe_int (fun _ _=>rfl)) (@pv _ 6 _ _ (by rfl) (by first|exact Or.inl rfl|exact Or.inr (.inl rfl)|exact Or.inr (.inr rfl)) (by decide) (by decide))) pa_nil (by rfl)) (by rfl)) (by rfl))))) pss_nil) (@pss_cons _ _ _ _ _ (@ps_asg _ _ _ _ _ _ (@pe_call _ _ _ _ _ _ _ _ _ _ _ _ _ _ _ _ UM.ok hr5 (by rfl) UM.m UM.kp UM.b .nil pass0 (@pa_cons _ _ _ _ _ (@pe_callTy _ _ _ _ _ _ _ _ _ zbt (by rfl) G.list (by rfl) (@pa_cons _ _ _ _ _ (@pe_ix _ _ _ _ _ _ _ zam (@pv _ 2 _ _ (by rfl) (by first|exact Or.inl rfl|exact Or.inr (.inl rfl)|exact Or.inr (.inr rfl)) (by decide) (by decide)) pe_int (fun _ _=>rfl)) pa_nil (by rfl)) (by decide) (by decide) (by rfl) (by rfl)) (@pa_cons _ _ _ _ _ (@pe_callTy _ _ _ _ _ _ _ _ _ zbt (by rfl) G.list (by rfl) (@pa_cons _ _ _ _ _ (@pv _ 6 _ _ (by rfl) (by first|exact Or.inl rfl|exact Or.inr (.inl rfl)|exact Or.inr (.inr rfl)) (by decide) (by decide)) pa_nil (by rfl)) (by decide) (by decide) (by rfl) (by rfl)) pa_nil (by rfl)) (by rfl)) (by decide) (by rfl) (by rfl)) (@zao _ _ _ _ _ _ rfl (@pgs_cons _ _ _ _ _ (@zab _ _ 7 _ scLm.nd rfl (.inl rfl) (by first|exact .inl rfl|exact .inr rfl|assumption)) (@pgs_cons _ _ _ _ _ (@zab _ _ 8 _ scLm.nd rfl (.inl rfl) (by first|exact .inl rfl|exact .inr rfl|assumption)) pgs_nil (by rfl)) (by rfl)) (by rfl) (by rfl)) (by rfl) (by rfl) (by rfl)) (@pss_one _ _ _ (@ps_ret _ _ _ _ (@pe_tup _ _ _ _ _ (@pa_cons _ _ _ _ _ (@pv _ 4 _ _ (by rfl) (by first|exact Or.inl rfl|exact Or.inr (.inl rfl)|exact Or.inr (.inr rfl)) (by decide) (by decide)) (@pa_cons _ _ _ _ _ (@pe_op _ _ _ _ _ _ _ _ zcd (@pv _ 5 _ _ (by rfl) (by first|exact Or.inl rfl|exact Or.inr (.inl rfl)|exact Or.inr (.inr rfl)) (by decide) (by decide)) (@pe_callTy _ _ _ _ _ _ _ _ _ call_tuple_of (by rfl) G.tuple (by rfl) (@pa_cons _ _ _ _ _ (@pv _ 7 _ _ (by rfl) (by first|exact Or.inl rfl|exact Or.inr (.inl rfl)|exact Or.inr (.inr rfl)) (by decide) (by decide)) pa_nil (by rfl)) (by decide) (by decide) (by rfl) (by rfl))) (@pa_cons _ _ _ _ _ (@pe_callTy _ _ _ _ _ _ _ _ _ call_tuple_of (by rfl) G.tuple (by rfl) (@pa_cons _ _ _ _ _ (@pv _ 8 _ _ (by rfl) (by first|exact Or.inl rfl|exact Or.inr (.inl rfl)|exact Or.inr (.inr rfl)) (by decide) (by decide)) pa_nil (by rfl)) (by decide) (by decide) (by rfl) (by rfl)) pa_nil (by rfl)) (by rfl)) (by rfl)))))))))))))))),?_⟩
 obtain⟨t,wd,y,xs,rfl,ht⟩:=at'.top
 refine⟨_,rfl,t,_,0,_,rfl,rfl,SqT.of ht,zaX (j:=0) rfl,?_⟩
 cases p with
 | net N =>
  obtain⟨t',r,fr,er,ps,e,h,na⟩:=at'
  cases e
  cases zaQ ht h
  exact⟨_,rfl,rfl,_,rfl,zaq (by decide +kernel) ⟨_,rfl,t,_,1,_,rfl,rfl,SqT.of ht,rfl,k r fr er ps H (Same.refl H) na⟩⟩
 | way u j =>
  obtain⟨t',e,h⟩:=at'
  cases e
  cases zaQ ht h
  have u3:=ok.1
  have iw:inV (.str (wayS u)) [.str "stairway",.str "rounds",.str "merger"]=true:=by
   match u,u3 with
   | 0,_=>decide +kernel
   | 1,_=>decide +kernel
   | 2,_=>decide +kernel
  have nw:decide (V.str (wayS u)=.str "net")=false:=by
   match u,u3 with
   | 0,_=>decide +kernel
   | 1,_=>decide +kernel
   | 2,_=>decide +kernel
  refine⟨_,rfl,rfl,_,rfl,iteFc nw ⟨_,rfl,(by show 3≤sizeLine;decide),fun tt htt=>⟨tt,_,rfl,.inr (SqT.of (atNew htt _)),rfl,rfl,_,rfl,zaq iw ?_⟩⟩⟩
  have s1:=zaa htt (.tup [.str "stairway",.str "rounds",.str "merger"])
  exact⟨_,rfl,_,rfl,t,_,1,_,rfl,rfl,SqT.of (s1 _ _ ht),rfl,u,j,rfl,ok,fun r fr er ps H2 s2 n2=>k r fr er ps H2 (s1.trans s2) n2⟩
 | dbl p =>
  obtain⟨t',u,e,h,a⟩:=at'
  cases e
  cases zaQ ht h
  have hn':p.hi+1≤n+1:=hn
  obtain⟨okR,lR,mR⟩:=Pln.raw_ok ok.1
  obtain⟨i,i4,ei,epw⟩:=zcb _ ok.2.1
  have eD:(Pln.dbl p).raw=zaK i p.raw:=by show zaK (pwr (2*p.lanes)-1) p.raw=_;rw[epw];rfl
  have l8:p.raw.lanes≤8:=by rw[lR];exact(show ∀ n∈([1,2,4,8]:List Nat),n≤8 from by decide) _ ok.2.1
  refine⟨_,rfl,rfl,_,rfl,iteFc (by decide +kernel) ⟨_,rfl,(by show 3≤sizeLine;decide),fun tt htt=>⟨tt,_,rfl,.inr (SqT.of (atNew htt _)),rfl,rfl,_,rfl,iteFc (by decide +kernel) ?_⟩⟩⟩
  have s1:=zaa htt (.tup [.str "stairway",.str "rounds",.str "merger"])
  refine⟨_,rfl,t,_,1,_,rfl,rfl,SqT.of (s1 _ _ ht),rfl,_,p,rfl,ok.1,by lia,a.tups (Tups.of s1),fun r fr er ps H2 s2 na=>?_⟩
  have u2:=s1.trans s2
  refine⟨_,rfl,rfl,_,rfl,iteFc (by decide +kernel) ⟨_,rfl,rfl,_,rfl,iteFc (by decide +kernel) ⟨_,rfl,rfl,_,rfl,?_⟩⟩⟩
  refine zaq (by decide +kernel) ⟨_,rfl,?_⟩
  have el:((p.raw.lanes:Nat):Int)+((p.raw.lanes:Nat):Int)=((p.raw.lanes+p.raw.lanes:Nat):Int):=by lia
  refine⟨_,rfl,r,_,0,_,rfl,rfl,SqT.of na.net,rfl,_,rfl,r,_,0,_,rfl,rfl,SqT.of na.net,rfl,_,_,rfl,rfl,?_⟩
  dsimp only
  rw[el]
  refine⟨_,rfl,_,rfl,_,rfl,_,rfl,r,_,0,_,rfl,rfl,SqT.of na.net,rfl,_,rfl,p.raw.lanes,p.raw.lanes,rfl,by lia,by lia,fun tp htp=>?_⟩
  rw[zbF]
  have q1:=zaa htp (.tup (nums (za6 p.raw.lanes p.raw.lanes)))
  have na4:=na.tups (Tups.of q1)
  refine⟨p.raw.lanes+p.raw.lanes,r,fr,_,_,ps,p.raw.forks,r,fr,er,ps,p.raw,tp,za6 p.raw.lanes p.raw.lanes,rfl,na4.net,na4.forks,na4.prs,okR.fm,okR,na4,atNew htp _,by rw[zci];exact Nat.le_refl _,fun r' fr' er' ps' H4 s4 h1 h2 h3 h4=>?_⟩
  rw[zbs (fun f hf=>⟨(okR.fk f hf).1,(okR.fk f hf).2.1⟩)]at h3
  rw[zbG (fun e he=>zbH okR he)]at h4
  refine⟨1,rfl,r',_,rfl,h1,fun p5 H5 s5 h5=>?_⟩
  rw[zfp]at h5
  refine⟨p5,_,rfl,SqT.of h5,rfl,_,_,rfl,_,_,rfl,rfl,?_⟩
  have na5:=(na4.tups (Tups.of s4)).tups (Tups.of s5)
  have elen:=zaH okR
  have l2:p.raw.ends.length=2 ^ i:=by rw[elen,lR,ei]
  refine⟨_,rfl,rfl,_,rfl,iteFc (by decide +kernel) ?_⟩
  refine⟨_,rfl,r,_,2,_,rfl,rfl,SqT.of na5.net,rfl,er,_,rfl,.inr (SqT.of na5.ends),fun la hla=>?_⟩
  have s6:=zaa hla (.lst (nums p.raw.ends))
  refine⟨_,rfl,er',_,rfl,.inr (SqT.of (s6 _ _ (s5 _ _ h4))),fun lb hlb=>?_⟩
  have s7:=zaa hlb (.lst (nums (p.raw.ends.map (p.raw.lanes + ·))))
  refine⟨i,by lia,la,lb,_,_,rfl,s7 _ _ (atNew hla _),atNew hlb _,l2,by rw[List.length_map];exact l2,by lia,fun c lf le psm H8 s8 hc hf prm he=>?_⟩
  refine⟨c,_,rfl,SqT.of hc,rfl,_,_,rfl,_,_,rfl,rfl,?_⟩
  have u8:=((s5.trans s6).trans s7).trans s8
  refine⟨_,rfl,_,rfl,_,rfl,lf,_,rfl,.inl ⟨SqL.of hf,fun tm htm=>?_⟩⟩
  have s9:=zaa htm (.tup psm)
  have pl':=h3.len
  have plm:=prm.len
  obtain⟨ml1,ml2⟩:=zaA i _ _ l2 (show (p.raw.ends.map (p.raw.lanes + ·)).length=2 ^ i by rw[List.length_map];exact l2)
  have dfm:=(Pln.raw_ok ok).1.fm
  rw[eD]at dfm
  have dfm':((p.raw.forks++p.raw.forks.map (shF p.raw.lanes))++(zas i p.raw.ends (p.raw.ends.map (p.raw.lanes + ·))).1).length≤128:=dfm
  rw[List.length_append]at dfm'
  refine⟨fr',tm,_,_,rfl,rfl,s9 _ _ (u8 _ _ h2),atNew htm _,by rw[pl',plm,sizeLine_eq];lia,fun fx H10 s10 h10=>?_⟩
  have u10:=u8.trans (s9.trans s10)
  refine⟨_,rfl,le,_,rfl,.inl ⟨SqL.of (s10 _ _ (s9 _ _ he)),fun ex hex=>?_⟩⟩
  have s11:=zaa hex (.tup (nums (zas i p.raw.ends (p.raw.ends.map (p.raw.lanes + ·))).2))
  refine⟨(by show 3≤sizeLine;decide),fun rr hrr=>?_⟩
  have s12:=zaa hrr (.tup [.int ((p.raw.lanes+p.raw.lanes:Nat):Int),.ref fx,.ref ex])
  have u12:=s11.trans s12
  refine k rr fx ex (ps'++psm) _ (((u2.trans q1).trans s4).trans (u10.trans u12)) ?_
  rw[eD]
  exact⟨atNew hrr _,u12 _ _ h10,(Prs.app (h3.tups (Tups.of u10)) (prm.tups (Tups.of (s9.trans s10)))).tups (Tups.of u12),s12 _ _ (atNew hex _)⟩
 | ren p ns =>
  obtain⟨t',u,nn,e,h,hnn,a⟩:=at'
  cases e
  cases zaQ ht h
  have hn':p.hi+1≤n+1:=hn
  obtain⟨okR,lR,mR⟩:=Pln.raw_ok ok.1
  refine⟨_,rfl,rfl,_,rfl,iteFc (by decide +kernel) ⟨_,rfl,(by show 3≤sizeLine;decide),fun tt htt=>⟨tt,_,rfl,.inr (SqT.of (atNew htt _)),rfl,rfl,_,rfl,iteFc (by decide +kernel) ?_⟩⟩⟩
  have s1:=zaa htt (.tup [.str "stairway",.str "rounds",.str "merger"])
  refine⟨_,rfl,t,_,1,_,rfl,rfl,SqT.of (s1 _ _ ht),rfl,_,p,rfl,ok.1,by lia,a.tups (Tups.of s1),fun r fr er ps H2 s2 na=>?_⟩
  have u2:=s1.trans s2
  refine⟨_,rfl,rfl,_,rfl,zaq (by decide +kernel) ⟨_,rfl,r,_,0,_,rfl,rfl,SqT.of na.net,rfl,_,rfl,r,_,0,_,rfl,rfl,SqT.of na.net,rfl,?_⟩⟩
  refine⟨(by show 0≤sizeLine;decide),fun ta hta=>?_⟩
  have q1:=zaa hta (.tup [])
  refine⟨(by show 0≤sizeLine;decide),fun tb htb=>?_⟩
  have q2:=zaa htb (.tup [])
  refine⟨(by show 3≤sizeLine;decide),fun tc htc=>?_⟩
  have q3:=zaa htc (.tup [.int (p.raw.lanes:Nat),.ref ta,.ref tb])
  have u5:=(q1.trans q2).trans q3
  have na5:=na.tups (Tups.of u5)
  refine⟨_,rfl,_,rfl,t,_,2,_,rfl,rfl,SqT.of (u5 _ _ (u2 _ _ ht)),rfl,p.raw.lanes,tc,ta,_,_,[],[],r,fr,er,ps,p.raw,nn,ns,rfl,atNew htc _,q3 _ _ (q2 _ _ (atNew hta _)),trivial,by show 0≤128;decide,okR,na5,u5 _ _ (u2 _ _ hnn),by rw[ok.2.length_eq,List.length_range,lR];exact Nat.le_refl _,fun r' fr' er' ps' H4 s4 h1 h2 h3 h4=>?_⟩
  exact k r' fr' er' ps' H4 ((u2.trans u5).trans s4) ⟨h1,h2,h3,h4⟩
 | bes p q =>
  obtain⟨t',u,x,e,h,a,b⟩:=at'
  cases e
  cases zaQ ht h
  have hn':max p.hi q.hi+1≤n+1:=hn
  obtain⟨okR,lR,mR⟩:=Pln.raw_ok ok.1
  obtain⟨okS,lS,mS⟩:=Pln.raw_ok ok.2.1
  have l16:=ok.2.2.1
  refine⟨_,rfl,rfl,_,rfl,iteFc (by decide +kernel) ⟨_,rfl,(by show 3≤sizeLine;decide),fun tt htt=>⟨tt,_,rfl,.inr (SqT.of (atNew htt _)),rfl,rfl,_,rfl,iteFc (by decide +kernel) ?_⟩⟩⟩
  have s1:=zaa htt (.tup [.str "stairway",.str "rounds",.str "merger"])
  refine⟨_,rfl,t,_,1,_,rfl,rfl,SqT.of (s1 _ _ ht),rfl,_,p,rfl,ok.1,by lia,a.tups (Tups.of s1),fun r fr er ps H2 s2 na=>?_⟩
  have u2:=s1.trans s2
  refine⟨_,rfl,rfl,_,rfl,iteFc (by decide +kernel) ⟨_,rfl,rfl,_,rfl,iteFc (by decide +kernel) ⟨_,rfl,rfl,_,rfl,?_⟩⟩⟩
  refine iteFc (by decide +kernel) ⟨_,rfl,t,_,2,_,rfl,rfl,SqT.of (u2 _ _ ht),rfl,_,q,rfl,ok.2.1,by lia,b.tups (Tups.of u2),fun r2 fr2 er2 ps2 H3 s3 nb=>?_⟩
  have na3:=na.tups (Tups.of s3)
  have u3:=u2.trans s3
  have el:((p.raw.lanes:Nat):Int)+((q.raw.lanes:Nat):Int)=((p.raw.lanes+q.raw.lanes:Nat):Int):=by lia
  refine⟨_,rfl,r,_,0,_,rfl,rfl,SqT.of na3.net,rfl,_,rfl,r2,_,0,_,rfl,rfl,SqT.of nb.net,rfl,_,_,rfl,rfl,?_⟩
  dsimp only
  rw[el]
  refine⟨_,rfl,_,rfl,_,rfl,_,rfl,r,_,0,_,rfl,rfl,SqT.of na3.net,rfl,_,rfl,p.raw.lanes,q.raw.lanes,rfl,by lia,by lia,fun tp htp=>?_⟩
  rw[zbF]
  have q1:=zaa htp (.tup (nums (za6 p.raw.lanes q.raw.lanes)))
  have na4:=na3.tups (Tups.of q1)
  have nb4:=nb.tups (Tups.of q1)
  refine⟨p.raw.lanes+q.raw.lanes,r,fr,_,_,ps,p.raw.forks,r2,fr2,er2,ps2,q.raw,tp,za6 p.raw.lanes q.raw.lanes,rfl,na4.net,na4.forks,na4.prs,okR.fm,okS,nb4,atNew htp _,by rw[zci];exact Nat.le_refl _,fun r' fr' er' ps' H4 s4 h1 h2 h3 h4=>?_⟩
  rw[zbs (fun f hf=>⟨(okS.fk f hf).1,(okS.fk f hf).2.1⟩)]at h3
  rw[zbG (fun e he=>zbH okS he)]at h4
  refine⟨1,rfl,r',_,rfl,h1,fun p5 H5 s5 h5=>?_⟩
  rw[zfp]at h5
  refine⟨p5,_,rfl,SqT.of h5,rfl,_,_,rfl,_,_,rfl,rfl,?_⟩
  have na5:=(na4.tups (Tups.of s4)).tups (Tups.of s5)
  refine⟨_,rfl,rfl,_,rfl,zaq (by decide +kernel) ⟨_,rfl,_,rfl,_,rfl,r,_,2,_,rfl,rfl,SqT.of na5.net,rfl,_,rfl,er,er',_,_,rfl,rfl,na5.ends,s5 _ _ h4,by rw[zae,zae,List.length_map,zaH okR,zaH okS,sizeLine_eq];lia,fun ea H6 s6 h6=>?_⟩⟩
  refine⟨(by show 3≤sizeLine;decide),fun rr hrr=>?_⟩
  have s7:=zaa hrr (.tup [.int ((p.raw.lanes+q.raw.lanes:Nat):Int),.ref fr',.ref ea])
  have u7:=(s5.trans s6).trans s7
  have e6:nums p.raw.ends++nums (q.raw.ends.map (p.raw.lanes + ·))=nums (p.raw.ends++q.raw.ends.map (p.raw.lanes + ·)):=by unfold nums;rw[List.map_append]
  rw[e6]at h6
  exact k rr fr' ea ps' _ (((u3.trans q1).trans s4).trans u7) ⟨atNew hrr _,u7 _ _ h2,h3.tups (Tups.of u7),s7 _ _ h6⟩
 | beh p q =>
  obtain⟨t',u,x,e,h,a,b⟩:=at'
  cases e
  cases zaQ ht h
  have hn':max p.hi q.hi+1≤n+1:=hn
  obtain⟨okR,lR,mR⟩:=Pln.raw_ok ok.1
  obtain⟨okS,lS,mS⟩:=Pln.raw_ok ok.2.1
  refine⟨_,rfl,rfl,_,rfl,iteFc (by decide +kernel) ⟨_,rfl,(by show 3≤sizeLine;decide),fun tt htt=>⟨tt,_,rfl,.inr (SqT.of (atNew htt _)),rfl,rfl,_,rfl,iteFc (by decide +kernel) ?_⟩⟩⟩
  have s1:=zaa htt (.tup [.str "stairway",.str "rounds",.str "merger"])
  refine⟨_,rfl,t,_,1,_,rfl,rfl,SqT.of (s1 _ _ ht),rfl,_,p,rfl,ok.1,by lia,a.tups (Tups.of s1),fun r fr er ps H2 s2 na=>?_⟩
  have u2:=s1.trans s2
  refine⟨_,rfl,rfl,_,rfl,iteFc (by decide +kernel) ⟨_,rfl,rfl,_,rfl,zaq (by decide +kernel) ⟨_,rfl,r,_,0,_,rfl,rfl,SqT.of na.net,rfl,_,rfl,_,rfl,t,_,2,_,rfl,rfl,SqT.of (u2 _ _ ht),rfl,_,q,rfl,ok.2.1,by lia,b.tups (Tups.of u2),fun r2 fr2 er2 ps2 H3 s3 nb=>?_⟩⟩⟩
  have na3:=na.tups (Tups.of s3)
  refine⟨_,rfl,r,_,2,_,rfl,rfl,SqT.of na3.net,rfl,p.raw.lanes,r,fr,_,_,ps,p.raw.forks,r2,fr2,er2,ps2,q.raw,er,p.raw.ends,rfl,na3.net,na3.forks,na3.prs,okR.fm,okS,nb,na3.ends,by rw[zaH okR,lS,lR];exact Nat.le_of_eq ok.2.2.1,fun r' fr' er' ps' H4 s4 h1 h2 h3 h4=>?_⟩
  exact k r' fr' er' ps' H4 ((u2.trans s3).trans s4) ⟨h1,h2,h3,h4⟩
theorem zfh {f fW fT fM:Addr}{fd dW dT dM:FuncData}(F:Fun K "_law_made" "_law_made" ze9 f fd) (G:Mgs mg) (bS:Binds K fd ["_law_plan_here"] []) (mS:mg "_law_made" = some (.ref f)) (UW:Use P w K mg base "_law_told_way" ["_law_word","_law_k"] 11 zdy fW dW) (UT:Use P w K mg base "_law_then" ["_law_lanes","_law_one","_law_other","_law_names_here"] 1 ze6 fT dT) (UM:Use P w K mg base "_law_merged" ["_law_one","_law_other"] 5 zan fM dM):∀ n:Nat,FnOk P w K mg base CX0 (11+n) f fd ["_law_plan_here"] (zcB n)
 | 0=>⟨fun vs H Q E ⟨v,p,_,_,h,_⟩=>absurd h (by have:=p.hi_pos;lia),fun A outer s H args us vs Q E _ _ _ _ ⟨v,p,_,_,h,_⟩=>absurd h (by have:=p.hi_pos;lia)⟩
 | n+1=>zgL n F G UW UT UM ⟨zfh F G bS mS UW UT UM n,bS,F.kp,mS⟩
end
abbrev zeD:Stmt:=top 33
theorem zhX (n:Nat):(List.replicate n [V.int 0]).flatten=(List.replicate n (0:Int)).map V.int:=by
 induction n with
 | zero=>rfl
 | succ n ih=>rw[List.replicate_succ,List.flatten_cons,ih,List.replicate_succ];rfl
def zdz:Sp:=fun vs H Q _=>∃ r fr er ps N,vs=[.ref r]∧Nt.Ok N∧NetAt H r fr er ps N∧∀ r' fr' ps' H',Same H H'→NetAt H' r' fr' er ps' (zal N)→Q (.ref r') H'
section
variable {P:Program}{w:World}{K:PySem.W.Frag}{mg:Str→Option Value}{base:Heap}
theorem scQp:FnScope ["_law_net","_law_lanes","_law_forks","_law_ends","_law_deep","_law_rows","_law_one","_law_other","_law_layer"] ["_law_net"] (zaf zeD):=⟨rfl,rfl,rfl,by decide +kernel,rfl,by decide +kernel,by decide +kernel⟩
theorem zgI {f:Addr}{fd:FuncData}(F:Fun K "_law_plain" "_law_plain" zeD f fd) (G:Mgs mg):FnOk P w K mg base CX0 1 f fd ["_law_net"] zdz:=by
 refine F.ok scQp (fun vs H Q E h=>?_) (fun cdv A outer s H vs Q E hr h=>?_)
 ·obtain⟨r,fr,er,ps,N,rfl,_⟩:=h
  rfl
 obtain⟨r,fr,er,ps,N,rfl,ok,na,k⟩:=h
 refine⟨_,(@pss_cons _ _ _ _ _ (@ps_asg _ _ _ _ _ _ (@pv _ 0 _ _ (by rfl) (by first|exact Or.inl rfl|exact Or.inr (.inl rfl)|exact Or.inr (.inr rfl)) (by decide) (by decide)) (@zao _ _ _ _ _ _ rfl (@pgs_cons _ _ _ _ _ (@zab _ _ 1 _ scQp.nd rfl (.inl rfl) (by first|exact .inl rfl|exact .inr rfl|assumption)) (@pgs_cons _ _ _ _ _ (@zab _ _ 2 _ scQp.nd rfl (.inl rfl) (by first|exact .inl rfl|exact .inr rfl|assumption)) (@pgs_cons _ _ _ _ _ (@zab _ _ 3 _ scQp.nd rfl (.inl rfl) (by first|exact .inl rfl|exact .inr rfl|assumption)) pgs_nil (by rfl)) (by rfl)) (by rfl)) (by rfl) (by rfl)) (by rfl) (by rfl) (by rfl)) (@pss_cons _ _ _ _ _ (@zak _ _ 4 _ _ _ _ scQp.nd rfl (.inl rfl) (@pe_op _ _ _ _ _ _ _ _ zff (@zay _ _ _ _ (@pa_cons _ _ _ _ _ pe_int pa_nil (by rfl))) (@pv _ 1 _ _ (by rfl) (by first|exact Or.inl rfl|exact Or.inr (.inl rfl)|exact Or.inr (.inr rfl)) (by decide) (by decide))) (by rfl) (by first|exact .inl rfl|exact .inr rfl|assumption)) (@pss_cons _ _ _ _ _ (@zak _ _ 5 _ _ _ _ scQp.nd rfl (.inl rfl) (@zay _ _ _ _ pa_nil) (by rfl) (by first|exact .inl rfl|exact .inr rfl|assumption)) (@pss_cons _ _ _ _ _ (@zcG _ _ _ _ _ _ _ _ PassesOwn.never rfl (@zbY _ _ _ _ (@pv _ 2 _ _ (by rfl) (by first|exact Or.inl rfl|exact Or.inr (.inl rfl)|exact Or.inr (.inr rfl)) (by decide) (by decide))) (@zao _ _ _ _ _ _ rfl (@pgs_cons _ _ _ _ _ (@zab _ _ 6 _ scQp.nd rfl (.inl rfl) (by first|exact .inl rfl|exact .inr rfl|assumption)) (@pgs_cons _ _ _ _ _ (@zab _ _ 7 _ scQp.nd rfl (.inl rfl) (by first|exact .inl rfl|exact .inr rfl|assumption)) pgs_nil (by rfl)) (by rfl)) (by rfl) (by rfl)) (@pss_cons _ _ _ _ _ (@zak _ _ 8 _ _ _ _ scQp.nd rfl (.inl rfl) (@pe_op _ _ _ _ _ _ _ _ op_add pe_int (@zaj _ _ _ _ _ _ _ _ _ (zb7 rfl) (by rfl) G.max (by rfl) (@pa_cons _ _ _ _ _ (@pe_ix _ _ _ _ _ _ _ ix_list (@pv _ 4 _ _ (by rfl) (by first|exact Or.inl rfl|exact Or.inr (.inl rfl)|exact Or.inr (.inr rfl)) (by decide) (by decide)) (@pv _ 6 _ _ (by rfl) (by first|exact Or.inl rfl|exact Or.inr (.inl rfl)|exact Or.inr (.inr rfl)) (by decide) (by decide)) (fun _ _=>rfl)) (@pa_cons _ _ _ _ _ (@pe_ix _ _ _ _ _ _ _ ix_list (@pv _ 4 _ _ (by rfl) (by first|exact Or.inl rfl|exact Or.inr (.inl rfl)|exact Or.inr (.inr rfl)) (by decide) (by decide)) (@pv _ 7 _ _ (by rfl) (by first|exact Or.inl rfl|exact Or.inr (.inl rfl)|exact Or.inr (.inr rfl)) (by decide) (by decide)) (fun _ _=>rfl)) pa_nil (by rfl)) (by rfl)) (by decide) (by decide) (by rfl) (by rfl))) (by rfl) (by first|exact .inl rfl|exact .inr rfl|assumption)) (@pss_cons _ _ _ _ _ (@ps_asg _ _ _ _ _ _ (@pe_tup _ _ _ _ _ (@pa_cons _ _ _ _ _ (@pv _ 8 _ _ (by rfl) (by first|exact Or.inl rfl|exact Or.inr (.inl rfl)|exact Or.inr (.inr rfl)) (by decide) (by decide)) (@pa_cons _ _ _ _ _ (@pv _ 8 _ _ (by rfl) (by first|exact Or.inl rfl|exact Or.inr (.inl rfl)|exact Or.inr (.inr rfl)) (by decide) (by decide)) pa_nil (by rfl)) (by rfl))) (@zao _ _ _ _ _ _ rfl (@pgs_cons _ _ _ _ _ (@pg_sub _ _ _ _ _ _ _ (@pv _ 4 _ _ (by rfl) (by first|exact Or.inl rfl|exact Or.inr (.inl rfl)|exact Or.inr (.inr rfl)) (by decide) (by decide)) (@pv _ 6 _ _ (by rfl) (by first|exact Or.inl rfl|exact Or.inr (.inl rfl)|exact Or.inr (.inr rfl)) (by decide) (by decide)) set_list (by intro _;rfl)) (@pgs_cons _ _ _ _ _ (@pg_sub _ _ _ _ _ _ _ (@pv _ 4 _ _ (by rfl) (by first|exact Or.inl rfl|exact Or.inr (.inl rfl)|exact Or.inr (.inr rfl)) (by decide) (by decide)) (@pv _ 7 _ _ (by rfl) (by first|exact Or.inl rfl|exact Or.inr (.inl rfl)|exact Or.inr (.inr rfl)) (by decide) (by decide)) set_list (by intro _;rfl)) pgs_nil (by rfl)) (by rfl)) (by rfl) (by rfl)) (by rfl) (by rfl) (by rfl)) (@pss_one _ _ _ (@ps_expr _ _ _ _ (@pe_bm _ _ _ _ _ _ _ _ _ _ _ _ PySem.F.plainAttrs_list PySem.F.slot_list_append PySem.F.type_list_append mt_append (@pv _ 5 _ _ (by rfl) (by first|exact Or.inl rfl|exact Or.inr (.inl rfl)|exact Or.inr (.inr rfl)) (by decide) (by decide)) (@pa_cons _ _ _ _ _ (@pe_tup _ _ _ _ _ (@pa_cons _ _ _ _ _ (@pv _ 8 _ _ (by rfl) (by first|exact Or.inl rfl|exact Or.inr (.inl rfl)|exact Or.inr (.inr rfl)) (by decide) (by decide)) (@pa_cons _ _ _ _ _ (@pe_tup _ _ _ _ _ (@pa_cons _ _ _ _ _ (@pv _ 6 _ _ (by rfl) (by first|exact Or.inl rfl|exact Or.inr (.inl rfl)|exact Or.inr (.inr rfl)) (by decide) (by decide)) (@pa_cons _ _ _ _ _ (@pv _ 7 _ _ (by rfl) (by first|exact Or.inl rfl|exact Or.inr (.inl rfl)|exact Or.inr (.inr rfl)) (by decide) (by decide)) pa_nil (by rfl)) (by rfl))) pa_nil (by rfl)) (by rfl))) pa_nil (by rfl)) (by rfl) (by rfl) (by rfl) (by rfl) (by rfl)) (by rfl))))) (by intro _;rfl)) (@pss_one _ _ _ (@ps_ret _ _ _ _ (@pe_tup _ _ _ _ _ (@pa_cons _ _ _ _ _ (@pv _ 1 _ _ (by rfl) (by first|exact Or.inl rfl|exact Or.inr (.inl rfl)|exact Or.inr (.inr rfl)) (by decide) (by decide)) (@pa_cons _ _ _ _ _ (@pe_callTy _ _ _ _ _ _ _ _ _ call_tuple_of (by rfl) G.tuple (by rfl) (@pa_cons _ _ _ _ _ (@pe_lc _ _ _ _ none _ _ _ _ _ _ ["_law_row"] [none] rfl (@zeN _ _ _ _ (@zaj _ _ _ _ _ _ _ _ _ (zer true hr.units) (by rfl) G.sorted (by rfl) (@pa_cons _ _ _ _ _ (@pv _ 5 _ _ (by rfl) (by first|exact Or.inl rfl|exact Or.inr (.inl rfl)|exact Or.inr (.inr rfl)) (by decide) (by decide)) pa_nil (by rfl)) (by decide) (by decide) (by rfl) (by rfl))) (CapOk.of (by kernel_rfl)) (fun _ _ _ _ _=>(@zab _ _ 0 _ (show (["_law_row"]:List Str).Nodup from by decide +kernel) rfl (.inl rfl) (.inr rfl))) (fun _ _ _ _ _=>zaV) (fun _ _ _ _ _=>(@pe_ix _ _ _ _ _ _ (rIxT K) zam (@pv _ 0 _ _ (by rfl) (by first|exact Or.inl rfl|exact Or.inr (.inl rfl)|exact Or.inr (.inr rfl)) (by decide) (by decide)) pe_int (fun _ _=>rfl))) (by intro _;rfl)) pa_nil (by rfl)) (by decide) (by decide) (by rfl) (by rfl)) (@pa_cons _ _ _ _ _ (@pv _ 3 _ _ (by rfl) (by first|exact Or.inl rfl|exact Or.inr (.inl rfl)|exact Or.inr (.inr rfl)) (by decide) (by decide)) pa_nil (by rfl)) (by rfl)) (by rfl))))))))),?_⟩
 have l1:=ok.l1
 have l16:=ok.l16
 have fm:=ok.fm
 have pl:=na.prs.len
 have tn:((N.lanes:Nat):Int).toNat=N.lanes:=by lia
 refine⟨_,rfl,r,_,rfl,SqT.of na.net,rfl,_,_,rfl,_,_,rfl,_,_,rfl,rfl,?_⟩
 refine⟨(by show 1≤sizeLine;decide),fun p1 hp1=>?_⟩
 have s1:=zaa hp1 (.lst [.int 0])
 refine⟨_,rfl,p1,N.lanes,_,rfl,rfl,zac,by lia,by lia,by show 1*_≤sizeLine;rw[sizeLine_eq];lia,fun lr hlr=>?_⟩
 have s2:=s1.trans (zaa hlr (.lst (List.replicate ((N.lanes:Int)).toNat [V.int 0]).flatten))
 have hlr0:H lr=none:=by
  cases z:H lr with
  | none=>rfl
  | some o=>exact absurd (s1 _ _ z) (by rw[hlr];exact fun w=>nomatch w)
 refine⟨(by show 0≤sizeLine;decide),fun lf hlf=>?_⟩
 have s3:=s2.trans (zaa hlf (.lst []))
 have hlf0:H lf=none:=by
  cases z:H lf with
  | none=>rfl
  | some o=>exact absurd (s2 _ _ z) (by rw[hlf];exact fun w=>nomatch w)
 have nrf:lr≠lf:=zad zac hlf
 refine⟨_,rfl,fr,rfl,⟨_,SqT.of (s3 _ _ na.forks)⟩,?_⟩
 refine zg6 (K:=K) (a:=fr) (xs:=ps) (fun i σ H2=>(∃ v6 v7 v8,σ=[some (.ref r),some (.int N.lanes),some (.ref fr),some (.ref er),some (.ref lr),some (.ref lf),v6,v7,v8])∧Same H H2∧H2 lr=some (.lst ((lay N.lanes (N.forks.take i)).1.map V.int))∧∃ ts,H2 lf=some (.lst ts)∧Trs H2 ts ((lay N.lanes (N.forks.take i)).2.zip (N.forks.take i)))
  ⟨⟨_,_,_,rfl⟩,s3,by rw[zag nrf,zac,tn,zhX];rfl,[],zac,trivial⟩ (fun i σ H2 _ q=>SqT.of (q.2.1 _ _ na.forks)) ?_ ?_
 ·rintro i p σ H2 hp ⟨⟨v6,v7,v8,rfl⟩,s4,h1,ts,h2,tr⟩
  obtain⟨a,g,rfl,eg,ha⟩:=(na.prs.tups (Tups.of s4)).get hp
  have okg:=ok.fk g (List.mem_of_getElem? eg)
  have ig:i<N.forks.length:=(List.getElem?_eq_some_iff.mp eg).1
  have ln:=zcv (n:=N.lanes) i N.forks (by lia)
  have lx:=zdR (n:=N.lanes) eg
  generalize lay N.lanes (N.forks.take i)=st at *
  have tl:=tr.len
  rw[List.length_zip,List.length_take,ln.2]at tl
  refine⟨a,_,rfl,SqT.of ha,rfl,_,_,rfl,_,_,rfl,rfl,?_⟩
  refine⟨_,rfl,_,rfl,lr,_,_,_,rfl,rfl,SqL.of h1,zez (by lia),_,rfl,_,rfl,lr,_,_,_,rfl,rfl,SqL.of h1,zez (by lia),_,_,rfl,_,_,rfl,rfl,?_⟩
  refine⟨_,rfl,_,rfl,(by show 2≤sizeLine;decide),fun t2 ht2=>?_⟩
  have s5:=fun z=>zaa ht2 z
  refine⟨t2,_,rfl,SqT.of zac,rfl,_,_,rfl,_,rfl,_,rfl,lr,_,_,g.1,rfl,rfl,s5 _ _ _ h1,zh5 (by rw[List.length_map];lia),?_⟩
  refine⟨_,_,rfl,_,rfl,_,rfl,lr,_,_,g.2,rfl,rfl,zac,zh5 (by rw[List.length_set,List.length_map];lia),rfl,?_⟩
  have T6:∀ x y z,Tups H2 (upd (upd (upd H2 t2 z) lr (.lst x)) lr (.lst y)):=fun x y z=>((Tups.of (s5 z)).trans (Tups.lst (s5 z _ _ h1))).trans (Tups.lst zac)
  have S6:∀ x y z,Same H (upd (upd (upd H2 t2 z) lr x) lr y):=fun x y z b o e=>by
   rw[zag (zad e hlr0),zag (zad e hlr0)];exact s5 z _ _ (s4 b o e)
  have h6:∀ x y z,L2.upd (L2.upd (L2.upd H2 t2 z) lr x) lr y lf=some (.lst ts):=fun x y z=>by rw[zag nrf.symm,zag nrf.symm];exact s5 z _ _ h2
  refine⟨_,rfl,.inl ⟨rfl,_,SqL.of (h6 _ _ _)⟩,_,rfl,_,rfl,_,rfl,(by show 2≤sizeLine;decide),fun t3 ht3=>?_⟩
  have s7:=fun z=>zaa ht3 z
  refine⟨(by show 2≤sizeLine;decide),fun t4 ht4=>?_⟩
  have s8:=fun z=>zaa ht4 z
  refine⟨lf,_,_,rfl,rfl,s8 _ _ _ (s7 _ _ _ (h6 _ _ _)),Nat.lt_of_lt_of_le (show _<1000 by lia) (by decide),⟨_,_,_,rfl⟩,fun b o e=>?_,?_,_,zac,?_⟩
  ·rw[zag (zad e hlf0)];exact s8 _ _ _ (s7 _ _ _ (S6 _ _ _ b o e))
  ·rw[zag nrf]
   refine(s8 _ _ _ (s7 _ _ _ zac)).trans ?_
   rw[lx]
   unfold zbg
   rw[zcs,zcs];rfl
  ·rw[lx]
   unfold zbg
   rw[ziS (n:=N.lanes) eg _ ln.2]
   refine Trs.add ⟨t4,t3,rfl,?_,?_⟩ ((((tr.tups (T6 _ _ _)).tups (Tups.of (s7 _))).tups (Tups.of (s8 _))).tups (Tups.lst (s8 _ _ _ (s7 _ _ _ (h6 _ _ _)))))
   ·exact Tups.lst (s8 _ _ _ (s7 _ _ _ (h6 _ _ _))) _ _ (atNew ht4 _)
   ·exact Tups.lst (s8 _ _ _ (s7 _ _ _ (h6 _ _ _))) _ _ (s8 _ _ _ (atNew ht3 _))
 ·rintro σ H2 ⟨⟨v6,v7,v8,rfl⟩,s4,h1,ts,h2,tr⟩
  rw[pl,List.take_length]at tr
  have tr:Trs H2 ts ((zdi N).zip N.forks):=tr
  rw[← zid]at tr
  have tl:=tr.len
  have zl:(pz N).length=N.forks.length:=by rw[← zbe,List.length_map]
  obtain⟨te,trx⟩:=tr.dec
  have na2:=na.tups (Tups.of s4)
  have low:∀ x∈ts,(dec H2 x).2.1<32∧(dec H2 x).2.2<32:=fun x hx=>zee ok _ (by rw[← te];exact List.mem_map.mpr ⟨x,hx,rfl⟩)
  refine⟨_,rfl,_,rfl,lf,ts,fun x=>rnk (dec H2 x),rfl,SqL.of h2,by lia,.inr ⟨2,by decide,fun x hx=>⟨?_,fun y hy=>zih (trx x hx) (trx y hy) (low x hx) (low y hy)⟩⟩,fun l zs hl pm so=>?_⟩
  ·obtain⟨t,g,rfl,h1,_⟩:=trx x hx
   exact⟨t,_,_,rfl,h1⟩
  have s3:=zaa hl (.lst zs)
  have zl:zs.length=N.forks.length:=by rw[pm.length_eq];lia
  have ze:zs.map (dec H2)=zdS (pz N):=zbq ok (by rw[← te];exact pm.map _) (List.pairwise_map.mpr so)
  have trz:∀ x∈zs,Trp H2 x (dec H2 x):=fun x hx=>trx x (pm.mem_iff.mp hx)
  refine⟨l,rfl,⟨_,SqL.of (atNew hl (.lst zs))⟩,fun lq hlq=>?_⟩
  refine zgX (K:=K) (a:=l) (xs:=zs) (fun j acc σ H4=>(∃ v0,σ=[v0])∧Same H2 H4∧H4 l=some (.lst zs)∧H4 lq=some (.lst acc)∧acc.length=j∧Prs H4 acc ((zs.take j).map fun x=>(dec H2 x).2)) ⟨⟨_,rfl⟩,s3.trans (zaa hlq _),zaa hlq _ _ _ (atNew hl (.lst zs)),zac,rfl,trivial⟩ (fun j acc σ H4 q=>⟨q.2.2.2.1,SqL.of q.2.2.1⟩) ?_ ?_
  ·rintro j x acc σ H4 hx ⟨⟨v0,rfl⟩,s4,l4,h4,al,pr⟩
   have jl:=(List.getElem?_eq_some_iff.mp hx).1
   obtain⟨t,g,e,h1,h2⟩:=trz x (List.mem_of_getElem? hx)
   have ne:lq≠l:=by rintro rfl;rw[atNew hl (.lst zs)]at hlq;cases hlq
   have keep:Same H2 (upd H4 lq (.lst (acc++[.ref g]))):=fun b o e=>by rw[zag (zad (s3 b o e) hlq)];exact s4 b o e
   subst e
   refine⟨_,rfl,t,_,_,_,rfl,rfl,SqT.of (s4 _ _ h1),rfl,h4,Nat.lt_of_lt_of_le (show _<1000 by lia) (by decide),nx jl ⟨⟨_,rfl⟩,keep,by rw[zag ne.symm];exact l4,zac,by simp[al],?_⟩⟩
   have xe:zs[j]=.ref t:=(List.getElem?_eq_some_iff.mp hx).2
   rw[List.take_succ_eq_append_getElem jl,List.map_append,xe]
   exact Prs.add (f:=(dec H2 (.ref t)).2) (keep _ _ h2) (pr.tups (Tups.lst h4))
  ·rintro acc σ H4 ⟨⟨v0,rfl⟩,s5,l4,h4,al,pr⟩
   rw[List.take_length]at pr
   have pe:(zs.map fun x=>(dec H2 x).2)=zbj N:=by
    unfold zbj
    rw[← ze,List.map_map];rfl
   rw[pe]at pr
   refine⟨lq,_,rfl,.inl ⟨SqL.of h4,fun q hq=>?_⟩⟩
   have s6:=zaa hq (.tup acc)
   refine⟨_,rfl,(by show 3≤sizeLine;decide),fun r' hr'=>?_⟩
   have s7:=zaa hr' (.tup [.int N.lanes,.ref q,.ref er])
   refine k r' q acc _ (((s4.trans s5).trans s6).trans s7) ⟨atNew hr' _,s7 _ _ (atNew hq _),pr.tups (Tups.of (s6.trans s7)),?_⟩
   exact s7 _ _ (s6 _ _ (s5 _ _ na2.ends))
end
abbrev zhB:Stmt:=top 40
def Eq2 (H:Hp):Nat→V→V→Prop
 | 0,x,y=>x=y∧zb5 x=true
 | n+1,x,y=>(x=y∧zb5 x=true)∨∃ a b xs ys,x=.ref a∧y=.ref b∧H a=some (.tup xs)∧H b=some (.tup ys)∧xs.length=ys.length∧xs.length≤1000∧∀ (i:Nat) (u v:V),xs[i]?=some u→ys[i]?=some v→Eq2 H n u v
theorem Eq2.same {H H':Hp}(s:Same H H'):∀ {n:Nat}{x y:V},Eq2 H n x y→Eq2 H' n x y
 | 0,_,_,h=>h
 | n+1,_,_,h=>by
  rcases h with h|⟨a,b,xs,ys,e1,e2,h1,h2,h3,h4,h5⟩
  ·exact .inl h
  ·exact .inr ⟨a,b,xs,ys,e1,e2,s _ _ h1,s _ _ h2,h3,h4,fun i u v p q=>Eq2.same s (h5 i u v p q)⟩
theorem Eq2.flat {H:Hp}{n:Nat}{x:V}(h:zb5 x=true):Eq2 H n x x:=by
 cases n
 ·exact⟨rfl,h⟩
 ·exact .inl ⟨rfl,h⟩
def zd5 (n:Nat):Sp:=fun vs H Q _=>∃ x y,vs=[x,y]∧Eq2 H n x y∧∀ H',Same H H'→Q (.bl true) H'
section
variable {P:Program}{w:World}{K:PySem.W.Frag}{mg:Str→Option Value}{base:Heap}
theorem scM:FnScope ["_law_found","_law_due"] ["_law_found","_law_due"] (zaf zhB):=⟨rfl,rfl,rfl,by decide +kernel,rfl,by decide +kernel,by decide +kernel⟩
theorem nd2:(["_law_one","_law_other"]:List Str).Nodup:=by decide +kernel
theorem zfg {f:Addr}{fd:FuncData}(F:Fun K "_law_same" "_law_same" zhB f fd) (G:Mgs mg) (bS:Binds K fd ["_law_found","_law_due"] []) (mS:mg "_law_same" = some (.ref f)) (n:Nat)
  (GS:FnOk P w K mg base CX0 n f fd ["_law_found","_law_due"] (fun vs H Q E=>∃ m,n=m+1∧zd5 m vs H Q E)):FnOk P w K mg base CX0 (n+1) f fd ["_law_found","_law_due"] (zd5 n):=by
  refine F.ok scM (fun vs H Q E h=>?_) (fun cdv A outer s H vs Q E hr h=>?_)
  ·obtain⟨x,y,rfl,_⟩:=h
   rfl
  obtain⟨x,y,rfl,he,k⟩:=h
  refine⟨_,pss_cons (zau (pt_val (zaj zaT (by rfl) G.isi (by rfl) (pa_cons (pv 1) (pa_cons (zbf (v:=.ty "tuple") (u:=.type "tuple") (by rfl) G.tuple (by rfl) rfl) pa_nil))))
    (pss_cons (zau (pw_or (pt_not (pt_val (zaj zaT (by rfl) G.isi (by rfl) (pa_cons (pv 0) (pa_cons (zbf (v:=.ty "tuple") (u:=.type "tuple") (by rfl) G.tuple (by rfl) rfl) pa_nil)))))
      (pw_or1 (pt_cmpR op_ne (zaj zai (by rfl) G.len PySem.boot_len (pa_cons (pv 0) pa_nil)) (zaj zai (by rfl) G.len PySem.boot_len (pa_cons (pv 1) pa_nil)) (nomark _)))).pt
      (pss_one (ps_ret pe_bl)) pss_nil)
     (pss_one (ps_ret (zaj (zhk rfl true) (by rfl) G.all (by rfl) (pa_cons (pe_lc (o:=none) (g:=gTup K 2 (zcS (zch 0) (zcS (zch 1) gNil))) (N':=["_law_one","_law_other"]) (cap:=[none,none]) rfl (zjM false false rfl G.zip (pa_cons (pv 0) (pa_cons (pv 1) pa_nil)))
      (CapOk.of (by kernel_rfl))
      (fun _ _ _ _ _=>zao rfl (pgs_cons (zab (i:=0) nd2 rfl (.inl rfl) (.inr rfl)) (pgs_cons (zab (i:=1) nd2 rfl (.inl rfl) (.inr rfl)) pgs_nil)))
      (fun _ _ _ _ _=>zaV)
      (fun _ _ _ _ _=>pe_call GS hr rfl mS F.kp bS .nil pass0 (pa_cons (pv 0) (pa_cons (pv 1) pa_nil)))) pa_nil)))))
    pss_nil)
   (pss_cons (zau (pt_cmpR zif (pv 1) zaF (by rfl)) (pss_one (ps_ret (pe_cmpR zif (pv 0) zaF (by rfl)))) pss_nil)
   (pss_cons (zau (pt_val (zaj zaT (by rfl) G.isi (by rfl) (pa_cons (pv 1) (pa_cons (zbf (v:=.ty "str") (u:=.type "str") (by rfl) G.str (by rfl) rfl) pa_nil))))
     (pss_one (ps_ret (zfe (zaj zaT (by rfl) G.isi (by rfl) (pa_cons (pv 0) (pa_cons (zbf (v:=.ty "str") (u:=.type "str") (by rfl) G.str (by rfl) rfl) pa_nil))) (zfd (pe_cmpR zaS (pv 0) (pv 1) (nomark _)))))) pss_nil)
   (pss_cons (zau (pw_or (pt_val (zaj zaT (by rfl) G.isi (by rfl) (pa_cons (pv 1) (pa_cons (zbf (v:=.ty "bool") (u:=.type "bool") (by rfl) G.bool (by rfl) rfl) pa_nil))))
     (pw_or1 (pt_val (zaj zaT (by rfl) G.isi (by rfl) (pa_cons (pv 0) (pa_cons (zbf (v:=.ty "bool") (u:=.type "bool") (by rfl) G.bool (by rfl) rfl) pa_nil)))))).pt
     (pss_one (ps_ret (zfe (zaj zaT (by rfl) G.isi (by rfl) (pa_cons (pv 0) (pa_cons (zbf (v:=.ty "bool") (u:=.type "bool") (by rfl) G.bool (by rfl) rfl) pa_nil)))
      (zfe (zaj zaT (by rfl) G.isi (by rfl) (pa_cons (pv 1) (pa_cons (zbf (v:=.ty "bool") (u:=.type "bool") (by rfl) G.bool (by rfl) rfl) pa_nil))) (zfd (pe_cmpR zaS (pv 0) (pv 1) (nomark _))))))) pss_nil)
   (pss_one (ps_ret (zfe (zaj zaT (by rfl) G.isi (by rfl) (pa_cons (pv 0) (pa_cons (zbf (v:=.ty "int") (u:=.type "int") (by rfl) G.int (by rfl) rfl) pa_nil))) (zfd (pe_cmpR zaS (pv 0) (pv 1) (nomark _))))))))),?_⟩
  have flat:(x=y∧zb5 x=true)∨∃ m,n=m+1∧∃ a b xs ys,x=.ref a∧y=.ref b∧H a=some (.tup xs)∧H b=some (.tup ys)∧xs.length=ys.length∧xs.length≤1000∧∀ (i:Nat) (u v:V),xs[i]?=some u→ys[i]?=some v→Eq2 H m u v:=by
   cases n with
   | zero=>exact .inl he
   | succ m =>
    rcases he with he|he
    ·exact .inl he
    ·exact .inr ⟨m,rfl,he⟩
  rcases flat with ⟨rfl,fl⟩|⟨m,rfl,a,b,xs,ys,rfl,rfl,ha,hb,hl,h1000,hxy⟩
  ·cases x with
   | non=>exact⟨_,rfl,_,"tuple",_,false,rfl,.non,rfl,_,rfl,iteF ⟨_,rfl,rfl,_,rfl,iteT ⟨_,rfl,rfl,k H (Same.refl H)⟩⟩⟩
   | bl c =>
    refine⟨_,rfl,_,"tuple",_,false,rfl,.bl c,rfl,_,rfl,iteF ⟨_,rfl,rfl,_,rfl,iteF ⟨_,rfl,_,"str",_,false,rfl,.bl c,rfl,_,rfl,iteF ⟨_,rfl,_,"bool",_,true,rfl,.bl c,rfl,_,rfl,iteT (iteT ?_)⟩⟩⟩⟩
    refine⟨_,rfl,_,"bool",_,true,rfl,.bl c,rfl,_,rfl,iteT ⟨_,rfl,_,"bool",_,true,rfl,.bl c,rfl,_,rfl,iteT ⟨_,rfl,_,rfl,rfl,?_⟩⟩⟩
    rw[decide_eq_true rfl];exact k H (Same.refl H)
   | int i =>
    refine⟨_,rfl,_,"tuple",_,false,rfl,.int i,rfl,_,rfl,iteF ⟨_,rfl,rfl,_,rfl,iteF ⟨_,rfl,_,"str",_,false,rfl,.int i,rfl,_,rfl,iteF ⟨_,rfl,_,"bool",_,false,rfl,.int i,rfl,_,rfl,iteF ?_⟩⟩⟩⟩
    refine⟨_,rfl,_,"bool",_,false,rfl,.int i,rfl,_,rfl,iteF ⟨_,rfl,_,"int",_,true,rfl,.int i,rfl,_,rfl,iteT ⟨_,rfl,_,rfl,rfl,?_⟩⟩⟩
    rw[decide_eq_true rfl];exact k H (Same.refl H)
   | str z =>
    refine⟨_,rfl,_,"tuple",_,false,rfl,.str z,rfl,_,rfl,iteF ⟨_,rfl,rfl,_,rfl,iteF ?_⟩⟩
    refine⟨_,rfl,_,"str",_,true,rfl,.str z,rfl,_,rfl,iteT ⟨_,rfl,_,"str",_,true,rfl,.str z,rfl,_,rfl,iteT ⟨_,rfl,_,rfl,rfl,?_⟩⟩⟩
    rw[decide_eq_true rfl];exact k H (Same.refl H)
   | byt _=>cases fl
   | flt _=>cases fl
   | ref _=>cases fl
   | ty _=>cases fl
  ·refine⟨_,rfl,_,"tuple",_,true,rfl,.tup hb,rfl,_,rfl,iteT ?_⟩
   refine⟨_,rfl,_,"tuple",_,true,rfl,.tup ha,rfl,_,rfl,iteF ?_⟩
   refine⟨_,rfl,a,_,rfl,.inr (SqT.of ha),_,rfl,b,_,rfl,.inr (SqT.of hb),rfl,_,rfl,?_⟩
   refine zks (by rw[hl]) ?_
   refine⟨_,rfl,_,rfl,a,b,xs,ys,rfl,SqT.of ha,SqT.of hb,fun l hl0=>?_⟩
   refine zjX (K:=K) (b1:=false) (b2:=false) hl (fun i acc σ H'=>acc=List.map V.bl (List.replicate i true)∧(∃ u v,σ=[u,v])∧Same H H'∧H' l=some (.lst acc)) ⟨rfl,⟨none,none,rfl⟩,zaa hl0 _,zac⟩
    (fun i acc σ H' p=>⟨p.2.2.2,SqT.of (p.2.2.1 _ _ ha),SqT.of (p.2.2.1 _ _ hb)⟩) ?_ ?_
   ·rintro i acc σ H' u v T hu hv hT ⟨rfl,⟨p,q,rfl⟩,hS,hL⟩
    have hi:i<xs.length:=(List.getElem?_eq_some_iff.mp hu).1
    have sT:Same H (upd H' T (.tup [u,v])):=hS.trans (zaa hT _)
    refine⟨T,_,rfl,SqT.of zac,rfl,_,_,rfl,_,_,rfl,rfl,?_⟩
    refine⟨_,rfl,_,rfl,m,rfl,u,v,rfl,(hxy i u v hu hv).same sT,fun H5 s5=>⟨?_,?_,nx hi ⟨?_,⟨_,_,rfl⟩,fun b o e=>?_,zac⟩⟩⟩
    ·exact s5 _ _ (by rw[zag (zad hL hT)];exact hL)
    ·rw[List.length_map,List.length_replicate];exact zgi (by lia)
    ·rw[List.replicate_succ',List.map_append];rfl
    ·rw[zag (zad e hl0)];exact s5 _ _ (sT b o e)
   ·rintro acc σ H' ⟨rfl,_,hS,hL⟩
    refine⟨l,List.replicate xs.length true,rfl,SqL.of hL,?_⟩
    have e:(List.replicate xs.length true).all id=true:=by
     rw[List.all_eq_true];intro z hz;rw[List.eq_of_mem_replicate hz];rfl
    rw[e];exact k H' hS
theorem zgF {f:Addr}{fd:FuncData}(F:Fun K "_law_same" "_law_same" zhB f fd) (G:Mgs mg) (bS:Binds K fd ["_law_found","_law_due"] []) (mS:mg "_law_same" = some (.ref f)):∀ n:Nat,FnOk P w K mg base CX0 (n+1) f fd ["_law_found","_law_due"] (zd5 n)
 | 0=>zfg F G bS mS 0 ⟨fun vs H Q E ⟨m,h,_⟩=>by lia,fun A outer s H args us vs Q E _ _ _ _ ⟨m,h,_⟩=>by lia⟩
 | m+1=>zfg F G bS mS (m+1) ((zgF F G bS mS m).imp fun vs H Q E ⟨m',h,q⟩=>by cases h;exact q)
end
theorem zep {H:Hp}{n:Nat}{a b:Addr}{xs:List V}(h1:H a=some (.tup xs)) (h2:H b=some (.tup xs)) (l:xs.length≤1000) (f:∀ x∈xs,zb5 x=true):Eq2 H (n+1) (.ref a) (.ref b) :=
 .inr ⟨a,b,xs,xs,rfl,rfl,h1,h2,rfl,l,fun i u v hu hv=>by
  rw[hu]at hv
  obtain rfl:=Option.some.inj hv
  exact Eq2.flat (f u (List.mem_of_getElem? hu))⟩
theorem zg8 {H:Hp}{r fr er r' fr' er':Addr}{ps ps':List V}{N:Nt}(ok:N.Ok) (na:NetAt H r fr er ps N) (nb:NetAt H r' fr' er' ps' N):Eq2 H 3 (.ref r) (.ref r'):=by
 have fm:=ok.fm
 have pl:=na.prs.len
 have el:N.ends.length=N.lanes:=by rw[ok.en.length_eq,List.length_range]
 have l16:=ok.l16
 refine .inr ⟨r,r',_,_,rfl,rfl,na.net,nb.net,rfl,by show 3≤1000;decide,fun i u v hu hv=>?_⟩
 rcases i with _|_|_|i
 ·cases hu;cases hv;exact Eq2.flat rfl
 ·cases hu;cases hv
  refine .inr ⟨fr,fr',ps,ps',rfl,rfl,na.forks,nb.forks,by rw[na.prs.len,nb.prs.len],by lia,fun j x y hx hy=>?_⟩
  obtain⟨g,f,rfl,ef,hg⟩:=na.prs.get hx
  obtain⟨g',f',rfl,ef',hg'⟩:=nb.prs.get hy
  rw[ef]at ef'
  obtain rfl:=Option.some.inj ef'
  refine zep hg hg' (by show 2≤1000;decide) fun x hx=>?_
  simp only[List.mem_cons,List.mem_nil_iff,or_false]at hx
  rcases hx with rfl|rfl<;>rfl
 ·cases hu;cases hv
  refine zep na.ends nb.ends (by unfold nums;rw[List.length_map];lia) fun x hx=>?_
  obtain⟨i,_,rfl⟩:=List.mem_map.mp hx
  rfl
 ·simp at hu
end K93
namespace L2
open PySem PySem.Spec PyProof.Rows Own
section
variable {X:Cx}{e e2:Expr}{ta tb:TE}{p kp pos:Pos}
end
section
variable {X:Cx}
end
end L2
namespace Bn
open PySem L2 Own
end Bn
namespace L2
open PySem PySem.Spec PyProof.Rows
section
variable {X:Cx}
end
end L2
namespace Bn
open PySem L2 Own
end Bn
namespace L2
open PySem PySem.Spec PyProof.Rows Own
end L2
namespace Bn
open PySem L2 Own
end Bn
namespace L2
open PySem PySem.Spec PyProof.Rows Own Builtin Builtin.Str
section
variable {X:Cx}
end
section
variable {X:Cx}{tg:Expr}
end
end L2
namespace Bn
open PySem PySem.Spec PyProof.Rows PySem.NumText
def txt (n:Int):Str:=Str.ofString (toString n)
def digs (m:Nat):List Nat:=(Nat.toDigits 10 m).map Char.toNat
theorem zjp (m:Nat):1≤(digs m).length:=by
 unfold digs
 rw[List.length_map]
 exact toDigits_len_ge 10 m
theorem zjo {m k:Nat}(hk:1≤k) (h:m<10 ^ k):(digs m).length≤k:=by
 unfold digs
 rw[List.length_map]
 exact toDigits_len_pow (by decide) hk h
theorem zit (m:Nat):(txt (m:Nat)).cps.toList=digs m:=PySem.W.KIN.signs_num m
theorem ziu (m:Nat) (h:1≤m):(txt (-(m:Nat))).cps.toList=45::digs m:=by
 obtain⟨k,rfl⟩:∃ k,m=k+1:=⟨m-1,by lia⟩
 have tn:toString (-((k+1:Nat):Int)) = "-"++toString (((k+1:Nat):Int)):=rfl
 unfold txt
 rw[tn]
 generalize k+1=m
 have:(Str.ofString ("-"++toString ((m:Nat):Int))).cps.toList=(Str.ofString "-").cps.toList++(Str.ofString (toString ((m:Nat):Int))).cps.toList:=by
  rw[signs_ofString,signs_ofString,signs_ofString,String.toList_append,List.map_append]
 rw[this,PySem.W.KIN.signs_num];rfl
open Builtin Builtin.Str
theorem zf1 (n:Int):(0≤n∧(txt n).cps.toList=digs n.natAbs)∨(n<0∧(txt n).cps.toList=45::digs n.natAbs):=by
 by_cases h:0≤n
 ·obtain⟨m,rfl⟩:=Int.eq_ofNat_of_zero_le h
  exact .inl ⟨h,zit m⟩
 ·obtain⟨m,rfl⟩:∃ m:Nat,n = -(m:Nat):=⟨n.natAbs,by lia⟩
  refine .inr ⟨by lia,?_⟩
  rw[ziu m (by lia),show (-(m:Nat):Int).natAbs=m by lia]
theorem ziA (z:Str):z.cps.toList.length=z.length:=by simp[Str.length]
theorem ziv {n:Int}(h:n.natAbs<10 ^ 30):1≤(txt n).length∧(txt n).length≤31:=by
 have g:=zjp n.natAbs
 have l:=zjo (k:=30) (by decide) h
 rw[← ziA]
 rcases zf1 n with ⟨_,e⟩|⟨_,e⟩
 ·rw[e];lia
 ·rw[e,List.length_cons];lia
end Bn
namespace L2
open PySem PySem.Spec PyProof.Rows Own PySem.NumText
section
variable {X:Cx}
end
end L2
namespace L2
open PySem PySem.Spec PyProof.Rows Own
section
variable {prog:Program}{w:World}{A:Around}{E:Value→Shared→Prop}{l:Addr}{items:Array Value}
end
section
variable {X:Cx}
end
end L2
namespace Bn
open PySem PySem.Spec PyProof.Rows PySem.NumText Builtin Builtin.Str
end Bn
namespace L2
open PySem PySem.Spec PyProof.Rows Own Bn
structure ShB (m:Nat) (d:PyData):Prop where
 sh:d.showable=true
 nd:d.hasDict=false
 le:d.shown.length≤m
theorem ShB.up {m n:Nat}{d:PyData}(h:ShB m d) (l:m≤n):ShB n d:=⟨h.sh,h.nd,Nat.le_trans h.le l⟩
theorem zgl {m:Nat}:∀ {ds:List PyData},(∀ e∈ds,ShB m e)→PyData.showableAll ds=true∧PyData.hasDictAll ds=false∧∀ t∈PyData.shownAll ds,t.length≤m
 | [],_=>⟨rfl,rfl,fun t ht=>by cases ht⟩
 | d::ds,h=>by
  have a:=h d List.mem_cons_self
  obtain⟨b1,b2,b3⟩:=zgl (ds:=ds) fun e he=>h e (List.mem_cons_of_mem _ he)
  refine⟨?_,?_,fun t ht=>?_⟩
  ·show (d.showable && PyData.showableAll ds)=true
   rw[a.sh,b1];rfl
  ·show (d.hasDict || PyData.hasDictAll ds)=false
   rw[a.nd,b2];rfl
  ·change t∈d.shown::PyData.shownAll ds at ht
   rcases (List.mem_cons.1 ht) with rfl|ht
   ·exact a.le
   ·exact b3 t ht
theorem zcm:∀ ds:List PyData,(PyData.shownAll ds).length=ds.length
 | []=>rfl
 | d::ds=>by show (d.shown::PyData.shownAll ds).length=_;rw[List.length_cons,zcm ds];rfl
section
variable {X:Cx}
end
end L2
namespace Bn
open PySem L2 Own
def zjB:V→Bool
 | .int i=>decide (i.natAbs≤1000)
 | .str z=>decide ((PyData.str z).shown.length≤40) && (PyData.str z).canLay0
 | .bl _=>true
 | .non=>true
 | _=>false
def toD:V→PyData
 | .int i=>.int i
 | .str z=>.str z
 | .bl b=>.bool b
 | _=>.none
theorem zdV {K:PySem.W.Frag}{H:Hp}{x:V}(a:AnyT K H x) (r:zjH H x=none):∀ n,Deep K H n x
 | 0=>a
 | n+1=>⟨a,fun xs e=>by rw[r]at e;cases e⟩
theorem zhx {v:V}(h:zjB v=true):FlD v (toD v)∧ShB 40 (toD v)∧∀ (K:PySem.W.Frag) (H:Hp) (n:Nat),Deep K H n v:=by
 cases v with
 | int i =>
  have hi:i.natAbs≤1000:=of_decide_eq_true h
  have lg:i.natAbs.log2<1920:=by
   by_cases z:i.natAbs=0
   ·rw[z];decide
   ·exact(Nat.log2_lt z).mpr (Nat.lt_of_le_of_lt hi (by decide))
  refine⟨.inl ⟨i,rfl,rfl⟩,⟨decide_eq_true lg,rfl,?_⟩,fun K H n=>zdV ⟨_,.int i,_,rfl⟩ rfl n⟩
  have:=(ziv (n:=i) (Nat.lt_of_le_of_lt hi (by decide))).2
  show (txt i).length≤40
  lia
 | str z =>
  have hz:decide ((PyData.str z).shown.length≤40)=true∧(PyData.str z).canLay0=true:=by rw[← Bool.and_eq_true];exact h
  exact⟨.inr (.inl ⟨z,rfl,rfl,hz.2⟩),⟨rfl,rfl,of_decide_eq_true hz.1⟩,fun K H n=>zdV ⟨_,.str z,_,rfl⟩ rfl n⟩
 | bl b=>exact⟨.inr (.inr (.inl ⟨b,rfl,rfl⟩)),⟨rfl,rfl,by cases b<;>decide⟩,fun K H n=>zdV ⟨_,.bl b,_,rfl⟩ rfl n⟩
 | non=>exact⟨.inr (.inr (.inr ⟨rfl,rfl⟩)),⟨rfl,rfl,by decide⟩,fun K H n=>zdV ⟨_,.non,_,rfl⟩ rfl n⟩
 | _=>cases h
section
variable {N:Nt}{dd:Nat}{σ:St}{Pre:Hp→Prop}
end
section
variable {N:Nt}{dd:Nat}{σ:St}{Pre:Hp→Prop}{D:Ends}{H:Hp}{ta:TA}{n:Nat}
end
section
variable {N:Nt}{dd:Nat}{σ:St}{Pre:Hp→Prop}{D:Ends}{H:Hp}{ta:TA}{n:Nat}
end
end Bn
namespace L2
open PySem PySem.Spec PyProof.Rows Own Bn
section
variable {X:Cx}
end
theorem ziG {i:Int}(h:i.natAbs≤1000):ShB 40 (.int i):=(zhx (v:=.int i) (decide_eq_true h)).2.1
theorem ShB.long {m k:Nat}{ds:List PyData}(h:∀ e∈ds,ShB m e) (l:ds.length≤k):ShB (k*(m+2)+3) (.tuple ds):=by
 obtain⟨a,b,c⟩:=zgl h
 refine⟨a,b,?_⟩
 have t:=zbE (PyData.shownAll ds)
 have p:=zc9 c
 rw[zcm]at p
 have q:=Nat.mul_le_mul_right (m+2) l
 exact Nat.le_trans t (by lia)
section
variable {X:Cx}
theorem call_strZ (hg:X.A.guards=some []) (hu:X.A.units+64<cLine):CallR X (.type "str") (fun xs H Q=>∃ a d,xs=[.ref a]∧DD H 12 (.ref a) d∧ShB 1000000 d∧Q (.str d.shown) H):=by
 rintro pins s σ H xs us Q I r ⟨a,d,rfl,dd,sh,q⟩
 obtain⟨u,rfl,r1⟩:=zfu r
 have big:d.shown.length≤sizeLine:=by have:=sh.le;rw[sizeLine_eq];lia
 obtain⟨as,rd⟩:=DD.reads I 12 _ d _ dd r1
 have dp:=dd.ok.2
 obtain rfl:u=Value.ref a:=r1
 exact str_of_reads rd sh.sh (fun z=>by rw[sh.nd]at z;cases z) hg (by lia) (fun _ _ e=>e) (fun h' u tk k=>⟨.str d.shown,H,I.kept k,⟨_,rfl⟩,q⟩) big
end
theorem ShB.two {m n:Nat}{a b:PyData}(ha:ShB m a) (hb:ShB n b):ShB (m+n+7) (.tuple [a,b]):=by
 refine⟨?_,?_,?_⟩
 ·show (a.showable && (b.showable && true))=true
  rw[ha.sh,hb.sh];rfl
 ·show (a.hasDict || (b.hasDict || false))=false
  rw[ha.nd,hb.nd];rfl
 ·have t:=zbE [a.shown,b.shown]
  have p:piled [a.shown,b.shown]=a.shown.length+2+(b.shown.length+2+0):=rfl
  have:=ha.le
  have:=hb.le
  exact Nat.le_trans t (by rw[p];lia)
theorem ShB.three {m n k:Nat}{a b c:PyData}(ha:ShB m a) (hb:ShB n b) (hc:ShB k c):ShB (m+n+k+9) (.tuple [a,b,c]):=by
 refine⟨?_,?_,?_⟩
 ·show (a.showable && (b.showable && (c.showable && true)))=true
  rw[ha.sh,hb.sh,hc.sh];rfl
 ·show (a.hasDict || (b.hasDict || (c.hasDict || false)))=false
  rw[ha.nd,hb.nd,hc.nd];rfl
 ·have t:=zbE [a.shown,b.shown,c.shown]
  have p:piled [a.shown,b.shown,c.shown]=a.shown.length+2+(b.shown.length+2+(c.shown.length+2+0)):=rfl
  have:=ha.le
  have:=hb.le
  have:=hc.le
  exact Nat.le_trans t (by rw[p];lia)
theorem zgh:∀ i:Nat,i<17→(PyData.int (i:Nat)).shown.length≤2:=by decide +kernel
theorem zby {i:Nat}(h:i≤16):ShB 2 (.int (i:Nat)):=⟨(ziG (i:=(i:Nat)) (by lia)).sh,rfl,zgh i (by lia)⟩
theorem ziF {N:Nt}(ok:N.Ok):ShB 1800 (netD N):=by
 have l16:=ok.l16
 have f:ShB (128*(11+2)+3) (.tuple (N.forks.map zg5)):=ShB.long (fun e he=>by
  obtain⟨g,hg,rfl⟩:=List.mem_map.mp he
  have:=ok.fk g hg
  exact(ShB.two (zby (by lia)) (zby (by lia))).up (by decide)) (by rw[List.length_map];exact ok.fm)
 have e:ShB (16*(2+2)+3) (.tuple (N.ends.map fun e=>.int ((e:Nat):Int))):=ShB.long (fun e he=>by
  obtain⟨g,hg,rfl⟩:=List.mem_map.mp he
  have:=zbH ok hg
  exact zby (by lia)) (by rw[List.length_map,zaH ok];exact l16)
 exact(ShB.three (zby l16) f e).up (by decide)
theorem za9:ShB 12 (.str "net")∧ShB 12 (.str "doubled")∧ShB 12 (.str "renamed")∧ShB 12 (.str "beside")∧ShB 12 (.str "behind")∧ShB 12 (.str "stairway")∧ShB 12 (.str "rounds")∧ShB 12 (.str "merger") :=
 ⟨⟨rfl,rfl,by decide +kernel⟩,⟨rfl,rfl,by decide +kernel⟩,⟨rfl,rfl,by decide +kernel⟩,⟨rfl,rfl,by decide +kernel⟩,⟨rfl,rfl,by decide +kernel⟩,⟨rfl,rfl,by decide +kernel⟩,⟨rfl,rfl,by decide +kernel⟩,⟨rfl,rfl,by decide +kernel⟩⟩
theorem ziE (w:Nat):ShB 12 (.str (wayS w)):=by
 obtain⟨_,_,_,_,_,a,b,c⟩:=za9
 unfold wayS
 split
 ·exact a
 split
 ·exact b
 ·exact c
theorem zbd:∀ {p:Pln},p.Ok→ShB (2100*2 ^ p.hi-200) p.dat
 | .net N,h=>(ShB.two za9.1 (ziF h)).up (by show _≤2100*2 ^ 1-200;decide)
 | .way w k,h=>(ShB.two (ziE w) (zby (by have:=h.2.1;lia))).up (by show _≤2100*2 ^ 1-200;decide)
 | .dbl p,h=>(ShB.two za9.2.1 (zbd h.1)).up (by
  show _≤2100*2 ^ (p.hi+1)-200
  have:=Nat.one_le_two_pow (n:=p.hi)
  rw[Nat.pow_succ];lia)
 | .ren p ns,h=>(ShB.three za9.2.2.1 (zbd h.1) (ShB.long (m:=2) (k:=16) (fun e he=>by
   obtain⟨g,hg,rfl⟩:=List.mem_map.mp he
   have:=List.mem_range.mp (h.2.mem_iff.mp hg)
   have:=(Pln.fit h.1).2
   exact zby (by lia)) (by rw[List.length_map,h.2.length_eq,List.length_range];exact(Pln.fit h.1).2))).up (by
  show _≤2100*2 ^ (p.hi+1)-200
  have:=Nat.one_le_two_pow (n:=p.hi)
  rw[Nat.pow_succ];lia)
 | .bes p q,h=>(ShB.three za9.2.2.2.1 (zbd h.1) (zbd h.2.1)).up (by
  show _≤2100*2 ^ (max p.hi q.hi+1)-200
  have a:=Nat.pow_le_pow_right (n:=2) (by decide) (Nat.le_max_left p.hi q.hi)
  have b:=Nat.pow_le_pow_right (n:=2) (by decide) (Nat.le_max_right p.hi q.hi)
  have:=Nat.one_le_two_pow (n:=p.hi)
  have:=Nat.one_le_two_pow (n:=q.hi)
  rw[Nat.pow_succ];lia)
 | .beh p q,h=>(ShB.three za9.2.2.2.2.1 (zbd h.1) (zbd h.2.1)).up (by
  show _≤2100*2 ^ (max p.hi q.hi+1)-200
  have a:=Nat.pow_le_pow_right (n:=2) (by decide) (Nat.le_max_left p.hi q.hi)
  have b:=Nat.pow_le_pow_right (n:=2) (by decide) (Nat.le_max_right p.hi q.hi)
  have:=Nat.one_le_two_pow (n:=p.hi)
  have:=Nat.one_le_two_pow (n:=q.hi)
  rw[Nat.pow_succ];lia)
theorem zgk {p:Pln}(ok:p.Ok) (h:p.hi≤8):ShB 1000000 p.dat:=(zbd ok).up (by
 have:=Nat.pow_le_pow_right (n:=2) (by decide) h
 have e:2 ^ 8=256:=rfl
 lia)
end L2
namespace K93
open PySem L2 Own Bn
abbrev sLaw:Stmt:=top 41
def zhw (K:PySem.W.Frag):Sp:=fun vs H Q _=>∃ (a:Addr) (ns:List Int),vs=[.ref a]∧SqL K H a (ns.map V.int)∧ns.length≤63∧∀ H',Q (.bl true) H'
theorem ziB {K:PySem.W.Frag}{H H1 H2:Hp}{a l:Addr}{xs:List V}(h:SqL K H a xs) (hl:H l=none) (s:Same H H1) (B:But l H1 H2):SqL K H2 a xs:=by
 rcases h with (h|⟨o,h⟩)|h
 ·exact .inl (.inl (B _ _ (s _ _ h) (zad h hl)))
 ·exact .inl (.inr ⟨o,B _ _ (s _ _ h) (zad h hl)⟩)
 ·exact .inr h
def endN:Nt:=⟨2,[(1,0)],[1,0]⟩
theorem zj6:Nt.Ok endN:=⟨by decide,by decide,by decide,by decide,by decide⟩
theorem zg9:PyData.eqv (netD (zal endN)) (netD endN)=true:=by decide +kernel
section
variable {P:Program}{w:World}{K:PySem.W.Frag}{mg:Str→Option Value}{base:Heap}
theorem scW:FnScope ["_law_script","_law_k","_law_left_here","_law_plan_here","_law_text","_law_due"] ["_law_script"] (zaf sLaw):=⟨rfl,rfl,rfl,by decide +kernel,rfl,by decide +kernel,by decide +kernel⟩
theorem zjW {f fL fA fD fP fB fS:Addr}{fd dL dA dD dP dB dS:FuncData}(F:Fun K "law" "law" sLaw f fd) (G:Mgs mg) (UL:Use P w K mg base "_law_left" ["_law_script","_law_k"] 2 (zgd K) fL dL) (UA:Use P w K mg base "_law_any_plan" ["_law_left_here"] 13 zcD fA dA) (UD:Use P w K mg base "_law_made" ["_law_plan_here"] 19 (zcB 8) fD dD) (UP:Use P w K mg base "_law_plain" ["_law_net"] 1 zdz fP dP) (UB:Use P w K mg base "made_by" ["plan"] 20 (zc6 8) fB dB) (US:Use P w K mg base "_law_same" ["_law_found","_law_due"] 4 (zd5 3) fS dS):FnOk P w K mg base CX0 21 f fd ["_law_script"] (zhw K):=by
 refine F.ok scW (fun vs H Q E h=>?_) (fun cdv A outer s H vs Q E hr h=>?_)
 ·obtain⟨a,ns,rfl,_⟩:=h
  rfl
 obtain⟨a,ns,rfl,hS,h63,k⟩:=h
 have hr1:Room 1 _:=hr.mono (by decide)
 have hr2:Room 2 _:=hr.mono (by decide)
 have hr4:Room 4 _:=hr.mono (by decide)
 have hr13:Room 13 _:=hr.mono (by decide)
 have hr19:Room 19 _:=hr.mono (by decide)
 refine⟨_,(@pss_cons _ _ _ _ _ (@zcG _ _ _ _ _ _ _ _ PassesOwn.never rfl (@zbr _ _ _ _ _ _ rfl G.range (@pa_cons _ _ _ _ _ (@zaj _ _ _ _ _ _ _ _ _ (zb7 rfl) (by rfl) G.max (by rfl) (@pa_cons _ _ _ _ _ pe_int (@pa_cons _ _ _ _ _ (@zaj _ _ _ _ _ _ _ _ _ (zes rfl) (by rfl) G.min (by rfl) (@pa_cons _ _ _ _ _ pe_int (@pa_cons _ _ _ _ _ (@zaj _ _ _ _ _ _ _ _ _ zai (by rfl) G.len PySem.boot_len (@pa_cons _ _ _ _ _ (@pv _ 0 _ _ (by rfl) (by first|exact Or.inl rfl|exact Or.inr (.inl rfl)|exact Or.inr (.inr rfl)) (by decide) (by decide)) pa_nil (by rfl)) (by decide) (by decide) (by rfl) (by rfl)) pa_nil (by rfl)) (by rfl)) (by decide) (by decide) (by rfl) (by rfl)) pa_nil (by rfl)) (by rfl)) (by decide) (by decide) (by rfl) (by rfl)) pa_nil (by rfl)) (by rfl)) (@zab _ _ 1 _ scW.nd rfl (.inl rfl) (by first|exact .inl rfl|exact .inr rfl|assumption)) (@pss_cons _ _ _ _ _ (@zak _ _ 2 _ _ _ _ scW.nd rfl (.inl rfl) (@pe_call _ _ _ _ _ _ _ _ _ _ _ _ _ _ _ _ UL.ok hr2 (by rfl) UL.m UL.kp UL.b .nil pass0 (@pa_cons _ _ _ _ _ (@pv _ 0 _ _ (by rfl) (by first|exact Or.inl rfl|exact Or.inr (.inl rfl)|exact Or.inr (.inr rfl)) (by decide) (by decide)) (@pa_cons _ _ _ _ _ (@pv _ 1 _ _ (by rfl) (by first|exact Or.inl rfl|exact Or.inr (.inl rfl)|exact Or.inr (.inr rfl)) (by decide) (by decide)) pa_nil (by rfl)) (by rfl)) (by decide) (by rfl) (by rfl)) (by rfl) (by first|exact .inl rfl|exact .inr rfl|assumption)) (@pss_cons _ _ _ _ _ (@zak _ _ 3 _ _ _ _ scW.nd rfl (.inl rfl) (@pe_call _ _ _ _ _ _ _ _ _ _ _ _ _ _ _ _ UA.ok hr13 (by rfl) UA.m UA.kp UA.b .nil pass0 (@pa_cons _ _ _ _ _ (@pv _ 2 _ _ (by rfl) (by first|exact Or.inl rfl|exact Or.inr (.inl rfl)|exact Or.inr (.inr rfl)) (by decide) (by decide)) pa_nil (by rfl)) (by decide) (by rfl) (by rfl)) (by rfl) (by first|exact .inl rfl|exact .inr rfl|assumption)) (@pss_cons _ _ _ _ _ (@zak _ _ 4 _ _ _ _ scW.nd rfl (.inl rfl) (@pe_callTy _ _ _ _ _ _ _ _ _ (call_strZ hr.gd hr.units) (by rfl) G.str (by rfl) (@pa_cons _ _ _ _ _ (@pv _ 3 _ _ (by rfl) (by first|exact Or.inl rfl|exact Or.inr (.inl rfl)|exact Or.inr (.inr rfl)) (by decide) (by decide)) pa_nil (by rfl)) (by decide) (by decide) (by rfl) (by rfl)) (by rfl) (by first|exact .inl rfl|exact .inr rfl|assumption)) (@pss_cons _ _ _ _ _ (@zak _ _ 5 _ _ _ _ scW.nd rfl (.inl rfl) (@pe_call _ _ _ _ _ _ _ _ _ _ _ _ _ _ _ _ UP.ok hr1 (by rfl) UP.m UP.kp UP.b .nil pass0 (@pa_cons _ _ _ _ _ (@pe_call _ _ _ _ _ _ _ _ _ _ _ _ _ _ _ _ UD.ok hr19 (by rfl) UD.m UD.kp UD.b .nil pass0 (@pa_cons _ _ _ _ _ (@pv _ 3 _ _ (by rfl) (by first|exact Or.inl rfl|exact Or.inr (.inl rfl)|exact Or.inr (.inr rfl)) (by decide) (by decide)) pa_nil (by rfl)) (by decide) (by rfl) (by rfl)) pa_nil (by rfl)) (by decide) (by rfl) (by rfl)) (by rfl) (by first|exact .inl rfl|exact .inr rfl|assumption)) (@pss_one _ _ _ (@zau _ _ _ _ _ _ _ _ (@pw_or _ _ _ _ _ _ _ (@pt_not _ _ _ _ (@pt_val _ _ _ (@pe_call _ _ _ _ _ _ _ _ _ _ _ _ _ _ _ _ US.ok hr4 (by rfl) US.m US.kp US.b .nil pass0 (@pa_cons _ _ _ _ _ (@pe_call _ _ _ _ _ _ _ _ _ _ _ _ _ _ _ _ UB.ok hr (by rfl) UB.m UB.kp UB.b .nil pass0 (@pa_cons _ _ _ _ _ (@pv _ 3 _ _ (by rfl) (by first|exact Or.inl rfl|exact Or.inr (.inl rfl)|exact Or.inr (.inr rfl)) (by decide) (by decide)) pa_nil (by rfl)) (by decide) (by rfl) (by rfl)) (@pa_cons _ _ _ _ _ (@pv _ 5 _ _ (by rfl) (by first|exact Or.inl rfl|exact Or.inr (.inl rfl)|exact Or.inr (.inr rfl)) (by decide) (by decide)) pa_nil (by rfl)) (by rfl)) (by decide) (by rfl) (by rfl)) (by intro _;rfl))) (@pw_or _ _ _ _ _ _ _ (@pt_not _ _ _ _ (@pt_val _ _ _ (@pe_call _ _ _ _ _ _ _ _ _ _ _ _ _ _ _ _ US.ok hr4 (by rfl) US.m US.kp US.b .nil pass0 (@pa_cons _ _ _ _ _ (@pe_call _ _ _ _ _ _ _ _ _ _ _ _ _ _ _ _ UB.ok hr (by rfl) UB.m UB.kp UB.b .nil pass0 (@pa_cons _ _ _ _ _ (@pv _ 3 _ _ (by rfl) (by first|exact Or.inl rfl|exact Or.inr (.inl rfl)|exact Or.inr (.inr rfl)) (by decide) (by decide)) pa_nil (by rfl)) (by decide) (by rfl) (by rfl)) (@pa_cons _ _ _ _ _ (@pv _ 5 _ _ (by rfl) (by first|exact Or.inl rfl|exact Or.inr (.inl rfl)|exact Or.inr (.inr rfl)) (by decide) (by decide)) pa_nil (by rfl)) (by rfl)) (by decide) (by rfl) (by rfl)) (by intro _;rfl))) (@pw_or1 _ _ _ _ (@pt_cmpR _ _ _ _ _ _ _ _ op_ne (@pe_callTy _ _ _ _ _ _ _ _ _ (call_strZ hr.gd hr.units) (by rfl) G.str (by rfl) (@pa_cons _ _ _ _ _ (@pv _ 3 _ _ (by rfl) (by first|exact Or.inl rfl|exact Or.inr (.inl rfl)|exact Or.inr (.inr rfl)) (by decide) (by decide)) pa_nil (by rfl)) (by decide) (by decide) (by rfl) (by rfl)) (@pv _ 4 _ _ (by rfl) (by first|exact Or.inl rfl|exact Or.inr (.inl rfl)|exact Or.inr (.inr rfl)) (by decide) (by decide)) (nomark _))))).pt (@pss_one _ _ _ (@ps_ret _ _ _ _ pe_bl)) pss_nil)))))) (by intro _;rfl)) (@pss_one _ _ _ (@ps_ret _ _ _ _ (@pe_cmpR _ _ _ _ _ _ _ _ (op_eqX hr.units) (@pe_call _ _ _ _ _ _ _ _ _ _ _ _ _ _ _ _ UB.ok hr (by rfl) UB.m UB.kp UB.b .nil pass0 (@pa_cons _ _ _ _ _ (@pe_tup _ _ _ _ _ (@pa_cons _ _ _ _ _ pe_str (@pa_cons _ _ _ _ _ (@pe_tup _ _ _ _ _ (@pa_cons _ _ _ _ _ pe_int (@pa_cons _ _ _ _ _ (@pe_tup _ _ _ _ _ (@pa_cons _ _ _ _ _ (@pe_tup _ _ _ _ _ (@pa_cons _ _ _ _ _ pe_int (@pa_cons _ _ _ _ _ pe_int pa_nil (by rfl)) (by rfl))) pa_nil (by rfl))) (@pa_cons _ _ _ _ _ (@pe_tup _ _ _ _ _ (@pa_cons _ _ _ _ _ pe_int (@pa_cons _ _ _ _ _ pe_int pa_nil (by rfl)) (by rfl))) pa_nil (by rfl)) (by rfl)) (by rfl))) pa_nil (by rfl)) (by rfl))) pa_nil (by rfl)) (by decide) (by rfl) (by rfl)) (@pe_tup _ _ _ _ _ (@pa_cons _ _ _ _ _ pe_int (@pa_cons _ _ _ _ _ (@pe_tup _ _ _ _ _ (@pa_cons _ _ _ _ _ (@pe_tup _ _ _ _ _ (@pa_cons _ _ _ _ _ pe_int (@pa_cons _ _ _ _ _ pe_int pa_nil (by rfl)) (by rfl))) pa_nil (by rfl))) (@pa_cons _ _ _ _ _ (@pe_tup _ _ _ _ _ (@pa_cons _ _ _ _ _ pe_int (@pa_cons _ _ _ _ _ pe_int pa_nil (by rfl)) (by rfl))) pa_nil (by rfl)) (by rfl)) (by rfl))) (nomark _))))),?_⟩
 refine⟨_,rfl,a,_,rfl,.inl hS,_,_,rfl,_,_,rfl,_,rfl,?_,?_,?_⟩
 ·split<;>split<;>lia
 ·rw[List.length_map];split<;>split<;>lia
 refine zb3 (lo:=0) (fun i σ H2=>(∃ v1 v2 v3 v4 v5,σ=[some (.ref a),v1,v2,v3,v4,v5])∧SqL K H2 a (ns.map V.int)) ⟨⟨_,_,_,_,_,rfl⟩,hS⟩ ?_ ?_
 ·rintro i σ H2 hi ⟨⟨v1,v2,v3,v4,v5,rfl⟩,hS2⟩
  have ib:i<31:=by
   have:(if (if ((ns.map V.int).length:Int)<20 then ((ns.map V.int).length:Int) else 20) > 6 then (if ((ns.map V.int).length:Int)<20 then ((ns.map V.int).length:Int) else 20) else 6)≤30:=by split<;>split<;>lia
   lia
  refine⟨_,rfl,_,rfl,a,ns,_,rfl,hS2,h63,by lia,by lia,fun l H3 hl s3 S3=>?_⟩
  refine⟨_,rfl,l,rfl,S3,fun v p H4 okp hip ap S4 B4=>?_⟩
  obtain⟨t,wd,y,xs,rfl,ht⟩:=ap.top
  have sh:=zgk okp hip
  have dd:∀ H',Same H4 H'→DD H' 12 (.ref t) p.dat:=fun H' s'=>((ap.tups (Tups.of s')).dd).up (by lia)
  obtain⟨okR,lR,mR⟩:=Pln.raw_ok okp
  refine⟨_,rfl,t,_,rfl,dd H4 (Same.refl _),sh,?_⟩
  refine⟨_,rfl,.ref t,p,rfl,okp,hip,ap,fun r fr er ps H5 s5 na=>?_⟩
  refine⟨r,fr,er,ps,_,rfl,okR,na,fun r' fr' ps' H6 s6 nd=>?_⟩
  have u6:=s5.trans s6
  refine⟨_,rfl,.ref t,p,rfl,okp,hip,ap.tups (Tups.of u6),fun r1 fr1 er1 ps1 H7 s7 n1=>?_⟩
  refine⟨_,rfl,_,_,rfl,zg8 (zaN okR) n1 (nd.tups (Tups.of s7)),fun H8 s8=>⟨_,rfl,iteF ?_⟩⟩
  have u8:=(u6.trans s7).trans s8
  refine⟨_,rfl,.ref t,p,rfl,okp,hip,ap.tups (Tups.of u8),fun r2 fr2 er2 ps2 H9 s9 n2=>?_⟩
  refine⟨_,rfl,_,_,rfl,zg8 (zaN okR) n2 (((nd.tups (Tups.of s7)).tups (Tups.of s8)).tups (Tups.of s9)),fun H10 s10=>⟨_,rfl,iteF ?_⟩⟩
  have u10:=(u8.trans s9).trans s10
  refine⟨_,rfl,t,_,rfl,dd H10 u10,sh,_,rfl,rfl,_,rfl,?_⟩
  rw[decide_eq_true rfl]
  exact iteF ⟨⟨_,_,_,_,_,rfl⟩,ziB hS2 hl s3 (B4.trans (But.of u10))⟩
 rintro σ H2 ⟨⟨v1,v2,v3,v4,v5,rfl⟩,_⟩
 refine⟨(by show 2≤sizeLine;decide),fun p1 hp1=>?_⟩
 have sa:=zaa hp1 (.tup [.int 1,.int 0])
 refine⟨(by show 1≤sizeLine;decide),fun ff hff=>?_⟩
 have sb:=zaa hff (.tup [.ref p1])
 refine⟨(by show 2≤sizeLine;decide),fun ee hee=>?_⟩
 have sc:=zaa hee (.tup [.int 1,.int 0])
 refine⟨(by show 3≤sizeLine;decide),fun rr hrr=>?_⟩
 have sd:=zaa hrr (.tup [.int 2,.ref ff,.ref ee])
 refine⟨(by show 2≤sizeLine;decide),fun tt htt=>?_⟩
 have se:=zaa htt (.tup [.str "net",.ref rr])
 have nb:NetAt _ rr ff ee [.ref p1] endN:=⟨se _ _ (atNew hrr _),se _ _ (sd _ _ (sc _ _ (atNew hff _))),⟨⟨p1,rfl,se _ _ (sd _ _ (sc _ _ (sb _ _ (atNew hp1 _))))⟩,trivial⟩,se _ _ (sd _ _ (atNew hee _))⟩
 refine⟨.ref tt,.net endN,rfl,zj6,by show 1≤8;decide,⟨tt,rr,ff,ee,_,rfl,atNew htt _,nb⟩,fun r fr er ps H3 s3 n3=>?_⟩
 refine⟨(by show 2≤sizeLine;decide),fun q1 hq1=>?_⟩
 have ta:=zaa hq1 (.tup [.int 1,.int 0])
 refine⟨(by show 1≤sizeLine;decide),fun q2 hq2=>?_⟩
 have tb:=zaa hq2 (.tup [.ref q1])
 refine⟨(by show 2≤sizeLine;decide),fun q3 hq3=>?_⟩
 have tc:=zaa hq3 (.tup [.int 1,.int 0])
 refine⟨(by show 3≤sizeLine;decide),fun q4 hq4=>?_⟩
 have td:=zaa hq4 (.tup [.int 2,.ref q2,.ref q3])
 have nq:NetAt _ q4 q2 q3 [.ref q1] endN:=⟨atNew hq4 _,td _ _ (tc _ _ (atNew hq2 _)),⟨⟨q1,rfl,td _ _ (tc _ _ (tb _ _ (atNew hq1 _)))⟩,trivial⟩,td _ _ (atNew hq3 _)⟩
 refine⟨3,netD (zal endN),netD endN,by decide,zhg (n3.tups (Tups.of (((ta.trans tb).trans tc).trans td))),zhg nq,?_⟩
 rw[if_pos rfl,zg9]
 exact k _
end
structure FnAt (K:PySem.W.Frag) (x:Str) (st:Stmt) (f:Addr) (fd:FuncData):Prop where
 ns:PySem.W.nsIn K mainGlobals x=some (some (.ref f))
 fn:Fun K x x st f fd
theorem zav {K:PySem.W.Frag}{x:Str}{st:Stmt}{f:Addr}{oc:Value}{od an:Option Addr}{osl:Array (Option Value)}{kV doc pm cdv ct:Value}(a:PySem.W.nsIn K mainGlobals x=some (some (.ref f)))
  (l:K.lookup f=some ⟨oc,od,.func (PySem.W.fnOf x x (zcj st) (zbI st) (zaf st) .none kV doc pm an cdv ct),osl⟩) (c:PySem.W.codeIn K cdv x=true) (k:PySem.W.keepIn K (.ref f)=true):FnAt K x st f (PySem.W.fnOf x x (zcj st) (zbI st) (zaf st) .none kV doc pm an cdv ct):=⟨a,zj5 l c k⟩
theorem us1 {us:List Value}(h:us.length=1):∃ u0,us=[u0]:=by
 match us,h with
 | [u0],_=>exact⟨u0,rfl⟩
theorem us2 {us:List Value}(h:us.length=2):∃ u0 u1,us=[u0,u1]:=by
 match us,h with
 | [u0,u1],_=>exact⟨u0,u1,rfl⟩
theorem us3 {us:List Value}(h:us.length=3):∃ u0 u1 u2,us=[u0,u1,u2]:=by
 match us,h with
 | [u0,u1,u2],_=>exact⟨u0,u1,u2,rfl⟩
theorem us4 {us:List Value}(h:us.length=4):∃ u0 u1 u2 u3,us=[u0,u1,u2,u3]:=by
 match us,h with
 | [u0,u1,u2,u3],_=>exact⟨u0,u1,u2,u3,rfl⟩
set_option maxHeartbeats 4000001 in
theorem zkb {l:PySem.W.OpenLaw}{w:World}{K:PySem.W.Frag}{h:Heap}{mg:Str→Option Value}{fa f1 f2 f3 f4 f5 f6 f7 f8 f9 f10 f11 f12 f13 f14 f15 f16 f17 f18 f19 f20 f21 f22 f23 f24 f25 f26 f27 f28 f29 f30 f31 f32 f33 f34 f35 f36:Addr}{d1 d2 d3 d4 d5 d6 d7 d8 d9 d10 d11 d12 d13 d14 d15 d16 d17 d18 d19 d20 d21 d22 d23 d24 d25 d26 d27 d28 d29 d30 d31 d32 d33 d34 d35 d36:FuncData}(X:K.In h) (G:h.Ns mainGlobals mg) (hfa:mg "law" = some (.ref fa))
  (A1:FnAt K "_law_cell_at" ziN f1 d1)
  (A2:FnAt K "_law_left" ziL f2 d2)
  (A3:FnAt K "_law_pick" ziK f3 d3)
  (A4:FnAt K "layers" zeF f4 d4)
  (A5:FnAt K "plain" zgq f5 d5)
  (A6:FnAt K "power_of_two" sPow f6 d6)
  (A7:FnAt K "row_of" zgo f7 d7)
  (A8:FnAt K "net_of" zdD f8 d8)
  (A9:FnAt K "block_of" zfb f9 d9)
  (A10:FnAt K "rounds" zeC f10 d10)
  (A11:FnAt K "by_turns" sBy f11 d11)
  (A12:FnAt K "merger_of" zbW f12 d12)
  (A13:FnAt K "merger" zeE f13 d13)
  (A14:FnAt K "stairway_of" zbV f14 d14)
  (A15:FnAt K "stairway" zcE f15 d15)
  (A16:FnAt K "called" zdF f16 d16)
  (A17:FnAt K "behind" zeH f17 d17)
  (A18:FnAt K "beside" zeG f18 d18)
  (A19:FnAt K "doubled" zdE f19 d19)
  (A20:FnAt K "renamed" zdC f20 d20)
  (A21:FnAt K "made_by" zhD f21 d21)
  (A22:FnAt K "_law_power" zgp f22 d22)
  (A23:FnAt K "_law_names" zgs f23 d23)
  (A24:FnAt K "_law_net_of" zgr f24 d24)
  (A25:FnAt K "_law_leaf" ziM f25 d25)
  (A26:FnAt K "_law_plan" zhC f26 d26)
  (A27:FnAt K "_law_any_plan" zdH f27 d27)
  (A28:FnAt K "_law_plain" zeD f28 d28)
  (A29:FnAt K "_law_merged" zcF f29 d29)
  (A30:FnAt K "_law_stairs" zbU f30 d30)
  (A31:FnAt K "_law_block" zdG f31 d31)
  (A32:FnAt K "_law_told_way" zgn f32 d32)
  (A33:FnAt K "_law_then" ziJ f33 d33)
  (A34:FnAt K "_law_made" ze9 f34 d34)
  (A35:FnAt K "_law_same" zhB f35 d35)
  (A36:FnAt K "law" sLaw f36 d36)
  (z1:PySem.W.nsIn K mainGlobals "len" = some none)
  (z2:PySem.W.nsIn K mainGlobals "range" = some none)
  (z3:PySem.W.nsIn K mainGlobals "tuple" = some none)
  (z4:PySem.W.nsIn K mainGlobals "enumerate" = some none)
  (z5:PySem.W.nsIn K mainGlobals "abs" = some none)
  (z6:PySem.W.nsIn K mainGlobals "zip" = some none)
  (z7:PySem.W.nsIn K mainGlobals "isinstance" = some none)
  (z8:PySem.W.nsIn K mainGlobals "all" = some none)
  (z9:PySem.W.nsIn K mainGlobals "sum" = some none)
  (z10:PySem.W.nsIn K mainGlobals "bool" = some none)
  (z11:PySem.W.nsIn K mainGlobals "int" = some none)
  (z12:PySem.W.nsIn K mainGlobals "str" = some none)
  (z13:PySem.W.nsIn K mainGlobals "max" = some none)
  (z14:PySem.W.nsIn K mainGlobals "min" = some none)
  (z15:PySem.W.nsIn K mainGlobals "sorted" = some none)
  (z16:PySem.W.nsIn K mainGlobals "list" = some none)
  (zd:PySem.W.nsIn K cStatics "sys.int_max_str_digits" = some none)
  : ∃ fd:FuncData,(∀ (s:Shared) (v:Value),BindsTo s fd ⟨[v],[]⟩ [("_law_script",v)])∧∀ base:Heap,K.In base→base.Ns mainGlobals mg→FnOk l.prog w K mg base CX0 21 fa fd ["_law_script"] (zhw K):=by
 have e:=hfa.symm.trans (PySem.W.mg_of X G A36.ns)
 cases e
 have M:Mgs mg:=⟨PySem.W.mg_none_of X G z1,PySem.W.mg_none_of X G z2,PySem.W.mg_none_of X G z3,PySem.W.mg_none_of X G z4,PySem.W.mg_none_of X G z5,PySem.W.mg_none_of X G z6,PySem.W.mg_none_of X G z7,PySem.W.mg_none_of X G z8,PySem.W.mg_none_of X G z9,PySem.W.mg_none_of X G z10,PySem.W.mg_none_of X G z11,PySem.W.mg_none_of X G z12,PySem.W.mg_none_of X G z13,PySem.W.mg_none_of X G z14,PySem.W.mg_none_of X G z15,PySem.W.mg_none_of X G z16⟩
 have b1:=A1.fn.binds (ps:=["_law_script","_law_k"]) fun _ _ _ _ _ _ us hl=>by obtain⟨u0,u1,rfl⟩:=us2 hl;rfl
 have m1:=PySem.W.mg_of X G A1.ns
 have b2:=A2.fn.binds (ps:=["_law_script","_law_k"]) fun _ _ _ _ _ _ us hl=>by obtain⟨u0,u1,rfl⟩:=us2 hl;rfl
 have m2:=PySem.W.mg_of X G A2.ns
 have b3:=A3.fn.binds (ps:=["_law_left_here","_law_many"]) fun _ _ _ _ _ _ us hl=>by obtain⟨u0,u1,rfl⟩:=us2 hl;rfl
 have m3:=PySem.W.mg_of X G A3.ns
 have b4:=A4.fn.binds (ps:=["net"]) fun _ _ _ _ _ _ us hl=>by obtain⟨u0,rfl⟩:=us1 hl;rfl
 have m4:=PySem.W.mg_of X G A4.ns
 have b5:=A5.fn.binds (ps:=["net"]) fun _ _ _ _ _ _ us hl=>by obtain⟨u0,rfl⟩:=us1 hl;rfl
 have m5:=PySem.W.mg_of X G A5.ns
 have b6:=A6.fn.binds (ps:=["many"]) fun _ _ _ _ _ _ us hl=>by obtain⟨u0,rfl⟩:=us1 hl;rfl
 have m6:=PySem.W.mg_of X G A6.ns
 have b7:=A7.fn.binds (ps:=["k"]) fun _ _ _ _ _ _ us hl=>by obtain⟨u0,rfl⟩:=us1 hl;rfl
 have m7:=PySem.W.mg_of X G A7.ns
 have b8:=A8.fn.binds (ps:=["row","made"]) fun _ _ _ _ _ _ us hl=>by obtain⟨u0,u1,rfl⟩:=us2 hl;rfl
 have m8:=PySem.W.mg_of X G A8.ns
 have b9:=A9.fn.binds (ps:=["row"]) fun _ _ _ _ _ _ us hl=>by obtain⟨u0,rfl⟩:=us1 hl;rfl
 have m9:=PySem.W.mg_of X G A9.ns
 have b10:=A10.fn.binds (ps:=["k"]) fun _ _ _ _ _ _ us hl=>by obtain⟨u0,rfl⟩:=us1 hl;rfl
 have m10:=PySem.W.mg_of X G A10.ns
 have b11:=A11.fn.binds (ps:=["one","other"]) fun _ _ _ _ _ _ us hl=>by obtain⟨u0,u1,rfl⟩:=us2 hl;rfl
 have m11:=PySem.W.mg_of X G A11.ns
 have b12:=A12.fn.binds (ps:=["one","other"]) fun _ _ _ _ _ _ us hl=>by obtain⟨u0,u1,rfl⟩:=us2 hl;rfl
 have m12:=PySem.W.mg_of X G A12.ns
 have b13:=A13.fn.binds (ps:=["k"]) fun _ _ _ _ _ _ us hl=>by obtain⟨u0,rfl⟩:=us1 hl;rfl
 have m13:=PySem.W.mg_of X G A13.ns
 have b14:=A14.fn.binds (ps:=["row"]) fun _ _ _ _ _ _ us hl=>by obtain⟨u0,rfl⟩:=us1 hl;rfl
 have m14:=PySem.W.mg_of X G A14.ns
 have b15:=A15.fn.binds (ps:=["k"]) fun _ _ _ _ _ _ us hl=>by obtain⟨u0,rfl⟩:=us1 hl;rfl
 have m15:=PySem.W.mg_of X G A15.ns
 have b16:=A16.fn.binds (ps:=["net","names"]) fun _ _ _ _ _ _ us hl=>by obtain⟨u0,u1,rfl⟩:=us2 hl;rfl
 have m16:=PySem.W.mg_of X G A16.ns
 have b17:=A17.fn.binds (ps:=["one","other"]) fun _ _ _ _ _ _ us hl=>by obtain⟨u0,u1,rfl⟩:=us2 hl;rfl
 have m17:=PySem.W.mg_of X G A17.ns
 have b18:=A18.fn.binds (ps:=["one","other"]) fun _ _ _ _ _ _ us hl=>by obtain⟨u0,u1,rfl⟩:=us2 hl;rfl
 have m18:=PySem.W.mg_of X G A18.ns
 have b19:=A19.fn.binds (ps:=["net"]) fun _ _ _ _ _ _ us hl=>by obtain⟨u0,rfl⟩:=us1 hl;rfl
 have m19:=PySem.W.mg_of X G A19.ns
 have b20:=A20.fn.binds (ps:=["net","p"]) fun _ _ _ _ _ _ us hl=>by obtain⟨u0,u1,rfl⟩:=us2 hl;rfl
 have m20:=PySem.W.mg_of X G A20.ns
 have b21:=A21.fn.binds (ps:=["plan"]) fun _ _ _ _ _ _ us hl=>by obtain⟨u0,rfl⟩:=us1 hl;rfl
 have m21:=PySem.W.mg_of X G A21.ns
 have b22:=A22.fn.binds (ps:=["_law_lanes"]) fun _ _ _ _ _ _ us hl=>by obtain⟨u0,rfl⟩:=us1 hl;rfl
 have m22:=PySem.W.mg_of X G A22.ns
 have b23:=A23.fn.binds (ps:=["_law_left_here","_law_lanes"]) fun _ _ _ _ _ _ us hl=>by obtain⟨u0,u1,rfl⟩:=us2 hl;rfl
 have m23:=PySem.W.mg_of X G A23.ns
 have b24:=A24.fn.binds (ps:=["_law_left_here","_law_lanes","_law_most"]) fun _ _ _ _ _ _ us hl=>by obtain⟨u0,u1,u2,rfl⟩:=us3 hl;rfl
 have m24:=PySem.W.mg_of X G A24.ns
 have b25:=A25.fn.binds (ps:=["_law_left_here","_law_lanes","_law_most"]) fun _ _ _ _ _ _ us hl=>by obtain⟨u0,u1,u2,rfl⟩:=us3 hl;rfl
 have m25:=PySem.W.mg_of X G A25.ns
 have b26:=A26.fn.binds (ps:=["_law_left_here","_law_lanes","_law_most","_law_deep"]) fun _ _ _ _ _ _ us hl=>by obtain⟨u0,u1,u2,u3,rfl⟩:=us4 hl;rfl
 have m26:=PySem.W.mg_of X G A26.ns
 have b27:=A27.fn.binds (ps:=["_law_left_here"]) fun _ _ _ _ _ _ us hl=>by obtain⟨u0,rfl⟩:=us1 hl;rfl
 have m27:=PySem.W.mg_of X G A27.ns
 have b28:=A28.fn.binds (ps:=["_law_net"]) fun _ _ _ _ _ _ us hl=>by obtain⟨u0,rfl⟩:=us1 hl;rfl
 have m28:=PySem.W.mg_of X G A28.ns
 have b29:=A29.fn.binds (ps:=["_law_one","_law_other"]) fun _ _ _ _ _ _ us hl=>by obtain⟨u0,u1,rfl⟩:=us2 hl;rfl
 have m29:=PySem.W.mg_of X G A29.ns
 have b30:=A30.fn.binds (ps:=["_law_row"]) fun _ _ _ _ _ _ us hl=>by obtain⟨u0,rfl⟩:=us1 hl;rfl
 have m30:=PySem.W.mg_of X G A30.ns
 have b31:=A31.fn.binds (ps:=["_law_row"]) fun _ _ _ _ _ _ us hl=>by obtain⟨u0,rfl⟩:=us1 hl;rfl
 have m31:=PySem.W.mg_of X G A31.ns
 have b32:=A32.fn.binds (ps:=["_law_word","_law_k"]) fun _ _ _ _ _ _ us hl=>by obtain⟨u0,u1,rfl⟩:=us2 hl;rfl
 have m32:=PySem.W.mg_of X G A32.ns
 have b33:=A33.fn.binds (ps:=["_law_lanes","_law_one","_law_other","_law_names_here"]) fun _ _ _ _ _ _ us hl=>by obtain⟨u0,u1,u2,u3,rfl⟩:=us4 hl;rfl
 have m33:=PySem.W.mg_of X G A33.ns
 have b34:=A34.fn.binds (ps:=["_law_plan_here"]) fun _ _ _ _ _ _ us hl=>by obtain⟨u0,rfl⟩:=us1 hl;rfl
 have m34:=PySem.W.mg_of X G A34.ns
 have b35:=A35.fn.binds (ps:=["_law_found","_law_due"]) fun _ _ _ _ _ _ us hl=>by obtain⟨u0,u1,rfl⟩:=us2 hl;rfl
 have m35:=PySem.W.mg_of X G A35.ns
 obtain⟨oc,od,kV,doc,pm,an,cdv,ct,osl,ed,_,_⟩:=id A36.fn.ex
 refine⟨d36,fun s v=>by rw[ed];exact .of_eq rfl,fun base _ _=>?_⟩
 have U1:Use l.prog w K mg base "_law_cell_at" ["_law_script","_law_k"] 1 (zge K) f1 d1:=⟨zi2 A1.fn M,b1,A1.fn.kp,m1⟩
 have U2:Use l.prog w K mg base "_law_left" ["_law_script","_law_k"] 2 (zgd K) f2 d2:=⟨zi0 A2.fn M zd U1,b2,A2.fn.kp,m2⟩
 have U3:Use l.prog w K mg base "_law_pick" ["_law_left_here","_law_many"] 1 zcl f3 d3:=⟨ziZ A3.fn,b3,A3.fn.kp,m3⟩
 have U4:Use l.prog w K mg base "layers" ["net"] 1 zdA f4 d4:=⟨zgM A4.fn M,b4,A4.fn.kp,m4⟩
 have U5:Use l.prog w K mg base "plain" ["net"] 2 zbk f5 d5:=⟨zhR A5.fn M U4,b5,A5.fn.kp,m5⟩
 have U6:Use l.prog w K mg base "power_of_two" ["many"] 1 ziC f6 d6:=⟨zjV A6.fn M,b6,A6.fn.kp,m6⟩
 have U7:Use l.prog w K mg base "row_of" ["k"] 2 zcy f7 d7:=⟨zhO A7.fn M U6,b7,A7.fn.kp,m7⟩
 have U8:Use l.prog w K mg base "net_of" ["row","made"] 3 zbl f8 d8:=⟨zfG A8.fn M U5,b8,A8.fn.kp,m8⟩
 have U9:Use l.prog w K mg base "block_of" ["row"] 5 (zb8 4) f9 d9:=⟨zfi A9.fn M b9 m9 4,b9,A9.fn.kp,m9⟩
 have U10:Use l.prog w K mg base "rounds" ["k"] 6 zcr f10 d10:=⟨zgG A10.fn U7 U9 U8,b10,A10.fn.kp,m10⟩
 have U11:Use l.prog w K mg base "by_turns" ["one","other"] 1 spBy f11 d11:=⟨zko A11.fn M,b11,A11.fn.kp,m11⟩
 have U12:Use l.prog w K mg base "merger_of" ["one","other"] 6 zan f12 d12:=⟨zeR A12.fn M U11 b12 m12,b12,A12.fn.kp,m12⟩
 have U13:Use l.prog w K mg base "merger" ["k"] 7 zbO f13 d13:=⟨zgJ A13.fn M U7 U12 U8,b13,A13.fn.kp,m13⟩
 have U14:Use l.prog w K mg base "stairway_of" ["row"] 11 zaU f14 d14:=⟨zeQ A14.fn M U12 b14 m14,b14,A14.fn.kp,m14⟩
 have U15:Use l.prog w K mg base "stairway" ["k"] 12 zbw f15 d15:=⟨zeP A15.fn U7 U14 U8,b15,A15.fn.kp,m15⟩
 have U16_T:Use l.prog w K mg base "called" ["net","names"] 1 zbQ f16 d16:=⟨zfI A16.fn M,b16,A16.fn.kp,m16⟩
 have U16_L:Use l.prog w K mg base "called" ["net","names"] 1 zcC f16 d16:=⟨zfJ A16.fn M,b16,A16.fn.kp,m16⟩
 have U17:Use l.prog w K mg base "behind" ["one","other"] 3 zbS f17 d17:=⟨zgO A17.fn U16_T U5,b17,A17.fn.kp,m17⟩
 have U18:Use l.prog w K mg base "beside" ["one","other"] 3 zbR f18 d18:=⟨zgN A18.fn M U16_L U5,b18,A18.fn.kp,m18⟩
 have U19:Use l.prog w K mg base "doubled" ["net"] 8 zbP f19 d19:=⟨zfH A19.fn U17 U18 U13,b19,A19.fn.kp,m19⟩
 have U20:Use l.prog w K mg base "renamed" ["net","p"] 3 zbN f20 d20:=⟨zfF A20.fn U16_T U5,b20,A20.fn.kp,m20⟩
 have U21:Use l.prog w K mg base "made_by" ["plan"] 20 (zc6 8) f21 d21:=⟨zgK A21.fn b21 m21 U5 U15 U10 U13 U19 U20 U18 U17 8,b21,A21.fn.kp,m21⟩
 have U22:Use l.prog w K mg base "_law_power" ["_law_lanes"] 1 zcz f22 d22:=⟨zhP A22.fn,b22,A22.fn.kp,m22⟩
 have U23:Use l.prog w K mg base "_law_names" ["_law_left_here","_law_lanes"] 2 zcA f23 d23:=⟨zhT A23.fn M U3,b23,A23.fn.kp,m23⟩
 have U24:Use l.prog w K mg base "_law_net_of" ["_law_left_here","_law_lanes","_law_most"] 3 zeB f24 d24:=⟨zhS A24.fn M U3 U23,b24,A24.fn.kp,m24⟩
 have U25:Use l.prog w K mg base "_law_leaf" ["_law_left_here","_law_lanes","_law_most"] 4 ze7 f25 d25:=⟨zi1 A25.fn M U3 U22 U24,b25,A25.fn.kp,m25⟩
 have U26:Use l.prog w K mg base "_law_plan" ["_law_left_here","_law_lanes","_law_most","_law_deep"] 12 (zd6 8) f26 d26:=⟨zgH A26.fn M b26 m26 U3 U22 U23 U25 8,b26,A26.fn.kp,m26⟩
 have U27:Use l.prog w K mg base "_law_any_plan" ["_law_left_here"] 13 zcD f27 d27:=⟨zfK A27.fn U3 U26,b27,A27.fn.kp,m27⟩
 have U28:Use l.prog w K mg base "_law_plain" ["_law_net"] 1 zdz f28 d28:=⟨zgI A28.fn M,b28,A28.fn.kp,m28⟩
 have U29:Use l.prog w K mg base "_law_merged" ["_law_one","_law_other"] 5 zan f29 d29:=⟨zeh A29.fn M b29 m29,b29,A29.fn.kp,m29⟩
 have U30:Use l.prog w K mg base "_law_stairs" ["_law_row"] 10 zaU f30 d30:=⟨zdM A30.fn M U29 b30 m30,b30,A30.fn.kp,m30⟩
 have U31:Use l.prog w K mg base "_law_block" ["_law_row"] 5 (zbx 4) f31 d31:=⟨zej A31.fn M b31 m31 4,b31,A31.fn.kp,m31⟩
 have U32:Use l.prog w K mg base "_law_told_way" ["_law_word","_law_k"] 11 zdy f32 d32:=⟨zhN A32.fn M U30 U31 U29,b32,A32.fn.kp,m32⟩
 have U33:Use l.prog w K mg base "_law_then" ["_law_lanes","_law_one","_law_other","_law_names_here"] 1 ze6 f33 d33:=⟨ziY A33.fn M,b33,A33.fn.kp,m33⟩
 have U34:Use l.prog w K mg base "_law_made" ["_law_plan_here"] 19 (zcB 8) f34 d34:=⟨zfh A34.fn M b34 m34 U32 U33 U29 8,b34,A34.fn.kp,m34⟩
 have U35:Use l.prog w K mg base "_law_same" ["_law_found","_law_due"] 4 (zd5 3) f35 d35:=⟨zgF A35.fn M b35 m35 3,b35,A35.fn.kp,m35⟩
 exact zjW A36.fn M U2 U27 U34 U28 U21 U35
theorem walk {l:PySem.W.OpenLaw}{q:Program}{loose:List Str}{XP:(Str→Option Value)→Heap→Prop}{YP:World→Heap→Prop}{d:DefRec}{K:Params→PySem.W.Frag}(hn:l.most=some 63) (hdf:d.params.defaults=[])
  (hY:∀ (w:World) (h:Heap),YP w h→(K w.params).In h)
  (F:∀ (w:World) (mg:Str→Option Value) (fa:Addr) (h:Heap),(K w.params).In h→h.Ns mainGlobals mg→mg d.name=some (.ref fa) →
   ∃ fd:FuncData,(∀ (s:Shared) (u:Value),BindsTo s fd ⟨[u],[]⟩ [("_law_script",u)])∧∀ base:Heap,(K w.params).In base→base.Ns mainGlobals mg→FnOk l.prog w (K w.params) mg base CX0 21 fa fd ["_law_script"] (zhw (K w.params))) :
  PySem.W.WalkO q loose XP YP l.row.toRowW d [] (fun f vs=>PySem.call f vs) :=
 L2.zhq (n:=63) (k:=21) (x:="_law_script") (CX:=CX0) (sp:=zhw) hn (by decide) hdf ⟨rfl,by decide,by decide,rfl⟩ hY F (fun _ _ a ns hl _ hS=>⟨a,ns,rfl,hS,hl,fun _=>rfl⟩) fun _ _ _ _ z=>z
end K93
theorem PySem.W.Fast.tw13624138022070059841:True:=trivial
theorem PySem.W.Fast.tw16586443737184377751:True:=trivial
theorem PySem.W.Fast.tw9025329061700224041:True:=trivial
theorem PySem.W.Fast.tw3880834936573598396:True:=trivial
theorem PySem.W.Fast.tw9277911882269712486:True:=trivial
theorem PySem.W.Fast.tw12697286425305105634:True:=trivial
theorem PySem.W.Fast.tw4519326560392359871:True:=trivial
theorem PySem.W.Fast.tw10289762541192494879:True:=trivial
theorem PySem.W.Fast.tw1542078382235115249:True:=trivial
theorem PySem.W.Fast.tw932026281006342744:True:=trivial
open PySem PySem.W PyProof.Rows
set_option maxRecDepth 100000 in
set_option maxHeartbeats 0 in
theorem PySem.Challenge.cw_stairlanes_k93_nets_by_plans_holds : PySem.Challenge.rw_stairlanes_k93_nets_by_plans.Holds := by
 w_on;o_law;k_head;(case hw=>w_witness2)
 k_fill
 refine K93.walk (l:=PySem.Challenge.rw_stairlanes_k93_nets_by_plans) rfl rfl (fun w h Y=>PySem.W.kIn_of Y) ?F
 case F =>
  intro w mg fa h KX G hmg
  refine' K93.zkb KX G hmg (K93.zav ?a1 ?l1 ?c1 ?k1) (K93.zav ?a2 ?l2 ?c2 ?k2) (K93.zav ?a3 ?l3 ?c3 ?k3) (K93.zav ?a4 ?l4 ?c4 ?k4) (K93.zav ?a5 ?l5 ?c5 ?k5) (K93.zav ?a6 ?l6 ?c6 ?k6) (K93.zav ?a7 ?l7 ?c7 ?k7) (K93.zav ?a8 ?l8 ?c8 ?k8) (K93.zav ?a9 ?l9 ?c9 ?k9) (K93.zav ?a10 ?l10 ?c10 ?k10) (K93.zav ?a11 ?l11 ?c11 ?k11) (K93.zav ?a12 ?l12 ?c12 ?k12) (K93.zav ?a13 ?l13 ?c13 ?k13) (K93.zav ?a14 ?l14 ?c14 ?k14) (K93.zav ?a15 ?l15 ?c15 ?k15) (K93.zav ?a16 ?l16 ?c16 ?k16) (K93.zav ?a17 ?l17 ?c17 ?k17) (K93.zav ?a18 ?l18 ?c18 ?k18) (K93.zav ?a19 ?l19 ?c19 ?k19) (K93.zav ?a20 ?l20 ?c20 ?k20) (K93.zav ?a21 ?l21 ?c21 ?k21) (K93.zav ?a22 ?l22 ?c22 ?k22) (K93.zav ?a23 ?l23 ?c23 ?k23) (K93.zav ?a24 ?l24 ?c24 ?k24) (K93.zav ?a25 ?l25 ?c25 ?k25) (K93.zav ?a26 ?l26 ?c26 ?k26) (K93.zav ?a27 ?l27 ?c27 ?k27) (K93.zav ?a28 ?l28 ?c28 ?k28) (K93.zav ?a29 ?l29 ?c29 ?k29) (K93.zav ?a30 ?l30 ?c30 ?k30) (K93.zav ?a31 ?l31 ?c31 ?k31) (K93.zav ?a32 ?l32 ?c32 ?k32) (K93.zav ?a33 ?l33 ?c33 ?k33) (K93.zav ?a34 ?l34 ?c34 ?k34) (K93.zav ?a35 ?l35 ?c35 ?k35) (K93.zav ?a36 ?l36 ?c36 ?k36) ?z1 ?z2 ?z3 ?z4 ?z5 ?z6 ?z7 ?z8 ?z9 ?z10 ?z11 ?z12 ?z13 ?z14 ?z15 ?z16 ?zd
  (case a1=>k_is);(case l1=>k_is);(case c1=>k_is);(case k1=>k_is)
  (case a2=>k_is);(case l2=>k_is);(case c2=>k_is);(case k2=>k_is)
  (case a3=>k_is);(case l3=>k_is);(case c3=>k_is);(case k3=>k_is)
  (case a4=>k_is);(case l4=>k_is);(case c4=>k_is);(case k4=>k_is)
  (case a5=>k_is);(case l5=>k_is);(case c5=>k_is);(case k5=>k_is)
  (case a6=>k_is);(case l6=>k_is);(case c6=>k_is);(case k6=>k_is)
  (case a7=>k_is);(case l7=>k_is);(case c7=>k_is);(case k7=>k_is)
  (case a8=>k_is);(case l8=>k_is);(case c8=>k_is);(case k8=>k_is)
  (case a9=>k_is);(case l9=>k_is);(case c9=>k_is);(case k9=>k_is)
  (case a10=>k_is);(case l10=>k_is);(case c10=>k_is);(case k10=>k_is)
  (case a11=>k_is);(case l11=>k_is);(case c11=>k_is);(case k11=>k_is)
  (case a12=>k_is);(case l12=>k_is);(case c12=>k_is);(case k12=>k_is)
  (case a13=>k_is);(case l13=>k_is);(case c13=>k_is);(case k13=>k_is)
  (case a14=>k_is);(case l14=>k_is);(case c14=>k_is);(case k14=>k_is)
  (case a15=>k_is);(case l15=>k_is);(case c15=>k_is);(case k15=>k_is)
  (case a16=>k_is);(case l16=>k_is);(case c16=>k_is);(case k16=>k_is)
  (case a17=>k_is);(case l17=>k_is);(case c17=>k_is);(case k17=>k_is)
  (case a18=>k_is);(case l18=>k_is);(case c18=>k_is);(case k18=>k_is)
  (case a19=>k_is);(case l19=>k_is);(case c19=>k_is);(case k19=>k_is)
  (case a20=>k_is);(case l20=>k_is);(case c20=>k_is);(case k20=>k_is)
  (case a21=>k_is);(case l21=>k_is);(case c21=>k_is);(case k21=>k_is)
  (case a22=>k_is);(case l22=>k_is);(case c22=>k_is);(case k22=>k_is)
  (case a23=>k_is);(case l23=>k_is);(case c23=>k_is);(case k23=>k_is)
  (case a24=>k_is);(case l24=>k_is);(case c24=>k_is);(case k24=>k_is)
  (case a25=>k_is);(case l25=>k_is);(case c25=>k_is);(case k25=>k_is)
  (case a26=>k_is);(case l26=>k_is);(case c26=>k_is);(case k26=>k_is)
  (case a27=>k_is);(case l27=>k_is);(case c27=>k_is);(case k27=>k_is)
  (case a28=>k_is);(case l28=>k_is);(case c28=>k_is);(case k28=>k_is)
  (case a29=>k_is);(case l29=>k_is);(case c29=>k_is);(case k29=>k_is)
  (case a30=>k_is);(case l30=>k_is);(case c30=>k_is);(case k30=>k_is)
  (case a31=>k_is);(case l31=>k_is);(case c31=>k_is);(case k31=>k_is)
  (case a32=>k_is);(case l32=>k_is);(case c32=>k_is);(case k32=>k_is)
  (case a33=>k_is);(case l33=>k_is);(case c33=>k_is);(case k33=>k_is)
  (case a34=>k_is);(case l34=>k_is);(case c34=>k_is);(case k34=>k_is)
  (case a35=>k_is);(case l35=>k_is);(case c35=>k_is);(case k35=>k_is)
  (case a36=>k_is);(case l36=>k_is);(case c36=>k_is);(case k36=>k_is)
  (case z1=>k_is)
  (case z2=>k_is)
  (case z3=>k_is)
  (case z4=>k_is)
  (case z5=>k_is)
  (case z6=>k_is)
  (case z7=>k_is)
  (case z8=>k_is)
  (case z9=>k_is)
  (case z10=>k_is)
  (case z11=>k_is)
  (case z12=>k_is)
  (case z13=>k_is)
  (case z14=>k_is)
  (case z15=>k_is)
  (case z16=>k_is)
  (case zd=>k_is)
