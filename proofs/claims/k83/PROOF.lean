import PyProof.Rows.All
import Wide.All
import OpenK.AllK
import Wide.FinOn
import Lean
import PyProof.EqAt
import PyProof.EqKinds
import PyProof.TupleCall
import PyProof.NeKinds
import KE.KIntText
import PyProof.TupleOfStr
import PyProof.ReprRoads
import KE.KSortTup
import KE.KItemsList
import PyProof.Rows.Range3
import PySem.Challenge.RW_stairlanes_k83_whole_weavings
set_option Elab.async false
set_option linter.all false
set_option maxRecDepth 100000
namespace L2
open PySem PySem.Spec PyProof.Rows
abbrev Key:=Sum Int Str
def zkP:Key→Value→Bool
  | .inl k,v=>Value.isInt k v
  | .inr x,v=>Value.isStrOf x v
def keyH (w:World):Key→Int
  | .inl k=>hashInt k
  | .inr x=>hashStr w x
theorem zat:∀ {k:Key}{v:Value},zkP k v=true→(∃ i t,k=Sum.inl i∧v=Value.int i t)∨(∃ x t,k=Sum.inr x∧v=Value.str x t)
  | .inl i,v,h=>by
    obtain⟨t,e⟩:=Value.isInt_shape (k:=i) (v:=v) h
    exact .inl ⟨i,t,rfl,e⟩
  | .inr x,v,h=>by
    obtain⟨t,e⟩:=Value.isStrOf_shape (x:=x) (v:=v) h
    exact .inr ⟨x,t,rfl,e⟩
theorem zkO (a b:Int):decide ((Sum.inl a:Key)=Sum.inl b)=(a == b):=by
  by_cases e:a=b
  · subst e;simp
  · have h:¬(Sum.inl a:Key)=Sum.inl b:=fun q=>e (Sum.inl.inj q)
    rw[decide_eq_false h]
    exact(beq_eq_false_iff_ne.mpr e).symm
theorem zkL (a b:Str):decide ((Sum.inr a:Key)=Sum.inr b)=decide (a=b):=by
  by_cases e:a=b
  · subst e;simp
  · have h:¬(Sum.inr a:Key)=Sum.inr b:=fun q=>e (Sum.inr.inj q)
    rw[decide_eq_false h,decide_eq_false e]
theorem zkN (a:Int) (b:Str):decide ((Sum.inl a:Key)=Sum.inr b)=false:=decide_eq_false (fun q=>nomatch q)
theorem zkM (a:Str) (b:Int):decide ((Sum.inr a:Key)=Sum.inl b)=false:=decide_eq_false (fun q=>nomatch q)
def zeN (prog:Program) (w:World):PySem.KeyKind prog w Key where
  is:=zkP
  hash:=keyH w
  inj:=fun v a b ha hb=>by
    rcases zat ha with ⟨i,t,rfl,rfl⟩|⟨x,t,rfl,rfl⟩
    · rcases zat hb with ⟨j,u,rfl,e⟩|⟨y,u,rfl,e⟩
      · injection e with e1 _;rw[e1]
      · exact nomatch e
    · rcases zat hb with ⟨j,u,rfl,e⟩|⟨y,u,rfl,e⟩
      · exact nomatch e
      · injection e with e1 _;rw[e1]
  byValue:=fun k v h=>by
    rcases zat h with ⟨i,t,rfl,rfl⟩|⟨x,t,rfl,rfl⟩<;>rfl
  pyHash:=fun hv h=>by
    rcases zat hv with ⟨i,t,rfl,rfl⟩|⟨x,t,rfl,rfl⟩
    · exact wpAny_pyHash_int h
    · exact wpAny_pyHash_str h
  eqBool:=fun hu hv h=>by
    rcases zat hu with ⟨i,t,rfl,rfl⟩|⟨x,t,rfl,rfl⟩
    · rcases zat hv with ⟨j,u,rfl,rfl⟩|⟨y,u,rfl,rfl⟩
      · rw[zkO]at h;exact wpAny_eqBool_int h
      · rw[zkN]at h;exact SeqAt.EqAt.int_str i t y u _ _ _ _ h
    · rcases zat hv with ⟨j,u,rfl,rfl⟩|⟨y,u,rfl,rfl⟩
      · rw[zkM]at h;exact SeqAt.EqAt.str_int x t j u _ _ _ _ h
      · rw[zkL]at h;exact wpAny_eqBool_str h
  «strs»:=fun k x t v h=>by
    rcases zat h with ⟨i,u,rfl,e⟩|⟨y,u,rfl,e⟩
    · exact nomatch e
    · injection e with e1 _
      subst e1
      cases v<;>rfl
inductive V where
  | non|bl (b:Bool)|int (i:Int)|str (x:Str)|byt (b:Array UInt8)|flt (b:UInt64)|ref (a:Addr)|ty (n:String)
  deriving DecidableEq
def RelV:V→Value→Prop
  | .non,u=>u=Value.none
  | .bl b,u=>u=Value.bool b
  | .int i,u=>∃ t,u=Value.int i t
  | .str x,u=>∃ t,u=Value.str x t
  | .byt b,u=>∃ t,u=Value.bytes b t
  | .flt b,u=>∃ t,u=Value.float b t
  | .ref a,u=>u=Value.ref a
  | .ty n,u=>u=Value.type n
abbrev Vals:List V→List Value→Prop:=Paired RelV
theorem Vals.length {xs:List V}{us:List Value}(r:Vals xs us):xs.length=us.length:=Paired.length r
theorem Vals.get:∀ {xs:List V}{us:List Value}{i:Nat}{x:V},Vals xs us→xs[i]?=some x→∃ u,us[i]?=some u∧RelV x u
  | _,_,_,_,.nil,e=>by simp at e
  | _,_,0,_,.cons r _,e=>by simp at e;subst e;exact⟨_,rfl,r⟩
  | _,_,i+1,x,.cons _ t,e=>by
    obtain⟨u,h1,h2⟩:=Vals.get (i:=i) (x:=x) t (by simpa using e)
    exact⟨u,by simpa using h1,h2⟩
theorem Vals.set {x:V}{u:Value}(r:RelV x u):∀ {xs:List V}{us:List Value}(i:Nat),Vals xs us→Vals (xs.set i x) (us.set i u)
  | _,_,_,.nil=>.nil
  | _,_,0,.cons _ t=>.cons r t
  | _,_,i+1,.cons q t=>.cons q (Vals.set r i t)
theorem Vals.append:∀ {xs ys:List V}{us ws:List Value},Vals xs us→Vals ys ws→Vals (xs++ys) (us++ws)
  | _,_,_,_,.nil,s=>s
  | _,_,_,_,.cons r t,s=>.cons r (Vals.append t s)
theorem Vals.take:∀ {xs:List V}{us:List Value}(n:Nat),Vals xs us→Vals (xs.take n) (us.take n)
  | _,_,0,_=>.nil
  | _,_,_+1,.nil=>.nil
  | _,_,n+1,.cons r t=>.cons r (Vals.take n t)
theorem Vals.drop:∀ {xs:List V}{us:List Value}(n:Nat),Vals xs us→Vals (xs.drop n) (us.drop n)
  | _,_,0,r=>r
  | _,_,_+1,.nil=>.nil
  | _,_,n+1,.cons _ t=>Vals.drop n t
def RelO:Option V→Option Value→Prop
  | some v,some u=>RelV v u
  | none,none=>True
  | _,_=>False
def KV {κ:Type}:List (κ × V)→List (κ × Value)→Prop:=Paired fun (p:κ × V) (q:κ × Value)=>p.1=q.1∧RelV p.2 q.2
def kV:Key→V
  | .inl i=>.int i
  | .inr x=>.str x
inductive HO where
  | lst (xs:List V)
  | tup (xs:List V)
  | dK (kvs:List (Key × V))|dT (kvs:List (List Key × V))
  | set (S:Int→Bool) (n:Nat)
  | ins (C dx:Addr) (fs:List (Str × V))
  | own (x:Addr)
  | xd (fs:List (Str × V))
  | met (f x:Addr)
  | rng (lo hi:Int)
  | frz (o:Obj) (u:HO)
  | tbl (ps:Array Value)
  | ext (φ:Heap→Prop)
abbrev Hp:=Addr→Option HO
def upd (H:Hp) (a:Addr) (o:HO):Hp:=fun b=>if b=a then some o else H b
theorem zab {H:Hp}{a:Addr}{o:HO}:upd H a o a=some o:=by unfold upd;rw[if_pos rfl]
theorem zae {H:Hp}{a b:Addr}{o:HO}(h:b≠a):upd H a o b=H b:=by unfold upd;rw[if_neg h]
theorem zac {H:Hp}{a b:Addr}{o:HO}(h:H a=some o) (h':H b=none):a≠b:=by
  intro e;subst e;rw[h]at h';cases h'
def TupX (h:Heap) (a:Addr) (items:Array Value):Prop:=∃ o,h.get? a=some o∧o.cls=.type "tuple"∧∃ n,o.data=.seq items n∧o.dict=none
theorem TupX.tup {h:Heap}{a:Addr}{items:Array Value}(x:TupX h a items):IsTup h a items:=let ⟨o,e,c,n,d,_⟩:=x;⟨o,e,c,n,d⟩
theorem TupX.new (h:Heap) (items:Array Value):TupX (h.push { cls:=.type "tuple",data:=.seq items }) h.objs.size items:=⟨_,Heap.get?_push_size _ rfl,rfl,0,rfl,rfl⟩
section
variable (P:Program) (w:World)
def ObjOk (H:Hp) (h:Heap) (a:Addr):HO→Prop
  | .lst xs=>xs.length≤sizeLine∧∃ (its:List Value) (n:Nat),Vals xs its∧h.get? a=some { cls:=.type "list",data:=.seq its.toArray n }
  | .tup xs=>xs.length≤sizeLine∧∃ its:List Value,Vals xs its∧TupX h a its.toArray
  | .dK kvs=>kvs.length≤sizeLine∧(a == sysModules)=false∧∃ vs,KV kvs vs∧h.DictOf (zeN P w) a vs
  | .dT kvs=>kvs.length≤sizeLine∧(a == sysModules)=false∧∃ xs:List (List Key × Addr × Value),
      Paired (fun (p:List Key × V) (q:List Key × Addr × Value)=>p.1=q.1∧H q.2.1=some (.tup (p.1.map kV))∧RelV p.2 q.2.2) kvs xs ∧
      ∃ o es ep,h.get? a=some o∧o.ExactDict∧o.data=.dict es ep∧es.toList=xs.map (entryOfKey (tupleKind (zeN P w)))∧(xs.map (·.1)).Nodup
  | .set S n=>h.SetOf (intKind P w) a S n
  | .ins C dx fs=>H dx=some (.own a)∧fs.length≤1000∧dx≠a∧h.get? a=some (PySem.W.instObj C dx) ∧
      ∃ mA,h.Ns1 dx mA∧(∀ f,RelO (fs.lookup f) (mA f))∧PySem.Within mA (fs.map (·.1))
  | .own _=>∃ o,h.get? a=some o
  | .xd fs=>∃ mA,h.Ns1 a mA∧∀ f,RelO (fs.lookup f) (mA f)
  | .rng lo hi=>∃ t u v,h.get? a=some { cls:=.type "range",data:=.fields #[.int lo t,.int hi u,.int 1 v] }
  | .frz o u=>h.get? a=some o∧ObjOk H h a u
  | .tbl ps=>h.get? a=some { cls:=.none,data:=.fields ps }
  | .met f x=>h.get? a=some (PySem.W.methodObj (.ref f) (.ref x))
  | .ext φ=>φ h∧(∃ o,h.get? a=some o)∧∀ h1 h2:Heap,φ h1→(∀ o,h1.get? a=some o→h2.get? a=some o)→φ h2
def HOk (H:Hp) (h:Heap):Prop:=∀ a o,H a=some o→ObjOk P w H h a o
end
section
variable {P:Program}{w:World}{H H':Hp}{h h':Heap}{a:Addr}{o:HO}
theorem ObjOk.lt (x:ObjOk P w H h a o):a<h.objs.size:=by
  cases o with
  | lst xs=>obtain⟨_,_,_,_,e⟩:=x;exact Heap.lt_size e
  | tup xs=>obtain⟨_,_,_,p⟩:=x;exact p.tup.lt
  | dK kvs=>obtain⟨_,_,_,_,o,_,_,e,_⟩:=x;exact Heap.lt_size e
  | dT kvs=>obtain⟨_,_,_,_,o,_,_,e,_⟩:=x;exact Heap.lt_size e
  | set S n=>obtain⟨o,_,_,_,e,_⟩:=x;exact Heap.lt_size e
  | ins C dx fs=>obtain⟨_,_,_,e,_⟩:=x;exact Heap.lt_size e
  | own y=>obtain⟨_,e⟩:=x;exact Heap.lt_size e
  | xd fs=>obtain⟨_,⟨_,_,_,e,_⟩,_⟩:=x;exact Heap.lt_size e
  | rng lo hi=>obtain⟨_,_,_,e⟩:=x;exact Heap.lt_size e
  | frz ob u=>obtain⟨e,_⟩:=x;exact Heap.lt_size e
  | tbl ps=>exact Heap.lt_size (show h.get? a=some _ from x)
  | met f y=>exact Heap.lt_size (show h.get? a=some _ from x)
  | ext φ=>obtain⟨_,⟨_,e⟩,_⟩:=x;exact Heap.lt_size e
theorem Paired.mapP {α β:Type}{F G:α→β→Prop}:∀ {l₁:List α}{l₂:List β},Paired F l₁ l₂→(∀ a b,F a b→G a b)→Paired G l₁ l₂
  | _,_,.nil,_=>.nil
  | _,_,.cons r t,f=>.cons (f _ _ r) (Paired.mapP t f)
theorem ObjOk.stay (x:ObjOk P w H h a o) (k:∀ b u,(b=a∨H b=some (.own a))→h.get? b=some u→h'.get? b=some u)
    (ho:∀ b,H b=some (.own a)→H' b=some (.own a)) (ht:∀ b xs,H b=some (.tup xs)→H' b=some (.tup xs)):ObjOk P w H' h' a o:=by
  induction o with
  | lst xs=>obtain⟨z,its,n,r,e⟩:=x;exact⟨z,its,n,r,k _ _ (.inl rfl) e⟩
  | tup xs=>obtain⟨z,its,r,ob,e,c⟩:=x;exact⟨z,its,r,ob,k _ _ (.inl rfl) e,c⟩
  | dK kvs=>obtain⟨z,y,vs,r,ob,es,ep,e,c⟩:=x;exact⟨z,y,vs,r,ob,es,ep,k _ _ (.inl rfl) e,c⟩
  | dT kvs =>
    obtain⟨z,y,xs,r,ob,es,ep,e,c⟩:=x
    exact⟨z,y,xs,Paired.mapP r fun p q z=>⟨z.1,ht _ _ z.2.1,z.2.2⟩,ob,es,ep,k _ _ (.inl rfl) e,c⟩
  | set S n=>obtain⟨ob,es,ep,t,e,c⟩:=x;exact⟨ob,es,ep,t,k _ _ (.inl rfl) e,c⟩
  | ins C dx fs =>
    obtain⟨d,z,ne,e,mA,⟨od,es,ep,e2,c⟩,r⟩:=x
    exact⟨ho _ d,z,ne,k _ _ (.inl rfl) e,mA,⟨od,es,ep,k _ _ (.inr d) e2,c⟩,r⟩
  | own y=>obtain⟨ob,e⟩:=x;exact⟨ob,k _ _ (.inl rfl) e⟩
  | xd fs=>obtain⟨mA,⟨od,es,ep,e,c⟩,r⟩:=x;exact⟨mA,⟨od,es,ep,k _ _ (.inl rfl) e,c⟩,r⟩
  | rng lo hi=>obtain⟨t,u,v,e⟩:=x;exact⟨t,u,v,k _ _ (.inl rfl) e⟩
  | frz ob u ih=>obtain⟨e,q⟩:=x;exact⟨k _ _ (.inl rfl) e,ih q⟩
  | tbl ps =>
    have e:h.get? a=some { cls:=.none,data:=.fields ps }:=x
    show h'.get? a=some { cls:=.none,data:=.fields ps }
    exact k a _ (.inl rfl) e
  | met f y =>
    have e:h.get? a=some (PySem.W.methodObj (.ref f) (.ref y)):=x
    show h'.get? a=some (PySem.W.methodObj (.ref f) (.ref y))
    exact k a _ (.inl rfl) e
  | ext φ=>obtain⟨p,⟨o,e⟩,st⟩:=x;exact⟨st _ _ p fun o q=>k _ _ (.inl rfl) q,⟨o,k _ _ (.inl rfl) e⟩,st⟩
theorem HOk.lt (x:HOk P w H h) (e:H a=some o):a<h.objs.size:=(x a o e).lt
theorem HOk.fresh (x:HOk P w H h) (e:h.objs.size≤a):H a=none:=by
  cases q:H a with
  | none=>rfl
  | some u=>exact absurd (Nat.lt_of_lt_of_le (x.lt q) e) (Nat.lt_irrefl _)
theorem HOk.kept (x:HOk P w H h) (k:∀ b u,h.get? b=some u→h'.get? b=some u):HOk P w H h':=fun a o e =>
  (x a o e).stay (fun b u _ q=>k b u q) (fun _ q=>q) fun _ _ q=>q
theorem HOk.laid (x:HOk P w H h) (k:∀ b u,h.get? b=some u→h'.get? b=some u) (hp:h.objs.size≤a) (new:ObjOk P w (upd H a o) h' a o):HOk P w (upd H a o) h':=fun b u e=>by
  have hn:=x.fresh hp
  by_cases hb:b=a
  · subst hb;rw[zab]at e;cases e;exact new
  · rw[zae hb]at e
    exact(x b u e).stay (fun c v _ q=>k c v q) (fun c q=>by rw[zae (zac q hn)];exact q) fun c xs q=>by rw[zae (zac q hn)];exact q
end
def Rd (H:Hp) (a:Addr) (u:HO):Prop:=H a=some u∨∃ o,H a=some (.frz o u)
theorem Rd.ok {P:Program}{w:World}{H:Hp}{h:Heap}{a:Addr}{u:HO}(r:Rd H a u) (x:HOk P w H h):ObjOk P w H h a u:=by
  rcases r with r|⟨o,r⟩
  · exact x a u r
  · obtain⟨_,q⟩:=x a _ r
    exact q
def Mut:Option HO→Prop
  | some (.lst _)=>True
  | some (.dK _)=>True
  | some (.dT _)=>True
  | some (.set _ _)=>True
  | some (.ins _ _ _)=>True
  | some (.ext _)=>True
  | _=>False
section
variable {P:Program}{w:World}{H:Hp}{h h':Heap}{x e:Addr}{o':HO}
theorem HOk.write (ok:HOk P w H h) (mu:Mut (H x)) (he:e=x∨H e=some (.own x)) (k:∀ b u,b≠e→h.get? b=some u→h'.get? b=some u) (heo:∃ u,h'.get? e=some u)
    (new:ObjOk P w (upd H x o') h' x o'):HOk P w (upd H x o') h':=fun b u q=>by
  have nown:∀ c y,H c=some (.own y)→c≠x:=fun c y r z=>by subst z;rw[r]at mu;exact mu
  have ntup:∀ c xs,H c=some (.tup xs)→c≠x:=fun c xs r z=>by subst z;rw[r]at mu;exact mu
  by_cases hb:b=x
  · subst hb;rw[zab]at q;cases q;exact new
  · rw[zae hb]at q
    by_cases hbe:b=e
    · have q':H b=some (.own x):=by
        rcases he with z|z
        · exact absurd (hbe.trans z) hb
        · rw[hbe];exact z
      rw[q]at q';cases q'
      obtain⟨v,hv⟩:=heo
      exact⟨v,by rw[hbe];exact hv⟩
    · refine(ok b u q).stay (fun c v hc r=>k c v ?_ r) (fun c r=>by rw[zae (nown c b r)];exact r) fun c xs r=>by rw[zae (ntup c xs r)];exact r
      rcases hc with rfl|hc
      · exact hbe
      · rintro rfl
        rcases he with z|z
        · exact nown c b hc z
        · rw[hc]at z;cases z;exact hb rfl
end
structure Un (fs ex:List Addr) (H H':Hp) (h h':Heap):Prop where
  keep:∀ b o,h.get? b=some o→H b=none→b∉fs→b∉ex→h'.get? b=some o
  slot:∀ b o,h.get? b=some o→H b=none→b∈fs→b∉ex→∃ sl,h'.get? b=some { o with slots:=sl }
  free:∀ b o,h.get? b=some o→H b=none→b∉ex→H' b=none
  there:∀ b o,h.get? b=some o→b∉ex→∃ o',h'.get? b=some o'
  tups:∀ b xs,H b=some (.tup xs)→H' b=some (.tup xs)
  frzs:∀ b o u,H b=some (.frz o u)→H' b=some (.frz o u)
  tbls:∀ b ps,H b=some (.tbl ps)→∃ more,H' b=some (.tbl (ps++more))
section
variable {fs fs' ex ex':List Addr}{H H1 H2:Hp}{h h1 h2 h':Heap}{a x e:Addr}{o:HO}
theorem Un.any (u:Un fs ex H H1 h h1) {b:Addr}{ob:Obj}(q:h.get? b=some ob) (n:H b=none) (hx:b∉ex):∃ sl,h1.get? b=some { ob with slots:=sl }:=by
  by_cases hb:b∈fs
  · exact u.slot b ob q n hb hx
  · exact⟨ob.slots,u.keep b ob q n hb hx⟩
theorem Un.kept (k:∀ b u,h.get? b=some u→h'.get? b=some u):Un fs ex H H h h' :=
  ⟨fun b ob q _ _ _=>k b ob q,fun b ob q _ _ _=>⟨ob.slots,k b ob q⟩,fun _ _ _ n _=>n,fun b ob q _=>⟨ob,k b ob q⟩,fun _ _ q=>q,fun _ _ _ q=>q,fun _ ps q=>⟨#[],by rw[q];simp⟩⟩
theorem Un.refl:Un fs ex H H h h:=Un.kept fun _ _ q=>q
theorem Un.laid (k:∀ b u,h.get? b=some u→h'.get? b=some u) (hp:h.objs.size≤a) (hn:H a=none):Un fs ex H (upd H a o) h h' where
  keep:=fun b u q _ _ _=>k b u q
  slot:=fun b u q _ _ _=>⟨u.slots,k b u q⟩
  free:=fun b u q n _=>by rw[zae (Nat.ne_of_lt (Nat.lt_of_lt_of_le (Heap.lt_size q) hp))];exact n
  there:=fun b u q _=>⟨u,k b u q⟩
  tups:=fun b xs q=>by rw[zae (zac q hn)];exact q
  frzs:=fun b u xs q=>by rw[zae (zac q hn)];exact q
  tbls:=fun b ps q=>⟨#[],by rw[zae (zac q hn),q];simp⟩
theorem Un.write (mu:Mut (H x)) (he:e=x∨H e=some (.own x)) (k:∀ b u,b≠e→h.get? b=some u→h'.get? b=some u) (heo:∃ u,h'.get? e=some u):Un fs ex H (upd H x o) h h':=by
  have hx:∀ b,H b=none→b≠x:=fun b n z=>by subst z;rw[n]at mu;exact mu
  have hb:∀ b,H b=none→b≠e:=fun b n z=>by
    subst z
    rcases he with r|r
    · exact hx b n r
    · rw[n]at r;cases r
  have hm:∀ b u,H b=some u→¬ Mut (some u)→b≠x:=fun b u q nm z=>by subst z;rw[q]at mu;exact nm mu
  refine⟨fun b u q n _ _=>k b u (hb b n) q,fun b u q n _ _=>⟨u.slots,k b u (hb b n) q⟩,fun b u q n _=>by rw[zae (hx b n)];exact n,fun b u q _=>?_,
    fun b xs q=>by rw[zae (hm b _ q fun z=>z)];exact q,fun b u xs q=>by rw[zae (hm b _ q fun z=>z)];exact q,fun b ps q=>⟨#[],by rw[zae (hm b _ q fun z=>z),q];simp⟩⟩
  by_cases hbe:b=e
  · subst hbe;exact heo
  · exact⟨u,k b u hbe q⟩
end
def trk (h:Heap) (H:Hp):List Addr:=(List.range h.objs.size).filter fun a=>(H a).isSome
def hidT (h:Heap) (H:Hp):Heap:=PySem.W.hideAll h (trk h H)
theorem zhq (h:Heap) (H:Hp):(hidT h H).objs.size=h.objs.size:=PySem.W.hideAll_size _ _
theorem ziz {h:Heap}{H:Hp}{b:Addr}{o:Obj}(e:h.get? b=some o) (n:H b=none):(hidT h H).get? b=some o :=
  PySem.W.hideAll_get _ e fun hm=>by
    have q:(H b).isSome=true:=(List.mem_filter.mp hm).2
    rw[n]at q;simp at q
theorem zjN {h:Heap}{H:Hp}{b:Addr}{o:Obj}(e:(hidT h H).get? b=some o):h.get? b=some o∧H b=none:=by
  have e':h.get? b=some o:=PySem.W.of_hideAll (trk h H) e
  refine⟨e',?_⟩
  cases q:H b with
  | none=>rfl
  | some x =>
    have hm:b∈trk h H:=List.mem_filter.mpr ⟨List.mem_range.mpr (Heap.lt_size e'),by simp[q]⟩
    have z:(hidT h H).get? b=none:=PySem.W.hideAll_none (trk h H) hm
    rw[z]at e;cases e
def zj9 (g h:Heap) (L:Addr):List (Addr × Obj):=(List.range h.objs.size).filterMap fun a=>if a=L∨(g.get? a).isSome=true then none else (h.get? a).map fun o=>(a,o)
def rest (g h:Heap) (L d:Addr):List (Addr × Obj):=(zj9 g h L).filter fun p=>decide (p.1≠d)
structure Mod (K:PySem.W.Frag) (mg:Str→Option Value) (base:Heap):Prop where
  kin:K.In base
  glob:base.Ns mainGlobals mg
  blt:∃ mb,base.Ns builtinsNs mb∧∀ x:Str,x≠"__name__"→mb x=bootBuiltins x
  nolimit:base.NoLimit
/-- the context: a def's body (or a comprehension's block) running. base: fixed through the whole law;s₀,H₀: the entry;outer: the frames whose slots others may change (a def's callers);stack: all frames that run;
   ex: iterators that were made zlF of the entry and are walked here (a comprehension's);fn: the names whose cells were made at the entry (a def: all;a comprehension's block: its own);calm: not within an except suite;pn: pins that every state bears;xe: what is wanted of an exception that leaves the code -/
structure Cx where
  prog:Program
  w:World
  K:PySem.W.Frag
  mg:Str→Option Value
  base:Heap
  A:Around
  N:List Str
  s₀:Shared
  H₀:Hp
  env:Env
  outer:List Env
  stack:List Env
  ex:List Addr
  fn:Str→Bool
  calm:Bool
  pn:List (Addr × Obj)
  xe:Value→Shared→Prop
def frs (l:List Env):List Addr:=l.filterMap (·.frame)
abbrev Cx.fs (X:Cx):List Addr:=frs X.outer
def Vis (sc:Scope) (x:Str):Prop:=sc.names.lookup x=some .local ∨ sc.names.lookup x=some .cell∨sc.names.lookup x=some .free
def Loc (sc:Scope) (x:Str):Prop:=sc.names.lookup x=some .local ∨ sc.names.lookup x=some .cell
def Look (env:Env) (h:Heap) (m:Str→Option Value) (x:Str) (u:Value):Prop :=
  (env.kindOf x=some .local ∧ m x=some u)∨((env.kindOf x=some .cell∨env.kindOf x=some .free)∧∃ c,env.cells.lookup x=some c∧h.IsCell c (some u))
structure Cx.Ok (X:Cx):Prop where
  mod:Mod X.K X.mg X.base
  kind:X.env.scope.kind=.function
  glob:X.env.globals=mainGlobals
  blt:X.env.builtins=builtinsNs
  above:X.s₀.heap.objs.size≤X.env.locals
  inj:∀ x y c,X.env.cells.lookup x=some c→X.env.cells.lookup y=some c→x=y
  has:∀ x,(X.env.kindOf x=some .cell∨X.env.kindOf x=some .free)→∃ c,X.env.cells.lookup x=some c
  cab:∀ x c,X.fn x=true→X.env.cells.lookup x=some c→X.s₀.heap.objs.size≤c
  hd:X.calm=true→X.A.handled=none
  frames:X.A.frames=some X.stack
  stk:X.stack=X.outer∨(X.stack=X.env::X.outer∧X.env.frame=some X.env.locals)
  exf:∀ b∈X.ex,b≠X.env.locals∧∀ x c,X.env.cells.lookup x=some c→c≠b
  bs:∀ b o,X.base.get? b=some o→X.s₀.heap.get? b=some o∧X.H₀ b=none
  bsz:X.base.objs.size≤X.s₀.heap.objs.size
  noex:∀ b o,X.base.get? b=some o→b∉X.ex
  exfs:∀ b∈X.ex,b∉X.fs
  funs:X.s₀.heap.FunFrames X.base X.outer
  frf:∀ b∈X.fs,X.H₀ b=none
structure Inv (X:Cx) (pins:List (Addr × Obj)) (σ:List (Option V)) (H:Hp) (s:Shared):Prop where
  ok:X.Ok
  os:s.os=X.s₀.os
  bare:AllBare s.gens
  base:Un X.fs X.ex X.H₀ H X.s₀.heap s.heap
  loc:∃ m,s.heap.Ns X.env.locals m∧∀ (i:Nat) (x:Str) (v:V),X.N[i]?=some x→σ[i]?=some (some v)→Vis X.env.scope x→∃ u,RelV v u∧Look X.env s.heap m x u
  cell:∀ x c,X.env.cells.lookup x=some c→∃ v,s.heap.IsCell c v
  free:H X.env.locals=none
  freeC:∀ x c,X.env.cells.lookup x=some c→H c=none
  pin:∀ p∈X.pn++pins,s.heap.get? p.1=some p.2∧H p.1=none∧p.1≠X.env.locals∧p.1∉X.fs∧∀ v,p.2.data≠.cell v
  hok:HOk X.prog X.w H s.heap
  len:σ.length=X.N.length
section
variable {X:Cx}{pins:List (Addr × Obj)}{σ:List (Option V)}{H H':Hp}{s:Shared}{h':Heap}
theorem Cx.Ok.nofr (ok:X.Ok) {b:Addr}{o:Obj}(e:X.base.get? b=some o):b∉X.fs:=fun hb=>by
  have:=(ok.funs.mem hb).1
  rw[e]at this;cases this
theorem Inv.bs (I:Inv X pins σ H s):∀ b o,X.base.get? b=some o→s.heap.get? b=some o∧H b=none:=fun b o e =>
  ⟨I.base.keep b o (I.ok.bs b o e).1 (I.ok.bs b o e).2 (I.ok.nofr e) (I.ok.noex b o e),I.base.free b o (I.ok.bs b o e).1 (I.ok.bs b o e).2 (I.ok.noex b o e)⟩
theorem Inv.bk (I:Inv X pins σ H s):∀ b o,X.base.get? b=some o→s.heap.get? b=some o:=fun b o e=>(I.bs b o e).1
theorem Inv.mod (I:Inv X pins σ H s):Mod X.K X.mg X.base:=I.ok.mod
theorem Inv.kIn (I:Inv X pins σ H s):X.K.In s.heap:=I.ok.mod.kin.keeps I.bk
theorem Inv.lt (I:Inv X pins σ H s):X.env.locals<s.heap.objs.size:=let ⟨_,hn,_⟩:=I.loc;hn.lt
theorem Inv.sz (I:Inv X pins σ H s):X.s₀.heap.objs.size≤s.heap.objs.size:=Nat.le_trans I.ok.above (Nat.le_of_lt I.lt)
theorem Inv.nofs (I:Inv X pins σ H s) {a:Addr}(h:s.heap.objs.size≤a):a∉X.fs:=fun hb=>by
  obtain⟨_,o,ho,_⟩:=I.ok.funs.mem hb
  exact absurd (Nat.lt_of_lt_of_le (Heap.lt_size ho) (Nat.le_trans I.sz h)) (Nat.lt_irrefl _)
theorem Inv.cne (I:Inv X pins σ H s):∀ x c,X.env.cells.lookup x=some c→c≠X.env.locals:=fun x c e z=>by
  obtain⟨v,o,ho,hd⟩:=I.cell x c e
  obtain⟨m,⟨o',es,ep,ho',hd',_⟩,_⟩:=I.loc
  rw[z,ho']at ho;cases ho;rw[hd']at hd;cases hd
theorem Inv.funs (I:Inv X pins σ H s):s.heap.FunFrames X.base X.outer:=by
  have all:∀ (l:List Env),(∀ b∈frs l,b∈X.fs)→X.s₀.heap.FunFrames X.base l→s.heap.FunFrames X.base l:=by
    intro l
    induction l with
    | nil=>intro _ _;trivial
    | cons env r ih =>
      intro hs hl
      obtain⟨hk,⟨L,o,hf,hn,ho,hd⟩,hr⟩:=hl
      have hL:L∈X.fs:=hs L (by unfold frs;rw[List.filterMap_cons,hf];exact List.mem_cons_self)
      obtain⟨sl,e⟩:=I.base.slot L o ho (I.ok.frf L hL) hL fun z=>I.ok.exfs L z hL
      exact⟨hk,⟨L,_,hf,hn,e,hd⟩,ih (fun b hb=>hs b (by unfold frs;rw[List.filterMap_cons,hf];exact List.mem_cons_of_mem _ hb)) hr⟩
  exact all X.outer (fun _ hb=>hb) I.ok.funs
theorem Inv.stack (I:Inv X pins σ H s):s.heap.FunFrames X.base X.stack:=by
  rcases I.ok.stk with e|⟨e,hf⟩
  · rw[e];exact I.funs
  · rw[e]
    obtain⟨m,hn,_⟩:=I.loc
    refine .cons (by rw[I.ok.kind];decide) hf hn ?_ I.funs
    exact Heap.get?_none_of_le (Nat.le_trans I.ok.bsz I.ok.above)
theorem Inv.stkSub (I:Inv X pins σ H s):∀ b∈frs X.stack,b∈X.env.locals::X.fs:=fun b hb=>by
  rcases I.ok.stk with e|⟨e,hf⟩
  · rw[e]at hb;exact List.mem_cons_of_mem _ hb
  · rw[e]at hb
    unfold frs at hb
    rw[List.filterMap_cons,hf]at hb
    exact hb
theorem Inv.stkFree (I:Inv X pins σ H s):∀ b∈frs X.stack,H b=none:=fun b hb=>by
  rcases List.mem_cons.mp (I.stkSub b hb) with e|hb
  · rw[e];exact I.free
  · obtain⟨_,o,ho,_⟩:=I.ok.funs.mem hb
    exact I.base.free b o ho (I.ok.frf b hb) fun z=>I.ok.exfs b z hb
theorem Inv.step {g':Array GenState}{t':Nat}{d':Drawn}{ch:List Addr}(I:Inv X pins σ H s)
    (hch:∀ b∈ch,(b∈X.ex∨X.s₀.heap.objs.size≤b)∧b≠X.env.locals∧(∀ x c,X.env.cells.lookup x=some c→c≠b)∧∀ p∈X.pn++pins,p.1≠b)
    (keep:∀ b o,b≠X.env.locals→b∉X.fs→b∉ch→s.heap.get? b=some o→H b=none→h'.get? b=some o)
    (slot:∀ b o,b≠X.env.locals→b∈X.fs→b∉ch→s.heap.get? b=some o→H b=none→∃ sl,h'.get? b=some { o with slots:=sl }) (free:∀ b o,b∉ch→s.heap.get? b=some o→H b=none→H' b=none)
    (there:∀ b o,b∉ch→s.heap.get? b=some o→∃ o',h'.get? b=some o')
    (tups:∀ b xs,H b=some (.tup xs)→H' b=some (.tup xs)) (frzs:∀ b o u,H b=some (.frz o u)→H' b=some (.frz o u)) (tbls:∀ b ps,H b=some (.tbl ps)→∃ more,H' b=some (.tbl (ps++more)))
    (ns:∀ m,s.heap.Ns X.env.locals m→h'.Ns X.env.locals m) (hok:HOk X.prog X.w H' h') (hg:AllBare g') :
    Inv X pins σ H' { s with heap:=h',gens:=g',drawn:=d',toks:=t' }:=by
  have neL:∀ b o,X.s₀.heap.get? b=some o→b≠X.env.locals:=fun b o e=>Nat.ne_of_lt (Nat.lt_of_lt_of_le (Heap.lt_size e) I.ok.above)
  have neC:∀ b o,X.s₀.heap.get? b=some o→b∉X.ex→b∉ch:=fun b o e hx hb=>by
    rcases (hch b hb).1 with z|z
    · exact hx z
    · exact absurd (Nat.lt_of_lt_of_le (Heap.lt_size e) z) (Nat.lt_irrefl _)
  have cellK:∀ x c,X.env.cells.lookup x=some c→∀ v,s.heap.IsCell c v→h'.IsCell c v:=fun x c e v ⟨o,ho,hd⟩=>by
    have nch:c∉ch:=fun z=>(hch c z).2.2.1 x c e rfl
    by_cases hc:c∈X.fs
    · obtain⟨sl,q⟩:=slot c o (I.cne x c e) hc nch ho (I.freeC x c e)
      exact⟨_,q,hd⟩
    · exact⟨o,keep c o (I.cne x c e) hc nch ho (I.freeC x c e),hd⟩
  refine⟨I.ok,I.os,hg,⟨fun b o e n hb hx=>?_,fun b o e n hb hx=>?_,fun b o e n hx=>?_,fun b o e hx=>?_,fun b xs e=>tups b xs (I.base.tups b xs e),fun b o xs e=>frzs b o xs (I.base.frzs b o xs e),fun b ps e=>?_⟩,?_,fun x c e=>?_,?_,fun x c e=>?_,fun p hp=>?_,hok,I.len⟩
  · exact keep b o (neL b o e) hb (neC b o e hx) (I.base.keep b o e n hb hx) (I.base.free b o e n hx)
  · obtain⟨sl,e1⟩:=I.base.slot b o e n hb hx
    obtain⟨sl',e2⟩:=slot b _ (neL b o e) hb (neC b o e hx) e1 (I.base.free b o e n hx)
    exact⟨sl',e2⟩
  · obtain⟨o',e1⟩:=I.base.there b o e hx
    exact free b o' (neC b o e hx) e1 (I.base.free b o e n hx)
  · obtain⟨o',e1⟩:=I.base.there b o e hx
    exact there b o' (neC b o e hx) e1
  · obtain⟨m1,e1⟩:=I.base.tbls b ps e
    obtain⟨m2,e2⟩:=tbls b _ e1
    exact⟨m1++m2,by rw[e2,Array.append_assoc]⟩
  · obtain⟨m,hn,hl⟩:=I.loc
    refine⟨m,ns m hn,fun i x v e1 e2 e3=>?_⟩
    obtain⟨u,r,l⟩:=hl i x v e1 e2 e3
    refine⟨u,r,?_⟩
    rcases l with l|⟨k,c,e,z⟩
    · exact .inl l
    · exact .inr ⟨k,c,e,cellK x c e _ z⟩
  · obtain⟨v,z⟩:=I.cell x c e
    exact⟨v,cellK x c e v z⟩
  · obtain⟨m,⟨o,_,_,ho,_⟩,_⟩:=I.loc
    exact free _ o (fun z=>(hch _ z).2.1 rfl) ho I.free
  · obtain⟨v,o,ho,hd⟩:=I.cell x c e
    exact free c o (fun z=>(hch c z).2.2.1 x c e rfl) ho (I.freeC x c e)
  · obtain⟨e,n,ne,nf,d⟩:=I.pin p hp
    have nch:p.1∉ch:=fun z=>(hch p.1 z).2.2.2 p hp rfl
    exact⟨keep p.1 p.2 ne nf nch e n,free p.1 p.2 nch e n,ne,nf,d⟩
theorem Inv.un {t':Nat}(I:Inv X pins σ H s) (u:Un X.fs [] H H' s.heap h') (hok:HOk X.prog X.w H' h'):Inv X pins σ H' { s with heap:=h',toks:=t' }:=by
  obtain⟨m,⟨o,es,ep,ho,r⟩,_⟩:=id I.loc
  obtain⟨sl,hL⟩:=u.any ho I.free (by simp)
  exact I.step (g':=s.gens) (d':=s.drawn) (ch:=[]) (fun _ z=>nomatch z) (fun b o _ hb _ e n=>u.keep b o e n hb (by simp)) (fun b o _ hb _ e n=>u.slot b o e n hb (by simp)) (fun b o _ e n=>u.free b o e n (by simp)) (fun b o _ e=>u.there b o e (by simp)) u.tups u.frzs u.tbls (fun m' hm=>by
    obtain⟨o',es',ep',ho',r'⟩:=hm
    rw[ho]at ho';cases ho'
    exact⟨_,es',ep',hL,r'⟩) hok I.bare
theorem Inv.call {g':Array GenState}{t':Nat}{d':Drawn}{ch:List Addr}(I:Inv X pins σ H s) (u:Un (frs X.stack) ch H H' s.heap h') (hok:HOk X.prog X.w H' h') (hg:AllBare g')
    (hch:∀ b∈ch,(b∈X.ex∨X.s₀.heap.objs.size≤b)∧b≠X.env.locals∧(∀ x c,X.env.cells.lookup x=some c→c≠b)∧∀ p∈X.pn++pins,p.1≠b) :
    Inv X pins σ H' { s with heap:=h',gens:=g',drawn:=d',toks:=t' }:=by
  obtain⟨m,⟨o,es,ep,ho,r⟩,_⟩:=id I.loc
  obtain⟨sl,hL⟩:=u.any ho I.free fun z=>(hch _ z).2.1 rfl
  exact I.step (ch:=ch) hch (fun b o hL hb hc e n=>u.keep b o e n (fun z=>(List.mem_cons.mp (I.stkSub b z)).elim hL hb) hc) (fun b o _ _ hc e n=>u.any e n hc) (fun b o hc e n=>u.free b o e n hc) (fun b o hc e=>u.there b o e hc) u.tups u.frzs u.tbls (fun m' hm=>by
    obtain⟨o',es',ep',ho',r'⟩:=hm
    rw[ho]at ho';cases ho'
    exact⟨_,es',ep',hL,r'⟩) hok hg
theorem Inv.turned {t':Nat}{it:Addr}(I:Inv X pins σ H s) (k:∀ b o,b≠it→s.heap.get? b=some o→h'.get? b=some o) (hn:H it=none) (hL:it≠X.env.locals)
    (h1:it∈X.ex∨X.s₀.heap.objs.size≤it) (h2:∀ x c,X.env.cells.lookup x=some c→c≠it) (h3:∀ p∈X.pn++pins,p.1≠it):Inv X pins σ H { s with heap:=h',toks:=t' }:=by
  have nit:∀ b u,H b=some u→b≠it:=fun b u e z=>by rw[z,hn]at e;cases e
  refine I.step (g':=s.gens) (d':=s.drawn) (ch:=[it]) (fun b hb=>?_) (fun b o _ _ hc e _=>k b o (fun z=>hc (by simp[z])) e) (fun b o _ _ hc e _=>⟨o.slots,k b o (fun z=>hc (by simp[z])) e⟩) (fun _ _ _ _ n=>n)
    (fun b o hc e=>⟨o,k b o (fun z=>hc (by simp[z])) e⟩) (fun _ _ e=>e) (fun _ _ _ e=>e) (fun b ps e=>⟨#[],by rw[e];simp⟩) (fun m hm=>?_) (fun b u e=>?_) I.bare
  · have e:b=it:=by simpa using hb
    subst e
    exact⟨h1,hL,h2,h3⟩
  · obtain⟨o,es,ep,ho,r⟩:=hm
    exact⟨o,es,ep,k _ o (Ne.symm hL) ho,r⟩
  · refine(I.hok b u e).stay (fun c v hc q=>k c v ?_ q) (fun _ q=>q) fun _ _ q=>q
    rcases hc with z|z
    · rw[z];exact nit b u e
    · exact nit c _ z
theorem Inv.tok (I:Inv X pins σ H s) (t:Nat):Inv X pins σ H { s with toks:=t }:=I.un (h':=s.heap) (t':=t) Un.refl I.hok
theorem Inv.kept {t':Nat}(I:Inv X pins σ H s) (k:∀ b u,s.heap.get? b=some u→h'.get? b=some u):Inv X pins σ H { s with heap:=h',toks:=t' }:=I.un (Un.kept k) (I.hok.kept k)
theorem Inv.laid {a:Addr}{o:HO}{t':Nat}(I:Inv X pins σ H s) (k:∀ b u,s.heap.get? b=some u→h'.get? b=some u) (hp:s.heap.objs.size≤a) (new:ObjOk X.prog X.w (upd H a o) h' a o) :
    Inv X pins σ (upd H a o) { s with heap:=h',toks:=t' }:=I.un (Un.laid k hp (I.hok.fresh hp)) (I.hok.laid k hp new)
theorem Inv.write {x e:Addr}{o:HO}{t':Nat}(I:Inv X pins σ H s) (mu:Mut (H x)) (he:e=x∨H e=some (.own x)) (k:∀ b u,b≠e→s.heap.get? b=some u→h'.get? b=some u) (heo:∃ u,h'.get? e=some u)
    (new:ObjOk X.prog X.w (upd H x o) h' x o):Inv X pins σ (upd H x o) { s with heap:=h',toks:=t' }:=I.un (Un.write mu he k heo) (I.hok.write mu he k heo new)
theorem Inv.pins_of {pins':List (Addr × Obj)}(I:Inv X pins σ H s) (h:∀ p∈pins',s.heap.get? p.1=some p.2∧H p.1=none∧p.1≠X.env.locals∧p.1∉X.fs∧∀ v,p.2.data≠.cell v):Inv X pins' σ H s :=
  ⟨I.ok,I.os,I.bare,I.base,I.loc,I.cell,I.free,I.freeC,fun p hp=>(List.mem_append.mp hp).elim (fun z=>I.pin p (List.mem_append_left _ z)) (h p),I.hok,I.len⟩
theorem zfj {N:List Str}(hN:N.Nodup) {i j:Nat}{x:Str}(a:N[i]?=some x) (b:N[j]?=some x):i=j:=by
  obtain⟨h1,e1⟩:=List.getElem?_eq_some_iff.mp a
  obtain⟨h2,e2⟩:=List.getElem?_eq_some_iff.mp b
  exact(List.getElem_inj hN).mp (e1.trans e2.symm)
theorem zdL {M:Model}{A:Around}{E:Value→Shared→Prop}{i:Nat}{x:Str}{v:V}{u:Value}{Q:Unit→Shared→Prop}(I:Inv X pins σ H s) (hN:X.N.Nodup) (hi:X.N[i]?=some x) (hx:Loc X.env.scope x) (r:RelV v u)
    (h:∀ s',Inv X pins (σ.set i (some v)) H s'→(∃ a,Heap.SameBut a s.heap s'.heap∧(a=X.env.locals∨X.env.cells.lookup x=some a))→Q () s') (hf:X.fn x=true∨X.env.scope.names.lookup x=some .local:=by first|exact .inl rfl|exact .inr rfl|assumption):wpAny M A (storeName X.env x u) Q E s:=by
  obtain⟨m,hn,hl⟩:=id I.loc
  have hcls:(X.env.scope.kind == .class || (X.env.scope.kind == .module && X.env.locals != X.env.globals))=false:=by rw[I.ok.kind];rfl
  have hiσ:i<σ.length:=by rw[I.len];exact(List.getElem?_eq_some_iff.mp hi).1
  have cne:=I.cne
  have tracked:∀ {a:Addr}{h':Heap},(∃ o,s.heap.get? a=some o∧H a=none)→Heap.SameBut a s.heap h'→HOk X.prog X.w H h':=fun {a h'} ha hs b ob e=>by
    obtain⟨_,_,hfree⟩:=ha
    refine(I.hok b ob e).stay (fun c w' hc q=>(hs.2 c ?_).trans q) (fun _ q=>q) fun _ _ q=>q
    rintro rfl
    rcases hc with rfl|hc
    · rw[hfree]at e;cases e
    · rw[hfree]at hc;cases hc
  rcases hx with hk|hk
  · refine wpAny_storeName_local hk hn (fun h' hn' hs=>?_) hcls
    obtain⟨oL,_,_,hoL,_⟩:=id hn
    refine h _ ⟨I.ok,I.os,I.bare,⟨fun b o e n hb hx=>?_,fun b o e n hb hx=>?_,I.base.free,fun b o e hx=>?_,I.base.tups,I.base.frzs,I.base.tbls⟩,⟨_,hn',fun j y v' e1 e2 e3=>?_⟩,fun y c e=>?_,I.free,I.freeC,fun p hp=>?_,tracked ⟨oL,hoL,I.free⟩ hs,by simpa using I.len⟩ ⟨_,hs,.inl rfl⟩
    · exact(hs.2 b (Nat.ne_of_lt (Nat.lt_of_lt_of_le (Heap.lt_size e) I.ok.above))).trans (I.base.keep b o e n hb hx)
    · obtain⟨sl,e1⟩:=I.base.slot b o e n hb hx
      exact⟨sl,(hs.2 b (Nat.ne_of_lt (Nat.lt_of_lt_of_le (Heap.lt_size e) I.ok.above))).trans e1⟩
    · obtain⟨o',e1⟩:=I.base.there b o e hx
      exact⟨o',(hs.2 b (Nat.ne_of_lt (Nat.lt_of_lt_of_le (Heap.lt_size e) I.ok.above))).trans e1⟩
    · by_cases hj:j=i
      · subst hj
        rw[hi]at e1;cases e1
        rw[List.getElem?_set_self hiσ]at e2
        cases e2
        exact⟨u,r,.inl ⟨hk,by simp⟩⟩
      · rw[List.getElem?_set_ne (Ne.symm hj)]at e2
        obtain⟨u',r',q⟩:=hl j y v' e1 e2 e3
        refine⟨u',r',?_⟩
        rcases q with ⟨k,e⟩|⟨k,c,e,z⟩
        · refine .inl ⟨k,?_⟩
          have:y≠x:=fun e=>hj (zfj hN e1 (e ▸ hi))
          simp[this,e]
        · exact .inr ⟨k,c,e,z.sameBut hs (cne y c e)⟩
    · obtain⟨w',z⟩:=I.cell y c e
      exact⟨w',z.sameBut hs (cne y c e)⟩
    · obtain⟨e,n,ne,nf,d⟩:=I.pin p hp
      exact⟨(hs.2 p.1 ne).trans e,n,ne,nf,d⟩
  · have hfn:X.fn x=true:=by
      rcases hf with z|z
      · exact z
      · rw[z]at hk;cases hk
    obtain⟨c,hc⟩:=I.ok.has x (.inl hk)
    obtain⟨w',z⟩:=I.cell x c hc
    refine wpAny_storeName_cell I.ok.kind hk hc z (fun h' hc' hs=>?_)
    obtain⟨oc,hoc,hocd⟩:=id z
    refine h { s with heap:=h' } ⟨I.ok,I.os,I.bare,⟨fun b o e n hb hx=>?_,fun b o e n hb hx=>?_,I.base.free,fun b o e hx=>?_,I.base.tups,I.base.frzs,I.base.tbls⟩,⟨m,hn.sameBut hs (Ne.symm (cne x c hc)),fun j y v' e1 e2 e3=>?_⟩,fun y c' e=>?_,I.free,I.freeC,fun p hp=>?_,tracked ⟨oc,hoc,I.freeC x c hc⟩ hs,by simpa using I.len⟩ ⟨c,hs,.inr hc⟩
    · exact(hs.2 b (Nat.ne_of_lt (Nat.lt_of_lt_of_le (Heap.lt_size e) (I.ok.cab x c hfn hc)))).trans (I.base.keep b o e n hb hx)
    · obtain⟨sl,e1⟩:=I.base.slot b o e n hb hx
      exact⟨sl,(hs.2 b (Nat.ne_of_lt (Nat.lt_of_lt_of_le (Heap.lt_size e) (I.ok.cab x c hfn hc)))).trans e1⟩
    · obtain⟨o',e1⟩:=I.base.there b o e hx
      exact⟨o',(hs.2 b (Nat.ne_of_lt (Nat.lt_of_lt_of_le (Heap.lt_size e) (I.ok.cab x c hfn hc)))).trans e1⟩
    · by_cases hj:j=i
      · subst hj
        rw[hi]at e1;cases e1
        rw[List.getElem?_set_self hiσ]at e2
        cases e2
        exact⟨u,r,.inr ⟨.inl hk,c,hc,hc'⟩⟩
      · rw[List.getElem?_set_ne (Ne.symm hj)]at e2
        obtain⟨u',r',q⟩:=hl j y v' e1 e2 e3
        refine⟨u',r',?_⟩
        rcases q with q|⟨k,c',e,z'⟩
        · exact .inl q
        · refine .inr ⟨k,c',e,z'.sameBut hs ?_⟩
          rintro rfl
          exact hj (zfj hN e1 (I.ok.inj _ _ _ e hc ▸ hi))
    · by_cases hcc:c'=c
      · subst hcc;exact⟨_,hc'⟩
      · obtain⟨w2,z2⟩:=I.cell y c' e
        exact⟨w2,z2.sameBut hs hcc⟩
    · obtain⟨e,n,ne,nf,d⟩:=I.pin p hp
      refine⟨(hs.2 p.1 ?_).trans e,n,ne,nf,d⟩
      intro q
      rw[q,hoc]at e
      have q':oc=p.2:=Option.some.inj e
      exact d w' (by rw[← q'];exact hocd)
theorem zbC {M:Model}{A:Around}{E:Value→Shared→Prop}{i:Nat}{x:Str}{v:V}{u:Value}{Q:Unit→Shared→Prop}(I:Inv X pins σ H s) (hN:X.N.Nodup) (hi:X.N[i]?=some x) (hx:Loc X.env.scope x) (r:RelV v u)
    (h:∀ s',Inv X pins (σ.set i (some v)) H s'→Q () s') (hf:X.fn x=true∨X.env.scope.names.lookup x=some .local:=by first|exact .inl rfl|exact .inr rfl|assumption):wpAny M A (storeName X.env x u) Q E s :=
  zdL I hN hi hx r (fun s' I' _=>h s' I') hf
theorem Inv.call' {s':Shared}{ch:List Addr}(I:Inv X pins σ H s) (ho:s'.os=s.os) (u:Un (frs X.stack) ch H H' s.heap s'.heap) (hok:HOk X.prog X.w H' s'.heap) (hg:AllBare s'.gens)
    (hch:∀ b∈ch,(b∈X.ex∨X.s₀.heap.objs.size≤b)∧b≠X.env.locals∧(∀ x c,X.env.cells.lookup x=some c→c≠b)∧∀ p∈X.pn++pins,p.1≠b):Inv X pins σ H' s':=by
  obtain⟨h',g',d',t',o'⟩:=s'
  have e:o'=s.os:=ho
  subst e
  exact I.call (g':=g') (t':=t') (d':=d') u hok hg hch
end
abbrev XK:=Value→Option Addr→Hp→Prop
abbrev St:=List (Option V)
abbrev VK:=V→Hp→Prop
abbrev TE:=St→Hp→VK→Prop
abbrev TT:=St→Hp→(Bool→Hp→Prop)→Prop
abbrev TA:=St→Hp→(List V→Hp→Prop)→Prop
structure Ends where
  nx:St→Hp→Prop
  rt:VK
  bk:St→Hp→Prop:=fun _ _=>False
  ct:St→Hp→Prop:=fun _ _=>False
abbrev TS:=Ends→St→Hp→Prop
def EP (X:Cx) (pins:List (Addr × Obj)) (σ:St) (Q:VK) (u:Value) (s':Shared):Prop:=∃ v H',Inv X pins σ H' s'∧RelV v u∧Q v H'
def TP (X:Cx) (pins:List (Addr × Obj)) (σ:St) (Q:Bool→Hp→Prop) (b:Bool) (s':Shared):Prop:=∃ H',Inv X pins σ H' s'∧Q b H'
def AP (X:Cx) (pins:List (Addr × Obj)) (σ:St) (Q:List V→Hp→Prop) (us:List Value) (s':Shared):Prop:=∃ vs H',Inv X pins σ H' s'∧Vals vs us∧Q vs H'
def SP (X:Cx) (pins:List (Addr × Obj)) (D:Ends) (f:Flow) (s':Shared):Prop :=
  match f with
  | .next=>∃ σ' H',Inv X pins σ' H' s'∧D.nx σ' H'
  | .brk=>∃ σ' H',Inv X pins σ' H' s'∧D.bk σ' H'
  | .cont=>∃ σ' H',Inv X pins σ' H' s'∧D.ct σ' H'
  | .ret u=>∃ v σ' H',Inv X pins σ' H' s'∧RelV v u∧D.rt v H'
def PE (X:Cx) (e:Expr) (t:TE):Prop :=
  ∀ (pins:List (Addr × Obj)) (s:Shared) (σ:St) (H:Hp) (Q:VK),Inv X pins σ H s→t σ H Q→wpAny (model X.prog X.w) X.A (eval e X.env) (EP X pins σ Q) X.xe s
def PT (X:Cx) (e:Expr) (t:TT):Prop :=
  ∀ (pins:List (Addr × Obj)) (s:Shared) (σ:St) (H:Hp) (Q:Bool→Hp→Prop),Inv X pins σ H s→t σ H Q→wpAny (model X.prog X.w) X.A (isTrue e X.env (eval e X.env)) (TP X pins σ Q) X.xe s
def PW (X:Cx) (e:Expr) (t:TT):Prop :=
  ∀ (whole:Sem Value) (pins:List (Addr × Obj)) (s:Shared) (σ:St) (H:Hp) (Q:Bool→Hp→Prop),Inv X pins σ H s→t σ H Q→wpAny (model X.prog X.w) X.A (isTrue e X.env whole) (TP X pins σ Q) X.xe s
theorem PW.pt {X:Cx}{e:Expr}{t:TT}(h:PW X e t):PT X e t:=h _
def PA (X:Cx) (es:List Expr) (t:TA):Prop :=
  ∀ (pos:Pos) (pins:List (Addr × Obj)) (s:Shared) (σ:St) (H:Hp) (Q:List V→Hp→Prop),Inv X pins σ H s→t σ H Q→wpAny (model X.prog X.w) X.A (spliced (backTo pos (starEach es X.env))) (AP X pins σ Q) X.xe s
def PS (X:Cx) (st:Stmt) (t:TS):Prop :=
  ∀ (pins:List (Addr × Obj)) (s:Shared) (σ:St) (H:Hp) (D:Ends),Inv X pins σ H s→t D σ H→wpAny (model X.prog X.w) X.A (exec st X.env) (SP X pins D) X.xe s
def PSs (X:Cx) (st:List Stmt) (t:TS):Prop :=
  ∀ (pins:List (Addr × Obj)) (s:Shared) (σ:St) (H:Hp) (D:Ends),Inv X pins σ H s→t D σ H→wpAny (model X.prog X.w) X.A (execs st X.env) (SP X pins D) X.xe s
theorem thn {α:Type}{t:Sem α}{Q Q':α→Shared→Prop}{M:Model}{A:Around}{E:Value→Shared→Prop}{s:Shared}(h:wpAny M A t Q E s) (hQ:∀ a s,Q a s→Q' a s):wpAny M A t Q' E s:=wpAny_mono h hQ fun _ _ x=>x
section
variable {X:Cx}
def tVar (i:Nat):TE:=fun σ H Q=>∃ v,σ[i]?=some (some v)∧Q v H
def tC (v:V):TE:=fun _ H Q=>Q v H
theorem zkx {i:Nat}{x:Str}{pos:Pos}(hN:X.N[i]?=some x) (hv:Vis X.env.scope x) (hd:(x == ("__debug__":Str))=false:=by decide) (hcd:(x == ("__classdict__":Str))=false:=by decide):PE X (.Name x pos) (tVar i):=by
  intro pins s σ H Q I h
  obtain⟨v,e,h⟩:=h
  obtain⟨m,hn,hl⟩:=I.loc
  obtain⟨u,r,l⟩:=hl i x v hN e hv
  have fin:EP X pins σ Q u s:=⟨v,H,I,r,h⟩
  rcases l with ⟨hk,hm⟩|⟨hk,c,hc,hcell⟩
  · exact wpAny_Name (wpAny_loadName_local I.ok.kind hk hn hm fin) hd
  · rcases hk with hk|hk
    · exact wpAny_Name (wpAny_loadName_cell I.ok.kind hk hc hcell fin) hd
    · exact wpAny_Name (wpAny_loadName_free I.ok.kind hk hc hcell fin hcd) hd
theorem pe_int {i j pos}:PE X (.Constant (.int i) j pos) (tC (.int i)):=fun _ _ _ H _ I h=>wpAny_Constant_int ⟨.int i,H,I.tok _,⟨_,rfl⟩,h⟩
theorem pe_bl {b j pos}:PE X (.Constant (.bool b) j pos) (tC (.bl b)):=fun _ _ _ H _ I h=>Constant_bool ⟨.bl b,H,I,rfl,h⟩
theorem pe_str {x j pos}:PE X (.Constant (.str x) j pos) (tC (.str x)):=fun _ _ _ H _ I h=>Calls.Constant_str ⟨.str x,H,I.tok _,⟨_,rfl⟩,h⟩
def Gl (X:Cx) (x:Str):Prop:=X.env.kindOf x=some .globalImplicit
theorem zjV {E:Value→Shared→Prop}{pins:List (Addr × Obj)}{s:Shared}{σ:St}{H:Hp}{x:Str}{u:Value}{pos:Pos}{Q:Value→Shared→Prop}(I:Inv X pins σ H s) (hg:Gl X x) (hm:X.mg x=some u) (h:Q u s)
    (hd:(x == ("__debug__":Str))=false:=by decide):wpAny (model X.prog X.w) X.A (eval (.Name x pos) X.env) Q E s :=
  Calls.Name_function_global I.ok.kind hg (Calls.loadGlobal_global (by rw[I.ok.glob];exact I.mod.glob.keeps I.bk) hm h) hd
theorem zbd {E:Value→Shared→Prop}{pins:List (Addr × Obj)}{s:Shared}{σ:St}{H:Hp}{x:Str}{u:Value}{pos:Pos}{Q:Value→Shared→Prop}(I:Inv X pins σ H s) (hg:Gl X x) (hm:X.mg x=none) (hv:bootBuiltins x=some u) (h:Q u s)
    (hn:x≠"__name__":=by decide) (hd:(x == ("__debug__":Str))=false:=by decide):wpAny (model X.prog X.w) X.A (eval (.Name x pos) X.env) Q E s:=by
  obtain⟨mb,h1,h2⟩:=I.mod.blt
  exact Calls.Name_function_global I.ok.kind hg (Calls.loadGlobal_builtin (by rw[I.ok.glob];exact I.mod.glob.keeps I.bk) hm (by rw[I.ok.blt];exact h1.keeps I.bk) ((h2 x hn).trans hv) h) hd
theorem zdr {x:Str}{v:V}{u:Value}{pos:Pos}(hg:Gl X x) (hm:X.mg x=none) (hv:bootBuiltins x=some u) (r:RelV v u) (hn:x≠"__name__":=by decide) (hd:(x == ("__debug__":Str))=false:=by decide):PE X (.Name x pos) (tC v) :=
  fun _ _ _ H _ I h=>zbd I hg hm hv ⟨v,H,I,r,h⟩ hn hd
variable {a b:Expr}{ta tb:TE}{pos:Pos}
def tB (t:TE):TT:=fun σ H Q=>t σ H fun x H1=>∃ c,x=.bl c∧Q c H1
theorem pt_val {e:Expr}{t:TE}(h:PE X e t) (he:∀ whole,isTrue e X.env whole=(do let v ← whole;standAt e.pos;holding [v] (truthy v)):=by intro _;rfl):PT X e (tB t):=by
  intro pins s σ H Q I hw
  refine isTrue_plain (thn (h pins s σ H _ I hw) fun v s1 ⟨x,H1,I1,r1,q1⟩=>?_) (he _)
  obtain⟨d,rfl,q⟩:=q1
  cases r1
  exact wpAny_truthy_bool ⟨H1,I1,q⟩
variable {tA tB':TT}{rest:List Expr}
def tAnd (t u:TT):TT:=fun σ H Q=>t σ H fun c H1=>if c=true then u σ H1 Q else Q false H1
def tOr (t u:TT):TT:=fun σ H Q=>t σ H fun c H1=>if c=true then Q true H1 else u σ H1 Q
def tNot (t:TT):TT:=fun σ H Q=>t σ H fun c H1=>Q (!c) H1
theorem zdo (ha:PT X a tA):PW X (.BoolOp .And [a] pos) tA:=by
  intro wh pins s σ H Q I h
  refine isTrue_and (thn (ha pins s σ H Q I h) fun c s1 e=>?_)
  cases c with
  | true=>exact isTrue_and_nil e
  | false=>exact e
theorem pw_or1 (ha:PT X a tA):PW X (.BoolOp .Or [a] pos) tA:=by
  intro wh pins s σ H Q I h
  refine isTrue_or (thn (ha pins s σ H Q I h) fun c s1 e=>?_)
  cases c with
  | false=>exact isTrue_or_nil e
  | true=>exact e
theorem zfe (ha:PT X a tA) (hb:PW X (.BoolOp .And (b::rest) pos) tB'):PW X (.BoolOp .And (a::b::rest) pos) (tAnd tA tB'):=by
  intro wh pins s σ H Q I h
  refine isTrue_and (thn (ha pins s σ H _ I h) fun c s1 ⟨H1,I1,q1⟩=>?_)
  cases c with
  | true=>exact hb wh pins s1 σ H1 Q I1 q1
  | false=>exact⟨H1,I1,q1⟩
theorem pw_or (ha:PT X a tA) (hb:PW X (.BoolOp .Or (b::rest) pos) tB'):PW X (.BoolOp .Or (a::b::rest) pos) (tOr tA tB'):=by
  intro wh pins s σ H Q I h
  refine isTrue_or (thn (ha pins s σ H _ I h) fun c s1 ⟨H1,I1,q1⟩=>?_)
  cases c with
  | true=>exact⟨H1,I1,q1⟩
  | false=>exact hb wh pins s1 σ H1 Q I1 q1
theorem pt_not (ha:PT X a tA):PT X (.UnaryOp .Not a pos) (tNot tA):=by
  intro pins s σ H Q I h
  exact isTrue_not (ha pins s σ H (fun c H1=>Q (!c) H1) I h)
def zlh (ta tb:TE):TE:=fun σ H Q=>ta σ H fun x H1=>∃ c,x=.bl c∧if c=true then tb σ H1 Q else Q (.bl false) H1
def zlb (ta:TE):TE:=fun σ H Q=>ta σ H fun x H1=>∃ c,x=.bl c∧Q (.bl (!c)) H1
theorem zbh {op} {t:TE}(h:PE X a t):PE X (.BoolOp op [a] pos) t:=fun pins s σ H Q I hw=>BoolOp_one (h pins s σ H Q I hw)
theorem zbb (ha:PE X a ta) (hb:PE X (.BoolOp .And (b::rest) pos) tb):PE X (.BoolOp .And (a::b::rest) pos) (zlh ta tb):=by
  intro pins s σ H Q I h
  refine BoolOp_and (thn (ha pins s σ H _ I h) fun v s1 ⟨x,H1,I1,r1,q1⟩=>?_)
  obtain⟨c,rfl,q1⟩:=q1
  cases r1
  refine wpAny_truthy_bool ?_
  cases c with
  | true=>exact hb pins s1 σ H1 Q I1 q1
  | false=>exact⟨.bl false,H1,I1,rfl,q1⟩
theorem zkz (ha:PE X a ta):PE X (.UnaryOp .Not a pos) (zlb ta):=by
  intro pins s σ H Q I h
  refine UnaryOp_ (thn (ha pins s σ H _ I h) fun v s1 ⟨x,H1,I1,r1,q1⟩=>?_)
  obtain⟨c,rfl,q1⟩:=q1
  cases r1
  exact not_of (wpAny_truthy_bool ⟨.bl (!c),H1,I1,rfl,q1⟩)
def tIf (t:TT) (ta tb:TE):TE:=fun σ H Q=>t σ H fun c H1=>if c=true then ta σ H1 Q else tb σ H1 Q
theorem pe_ifExp {c:Expr}(hc:PT X c tA) (ha:PE X a ta) (hb:PE X b tb):PE X (.IfExp c a b pos) (tIf tA ta tb):=by
  intro pins s σ H Q I h
  refine wpAny_IfExp (thn (hc pins s σ H _ I h) fun d s1 ⟨H1,I1,q1⟩=>?_)
  cases d with
  | true=>exact ha pins s1 σ H1 Q I1 q1
  | false=>exact hb pins s1 σ H1 Q I1 q1
end
def SqL (K:PySem.W.Frag) (H:Hp) (a:Addr) (xs:List V):Prop :=
  Rd H a (.lst xs) ∨
    ∃ (o:Obj) (its:Array Value) (n:Nat),K.lookup a=some o∧o.cls=.type "list"∧o.dict=none∧o.data=.seq its n∧its.size≤sizeLine∧Vals xs its.toList
def SqT (K:PySem.W.Frag) (H:Hp) (a:Addr) (xs:List V):Prop :=
  Rd H a (.tup xs) ∨
    ∃ (o:Obj) (its:Array Value) (n:Nat),K.lookup a=some o∧o.cls=.type "tuple"∧o.data=.seq its n∧its.size≤sizeLine∧Vals xs its.toList
def absV:Value→Option V
  | .none=>some .non
  | .bool b=>some (.bl b)
  | .int i _=>some (.int i)
  | .str x _=>some (.str x)
  | .bytes b _=>some (.byt b)
  | .float b _=>some (.flt b)
  | .ref a=>some (.ref a)
  | .type n=>some (.ty n)
  | _=>none
theorem RelV.abs {x:V}{u:Value}(r:RelV x u):absV u=some x:=by
  cases x with
  | non=>cases r;rfl
  | bl _=>cases r;rfl
  | int _=>obtain⟨t,rfl⟩:=r;rfl
  | str _=>obtain⟨t,rfl⟩:=r;rfl
  | byt _=>obtain⟨t,rfl⟩:=r;rfl
  | flt _=>obtain⟨t,rfl⟩:=r;rfl
  | ref _=>cases r;rfl
  | ty _=>cases r;rfl
theorem RelV.inj {x y:V}{u:Value}(r:RelV x u) (q:RelV y u):x=y:=Option.some.inj (r.abs.symm.trans q.abs)
theorem Vals.inj:∀ {xs ys:List V}{us:List Value},Vals xs us→Vals ys us→xs=ys
  | _,_,_,.nil,.nil=>rfl
  | _,_,_,.cons r t,.cons r' t'=>by rw[r.inj r',Vals.inj t t']
section
variable {X:Cx}{pins:List (Addr × Obj)}{σ:St}{H:Hp}{s:Shared}{a:Addr}{xs ys:List V}
theorem SqL.of {K:PySem.W.Frag}(h:H a=some (.lst xs)):SqL K H a xs:=.inl (.inl h)
theorem SqT.of {K:PySem.W.Frag}(h:H a=some (.tup xs)):SqT K H a xs:=.inl (.inl h)
theorem Inv.list (I:Inv X pins σ H s) (h:SqL X.K H a xs):∃ its:List Value,Vals xs its∧PlainL s.heap a its.toArray∧xs.length≤sizeLine:=by
  rcases h with h|⟨o,its,n,hk,hc,hd,hs,hz,r⟩
  · obtain⟨z,its,n,r,e⟩:=h.ok I.hok
    exact⟨its,r,⟨_,n,e,rfl,rfl,rfl⟩,z⟩
  · refine⟨its.toList,r,⟨o,n,I.kIn a o hk,hc,hd,by simpa using hs⟩,?_⟩
    have e:=r.length
    simp only[Array.length_toList]at e
    omega
theorem Inv.tuple (I:Inv X pins σ H s) (h:SqT X.K H a xs):∃ its:List Value,Vals xs its∧IsTup s.heap a its.toArray∧xs.length≤sizeLine:=by
  rcases h with h|⟨o,its,n,hk,hc,hs,hz,r⟩
  · obtain⟨z,its,r,p⟩:=h.ok I.hok
    exact⟨its,r,p.tup,z⟩
  · refine⟨its.toList,r,⟨o,I.kIn a o hk,hc,n,by simpa using hs⟩,?_⟩
    have e:=r.length
    simp only[Array.length_toList]at e
    omega
theorem Inv.list_inj (I:Inv X pins σ H s) (h:SqL X.K H a xs) (h':SqL X.K H a ys):xs=ys:=by
  obtain⟨its,r,⟨o,n,e,_,_,d⟩,_⟩:=I.list h
  obtain⟨its',r',⟨o',n',e',_,_,d'⟩,_⟩:=I.list h'
  rw[e]at e';cases e'
  rw[d]at d'
  injection d' with d1 _
  have:its=its':=by simpa using congrArg Array.toList d1
  subst this
  exact r.inj r'
theorem Inv.tuple_inj (I:Inv X pins σ H s) (h:SqT X.K H a xs) (h':SqT X.K H a ys):xs=ys:=by
  obtain⟨its,r,⟨o,e,_,n,d⟩,_⟩:=I.tuple h
  obtain⟨its',r',⟨o',e',_,n',d'⟩,_⟩:=I.tuple h'
  rw[e]at e';cases e'
  rw[d]at d'
  injection d' with d1 _
  have:its=its':=by simpa using congrArg Array.toList d1
  subst this
  exact r.inj r'
end
abbrev Cx.wish (X:Cx) (E:Value→Shared→Prop):Cx:={ X with xe:=E }
abbrev Cx.nox (X:Cx):Cx:=X.wish fun _ _=>False
theorem Cx.Ok.wish {X:Cx}(ok:X.Ok) (E:Value→Shared→Prop):(X.wish E).Ok :=
  ⟨ok.mod,ok.kind,ok.glob,ok.blt,ok.above,ok.inj,ok.has,ok.cab,ok.hd,ok.frames,ok.stk,ok.exf,ok.bs,ok.bsz,ok.noex,ok.exfs,ok.funs,ok.frf⟩
theorem Cx.Ok.unwish {X:Cx}{E:Value→Shared→Prop}(ok:(X.wish E).Ok):X.Ok :=
  ⟨ok.mod,ok.kind,ok.glob,ok.blt,ok.above,ok.inj,ok.has,ok.cab,ok.hd,ok.frames,ok.stk,ok.exf,ok.bs,ok.bsz,ok.noex,ok.exfs,ok.funs,ok.frf⟩
section
variable {X:Cx}{pins:List (Addr × Obj)}{σ:St}{H:Hp}{s:Shared}{E:Value→Shared→Prop}
theorem Inv.wish (I:Inv X pins σ H s) (E:Value→Shared→Prop):Inv (X.wish E) pins σ H s:=⟨I.ok.wish E,I.os,I.bare,I.base,I.loc,I.cell,I.free,I.freeC,I.pin,I.hok,I.len⟩
theorem Inv.unwish (I:Inv (X.wish E) pins σ H s):Inv X pins σ H s:=⟨I.ok.unwish,I.os,I.bare,I.base,I.loc,I.cell,I.free,I.freeC,I.pin,I.hok,I.len⟩
theorem SP.unwish {D:Ends}{f:Flow}{s':Shared}(h:SP (X.wish E) pins D f s'):SP X pins D f s':=by
  cases f with
  | next=>obtain⟨σ',H',I,q⟩:=h;exact⟨σ',H',I.unwish,q⟩
  | brk=>obtain⟨σ',H',I,q⟩:=h;exact⟨σ',H',I.unwish,q⟩
  | cont=>obtain⟨σ',H',I,q⟩:=h;exact⟨σ',H',I.unwish,q⟩
  | ret u=>obtain⟨v,σ',H',I,r,q⟩:=h;exact⟨v,σ',H',I.unwish,r,q⟩
theorem PSs.nox {st:List Stmt}{t:TS}(h:PSs X.nox st t):PSs X st t:=fun pins s σ H D I hw =>
  wpAny_mono (h pins s σ H D (I.wish _) hw) (fun _ _ q=>q.unwish) fun _ _ z=>False.elim z
end
section
variable {X:Cx}{st:Stmt}{rest:List Stmt}{t u:TS}{e:Expr}{te:TE}{pos:Pos}
def zlc:TS:=fun D σ H=>D.nx σ H
def tSeq (t u:TS):TS:=fun D σ H=>t { D with nx:=u D } σ H
theorem pss_nil:PSs X [] zlc:=fun _ _ σ H _ I h=>wpAny_execs_nil ⟨σ,H,I,h⟩
theorem pss_cons (h1:PS X st t) (h2:PSs X rest u):PSs X (st::rest) (tSeq t u):=by
  intro pins s σ H D I h
  refine wpAny_execs_cons (thn (h1 pins s σ H { D with nx:=u D } I h) fun f s1 q=>?_)
  cases f with
  | next =>
    obtain⟨σ',H',I',q⟩:=q
    exact h2 pins s1 σ' H' D I' q
  | ret v=>exact q
  | brk=>exact q
  | cont=>exact q
theorem pss_one (h1:PS X st t):PSs X [st] t:=by
  intro pins s σ H D I h
  refine wpAny_execs_cons (thn (h1 pins s σ H D I h) fun f s1 q=>?_)
  cases f with
  | next=>exact wpAny_execs_nil q
  | ret v=>exact q
  | brk=>exact q
  | cont=>exact q
theorem Inv.quiet {pins:List (Addr × Obj)}{σ:St}{H:Hp}{s:Shared}(I:Inv X pins σ H s):interactive X.env=false:=by simp[interactive,I.ok.kind]
def zld (te:TE):TS:=fun D σ H=>te σ H fun _ H1=>D.nx σ H1
theorem ps_expr (he:PE X e te) (hs:swapsWith e none pos.line X.env=pure false:=by rfl):PS X (.Expr e pos) (zld te):=by
  intro pins s σ H D I h
  exact wpAny_Expr_any (thn (he pins s σ H _ I h) fun v s1 ⟨x,H1,I1,r1,q1⟩=>⟨σ,H1,I1,q1⟩) I.quiet hs
def tRet (te:TE):TS:=fun D σ H=>te σ H D.rt
theorem ps_ret (he:PE X e te):PS X (.Return (some e) pos) (tRet te):=by
  intro pins s σ H D I h
  exact wpAny_Return_some (thn (he pins s σ H _ I h) fun v s1 ⟨x,H1,I1,r1,q1⟩=>⟨x,σ,H1,I1,r1,q1⟩)
def tIfS (c:TT) (t u:TS):TS:=fun D σ H=>c σ H fun b H1=>if b=true then t D σ H1 else u D σ H1
theorem ps_if {c:Expr}{a b:List Stmt}{tc:TT}(hc:PT X c tc) (ha:PSs X a t) (hb:PSs X b u):PS X (.If c a b pos) (tIfS tc t u):=by
  intro pins s σ H D I h
  refine wpAny_If (thn (hc pins s σ H _ I h) fun d s1 ⟨H1,I1,q1⟩=>?_)
  cases d with
  | true=>exact ha pins s1 σ H1 D I1 q1
  | false=>exact hb pins s1 σ H1 D I1 q1
end
abbrev TG:=V→St→Hp→(St→Hp→Prop)→Prop
abbrev TGs:=List V→St→Hp→(St→Hp→Prop)→Prop
def PG (X:Cx) (target:Expr) (t:TG):Prop :=
  ∀ (pins:List (Addr × Obj)) (s:Shared) (σ:St) (H:Hp) (v:V) (u:Value) (Q:St→Hp→Prop),Inv X pins σ H s→RelV v u→t v σ H Q →
    wpAny (model X.prog X.w) X.A (assign target X.env u) (fun _ s'=>∃ σ' H',Inv X pins σ' H' s'∧Q σ' H') X.xe s
def PGs (X:Cx) (ts:List Expr) (t:TGs):Prop :=
  ∀ (pins:List (Addr × Obj)) (s:Shared) (σ:St) (H:Hp) (vs:List V) (us:List Value) (Q:St→Hp→Prop),Inv X pins σ H s→Vals vs us→t vs σ H Q →
    wpAny (model X.prog X.w) X.A (assignInOrder ((assignEach ts X.env).map (·.2)) us) (fun _ s'=>∃ σ' H',Inv X pins σ' H' s'∧Q σ' H') X.xe s
abbrev TSet:=V→V→V→Hp→(Hp→Prop)→Prop
def PSet (X:Cx) (t:TSet):Prop :=
  ∀ (pins:List (Addr × Obj)) (s:Shared) (σ:St) (H:Hp) (o i v:V) (ov iv u:Value) (Q:Hp→Prop),Inv X pins σ H s→RelV o ov→RelV i iv→RelV v u→t o i v H Q →
    wpAny (model X.prog X.w) X.A (setItem ov iv u) (fun _ s'=>∃ H',Inv X pins σ H' s'∧Q H') X.xe s
abbrev TIp:=V→V→Hp→VK→Prop
def PIp (X:Cx) (op:Operator) (t:TIp):Prop :=
  ∀ (pins:List (Addr × Obj)) (s:Shared) (σ:St) (H:Hp) (x y:V) (v u:Value) (Q:VK),Inv X pins σ H s→RelV x v→RelV y u→t x y H Q →
    wpAny (model X.prog X.w) X.A (inplaceOp op v u) (EP X pins σ Q) X.xe s
section
variable {X:Cx}{pos:Pos}
def zdw (i:Nat):TG:=fun v σ H Q=>Q (σ.set i (some v)) H
theorem pg_name {i:Nat}{x:Str}(hN:X.N.Nodup) (hi:X.N[i]?=some x) (hx:Loc X.env.scope x) (hf:X.fn x=true∨X.env.scope.names.lookup x=some .local:=by first|exact .inl rfl|exact .inr rfl|assumption):PG X (.Name x pos) (zdw i):=by
  intro pins s σ H v u Q I r h
  exact wpAny_assign_Name (zbC I hN hi hx r (fun s' I'=>⟨_,H,I',h⟩) hf)
def gNil:TGs:=fun vs σ H Q=>vs=[]∧Q σ H
def zhs (t:TG) (u:TGs):TGs:=fun vs σ H Q=>∃ v r,vs=v::r∧t v σ H fun σ' H'=>u r σ' H' Q
theorem pgs_nil:PGs X [] gNil:=by
  intro pins s σ H vs us Q I r h
  obtain⟨e,h⟩:=h
  subst e
  cases r
  exact assignInOrder_nil ⟨σ,H,I,h⟩
theorem pgs_cons {e:Expr}{es:List Expr}{t:TG}{u:TGs}(h1:PG X e t) (h2:PGs X es u)
    (hs:(assignEach (e::es) X.env).map (·.2)=assign e X.env::(assignEach es X.env).map (·.2):=by rfl):PGs X (e::es) (zhs t u):=by
  intro pins s σ H vs us Q I r h
  obtain⟨v,vr,e1,h⟩:=h
  subst e1
  cases r with
  | cons r rr =>
    rw[hs]
    refine assignInOrder_cons (thn (h1 pins s σ H _ _ _ I r h) fun _ s1 ⟨σ1,H1,I1,q1⟩=>?_)
    exact h2 pins s1 σ1 H1 _ _ Q I1 rr q1
def gTup (K:PySem.W.Frag) (n:Nat) (t:TGs):TG:=fun v σ H Q=>∃ a xs,v=.ref a∧SqT K H a xs∧xs.length=n∧t xs σ H Q
theorem pg_tup {es:List Expr}{k:Nat}{t:TGs}{n:Nat}(hc:X.calm=true) (h:PGs X es t)
    (hn:(assignEach es X.env).length=n:=by rfl) (hst:(assignEach es X.env).findIdx? (·.1)=none:=by rfl):PG X (.Tuple es k pos) (gTup X.K n t):=by
  intro pins s σ H v u Q I r hw
  obtain⟨a,xs,e1,hq,hl,hw⟩:=hw
  subst e1
  cases r
  obtain⟨its,rv,ht,hz⟩:=I.tuple hq
  refine assign_Tuple_tuple (I.ok.hd hc) ht (by simp[hn,← hl,rv.length]) hst fun h' hx=>?_
  have I1:Inv X pins σ H { s with heap:=h' }:=I.kept (t':=s.toks) fun b o e=>hx b o (Nat.ne_of_lt (Heap.lt_size e)) e
  exact h pins _ σ H xs _ Q I1 (by simpa using rv) hw
def gSub (to ti:TE) (t:TSet):TG:=fun v σ H Q=>to σ H fun o H1=>ti σ H1 fun i H2=>t o i v H2 fun H3=>Q σ H3
theorem pg_sub {o i:Expr}{to ti:TE}{t:TSet}(ho:PE X o to) (hi:PE X i ti) (hs:PSet X t)
    (ha:∀ v,assign (.Subscript o i pos) X.env v=(do
      let ov ← holding [v] (eval o X.env)
      let iv ← holding [v,ov] (eval i X.env)
      standAt pos
      holding [v,ov,iv] (setItem ov iv v)
      release [v,ov,iv] []):=by intro _;rfl):PG X (.Subscript o i pos) (gSub to ti t):=by
  intro pins s σ H v u Q I r h
  rw[ha]
  refine wpAny_bind (wpAny_holding (thn (ho pins s σ H _ I h) fun ov s1 ⟨x,H1,I1,r1,q1⟩=>?_))
  refine wpAny_bind (wpAny_holding (thn (hi pins s1 σ H1 _ I1 q1) fun iv s2 ⟨y,H2,I2,r2,q2⟩=>?_))
  refine wpAny_bind (wpAny_standAt (wpAny_bind (wpAny_holding (thn (hs pins s2 σ H2 x y v ov iv u _ I2 r1 r2 r q2) fun _ s3 ⟨H3,I3,q3⟩=>?_))))
  exact wpAny_release ⟨σ,H3,I3,q3⟩
def tAsg (te:TE) (g:TG):TS:=fun D σ H=>te σ H fun x H1=>g x σ H1 D.nx
theorem ps_asg {tg e:Expr}{te:TE}{g:TG}(he:PE X e te) (hg:PG X tg g) (hs:swapsWithSole [tg] e pos.line X.env=pure false:=by rfl) (hw:swappedStores [tg] e X.env=pure none:=by rfl)
    (h1:(assignEach [tg] X.env).map (·.2)=[assign tg X.env]:=by rfl):PS X (.Assign [tg] e pos) (tAsg te g):=by
  intro pins s σ H D I h
  refine wpAny_Assign_stores (thn (he pins s σ H _ I h) fun v s1 ⟨x,H1,I1,r1,q1⟩=>?_) hs hw
  rw[h1]
  exact thn (hg pins s1 σ H1 x v _ I1 r1 q1) fun _ s2 q=>q
theorem ps_set {i:Nat}{x:Str}{e:Expr}{te:TE}{pos':Pos}(hN:X.N.Nodup) (hi:X.N[i]?=some x) (hx:Loc X.env.scope x) (he:PE X e te) (hs:swapsWith e (some (.Name x pos')) pos.line X.env=pure false:=by rfl) (hf:X.fn x=true∨X.env.scope.names.lookup x=some .local:=by first|exact .inl rfl|exact .inr rfl|assumption) :
    PS X (.Assign [.Name x pos'] e pos) (tAsg te (zdw i)):=by
  intro pins s σ H D I h
  refine wpAny_Assign_Name (thn (he pins s σ H _ I h) fun v s1 ⟨y,H1,I1,r1,q1⟩=>?_) hs
  exact zbC I1 hN hi hx r1 (fun s2 I2=>⟨_,H1,I2,q1⟩) hf
def tPar (i j:Nat) (ta:TA):TS:=fun D σ H=>ta σ H fun vs H1=>∃ v w,vs=[v,w]∧D.nx ((σ.set i (some v)).set j (some w)) H1
theorem zkw {i j:Nat}{x y:Str}{a b:Expr}{ta:TA}{px py pt:Pos}{kt k2 pt2} (hc:X.calm=true) (hN:X.N.Nodup) (hi:X.N[i]?=some x) (hj:X.N[j]?=some y) (hij:i≠j)
    (hx:X.env.scope.names.lookup x=some .local) (hy:X.env.scope.names.lookup y=some .local) (ha:PA X [a,b] ta)
    (hw:swappedStores [.Tuple [.Name x px,.Name y py] kt pt] (.Tuple [a,b] k2 pt2) X.env=pure (some [x,y]))
    (hs:swapsWithSole [.Tuple [.Name x px,.Name y py] kt pt] (.Tuple [a,b] k2 pt2) pos.line X.env=pure false:=by rfl) :
    PS X (.Assign [.Tuple [.Name x px,.Name y py] kt pt] (.Tuple [a,b] k2 pt2) pos) (tPar i j ta):=by
  intro pins s σ H D I h
  rw[exec_Assign_arm]
  refine wpAny_bind (wpAny_standAt ?_)
  rw[hs]
  refine wpAny_bind (wpAny_pure ?_)
  rw[if_neg (by decide)]
  refine wpAny_bind (Tuple_ (thn (ha _ pins s σ H _ I h) fun us s1 ⟨vs,H1,I1,r1,q1⟩=>?_))
  obtain⟨v,w,e1,q1⟩:=q1
  subst e1
  obtain⟨u1,u2,rfl,rv,rw'⟩:∃ u1 u2,us=[u1,u2]∧RelV v u1∧RelV w u2:=by
    cases r1 with
    | cons p q =>
      cases q with
      | cons p' q' =>
        cases q'
        exact⟨_,_,rfl,p,p'⟩
  refine wpAny_newObj_type ?_ (by show 2≤sizeLine;decide)
  have I2:Inv X pins σ H1 { s1 with heap:=s1.heap.push { cls:=.type "tuple",data:=.seq [u1,u2].toArray } }:=I1.kept (t':=s1.toks) fun b o e=>Heap.get?_push_of_some _ e
  rw[hw]
  refine wpAny_bind (wpAny_pure ?_)
  show wpAny (model X.prog X.w) X.A (do rule "assign.swapped-stores";let items ← unpackItems (.ref s1.heap.objs.size) 2 none;assignInOrder [fun v=>bindName X.env y v,fun v=>bindName X.env x v] items.reverse;pure Flow.next) _ _ _
  refine wpAny_bind (wpAny_rule (wpAny_bind (unpackItems_tuple (items:=#[u1,u2]) (I.ok.hd hc) (IsTup.new s1.heap _) fun h' hx'=>?_)))
  have I3:=I2.kept (h':=h') (t':=s1.toks) fun b o e=>hx' b o (Nat.ne_of_lt (Heap.lt_size e)) e
  show wpAny _ _ (assignInOrder [fun v=>bindName X.env y v,fun v=>bindName X.env x v] [u2,u1] >>= fun _=>pure Flow.next) _ _ _
  refine wpAny_bind (assignInOrder_cons (wpAny_bindName (zbC I3 hN hj (.inl hy) rw' (fun s2 I4=>?_) (.inr hy))))
  refine assignInOrder_cons (wpAny_bindName (zbC I4 hN hi (.inl hx) rv (fun s3 I5=>assignInOrder_nil (wpAny_pure ?_)) (.inr hx)))
  rw[List.set_comm _ _ (Ne.symm hij)]at I5
  exact⟨_,H1,I5,q1⟩
def tAug (i:Nat) (te:TE) (ti:TIp):TS:=fun D σ H=>∃ x,σ[i]?=some (some x)∧te σ H fun y H1=>ti x y H1 fun z H2=>D.nx (σ.set i (some z)) H2
theorem ziL {i:Nat}{x:Str}{e:Expr}{te:TE}{op:Operator}{ti:TIp}{pos':Pos}(hN:X.N.Nodup) (hi:X.N[i]?=some x) (hx:Loc X.env.scope x) (he:PE X e te) (ho:PIp X op ti) (hf:X.fn x=true∨X.env.scope.names.lookup x=some .local:=by first|exact .inl rfl|exact .inr rfl|assumption) :
    PS X (.AugAssign (.Name x pos') op e pos) (tAug i te ti):=by
  intro pins s σ H D I h
  obtain⟨v,e1,h⟩:=h
  obtain⟨m,hn,hl⟩:=I.loc
  have vis:Vis X.env.scope x:=by rcases hx with k|k;exact .inl k;exact .inr (.inl k)
  obtain⟨u,r,l⟩:=hl i x v hi e1 vis
  refine wpAny_AugAssign_Name ?_
  have go:wpAny (model X.prog X.w) X.A (eval e X.env) (fun w s₂=>wpAny (model X.prog X.w) X.A (inplaceOp op u w) (fun r s₃=>wpAny (model X.prog X.w) X.A (storeName X.env x r) (fun _=>SP X pins D .next) X.xe s₃) X.xe s₂) X.xe s:=by
    refine thn (he pins s σ H _ I h) fun w s1 ⟨y,H1,I1,r1,q1⟩=>?_
    refine thn (ho pins s1 σ H1 v y u w _ I1 r r1 q1) fun z s2 ⟨zv,H2,I2,r2,q2⟩=>?_
    exact zbC I2 hN hi hx r2 (fun s3 I3=>⟨_,H2,I3,q2⟩) hf
  rcases l with ⟨hk,hm⟩|⟨hk,c,hc,hcell⟩
  · exact wpAny_loadName_local I.ok.kind hk hn hm go
  · rcases hk with hk|hk
    · exact wpAny_loadName_cell I.ok.kind hk hc hcell go
    · rcases hx with k|k
      · have:X.env.scope.names.lookup x=some .free:=hk
        rw[k]at this;cases this
      · have:X.env.scope.names.lookup x=some .free:=hk
        rw[k]at this;cases this
def zlg (to ti te:TE) (tget:V→V→Hp→VK→Prop) (tip:TIp) (tset:TSet):TS:=fun D σ H=>to σ H fun o H1=>ti σ H1 fun i H2=>tget o i H2 fun x H3=>te σ H3 fun y H4=>tip x y H4 fun z H5=>tset o i z H5 fun H6=>D.nx σ H6
def PGet (X:Cx) (t:V→V→Hp→VK→Prop):Prop :=
  ∀ (pins:List (Addr × Obj)) (s:Shared) (σ:St) (H:Hp) (o i:V) (ov iv:Value) (Q:VK),Inv X pins σ H s→RelV o ov→RelV i iv→t o i H Q →
    wpAny (model X.prog X.w) X.A (getItem ov iv) (EP X pins σ Q) X.xe s
theorem ps_augS {o i e:Expr}{to ti te:TE}{tget:V→V→Hp→VK→Prop}{tip:TIp}{tset:TSet}{op:Operator}{tpos:Pos}(ho:PE X o to) (hi:PE X i ti) (hg:PGet X tget) (he:PE X e te) (hp:PIp X op tip) (hs:PSet X tset)
    (ha:∀ ov iv new,augStore i ov iv new=(do holding [new,ov,iv] (setItem ov iv new);release [new,ov,iv] [];pure .next):=by intros;rfl):PS X (.AugAssign (.Subscript o i tpos) op e pos) (zlg to ti te tget tip tset):=by
  intro pins s σ H D I h
  refine wpAny_AugAssign_SubscriptAny (thn (ho pins s σ H _ I h) fun ov s1 ⟨x1,H1,I1,r1,q1⟩=>?_) ha
  refine thn (hi pins s1 σ H1 _ I1 q1) fun iv s2 ⟨x2,H2,I2,r2,q2⟩=>?_
  refine thn (hg pins s2 σ H2 x1 x2 ov iv _ I2 r1 r2 q2) fun old s3 ⟨x3,H3,I3,r3,q3⟩=>?_
  refine thn (he pins s3 σ H3 _ I3 q3) fun v s4 ⟨x4,H4,I4,r4,q4⟩=>?_
  refine thn (hp pins s4 σ H4 x3 x4 old v _ I4 r3 r4 q4) fun new s5 ⟨x5,H5,I5,r5,q5⟩=>?_
  exact thn (hs pins s5 σ H5 x1 x2 x5 ov iv new _ I5 r1 r2 r5 q5) fun _ s6 ⟨H6,I6,q6⟩=>⟨σ,H6,I6,q6⟩
def ipI (f:Int→Int→Int):TIp:=fun x y H Q=>∃ i j,x=.int i∧y=.int j∧Q (.int (f i j)) H
theorem ip_add:PIp X .Add (ipI fun i j=>i+j):=by
  intro pins s σ H x y v u Q I r1 r2 h
  obtain⟨i,j,e1,e2,q⟩:=h
  subst e1;subst e2
  obtain⟨t,rfl⟩:=r1
  obtain⟨t',rfl⟩:=r2
  exact iadd_int ⟨.int _,H,I.tok _,⟨_,rfl⟩,q⟩
end
section
variable {X:Cx}{pos:Pos}
def zkj (c:TT) (tb:TS):TS:=fun D σ H=>∃ W:Nat→St→Hp→Prop,(∃ m,W m σ H)∧∀ m σ H,W m σ H →
  c σ H fun b H1=>if b=true then ∃ N:St→Hp→Prop,(∀ σ' H',N σ' H'→∃ m',m'<m∧W m' σ' H')∧tb { D with nx:=N,ct:=N,bk:=D.nx } σ H1 else D.nx σ H1
theorem zdp {c:Expr}{body:List Stmt}{tc:TT}{tb:TS}(hp:PassesOwn (model X.prog X.w) X.A X.env X.xe) (hc:PT X c tc) (hb:PSs X body tb):PS X (.While c body [] pos) (zkj tc tb):=by
  intro pins s σ H D I h
  obtain⟨W,⟨m0,w0⟩,turn⟩:=h
  refine wpAny_While (codeAny_whileLoop (fun n s'=>∃ σ' H',Inv X pins σ' H' s'∧W n σ' H') ?_ m0 ⟨σ,H,I,w0⟩)
  rintro n s1 ⟨σ1,H1,I1,w1⟩
  refine wpAny_passesOwn hp (thn (hc pins s1 σ1 H1 _ I1 (turn n σ1 H1 w1)) fun b s2 ⟨H2,I2,q2⟩=>?_)
  cases b with
  | true =>
    obtain⟨N,hN,q2⟩:=q2
    rw[if_pos rfl]
    refine wpAny_passesOwn hp (thn (hb pins s2 σ1 H2 _ I2 q2) fun f s3 q3=>?_)
    cases f with
    | next =>
      obtain⟨σ3,H3,I3,n3⟩:=q3
      obtain⟨m',hm,w3⟩:=hN σ3 H3 n3
      exact⟨m',hm,σ3,H3,I3,w3⟩
    | cont =>
      obtain⟨σ3,H3,I3,n3⟩:=q3
      obtain⟨m',hm,w3⟩:=hN σ3 H3 n3
      exact⟨m',hm,σ3,H3,I3,w3⟩
    | brk=>exact q3
    | ret v=>exact q3
  | false =>
    rw[if_neg Bool.false_ne_true]
    exact wpAny_execs_nil ⟨σ1,H2,I2,q2⟩
end
structure It where
  go:Nat→Hp→Prop
  yld:Nat→Hp→V→Hp→Prop
  stop:Nat→Hp→Prop
def FpOk (X:Cx) (pins:List (Addr × Obj)) (H:Hp) (b:Addr):Prop :=
  H b=none∧b≠X.env.locals∧b∉X.fs∧(b∈X.ex∨X.s₀.heap.objs.size≤b)∧(∀ x c,X.env.cells.lookup x=some c→c≠b)∧∀ p∈X.pn++pins,p.1≠b
theorem Inv.fpOk {X:Cx}{pins:List (Addr × Obj)}{σ:St}{H H':Hp}{s:Shared}{b:Addr}(I:Inv X pins σ H s) (hb:s.heap.objs.size≤b) (hn:H' b=none):FpOk X pins H' b:=by
  refine⟨hn,Nat.ne_of_gt (Nat.lt_of_lt_of_le I.lt hb),I.nofs hb,.inr (Nat.le_trans I.sz hb),fun x c e z=>?_,fun p hp z=>?_⟩
  · obtain⟨v,q⟩:=I.cell x c e
    exact absurd (Nat.lt_of_lt_of_le q.lt (by rw[z];exact hb)) (Nat.lt_irrefl _)
  · exact absurd (Nat.lt_of_lt_of_le (Heap.lt_size (I.pin p hp).1) (by rw[z];exact hb)) (Nat.lt_irrefl _)
structure Turn (P:Program) (w:World) (K:PySem.W.Frag) (tg:Expr) (J:It) (fp:List Addr) (it:Addr) (tn:Nat→Heap→Prop):Prop where
  mem:it∈fp
  obj:∀ i h,tn i h→∀ b∈fp,∃ o,h.get? b=some o∧∀ v,o.data≠.cell v
  keep:∀ i h h',tn i h→(∀ b∈fp,∀ o,h.get? b=some o→h'.get? b=some o)→tn i h'
  item:∀ (X:Cx),X.prog=P→X.w=w→X.K=K→X.calm=true→∀ (i:Nat) (pins:List (Addr × Obj)) (s:Shared) (σ:St) (H:Hp) (E:Value→Shared→Prop),Inv X pins σ H s→(∀ b∈fp,FpOk X pins H b)→tn i s.heap→J.go i H →
    wpAny (model P w) X.A (pyNext (.ref it)) (fun r s1=>∃ u,r=some u ∧
      wpAny (model P w) X.A (letOwnedTupleGo tg (.ref it) u) (fun _ s2=>∃ x H',Inv X pins σ H' s2∧RelV x u∧J.yld i H x H'∧tn (i+1) s2.heap∧∀ b∈fp,H' b=none) E s1) E s
  done:∀ (X:Cx),X.prog=P→X.w=w→X.K=K→X.calm=true→∀ (i:Nat) (pins:List (Addr × Obj)) (s:Shared) (σ:St) (H:Hp) (E:Value→Shared→Prop),Inv X pins σ H s→(∀ b∈fp,FpOk X pins H b)→tn i s.heap→J.stop i H →
    wpAny (model P w) X.A (pyNext (.ref it)) (fun r s1=>r=none∧Inv X pins σ H s1) E s
  self:∀ (A:Around) (i:Nat) (s:Shared) (Q:Value→Shared→Prop) (E:Value→Shared→Prop),tn i s.heap→Q (.ref it) s→wpAny (model P w) A (pyIter (.ref it)) Q E s
abbrev TI:=St→Hp→(It→Hp→Prop)→Prop
def PIE (X:Cx) (pins:List (Addr × Obj)) (σ:St) (tg:Expr) (R:It→Hp→Prop) (itv:Value) (s2:Shared):Prop :=
  ∃ (it:Addr) (fp:List Addr) (tn:Nat→Heap→Prop) (J:It) (H':Hp),itv=.ref it∧Inv X pins σ H' s2∧Turn X.prog X.w X.K tg J fp it tn∧tn 0 s2.heap∧(∀ b∈fp,FpOk X pins H' b)∧R J H'
def PI (X:Cx) (tg iter:Expr) (wi:TI):Prop :=
  ∀ (pins:List (Addr × Obj)) (s:Shared) (σ:St) (H:Hp) (R:It→Hp→Prop),Inv X pins σ H s→wi σ H R →
    wpAny (model X.prog X.w) X.A (eval iter X.env) (fun v s1=>wpAny (model X.prog X.w) X.A (pyIter v) (PIE X pins σ tg R) X.xe s1) X.xe s
theorem zj5 {M:Model}{A:Around}{E:Value→Shared→Prop}{s:Shared}{tg:Expr}{it:Addr}{u:Value}{o:Obj}{n:String}{vs:Array Value}{Q:Unit→Shared→Prop}(ho:s.heap.get? it=some o) (hc:o.cls=.type n) (hd:o.data=.fields vs)
    (hn:["enumerate","zip","dict_itemiterator","dict_reverseitemiterator","odict_iterator","itertools.zip_longest","itertools.pairwise"].contains n=false) (hQ:Q () s):wpAny M A (letOwnedTupleGo tg (.ref it) u) Q E s:=by
  unfold letOwnedTupleGo
  cases tg<;>first
    | exact wpAny_pure hQ
    | (cases u<;>first
        | exact wpAny_pure hQ
        | (refine wpAny_bind (wpAny_load ho ?_)
           rw[hc,hd]
           show wpAny M A (if (["enumerate","zip","dict_itemiterator","dict_reverseitemiterator","odict_iterator","itertools.zip_longest","itertools.pairwise"].contains n && vs[0]? == some (rawInt _))=true then _ else _) Q E s
           rw[if_neg (by intro h;rw[hn,Bool.false_and]at h;cases h)]
           exact wpAny_pure hQ))
def Itl (K:PySem.W.Frag) (a:Addr):It :=
  ⟨fun i H=>∃ xs x,SqL K H a xs∧xs[i]?=some x,fun i H x H'=>H'=H∧∀ xs,SqL K H a xs→xs[i]?=some x,fun i H=>∃ xs,SqL K H a xs∧xs.length≤i⟩
def Itt (K:PySem.W.Frag) (a:Addr):It :=
  ⟨fun i H=>∃ xs x,SqT K H a xs∧xs[i]?=some x,fun i H x H'=>H'=H∧∀ xs,SqT K H a xs→xs[i]?=some x,fun i H=>∃ xs,SqT K H a xs∧xs.length≤i⟩
def Itr (lo:Int) (n:Nat):It:=⟨fun i _=>i<n,fun i H x H'=>H'=H∧x=.int (lo+i),fun i _=>n≤i⟩
theorem zge {P:Program}{w:World}{K:PySem.W.Frag}{tg:Expr}(a it:Addr):Turn P w K tg (Itl K a) [it] it (fun i h=>h.IsListIter it a i) where
  mem:=by simp
  obj:=fun i h st b hb=>by
    have e:b=it:=by simpa using hb
    subst e
    obtain⟨o,e,c,d⟩:=st
    exact⟨o,e,fun v z=>by rw[d]at z;cases z⟩
  keep:=fun i h h' st k=>st.at fun o e=>k it (by simp) o e
  item:=by
    intro X hP hw hK hc i pins s σ H E I hf st hg
    subst hP hw hK
    obtain⟨xs,x,hq,hx⟩:=hg
    obtain⟨its,rv,p,hz⟩:=I.list hq
    obtain⟨u,hu,ru⟩:=rv.get hx
    obtain⟨f0,f1,f2,f3,f4,f5⟩:=hf it (by simp)
    refine wpAny_pyNext_list_item st p.isList (x:=u) (by simpa using hu) fun h' st' sb=>?_
    have I1:Inv X pins σ H { s with heap:=h' }:=I.turned (t':=s.toks) (fun b o hb e=>(sb.2 b hb).trans e) f0 f1 f3 f4 f5
    obtain⟨o,e,c,d⟩:=id st'
    exact⟨u,rfl,zj5 (s:={ s with heap:=h' }) e c d (by decide) ⟨x,H,I1,ru,⟨rfl,fun ys hy=>by rw[I.list_inj hy hq];exact hx⟩,st',fun b hb=>(hf b hb).1⟩⟩
  done:=by
    intro X hP hw hK hc i pins s σ H E I hf st hg
    subst hP hw hK
    obtain⟨xs,hq,hx⟩:=hg
    obtain⟨its,rv,p,hz⟩:=I.list hq
    obtain⟨f0,f1,f2,f3,f4,f5⟩:=hf it (by simp)
    have hl:=rv.length
    exact wpAny_pyNext_list_end (I.ok.hd hc) st p.isList (by simp;omega) fun h' eb=>⟨rfl,I.turned (t':=s.toks) (fun b o hb e=>eb b o hb e) f0 f1 f3 f4 f5⟩
  self:=fun _ _ _ _ _ st h=>wpAny_pyIter_listiter st h
theorem zfB {P:Program}{w:World}{K:PySem.W.Frag}{tg:Expr}(a it:Addr):Turn P w K tg (Itt K a) [it] it (fun i h=>h.IsTupleIter it a i) where
  mem:=by simp
  obj:=fun i h st b hb=>by
    have e:b=it:=by simpa using hb
    subst e
    obtain⟨o,e,c,d⟩:=st
    exact⟨o,e,fun v z=>by rw[d]at z;cases z⟩
  keep:=fun i h h' st k=>st.at fun o e=>k it (by simp) o e
  item:=by
    intro X hP hw hK hc i pins s σ H E I hf st hg
    subst hP hw hK
    obtain⟨xs,x,hq,hx⟩:=hg
    obtain⟨its,rv,p,hz⟩:=I.tuple hq
    obtain⟨u,hu,ru⟩:=rv.get hx
    obtain⟨f0,f1,f2,f3,f4,f5⟩:=hf it (by simp)
    refine wpAny_pyNext_tuple_item st (show s.heap.IsTuple a its.toArray from p) (x:=u) (by simpa using hu) fun h' st' sb=>?_
    have I1:Inv X pins σ H { s with heap:=h' }:=I.turned (t':=s.toks) (fun b o hb e=>(sb.2 b hb).trans e) f0 f1 f3 f4 f5
    obtain⟨o,e,c,d⟩:=id st'
    exact⟨u,rfl,zj5 (s:={ s with heap:=h' }) e c d (by decide) ⟨x,H,I1,ru,⟨rfl,fun ys hy=>by rw[I.tuple_inj hy hq];exact hx⟩,st',fun b hb=>(hf b hb).1⟩⟩
  done:=by
    intro X hP hw hK hc i pins s σ H E I hf st hg
    subst hP hw hK
    obtain⟨xs,hq,hx⟩:=hg
    obtain⟨its,rv,p,hz⟩:=I.tuple hq
    obtain⟨f0,f1,f2,f3,f4,f5⟩:=hf it (by simp)
    have hl:=rv.length
    exact wpAny_pyNext_tuple_end (I.ok.hd hc) st (show s.heap.IsTuple a its.toArray from p) (by simp;omega) fun h' eb=>⟨rfl,I.turned (t':=s.toks) (fun b o hb e=>eb b o hb e) f0 f1 f3 f4 f5⟩
  self:=fun _ _ _ _ _ st h=>wpAny_pyIter_tupleiter st h
theorem zfC {P:Program}{w:World}{K:PySem.W.Frag}{tg:Expr}(it:Addr) (lo:Int) (n:Nat):Turn P w K tg (Itr lo n) [it] it (fun i h=>IsRangeIter h it (lo+(i:Nat)*1) ((n:Int)-(i:Nat)) 1) where
  mem:=by simp
  obj:=fun i h st b hb=>by
    have e:b=it:=by simpa using hb
    subst e
    exact⟨_,st,fun v z=>by
      have z':Data.fields _=Data.cell v:=z
      cases z'⟩
  keep:=fun i h h' st k=>k it (by simp) _ st
  item:=by
    intro X hP hw hK hc i pins s σ H E I hf st hg
    subst hP hw hK
    obtain⟨f0,f1,f2,f3,f4,f5⟩:=hf it (by simp)
    have W:=Walks.range (prog:=X.prog) (w:=X.w) (I.ok.hd hc) it lo 1 n
    refine W.item i s _ _ hg st fun v h' tk hv st' kk=>?_
    obtain⟨t,rfl⟩:=hv
    have I1:Inv X pins σ H { s with heap:=h',toks:=tk }:=I.turned (fun b o hb e=>kk b o (by simpa using hb) e) f0 f1 f3 f4 f5
    refine⟨_,rfl,zj5 (s:={ s with heap:=h',toks:=tk }) (n:="range_iterator") st' rfl rfl (by decide) ⟨.int (lo+i),H,I1,⟨t,?_⟩,⟨rfl,rfl⟩,st',fun b hb=>(hf b hb).1⟩⟩
    rw[Int.mul_one]
  done:=by
    intro X hP hw hK hc i pins s σ H E I hf st hg
    subst hP hw hK
    obtain⟨f0,f1,f2,f3,f4,f5⟩:=hf it (by simp)
    exact wpAny_pyNext_range_end (I.ok.hd hc) st (by have:n≤i:=hg;omega) fun h' eb=>⟨rfl,I.turned (t':=s.toks) (fun b o hb e=>eb b o hb e) f0 f1 f3 f4 f5⟩
  self:=fun _ _ _ _ _ st h=>wpAny_pyIter_rangeiter st h
section
variable {X:Cx}{tg:Expr}
def zlv (K:PySem.W.Frag) (tl:TE):TI:=fun σ H R=>tl σ H fun x H1=>∃ a,x=.ref a∧(∃ xs,SqL K H1 a xs)∧R (Itl K a) H1
def iTup (K:PySem.W.Frag) (tl:TE):TI:=fun σ H R=>tl σ H fun x H1=>∃ a,x=.ref a∧(∃ xs,SqT K H1 a xs)∧R (Itt K a) H1
theorem pi_list {l:Expr}{tl:TE}(hl:PE X l tl):PI X tg l (zlv X.K tl):=by
  intro pins s σ H R I h
  refine thn (hl pins s σ H _ I h) fun v s1 ⟨x,H1,I1,r1,q1⟩=>?_
  obtain⟨a,e,⟨xs,hq⟩,q⟩:=q1
  subst e
  cases r1
  obtain⟨its,rv,p,hz⟩:=I1.list hq
  refine wpAny_pyIter_list p.isList ?_
  refine⟨s1.heap.objs.size,[s1.heap.objs.size],_,_,H1,rfl,I1.kept (t':=s1.toks) fun b o e=>Heap.get?_push_of_some _ e,zge a _,⟨_,Heap.get?_push_size _ rfl,rfl,rfl⟩,fun b hb=>?_,q⟩
  have e:b=s1.heap.objs.size:=by simpa using hb
  subst e
  exact I1.fpOk (Nat.le_refl _) (I1.hok.fresh (Nat.le_refl _))
theorem zb9 {l:Expr}{tl:TE}(hl:PE X l tl):PI X tg l (iTup X.K tl):=by
  intro pins s σ H R I h
  refine thn (hl pins s σ H _ I h) fun v s1 ⟨x,H1,I1,r1,q1⟩=>?_
  obtain⟨a,e,⟨xs,hq⟩,q⟩:=q1
  subst e
  cases r1
  obtain⟨its,rv,p,hz⟩:=I1.tuple hq
  refine wpAny_pyIter_tuple (show s1.heap.IsTuple a its.toArray from p) ?_
  refine⟨s1.heap.objs.size,[s1.heap.objs.size],_,_,H1,rfl,I1.kept (t':=s1.toks) fun b o e=>Heap.get?_push_of_some _ e,zfB a _,⟨_,Heap.get?_push_size _ rfl,rfl,rfl⟩,fun b hb=>?_,q⟩
  have e:b=s1.heap.objs.size:=by simpa using hb
  subst e
  exact I1.fpOk (Nat.le_refl _) (I1.hok.fresh (Nat.le_refl _))
theorem zhW {pins:List (Addr × Obj)}{σ:St}{H:Hp}{s:Shared}{R:It→Hp→Prop}{E:Value→Shared→Prop}{lo hi:Int}{t u v:Tok}{tk:Nat}(I:Inv X pins σ H s) (h1:-(2 ^ 62)≤lo) (h2:lo<2 ^ 62) (h3:-(2 ^ 62)≤hi) (h4:hi<2 ^ 62)
    (q:R (Itr lo (hi-lo).toNat) H):wpAny (model X.prog X.w) X.A (pyIter (.ref s.heap.objs.size)) (PIE X pins σ tg R) E { s with heap:=s.heap.push { cls:=.type "range",data:=.fields #[.int lo t,.int hi u,.int 1 v] },toks:=tk }:=by
  refine wpAny_pyIter_range (IsRange.new ..) (small_one h1 h2 h3 h4) ?_
  have I1:Inv X pins σ H { s with heap:=s.heap.push { cls:=.type "range",data:=.fields #[.int lo t,.int hi u,.int 1 v] },toks:=tk }:=I.kept fun b o e=>Heap.get?_push_of_some _ e
  refine⟨(s.heap.push { cls:=.type "range",data:=.fields #[.int lo t,.int hi u,.int 1 v] }).objs.size,[(s.heap.push { cls:=.type "range",data:=.fields #[.int lo t,.int hi u,.int 1 v] }).objs.size],_,_,H,rfl,
    I1.kept (t':=tk) fun b o e=>Heap.get?_push_of_some _ e,zfC _ lo (hi-lo).toNat,?_,fun b hb=>?_,q⟩
  · have e1:lo+((0:Nat):Int)*1=lo:=by simp
    have e2:(((hi-lo).toNat:Nat):Int)-((0:Nat):Int)=Builtin.Range.rangeSize lo hi 1:=by rw[rangeSize_one];split<;>omega
    show IsRangeIter _ _ (lo+((0:Nat):Int)*1) ((((hi-lo).toNat:Nat):Int)-((0:Nat):Int)) 1
    rw[e1,e2]
    exact Heap.get?_push_size _ rfl
  · have e:b=(s.heap.push { cls:=.type "range",data:=.fields #[.int lo t,.int hi u,.int 1 v] }).objs.size:=by simpa using hb
    subst e
    exact I1.fpOk (Nat.le_refl _) (I1.hok.fresh (Nat.le_refl _))
def zlu (ta:TA):TI:=fun σ H R=>ta σ H fun vs H1=>∃ j:Int,vs=[.int j]∧-(2 ^ 62)≤j∧j<2 ^ 62∧R (Itr 0 j.toNat) H1
theorem pi_range1 {a:Expr}{ta:TA}{p pos:Pos}(hg:Gl X "range") (hm:X.mg "range" = none) (ha:PA X [a] ta) (hs:starEach [a] X.env=[(false,eval a X.env)]:=by rfl):PI X tg (.Call (.Name "range" p) [a] [] pos) (zlu ta):=by
  intro pins s σ H R I h
  refine Call_ (zbd I hg hm boot_range (PyProof.Rows.callWith_type1 (thn (ha pos pins s σ H _ I h) fun us s1 ⟨vs,H1,I1,r1,q1⟩=>?_) hs rfl))
  obtain⟨j,e,q1,q2,q⟩:=q1
  subst e
  cases r1 with
  | cons r rr =>
    cases rr
    obtain⟨t,rfl⟩:=r
    exact call_range_1 (zhW I1 (by omega) (by omega) q1 q2 (by simpa using q))
def tFor (wi:TI) (g:TG) (tb:TS):TS:=fun D σ H=>wi σ H fun J H1=>∃ W:Nat→Nat→St→Hp→Prop,(∃ m,W 0 m σ H1)∧∀ i m σ H,W i m σ H →
  (J.stop i H∧D.nx σ H)∨(J.go i H∧∃ N:St→Hp→Prop,(∀ σ' H',N σ' H'→∃ m',m'<m∧W (i+1) m' σ' H')∧∀ x H',J.yld i H x H'→g x σ H' fun σ2 H2=>tb { D with nx:=N,ct:=N,bk:=D.nx } σ2 H2)
def zb8 (fp:List Addr) (h:Heap):List (Addr × Obj):=fp.filterMap fun b=>(h.get? b).map fun o=>(b,o)
theorem zaD {fp:List Addr}{h:Heap}{b:Addr}{o:Obj}(hb:b∈fp) (e:h.get? b=some o):(b,o)∈zb8 fp h:=List.mem_filterMap.mpr ⟨b,hb,by rw[e];rfl⟩
theorem zha {fp:List Addr}{h:Heap}{p:Addr × Obj}(hp:p∈zb8 fp h):p.1∈fp∧h.get? p.1=some p.2:=by
  obtain⟨b,hb,e⟩:=List.mem_filterMap.mp hp
  cases q:h.get? b with
  | none=>rw[q]at e;cases e
  | some o =>
    rw[q]at e
    have e':(b,o)=p:=Option.some.inj e
    subst e'
    exact⟨hb,q⟩
theorem Inv.pinned {pins:List (Addr × Obj)}{σ:St}{H:Hp}{s:Shared}{fp:List Addr}(I:Inv X pins σ H s) (hf:∀ b∈fp,FpOk X pins H b) (ho:∀ b∈fp,∃ o,s.heap.get? b=some o∧∀ v,o.data≠.cell v):Inv X (pins++zb8 fp s.heap) σ H s :=
  I.pins_of fun p hp=>(List.mem_append.mp hp).elim (fun z=>I.pin p (List.mem_append_right _ z)) fun z=>by
    obtain⟨hb,e⟩:=zha z
    obtain⟨f0,f1,f2,_⟩:=hf p.1 hb
    obtain⟨o,e',d⟩:=ho p.1 hb
    rw[e]at e';cases e'
    exact⟨e,f0,f1,f2,d⟩
theorem Inv.unpinned {pins pl:List (Addr × Obj)}{σ:St}{H:Hp}{s:Shared}(I:Inv X (pins++pl) σ H s):Inv X pins σ H s:=I.pins_of fun p hp=>I.pin p (List.mem_append_right _ (List.mem_append_left _ hp))
theorem ps_for {iter:Expr}{body:List Stmt}{wi:TI}{g:TG}{tb:TS}{pos:Pos}(hp:PassesOwn (model X.prog X.w) X.A X.env X.xe) (hc:X.calm=true) (hi:PI X tg iter wi) (hg:PG X tg g) (hb:PSs X body tb)
    (hs:∀ x,foldedSetIterable iter X.env x=pure x:=by intro _;rfl):PS X (.For tg iter body [] pos) (tFor wi g tb):=by
  intro pins s σ H D I h
  refine wpAny_For (thn (hi pins s σ H _ I h) fun v s1 h1=>thn h1 fun itv s2 h2=>?_) hs
  obtain⟨it,fp,tn,J,H2,e,I2,T,st2,f2,W,⟨m0,w0⟩,turn⟩:=h2
  subst e
  have stat:∀ {H':Hp},(∀ b∈fp,H' b=none)→∀ b∈fp,FpOk X pins H' b:=fun hn b hb=>⟨hn b hb,(f2 b hb).2⟩
  refine codeAny_forLoop_any (fun n s'=>∃ i σ' H',Inv X pins σ' H' s'∧tn i s'.heap∧(∀ b∈fp,H' b=none)∧W i n σ' H') ?_ m0 ⟨0,σ,H2,I2,st2,fun b hb=>(f2 b hb).1,w0⟩
  rintro n s3 ⟨i,σ3,H3,I3,st3,fr3,w3⟩
  rcases turn i n σ3 H3 w3 with ⟨stop,qn⟩|⟨go,N,hN,step⟩
  · refine wpAny_passesOwn hp (thn (T.done X rfl rfl rfl hc i pins s3 σ3 H3 X.xe I3 (stat fr3) st3 stop) fun r s4 ⟨hr,I4⟩=>?_)
    subst hr
    exact wpAny_execs_nil ⟨σ3,H3,I4,qn⟩
  · refine wpAny_passesOwn hp (thn (T.item X rfl rfl rfl hc i pins s3 σ3 H3 X.xe I3 (stat fr3) st3 go) fun r s4 ⟨u,hr,h4⟩=>?_)
    subst hr
    refine wpAny_passesOwn hp (thn h4 fun _ s5 ⟨x,H5,I5,r5,y5,st5,fr5⟩=>?_)
    have I5':=I5.pinned (stat fr5) (T.obj _ _ st5)
    refine wpAny_passesOwn hp (thn (hg _ s5 σ3 H5 x u _ I5' r5 (step x H5 y5)) fun _ s6 ⟨σ6,H6,I6,q6⟩=>?_)
    refine wpAny_passesOwn hp (thn (hb _ s6 σ6 H6 _ I6 q6) fun f s7 q7=>?_)
    have again:∀ {σ7:St}{H7:Hp},Inv X (pins++zb8 fp s5.heap) σ7 H7 s7→N σ7 H7→∃ m,m<n∧∃ i σ' H',Inv X pins σ' H' s7∧tn i s7.heap∧(∀ b∈fp,H' b=none)∧W i m σ' H':=fun {σ7 H7} I7 n7=>by
      obtain⟨m',hm,w7⟩:=hN σ7 H7 n7
      refine⟨m',hm,i+1,σ7,H7,I7.unpinned,T.keep _ _ _ st5 fun b hb o e=>(I7.pin (b,o) (List.mem_append_right _ (List.mem_append_right _ (zaD hb e)))).1,fun b hb=>?_,w7⟩
      obtain⟨o,e,d⟩:=T.obj _ _ st5 b hb
      exact(I7.pin (b,o) (List.mem_append_right _ (List.mem_append_right _ (zaD hb e)))).2.1
    cases f with
    | next=>obtain⟨σ7,H7,I7,n7⟩:=q7;exact again I7 n7
    | cont=>obtain⟨σ7,H7,I7,n7⟩:=q7;exact again I7 n7
    | brk=>obtain⟨σ7,H7,I7,q7⟩:=q7;exact⟨σ7,H7,I7.unpinned,q7⟩
    | ret v=>obtain⟨x7,σ7,H7,I7,r7,q7⟩:=q7;exact⟨x7,σ7,H7,I7.unpinned,r7,q7⟩
end
theorem zfq {K:PySem.W.Frag}{a:Addr}{xs:List V}{g:TG}{tb:TS}{D:Ends}{σ:St}{H:Hp}(Pv:Nat→St→Hp→Prop) (h0:Pv 0 σ H) (hl:∀ i σ H,i≤xs.length→Pv i σ H→SqL K H a xs)
    (hs:∀ i x σ H,xs[i]?=some x→Pv i σ H→g x σ H fun σ2 H2=>tb { D with nx:=Pv (i+1),ct:=Pv (i+1),bk:=D.nx } σ2 H2) (hd:∀ σ H,Pv xs.length σ H→D.nx σ H) :
    ∃ W:Nat→Nat→St→Hp→Prop,(∃ m,W 0 m σ H)∧∀ i m σ H,W i m σ H →
      ((Itl K a).stop i H∧D.nx σ H)∨((Itl K a).go i H∧∃ N:St→Hp→Prop,(∀ σ' H',N σ' H'→∃ m',m'<m∧W (i+1) m' σ' H')∧∀ x H',(Itl K a).yld i H x H'→g x σ H' fun σ2 H2=>tb { D with nx:=N,ct:=N,bk:=D.nx } σ2 H2):=by
  refine⟨fun i m σ H=>m=xs.length-i∧i≤xs.length∧Pv i σ H,⟨xs.length,by simp,Nat.zero_le _,h0⟩,?_⟩
  rintro i m σ H ⟨rfl,hi,p⟩
  have q:=hl i σ H hi p
  by_cases hlt:i<xs.length
  · refine .inr ⟨⟨xs,xs[i],q,by simp[hlt]⟩,Pv (i+1),fun σ' H' p'=>⟨xs.length-(i+1),by omega,rfl,hlt,p'⟩,fun x H' y=>?_⟩
    obtain⟨e,y⟩:=y
    subst e
    exact hs i x σ _ (y xs q) p
  · have e:i=xs.length:=by omega
    subst e
    exact .inl ⟨⟨xs,q,Nat.le_refl _⟩,hd σ H p⟩
theorem zeU {K:PySem.W.Frag}{a:Addr}{xs:List V}{g:TG}{tb:TS}{D:Ends}{σ:St}{H:Hp}(Pv:Nat→St→Hp→Prop) (h0:Pv 0 σ H) (hl:∀ i σ H,i≤xs.length→Pv i σ H→SqT K H a xs)
    (hs:∀ i x σ H,xs[i]?=some x→Pv i σ H→g x σ H fun σ2 H2=>tb { D with nx:=Pv (i+1),ct:=Pv (i+1),bk:=D.nx } σ2 H2) (hd:∀ σ H,Pv xs.length σ H→D.nx σ H) :
    ∃ W:Nat→Nat→St→Hp→Prop,(∃ m,W 0 m σ H)∧∀ i m σ H,W i m σ H →
      ((Itt K a).stop i H∧D.nx σ H)∨((Itt K a).go i H∧∃ N:St→Hp→Prop,(∀ σ' H',N σ' H'→∃ m',m'<m∧W (i+1) m' σ' H')∧∀ x H',(Itt K a).yld i H x H'→g x σ H' fun σ2 H2=>tb { D with nx:=N,ct:=N,bk:=D.nx } σ2 H2):=by
  refine⟨fun i m σ H=>m=xs.length-i∧i≤xs.length∧Pv i σ H,⟨xs.length,by simp,Nat.zero_le _,h0⟩,?_⟩
  rintro i m σ H ⟨rfl,hi,p⟩
  have q:=hl i σ H hi p
  by_cases hlt:i<xs.length
  · refine .inr ⟨⟨xs,xs[i],q,by simp[hlt]⟩,Pv (i+1),fun σ' H' p'=>⟨xs.length-(i+1),by omega,rfl,hlt,p'⟩,fun x H' y=>?_⟩
    obtain⟨e,y⟩:=y
    subst e
    exact hs i x σ _ (y xs q) p
  · have e:i=xs.length:=by omega
    subst e
    exact .inl ⟨⟨xs,q,Nat.le_refl _⟩,hd σ H p⟩
theorem zaT {lo:Int}{n:Nat}{g:TG}{tb:TS}{D:Ends}{σ:St}{H:Hp}(Pv:Nat→St→Hp→Prop) (h0:Pv 0 σ H)
    (hs:∀ i σ H,i<n→Pv i σ H→g (.int (lo+i)) σ H fun σ2 H2=>tb { D with nx:=Pv (i+1),ct:=Pv (i+1),bk:=D.nx } σ2 H2) (hd:∀ σ H,Pv n σ H→D.nx σ H) :
    ∃ W:Nat→Nat→St→Hp→Prop,(∃ m,W 0 m σ H)∧∀ i m σ H,W i m σ H →
      ((Itr lo n).stop i H∧D.nx σ H)∨((Itr lo n).go i H∧∃ N:St→Hp→Prop,(∀ σ' H',N σ' H'→∃ m',m'<m∧W (i+1) m' σ' H')∧∀ x H',(Itr lo n).yld i H x H'→g x σ H' fun σ2 H2=>tb { D with nx:=N,ct:=N,bk:=D.nx } σ2 H2):=by
  refine⟨fun i m σ H=>m=n-i∧i≤n∧Pv i σ H,⟨n,by simp,Nat.zero_le _,h0⟩,?_⟩
  rintro i m σ H ⟨rfl,hi,p⟩
  by_cases hlt:i<n
  · refine .inr ⟨hlt,Pv (i+1),fun σ' H' p'=>⟨n-(i+1),by omega,rfl,hlt,p'⟩,fun x H' y=>?_⟩
    obtain⟨e,y⟩:=y
    subst e y
    exact hs i σ _ hlt p
  · have e:i=n:=by omega
    subst e
    exact .inl ⟨Nat.le_refl _,hd σ H p⟩
abbrev R2:=V→V→Hp→VK→Prop
def OpR (X:Cx) (f:Value→Value→Sem Value) (r:R2):Prop :=
  ∀ (pins:List (Addr × Obj)) (s:Shared) (σ:St) (H:Hp) (x y:V) (v u:Value) (Q:VK),Inv X pins σ H s→RelV x v→RelV y u→r x y H Q →
    wpAny (model X.prog X.w) X.A (f v u) (EP X pins σ Q) X.xe s
def UnR (X:Cx) (f:Value→Sem Value) (r:V→Hp→VK→Prop):Prop :=
  ∀ (pins:List (Addr × Obj)) (s:Shared) (σ:St) (H:Hp) (x:V) (v:Value) (Q:VK),Inv X pins σ H s→RelV x v→r x H Q →
    wpAny (model X.prog X.w) X.A (f v) (EP X pins σ Q) X.xe s
def CallR (X:Cx) (f:Value) (r:List V→Hp→VK→Prop):Prop :=
  ∀ (pins:List (Addr × Obj)) (s:Shared) (σ:St) (H:Hp) (xs:List V) (us:List Value) (Q:VK),Inv X pins σ H s→Vals xs us→r xs H Q →
    wpAny (model X.prog X.w) X.A (call f us) (EP X pins σ Q) X.xe s
def TruR (X:Cx) (r:V→Hp→(Bool→Hp→Prop)→Prop):Prop :=
  ∀ (pins:List (Addr × Obj)) (s:Shared) (σ:St) (H:Hp) (x:V) (v:Value) (Q:Bool→Hp→Prop),Inv X pins σ H s→RelV x v→r x H Q →
    wpAny (model X.prog X.w) X.A (truthy v) (TP X pins σ Q) X.xe s
def tOp (r:R2) (ta tb:TE):TE:=fun σ H Q=>ta σ H fun x H1=>tb σ H1 fun y H2=>r x y H2 Q
def tUn (r:V→Hp→VK→Prop) (ta:TE):TE:=fun σ H Q=>ta σ H fun x H1=>r x H1 Q
def rI (C:Int→Int→Prop) (g:Int→Int→V):R2:=fun x y H Q=>∃ i j,x=.int i∧y=.int j∧C i j∧Q (g i j) H
def rI0 (g:Int→Int→V):R2:=fun x y H Q=>∃ i j,x=.int i∧y=.int j∧Q (g i j) H
def rU (g:Int→V):V→Hp→VK→Prop:=fun x H Q=>∃ i,x=.int i∧Q (g i) H
section
variable {X:Cx}{a b c:Expr}{ta tb tc:TE}{pos:Pos}
theorem binT (ha:PE X a ta) (hb:PE X b tb) {pins:List (Addr × Obj)}{s:Shared}{σ:St}{H:Hp}{R:V→V→Hp→Prop}(I:Inv X pins σ H s)
    (h:ta σ H fun x H1=>tb σ H1 fun y H2=>R x y H2) {Q:Value→Shared→Prop}{f:Value→Value→Sem Value}
    (hf:∀ v u s2 x y H2,Inv X pins σ H2 s2→RelV x v→RelV y u→R x y H2→wpAny (model X.prog X.w) X.A (f v u) Q X.xe s2) :
    wpAny (model X.prog X.w) X.A (eval a X.env) (fun v s₁=>wpAny (model X.prog X.w) X.A (eval b X.env) (fun u s₂=>wpAny (model X.prog X.w) X.A (f v u) Q X.xe s₂) X.xe s₁) X.xe s:=by
  refine thn (ha pins s σ H _ I h) fun v s1 ⟨x,H1,I1,r1,q1⟩=>?_
  refine thn (hb pins s1 σ H1 _ I1 q1) fun u s2 ⟨y,H2,I2,r2,q2⟩=>?_
  exact hf v u s2 x y H2 I2 r1 r2 q2
theorem pe_op {op:Operator}{r:R2}(ho:OpR X (binaryOp op) r) (ha:PE X a ta) (hb:PE X b tb):PE X (.BinOp a op b pos) (tOp r ta tb):=by
  intro pins s σ H Q I h
  exact wpAny_BinOp (binT ha hb I h fun v u s2 x y H2 I2 rx ry q=>ho pins s2 σ H2 x y v u Q I2 rx ry q)
theorem zgV {op:UnaryOp}{r:V→Hp→VK→Prop}(ho:UnR X (unaryOp op) r) (ha:PE X a ta):PE X (.UnaryOp op a pos) (tUn r ta):=by
  intro pins s σ H Q I h
  exact UnaryOp_ (thn (ha pins s σ H _ I h) fun v s1 ⟨x,H1,I1,r1,q1⟩=>ho pins s1 σ H1 x v Q I1 r1 q1)
theorem opI {f:Value→Value→Sem Value}{C:Int→Int→Prop}{g:Int→Int→Int}
    (rule:∀ (i j:Int) (t u:Tok) (s:Shared) (Q:Value→Shared→Prop) (E:Value→Shared→Prop),C i j→Q (.int (g i j) s.toks) { s with toks:=s.toks+1 }→wpAny (model X.prog X.w) X.A (f (.int i t) (.int j u)) Q E s) :
    OpR X f (rI C fun i j=>.int (g i j)):=by
  intro pins s σ H x y v u Q I rx ry h
  obtain⟨i,j,rfl,rfl,hc,q⟩:=h
  obtain⟨t,rfl⟩:=rx
  obtain⟨t',rfl⟩:=ry
  exact rule i j t t' s _ _ hc ⟨.int (g i j),H,I.tok _,⟨_,rfl⟩,q⟩
theorem opI0 {f:Value→Value→Sem Value}{g:Int→Int→Int}
    (rule:∀ (i j:Int) (t u:Tok) (s:Shared) (Q:Value→Shared→Prop) (E:Value→Shared→Prop),Q (.int (g i j) s.toks) { s with toks:=s.toks+1 }→wpAny (model X.prog X.w) X.A (f (.int i t) (.int j u)) Q E s) :
    OpR X f (rI0 fun i j=>.int (g i j)):=by
  intro pins s σ H x y v u Q I rx ry h
  obtain⟨i,j,rfl,rfl,q⟩:=h
  obtain⟨t,rfl⟩:=rx
  obtain⟨t',rfl⟩:=ry
  exact rule i j t t' s _ _ ⟨.int (g i j),H,I.tok _,⟨_,rfl⟩,q⟩
theorem opB0 {f:Value→Value→Sem Value}{g:Int→Int→Bool}
    (rule:∀ (i j:Int) (t u:Tok) (s:Shared) (Q:Value→Shared→Prop) (E:Value→Shared→Prop),Q (.bool (g i j)) s→wpAny (model X.prog X.w) X.A (f (.int i t) (.int j u)) Q E s) :
    OpR X f (rI0 fun i j=>.bl (g i j)):=by
  intro pins s σ H x y v u Q I rx ry h
  obtain⟨i,j,rfl,rfl,q⟩:=h
  obtain⟨t,rfl⟩:=rx
  obtain⟨t',rfl⟩:=ry
  exact rule i j t t' s _ _ ⟨.bl (g i j),H,I,rfl,q⟩
def CDiv (i j:Int):Prop:=0<j∧j<1073741824
def CPow (i j:Int):Prop:=0≤j∧j≤1000000∧i.natAbs<2 ^ 64
def CMul (i j:Int):Prop:=(-(2 ^ 64)<i∧i<2 ^ 64)∨(-(2 ^ 64)<j∧j<2 ^ 64)
theorem CMul.ok {i j:Int}(h:CMul i j):IntMulOk i j:=by
  rcases h with ⟨h1,h2⟩|⟨h1,h2⟩
  · exact .of_left (intBits_le_64 h1 h2)
  · exact .of_right (intBits_le_64 h1 h2)
theorem op_add:OpR X (binaryOp .Add) (rI0 fun i j=>.int (i+j)):=opI0 fun _ _ _ _ _ _ _ q=>add_int q
theorem op_sub:OpR X (binaryOp .Sub) (rI0 fun i j=>.int (i-j)):=opI0 fun _ _ _ _ _ _ _ q=>sub_int q
theorem op_mul:OpR X (binaryOp .Mult) (rI CMul fun i j=>.int (i*j)):=opI fun _ _ _ _ _ _ _ hc q=>mul_int q hc.ok
theorem op_fdiv:OpR X (binaryOp .FloorDiv) (rI CDiv fun i j=>.int (i / j)):=opI fun i j _ _ _ _ _ hc q=>by
  have h1:(0:Int)<j:=hc.1
  have h2:j<1073741824:=hc.2
  exact floordiv_int (by omega) (by rw[Int.fdiv_eq_ediv_of_nonneg i (by omega)];exact q) (.inl (PyProof.noPylong_small (by omega)))
theorem op_mod:OpR X (binaryOp .Mod) (rI (fun _ j=>0<j) fun i j=>.int (i%j)):=opI fun i j _ _ _ _ _ hc q=>by
  have h1:(0:Int)<j:=hc
  exact mod_int' (by omega) (by rw[Int.fmod_eq_emod_of_nonneg i (by omega)];exact q)
theorem ziN:OpR X (binaryOp .Pow) (rI CPow fun i j=>.int (i ^ j.toNat)):=opI fun _ _ _ _ _ _ _ hc q=>pow_int_small hc.1 hc.2.1 hc.2.2 q
theorem zkB:OpR X (binaryOp .LShift) (rI CPow fun i j=>.int (i*2 ^ j.toNat)):=opI fun _ _ _ _ _ _ _ hc q=>lshift_int_small hc.1 hc.2.1 hc.2.2 q
theorem zj2:OpR X (inplaceOp .Mult) (rI CMul fun i j=>.int (i*j)):=opI fun _ _ _ _ _ _ _ hc q=>imul_int q hc.ok
theorem unI {f:Value→Sem Value}{g:Int→Int}
    (rule:∀ (i:Int) (t:Tok) (s:Shared) (Q:Value→Shared→Prop) (E:Value→Shared→Prop),Q (.int (g i) s.toks) { s with toks:=s.toks+1 }→wpAny (model X.prog X.w) X.A (f (.int i t)) Q E s) :
    UnR X f (rU fun i=>.int (g i)):=by
  intro pins s σ H x v Q I rx h
  obtain⟨i,rfl,q⟩:=h
  obtain⟨t,rfl⟩:=rx
  exact rule i t s _ _ ⟨.int (g i),H,I.tok _,⟨_,rfl⟩,q⟩
theorem zdK:UnR X (unaryOp .USub) (rU fun i=>.int (-i)):=unI fun _ _ _ _ _ q=>neg_int q
end
def scal:V→V→Bool
  | .non,.non=>true|.non,.int _=>true|.int _,.non=>true|.non,.bl _=>true|.bl _,.non=>true|.non,.str _=>true|.str _,.non=>true
  | .int _,.int _=>true|.bl _,.bl _=>true|.str _,.str _=>true|.byt _,.byt _=>true
  | .int _,.str _=>true|.str _,.int _=>true|.bl _,.str _=>true|.str _,.bl _=>true
  | _,_=>false
def rEq:R2:=fun x y H Q=>scal x y=true∧Q (.bl (decide (x=y))) H
def rNe:R2:=fun x y H Q=>scal x y=true∧Q (.bl (!decide (x=y))) H
theorem zhB {i j:Int}:decide (V.int i=V.int j)=(i == j):=by
  rw[Bool.eq_iff_iff]
  simp
theorem ziW {i j:Bool}:decide (V.bl i=V.bl j)=(i == j):=by
  rw[Bool.eq_iff_iff]
  simp
theorem zhA {i j:Str}:decide (V.str i=V.str j)=(i == j):=by
  rw[Bool.eq_iff_iff]
  simp
theorem zhC {i j:Array UInt8}:decide (V.byt i=V.byt j)=(i.toList == j.toList):=by
  rw[Bool.eq_iff_iff]
  cases i
  cases j
  simp
section
variable {X:Cx}{a b c:Expr}{ta tb tc:TE}{pos:Pos}
theorem zao {pins:List (Addr × Obj)}{σ:St}{H:Hp}{s:Shared}{Q:VK}{k k':Bool}(I:Inv X pins σ H s) (q:Q (.bl k) H) (e:k=k'):EP X pins σ Q (.bool k') s:=by
  subst e
  exact⟨.bl k,H,I,rfl,q⟩
theorem op_eq:OpR X (compareOp .Eq) rEq:=by
  intro pins s σ H x y v u Q I rx ry h
  obtain⟨hs,q⟩:=h
  cases x with
  | non =>
    cases rx
    cases y with
    | non=>cases ry;exact PySem.EqNone.eq_none_none (zao I q (by simp))
    | bl j=>cases ry;exact PySem.EqNone.eq_none_bool (zao I q (by simp))
    | int j=>obtain⟨t',rfl⟩:=ry;exact PySem.EqNone.eq_none_int (zao I q (by simp))
    | str j=>obtain⟨t',rfl⟩:=ry;exact PySem.EqNone.eq_none_str (zao I q (by simp))
    | _=>exact absurd (show false=true from hs) Bool.false_ne_true
  | bl i =>
    cases rx
    cases y with
    | non=>cases ry;exact PySem.EqNone.eq_bool_none (zao I q (by simp))
    | bl j=>cases ry;exact eq_bool (zao I q ziW)
    | str j=>obtain⟨t',rfl⟩:=ry;exact PySem.EqMixed.eq_bool_str (zao I q (by simp))
    | _=>exact absurd (show false=true from hs) Bool.false_ne_true
  | int i =>
    obtain⟨t,rfl⟩:=rx
    cases y with
    | non=>cases ry;exact PySem.EqNone.eq_int_none (zao I q (by simp))
    | int j=>obtain⟨t',rfl⟩:=ry;exact eq_int (zao I q zhB)
    | str j=>obtain⟨t',rfl⟩:=ry;exact PySem.EqMixed.eq_int_str (zao I q (by simp))
    | _=>exact absurd (show false=true from hs) Bool.false_ne_true
  | str i =>
    obtain⟨t,rfl⟩:=rx
    cases y with
    | non=>cases ry;exact PySem.EqNone.eq_str_none (zao I q (by simp))
    | bl j=>cases ry;exact PySem.EqMixed.eq_str_bool (zao I q (by simp))
    | int j=>obtain⟨t',rfl⟩:=ry;exact PySem.EqMixed.eq_str_int (zao I q (by simp))
    | str j=>obtain⟨t',rfl⟩:=ry;exact eq_str (zao I q zhA)
    | _=>exact absurd (show false=true from hs) Bool.false_ne_true
  | byt i =>
    obtain⟨t,rfl⟩:=rx
    cases y with
    | byt j=>obtain⟨t',rfl⟩:=ry;exact PySem.W.eq_bytes (zao I q zhC)
    | _=>exact absurd (show false=true from hs) Bool.false_ne_true
  | _=>cases y<;>exact absurd (show false=true from hs) Bool.false_ne_true
theorem zgY:OpR X (compareOp .NotEq) rNe:=by
  intro pins s σ H x y v u Q I rx ry h
  obtain⟨hs,q⟩:=h
  cases x with
  | non =>
    cases rx
    cases y with
    | non=>cases ry;exact PySem.EqNone.ne_none_none (zao I q (by simp))
    | bl j=>cases ry;exact PySem.EqNone.ne_none_bool (zao I q (by simp))
    | int j=>obtain⟨t',rfl⟩:=ry;exact PySem.EqNone.ne_none_int (zao I q (by simp))
    | str j=>obtain⟨t',rfl⟩:=ry;exact PySem.EqNone.ne_none_str (zao I q (by simp))
    | _=>exact absurd (show false=true from hs) Bool.false_ne_true
  | bl i =>
    cases rx
    cases y with
    | non=>cases ry;exact PySem.EqNone.ne_bool_none (zao I q (by simp))
    | bl j=>cases ry;exact ne_bool (zao I q (congrArg not ziW))
    | str j=>obtain⟨t',rfl⟩:=ry;exact PySem.EqMixed.ne_bool_str (zao I q (by simp))
    | _=>exact absurd (show false=true from hs) Bool.false_ne_true
  | int i =>
    obtain⟨t,rfl⟩:=rx
    cases y with
    | non=>cases ry;exact PySem.EqNone.ne_int_none (zao I q (by simp))
    | int j=>obtain⟨t',rfl⟩:=ry;exact ne_int (zao I q (congrArg not zhB))
    | str j=>obtain⟨t',rfl⟩:=ry;exact PySem.EqMixed.ne_int_str (zao I q (by simp))
    | _=>exact absurd (show false=true from hs) Bool.false_ne_true
  | str i =>
    obtain⟨t,rfl⟩:=rx
    cases y with
    | non=>cases ry;exact PySem.EqNone.ne_str_none (zao I q (by simp))
    | bl j=>cases ry;exact PySem.EqMixed.ne_str_bool (zao I q (by simp))
    | int j=>obtain⟨t',rfl⟩:=ry;exact PySem.EqMixed.ne_str_int (zao I q (by simp))
    | str j=>obtain⟨t',rfl⟩:=ry;exact ne_str (zao I q (congrArg not zhA))
    | _=>exact absurd (show false=true from hs) Bool.false_ne_true
  | byt i =>
    obtain⟨t,rfl⟩:=rx
    cases y with
    | byt j=>obtain⟨t',rfl⟩:=ry;exact PySem.W.ne_bytes (zao I q (congrArg not zhC))
    | _=>exact absurd (show false=true from hs) Bool.false_ne_true
  | _=>cases y<;>exact absurd (show false=true from hs) Bool.false_ne_true
theorem zcN:OpR X (compareOp .Lt) (rI0 fun i j=>.bl (decide (i<j))):=opB0 fun _ _ _ _ _ _ _ q=>lt_int q
theorem zln:OpR X (compareOp .LtE) (rI0 fun i j=>.bl (decide (i≤j))):=opB0 fun _ _ _ _ _ _ _ q=>le_int q
theorem op_gt:OpR X (compareOp .Gt) (rI0 fun i j=>.bl (decide (j<i))):=opB0 fun _ _ _ _ _ _ _ q=>gt_int q
theorem zh4:OpR X (compareOp .GtE) (rI0 fun i j=>.bl (decide (j≤i))):=opB0 fun _ _ _ _ _ _ _ q=>ge_int q
theorem nomark (b:Expr) {op:CmpOp}(h:op≠.In:=by decide) (h2:op≠.NotIn:=by decide):behindInMarks op b=false:=by
  have e1:(op == CmpOp.In)=false:=by cases op<;>first|rfl|exact absurd rfl h
  have e2:(op == CmpOp.NotIn)=false:=by cases op<;>first|rfl|exact absurd rfl h2
  cases b<;>simp[behindInMarks,e1,e2]
theorem zaS {op:CmpOp}{r:R2}(ho:OpR X (compareOp op) r) (ha:PE X a ta) (hb:PE X b tb) (hm:behindInMarks op b=false):PE X (.Compare a [op] [b] pos) (tOp r ta tb):=by
  intro pins s σ H Q I h
  exact wpAny_Compare1 (binT ha hb I h fun v u s2 x y H2 I2 rx ry q=>ho pins s2 σ H2 x y v u Q I2 rx ry q) hm
def zk9 (t:TE):TT:=fun σ H Q=>t σ H fun x H'=>∃ k,x=.bl k∧Q k H'
theorem pt_cmpR {op:CmpOp}{r:R2}(ho:OpR X (compareOp op) r) (ha:PE X a ta) (hb:PE X b tb) (hm:behindInMarks op b=false):PT X (.Compare a [op] [b] pos) (zk9 (tOp r ta tb)):=by
  intro pins s σ H Q I h
  refine wpAny_isTrue_Compare1 (thn (ha pins s σ H _ I h) fun v s1 ⟨x,H1,I1,r1,q1⟩=>thn (hb pins s1 σ H1 _ I1 q1) fun u s2 ⟨y,H2,I2,r2,q2⟩ =>
    thn (ho pins s2 σ H2 x y v u _ I2 r1 r2 q2) fun c s3 ⟨z,H3,I3,r3,k,e,q3⟩=>?_) hm
  subst e
  cases r3
  exact wpAny_truthy_bool ⟨H3,I3,q3⟩
def zkl (r r':R2) (ta tb tc:TE):TE:=fun σ H Q=>ta σ H fun x H1=>tb σ H1 fun y H2=>r x y H2 fun z H3=>∃ k,z=.bl k ∧
  (if k=true then tc σ H3 fun w' H4=>r' y w' H4 Q else Q (.bl false) H3)
theorem zh2 {op op':CmpOp}{r r':R2}(ho:OpR X (compareOp op) r) (ho':OpR X (compareOp op') r') (ha:PE X a ta) (hb:PE X b tb) (hc:PE X c tc)
    (hm:lastMarks [op,op'] [b,c]=false:=by with_unfolding_all rfl):PE X (.Compare a [op,op'] [b,c] pos) (zkl r r' ta tb tc):=by
  intro pins s σ H Q I h
  refine Compare_chain (thn (ha pins s σ H _ I h) fun v s1 ⟨x,H1,I1,r1,q1⟩=>chain_link (thn (hb pins s1 σ H1 _ I1 q1) fun u s2 ⟨y,H2,I2,r2,q2⟩ =>
    thn (ho pins s2 σ H2 x y v u _ I2 r1 r2 q2) fun d s3 ⟨z,H3,I3,r3,k,e,q3⟩=>?_)) hm
  subst e
  cases r3
  refine wpAny_truthy_bool ?_
  cases k with
  | false=>exact ite_ff ⟨.bl false,H3,I3,rfl,q3⟩
  | true=>exact ite_tt (chain_last (thn (hc pins s3 σ H3 _ I3 q3) fun w' s4 ⟨z',H4,I4,r4,q4⟩=>ho' pins s4 σ H4 y z' u w' Q I4 r2 r4 q4))
def TruV (K:PySem.W.Frag) (x:V) (H:Hp) (k:Bool):Prop :=
  match x with
  | .non=>k=false
  | .bl b=>k=b
  | .int i=>k=(i != 0)
  | .str y=>y.length≤sizeLine∧k=((y.length:Int) != 0)
  | .byt y=>y.size≤sizeLine∧k=((y.size:Int) != 0)
  | .ref p=>(∃ xs,SqL K H p xs∧k = !xs.isEmpty)∨(∃ xs,SqT K H p xs∧k = !xs.isEmpty)∨∃ kvs,H p=some (.dK kvs)∧k = !kvs.isEmpty
  | _=>False
theorem zfV {κ:Type}{kvs:List (κ × V)}{vs:List (κ × Value)}(r:KV kvs vs):(!vs.isEmpty) = !kvs.isEmpty:=by
  cases r<;>rfl
theorem zc1 {xs:List V}{its:List Value}(r:Vals xs its):(!its.toArray.isEmpty) = !xs.isEmpty:=by
  cases r<;>simp
theorem zdZ:(sizeLine:Nat)<2 ^ 63:=by rw[sizeLine_eq];decide
theorem zkg:TruR X (fun x H Q=>∃ k,TruV X.K x H k∧Q k H):=by
  intro pins s σ H x v Q I rx h
  obtain⟨k,e,q⟩:=h
  have hl:=zdZ
  have hs:sizeLine=16777216:=sizeLine_eq
  cases x with
  | non =>
    cases rx
    have e':k=false:=e
    subst e'
    exact truthy_none ⟨H,I,q⟩
  | bl b =>
    cases rx
    have e':k=b:=e
    subst e'
    exact wpAny_truthy_bool ⟨H,I,q⟩
  | int i =>
    obtain⟨t,rfl⟩:=rx
    have e':k=(i != 0):=e
    subst e'
    exact PySem.P.truthy_int ⟨H,I,q⟩
  | str y =>
    obtain⟨t,rfl⟩:=rx
    obtain⟨hy,e'⟩:y.length≤sizeLine∧k=((y.length:Int) != 0):=e
    subst e'
    exact PySem.P.truthy_str (by omega) ⟨H,I.tok _,q⟩
  | byt y =>
    obtain⟨t,rfl⟩:=rx
    obtain⟨hy,e'⟩:y.size≤sizeLine∧k=((y.size:Int) != 0):=e
    subst e'
    exact PySem.W.truthy_bytes (by omega) ⟨H,I.tok _,q⟩
  | ref p =>
    cases rx
    have e':(∃ xs,SqL X.K H p xs∧k = !xs.isEmpty)∨(∃ xs,SqT X.K H p xs∧k = !xs.isEmpty)∨∃ kvs,H p=some (.dK kvs)∧k = !kvs.isEmpty:=e
    rcases e' with ⟨xs,hx,e'⟩|⟨xs,hx,e'⟩|⟨kvs,hx,e'⟩
    · subst e'
      obtain⟨its,r,pl,hz⟩:=I.list hx
      have hlen:=r.length
      exact wpAny_truthy_list pl.isList (by simp only[List.size_toArray];omega) ⟨H,I.tok _,by rw[zc1 r];exact q⟩
    · subst e'
      obtain⟨its,r,pl,hz⟩:=I.tuple hx
      have hlen:=r.length
      exact truthy_tuple pl (by simp only[List.size_toArray];omega) ⟨H,I.tok _,by rw[zc1 r];exact q⟩
    · subst e'
      obtain⟨hz,hS,vs,r,m⟩:kvs.length≤sizeLine∧(p == sysModules)=false∧∃ vs,KV kvs vs∧s.heap.DictOf (zeN X.prog X.w) p vs:=I.hok p _ hx
      have hlen:kvs.length=vs.length:=Paired.length r
      exact wpAny_truthy_dict hS m (by omega) ⟨H,I.tok _,by rw[zfV r];exact q⟩
  | _=>exact(show False from e).elim
theorem pt_truth (ha:PE X a ta) (he:∀ whole,isTrue a X.env whole=(do let v ← whole;standAt a.pos;holding [v] (truthy v))) :
    PT X a (fun σ H Q=>ta σ H fun x H'=>∃ k,TruV X.K x H' k∧Q k H'):=by
  intro pins s σ H Q I h
  exact isTrue_plain (thn (ha pins s σ H _ I h) fun v s1 ⟨x,H1,I1,r1,q1⟩=>zkg pins s1 σ H1 x v Q I1 r1 q1) (he _)
theorem zcX:OpR X (binaryOp .Add) (fun x y H Q=>∃ i j,x=.str i∧y=.str j∧i.length+j.length≤sizeLine∧Q (.str (i++j)) H):=by
  intro pins s σ H x y v u Q I rx ry h
  obtain⟨i,j,rfl,rfl,hz,q⟩:=h
  obtain⟨t,rfl⟩:=rx
  obtain⟨t',rfl⟩:=ry
  exact add_str (fun t' tk=>⟨.str (i++j),H,I.tok _,⟨_,rfl⟩,q⟩) hz
theorem zfx {x:V}{us:List Value}(r:Vals [x] us):∃ u,us=[u]∧RelV x u:=by
  cases r with
  | cons r1 r2=>cases r2;exact⟨_,rfl,r1⟩
theorem zkd {x y:V}{us:List Value}(r:Vals [x,y] us):∃ u w',us=[u,w']∧RelV x u∧RelV y w':=by
  cases r with
  | cons r1 r2 =>
    cases r2 with
    | cons r3 r4=>cases r4;exact⟨_,_,rfl,r1,r3⟩
theorem zcp:CallR X (.builtin "abs") (fun xs H Q=>∃ i,xs=[.int i]∧Q (.int (if i<0 then -i else i)) H):=by
  intro pins s σ H xs us Q I r h
  obtain⟨i,rfl,q⟩:=h
  obtain⟨u,rfl,t,rfl⟩:=zfx r
  exact call_abs_int fun u tk=>⟨.int (if i<0 then -i else i),H,I.tok _,⟨_,rfl⟩,q⟩
theorem zcK (hc:X.calm=true):CallR X (.builtin "max") (fun xs H Q=>∃ i j,xs=[.int i,.int j]∧Q (.int (if j > i then j else i)) H):=by
  intro pins s σ H xs us Q I r h
  obtain⟨i,j,rfl,q⟩:=h
  obtain⟨u,w',rfl,⟨t,rfl⟩,⟨t',rfl⟩⟩:=zkd r
  refine max_two_ints (I.ok.hd hc) fun h' tk k=>⟨_,H,I.kept k,?_,q⟩
  by_cases hj:j > i
  · rw[if_pos hj,if_pos hj];exact⟨_,rfl⟩
  · rw[if_neg hj,if_neg hj];exact⟨_,rfl⟩
theorem zhI (hc:X.calm=true):CallR X (.builtin "min") (fun xs H Q=>∃ i j,xs=[.int i,.int j]∧Q (.int (if j<i then j else i)) H):=by
  intro pins s σ H xs us Q I r h
  obtain⟨i,j,rfl,q⟩:=h
  obtain⟨u,w',rfl,⟨t,rfl⟩,⟨t',rfl⟩⟩:=zkd r
  refine min_two_ints (I.ok.hd hc) fun h' tk k=>⟨_,H,I.kept k,?_,q⟩
  by_cases hj:j<i
  · rw[if_pos hj,if_pos hj];exact⟨_,rfl⟩
  · rw[if_neg hj,if_neg hj];exact⟨_,rfl⟩
theorem zcL:CallR X (.type "int") (fun xs H Q=>(∃ i,xs=[.int i]∧Q (.int i) H)∨∃ k,xs=[.bl k]∧Q (.int (if k then 1 else 0)) H):=by
  intro pins s σ H xs us Q I r h
  rcases h with ⟨i,rfl,q⟩|⟨k,rfl,q⟩
  · obtain⟨u,rfl,t,rfl⟩:=zfx r
    exact call_int_int ⟨.int i,H,I,⟨_,rfl⟩,q⟩
  · obtain⟨u,rfl,r1⟩:=zfx r
    cases r1
    exact call_int_bool ⟨.int (if k then 1 else 0),H,I.tok _,⟨_,rfl⟩,q⟩
end
structure ObjM (h:Heap) (x dx C:Addr) (mA:Str→Option Value):Prop where
  obj:h.get? x=some (PySem.W.instObj C dx)
  ns:h.Ns1 dx mA
  ne:dx≠x
theorem zhi {h:Heap}{dx:Addr}{mA:Str→Option Value}(n:h.Ns1 dx mA):∃ od,h.get? dx=some od∧∀ name,PySem.W.lookIn name od=some (mA name):=by
  obtain⟨o,es,ep,ho,hd,hk,_,hm⟩:=n
  refine⟨o,ho,fun name=>?_⟩
  have e:=hm name
  unfold nsFind findBy at e
  rw[← Array.find?_toList]at e
  unfold PySem.W.lookIn
  rw[hd]
  dsimp only
  split
  · rename_i y q
    rw[q]at e
    exact congrArg some e
  · rename_i q
    rw[q]at e
    have a:es.toList.any (·.refKey)=false:=by
      rw[List.any_eq_false]
      intro y hy
      obtain⟨z,t,hkey⟩:=hk y (Array.mem_toList_iff.mp hy)
      simp[DictEntry.refKey,hkey]
    have a':¬ es.toList.any (·.refKey)=true:=by rw[a];exact Bool.false_ne_true
    rw[if_neg a']
    exact congrArg some e
theorem ObjM.look {h:Heap}{x dx C:Addr}{mA:Str→Option Value}(I:ObjM h x dx C mA):∃ od,PySem.W.InstAt h x (PySem.W.instObj C dx) C (some od)∧∀ name,PySem.W.lookIn name od=some (mA name) :=
  let ⟨od,ho,hl⟩:=zhi I.ns
  ⟨od,⟨I.obj,rfl,rfl,ho⟩,hl⟩
section
variable {prog:Program}{w:World}{A:Around}{E:Value→Shared→Prop}{s:Shared}{K:PySem.W.Frag}{x dx C f:Addr}{mA:Str→Option Value}{name:Str}{v:Value}
end
section
variable {P:Program}{w:World}{H H':Hp}{h h':Heap}{a C dx:Addr}{fs fs':List (Str × V)}
theorem zj3 (hok:HOk P w H h) (e:H a=some (.ins C dx fs)):∃ mA,ObjM h a dx C mA∧(∀ f,RelO (fs.lookup f) (mA f))∧PySem.Within mA (fs.map (·.1))∧fs.length≤1000∧H dx=some (.own a):=by
  obtain⟨d,z,ne,ob,mA,n,r,q⟩:=(show ObjOk P w H h a (.ins C dx fs) from hok a _ e)
  exact⟨mA,⟨ob,n,ne⟩,r,q,z,d⟩
end
structure Cls (K:PySem.W.Frag) (C:Addr):Prop where
  pg:PySem.W.plainGet K C Str.empty=true
  hd:PySem.W.hasDictIn K C=true
  po:PySem.W.plainOver K C=true
  sa:PySem.W.findIn K (.ref C) "__setattr__" = some (some (.builtin "object.__setattr__"))
theorem Cls.get {K:PySem.W.Frag}{C:Addr}(c:Cls K C) (f:Str):PySem.W.plainGet K C f=true:=c.pg
section
variable {X:Cx}{pins:List (Addr × Obj)}{σ:St}{H:Hp}{s:Shared}{a C dx:Addr}{fs:List (Str × V)}{f:Str}{v:V}{A:Around}{E:Value→Shared→Prop}
end
section
variable {X:Cx}{o e value:Expr}{f:Str}{pos pos' tpos:Pos}{ta tv:TE}
end
section
variable {X:Cx}{pins:List (Addr × Obj)}{σ:St}{H:Hp}{s:Shared}{A:Around}{E:Value→Shared→Prop}{Q:Value→Shared→Prop}{c:Value}{b:Bool}
inductive TyOf (K:PySem.W.Frag) (H:Hp):V→Value→Prop where
  | non:TyOf K H .non (.type "NoneType")
  | bl (x:Bool):TyOf K H (.bl x) (.type "bool")
  | int (i:Int):TyOf K H (.int i) (.type "int")
  | str (x:Str):TyOf K H (.str x) (.type "str")
  | flt (x:UInt64):TyOf K H (.flt x) (.type "float")
  | lst {a:Addr}{xs:List V}(e:H a=some (.lst xs)):TyOf K H (.ref a) (.type "list")
  | frz {a:Addr}{o:Obj}{xs:List V}(e:H a=some (.frz o (.lst xs))):TyOf K H (.ref a) (.type "list")
  | tup {a:Addr}{xs:List V}(e:H a=some (.tup xs)):TyOf K H (.ref a) (.type "tuple")
  | dK {a:Addr}{kvs:List (Key × V)}(e:H a=some (.dK kvs)):TyOf K H (.ref a) (.type "dict")
  | dT {a:Addr}{kvs:List (List Key × V)}(e:H a=some (.dT kvs)):TyOf K H (.ref a) (.type "dict")
  | ins {a C dx:Addr}{fs:List (Str × V)}(e:H a=some (.ins C dx fs)) (cl:Cls K C) (ha:PySem.W.findIn K (.ref C) "__class__" = some (some (.builtin "object.__class__")))
      (hn:PySem.W.specialIn K (.builtin "object.__class__") "__get__" = some (some (.builtin "getset_descriptor.__get__"))) (htk:PySem.W.takesIn K (.builtin "object.__class__")=some true)
      (hm:PySem.W.mroIn K C (.type "object")=some true):TyOf K H (.ref a) (.ref C)
theorem zhn {x:V}{u t:Value}(I:Inv X pins σ H s) (rx:RelV x u) (ty:TyOf X.K H x t) (e:PySem.W.kitOne X.K t c=some b) (h:∀ tk,Q (.bool b) { s with toks:=tk }) :
    wpAny (model X.prog X.w) A (call (.builtin "isinstance") [u,c]) Q E s:=by
  cases ty with
  | non=>cases (show u=Value.none from rx);exact PySem.W.kia_one PySem.W.kitx_none I.kIn True.intro e (fun z=>nomatch z) h
  | bl y=>cases (show u=Value.bool y from rx);exact PySem.W.kia_one PySem.W.kitx_bool I.kIn True.intro e (fun z=>nomatch z) h
  | int i=>obtain⟨t,q⟩:=(show ∃ t,u=Value.int i t from rx);cases q;exact PySem.W.kia_one PySem.W.kitx_int I.kIn True.intro e (fun z=>nomatch z) h
  | str y=>obtain⟨t,q⟩:=(show ∃ t,u=Value.str y t from rx);cases q;exact PySem.W.kia_one PySem.W.kitx_str I.kIn True.intro e (fun z=>nomatch z) h
  | flt y=>obtain⟨t,q⟩:=(show ∃ t,u=Value.float y t from rx);cases q;exact PySem.W.kia_one PySem.W.kitx_float I.kIn True.intro e (fun z=>nomatch z) h
  | @lst a xs ea =>
    cases (show u=Value.ref a from rx)
    obtain⟨_,_,n,_,h1⟩:=(show ObjOk X.prog X.w H s.heap a (.lst xs) from I.hok a _ ea)
    exact PySem.W.kia_one PySem.W.kitx_list I.kIn ⟨_,h1,rfl⟩ e (fun z=>nomatch z) h
  | @frz a ob xs ea =>
    cases (show u=Value.ref a from rx)
    obtain⟨_,_,_,n,_,h1⟩:=(show ObjOk X.prog X.w H s.heap a (.frz ob (.lst xs)) from I.hok a _ ea)
    exact PySem.W.kia_one PySem.W.kitx_list I.kIn ⟨_,h1,rfl⟩ e (fun z=>nomatch z) h
  | @tup a xs ea =>
    cases (show u=Value.ref a from rx)
    obtain⟨_,_,_,p'⟩:=(show ObjOk X.prog X.w H s.heap a (.tup xs) from I.hok a _ ea)
    have p:=p'.tup
    obtain⟨o,h1,h2,_⟩:=p
    exact PySem.W.kia_one PySem.W.kitx_tuple I.kIn ⟨o,h1,h2⟩ e (fun z=>nomatch z) h
  | @dK a kvs ea =>
    cases (show u=Value.ref a from rx)
    obtain⟨_,_,vs,_,p⟩:=(show ObjOk X.prog X.w H s.heap a (.dK kvs) from I.hok a _ ea)
    obtain⟨o,es,ep,h1,h2,_⟩:=p
    exact PySem.W.kia_one PySem.W.kitx_dict I.kIn ⟨o,h1,h2.1⟩ e (fun z=>nomatch z) h
  | @dT a kvs ea =>
    cases (show u=Value.ref a from rx)
    obtain⟨_,_,xs,_,o,es,ep,h1,h2,_⟩:=(show ObjOk X.prog X.w H s.heap a (.dT kvs) from I.hok a _ ea)
    exact PySem.W.kia_one PySem.W.kitx_dict I.kIn ⟨o,h1,h2.1⟩ e (fun z=>nomatch z) h
  | @ins a C dx fs ea cl ha hn htk hm =>
    cases (show u=Value.ref a from rx)
    obtain⟨mA,O,_⟩:=zj3 I.hok ea
    obtain⟨od,J,_⟩:=O.look
    exact PySem.W.kia_one (PySem.W.kitx_own (cl.get _) cl.hd ha hn htk hm) I.kIn J e (fun z=>nomatch z) h
end
structure Room (k:Nat) (A:Around):Prop where
  hd:A.handled=none
  dp:A.depth+3*k+5<recursionLimit
  un:A.units+16*k+200<cLine
  gd:A.guards=some []
theorem Room.mono {j k:Nat}{A:Around}(r:Room k A) (h:j≤k):Room j A:=⟨r.hd,by have:=r.dp;omega,by have:=r.un;omega,r.gd⟩
theorem Room.deeper {k:Nat}{A:Around}(r:Room (k+1) A) (env:Env):Room k (A.deeper env) :=
  ⟨r.hd,by have:=r.dp;show A.depth+1+3*k+5<_;omega,by have:=r.un;show A.units+3+16*k+200<_;omega,r.gd⟩
theorem Room.depth {k:Nat}{A:Around}(r:Room k A):A.depth<recursionLimit:=by have:=r.dp;omega
theorem Room.units {k:Nat}{A:Around}(r:Room k A):A.units+64<cLine:=by have:=r.un;omega
theorem Room.units0 {k:Nat}{A:Around}(r:Room k A):A.units<cLine:=by have:=r.un;omega
def tNil:TA:=fun _ H Q=>Q [] H
def zle (ta:TE) (tr:TA):TA:=fun σ H Q=>ta σ H fun x H1=>tr σ H1 fun xs H2=>Q (x::xs) H2
section
variable {X:Cx}{e:Expr}{es:List Expr}{te:TE}{t:TA}{pos:Pos}
theorem pa_nil:PA X [] tNil:=fun _ _ _ _ H Q I h=>Calls.spliced_nil ⟨[],H,I,.nil,h⟩
theorem pa_cons (ha:PE X e te) (hr:PA X es t) (hs:starEach (e::es) X.env=(false,eval e X.env)::starEach es X.env:=by rfl):PA X (e::es) (zle te t):=by
  intro pos pins s σ H Q I h
  rw[hs]
  show wpAny _ _ (spliced ((false,eval e X.env)::backTo pos (starEach es X.env))) _ _ s
  refine Calls.spliced_cons (thn (ha pins s σ H _ I h) fun u s1 ⟨x,H1,I1,r1,q1⟩=>?_)
  exact thn (hr pos pins s1 σ H1 _ I1 q1) fun us s2 ⟨xs,H2,I2,r2,q2⟩=>⟨x::xs,H2,I2,.cons r1 r2,q2⟩
def tTup (t:TA):TE:=fun σ H Q=>t σ H fun xs H1=>xs.length≤sizeLine∧∀ p,H1 p=none→Q (.ref p) (upd H1 p (.tup xs))
def tLst (t:TA):TE:=fun σ H Q=>t σ H fun xs H1=>xs.length≤sizeLine∧∀ p,H1 p=none→Q (.ref p) (upd H1 p (.lst xs))
theorem pe_tup {x1} (h:PA X es t):PE X (.Tuple es x1 pos) (tTup t):=by
  intro pins s σ H Q I hq
  refine wpAny_Tuple_spliced (thn (h pos pins s σ H _ I hq) fun us s1 ⟨xs,H1,I1,r,z,q⟩=>⟨by rw[← r.length];exact z,?_⟩)
  have hf:H1 s1.heap.objs.size=none:=I1.hok.fresh (Nat.le_refl _)
  refine⟨.ref s1.heap.objs.size,upd H1 s1.heap.objs.size (.tup xs),I1.laid (t':=s1.toks) (fun b u e=>Heap.get?_push_of_some _ e) (Nat.le_refl _) ?_,rfl,q _ hf⟩
  exact⟨z,us,r,TupX.new _ _⟩
theorem zaz (h:PA X es t):PE X (.List es pos) (tLst t):=by
  intro pins s σ H Q I hq
  refine wpAny_List_spliced (thn (h pos pins s σ H _ I hq) fun us s1 ⟨xs,H1,I1,r,z,q⟩=>⟨by rw[← r.length];exact z,?_⟩)
  have hf:H1 s1.heap.objs.size=none:=I1.hok.fresh (Nat.le_refl _)
  refine⟨.ref s1.heap.objs.size,upd H1 s1.heap.objs.size (.lst xs),I1.laid (t':=s1.toks) (fun b u e=>Heap.get?_push_of_some _ e) (Nat.le_refl _) ?_,rfl,q _ hf⟩
  exact⟨z,us,0,r,Heap.get?_push_size _ rfl⟩
end
abbrev Sp:=List V→Hp→VK→XK→Prop
abbrev CXT:=List Env→Hp→Shared→XK→Value→Shared→Prop
structure Env0 (P:Program) (w:World) (K:PySem.W.Frag) (mg:Str→Option Value) (base:Heap) (A:Around) (outer:List Env) (s:Shared) (H:Hp):Prop where
  frames:A.frames=some outer
  mod:Mod K mg base
  bs:∀ b o,base.get? b=some o→s.heap.get? b=some o∧H b=none
  bsz:base.objs.size≤s.heap.objs.size
  funs:s.heap.FunFrames base outer
  frf:∀ b∈frs outer,H b=none
  hok:HOk P w H s.heap
  bare:AllBare s.gens
def CE (outer:List Env) (P:Program) (w:World) (H:Hp) (s:Shared) (Q:VK) (u:Value) (s':Shared):Prop :=
  ∃ v H',s'.os=s.os∧AllBare s'.gens∧Un (frs outer) [] H H' s.heap s'.heap∧HOk P w H' s'.heap∧RelV v u∧Q v H'
def CR (CX:CXT) (outer:List Env) (P:Program) (w:World) (H:Hp) (s:Shared) (Q:VK) (E:XK) (r:Result) (s':Shared):Prop :=
  match r with
  | .ok (.ret u)=>CE outer P w H s Q u s'
  | .ok _=>False
  | .error e=>CX outer H s E e s'
structure FnOk (P:Program) (w:World) (K:PySem.W.Frag) (mg:Str→Option Value) (base:Heap) (CX:CXT) (k:Nat) (f:Addr) (fd:FuncData) (ps:List Str) (sp:Sp):Prop where
  len:∀ vs H Q E,sp vs H Q E→vs.length=ps.length
  run:∀ (A:Around) (outer:List Env) (s:Shared) (H:Hp) (args:Args) (us:List Value) (vs:List V) (Q:VK) (E:XK),Room k A→Env0 P w K mg base A outer s H→BindsTo s fd args (ps.zip us)→Vals vs us→sp vs H Q E →
    codeAny (model P w) A (.call (.ref f) args) (CR CX outer P w H s Q E) s
theorem FnOk.mono {P:Program}{w:World}{K:PySem.W.Frag}{mg:Str→Option Value}{base:Heap}{CX:CXT}{j k:Nat}{f:Addr}{fd:FuncData}{ps:List Str}{sp:Sp}(F:FnOk P w K mg base CX j f fd ps sp) (h:j≤k) :
    FnOk P w K mg base CX k f fd ps sp:=⟨F.len,fun A outer s H args us vs Q E hr=>F.run A outer s H args us vs Q E (hr.mono h)⟩
theorem FnOk.imp {P:Program}{w:World}{K:PySem.W.Frag}{mg:Str→Option Value}{base:Heap}{CX:CXT}{k:Nat}{f:Addr}{fd:FuncData}{ps:List Str}{sp sp':Sp}(F:FnOk P w K mg base CX k f fd ps sp)
    (h:∀ vs H Q E,sp' vs H Q E→sp vs H Q E):FnOk P w K mg base CX k f fd ps sp' :=
  ⟨fun vs H Q E q=>F.len vs H Q E (h _ _ _ _ q),fun A outer s H args us vs Q E hr he hb hv hs=>F.run A outer s H args us vs Q E hr he hb hv (h _ _ _ _ hs)⟩
section
variable {X:Cx}{pins:List (Addr × Obj)}{σ:St}{H:Hp}{s s':Shared}
theorem Inv.env0 (I:Inv X pins σ H s):Env0 X.prog X.w X.K X.mg X.base X.A X.stack s H :=
  ⟨I.ok.frames,I.ok.mod,I.bs,Nat.le_trans I.ok.bsz I.sz,I.stack,I.stkFree,I.hok,I.bare⟩
theorem Inv.after {Q:VK}{u:Value}(I:Inv X pins σ H s) (h:CE X.stack X.prog X.w H s Q u s'):EP X pins σ Q u s':=by
  obtain⟨v,H',os,bare,un,hok,r,q⟩:=h
  obtain⟨hh,g,d,t,os'⟩:=s'
  obtain rfl:os'=s.os:=os
  exact⟨v,H',I.call (h':=hh) (g':=g) (d':=d) (t':=t) (ch:=[]) un hok bare (fun b z=>absurd z (by simp)),r,q⟩
end
def zlf (sp:Sp) (dvs:List V) (E:XK) (t:TA):TE:=fun σ H Q=>t σ H fun vs H1=>sp (vs++dvs) H1 Q E
def Binds (K:PySem.W.Frag) (fd:FuncData) (ps:List Str) (ds:List Value):Prop :=
  ∀ (s:Shared) (us:List Value),K.In s.heap→(us++ds).length=ps.length→BindsTo s fd ⟨us,[]⟩ (ps.zip (us++ds))
theorem Binds.all {K:PySem.W.Frag}{fd:FuncData}{ps:List Str}(h:∀ us:List Value,us.length=ps.length→bindArgs fd ⟨us,[]⟩=pure (ps.zip us)):Binds K fd ps []:=fun s us _ hl=>by
  rw[List.append_nil]at hl ⊢
  exact .of_eq (h us hl)
def Passes (CX:CXT) (X:Cx) (E:XK):Prop:=∀ (pins:List (Addr × Obj)) (σ:St) (H:Hp) (s:Shared) (e:Value) (s':Shared),Inv X pins σ H s→CX X.stack H s E e s'→X.xe e s'
section
variable {X:Cx}{CX:CXT}{k:Nat}{f C:Addr}{fd:FuncData}{ps:List Str}{sp:Sp}{dvs:List V}{ds:List Value}{E:XK}{x m:Str}{p pos apos:Pos}{e o:Expr}{es:List Expr}{ta:TE}{t:TA}
theorem zkr {pins:List (Addr × Obj)}{σ:St}{H:Hp}{s:Shared}{Q:VK}{us:List Value}{vs:List V}(F:FnOk X.prog X.w X.K X.mg X.base CX k f fd ps sp) (hr:Room k X.A) (hb:Binds X.K fd ps ds) (hd:Vals dvs ds) (hx:Passes CX X E)
    (I:Inv X pins σ H s) (r:Vals vs us) (h:sp (vs++dvs) H Q E):wpAny (model X.prog X.w) X.A (call (.ref f) us) (EP X pins σ Q) X.xe s:=by
  have r2:Vals (vs++dvs) (us++ds):=r.append hd
  have hl:(us++ds).length=ps.length:=by rw[← r2.length];exact F.len _ _ _ _ h
  refine wpAny_call (codeAny_mono (F.run X.A X.stack s H ⟨us,[]⟩ (us++ds) (vs++dvs) Q E hr I.env0 (hb s us I.kIn hl) r2 h) fun r s' hq=>?_)
  cases r with
  | error e=>exact hx pins σ H s e s' I hq
  | ok fl =>
    cases fl with
    | ret u=>exact I.after hq
    | next=>exact False.elim hq
    | brk=>exact False.elim hq
    | cont=>exact False.elim hq
theorem pe_call (F:FnOk X.prog X.w X.K X.mg X.base CX k f fd ps sp) (hr:Room k X.A) (hg:Gl X x) (hm:X.mg x=some (.ref f)) (hk:PySem.W.keepIn X.K (.ref f)=true) (hb:Binds X.K fd ps ds) (hd:Vals dvs ds) (hx:Passes CX X E)
    (ha:PA X (e::es) t) (hdb:(x == ("__debug__":Str))=false:=by decide) (he:starEach (e::es) X.env=(false,eval e X.env)::starEach es X.env:=by rfl) (hpl:(backTo pos (starEach es X.env)).any (·.1)=false:=by rfl) :
    PE X (.Call (.Name x p) (e::es) [] pos) (zlf sp dvs E t):=by
  intro pins s σ H Q I h
  refine wpAny_Call_Name_kw (zjV I hg hm ?_ hdb)
  refine PySem.W.callWith_K (h₀:=X.base) I.ok.mod.kin hk (thn (ha pos pins s σ H _ I h) fun us s1 ⟨vs,H1,I1,r,q⟩=>⟨I1.kIn,?_⟩) he hpl
  exact zkr F hr hb hd hx I1 r q
end
section
variable {X:Cx}{CX:CXT}{k:Nat}{f C:Addr}{fd:FuncData}{ps ks:List Str}{sp:Sp}{E:XK}{x m:Str}{p pos apos kpos:Pos}{e o:Expr}{es:List Expr}{kws:List Keyword}{te ta:TE}{t tk:TA}{nm:Option Str}
variable {g:List Value→List Value→List Value}{gV:List V→List V→List V}
end
structure FnScope (N P:List Str) (sc:Scope):Prop where
  kind:sc.kind=.function
  co:sc.isCoroutine=false
  gen:sc.isGenerator=false
  nd:N.Nodup
  pre:N.take P.length=P
  par:∀ x∈P,sc.names.lookup x=some .local ∨ sc.names.lookup x=some .cell
  nofree:∀ y∈sc.names,y.2≠.free
theorem zd7 {kindOf:Str→Option NameKind}{x:Str}:∀ {binds:List (Str × Value)}{m:Str→Option Value},(∀ v,(x,v)∉binds)→bindL kindOf binds m x=m x
  | [],_,_=>rfl
  | (n,v)::r,m,h=>by
    unfold bindL
    rw[zd7 fun w hw=>h w (List.mem_cons_of_mem _ hw)]
    split
    · have:x≠n:=by rintro rfl;exact h v List.mem_cons_self
      simp[this]
    · rfl
theorem zd9 {kindOf:Str→Option NameKind}{x:Str}:∀ {binds:List (Str × Value)}{m:Str→Option Value},(∀ v,(x,v)∉binds)→bindC kindOf binds m x=m x
  | [],_,_=>rfl
  | (n,v)::r,m,h=>by
    unfold bindC
    rw[zd9 fun w hw=>h w (List.mem_cons_of_mem _ hw)]
    split
    · rfl
    · have:x≠n:=by rintro rfl;exact h v List.mem_cons_self
      simp[this]
theorem zd8 {kindOf:Str→Option NameKind}{x:Str}{v:Value}:∀ {P:List Str}{vs:List Value}{i:Nat}{m:Str→Option Value},P.Nodup→P[i]?=some x→vs[i]?=some v→kindOf x=some .local →
    bindL kindOf (P.zip vs) m x=some v
  | [],_,_,_,_,h,_,_=>by simp at h
  | _::_,[],_,_,_,_,h,_=>by simp at h
  | p::P,w::vs,0,m,nd,h1,h2,hk=>by
    simp at h1 h2;subst h1;subst h2
    show bindL kindOf ((p,w)::P.zip vs) m p=_
    unfold bindL
    rw[zd7 fun v hv=>(List.nodup_cons.mp nd).1 (List.of_mem_zip hv).1,if_pos hk]
    simp
  | p::P,w::vs,i+1,m,nd,h1,h2,hk=>by
    show bindL kindOf ((p,w)::P.zip vs) m x=_
    unfold bindL
    exact zd8 (i:=i) (List.nodup_cons.mp nd).2 (by simpa using h1) (by simpa using h2) hk
theorem zea {kindOf:Str→Option NameKind}{x:Str}{v:Value}:∀ {P:List Str}{vs:List Value}{i:Nat}{m:Str→Option Value},P.Nodup→P[i]?=some x→vs[i]?=some v→kindOf x≠some .local →
    bindC kindOf (P.zip vs) m x=some v
  | [],_,_,_,_,h,_,_=>by simp at h
  | _::_,[],_,_,_,_,h,_=>by simp at h
  | p::P,w::vs,0,m,nd,h1,h2,hk=>by
    simp at h1 h2;subst h1;subst h2
    show bindC kindOf ((p,w)::P.zip vs) m p=_
    unfold bindC
    rw[zd9 fun v hv=>(List.nodup_cons.mp nd).1 (List.of_mem_zip hv).1,if_neg hk]
    simp
  | p::P,w::vs,i+1,m,nd,h1,h2,hk=>by
    show bindC kindOf ((p,w)::P.zip vs) m x=_
    unfold bindC
    exact zea (i:=i) (List.nodup_cons.mp nd).2 (by simpa using h1) (by simpa using h2) hk
def zdM (N:List Str) (vs:List V):St:=vs.map some++List.replicate (N.length-vs.length) none
def cxOf (CX:CXT) (P:Program) (w:World) (K:PySem.W.Frag) (mg:Str→Option Value) (base:Heap) (N:List Str) (qual:Str) (scope:Scope) (f:Addr) (cd:Value) (A:Around) (outer:List Env) (s:Shared) (H:Hp) (E:XK):Cx where
  prog:=P
  w:=w
  K:=K
  mg:=mg
  base:=base
  A:=A.deeper (envOfC qual scope s.heap.objs.size f cd)
  N:=N
  s₀:=s
  H₀:=H
  env:=envOfC qual scope s.heap.objs.size f cd
  outer:=outer
  stack:=envOfC qual scope s.heap.objs.size f cd::outer
  ex:=[]
  calm:=true
  fn:=fun _=>true
  pn:=[]
  xe:=fun e s'=>wpAny (model P w) (A.deeper (envOfC qual scope s.heap.objs.size f cd)) (leaving (envOfC qual scope s.heap.objs.size f cd) e) (fun _ s''=>CX outer H s E e s'') (fun e' s''=>CX outer H s E e' s'') s'
theorem zfw {sc:Scope}{n:Nat}{x:Str}(h:sc.names.lookup x=some .cell):∃ c,(cellsFrom n sc.names []).lookup x=some c:=by
  have q:=PySem.W.cellsFrom_some sc.names n [] (.inl h)
  exact Option.isSome_iff_exists.mp q
theorem zho {CX:CXT}{P:Program}{w:World}{K:PySem.W.Frag}{mg:Str→Option Value}{base:Heap}{N ps:List Str}{qual:Str}{scope:Scope}{f:Addr}{cd:Value}{A:Around}{outer:List Env}{s s1:Shared}{H:Hp}{E:XK}{us:List Value}{vs:List V}
    (S:FnScope N ps scope) (hd:A.handled=none) (e0:Env0 P w K mg base A outer s H) (hl:vs.length=ps.length) (r:Vals vs us)
    (x:InCallC s s.heap.objs.size (bindL (envOfC qual scope s.heap.objs.size f cd).kindOf (ps.zip us) fun _=>none) (cellsFrom (s.heap.objs.size+1) scope.names []) (bindC (envOfC qual scope s.heap.objs.size f cd).kindOf (ps.zip us) fun _=>none) s1) :
    Inv (cxOf CX P w K mg base N qual scope f cd A outer s H E) [] (zdM N vs) H s1:=by
  have hpl:ps.length≤N.length:=by have:=congrArg List.length S.pre;rw[List.length_take]at this;omega
  obtain⟨h1,tk,rfl,hk⟩:=x.done
  have noA:∀ b:Addr,b∉(cxOf CX P w K mg base N qual scope f cd A outer s H E).ex:=fun b z=>absurd (show b∈([]:List Addr) from z) (by simp)
  refine⟨⟨e0.mod,S.kind,rfl,rfl,Nat.le_refl _,fun y z c h1 h2=>?_,fun y hy=>?_,fun y c _ h=>?_,fun _=>hd,Around.frames_deeper e0.frames,.inr ⟨rfl,rfl⟩,fun b z=>absurd z (noA b),e0.bs,e0.bsz,fun b _ _=>noA b,fun b z=>absurd z (noA b),e0.funs,e0.frf⟩,
    rfl,e0.bare,Un.kept hk,⟨_,x.toInCall.ns,fun i y v h1 h2 h3=>?_⟩,fun y c h=>⟨_,x.cell y c h⟩,e0.hok.fresh (Nat.le_refl _),fun y c h=>?_,fun p hp=>absurd (show p∈([]:List (Addr × Obj)) from hp) (by simp),e0.hok.kept hk,?_⟩
  · exact name_of_addr x.apart (PySem.mem_of_lookup h1) (PySem.mem_of_lookup h2)
  · have hy:scope.names.lookup y=some .cell∨scope.names.lookup y=some .free:=hy
    rcases hy with hy|hy
    · exact zfw hy
    · exact absurd rfl (S.nofree _ (PySem.mem_of_lookup hy))
  · exact Nat.le_of_lt (x.above y c (PySem.mem_of_lookup h))
  · have hi:i<vs.length:=by
      unfold zdM at h2
      by_cases hi:i<vs.length
      · exact hi
      · rw[List.getElem?_append_right (by simpa using hi)]at h2
        rw[List.getElem?_replicate]at h2
        split at h2<;>cases h2
    have ha:vs[i]?=some v:=by
      unfold zdM at h2
      rw[List.getElem?_append_left (by simpa using hi),List.getElem?_map]at h2
      cases e:vs[i]? with
      | none=>rw[e]at h2;cases h2
      | some a=>rw[e]at h2;cases h2;rfl
    obtain⟨u,hu,rv⟩:=r.get ha
    have hp:ps[i]?=some y:=by
      rw[← S.pre,List.getElem?_take_of_lt (by omega)];exact h1
    have ndP:ps.Nodup:=by rw[← S.pre];exact S.nd.sublist (List.take_sublist _ _)
    refine⟨u,rv,?_⟩
    rcases S.par y (List.mem_of_getElem? hp) with k|k
    · exact .inl ⟨k,zd8 ndP hp hu k⟩
    · obtain⟨c,e⟩:=zfw (n:=s.heap.objs.size+1) k
      refine .inr ⟨.inl k,c,e,?_⟩
      have q:=x.cell y c e
      rw[zea ndP hp hu (by show scope.names.lookup y≠_;rw[k];decide)]at q
      exact q
  · exact e0.hok.fresh (Nat.le_of_lt (x.above y c (PySem.mem_of_lookup h)))
  · unfold zdM
    show _=N.length
    rw[List.length_append,List.length_map,List.length_replicate]
    omega
theorem zlx {CX:CXT}{P:Program}{w:World}{K:PySem.W.Frag}{mg:Str→Option Value}{base:Heap}{k:Nat}{f:Addr}{name qual:Str}{params:Arguments}{body:List Stmt}{scope:Scope}{dV kV doc pm cdv ct oc:Value}{an od:Option Addr}
    {osl:Array (Option Value)}{N ps:List Str}{sp:Sp}(lk:K.lookup f=some ⟨oc,od,.func (PySem.W.fnOf name qual params body scope dV kV doc pm an cdv ct),osl⟩) (hcd:PySem.W.codeIn K cdv qual=true) (S:FnScope N ps scope)
    (len:∀ vs H Q E,sp vs H Q E→vs.length=ps.length)
    (hbody:∀ (A:Around) (outer:List Env) (s:Shared) (H:Hp) (vs:List V) (Q:VK) (E:XK),Room k (A.deeper (envOfC qual scope s.heap.objs.size f cdv))→sp vs H Q E →
      ∃ t,PSs (cxOf CX P w K mg base N qual scope f cdv A outer s H E) body t∧t { nx:=fun _ H'=>Q .non H',rt:=Q } (zdM N vs) H) :
    FnOk P w K mg base CX (k+1) f (PySem.W.fnOf name qual params body scope dV kV doc pm an cdv ct) ps sp:=by
  refine⟨len,fun A outer s H args us vs Q E hr e0 hb r hsp=>?_⟩
  have hl:=len _ _ _ _ hsp
  have KX:K.In s.heap:=e0.mod.kin.keeps fun b o e=>(e0.bs b o e).1
  have lim:s.heap.NoLimit:=e0.mod.nolimit.keeps fun b o e=>(e0.bs b o e).1
  have hkind:∀ y∈ps.zip us,scope.names.lookup y.1=some .local ∨ (scope.names.lookup y.1=some .cell∧((cellsFrom (s.heap.objs.size+1) scope.names []).lookup y.1).isSome=true):=fun ⟨n,v⟩ hy=>by
    rcases S.par n (List.of_mem_zip hy).1 with q|q
    · exact .inl q
    · exact .inr ⟨q,PySem.W.cellsFrom_some _ _ _ (.inl q)⟩
  refine codeAny_call_function hr.depth (KX _ _ lk) rfl S.co S.gen rfl (PySem.W.codeRec_of KX hcd) (hb _ _ _ _ ?_)
  refine wpAny_newFunctionEnv_cells S.kind hkind fun env he s1 x=>?_
  subst he
  refine⟨lim.keeps x.toInCall.keep,codeAny_func ?_⟩
  obtain⟨t,ht,hq⟩:=hbody A outer s H vs Q E (hr.deeper _) hsp
  have I:Inv (cxOf CX P w K mg base N qual scope f cdv A outer s H E) [] (zdM N vs) H s1:=zho S hr.hd e0 hl r x
  refine wpAny_mono (ht [] s1 (zdM N vs) H _ I hq) (fun fl s' hs=>?_) fun e s' hs=>hs
  have fin:∀ {σ':St}{H':Hp}{v:V}{u:Value},Inv (cxOf CX P w K mg base N qual scope f cdv A outer s H E) [] σ' H' s'→RelV v u→Q v H'→CE outer P w H s Q u s' :=
    fun {σ' H' v u} J rv q=>⟨v,H',J.os,J.bare,J.base,J.hok,rv,q⟩
  cases fl with
  | ret u =>
    obtain⟨v,σ',H',J,rv,q⟩:=hs
    exact fin J rv q
  | next =>
    obtain⟨σ',H',J,q⟩:=hs
    exact fin (v:=V.non) (u:=Value.none) J rfl q
  | brk =>
    obtain⟨_,_,_,q⟩:=hs
    exact False.elim q
  | cont =>
    obtain⟨_,_,_,q⟩:=hs
    exact False.elim q
section
variable {X:Cx}{x:Str}{p pos:Pos}{e:Expr}{es:List Expr}{t:TA}{id T:String}{r:List V→Hp→VK→Prop}
def tCB (r:List V→Hp→VK→Prop) (t:TA):TE:=fun σ H Q=>t σ H fun vs H1=>r vs H1 Q
theorem pe_callB (hc:CallR X (.builtin id) r) (hg:Gl X x) (hm:X.mg x=none) (hv:bootBuiltins x=some (.builtin id)) (ha:PA X (e::es) t) (hn:x≠"__name__":=by decide) (hdb:(x == ("__debug__":Str))=false:=by decide)
    (he:starEach (e::es) X.env=(false,eval e X.env)::starEach es X.env:=by rfl) (hpl:(backTo pos (starEach es X.env)).any (·.1)=false:=by rfl):PE X (.Call (.Name x p) (e::es) [] pos) (tCB r t):=by
  intro pins s σ H Q I h
  refine wpAny_Call_Name_kw (zbd I hg hm hv ?_ hn hdb)
  exact PyProof.Rows.callWith_builtin1 (thn (ha pos pins s σ H _ I h) fun us s1 ⟨vs,H1,I1,r1,q1⟩=>hc pins s1 σ H1 vs us Q I1 r1 q1) he hpl
theorem pe_callTy (hc:CallR X (.type T) r) (hg:Gl X x) (hm:X.mg x=none) (hv:bootBuiltins x=some (.type T)) (ha:PA X (e::es) t) (hn:x≠"__name__":=by decide) (hdb:(x == ("__debug__":Str))=false:=by decide)
    (he:starEach (e::es) X.env=(false,eval e X.env)::starEach es X.env:=by rfl) (hpl:(backTo pos (starEach es X.env)).any (·.1)=false:=by rfl):PE X (.Call (.Name x p) (e::es) [] pos) (tCB r t):=by
  intro pins s σ H Q I h
  refine wpAny_Call_Name_kw (zbd I hg hm hv ?_ hn hdb)
  exact PyProof.Rows.callWith_type1 (thn (ha pos pins s σ H _ I h) fun us s1 ⟨vs,H1,I1,r1,q1⟩=>hc pins s1 σ H1 vs us Q I1 r1 q1) he hpl
end
end L2
namespace HT
open PySem PyProof.Rows
section
open PySem.SeqAt
open PySem.AutoSeq1 (wpAny_loadPart')
open PySem.MeetsSeq PySem.MeetsSeq2 PySem.MeetsSeq3
end
section
variable {prog:Program}{w:World}{A:Around}{E:Value→Shared→Prop}{s:Shared}
theorem cat_tup {t b:Addr}{vs ws:List Value}{Q:Value→Shared→Prop}(ht:IsTup s.heap t vs.toArray) (hb:IsTup s.heap b ws.toArray) (hv:vs≠[])
    (h1:ws=[]→Q (.ref t) s) (h2:ws≠[]→Q (.ref s.heap.objs.size) { s with heap:=s.heap.push { cls:=.type "tuple",data:=.seq (vs++ws).toArray } })
    (hsz:vs.length+ws.length≤sizeLine):wpAny (model prog w) A (binaryOp .Add (.ref t) (.ref b)) Q E s:=by
  obtain⟨⟨cls,dd,data,sl⟩,ho,hc,n,hd⟩:=id ht
  obtain⟨⟨cls2,dd2,data2,sl2⟩,ho2,hc2,n2,hd2⟩:=id hb
  simp only at hc hd hc2 hd2
  subst hc hd hc2 hd2
  have e:vs.toArray++ws.toArray=(vs++ws).toArray:=by simp
  by_cases hw:ws=[]
  · exact concat_meets ⟨_,ho,rfl⟩ ⟨_,ho2,rfl⟩ noFill_tuple_add seq_tuple_add PySem.F.slot_tuple_add PySem.F.entry_tuple_add (PySem.F.args_tuple_add_2 _ _)
      (tuple_addW1 t b vs.toArray ws.toArray n n2 dd dd2 sl sl2 (by simpa using hv) (by simp[hw])) ⟨ho,ho2,h1 hw⟩
  · refine concat_meets ⟨_,ho,rfl⟩ ⟨_,ho2,rfl⟩ noFill_tuple_add seq_tuple_add PySem.F.slot_tuple_add PySem.F.entry_tuple_add (PySem.F.args_tuple_add_2 _ _)
      (tuple_addW2 t b vs.toArray ws.toArray n n2 dd dd2 sl sl2 (by simpa using hv) (by simpa using hw) (by rw[List.size_toArray,List.size_toArray];exact hsz)) ⟨ho,ho2,?_⟩
    rw[e]
    exact h2 hw
def sIx (n d:Nat):Option Int→Nat
  | none=>d
  | some v=>if v<0 then (v+(n:Int)).toNat else min v.toNat n
theorem sIx_none (n d:Nat):sIx n d none=d:=rfl
theorem sIx_nat (n d k:Nat):sIx n d (some (k:Int))=min k n:=by
  show (if (k:Int)<0 then ((k:Int)+(n:Int)).toNat else min (k:Int).toNat n)=min k n
  rw[if_neg (by omega),Int.toNat_natCast]
theorem zkp (n d:Nat) (hd:d≤n) (o:Option Int):sIx n d o≤n:=by
  cases o with
  | none=>exact hd
  | some v =>
    show (if v<0 then (v+(n:Int)).toNat else min v.toNat n)≤n
    by_cases hv:v<0
    · rw[if_pos hv];omega
    · rw[if_neg hv];exact Nat.min_le_right _ _
theorem zhH (v:Int) (n d:Nat):(if v<0 then max (v+(n:Int)) 0 else min v (n:Int))=((sIx n d (some v):Nat):Int):=by
  show (if v<0 then max (v+(n:Int)) 0 else min v (n:Int))=(((if v<0 then (v+(n:Int)).toNat else min v.toNat n):Nat):Int)
  by_cases hv:v<0
  · simp only[if_pos hv];omega
  · simp only[if_neg hv];omega
theorem zfZ (lo hi:Option Int) (n:Nat):Builtin.Slice.sliceAdjust lo hi 1 (n:Int)=(((sIx n 0 lo:Nat):Int),((sIx n n hi:Nat):Int)):=by
  have h1:¬((1:Int)<0):=by omega
  unfold Builtin.Slice.sliceAdjust
  simp only[h1,if_false]
  refine Prod.ext ?_ ?_
  · cases lo with
    | none=>rfl
    | some v=>exact zhH v n 0
  · cases hi with
    | none=>rfl
    | some v=>exact zhH v n n
theorem zfI (i j:Nat):Builtin.Slice.slicePlaces (i:Int) (j:Int) 1=j-i:=by
  unfold Builtin.Slice.slicePlaces
  have h1:(1:Int) > 0:=by omega
  simp only[h1,if_true,Int.ediv_one]
  split<;>omega
theorem zcR {v:Value}{o:Option Int}{Q:Option Int→Shared→Prop}(p:IsPart v o) (h:Q o s):wpAny (model prog w) A (Builtin.Slice.slicePartIndex v) Q E s:=by
  cases p with
  | none=>exact slicePart_none h
  | int i t=>exact slicePart_int h
theorem sliceApplied_gen {sl:Addr}{vl vu:Value}{lo hi:Option Int}{n:Nat}{Q:Int × Int × Nat→Shared→Prop}(hs:s.heap.IsSliceOf sl vl vu .none) (pl:IsPart vl lo) (pu:IsPart vu hi)
    (h:Q (((sIx n 0 lo:Nat):Int),1,sIx n n hi-sIx n 0 lo) s):wpAny (model prog w) A (Builtin.Slice.sliceApplied (.ref sl) (pure (n:Int))) Q E s:=by
  obtain⟨os,hos,hcs,hds⟩:=id hs
  unfold Builtin.Slice.sliceApplied Builtin.Slice.sliceFields
  refine wpAny_bind (wpAny_bind (wpAny_field hos hds (x:=vl) rfl (wpAny_bind (wpAny_field hos hds (x:=vu) rfl (wpAny_bind (wpAny_field hos hds (x:=.none) rfl (wpAny_pure ?_)))))))
  refine wpAny_bind (slicePart_none ?_)
  show wpAny _ _ (if ((1:Int) == 0)=true then _ else _) _ _ s
  rw[if_neg (by decide)]
  refine wpAny_bind (zcR pl (wpAny_bind (zcR pu (wpAny_bind (wpAny_pure ?_)))))
  show wpAny _ _ (match Builtin.Slice.sliceAdjust lo hi 1 (n:Int) with|(lo,hi)=>pure (lo,(1:Int),Builtin.Slice.slicePlaces lo hi 1)) _ _ s
  rw[zfZ lo hi n]
  show wpAny _ _ (pure (((sIx n 0 lo:Nat):Int),(1:Int),Builtin.Slice.slicePlaces ((sIx n 0 lo:Nat):Int) ((sIx n n hi:Nat):Int) 1)) _ _ s
  rw[zfI]
  exact wpAny_pure h
theorem zh1 (xs:Array Value) (i k:Nat):((List.range k).filterMap fun (m:Nat)=>xs[((i:Int)+(m:Int)*1).toNat]?).toArray=((xs.toList.drop i).take k).toArray:=by
  have e:(fun (m:Nat)=>xs[((i:Int)+(m:Int)*1).toNat]?)=fun m=>xs[i+m]?:=by
    funext m
    have:((i:Int)+(m:Int)*1).toNat=i+m:=by omega
    rw[this]
  rw[e]
  have:=pick_run xs i k
  rw[List.filterMap_map]at this
  have e2:((fun x=>xs[x]?)∘fun x=>i+x)=fun m=>xs[i+m]?:=rfl
  rw[e2]at this
  rw[this]
theorem getItem_tuple_cut {t sl:Addr}{items:Array Value}{vl vu:Value}{lo hi:Option Int}{Q:Value→Shared→Prop}(ht:IsTup s.heap t items) (hs:s.heap.IsSliceOf sl vl vu .none) (pl:IsPart vl lo) (pu:IsPart vu hi)
    (hw:¬(sIx items.size 0 lo=0∧sIx items.size items.size hi=items.size))
    (h:Q (.ref s.heap.objs.size) { s with heap:=s.heap.push { cls:=.type "tuple",data:=.seq ((items.toList.drop (sIx items.size 0 lo)).take (sIx items.size items.size hi-sIx items.size 0 lo)).toArray } })
    (hsz:items.size≤sizeLine):wpAny (model prog w) A (getItem (.ref t) (.ref sl)) Q E s:=by
  have htake:sizeOk (.seq ((items.toList.drop (sIx items.size 0 lo)).take (sIx items.size items.size hi-sIx items.size 0 lo)).toArray):=by
    show ((items.toList.drop (sIx items.size 0 lo)).take (sIx items.size items.size hi-sIx items.size 0 lo)).toArray.size≤sizeLine
    rw[List.size_toArray,List.length_take,List.length_drop,Array.length_toList]
    omega
  have hj:sIx items.size items.size hi≤items.size:=zkp _ _ (Nat.le_refl _) hi
  obtain⟨os,hos,hcs,hds⟩:=id hs
  have hTs:s.TypeIs (.ref sl) "slice":=⟨os,hos,hcs⟩
  unfold getItem
  try with_reducible refine wpAny_holding ?_
  first|refine wpAny_bind (wpAny_pure ?_)|skip
  refine wpAny_bind (wpAny_sequenceKey ht.typeIs (by decide) ?_)
  refine wpAny_bind (wpAny_callSpecial?_slot (name:=Str.ofString "__getitem__") ht.typeIs PyProof.Rows.slot_tuple_getitem
    (wpAny_call_entry PyProof.Rows.slot_tuple_getitem ht.typeIs entry_tuple_getitem ?_ (args_tuple_getitem _ _)))
  show wpAny _ _ (Builtin.Tuple.tupleItemsOf (.ref t) >>= _) _ _ s
  refine wpAny_bind (tupleItemsOf_ ht ?_)
  refine wpAny_bind (wpAny_typeOf hTs ?_)
  rw[if_pos (by decide)]
  refine wpAny_bind (sliceApplied_gen hs pl pu ?_)
  have hno:¬((((sIx items.size 0 lo:Nat):Int) == 0 && (1:Int) == 1 && (sIx items.size items.size hi-sIx items.size 0 lo) == items.size)=true):=by
    intro q
    rw[Bool.and_eq_true,Bool.and_eq_true]at q
    have q1:((sIx items.size 0 lo:Nat):Int)=0:=eq_of_beq q.1.1
    have q2:sIx items.size items.size hi-sIx items.size 0 lo=items.size:=eq_of_beq q.2
    exact hw ⟨by omega,by omega⟩
  show wpAny _ _ (if (((sIx items.size 0 lo:Nat):Int) == 0 && (1:Int) == 1 && (sIx items.size items.size hi-sIx items.size 0 lo) == items.size)=true then _ else _) _ _ s
  rw[if_neg hno,zh1]
  first
    | exact wpAny_bind (m:=Builtin.Tuple.tupleExact _) (wpAny_newObj_type (wpAny_pure ⟨_,rfl,wpAny_pure h⟩) htake)
    | exact wpAny_bind (m:=Builtin.Tuple.tupleExact _) (wpAny_newObj_type (wpAny_bind (wpAny_pure (wpAny_pure ⟨_,rfl,wpAny_pure h⟩))) htake)
    | exact wpAny_bind (wpAny_bind (m:=Builtin.Tuple.tupleExact _) (wpAny_newObj_type (wpAny_pure (wpAny_pure ⟨_,rfl,wpAny_pure h⟩)) htake))
    | exact wpAny_bind (wpAny_bind (m:=Builtin.Tuple.tupleExact _) (wpAny_newObj_type (wpAny_pure ⟨_,rfl,wpAny_pure h⟩) htake))
end
end HT
namespace L2
open PySem PySem.Spec PyProof.Rows
abbrev TO:=St→Hp→(Option Int→Hp→Prop)→Prop
def PO (X:Cx) (e:Option Expr) (t:TO):Prop :=
  ∀ (pins:List (Addr × Obj)) (s:Shared) (σ:St) (H:Hp) (Q:Option Int→Hp→Prop),Inv X pins σ H s→t σ H Q →
    wpAny (model X.prog X.w) X.A (evalPart e X.env) (fun u s'=>∃ o H',Inv X pins σ H' s'∧IsPart u o∧Q o H') X.xe s
def zi4:TO:=fun _ H Q=>Q none H
def zla (t:TE):TO:=fun σ H Q=>t σ H fun x H1=>∃ i,x=.int i∧Q (some i) H1
section
variable {X:Cx}{e:Expr}{te:TE}{lo hi:Option Expr}{tl th:TO}{pos p2:Pos}
theorem zas:PO X none zi4:=by
  intro pins s σ H Q I h
  rw[evalPart_none]
  exact wpAny_pure ⟨none,H,I,.none,h⟩
theorem zak (h:PE X e te):PO X (some e) (zla te):=by
  intro pins s σ H Q I hw
  rw[evalPart_some]
  refine thn (h pins s σ H _ I hw) fun u s1 ⟨x,H1,I1,r1,q1⟩=>?_
  obtain⟨i,rfl,q⟩:=q1
  obtain⟨t,rfl⟩:=r1
  exact⟨some i,H1,I1,.int i t,q⟩
def SlR (X:Cx) (r:V→Option Int→Option Int→Hp→VK→Prop):Prop :=
  ∀ (pins:List (Addr × Obj)) (s:Shared) (σ:St) (H:Hp) (x:V) (v vl vu:Value) (lo hi:Option Int) (sl:Addr) (Q:VK),Inv X pins σ H s→RelV x v→s.heap.IsSliceOf sl vl vu .none→IsPart vl lo→IsPart vu hi→r x lo hi H Q →
    ∃ T id,typeLookup (.type T) "__getitem__" = pure (some (.builtin id))∧s.TypeIs v T∧wpAny (model X.prog X.w) X.A (getItem v (.ref sl)) (EP X pins σ Q) X.xe s
def tSl (r:V→Option Int→Option Int→Hp→VK→Prop) (te:TE) (tl th:TO):TE:=fun σ H Q=>te σ H fun x H1=>tl σ H1 fun l H2=>th σ H2 fun u H3=>r x l u H3 Q
theorem zan {r:V→Option Int→Option Int→Hp→VK→Prop}(hr:SlR X r) (he:PE X e te) (hl:PO X lo tl) (hu:PO X hi th):PE X (.Subscript e (.Slice lo hi none p2) pos) (tSl r te tl th):=by
  intro pins s σ H Q I h
  refine Subscript_ (thn (he pins s σ H _ I h) fun v s1 ⟨x,H1,I1,r1,q1⟩=>?_)
  refine wpAny_Slice (thn (hl pins s1 σ H1 _ I1 q1) fun vl s2 ⟨l,H2,I2,pl,q2⟩=>thn (hu pins s2 σ H2 _ I2 q2) fun vu s3 ⟨u,H3,I3,pu,q3⟩=>?_)
  rw[evalPart_none]
  refine wpAny_pure ?_
  have I4:Inv X pins σ H3 { s3 with heap:=s3.heap.push { cls:=.type "slice",data:=.fields #[vl,vu,.none] } }:=I3.kept (t':=s3.toks) fun b ob q=>Heap.get?_push_of_some _ q
  obtain⟨T,id,hT,ht,hg⟩:=hr pins { s3 with heap:=s3.heap.push { cls:=.type "slice",data:=.fields #[vl,vu,.none] } } σ H3 x v vl vu l u s3.heap.objs.size Q I4 r1 (Heap.IsSliceOf.new ..) pl pu q3
  show wpAny (model X.prog X.w) X.A (subscriptTail e (.Slice lo hi none p2) v (.ref s3.heap.objs.size)) (EP X pins σ Q) X.xe { s3 with heap:=s3.heap.push { cls:=.type "slice",data:=.fields #[vl,vu,.none] } }
  exact tail_any (ops:=[.ref s3.heap.objs.size,v]) ht hT hg (by with_unfolding_all rfl)
def cutV (xs:List V) (lo hi:Option Int):List V:=(xs.drop (HT.sIx xs.length 0 lo)).take (HT.sIx xs.length xs.length hi-HT.sIx xs.length 0 lo)
theorem zcI (xs:List V) (lo hi:Option Int):(cutV xs lo hi).length≤xs.length:=by
  unfold cutV
  rw[List.length_take,List.length_drop]
  omega
def rSlT (K:PySem.W.Frag):V→Option Int→Option Int→Hp→VK→Prop:=fun x lo hi H Q=>∃ a xs,x=.ref a∧SqT K H a xs ∧
  ¬(HT.sIx xs.length 0 lo=0∧HT.sIx xs.length xs.length hi=xs.length)∧∀ p,H p=none→Q (.ref p) (upd H p (.tup (cutV xs lo hi)))
theorem zkn:SlR X (rSlT X.K):=by
  intro pins s σ H x v vl vu lo hi sl Q I rx hs pl pu h
  obtain⟨a,xs,rfl,hx,hw,q⟩:=h
  cases rx
  obtain⟨its,r,ht,hz⟩:=I.tuple hx
  have hlen:its.toArray.size=xs.length:=by rw[List.size_toArray];exact r.length.symm
  refine⟨"tuple",_,PyProof.Rows.slot_tuple_getitem.lookup,ht.typeIs,?_⟩
  refine HT.getItem_tuple_cut ht hs pl pu (by rw[hlen];exact hw) ?_ (by rw[hlen];exact hz)
  rw[hlen]
  refine⟨.ref s.heap.objs.size,_,I.laid (t':=s.toks) (o:=.tup (cutV xs lo hi)) (fun b ob q=>Heap.get?_push_of_some _ q) (Nat.le_refl _) ?_,rfl,q _ (I.hok.fresh (Nat.le_refl _))⟩
  exact⟨Nat.le_trans (zcI xs lo hi) hz,_,(r.drop (HT.sIx xs.length 0 lo)).take (HT.sIx xs.length xs.length hi-HT.sIx xs.length 0 lo),TupX.new _ _⟩
def zll (K:PySem.W.Frag):R2:=fun x y H Q=>∃ a b xs ys,x=.ref a∧y=.ref b∧SqT K H a xs∧SqT K H b ys∧xs≠[]∧xs.length+ys.length≤sizeLine ∧
  (ys=[]→Q (.ref a) H)∧(ys≠[]→∀ p,H p=none→Q (.ref p) (upd H p (.tup (xs++ys))))
theorem Vals.nil_iff {xs:List V}{us:List Value}(r:Vals xs us):us=[]↔xs=[]:=by
  cases r with
  | nil=>simp
  | cons _ _=>simp
theorem zjz:OpR X (binaryOp .Add) (zll X.K):=by
  intro pins s σ H x y v u Q I rx ry h
  obtain⟨a,b,xs,ys,rfl,rfl,ha,hb,hx,hz,q1,q2⟩:=h
  cases rx
  cases ry
  obtain⟨its,r1,p1,_⟩:=I.tuple ha
  obtain⟨its2,r2,p2,_⟩:=I.tuple hb
  refine HT.cat_tup p1 p2 (fun z=>hx (r1.nil_iff.mp z)) (fun z=>⟨.ref a,H,I,rfl,q1 (r2.nil_iff.mp z)⟩) (fun z=>?_) (by rw[← r1.length,← r2.length];exact hz)
  refine⟨.ref s.heap.objs.size,_,I.laid (t':=s.toks) (o:=.tup (xs++ys)) (fun b ob q=>Heap.get?_push_of_some _ q) (Nat.le_refl _) ?_,rfl,q2 (fun w=>z (r2.nil_iff.mpr w)) _ (I.hok.fresh (Nat.le_refl _))⟩
  exact⟨by rw[List.length_append];exact hz,_,r1.append r2,TupX.new _ _⟩
end
def ixN (n:Nat) (i:Int):Option Nat:=if 0≤i then (if i<n then some i.toNat else none) else if -(n:Int)≤i then some (i+n).toNat else none
def atI {α:Type}(xs:List α) (i:Int):Option α:=(ixN xs.length i).bind fun j=>xs[j]?
theorem zeR {n:Nat}{i:Int}{j:Nat}(h:ixN n i=some j):seqIndex? i n=some j∧j<n∧-(n:Int)≤i∧i<n:=by
  unfold ixN at h
  by_cases h0:0≤i
  · rw[if_pos h0]at h
    by_cases h1:i<n
    · rw[if_pos h1]at h
      have e:i.toNat=j:=Option.some.inj h
      exact⟨by rw[seqIndex_of h0 h1,e],by omega,by omega,h1⟩
    · rw[if_neg h1]at h;cases h
  · rw[if_neg h0]at h
    by_cases h1:-(n:Int)≤i
    · rw[if_pos h1]at h
      have e:(i+n).toNat=j:=Option.some.inj h
      exact⟨by rw[seqIndex_neg (by omega) h1,e],by omega,h1,by omega⟩
    · rw[if_neg h1]at h;cases h
theorem zhK {α:Type}{xs:List α}{i:Int}{v:α}(h:atI xs i=some v):∃ j,seqIndex? i xs.length=some j∧xs[j]?=some v∧j<xs.length∧-(xs.length:Int)≤i∧i<xs.length:=by
  unfold atI at h
  cases e:ixN xs.length i with
  | none=>rw[e]at h;cases h
  | some j =>
    rw[e]at h
    obtain⟨h1,h2,h3,h4⟩:=zeR e
    exact⟨j,h1,h,h2,h3,h4⟩
theorem zaB {α:Type}{xs:List α}{j:Nat}{v:α}(h:xs[j]?=some v):atI xs (j:Int)=some v:=by
  have hj:j<xs.length:=(List.getElem?_eq_some_iff.mp h).1
  have e:ixN xs.length (j:Int)=some j:=by
    unfold ixN
    rw[if_pos (by omega),if_pos (by omega)];simp
  unfold atI;rw[e];exact h
theorem ziH {α:Type}(xs:List α) (v:α):atI (xs++[v]) (-1)=some v:=by
  have hl:(xs++[v]).length=xs.length+1:=by simp
  have e:ixN (xs++[v]).length (-1)=some xs.length:=by
    unfold ixN
    rw[hl,if_neg (by decide),if_pos (by omega)]
    congr 1
    omega
  unfold atI
  rw[e]
  show (xs++[v])[xs.length]?=some v
  simp
def PlainIx (b:Expr):Prop:=∀ o i,subscripted b false o i=operate [o,i] (getItem o i)
def IxR (X:Cx) (r:R2):Prop :=
  ∀ (value slice:Expr) (pins:List (Addr × Obj)) (s:Shared) (σ:St) (H:Hp) (x y:V) (v u:Value) (Q:VK),Inv X pins σ H s→RelV x v→RelV y u→r x y H Q →
    subscripted slice false v u=operate [v,u] (getItem v u)→wpAny (model X.prog X.w) X.A (subscriptTail value slice v u) (EP X pins σ Q) X.xe s
def MtR (X:Cx) (id:String) (r:V→List V→Hp→VK→Prop):Prop :=
  ∀ (pins:List (Addr × Obj)) (s:Shared) (σ:St) (H:Hp) (x:V) (xs:List V) (v:Value) (us:List Value) (Q:VK),Inv X pins σ H s→RelV x v→Vals xs us→r x xs H Q →
    wpAny (model X.prog X.w) X.A (call (.builtin id) (v::us)) (EP X pins σ Q) X.xe s
section
variable {X:Cx}{a b:Expr}{ta tb:TE}{pos:Pos}
theorem pe_ix {r:R2}(hr:IxR X r) (ha:PE X a ta) (hb:PE X b tb) (hs:PlainIx b):PE X (.Subscript a b pos) (tOp r ta tb):=by
  intro pins s σ H Q I h
  exact Subscript_ (binT ha hb I h fun v u s2 x y H2 I2 rx ry q=>hr a b pins s2 σ H2 x y v u Q I2 rx ry q (hs _ _))
def rIxL (K:PySem.W.Frag):R2:=fun x y H Q=>∃ p xs i v,x=.ref p∧y=.int i∧SqL K H p xs∧atI xs i=some v∧Q v H
def rIxT (K:PySem.W.Frag):R2:=fun x y H Q=>∃ p xs i v,x=.ref p∧y=.int i∧SqT K H p xs∧atI xs i=some v∧Q v H
theorem ix_list:IxR X (rIxL X.K):=by
  intro value slice pins s σ H x y v u Q I rx ry h hs
  obtain⟨p,xs,i,z,rfl,rfl,hq,he,q⟩:=h
  cases rx
  obtain⟨t,rfl⟩:=ry
  obtain⟨its,r,pl,hz⟩:=I.list hq
  obtain⟨j,h1,h2,h3,h4,h5⟩:=zhK he
  obtain⟨w,ew,rw'⟩:=r.get h2
  have hl:=r.length
  have hn:=zdZ
  have fin:EP X pins σ Q w s:=⟨z,H,I,rw',q⟩
  by_cases h0:0≤i
  · have hj:i.toNat=j:=by
      rw[seqIndex_of h0 h5]at h1
      exact Option.some.inj h1
    exact item_listR pl.isList h0 (by omega) (by rw[hj];simpa using ew) fin hs
  · have hj:(i+(its.toArray.size:Int)).toNat=j:=by
      rw[seqIndex_neg (by omega) h4]at h1
      rw[List.size_toArray,← hl]
      exact Option.some.inj h1
    exact subscriptTail_builtinR (x:=w) pl.isList.typeIs slot_list_getitem.lookup
      (wpAny_getItem_list_neg (Q:=fun r s'=>r=w∧EP X pins σ Q r s') pl.isList (by omega) (by rw[List.size_toArray]<;>omega) (by omega) (by rw[hj];simpa using ew) ⟨rfl,fin⟩) hs
theorem ix_tup:IxR X (rIxT X.K):=by
  intro value slice pins s σ H x y v u Q I rx ry h hs
  obtain⟨p,xs,i,z,rfl,rfl,hq,he,q⟩:=h
  cases rx
  obtain⟨t,rfl⟩:=ry
  obtain⟨its,r,pl,hz⟩:=I.tuple hq
  obtain⟨j,h1,h2,h3,h4,h5⟩:=zhK he
  obtain⟨w,ew,rw'⟩:=r.get h2
  have hl:=r.length
  have hn:=zdZ
  have fin:EP X pins σ Q w s:=⟨z,H,I,rw',q⟩
  exact subscriptTail_builtinR (x:=w) pl.typeIs slot_tuple_getitem.lookup
    (getItem_tuple (j:=j) (Q:=fun r s'=>r=w∧EP X pins σ Q r s') pl (by omega) (by omega) (by rw[List.size_toArray,← hl];exact h1) (by simpa using ew) ⟨rfl,fin⟩) hs
theorem zfT (its:List Value) (n j:Nat) (u:Value):Obj.mapSeq (·.setIfInBounds j u) { cls:=.type "list",data:=.seq its.toArray n }={ cls:=.type "list",data:=.seq (its.set j u).toArray n }:=by
  simp[Obj.mapSeq]
theorem Inv.lst {pins:List (Addr × Obj)}{σ:St}{H:Hp}{s:Shared}{p:Addr}{xs:List V}(I:Inv X pins σ H s) (h:H p=some (.lst xs)) :
    ∃ (its:List Value) (n:Nat),Vals xs its∧s.heap.get? p=some { cls:=.type "list",data:=.seq its.toArray n }∧xs.length≤sizeLine:=by
  obtain⟨z,its,n,r,e⟩:=I.hok p _ h
  exact⟨its,n,r,e,z⟩
theorem Inv.lstUpd {pins:List (Addr × Obj)}{σ:St}{H:Hp}{s:Shared}{p:Addr}{xs ys:List V}{its its':List Value}{n n':Nat}{f:Obj→Obj}(I:Inv X pins σ H s) (h:H p=some (.lst xs))
    (ho:s.heap.get? p=some { cls:=.type "list",data:=.seq its.toArray n }) (hf:f { cls:=.type "list",data:=.seq its.toArray n }={ cls:=.type "list",data:=.seq its'.toArray n' }) (r:Vals ys its') (hz:ys.length≤sizeLine) (t:Nat) :
    Inv X pins σ (upd H p (.lst ys)) { s with heap:=s.heap.update p f,toks:=t }:=by
  have e:(s.heap.update p f).get? p=some { cls:=.type "list",data:=.seq its'.toArray n' }:=by
    rw[Heap.get?_update_self f ho (by rw[hf]<;>rfl),hf]
  refine I.write (x:=p) (e:=p) (by rw[h];trivial) (.inl rfl) (fun b u hb q=>(Heap.get?_update_other _ _ (Ne.symm hb)).trans q) ⟨_,e⟩ ?_
  exact⟨hz,its',n',r,e⟩
def zli:V→V→V→Hp→(Hp→Prop)→Prop:=fun o i v H Q=>∃ p xs k j,o=.ref p∧i=.int k∧H p=some (.lst xs)∧ixN xs.length k=some j∧Q (upd H p (.lst (xs.set j v)))
theorem set_list:PSet X zli:=by
  intro pins s σ H o i v ov iv u Q I ro ri rv h
  obtain⟨p,xs,k,j,rfl,rfl,hp,hj,q⟩:=h
  cases ro
  obtain⟨t,rfl⟩:=ri
  obtain⟨its,n,r,ho,hz⟩:=I.lst hp
  obtain⟨h1,h2,h3,h4⟩:=zeR hj
  have hl:=r.length
  have hn:=zdZ
  have I':Inv X pins σ (upd H p (.lst (xs.set j v))) { s with heap:=s.heap.update p (Obj.mapSeq (·.setIfInBounds j u)) } :=
    I.lstUpd hp ho (zfT its n j u) (r.set rv j) (by rw[List.length_set];exact hz) s.toks
  by_cases h0:0≤k
  · have hk:k.toNat=j:=by
      rw[seqIndex_of h0 h4]at h1
      exact Option.some.inj h1
    exact PySem.W.ki_setAt ho h0 (by omega) (by rw[List.size_toArray,← hl];exact h4) (by rw[hk];exact⟨_,I',q⟩)
  · have hk:(k+(its.toArray.size:Int)).toNat=j:=by
      rw[seqIndex_neg (by omega) h3]at h1
      rw[List.size_toArray,← hl]
      exact Option.some.inj h1
    exact PySem.W.ki_setBack ho (by omega) (by rw[List.size_toArray,← hl];exact h3) (by omega) (by rw[hk];exact⟨_,I',q⟩)
theorem zdN (lo hi:Option Int) (n:Nat):(sliceBounds lo hi none n).1=((HT.sIx n 0 lo:Nat):Int)∧(sliceBounds lo hi none n).2.1=((HT.sIx n n hi:Nat):Int)∧(sliceBounds lo hi none n).2.2=1:=by
  refine⟨?_,?_,rfl⟩
  · cases lo with
    | none=>simp[sliceBounds,HT.sIx]
    | some i =>
      simp only[sliceBounds,HT.sIx,Option.getD_none,show (1:Int) > 0 by decide,if_true]
      by_cases h:i<0
      · simp only[h,if_true]<;>omega
      · simp only[h,if_false]<;>omega
  · cases hi with
    | none=>simp[sliceBounds,HT.sIx]
    | some i =>
      simp only[sliceBounds,HT.sIx,Option.getD_none,show (1:Int) > 0 by decide,if_true]
      by_cases h:i<0
      · simp only[h,if_true]<;>omega
      · simp only[h,if_false]<;>omega
theorem zdl (its:List Value) (lo hi:Option Int):slicePick its.toArray lo hi none=((its.drop (HT.sIx its.length 0 lo)).take (HT.sIx its.length its.length hi-HT.sIx its.length 0 lo)).toArray:=by
  obtain⟨h1,h2,h3⟩:=zdN lo hi its.toArray.size
  unfold slicePick
  rw[h1,h2,h3]
  simp only[sliceRange_one,pick_run,List.size_toArray]<;>rfl
def rSlL (K:PySem.W.Frag):V→Option Int→Option Int→Hp→VK→Prop:=fun x lo hi H Q=>∃ a xs,x=.ref a∧SqL K H a xs∧∀ p,H p=none→Q (.ref p) (upd H p (.lst (cutV xs lo hi)))
theorem za6:SlR X (rSlL X.K):=by
  intro pins s σ H x v vl vu lo hi sl Q I rx hs pl pu h
  obtain⟨a,xs,rfl,hx,q⟩:=h
  cases rx
  obtain⟨its,r,ht,hz⟩:=I.list hx
  have hlen:=r.length
  refine⟨"list",_,slot_list_getitem.lookup,ht.isList.typeIs,?_⟩
  refine wpAny_getItem_list_slice ht.isList hs pl pu .none (by simp) ?_ (by rw[List.size_toArray]<;>omega)
  rw[zdl,← hlen]
  refine⟨.ref s.heap.objs.size,_,I.laid (t':=s.toks) (o:=.lst (cutV xs lo hi)) (fun b ob q=>Heap.get?_push_of_some _ q) (Nat.le_refl _) ?_,rfl,q _ (I.hok.fresh (Nat.le_refl _))⟩
  exact⟨Nat.le_trans (zcI xs lo hi) hz,_,0,(r.drop (HT.sIx xs.length 0 lo)).take (HT.sIx xs.length xs.length hi-HT.sIx xs.length 0 lo),Heap.get?_push_size _ rfl⟩
def zbS:V→Bool
  | .non=>true
  | .bl _=>true
  | .int _=>true
  | .str _=>true
  | _=>false
def eqV:V→V→Bool
  | .non,.non=>true
  | .bl a,.bl b=>a == b
  | .bl a,.int b=>(if a then 1 else 0) == b
  | .int a,.bl b=>a == (if b then 1 else 0)
  | .int a,.int b=>a == b
  | .str a,.str b=>a == b
  | _,_=>false
theorem zft {A:Around}{s:Shared}{y x:V}{u v:Value}(ry:RelV y u) (rx:RelV x v) (fy:zbS y=true) (fx:zbS x=true):SeqAt.EqAt A s u v (eqV y x):=by
  cases y with
  | non =>
    cases ry
    cases x with
    | non=>cases rx;exact SeqAt.EqAt.same _
    | bl b=>cases rx;exact SeqAt.EqAt.none_bool b
    | int b=>obtain⟨t,rfl⟩:=rx;exact SeqAt.EqAt.none_int b t
    | str b=>obtain⟨t,rfl⟩:=rx;exact SeqAt.EqAt.none_str b t
    | _=>exact absurd (show false=true from fx) Bool.false_ne_true
  | bl a =>
    cases ry
    cases x with
    | non=>cases rx;exact SeqAt.EqAt.bool_none a
    | bl b=>cases rx;exact SeqAt.EqAt.bool_bool a b
    | int b=>obtain⟨t,rfl⟩:=rx;exact SeqAt.EqAt.bool_int a b t
    | str b=>obtain⟨t,rfl⟩:=rx;exact SeqAt.EqAt.bool_str a b t
    | _=>exact absurd (show false=true from fx) Bool.false_ne_true
  | int a =>
    obtain⟨t',rfl⟩:=ry
    cases x with
    | non=>cases rx;exact SeqAt.EqAt.int_none a t'
    | bl b=>cases rx;exact SeqAt.EqAt.int_bool a t' b
    | int b=>obtain⟨t,rfl⟩:=rx;exact SeqAt.EqAt.int_int a t' b t
    | str b=>obtain⟨t,rfl⟩:=rx;exact SeqAt.EqAt.int_str a t' b t
    | _=>exact absurd (show false=true from fx) Bool.false_ne_true
  | str a =>
    obtain⟨t',rfl⟩:=ry
    cases x with
    | non=>cases rx;exact SeqAt.EqAt.str_none a t'
    | bl b=>cases rx;exact SeqAt.EqAt.str_bool a t' b
    | int b=>obtain⟨t,rfl⟩:=rx;exact SeqAt.EqAt.str_int a t' b t
    | str b=>obtain⟨t,rfl⟩:=rx;exact SeqAt.EqAt.str_str a t' b t
    | _=>exact absurd (show false=true from fx) Bool.false_ne_true
  | _=>exact absurd (show false=true from fy) Bool.false_ne_true
def eqU (x:V) (u:Value):Bool:=match u with
  | .none=>eqV .non x
  | .bool b=>eqV (.bl b) x
  | .int i _=>eqV (.int i) x
  | .str z _=>eqV (.str z) x
  | _=>false
theorem ziU {x y:V}{u:Value}(r:RelV y u) (f:zbS y=true):eqU x u=eqV y x:=by
  cases y with
  | non=>cases r;rfl
  | bl b=>cases r;rfl
  | int i=>obtain⟨t,rfl⟩:=r;rfl
  | str z=>obtain⟨t,rfl⟩:=r;rfl
  | _=>exact absurd (show false=true from f) Bool.false_ne_true
theorem zcM {x:V}:∀ {xs:List V}{us:List Value},Vals xs us→xs.all zbS=true→us.any (eqU x)=xs.any fun y=>eqV y x
  | _,_,.nil,_=>rfl
  | y::xs,u::us,.cons r t,f=>by
    rw[List.all_cons,Bool.and_eq_true]at f
    rw[List.any_cons,List.any_cons,ziU r f.1,zcM t f.2]
theorem zbM {A:Around}{s:Shared}{x:V}{v:Value}(rx:RelV x v) (fx:zbS x=true):∀ {xs:List V}{us:List Value},Vals xs us→xs.all zbS=true→∀ u∈us,SeqAt.EqAt A s u v (eqU x u)
  | _,_,.nil,_=>fun u hu=>by cases hu
  | y::xs,u::us,.cons r t,f=>fun u' hu=>by
    rw[List.all_cons,Bool.and_eq_true]at f
    rcases List.mem_cons.mp hu with rfl|hu
    · rw[ziU r f.1];exact zft r rx f.1 fx
    · exact zbM rx fx t f.2 u' hu
def inV (x:V) (xs:List V):Bool:=xs.any fun y=>eqV y x
def rIn (K:PySem.W.Frag) (neg:Bool):R2:=fun x y H Q=>∃ p xs,y=.ref p∧(SqL K H p xs∨SqT K H p xs)∧zbS x=true∧xs.all zbS=true∧Q (.bl (if neg then !inV x xs else inV x xs)) H
theorem zgZ:OpR X (compareOp .In) (rIn X.K false):=by
  intro pins s σ H x y v u Q I rx ry h
  obtain⟨p,xs,rfl,hq,fx,fs,q⟩:=h
  cases ry
  rcases hq with hq|hq
  · obtain⟨its,r,pl,hz⟩:=I.list hq
    refine SeqAt.in_listAt (eqU x) pl.isList (fun w hw=>zbM rx fx r fs w (by simpa using hw)) ⟨.bl _,H,I,rfl,?_⟩
    rw[show its.toArray.any (eqU x)=its.any (eqU x) by simp,zcM r fs]
    exact q
  · obtain⟨its,r,pl,hz⟩:=I.tuple hq
    refine SeqAt.in_tupleAt (eqU x) pl (fun w hw=>zbM rx fx r fs w (by simpa using hw)) ⟨.bl _,H,I,rfl,?_⟩
    rw[show its.toArray.any (eqU x)=its.any (eqU x) by simp,zcM r fs]
    exact q
theorem zdV:OpR X (compareOp .NotIn) (rIn X.K true):=by
  intro pins s σ H x y v u Q I rx ry h
  obtain⟨p,xs,rfl,hq,fx,fs,q⟩:=h
  cases ry
  rcases hq with hq|hq
  · obtain⟨its,r,pl,hz⟩:=I.list hq
    refine SeqAt.notIn_listAt (eqU x) pl.isList (fun w hw=>zbM rx fx r fs w (by simpa using hw)) ⟨.bl _,H,I,rfl,?_⟩
    rw[show its.toArray.any (eqU x)=its.any (eqU x) by simp,zcM r fs]
    exact q
  · obtain⟨its,r,pl,hz⟩:=I.tuple hq
    refine SeqAt.notIn_tupleAt (eqU x) pl (fun w hw=>zbM rx fx r fs w (by simpa using hw)) ⟨.bl _,H,I,rfl,?_⟩
    rw[show its.toArray.any (eqU x)=its.any (eqU x) by simp,zcM r fs]
    exact q
theorem call_len_seq:CallR X (.builtin "len") (fun xs H Q=>∃ p ys,xs=[.ref p]∧(SqL X.K H p ys∨SqT X.K H p ys)∧Q (.int ys.length) H):=by
  intro pins s σ H xs us Q I r h
  obtain⟨p,ys,rfl,hq,q⟩:=h
  obtain⟨u,rfl,rx⟩:=zfx r
  cases rx
  have hn:=zdZ
  rcases hq with hq|hq
  · obtain⟨its,r',pl,hz⟩:=I.list hq
    have hlen:=r'.length
    exact Calls.call_len_list pl.isList (by simp only[List.size_toArray]<;>omega) ⟨.int ys.length,H,I.tok _,⟨s.toks+1,by rw[List.size_toArray,hlen]⟩,q⟩
  · obtain⟨its,r',pl,hz⟩:=I.tuple hq
    have hlen:=r'.length
    exact len_tuple pl (by simp only[List.size_toArray]<;>omega) ⟨.int ys.length,H,I.tok _,⟨s.toks+1,by rw[List.size_toArray,hlen]⟩,q⟩
theorem zbk:CallR X (.type "list") (fun xs H Q=>∃ p ys,xs=[.ref p]∧(SqL X.K H p ys∨SqT X.K H p ys)∧∀ l,H l=none→Q (.ref l) (upd H l (.lst ys))):=by
  intro pins s σ H xs us Q I r h
  obtain⟨p,ys,rfl,hq,q⟩:=h
  obtain⟨u,rfl,rx⟩:=zfx r
  cases rx
  have fin:∀ (its:List Value),Vals ys its→ys.length≤sizeLine→∀ (h':Heap) (c':Nat),(∀ b o',s.heap.get? b=some o'→h'.get? b=some o') →
      h'.get? s.heap.objs.size=some { cls:=.type "list",dict:=none,data:=.seq its.toArray c',slots:=#[] }→EP X pins σ Q (.ref s.heap.objs.size) { s with heap:=h' }:=fun its r' hz h' c' kp e =>
    ⟨.ref s.heap.objs.size,_,I.laid (t':=s.toks) kp (Nat.le_refl _) (show ObjOk X.prog X.w _ h' _ (.lst ys) from⟨hz,its,c',r',e⟩),rfl,q _ (I.hok.fresh (Nat.le_refl _))⟩
  rcases hq with hq|hq
  · obtain⟨its,r',pl,hz⟩:=I.list hq
    have hlen:=r'.length
    obtain⟨o,ho,hc,n,hd⟩:=pl.isList
    exact call_list_seq p (.inl rfl) ho hc hd (fun h' c' kp e=>fin its r' hz h' c' kp e) (by simp only[List.size_toArray]<;>omega)
  · obtain⟨its,r',pl,hz⟩:=I.tuple hq
    have hlen:=r'.length
    obtain⟨o,ho,hc,n,hd⟩:=pl
    exact call_list_seq p (.inr rfl) ho hc hd (fun h' c' kp e=>fin its r' hz h' c' kp e) (by simp only[List.size_toArray]<;>omega)
theorem call_tuple_of:CallR X (.type "tuple") (fun xs H Q=>∃ p ys,xs=[.ref p]∧((SqL X.K H p ys∧∀ l,H l=none→Q (.ref l) (upd H l (.tup ys)))∨(SqT X.K H p ys∧Q (.ref p) H))):=by
  intro pins s σ H xs us Q I r h
  obtain⟨p,ys,rfl,h⟩:=h
  obtain⟨u,rfl,rx⟩:=zfx r
  cases rx
  rcases h with ⟨hq,q⟩|⟨hq,q⟩
  · obtain⟨its,r',pl,hz⟩:=I.list hq
    have hlen:=r'.length
    refine call_tuple_list pl.isList (fun h' kp=>?_) (by simp only[List.size_toArray]<;>omega)
    have I1:Inv X pins σ H { s with heap:=h' }:=I.kept (t':=s.toks) kp
    have I2:Inv X pins σ (upd H h'.objs.size (.tup ys)) { s with heap:=h'.push { cls:=.type "tuple",data:=.seq its.toArray } } :=
      I1.laid (t':=s.toks) (fun b o e=>Heap.get?_push_of_some _ e) (Nat.le_refl _) (show ObjOk X.prog X.w _ _ _ (.tup ys) from⟨hz,its,r',TupX.new _ _⟩)
    exact⟨.ref h'.objs.size,_,I2,rfl,q _ (I1.hok.fresh (Nat.le_refl _))⟩
  · obtain⟨its,r',pl,hz⟩:=I.tuple hq
    exact call_tuple_same pl ⟨.ref p,H,I,rfl,q⟩
def tyV (K:PySem.W.Frag) (T:String) (x:V) (H:Hp):Prop:=match x with
  | .str _=>T = "str"
  | .int _=>T = "int"
  | .ref p=>(T = "list"∧∃ xs,SqL K H p xs)∨(T = "tuple"∧∃ o,K.lookup p=some o∧o.cls=.type "tuple"∧o.dict=none) ∨
      (T = "dict"∧((∃ kvs,H p=some (.dK kvs))∨∃ kvs,H p=some (.dT kvs)))∨(T = "set"∧∃ S n,H p=some (.set S n))
  | _=>False
theorem zke {pins:List (Addr × Obj)}{σ:St}{H:Hp}{s:Shared}{T:String}{x:V}{v:Value}(I:Inv X pins σ H s) (r:RelV x v) (ty:tyV X.K T x H) :
    s.TypeIs v T∧∀ a,v=.ref a→∃ ob,s.heap.get? a=some ob∧ob.dict=none:=by
  cases x with
  | str z =>
    obtain⟨t,rfl⟩:=r
    cases (show T = "str" from ty)
    exact⟨typeIs_str s z t,fun _ e=>nomatch e⟩
  | int i =>
    obtain⟨t,rfl⟩:=r
    cases (show T = "int" from ty)
    exact⟨typeIs_int s i t,fun _ e=>nomatch e⟩
  | ref p =>
    cases r
    rcases ty with ⟨rfl,xs,hq⟩|⟨rfl,o,hk,hc,hd⟩|⟨rfl,hk⟩|⟨rfl,S,n,hk⟩
    · obtain⟨its,_,pl,_⟩:=I.list hq
      refine⟨pl.isList.typeIs,fun a e=>?_⟩
      cases e
      obtain⟨o,n,e,c,hd,_⟩:=pl
      exact⟨o,e,hd⟩
    · refine⟨⟨o,I.kIn p o hk,hc⟩,fun a e=>?_⟩
      cases e
      exact⟨o,I.kIn _ o hk,hd⟩
    · have z:∃ o,s.heap.get? p=some o∧o.ExactDict:=by
        rcases hk with ⟨kvs,hk⟩|⟨kvs,hk⟩
        · obtain⟨_,_,_,_,o,_,_,e,ex,_⟩:=I.hok p _ hk
          exact⟨o,e,ex⟩
        · obtain⟨_,_,_,_,o,_,_,e,ex,_⟩:=I.hok p _ hk
          exact⟨o,e,ex⟩
      obtain⟨o,e,ex⟩:=z
      refine⟨⟨o,e,ex.1⟩,fun a e2=>?_⟩
      cases e2
      exact⟨o,e,ex.2.1⟩
    · obtain⟨o,_,_,_,e,ex,_⟩:=I.hok p _ hk
      refine⟨⟨o,e,ex.1⟩,fun a e2=>?_⟩
      cases e2
      exact⟨o,e,ex.2.1⟩
  | _=>exact False.elim ty
def tBM (K:PySem.W.Frag) (T:String) (r:V→List V→Hp→VK→Prop) (to:TE) (t:TA):TE:=fun σ H Q=>to σ H fun x H1=>tyV K T x H1∧t σ H1 fun xs H2=>r x xs H2 Q
variable {o e:Expr}{es:List Expr}{to:TE}{t:TA}{name:Str}{apos cpos:Pos}{T id:String}{r:V→List V→Hp→VK→Prop}
theorem pe_bm (pa:PlainAttrs T) (slot:Slot T name id) (hty:typeOf (.builtin id)=pure (.type "method_descriptor")) (hm:MtR X id r) (ho:PE X o to) (ha:PA X (e::es) t)
    (hbase:attributeBase o name X.env (eval o X.env)=eval o X.env:=by rfl)
    (hfew:((backTo cpos (starEach (e::es) X.env)).all (fun x=>!x.1) && (backToKw cpos (keywordEach [] X.env)).all (fun x=>x.1.isSome)
      && decide ((e::es).length+([]:List Keyword).length+(if ([]:List Keyword).isEmpty then 0 else 1)<30))=true:=by rfl)
    (hline:(apos.endLine == cpos.line)=true:=by rfl) (hs:starEach (e::es) X.env=(false,eval e X.env)::starEach es X.env:=by rfl) (hplain:(backTo cpos (starEach es X.env)).any (·.1)=false:=by rfl) :
    PE X (.Call (.Attribute o name apos) (e::es) [] cpos) (tBM X.K T r to t):=by
  intro pins s σ H Q I h
  refine wpAny_Call_method_late hbase hfew hline rfl (thn (ho pins s σ H _ I h) fun v s1 ⟨x,H1,I1,r1,ty,q1⟩=>?_)
  obtain⟨h1,h2⟩:=zke I1 r1 ty
  refine⟨T,id,pa,slot,hty,h1,h2,?_⟩
  have hA:=ha cpos pins s1 σ H1 _ I1 q1
  rw[hs]at hA ⊢
  refine Calls.callWith_builtin (by show (false || (backTo cpos (starEach es X.env)).any (·.1))=false;rw[hplain]<;>rfl) (Calls.evalArgs_plain ?_)
  exact thn hA fun us s2 ⟨vs,H2,I2,r2,q2⟩=>hm pins s2 σ H2 x vs v us Q I2 r1 r2 q2
/- xs.append(e),list.index on a module's tuple .. are MtR facts of 06m -/
end
def MtM (X:Cx) (id:String) (r:V→List V→Hp→VK→Prop):Prop :=
  ∀ (pins:List (Addr × Obj)) (s:Shared) (σ:St) (H:Hp) (x:V) (xs:List V) (v:Value) (us:List Value) (Q:VK),Inv X pins σ H s→RelV x v→Vals xs us→r x xs H Q →
    wpAny (model X.prog X.w) X.A (call (.builtin id) (v::us)) (EP X pins σ Q) X.xe s
theorem Vals.one:∀ {x:V}{us:List Value},Vals [x] us→∃ u,us=[u]∧RelV x u
  | _,_,.cons r .nil=>⟨_,rfl,r⟩
theorem Vals.two:∀ {x y:V}{us:List Value},Vals [x,y] us→∃ u v,us=[u,v]∧RelV x u∧RelV y v
  | _,_,_,.cons r (.cons q .nil)=>⟨_,_,rfl,r,q⟩
theorem Vals.eraseIdx:∀ {xs:List V}{us:List Value}(i:Nat),Vals xs us→Vals (xs.eraseIdx i) (us.eraseIdx i)
  | _,_,_,.nil=>.nil
  | _,_,0,.cons _ t=>t
  | _,_,i+1,.cons r t=>.cons r (Vals.eraseIdx i t)
theorem Vals.reverse {xs:List V}{us:List Value}(h:Vals xs us):Vals xs.reverse us.reverse:=by
  induction h with
  | nil=>exact .nil
  | cons r t ih=>rw[List.reverse_cons,List.reverse_cons];exact Vals.append ih (.cons r .nil)
theorem Vals.rep {xs:List V}{us:List Value}(h:Vals xs us):∀ k:Nat,Vals (List.replicate k xs).flatten (List.replicate k us).flatten
  | 0=>.nil
  | k+1=>by
    rw[List.replicate_succ,List.replicate_succ,List.flatten_cons,List.flatten_cons]
    exact Vals.append h (Vals.rep h k)
theorem zd0 {α:Type}:∀ (l:List α) (i:Nat),(l.eraseIdx i).length≤l.length
  | [],_=>Nat.le_refl _
  | _::_,0=>Nat.le_succ _
  | _::r,i+1=>Nat.succ_le_succ (zd0 r i)
theorem zd3 (its:List Value):∀ (k:Nat) (acc:List Value),
    List.foldl (fun x1 x2=>x1++x2) acc.toArray (List.replicate k its.toArray)=(acc++(List.replicate k its).flatten).toArray
  | 0,acc=>by simp
  | k+1,acc=>by
    have e:acc.toArray++its.toArray=(acc++its).toArray:=by simp
    have e2:(acc++its)++(List.replicate k its).flatten=acc++(List.replicate (k+1) its).flatten:=by
      rw[List.replicate_succ,List.flatten_cons,List.append_assoc]
    rw[← e2,← zd3 its k (acc++its),← e,List.replicate_succ,List.foldl_cons]
section
variable {X:Cx}{pins:List (Addr × Obj)}{σ:St}{H:Hp}{s:Shared}{l b:Addr}{xs ys zs:List V}
theorem Inv.lset {its its':List Value}{n:Nat}{f:Array Value→Array Value}{t':Nat}(I:Inv X pins σ H s) (hH:H l=some (.lst xs))
    (e:s.heap.get? l=some { cls:=.type "list",data:=.seq its.toArray n }) (hf:f its.toArray=its'.toArray) (hv:Vals ys its') (hz:ys.length≤sizeLine) :
    Inv X pins σ (upd H l (.lst ys)) { s with heap:=s.heap.update l (Obj.mapSeq f),toks:=t' }:=by
  have q:=PySem.IsL.update e f
  rw[hf]at q
  refine I.write (x:=l) (e:=l) (by rw[hH];exact trivial) (.inl rfl) (fun b' u hb hu=>(Heap.get?_update_other s.heap (Obj.mapSeq f) (Ne.symm hb)).trans hu) ⟨_,q⟩ ?_
  exact⟨hz,its',_,hv,q⟩
theorem Inv.lnew {its:List Value}{t':Nat}(I:Inv X pins σ H s) (hv:Vals ys its) (hz:ys.length≤sizeLine) :
    Inv X pins σ (upd H s.heap.objs.size (.lst ys)) { s with heap:=s.heap.push { cls:=.type "list",data:=.seq its.toArray },toks:=t' } :=
  I.laid (fun _ _ q=>Heap.get?_push_of_some _ q) (Nat.le_refl _) ⟨hz,its,0,hv,Heap.get?_push_size _ rfl⟩
theorem Inv.fresh (I:Inv X pins σ H s):H s.heap.objs.size=none:=I.hok.fresh (Nat.le_refl _)
theorem Inv.lstM (I:Inv X pins σ H s) (hH:H l=some (.lst xs)):xs.length≤sizeLine∧∃ (its:List Value) (n:Nat),Vals xs its∧xs.length=its.length∧s.heap.get? l=some { cls:=.type "list",data:=.seq its.toArray n }:=by
  obtain⟨z,its,n,r,e⟩:=I.hok l _ hH
  exact⟨z,its,n,r,r.length,e⟩
theorem zfi {n:Nat}(h:n≤sizeLine):Builtin.List.listTooLong n=false:=by
  unfold Builtin.List.listTooLong
  exact decide_eq_false (by omega)
end
section
variable {X:Cx}
def zjt:V→List V→Hp→VK→Prop:=fun x vs H Q=>∃ l xs y,x=.ref l∧vs=[y]∧H l=some (.lst xs)∧xs.length<sizeLine∧Q .non (upd H l (.lst (xs++[y])))
theorem mt_append:MtM X "list.append" zjt:=by
  intro pins s σ H x vs v us Q I rx rv h
  obtain⟨l,xs,y,rfl,rfl,hH,hz,q⟩:=h
  cases rx
  obtain⟨u,rfl,ru⟩:=rv.one
  obtain⟨z,its,n,r,hl,e⟩:=I.lstM hH
  refine call_meets F.slot_list_append ⟨_,e,rfl⟩ F.entry_list_append (F.args_list_append_2 _ _) (PySem.list_append l its.toArray n u (by rw[List.size_toArray];omega)) ⟨e,?_⟩
  refine⟨.non,_,I.lset (its':=its++[u]) hH e (by simp) (r.append (.cons ru .nil)) ?_,rfl,q⟩
  rw[List.length_append,List.length_singleton]
  omega
def zjs:V→List V→Hp→VK→Prop:=fun x vs H Q=>∃ l b xs zs,x=.ref l∧vs=[.ref b]∧H l=some (.lst xs)∧H b=some (.lst zs)∧xs.length+zs.length≤sizeLine∧Q .non (upd H l (.lst (xs++zs)))
theorem zhf:MtM X "list.extend" zjs:=by
  intro pins s σ H x vs v us Q I rx rv h
  obtain⟨l,b,xs,zs,rfl,rfl,hH,hB,hz,q⟩:=h
  cases rx
  obtain⟨u,rfl,ru⟩:=rv.one
  cases ru
  obtain⟨z,its,n,r,hl,e⟩:=I.lstM hH
  obtain⟨z2,its2,n2,r2,hl2,e2⟩:=I.lstM hB
  have hsz:its.toArray.size+its2.toArray.size≤sizeLine:=by rw[List.size_toArray,List.size_toArray];omega
  have hlong:¬(!its.toArray.isEmpty && Builtin.List.listTooLong (its.toArray.size+its2.toArray.size))=true:=by
    rw[zfi hsz,Bool.and_false]
    exact Bool.false_ne_true
  refine call_meets F.slot_list_extend ⟨_,e,rfl⟩ F.entry_list_extend (F.args_list_extend_2 _ _)
    (AutoSeq1.list_extend_list_list_0 l its.toArray n b its2.toArray n2 hlong (by rw[List.size_toArray];omega) (by omega)) ⟨e,e2,?_⟩
  refine⟨.non,_,I.lset (its':=its++its2) hH e (by simp) (r.append r2) ?_,rfl,q⟩
  rw[List.length_append]
  omega
def zks:V→List V→Hp→VK→Prop:=fun x vs H Q=>∃ l xs i k y,x=.ref l∧vs=[.int i]∧H l=some (.lst xs)∧-(2 ^ 63)≤i∧i<2 ^ 63∧seqIndex? i xs.length=some k∧xs[k]?=some y∧Q y (upd H l (.lst (xs.eraseIdx k)))
theorem ziq:MtM X "list.pop" zks:=by
  intro pins s σ H x vs v us Q I rx rv h
  obtain⟨l,xs,i,k,y,rfl,rfl,hH,h1,h2,hk,hy,q⟩:=h
  cases rx
  obtain⟨u,rfl,ru⟩:=rv.one
  obtain⟨t,rfl⟩:=ru
  obtain⟨z,its,n,r,hl,e⟩:=I.lstM hH
  obtain⟨w,hw,rw'⟩:=r.get hy
  refine call_meets F.slot_list_pop ⟨_,e,rfl⟩ F.entry_list_pop (F.args_list_pop_2 _ _)
    (MeetsSeq.list_pop_at l its.toArray n i t k w (fitsIndex_both h1 h2) (by rw[List.size_toArray,← hl];exact hk) (by rw[← Array.getElem?_toList];exact hw) (by rw[List.size_toArray];omega)) ⟨e,?_⟩
  refine⟨y,_,I.lset (its':=its.eraseIdx k) hH e ?_ (r.eraseIdx k) ?_,rw',q⟩
  · show its.toArray.eraseIdxIfInBounds k=(its.eraseIdx k).toArray
    rw[List.eraseIdxIfInBounds_toArray]
  · have:=zd0 xs k
    omega
def rCat:R2:=fun x y H Q=>∃ l b xs zs,x=.ref l∧y=.ref b∧H l=some (.lst xs)∧H b=some (.lst zs)∧xs.length+zs.length≤sizeLine∧∀ p,H p=none→Q (.ref p) (upd H p (.lst (xs++zs)))
theorem zbL:OpR X (binaryOp .Add) rCat:=by
  intro pins s σ H x y v u Q I rx ry h
  obtain⟨l,b,xs,zs,rfl,rfl,hH,hB,hz,q⟩:=h
  cases rx
  cases ry
  obtain⟨z,its,n,r,hl,e⟩:=I.lstM hH
  obtain⟨z2,its2,n2,r2,hl2,e2⟩:=I.lstM hB
  refine PySem.P.add_list e e2 ?_ (by rw[List.size_toArray,List.size_toArray];omega)
  have ea:its.toArray++its2.toArray=(its++its2).toArray:=by simp
  rw[ea]
  exact⟨.ref _,_,I.lnew (t':=s.toks) (r.append r2) (by rw[List.length_append];omega),rfl,q _ I.fresh⟩
def rRep:R2:=fun x y H Q=>∃ l k xs,x=.ref l∧y=.int k∧H l=some (.lst xs)∧-(2 ^ 63)≤k∧k<2 ^ 63∧xs.length*k.toNat≤sizeLine ∧
  ∀ p,H p=none→Q (.ref p) (upd H p (.lst (List.replicate k.toNat xs).flatten))
theorem zjU {α:Type}(xs:List α) (k:Nat):(List.replicate k xs).flatten.length=k*xs.length:=by
  induction k with
  | zero=>simp
  | succ k ih=>rw[List.replicate_succ,List.flatten_cons,List.length_append,ih,Nat.succ_mul,Nat.add_comm]
theorem zdU:OpR X (binaryOp .Mult) rRep:=by
  intro pins s σ H x y v u Q I rx ry h
  obtain⟨l,k,xs,rfl,rfl,hH,h1,h2,hz,q⟩:=h
  cases rx
  obtain⟨t,rfl⟩:=ry
  obtain⟨z,its,n,r,hl,e⟩:=I.lstM hH
  have hlen:its.toArray.size*k.toNat≤sizeLine:=by rw[List.size_toArray,← hl];exact hz
  have hcap:¬ its.toArray.size*k.toNat > (2 ^ 63-1) / 8:=by
    have:(sizeLine:Nat)≤(2 ^ 63-1) / 8:=by decide
    omega
  have hfit:¬(!Builtin.List.listFitsIndex k)=true:=by
    rw[fitsIndex_both h1 h2]
    exact Bool.false_ne_true
  have hlong:¬ Builtin.List.listTooLong (its.toArray.size*k.toNat)=true:=by
    rw[zfi hlen]
    exact Bool.false_ne_true
  have hnew:List.foldl (fun x1 x2=>x1++x2) #[] (List.replicate (if its.toArray.isEmpty=true then 0 else k.toNat) its.toArray)=(List.replicate k.toNat its).flatten.toArray:=by
    have f0:∀ m:Nat,List.foldl (fun x1 x2=>x1++x2) #[] (List.replicate m its.toArray)=(List.replicate m its).flatten.toArray:=fun m=>by
      have:=zd3 its m []
      rw[List.nil_append]at this
      exact this
    rw[f0]
    cases its with
    | nil=>simp
    | cons a r'=>rw[if_neg (by simp)]
  refine wpAny_binaryOp_repeat_ref (T:="list") (U:="int") (by decide) ⟨_,e,rfl⟩ (fun s'=>typeIs_int s' k t) noFill_list_mul F.fills_int_mul F.slot_int_rmul repeat_list F.slot_int_index.lookup
    (call_meets F.slot_int_rmul (typeIs_int s k t) F.entry_int_rmul (F.args_int_rmul_2 _ _) (int___rmul___int_list k t l its.toArray n)
      ⟨e,rfl,⟨_,e,rfl⟩,call_meets F.slot_list_mul ⟨_,e,rfl⟩ F.entry_list_mul (F.args_list_mul_2 _ _) (AutoListH.list___mul___list_int_3 l its.toArray n k t hfit hcap hlong) ⟨e,?_⟩⟩)
  rw[hnew]
  exact⟨.ref _,_,I.lnew (t':=s.toks) (r.rep k.toNat) (by rw[zjU,Nat.mul_comm];exact hz),rfl,q _ I.fresh⟩
end
section
variable {prog:Program}{w:World}{A:Around}{E:Value→Shared→Prop}{s:Shared}
end
section
variable {X:Cx}
end
end L2
namespace Att
open PySem PySem.W PySem.Calls PyProof.Rows
theorem zcE {P:Params}{h:Heap}:∀ (ns:List Int) (vs:List Value),WellAll P h vs (ns.map WData.int)→IntsAre vs ns:=by
  intro ns
  induction ns with
  | nil =>
    intro vs w
    rw[List.map_nil]at w
    cases w
    exact .nil
  | cons n ns ih =>
    intro vs w
    rw[List.map_cons]at w
    cases w with
    | cons a b =>
      cases a
      exact .cons _ _ (ih _ b)
theorem zgw {l:OpenLaw}{n:Nat}(hn:l.most=some n) {P:Params}{h:Heap}{args:List WData}{vals:List Value}
    (hpre:l.row.toRowW.claim.pre args=true) (hwl:WellAll P h vals args) :
    ∃ a vs ns,vals=[Value.ref a]∧args=[WData.list (ns.map WData.int)]∧h.get? a=some { cls:=.type "list",data:=.seq vs.toArray }∧IntsAre vs ns∧ns.length≤n:=by
  have hsh:WShape.hasAll [] args [.list .int]=true:=(pre_splitW hpre).1
  have hc:l.pre.holds [] { args:=args }=true:=(pre_splitW hpre).2
  obtain⟨d,r,rfl,h1,h2⟩:=hasAllW_cons hsh
  obtain rfl:=hasAllW_nil h2
  obtain⟨xs,rfl,h3⟩:=hasW_list h1
  obtain⟨ns,rfl⟩:=items_int h3
  have hlen:ns.length≤n:=by
    unfold OpenLaw.pre at hc
    have h4:(WTm.not (.lt (.lit (.int (n:Int))) (.len (.arg 0)))).holds [] { args:=[.list (ns.map .int)] }=true:=by
      have h4:=(holds_andW hc).1
      rw[hn]at h4
      exact h4
    have h5:=condW_of h4 (w_not (w_lt w_lit (w_len_list (w_arg rfl))))
    rw[List.length_map]at h5
    refine Nat.le_of_not_lt fun q=>?_
    have q':(n:Int)<((ns.length:Nat):Int):=by omega
    first
      | (rw[decide_eq_true q']at h5;exact absurd h5 (by decide))
      | (simp at h5;omega)
  cases hwl with
  | cons w1 w2 =>
    cases w2
    cases w1 with
    | list ho hall=>exact⟨_,_,ns,rfl,rfl,ho,zcE ns _ hall,hlen⟩
theorem zgS (l:OpenLaw) (args:List WData):l.row.toRowW.claim.post args (.bool true) args=true :=
  postW_of (r:=l.row.toRowW) (X:=(true == true))
    (show WShape.has [] (.bool true) .bool=true by first|rfl|decide|simp[WShape.has,WShape.arms,WShape.armsAll])
    (show (WTm.eq .res (.lit (.bool true))).value [] { args:=args,res:=some (.bool true),after:=args }=some (.bool (true == true)) from w_eq_bool (w_res rfl) w_lit) rfl
theorem attach_call {l:OpenLaw}{n:Nat}{q:Program}{loose:List Str}{XP:(Str→Option Value)→Heap→Prop}{YP:World→Heap→Prop}{d:DefRec}
    (hn:l.most=some n) (hdf:d.params.defaults=[])
    (call:∀ (w:World) (s₀ s₁:Shared) (mg mb:Str→Option Value) (fa:Addr) (o:Obj) (pm cd doc:Value) (a:Addr) (vs:List Value) (ns:List Int),
      Ground q loose [] XP w s₀ mg mb s₁.heap→YP w s₁.heap →
      s₁.heap.get? fa=some o→o.data=.func (docDef d.name d.params d.body d.scope pm cd doc)→s₁.heap.CodeRec cd d.name→mg d.name=some (.ref fa) →
      s₁.heap.get? a=some { cls:=.type "list",data:=.seq vs.toArray }→IntsAre vs ns→ns.length≤n→s₁.gens = #[] →
      codeAny (model l.prog w) callerA (.call (.ref fa) ⟨[.ref a],[]⟩) (fun r s'=>r=.ok (.ret (.bool true))∧OldK s₁.heap s'.heap∧s'.os=s₁.os∧AllBare s'.gens) s₁) :
    WalkO q loose XP YP l.row.toRowW d [] (fun f vs=>PySem.call f vs):=by
  intro w s₀ s₁ mg mb G Y fa o pm cd doc dV kV ho hd hcd hD hmg hg args vals as hpre hlay hrd hwl hlo
  obtain rfl:dV=.none:=Dflts.none hD hdf
  obtain rfl:kV=.none:=Dflts.noKw hD
  obtain⟨a,vs,ns,rfl,rfl,hobj,hints,hlen⟩:=zgw hn hpre hwl
  refine enter_call (codeAny_mono (call w s₀ s₁ mg mb fa o pm cd doc a vs ns G Y ho (fd_plain hd) hcd hmg hobj hints hlen hg) fun r s' hq=>?_)
  obtain⟨rfl,h2,h3,h4⟩:=hq
  exact⟨.inl ⟨.bool true,.bool true,[],rfl,fun _=>rfl,.bool true,zgS l _,fun _=>⟨List.Pairwise.nil,fun _ hm=>(nomatch hm)⟩⟩,h2,h3,h4⟩
section
variable {prog:Program}{w:World}{A:Around}{E:Value→Shared→Prop}{s:Shared}{K:Frag}
def zlG (h:Heap) (L d:Addr):List (Addr × Obj):=(List.range h.objs.size).filterMap fun a=>if a=L∨a=d then none else (h.get? a).map fun o=>(a,o)
end
end Att
namespace L2
open PySem PySem.Spec PyProof.Rows
theorem zdI:∀ {vs:List Value}{ns:List Int},IntsAre vs ns→Vals (ns.map V.int) vs
  | _,_,.nil=>.nil
  | _,_,.cons n t h=>.cons ⟨t,rfl⟩ (zdI h)
def Only (H:Hp):Prop:=∀ b,H b=none∨∃ o xs,H b=some (.frz o (.lst xs))
theorem zix {P:Program}{w:World}{K:PySem.W.Frag}{mg mb:Str→Option Value}{CX:CXT}{k:Nat}{fa a:Addr}{fd:FuncData}{x:Str}{sp:Sp}{s₁:Shared}{vs:List Value}{ns:List Int}
    (KX:K.In s₁.heap) (hns:s₁.heap.Ns mainGlobals mg) (hb:s₁.heap.Ns builtinsNs mb) (hbb:∀ x:Str,x≠"__name__"→mb x=bootBuiltins x) (hlim:s₁.heap.NoLimit) (hg:s₁.gens = #[])
    (ha:s₁.heap.get? a=some { cls:=.type "list",data:=.seq vs.toArray }) (hi:IntsAre vs ns) (hl:ns.length≤sizeLine) (hr:Room k callerA)
    (F:∀ base:Heap,K.In base→base.Ns mainGlobals mg→FnOk P w K mg base CX k fa fd [x] sp) (hbind:∀ (s:Shared) (u:Value),BindsTo s fd ⟨[u],[]⟩ [(x,u)])
    (hsp:∀ H:Hp,Only H→SqL K H a (ns.map V.int)→sp [.ref a] H (fun v _=>v=.bl true) fun _ _ _=>False)
    (hCX:∀ H e s',CX [] H s₁ (fun _ _ _=>False) e s'→False) :
    codeAny (model P w) callerA (.call (.ref fa) ⟨[.ref a],[]⟩) (fun r s'=>r=.ok (.ret (.bool true))∧OldK s₁.heap s'.heap∧s'.os=s₁.os∧AllBare s'.gens) s₁:=by
  have rv:=zdI hi
  have lenV:=hi.length
  have core:∀ H:Hp,Only H→SqL K H a (ns.map V.int)→HOk P w H s₁.heap→(∀ b,H b≠none→b=a)→(H a≠none→K.lookup a=none) →
      codeAny (model P w) callerA (.call (.ref fa) ⟨[.ref a],[]⟩) (fun r s'=>r=.ok (.ret (.bool true))∧OldK s₁.heap s'.heap∧s'.os=s₁.os∧AllBare s'.gens) s₁:=by
    intro H hO hS hok hA hK
    have base_of:∀ {b:Addr}{o:Obj},s₁.heap.get? b=some o→H b=none→(hidT s₁.heap H).get? b=some o:=fun e n=>ziz e n
    have noA:∀ {b:Addr}{o:Obj}{es:Array DictEntry}{ep:Nat},s₁.heap.get? b=some o→o.data=.dict es ep→H b=none:=fun {b o es ep} e d=>by
      cases q:H b with
      | none=>rfl
      | some u =>
        have e':b=a:=hA b (by rw[q];simp)
        subst e'
        rw[ha]at e;cases e
        have d':Data.seq vs.toArray _=Data.dict es ep:=d
        cases d'
    have nsK:∀ {b:Addr}{m:Str→Option Value},s₁.heap.Ns b m→(hidT s₁.heap H).Ns b m:=fun {b m} ⟨o,es,ep,e,d,r⟩=>⟨o,es,ep,base_of e (noA e d),d,r⟩
    have hKb:K.In (hidT s₁.heap H):=fun b o e=>base_of (KX b o e) (by
      cases q:H b with
      | none=>rfl
      | some u =>
        have e':b=a:=hA b (by rw[q];simp)
        subst e'
        rw[hK (by rw[q];simp)]at e;cases e)
    have hM:Mod K mg (hidT s₁.heap H):=⟨hKb,nsK hns,⟨mb,nsK hb,hbb⟩,let ⟨mc,h1,h2⟩:=hlim;⟨mc,nsK h1,h2⟩⟩
    have e0:Env0 P w K mg (hidT s₁.heap H) callerA [] s₁ H:=⟨rfl,hM,fun b o e=>zjN e,Nat.le_of_eq (zhq _ _),trivial,fun b hb=>absurd (show b∈([]:List Addr) from hb) (by simp),hok,.of_eq hg⟩
    refine codeAny_mono ((F _ hKb (nsK hns)).run callerA [] s₁ H ⟨[.ref a],[]⟩ [.ref a] [.ref a] _ _ hr e0 (hbind s₁ (.ref a)) (.cons rfl .nil) (hsp H hO hS)) fun r s' h=>?_
    cases r with
    | error e=>exact(hCX H e s' h).elim
    | ok fl =>
      cases fl with
      | next=>exact False.elim h
      | brk=>exact False.elim h
      | cont=>exact False.elim h
      | ret u =>
        obtain⟨v,H',os,bare,un,hok',r',q⟩:=h
        have q':v=.bl true:=q
        subst q'
        obtain rfl:u=Value.bool true:=r'
        refine⟨rfl,OldK.of_keep fun b o e=>?_,os,bare⟩
        cases q:H b with
        | none=>exact un.keep b o e q (by intro z;exact absurd (show b∈([]:List Addr) from z) (by simp)) (by simp)
        | some u =>
          rcases hO b with z|⟨ob,xs,z⟩
          · rw[q]at z;cases z
          · have z2:=un.frzs b ob _ z
            obtain⟨e1,_⟩:=hok b _ z
            obtain⟨e2,_⟩:=hok' b _ z2
            rw[e]at e1;cases e1
            exact e2
  cases hk:K.lookup a with
  | some o =>
    have e:=KX a o hk
    rw[ha]at e
    cases e
    refine core (fun _=>none) (fun _=>.inl rfl) (.inr ⟨_,vs.toArray,_,hk,rfl,rfl,rfl,by rw[List.size_toArray,lenV];exact hl,by simpa using rv⟩) (fun b u z=>by have z':(none:Option HO)=some u:=z;cases z') (fun b z=>absurd rfl z) fun z=>absurd rfl z
  | none =>
    refine core (fun b=>if b=a then some (.frz { cls:=.type "list",data:=.seq vs.toArray } (.lst (ns.map V.int))) else none) (fun b=>?_) (.inl (.inr ⟨{ cls:=.type "list",data:=.seq vs.toArray },if_pos rfl⟩)) (fun b u z=>?_) (fun b z=>?_) fun _=>hk
    · by_cases hb:b=a
      · exact .inr ⟨_,_,if_pos hb⟩
      · exact .inl (if_neg hb)
    · by_cases hb:b=a
      · have z':=(if_pos hb).symm.trans z
        cases z'
        subst hb
        exact⟨ha,by rw[List.length_map];exact hl,vs,_,rv,ha⟩
      · have z':=(if_neg hb).symm.trans z
        cases z'
    · by_cases hb:b=a
      · exact hb
      · exact absurd (if_neg hb) z
abbrev KOf {K:PySem.W.Frag}{h:Heap}(_:K.In h):PySem.W.Frag:=K
theorem zf6 {l:PySem.W.OpenLaw}{n k:Nat}{q:Program}{loose:List Str}{XP:(Str→Option Value)→Heap→Prop}{YP:World→Heap→Prop}{d:DefRec}{K:Params→PySem.W.Frag}{CX:World→CXT}{sp:World→Sp}{x:Str}
    (hn:l.most=some n) (hn2:n≤sizeLine) (hdf:d.params.defaults=[]) (hr:Room k callerA)
    (hY:∀ (w:World) (h:Heap),YP w h→(K w.params).In h)
    (F:∀ (w:World) (mg:Str→Option Value) (fa:Addr) (h:Heap),(K w.params).In h→h.Ns mainGlobals mg→mg d.name=some (.ref fa) →
      ∃ fd:FuncData,(∀ (s:Shared) (u:Value),BindsTo s fd ⟨[u],[]⟩ [(x,u)]) ∧
        ∀ base:Heap,(K w.params).In base→base.Ns mainGlobals mg→FnOk l.prog w (K w.params) mg base (CX w) k fa fd [x] (sp w))
    (hsp:∀ (w:World) (H:Hp) (a:Addr) (ns:List Int),ns.length≤n→Only H→SqL (K w.params) H a (ns.map V.int)→sp w [.ref a] H (fun v _=>v=.bl true) fun _ _ _=>False)
    (hCX:∀ (w:World) (H:Hp) (s:Shared) (e:Value) (s':Shared),CX w [] H s (fun _ _ _=>False) e s'→False) :
    PySem.W.WalkO q loose XP YP l.row.toRowW d [] (fun f vs=>PySem.call f vs):=by
  refine Att.attach_call hn hdf fun w s₀ s₁ mg mb fa o pm cd doc a vs ns G Y ho hd hcd hmg hobj hints hlen hg=>?_
  have KX:=hY w _ Y
  obtain⟨fd,hb,hF⟩:=F w mg fa _ KX G.T.g hmg
  exact zix KX G.T.g G.T.b G.T.builtins G.T.nolimit hg hobj hints (Nat.le_trans hlen hn2) hr hF hb (fun H hO hS=>hsp w H a ns hlen hO hS) fun H e s'=>hCX w H s₁ e s'
theorem zhM {l:PySem.W.OpenLaw}{n k:Nat}{q:Program}{loose:List Str}{XP:(Str→Option Value)→Heap→Prop}{YP:World→Heap→Prop}{d:DefRec}{K:Params→PySem.W.Frag}{CX:CXT}{sp:PySem.W.Frag→Sp}{x:Str}
    (hn:l.most=some n) (hn2:n≤sizeLine) (hdf:d.params.defaults=[]) (hr:Room k callerA)
    (hY:∀ (w:World) (h:Heap),YP w h→(K w.params).In h)
    (F:∀ (w:World) (mg:Str→Option Value) (fa:Addr) (h:Heap),(K w.params).In h→h.Ns mainGlobals mg→mg d.name=some (.ref fa) →
      ∃ fd:FuncData,(∀ (s:Shared) (u:Value),BindsTo s fd ⟨[u],[]⟩ [(x,u)]) ∧
        ∀ base:Heap,(K w.params).In base→base.Ns mainGlobals mg→FnOk l.prog w (K w.params) mg base CX k fa fd [x] (sp (K w.params)))
    (hsp:∀ (K:PySem.W.Frag) (H:Hp) (a:Addr) (ns:List Int),ns.length≤n→Only H→SqL K H a (ns.map V.int)→sp K [.ref a] H (fun v _=>v=.bl true) fun _ _ _=>False)
    (hCX:∀ (H:Hp) (s:Shared) (e:Value) (s':Shared),CX [] H s (fun _ _ _=>False) e s'→False) :
    PySem.W.WalkO q loose XP YP l.row.toRowW d [] (fun f vs=>PySem.call f vs) :=
  zf6 (K:=K) (CX:=fun _=>CX) (sp:=fun w=>sp (K w.params)) hn hn2 hdf hr hY F (fun w H a ns h1 h2 h3=>hsp (K w.params) H a ns h1 h2 h3) fun _ H s e s'=>hCX H s e s'
end L2
/- THE LAST THEOREM (shape;LID,My.* are yours):
   My.Adr: a structure of the addresses that your layer names (classes,functions);My.Txt K t: a structure (Prop) of the equations over K;
   My.txt_mk:{K} {implicit addresses ..} (e1:nsIn K mainGlobals "law" = some (some (.ref f))) (e2:K.lookup f=some ⟨oc,od,.func (fnOf "law" "law" params body scope dV kV doc pm an cdv ct),sl⟩) (e3:codeIn K cdv "law" = true) ..:∃ t,My.Txt K t
set_option maxRecDepth 100000 in
set_option maxHeartbeats 0 in
theorem PySem.Challenge.cw_LID_holds : PySem.Challenge.rw_LID.Holds := by
  w_on;o_law;k_head;(case hw=>w_witness2)
  k_fill
  refine L2.zf6 (l:=PySem.Challenge.rw_LID) (n:=63) (k:=40) (x:="script") (CX:=fun w=>..) (sp:=fun _=>My.sp_law) rfl (by decide) rfl ⟨rfl,by decide,by decide⟩ (fun w h Y=>PySem.W.kIn_of Y) ?F ?S ?C
  case F =>
    intro w mg fa h KX G hmg
    have T:∃ t,My.Txt (L2.KOf KX) t:=by
      dsimp only[L2.KOf]                          -- K must stand as «<heap const> w.params» for k_is
      refine' My.txt_mk ?e1 ?e2 ?e3 ..
      (case e1=>PySem.W.k_is)                    -- in the order: a name -> its address -> its object -> its parts
      (case e2=>PySem.W.k_is)
      ..
    obtain⟨t,T⟩:=T
    have e0:=hmg.symm.trans (PySem.W.mg_of KX G T.law)
    cases e0                                       -- fa is the law's own address
    exact⟨_,fun s u=>.of_eq rfl,fun base kb nb=>My.law_fn T kb nb⟩     -- if «.of_eq rfl» comes too early: refine' ⟨_,?b,fun base kb nb=>My.law_fn T kb nb⟩;exact fun s u=>.of_eq rfl
  case S=>exact fun w H a ns hl hO hS=>..
  case C=>exact ..
(the tactic k_is has no namespace: write k_is) -/
namespace L2
open PySem PySem.Spec PyProof.Rows
def zb4 (s:Stmt):Arguments:=match s with
  | .FunctionDef _ a _ _ _ _ _ _ _ _=>a
  | _=>{ posonlyargs:=[],args:=[],vararg:=none,kwonlyargs:=[],kw_defaults:=[],kwarg:=none,defaults:=[] }
def zbz (s:Stmt):List Stmt:=match s with
  | .FunctionDef _ _ b _ _ _ _ _ _ _=>b
  | _=>[]
def zad (s:Stmt):Scope:=match s with
  | .FunctionDef _ _ _ _ _ _ sc _ _ _=>sc
  | _=>{ kind:=.function,names:=[],isGenerator:=false,isCoroutine:=false }
abbrev CX0:CXT:=fun _ _ _ _ _ _=>False
abbrev E0:XK:=fun _ _ _=>False
theorem pass0 {X:Cx}:Passes CX0 X E0:=fun _ _ _ _ _ _ _ h=>h.elim
structure Fun (K:PySem.W.Frag) (x qual:Str) (st:Stmt) (f:Addr) (fd:FuncData):Prop where
  ex:∃ (oc:Value) (od:Option Addr) (kV doc pm:Value) (an:Option Addr) (cdv ct:Value) (osl:Array (Option Value)),
    fd=PySem.W.fnOf x qual (zb4 st) (zbz st) (zad st) .none kV doc pm an cdv ct∧K.lookup f=some ⟨oc,od,.func fd,osl⟩∧PySem.W.codeIn K cdv qual=true
  kp:PySem.W.keepIn K (.ref f)=true
section
variable {P:Program}{w:World}{K:PySem.W.Frag}{mg:Str→Option Value}{base:Heap}
theorem Fun.ok {x qual:Str}{st:Stmt}{f:Addr}{fd:FuncData}{N ps:List Str}{k:Nat}{sp:Sp}(F:Fun K x qual st f fd) (S:FnScope N ps (zad st)) (len:∀ vs H Q E,sp vs H Q E→vs.length=ps.length)
    (hbody:∀ (cdv:Value) (A:Around) (outer:List Env) (s:Shared) (H:Hp) (vs:List V) (Q:VK) (E:XK),Room k (A.deeper (envOfC qual (zad st) s.heap.objs.size f cdv))→sp vs H Q E →
      ∃ t,PSs (cxOf CX0 P w K mg base N qual (zad st) f cdv A outer s H E).nox (zbz st) t∧t { nx:=fun _ H'=>Q .non H',rt:=Q } (zdM N vs) H):FnOk P w K mg base CX0 (k+1) f fd ps sp:=by
  obtain⟨oc,od,kV,doc,pm,an,cdv,ct,osl,rfl,lk,hcd⟩:=F.ex
  refine zlx lk hcd S len fun A outer s H vs Q E hr hsp=>?_
  obtain⟨t,h,q⟩:=hbody cdv A outer s H vs Q E hr hsp
  exact⟨t,h.nox,q⟩
theorem Fun.binds {x qual:Str}{st:Stmt}{f:Addr}{fd:FuncData}{ps:List Str}(F:Fun K x qual st f fd)
    (h:∀ (kV doc pm:Value) (an:Option Addr) (cdv ct:Value) (us:List Value),us.length=ps.length→bindArgs (PySem.W.fnOf x qual (zb4 st) (zbz st) (zad st) .none kV doc pm an cdv ct) ⟨us,[]⟩=pure (ps.zip us)):Binds K fd ps []:=by
  obtain⟨oc,od,kV,doc,pm,an,cdv,ct,osl,rfl,lk,hcd⟩:=F.ex
  exact .all (h kV doc pm an cdv ct)
theorem zkS {x qual:Str}{st:Stmt}{f:Addr}{oc:Value}{od an:Option Addr}{osl:Array (Option Value)}{kV doc pm cdv ct:Value}(l:K.lookup f=some ⟨oc,od,.func (PySem.W.fnOf x qual (zb4 st) (zbz st) (zad st) .none kV doc pm an cdv ct),osl⟩)
    (c:PySem.W.codeIn K cdv qual=true) (k:PySem.W.keepIn K (.ref f)=true):Fun K x qual st f (PySem.W.fnOf x qual (zb4 st) (zbz st) (zad st) .none kV doc pm an cdv ct):=⟨⟨oc,od,kV,doc,pm,an,cdv,ct,osl,rfl,l,c⟩,k⟩
end
section
variable {X:Cx}
theorem pv (i:Nat) {x:Str}{pos:Pos}(hN:X.N[i]?=some x:=by rfl) (hv:Vis X.env.scope x:=by first|exact Or.inl rfl|exact Or.inr (.inl rfl)|exact Or.inr (.inr rfl)) (hd:(x == ("__debug__":Str))=false:=by decide)
    (hcd:(x == ("__classdict__":Str))=false:=by decide):PE X (.Name x pos) (tVar i):=zkx hN hv hd hcd
end
theorem iteF {A B:Prop}(h:B):if false=true then A else B:=by
  rw[if_neg Bool.false_ne_true]
  exact h
theorem iteT {A B:Prop}(h:A):if true=true then A else B:=by
  rw[if_pos rfl]
  exact h
theorem ite2 {c A B:Prop} [Decidable c] (h1:c→A) (h2:¬ c→B):if c then A else B:=by
  by_cases h:c
  · rw[if_pos h]
    exact h1 h
  · rw[if_neg h]
    exact h2 h
def Same (H H':Hp):Prop:=∀ b o,H b=some o→H' b=some o
theorem Same.refl (H:Hp):Same H H:=fun _ _ h=>h
theorem Same.trans {H H1 H2:Hp}(a:Same H H1) (b:Same H1 H2):Same H H2:=fun c o h=>b c o (a c o h)
theorem Same.free {H H':Hp}(e:Same H H') {l:Addr}(h:H' l=Option.none):H l=Option.none:=by
  cases q:H l with
  | none=>rfl
  | some o =>
    rw[e l o q]at h
    cases h
end L2
set_option maxHeartbeats 4000001
namespace L2
open PySem PySem.Spec PyProof.Rows
def clOf (cells:List (Str × Addr)):List (Str × NameKind)→List (Str × Addr)→List (Str × Addr)
 | [],cs=>cs
 | (n,k)::r,cs=>if k == .free then clOf cells r ((n,(cells.lookup n).getD 0)::cs) else clOf cells r cs
theorem zdC {env:Env}:∀ (names:List (Str × NameKind)) (cs:List (Str × Addr)),(∀ y∈names,y.2=.free→∃ c,env.cells.lookup y.1=some c) →
  (forIn names cs fun x r=>match x with|(name,kind)=>if (kind == NameKind.free)=true then (do let a ← cellOf env name;pure (ForInStep.yield ((name,a)::r))) else pure (ForInStep.yield r):Sem (List (Str × Addr)))=pure (clOf env.cells names cs)
 | [],cs,_=>rfl
 | (n,k)::r,cs,h=>by
  rw[List.forIn_cons]
  by_cases e:(k == NameKind.free)=true
  ·obtain⟨c,hc⟩:=h (n,k) List.mem_cons_self (by simpa using e)
   have hcell:cellOf env n=pure c:=by
    have hc':env.cells.lookup n=some c:=hc
    unfold cellOf;rw[hc']
   simp only[e,if_true,hcell,pure_bind]
   rw[zdC r _ fun y hy=>h y (List.mem_cons_of_mem _ hy)]
   have hc':env.cells.lookup n=some c:=hc
   show _=pure (if (k == NameKind.free)=true then _ else _)
   rw[if_pos e,hc']
   rfl
  ·have ef:(k == NameKind.free)=false:=by simpa using e
   simp only[ef,Bool.false_eq_true,if_false,pure_bind]
   rw[zdC r _ fun y hy=>h y (List.mem_cons_of_mem _ hy)]
   show _=pure (if (k == NameKind.free)=true then _ else _)
   rw[if_neg e]
theorem zc5 {scope:Scope}{env:Env}(h:∀ y∈scope.names,y.2=.free→∃ c,env.cells.lookup y.1=some c):closureFor scope env=pure (clOf env.cells scope.names []):=by
 unfold closureFor
 show (forIn scope.names [] _ >>= fun r=>pure r)=_
 rw[bind_pure]
 exact zdC _ _ h
theorem zcn {cells:List (Str × Addr)}:∀ (names:List (Str × NameKind)) (cs:List (Str × Addr)) (x:Str) (c:Addr),(∀ y∈names,y.2=.free→∃ c,cells.lookup y.1=some c) →
  (∀ x c,cs.lookup x=some c→cells.lookup x=some c)→(clOf cells names cs).lookup x=some c→cells.lookup x=some c
 | [],cs,x,c,_,hs,e=>hs x c e
 | (n,k)::r,cs,x,c,h,hs,e=>by
  unfold clOf at e
  by_cases q:(k == NameKind.free)=true
  ·rw[if_pos q]at e
   obtain⟨c0,hc0⟩:=h (n,k) List.mem_cons_self (by simpa using q)
   refine zcn r _ x c (fun y hy=>h y (List.mem_cons_of_mem _ hy)) (fun x' c' e'=>?_) e
   rw[List.lookup_cons]at e'
   cases hx:x' == n with
   | true =>
    rw[hx]at e'
    have hx':x'=n:=by simpa using hx
    subst hx'
    have hc0':cells.lookup x'=some c0:=hc0
    rw[hc0']at e' ⊢
    exact e'
   | false =>
    rw[hx]at e'
    exact hs x' c' e'
  ·rw[if_neg q]at e
   exact zcn r _ x c (fun y hy=>h y (List.mem_cons_of_mem _ hy)) hs e
theorem zcJ {cells:List (Str × Addr)}:∀ (names:List (Str × NameKind)) (cs:List (Str × Addr)) (x:Str),(∃ c,cs.lookup x=some c)→∃ c,(clOf cells names cs).lookup x=some c
 | [],cs,x,e=>e
 | (n,k)::r,cs,x,e=>by
  unfold clOf
  by_cases q:(k == NameKind.free)=true
  ·rw[if_pos q]
   refine zcJ r _ x ?_
   rw[List.lookup_cons]
   cases hx:x == n with
   | true=>exact⟨_,rfl⟩
   | false=>exact e
  ·rw[if_neg q]
   exact zcJ r _ x e
theorem zbq {cells:List (Str × Addr)}:∀ (names:List (Str × NameKind)) (cs:List (Str × Addr)) (x:Str),names.lookup x=some .free→∃ c,(clOf cells names cs).lookup x=some c
 | [],cs,x,e=>by simp at e
 | (n,k)::r,cs,x,e=>by
  rw[List.lookup_cons]at e
  unfold clOf
  cases hx:x == n with
  | true =>
   rw[hx]at e
   have e':k=.free:=Option.some.inj e
   subst e'
   rw[if_pos (by decide)]
   refine zcJ r _ x ?_
   rw[List.lookup_cons,hx]
   exact⟨_,rfl⟩
  | false =>
   rw[hx]at e
   by_cases q:(k == NameKind.free)=true
   ·rw[if_pos q];exact zbq r _ x e
   ·rw[if_neg q];exact zbq r _ x e
def ziZ (env:Env) (p:Str × NameKind):Bool:=p.2 == .free && env.scope.kind == .function && env.kindOf p.1 == some .cell
def zb3 (env:Env) (p:Str × NameKind):Str × NameKind:=if ziZ env p=true then (p.1,.cell) else p
theorem zcG (env:Env) (p:Str × NameKind):(zb3 env p).1=p.1:=by unfold zb3;split<;>rfl
theorem zcF (env:Env) (p:Str × NameKind):(zb3 env p).2=p.2∨((zb3 env p).2=.cell∧p.2=.free):=by
 unfold zb3
 split
 ·rename_i h
  refine .inr ⟨rfl,?_⟩
  unfold ziZ at h
  cases e:p.2<;>simp[e]at h<;>rfl
 ·exact .inl rfl
theorem zbK (scope:Scope) (env:Env):(relabel scope env).names=scope.names.map (zb3 env):=rfl
theorem zdt {f:Str × NameKind→Str × NameKind}(hf:∀ p,(f p).1=p.1):∀ (l:List (Str × NameKind)) (x:Str),(l.map f).lookup x=none∧l.lookup x=none∨∃ p∈l,(l.map f).lookup x=some (f p).2∧l.lookup x=some p.2
 | [],_=>.inl ⟨rfl,rfl⟩
 | p::r,x=>by
  have e1:((p::r).map f).lookup x=if x == p.1 then some (f p).2 else (r.map f).lookup x:=by
   show List.lookup x (((f p).1,(f p).2)::r.map f)=_
   rw[List.lookup_cons,hf p];cases x == p.1<;>rfl
  have e2:(p::r).lookup x=if x == p.1 then some p.2 else r.lookup x:=by
   show List.lookup x ((p.1,p.2)::r)=_
   rw[List.lookup_cons];cases x == p.1<;>rfl
  rw[e1,e2]
  cases x == p.1
  ·rcases zdt hf r x with z|⟨q,hq,z⟩
   ·exact .inl z
   ·exact .inr ⟨q,List.mem_cons_of_mem _ hq,z⟩
  ·exact .inr ⟨p,List.mem_cons_self,rfl,rfl⟩
theorem zaW {scope:Scope}{env:Env}{x:Str}{k':NameKind}(h:(relabel scope env).names.lookup x=some k'):scope.names.lookup x=some k'∨(k'=.cell∧scope.names.lookup x=some .free):=by
 rw[zbK]at h
 rcases zdt (zcG env) scope.names x with ⟨z,_⟩|⟨p,_,z,e⟩
 ·rw[z]at h;cases h
 ·rw[z]at h
  obtain rfl:=Option.some.inj h
  rcases zcF env p with q|⟨q,q'⟩
  ·rw[q];exact .inl e
  ·exact .inr ⟨q,by rw[e,q']⟩
theorem zb7 {scope:Scope}{env:Env}{x:Str}(h:scope.names.lookup x=some .free):(relabel scope env).names.lookup x=some .cell∨(relabel scope env).names.lookup x=some .free:=by
 rw[zbK]
 rcases zdt (zcG env) scope.names x with ⟨_,z⟩|⟨p,_,z,e⟩
 ·rw[z]at h;cases h
 ·rw[e]at h
  rcases zcF env p with q|⟨q,_⟩
  ·rw[z,q,h];exact .inr rfl
  ·rw[z,q];exact .inl rfl
def zaC (X:Cx) (N':List Str) (scope:Scope) (C:Addr) (s₀:Shared) (H₀:Hp) (fp:List Addr) (pins:List (Addr × Obj)):Cx :=
 { X with N:=N',s₀:=s₀,H₀:=H₀,env:=compEnvC scope (clOf X.env.cells scope.names []) C X.env,outer:=X.stack,stack:=X.stack,ex:=fp,fn:=fun _=>false,pn:=X.pn++pins,xe:=fun _ _=>False }
def capσ (cap:List (Option Nat)) (σ:St):St:=cap.map fun o=>match o with|some i=>(match σ[i]? with|some v=>v|none=>none)|none=>none
def tst (M:Model) (A:Around) (env:Env) (E:Value→Shared→Prop) (o:Option Expr) (Q:Bool→Shared→Prop) (s:Shared):Prop:=match o with
 | none=>Q true s
 | some c=>wpAny M A (isTrue c env (eval c env)) Q E s
theorem ze5 {M:Model}{A:Around}{env:Env}{E:Value→Shared→Prop}{o:Option Expr}{Q Q':Bool→Shared→Prop}{s:Shared}(h:tst M A env E o Q s) (k:∀ b z,Q b z→Q' b z):tst M A env E o Q' s:=by
 cases o with
 | none=>exact k _ _ h
 | some c=>exact thn h k
def PTo (X:Cx) (o:Option Expr) (t:TT):Prop :=
 ∀ (pins:List (Addr × Obj)) (s:Shared) (σ:St) (H:Hp) (Q:Bool→Hp→Prop),Inv X pins σ H s→t σ H Q→tst (model X.prog X.w) X.A X.env X.xe o (TP X pins σ Q) s
def tYes:TT:=fun _ H Q=>Q true H
theorem zbx {X:Cx}:PTo X none tYes:=fun _ _ _ H _ I h=>⟨H,I,h⟩
theorem zju {X:Cx}{c:Expr}{t:TT}(h:PT X c t):PTo X (some c) t:=fun pins s σ H Q I hw=>h pins s σ H Q I hw
abbrev NoX:Value→Shared→Prop:=fun _ _=>False
def Go (M:Model) (A:Around) (tg elt:Expr) (o:Option Expr) (it acc:Value) (env:Env) (R:Result→Shared→Prop) (onward:Shared→Prop) (s:Shared):Prop :=
 wpAny M A (pyNext it) (fun r a=>match r with
  | none=>R (.ok .next) a
  | some v=>wpAny M A (letOwnedTupleGo tg it v) (fun _ b=>wpAny M A (assign tg env v) (fun _ c=>tst M A env NoX o (fun yes d =>
    if yes=true then wpAny M A (eval elt env) (fun x e=>wpAny M A (call (.builtin "list.append") [acc,x]) (fun _ f=>onward f) NoX e) NoX d else onward d) c) NoX b) NoX a) NoX s
theorem zhG {prog:Program}{w:World}{A:Around}{R:Result→Shared→Prop}{s:Shared}{elt tg iter:Expr}{o:Option Expr}{scope:Scope}{pos:Pos}{it acc:Value}{env:Env}(J:Nat→Shared→Prop)
  (turn:∀ n s,J n s→Go (model prog w) A tg elt o it acc env R (fun z=>∃ m,m<n∧J m z) s) (n:Nat) (h:J n s) :
  codeAny (model prog w) A (.compLoop (.ListComp elt [⟨tg,iter,o.toList,0⟩] scope pos) 0 it acc env) R s:=by
 cases o with
 | none =>
  refine PySem.W.kcp_loop J (fun n a ha=>wpAny_mono (turn n a ha) (fun r b hb=>?_) fun _ _ z=>z.elim) n h
  cases r with
  | none=>exact hb
  | some v=>exact wpAny_mono hb (fun _ c hc=>wpAny_mono hc (fun _ d hd=>wpAny_mono (show wpAny _ _ _ _ _ d from hd) (fun x e he=>wpAny_mono he (fun _ _ q=>q) fun _ _ z=>z.elim) fun _ _ z=>z.elim) fun _ _ z=>z.elim) fun _ _ z=>z.elim
 | some t =>
  refine PySem.W.kct_loop J (fun n a ha=>wpAny_mono (turn n a ha) (fun r b hb=>?_) fun _ _ z=>z.elim) n h
  cases r with
  | none=>exact hb
  | some v =>
   refine wpAny_mono hb (fun _ c hc=>wpAny_mono hc (fun _ d hd=>wpAny_mono (show wpAny _ _ _ _ _ d from hd) (fun yes e he=>?_) fun _ _ z=>z.elim) fun _ _ z=>z.elim) fun _ _ z=>z.elim
   cases yes
   ·exact he
   ·exact wpAny_mono (show wpAny _ _ _ _ _ e from he) (fun x f hf=>wpAny_mono hf (fun _ _ q=>q) fun _ _ z=>z.elim) fun _ _ z=>z.elim
structure CapOk (N N':List Str) (sc scope:Scope) (cap:List (Option Nat)):Prop where
 kind:scope.kind=.function
 nocell:∀ y∈scope.names,y.2≠.cell
 names:∀ y∈scope.names,y.2=.local → scope.names.lookup y.1=some .local
 free:∀ y∈scope.names,y.2=.free→sc.names.lookup y.1=some .cell∨sc.names.lookup y.1=some .free
 len:cap.length=N'.length
 cap:∀ p∈N'.zip cap,∀ i,p.2=some i→N[i]?=some p.1∧scope.names.lookup p.1=some .free∧(sc.names.lookup p.1=some .cell∨sc.names.lookup p.1=some .free)
theorem zb2 {α:Type}:∀ {l:List (Str × α)}{x:Str}{a:α},l.lookup x=some a→(x,a)∈l
 | [],_,_,h=>by simp at h
 | (n,k)::r,x,a,h=>by
  rw[List.lookup_cons]at h
  cases hx:x == n with
  | true =>
   rw[hx]at h
   have e:k=a:=Option.some.inj h
   have e2:x=n:=by simpa using hx
   subst e e2
   exact List.mem_cons_self
  | false=>rw[hx]at h;exact List.mem_cons_of_mem _ (zb2 h)
def LCW (J:It) (g:TG) (tt:TT) (te:TE) (l:Addr) (Q:VK) (W:Nat→Nat→List V→St→Hp→Prop):Prop :=
 ∀ i m acc σ' H',W i m acc σ' H'→H' l=some (.lst acc) ∧
  ((J.stop i H'∧Q (.ref l) H')∨(J.go i H'∧∀ x H2,J.yld i H' x H2→g x σ' H2 fun σ3 H3=>tt σ3 H3 fun b H4 =>
   if b=true then te σ3 H4 fun y H5=>H5 l=some (.lst acc)∧acc.length<sizeLine∧∃ m',m'<m∧W (i+1) m' (acc++[y]) σ3 (upd H5 l (.lst (acc++[y])))
   else ∃ m',m'<m∧W (i+1) m' acc σ3 H4))
def tLC (cap:List (Option Nat)) (wi:TI) (g:TG) (tt:TT) (te:TE):TE:=fun σ H Q=>wi σ H fun J H1=>∀ l,H1 l=none →
 ∃ W:Nat→Nat→List V→St→Hp→Prop,(∃ m,W 0 m [] (capσ cap σ) (upd H1 l (.lst [])))∧LCW J g tt te l Q W
theorem zhk {X:Cx}{elt tg iter:Expr}{o:Option Expr}{scope:Scope}{pos ppos:Pos}{wi:TI}{g:TG}{tt:TT}{te:TE}{N':List Str}{cap:List (Option Nat)}{use:Option (Value→Sem Unit)}{Q0:Value→Shared→Prop}
  (hc:X.calm=true) (hi:PI X tg iter wi) (ck:CapOk X.N N' X.env.scope scope cap)
  (hg:∀ C s₀ H₀ fp pins,PG (zaC X N' scope C s₀ H₀ fp pins) tg g)
  (ht:∀ C s₀ H₀ fp pins,PTo (zaC X N' scope C s₀ H₀ fp pins) o tt)
  (he:∀ C s₀ H₀ fp pins,PE (zaC X N' scope C s₀ H₀ fp pins) elt te)
  (hs:∀ x,foldedSetIterable iter X.env x=pure x) {pins:List (Addr × Obj)}{s:Shared}{σ:St}{H:Hp}{Q:VK}(I:Inv X pins σ H s) (h:tLC cap wi g tt te σ H Q)
  (fin:∀ (l C:Addr) (H4:Hp) (s5:Shared) (m:Str→Option Value),Inv X pins σ H4 s5→Q (.ref l) H4→s5.heap.Ns C m→FpOk X pins H4 C→compPost (model X.prog X.w) X.A X.xe use Q0 (.ref l) C (.ok .next) s5) :
  wpAny (model X.prog X.w) X.A (comprehension (.ListComp elt [⟨tg,iter,o.toList,0⟩] scope pos) scope X.env ppos (newList []) false (eval iter X.env) use) Q0 X.xe s:=by
 have hcells:∀ y∈scope.names,y.2=.free→∃ c,X.env.cells.lookup y.1=some c:=fun y hy hf=>I.ok.has y.1 (ck.free y hy hf)
 refine wpAny_comprehension_free (use:=use) rfl hs (zc5 hcells) ck.kind ck.names (thn (hi pins s σ H _ I h) fun v s1 h1=>thn h1 fun itv s2 h2=>?_)
 obtain⟨it,fp,tn,J,H2,e,I2,T,st2,f2,body⟩:=h2
 subst e
 have hfr2:H2 s2.heap.objs.size=none:=I2.hok.fresh (Nat.le_refl _)
 obtain⟨W,⟨m0,w0⟩,turn⟩:=body s2.heap.objs.size hfr2
 have I3:Inv X pins σ (upd H2 s2.heap.objs.size (.lst [])) { s2 with heap:=s2.heap.push { cls:=.type "list",data:=.seq ([]:List Value).toArray },toks:=s2.toks }:=I2.lnew (its:=[]) (t':=s2.toks) .nil (Nat.zero_le _)
 refine wpAny_newObj_type (wpAny_newFunctionEnv ck.nocell (by intro y hy;simp at hy) (fun h₁ hns₁ hsb₁=>?_) ck.kind)
 dsimp only at hns₁ hsb₁ ⊢
 generalize hl:s2.heap.objs.size=l at *
 generalize hP:s2.heap.push { cls:=.type "list",dict:=none,data:=.seq ([]:List Value).toArray }=P2 at *
 generalize hH3:upd H2 l (.lst [])=H3 at *
 have old:∀ b o,P2.get? b=some o→h₁.get? b=some o:=fun b o e=>hsb₁.extBut b o (Nat.ne_of_lt (Heap.lt_size e)) (Heap.get?_push_of_some _ e)
 have old2:∀ b o,s2.heap.get? b=some o→P2.get? b=some o:=fun b o e=>hP ▸ Heap.get?_push_of_some _ e
 have fpl:∀ b∈fp,b<l:=fun b hb=>by
  obtain⟨o,e,_⟩:=T.obj _ _ st2 b hb
  rw[← hl];exact Heap.lt_size e
 have fp3:∀ b∈fp,H3 b=none:=fun b hb=>by
  rw[← hH3,zae (Nat.ne_of_lt (fpl b hb))];exact(f2 b hb).1
 have hPs:P2.objs.size=l+1:=by rw[← hP,Heap.size_push,hl]
 have subc:∀ x c,(clOf X.env.cells scope.names []).lookup x=some c→X.env.cells.lookup x=some c:=fun x c e=>zcn _ _ x c hcells (fun _ _ z=>by simp at z) e
 generalize hs3:({ s2 with heap:=P2,toks:=s2.toks }:Shared)=s3 at *
 have hs3h:s3.heap=P2:=by rw[← hs3]
 let Y:=zaC X N' scope P2.objs.size s3 H3 fp pins
 have hYok:Y.Ok:=by
  refine⟨I3.ok.mod,ck.kind,I3.ok.glob,I3.ok.blt,by show s3.heap.objs.size≤P2.objs.size;rw[hs3h];exact Nat.le_refl _,fun x y c e1 e2=>I3.ok.inj x y c (subc x c e1) (subc y c e2),fun x hx=>?_,fun x c hx=>absurd (show false=true from hx) Bool.false_ne_true,I3.ok.hd,I3.ok.frames,.inl rfl,fun b hb=>⟨?_,fun x c e=>?_⟩,I3.bs,
   Nat.le_trans I3.ok.bsz I3.sz,fun b o e hb=>?_,fun b hb hz=>?_,I3.stack,I3.stkFree⟩
  ·have hx':scope.names.lookup x=some .free:=by
    rcases hx with hx|hx
    ·rcases zaW hx with z|z
     ·exact absurd rfl (ck.nocell _ (zb2 z))
     ·exact z.2
    ·rcases zaW hx with z|z
     ·exact z
     ·exact z.2
   exact zbq _ _ x hx'
  ·exact Nat.ne_of_lt (by show b<P2.objs.size;rw[hPs];exact Nat.lt_succ_of_lt (fpl b hb))
  ·exact(f2 b hb).2.2.2.2.1 x c (subc x c e)
  ·rcases (f2 b hb).2.2.2.1 with z|z
   ·exact I3.ok.noex b o e z
   ·exact absurd (Nat.lt_of_lt_of_le (Heap.lt_size e) (Nat.le_trans I3.ok.bsz z)) (Nat.lt_irrefl _)
  ·rcases List.mem_cons.mp (I3.stkSub b hz) with z|z
   ·exact(f2 b hb).2.1 z
   ·exact(f2 b hb).2.2.1 z
 have hYi:Inv Y [] (capσ cap σ) H3 { s2 with heap:=h₁,toks:=s2.toks }:=by
  refine⟨hYok,by show s2.os=s3.os;rw[← hs3],I2.bare,by show Un _ _ _ _ s3.heap h₁;rw[hs3h];exact Un.kept old,⟨_,hns₁,fun j x v e1 e2 e3=>?_⟩,fun x c e=>?_,?_,fun x c e=>I3.freeC x c (subc x c e),fun p hp=>?_,fun b o e=>?_,?_⟩
  ·have e1':N'[j]?=some x:=e1
   unfold capσ at e2
   rw[List.getElem?_map]at e2
   cases ec:cap[j]? with
   | none=>rw[ec]at e2;cases e2
   | some oc =>
    rw[ec]at e2
    cases oc with
    | none=>cases e2
    | some i =>
     have e2':σ[i]?=some (some v):=by
      cases ei:σ[i]? with
      | none=>simp[ei]at e2
      | some v' =>
       simp[ei]at e2
       rw[e2]
     have hz:(x,some i)∈N'.zip cap:=by
      refine List.mem_of_getElem? (i:=j) ?_
      rw[List.getElem?_zip_eq_some]
      exact⟨e1',ec⟩
     obtain⟨hN,hf,hk⟩:=ck.cap _ hz i rfl
     obtain⟨m,hn,hlo⟩:=I3.loc
     obtain⟨u,r,lk⟩:=hlo i x v hN e2' (by rcases hk with z|z;exact .inr (.inl z);exact .inr (.inr z))
     refine⟨u,r,.inr ⟨?_,?_⟩⟩
     ·exact zb7 hf
     ·rcases lk with ⟨z,_⟩|⟨_,c,hcx,hcell⟩
      ·have z':X.env.scope.names.lookup x=some .local:=z
       rcases hk with q|q
       ·rw[q]at z';cases z'
       ·rw[q]at z';cases z'
      ·obtain⟨c',hc'⟩:=zbq (cells:=X.env.cells) scope.names [] x hf
       have:=subc x c' hc'
       rw[hcx]at this;cases this
       obtain⟨ob,e,d⟩:=hcell
       rw[hs3h]at e
       exact⟨c,hc',ob,old c ob e,d⟩
  ·obtain⟨v,ob,e',d⟩:=I3.cell x c (subc x c e)
   rw[hs3h]at e'
   exact⟨v,ob,old c ob e',d⟩
  ·refine I3.hok.fresh ?_
   rw[hs3h];exact Nat.le_refl _
  ·have hp':p∈X.pn++pins:=(List.mem_append.mp hp).elim (fun z=>z) (fun z=>nomatch z)
   obtain⟨e,n,ne,nf,d⟩:=I3.pin p hp'
   rw[hs3h]at e
   refine⟨old _ _ e,n,Nat.ne_of_lt (Heap.lt_size e),fun z=>?_,d⟩
   rcases List.mem_cons.mp (I3.stkSub _ z) with q|q
   ·exact ne q
   ·exact nf q
  ·have:=I3.hok.kept (h':=h₁) (fun b u q=>old b u (by rw[← hs3h];exact q))
   exact this b o e
  ·show (cap.map _).length=N'.length
   rw[List.length_map,ck.len]
 have stat:∀ {H':Hp},(∀ b∈fp,H' b=none)→∀ b∈fp,FpOk Y [] H' b:=fun {H'} hn b hb=>by
  refine⟨hn b hb,(hYok.exf b hb).1,hYok.exfs b hb,.inl hb,(hYok.exf b hb).2,fun p hp=>?_⟩
  have hp':p∈X.pn++pins:=(List.mem_append.mp hp).elim (fun z=>z) (fun z=>nomatch z)
  exact(f2 b hb).2.2.2.2.2 p hp'
 have st1:tn 0 h₁:=T.keep 0 _ _ st2 fun b hb o e=>old b o (old2 b o e)
 have loop:codeAny (model X.prog X.w) X.A (.compLoop (.ListComp elt [⟨tg,iter,o.toList,0⟩] scope pos) 0 (.ref it) (.ref l) Y.env) (compPost (model X.prog X.w) X.A X.xe use Q0 (.ref l) P2.objs.size) { s2 with heap:=h₁,toks:=s2.toks }:=by
  refine zhG (fun n s'=>∃ i acc σ' H',Inv Y [] σ' H' s'∧tn i s'.heap∧(∀ b∈fp,H' b=none)∧W i n acc σ' H') ?_ m0 ⟨0,[],_,H3,hYi,st1,fp3,w0⟩
  rintro n s4 ⟨i,acc,σ4,H4,I4,st4,fr4,w4⟩
  obtain⟨hlst,q4⟩:=turn i n acc σ4 H4 w4
  rcases q4 with ⟨stop,qn⟩|⟨go,step⟩
  ·refine thn (T.done Y rfl rfl rfl hc i [] s4 σ4 H4 Y.xe I4 (stat fr4) st4 stop) fun r s5 ⟨hr,I5⟩=>?_
   subst hr
   obtain⟨m,hn,_⟩:=id I5.loc
   have un:Un (frs X.stack) fp H3 H4 s3.heap s5.heap:=I5.base
   have sz3:s3.heap.objs.size≤P2.objs.size:=by rw[hs3h];exact Nat.le_refl _
   have IX:Inv X pins σ H4 s5:=I3.call' (ch:=fp) I5.os un I5.hok I5.bare fun b hb=>⟨(f2 b hb).2.2.2.1,(f2 b hb).2.1,(f2 b hb).2.2.2.2.1,(f2 b hb).2.2.2.2.2⟩
   exact fin l P2.objs.size H4 s5 m IX qn hn (I3.fpOk sz3 I5.free)
  ·refine thn (T.item Y rfl rfl rfl hc i [] s4 σ4 H4 Y.xe I4 (stat fr4) st4 go) fun r s5 ⟨u,hr,h5⟩=>?_
   subst hr
   refine thn h5 fun _ s6 ⟨x,H6,I6,r6,y6,st6,fr6⟩=>?_
   have I6':=I6.pinned (stat fr6) (T.obj _ _ st6)
   refine thn (hg _ _ _ _ _ _ s6 σ4 H6 x u _ I6' r6 (step x H6 y6)) fun _ s7 ⟨σ7,H7,I7,q7⟩=>?_
   refine ze5 (ht _ _ _ _ _ _ s7 σ7 H7 _ I7 q7) fun b s8 ⟨H8,I8,q8⟩=>?_
   have again:∀ {σ9:St}{H9:Hp}{s9:Shared}{acc9:List V},Inv Y ([]++zb8 fp s6.heap) σ9 H9 s9→(∃ m',m'<n∧W (i+1) m' acc9 σ9 H9)→∃ m,m<n∧∃ i acc σ' H',Inv Y [] σ' H' s9∧tn i s9.heap∧(∀ b∈fp,H' b=none)∧W i m acc σ' H':=fun {σ9 H9 s9 acc9} I9 ⟨m',hm,w9⟩=>by
    refine⟨m',hm,i+1,acc9,σ9,H9,I9.unpinned,T.keep _ _ _ st6 fun b hb o e=>(I9.pin (b,o) (List.mem_append_right _ (List.mem_append_right _ (zaD hb e)))).1,fun b hb=>?_,w9⟩
    obtain⟨o,e,d⟩:=T.obj _ _ st6 b hb
    exact(I9.pin (b,o) (List.mem_append_right _ (List.mem_append_right _ (zaD hb e)))).2.1
   cases b with
   | false =>
    rw[if_neg Bool.false_ne_true]at q8 ⊢
    exact again I8 q8
   | true =>
    rw[if_pos rfl]at q8 ⊢
    refine thn (he _ _ _ _ _ _ s8 σ7 H8 _ I8 q8) fun yv s9 ⟨y,H9,I9,r9,hl9,hz9,q9⟩=>?_
    refine thn (mt_append (X:=Y) _ s9 σ7 H9 (.ref l) [y] (.ref l) [yv] (fun _ H'=>H'=upd H9 l (.lst (acc++[y]))) I9 rfl (.cons r9 .nil) ⟨l,acc,y,rfl,rfl,hl9,hz9,rfl⟩) fun _ s10 ⟨_,H10,I10,_,e10⟩=>?_
    subst e10
    exact again I10 q9
 exact codeAny_compStart_list loop (T.self X.A 0 _ _ _ st1 loop)
theorem Inv.gone {X:Cx}{pins:List (Addr × Obj)}{σ:St}{H:Hp}{s:Shared}{C:Addr}{h':Heap}(I:Inv X pins σ H s) (f:FpOk X pins H C) (sb:Heap.SameBut C s.heap h'):Inv X pins σ H { s with heap:=h' } :=
 I.turned (t':=s.toks) (fun b o hb e=>(sb.2 b hb).trans e) f.1 f.2.1 f.2.2.2.1 f.2.2.2.2.1 f.2.2.2.2.2
theorem pe_lc {X:Cx}{elt tg iter:Expr}{o:Option Expr}{scope:Scope}{pos:Pos}{wi:TI}{g:TG}{tt:TT}{te:TE}{N':List Str}{cap:List (Option Nat)}
  (hc:X.calm=true) (hi:PI X tg iter wi) (ck:CapOk X.N N' X.env.scope scope cap)
  (hg:∀ C s₀ H₀ fp pins,PG (zaC X N' scope C s₀ H₀ fp pins) tg g)
  (ht:∀ C s₀ H₀ fp pins,PTo (zaC X N' scope C s₀ H₀ fp pins) o tt)
  (he:∀ C s₀ H₀ fp pins,PE (zaC X N' scope C s₀ H₀ fp pins) elt te)
  (hs:∀ x,foldedSetIterable iter X.env x=pure x:=by intro _;rfl) :
  PE X (.ListComp elt [⟨tg,iter,o.toList,0⟩] scope pos) (tLC cap wi g tt te):=by
 intro pins s σ H Q I h
 rw[eval_ListComp]
 exact zhk (use:=none) hc hi ck hg ht he hs I h fun l C H4 s5 m I5 q hn f=>⟨m,hn,fun h' sb=>⟨.ref l,H4,I5.gone f sb,rfl,q⟩⟩
theorem zhX {X:Cx}{i:Nat}{y:Str}{elt tg iter:Expr}{o:Option Expr}{scope:Scope}{pos spos py:Pos}{wi:TI}{g:TG}{tt:TT}{te:TE}{N':List Str}{cap:List (Option Nat)}
  (hN:X.N.Nodup) (hi':X.N[i]?=some y) (hy:X.env.scope.names.lookup y=some .local) (hc:X.calm=true) (hi:PI X tg iter wi) (ck:CapOk X.N N' X.env.scope scope cap)
  (hg:∀ C s₀ H₀ fp pins,PG (zaC X N' scope C s₀ H₀ fp pins) tg g)
  (ht:∀ C s₀ H₀ fp pins,PTo (zaC X N' scope C s₀ H₀ fp pins) o tt)
  (he:∀ C s₀ H₀ fp pins,PE (zaC X N' scope C s₀ H₀ fp pins) elt te)
  (hs:∀ x,foldedSetIterable iter X.env x=pure x:=by intro _;rfl)
  (hsw:swapsWith (.ListComp elt [⟨tg,iter,o.toList,0⟩] scope pos) (some (.Name y py)) spos.line X.env=pure true:=by with_unfolding_all rfl) :
  PS X (.Assign [.Name y py] (.ListComp elt [⟨tg,iter,o.toList,0⟩] scope pos) spos) (tAsg (tLC cap wi g tt te) (zdw i)):=by
 intro pins s σ H D I h
 rw[exec_Assign_Name_used y py _ spos hsw]
 refine wpAny_bind (wpAny_standAt (wpAny_bind (wpAny_bind (thn (zhk (use:=some (assign (.Name y py) X.env)) (Q0:=fun _ z=>SP X pins D .next z) hc hi ck hg ht he hs I h fun l C H4 s5 m I5 q hn f=>?_) fun _ z hz=>wpAny_pure (wpAny_pure hz)))))
 refine wpAny_assign_Name (zdL (v:=.ref l) I5 hN hi' (.inl hy) rfl (fun s6 I6 ⟨a,sb,ha⟩=>?_) (.inr hy))
 have nC:C≠a:=by
  rcases ha with z|z
  ·rw[z];exact f.2.1
  ·exact fun w=>f.2.2.2.2.1 y a z w.symm
 have hn6:s6.heap.Ns C m:=hn.sameBut sb nC
 exact⟨m,hn6,fun h' sb'=>⟨_,H4,I6.gone f sb',q⟩⟩
end L2
namespace Own
open PySem PySem.Spec PyProof.Rows
section
variable {M:Model}{prog:Program}{w:World}{A:Around}{E:Value→Shared→Prop}{s:Shared}{α:Type}{Q:α→Shared→Prop}
theorem rf {a:Addr}{o:Obj}{vs:Array Value}{x:Value}{f:Value→Sem α}(k:Nat) (ho:s.heap.get? a=some o) (hd:o.data=.fields vs) (hx:vs[k]?=some x) (h:wpAny M A (f x) Q E s) :
  wpAny M A (field (.ref a) k >>= f) Q E s:=wpAny_bind (wpAny_field ho hd hx h)
theorem nx {T id:String}{B:Builtin}{it:Addr}{P:Value→Shared→Prop}(slot:Slot T "__next__" id) (ty:s.TypeIs (.ref it) T) (en:entryFor table id=some B) (ok:argsOk id ⟨[.ref it],[]⟩)
  (h:wpAny (model prog w) A.in1 (B ⟨[.ref it],[]⟩) (fun r s'=>∃ v,r=.done (.ret v)∧P v s') E s):wpAny (model prog w) A (Builtin.SmallTypes.nextOf (.ref it)) P E s:=by
 unfold Builtin.SmallTypes.nextOf;refine wpAny_bind (wpAny_callSpecial?_slot (name:="__next__") ty slot (wpAny_call_entry slot ty en (thn2 h) ok))
where
 thn2 {B':Sem Fin}{P:Value→Shared→Prop}{A':Around}(h:wpAny (model prog w) A' B' (fun r s'=>∃ v,r=.done (.ret v)∧P v s') E s) :
   wpAny (model prog w) A' B' (fun r s'=>∃ v,r=.done (.ret v)∧wpAny (model prog w) A (pure v) P E s') E s :=
  wpAny_mono h (fun _ _ ⟨v,e,q⟩=>⟨v,e,wpAny_pure q⟩) fun _ _ z=>z
end
theorem ends {A:Around}{E:Value→Shared→Prop}{prog:Program}{w:World}{s:Shared}{α:Type}{Q:α→Shared→Prop}(hh:A.handled=none)
  (h:∀ h' x,(∀ b o,s.heap.get? b=some o→h'.get? b=some o)→(∃ o,h'.get? x=some o∧o.cls=.type "StopIteration")→E (.ref x) { s with heap:=h' }) :
  wpAny (model prog w) A (Builtin.SmallTypes.stopIteration:Sem α) Q E s:=by
 unfold Builtin.SmallTypes.stopIteration newExc newTuple
 refine wpAny_bind (wpAny_bind (wpAny_newObj_type ?_ (by size_fits)))
 refine wpAny_bind (wpAny_of_eq (a:=Value.none) (by rfl) (wpAny_newObj_type (wpAny_raiseNew_none hh (h _ _ (fun b o e=>?_) ⟨_,Heap.get?_push_size _ rfl,rfl⟩)) (by size_fits)))
 exact Heap.get?_push_of_some _ (Heap.get?_push_of_some _ e)
def cN:Bool→String
 | true=>"list_iterator"
 | false=>"tuple_iterator"
abbrev RIt (b:Bool) (h:Heap) (it a:Addr) (i:Int):Prop:=h.get? it=some { cls:=.type (cN b),dict:=none,data:=.fields #[.ref a,.int i 0],slots:=#[] }
def SqO:Bool→Heap→Addr→Array Value→Prop
 | true,h,a,xs=>h.IsList a xs
 | false,h,a,xs=>h.IsTuple a xs
theorem SqO.ob {b:Bool}{h:Heap}{a:Addr}{xs:Array Value}(x:SqO b h a xs):∃ o n,h.get? a=some o∧o.data=.seq xs n:=by
 cases b<;>(obtain⟨o,e,_,n,d⟩:=x;exact⟨o,n,e,d⟩)
theorem SqO.mv {b:Bool}{h h':Heap}{a:Addr}{xs:Array Value}(x:SqO b h a xs) (k:∀ o,h.get? a=some o→h'.get? a=some o):SqO b h' a xs:=by
 cases b<;>(obtain⟨o,e,r⟩:=x;exact⟨o,k o e,r⟩)
theorem SqO.ne {b b':Bool}{h:Heap}{a it a':Addr}{i:Int}{xs:Array Value}(x:SqO b h a xs) (y:RIt b' h it a' i):a≠it:=fun z=>by
 obtain⟨o,n,e,d⟩:=x.ob
 rw[z,y]at e;cases e;cases d
section
variable {prog:Program}{w:World}{A:Around}{E:Value→Shared→Prop}{s:Shared}
theorem ty {b:Bool}{it a:Addr}{i:Int}(y:RIt b s.heap it a i):s.TypeIs (.ref it) (cN b):=⟨_,y,rfl⟩
theorem zeD {b:Bool}{it a:Addr}{i:Nat}{xs:Array Value}{x:Value}{P:Value→Shared→Prop}{B:Builtin}(hB:B=match b with|true=>Builtin.«list_iterator.__next__»|false=>Builtin.«tuple_iterator.__next__»)
  (y:RIt b s.heap it a i) (sq:SqO b s.heap a xs) (hx:xs[i]?=some x) (h:∀ h',RIt b h' it a (i+1)→Heap.SameBut it s.heap h'→P x { s with heap:=h' }) :
  wpAny (model prog w) A (B ⟨[.ref it],[]⟩) (fun r s'=>∃ v,r=.done (.ret v)∧P v s') E s:=by
 obtain⟨o,n,e,d⟩:=sq.ob
 have fin:wpAny (model prog w) A (match xs[(i:Int).toNat]? with
   | some x=>(do setField (.ref it) 1 (rawInt ((i:Int)+1));ret x:Sem Fin)
   | none=>Builtin.SmallTypes.stopIteration) (fun r s'=>∃ v,r=.done (.ret v)∧P v s') E s:=by
  rw[Int.toNat_natCast,hx]
  exact wpAny_bind (wpAny_setField_rec y (show 1<2 by decide) fun h' y' sb=>wpAny_pure ⟨x,rfl,h h' y' sb⟩)
 rw[Int.toNat_natCast,hx]at fin
 subst hB
 cases b <;>
 ·refine rf 0 y rfl rfl (PyIte (show ¬((Value.ref a == Value.none)=true) from Bool.false_ne_true) (rf 1 y rfl rfl (wpAny_bind (wpAny_seqItems e d ?_))))
  simp only[Int.toNat_natCast,hx];exact fin
where
 PyIte {c:Prop} [Decidable c] {α:Type}{a b:Sem α}{M:Model}{A:Around}{Q:α→Shared→Prop}{E:Value→Shared→Prop}{s:Shared}(hc:¬ c) (h:wpAny M A b Q E s):wpAny M A (if c then a else b) Q E s:=by
  rw[if_neg hc];exact h
theorem zdS {b:Bool}{it a:Addr}{i:Nat}{xs:Array Value}{Q:Fin→Shared→Prop}{B:Builtin}(hB:B=match b with|true=>Builtin.«list_iterator.__next__»|false=>Builtin.«tuple_iterator.__next__»)
  (hh:A.handled=none) (y:RIt b s.heap it a i) (sq:SqO b s.heap a xs) (hx:xs[i]?=none)
  (h:∀ h' x,(∀ c o,c≠it→s.heap.get? c=some o→h'.get? c=some o)→(∃ o,h'.get? x=some o∧o.cls=.type "StopIteration")→E (.ref x) { s with heap:=h' }) :
  wpAny (model prog w) A (B ⟨[.ref it],[]⟩) Q E s:=by
 obtain⟨o,n,e,d⟩:=sq.ob
 subst hB
 cases b <;>
 ·refine rf 0 y rfl rfl (zeD.PyIte (show ¬((Value.ref a == Value.none)=true) from Bool.false_ne_true) (rf 1 y rfl rfl (wpAny_bind (wpAny_seqItems e d ?_))))
  simp only[Int.toNat_natCast,hx];refine wpAny_bind (wpAny_rule (wpAny_bind (wpAny_setField_rec y (show 0<2 by decide) fun h1 _ sb=>?_)))
  exact ends hh fun h2 x k z=>h h2 x (fun c o hc q=>k c o ((sb.2 c hc).trans q)) z
theorem zjP {b:Bool}{it a:Addr}{i:Nat}{xs:Array Value}{x:Value}{P:Value→Shared→Prop}(y:RIt b s.heap it a i) (sq:SqO b s.heap a xs) (hx:xs[i]?=some x)
  (h:∀ h',RIt b h' it a (i+1)→Heap.SameBut it s.heap h'→P x { s with heap:=h' }):wpAny (model prog w) A (Builtin.SmallTypes.nextOf (.ref it)) P E s:=by
 cases b
 ·exact nx F.slot_tuple_iterator_next (ty y) F.entry_tuple_iterator_next (F.args_tuple_iterator_next_1 _) (zeD (b:=false) rfl y sq hx h)
 ·exact nx slot_listiter_next (ty y) entry_listiter_next (args_listiter_next _) (zeD (b:=true) rfl y sq hx h)
theorem zhe {b:Bool}{it a:Addr}{i:Nat}{xs:Array Value}{P:Value→Shared→Prop}(hh:A.handled=none) (y:RIt b s.heap it a i) (sq:SqO b s.heap a xs) (hx:xs[i]?=none)
  (h:∀ h' x,(∀ c o,c≠it→s.heap.get? c=some o→h'.get? c=some o)→(∃ o,h'.get? x=some o∧o.cls=.type "StopIteration")→E (.ref x) { s with heap:=h' }) :
  wpAny (model prog w) A (Builtin.SmallTypes.nextOf (.ref it)) P E s:=by
 have inner:A.in1.handled=none:=hh
 cases b
 ·exact nx F.slot_tuple_iterator_next (ty y) F.entry_tuple_iterator_next (F.args_tuple_iterator_next_1 _) (zdS (b:=false) rfl inner y sq hx h)
 ·exact nx slot_listiter_next (ty y) entry_listiter_next (args_listiter_next _) (zdS (b:=true) rfl inner y sq hx h)
theorem zcD {b:Bool}{a:Addr}{xs:Array Value}{P:Value→Shared→Prop}(sq:SqO b s.heap a xs)
  (h:P (.ref s.heap.objs.size) { s with heap:=s.heap.push { cls:=.type (cN b),data:=.fields #[.ref a,.int 0 0] } }):wpAny (model prog w) A (pyIter (.ref a)) P E s:=by
 cases b
 ·exact wpAny_pyIter_tuple sq h
 ·exact wpAny_pyIter_list sq h
end
theorem zdy {prog:Program}{w:World}{A:Around}(hh:A.handled=none) (b:Bool) (it a:Addr) (xs:Array Value) (hne:a≠it) :
  Draws prog w A it [it,a] xs.size (fun i v=>xs[i]?=some v) (fun i h=>RIt b h it a i∧SqO b h a xs) :=
 ⟨fun _ _ st=>⟨_,st.1⟩,fun _ _ _ st k=>⟨k it List.mem_cons_self _ st.1,st.2.mv fun o e=>k a (List.mem_cons_of_mem _ List.mem_cons_self) o e⟩,
  fun i s Q E hi st k=>zjP st.1 st.2 (Array.getElem?_eq_getElem hi) fun h' y sb=>k _ h' s.toks (Array.getElem?_eq_getElem hi) ⟨y,st.2.mv fun o e=>(sb.2 a hne).trans e⟩ sb,
  fun s Q E st k=>zhe hh st.1 st.2 (by simp) fun h' x kk z=>k h' x (fun c o hc q=>kk c o hc q) z⟩
theorem ziC (b:Bool) (a:Addr) (o:Obj) (xs:Array Value) :
  Meets (Builtin.«enumerate.__new__» ⟨[.type "enumerate",.ref a],[]⟩) (fun _ R s=>s.heap.get? a=some o∧SqO b s.heap a xs ∧
   R (.ok (.ret (.ref (s.heap.push { cls:=.type (cN b),data:=.fields #[.ref a,.int 0 0] }).objs.size)))
    { s with heap:=(s.heap.push { cls:=.type (cN b),data:=.fields #[.ref a,.int 0 0] }).push { cls:=.type "enumerate",data:=.fields #[.none,.bool false,.ref s.heap.objs.size,rawInt 0,.none,.none] } }) :=
 .of_wp fun prog w A R s h=>by
  obtain⟨hp,g,d,tk,os⟩:=s;obtain⟨ho,sq,h⟩:=h
  have sub:=sub_enumerate
  have sq':SqO b (Shared.heap ⟨hp,g,d,tk,os⟩) a xs:=sq
  wp_walk using AutoSeq1.wpAny_loadPart' ho;refine wpAny_stack_any fun st=>wpAny_pure ?_
  split
  case h_1 c _ _ _ _ _ =>
   cases (c == Value.type "enumerate")<;>(wp_walk using AutoSeq1.wpAny_loadPart' ho,zcD sq';exact⟨_,rfl,h⟩)
  all_goals (wp_walk using AutoSeq1.wpAny_loadPart' ho,zcD sq';exact⟨_,rfl,h⟩)
theorem zhJ {prog:Program}{w:World}{A:Around}{E:Value→Shared→Prop}{s:Shared}{b:Bool}{a:Addr}{xs:Array Value}{P:Value→Shared→Prop}(sq:SqO b s.heap a xs)
  (h:∀ h' e it,s.heap.objs.size≤e→s.heap.objs.size≤it→e≠it→IsEnum h' e it 0 .none→RIt b h' it a 0→(∀ c o,s.heap.get? c=some o→h'.get? c=some o)→P (.ref e) { s with heap:=h' }) :
  wpAny (model prog w) A (call (.type "enumerate") [.ref a]) P E s:=by
 obtain⟨o,n,ho,_⟩:=sq.ob
 refine callType_new F.called_enumerate (by decide) (F.typeCall_enumerate_1 _) (F.newCall_enumerate_1 _) (fun obj=>F.args_object_init_2 obj _) F.entry_enumerate_new (ziC b a o xs) ⟨ho,sq,⟨_,Heap.get?_push_size _ rfl,rfl⟩,?_⟩
 refine h _ _ _ ?_ (Nat.le_refl _) ?_ (Heap.get?_push_size _ rfl) (Heap.get?_push_of_some _ (Heap.get?_push_size _ rfl)) fun c o e=>Heap.get?_push_of_some _ (Heap.get?_push_of_some _ e)
 ·rw[Heap.size_push];exact Nat.le_succ _
 ·rw[Heap.size_push];exact Nat.succ_ne_self _
structure Sep (z TI TO i1 i2:Addr) (f1 f2:List Addr):Prop where
 all:[z,TI,TO,i1,i2].Nodup
 z1:z∉f1
 t1:TO∉f1
 o1:i2∉f1
 z2:z∉f2
 t2:TO∉f2
 o2:i1∉f2
section
variable {prog:Program}{w:World}{A:Around}{E:Value→Shared→Prop}{s:Shared}{z TI TO i1 i2:Addr}{f1 f2:List Addr}{n1 n2 k:Nat}{P1 P2:Nat→Value→Prop}{S1 S2:Nat→Heap→Prop}{a b:Value}
theorem ze1 (S:Sep z TI TO i1 i2 f1 f2) (D1:Draws prog w A i1 f1 n1 P1 S1) (D2:Draws prog w A i2 f2 n2 P2 S2) {Q:Value→Shared→Prop}
  (hz:IsZip s.heap z TI TO .none) (hI:IsPair s.heap TI (.ref i1) (.ref i2)) (hO:IsPair s.heap TO a b) (d1:S1 k s.heap) (d2:S2 k s.heap) (l1:k<n1) (l2:k<n2)
  (h:∀ x y h' tk,P1 k x→P2 k y→IsZip h' z TI TO (rawInt s.heap.objs.size)→IsPair h' TO x y→S1 (k+1) h'→S2 (k+1) h'→IsPair h' s.heap.objs.size x y →
   (∀ c o,c∉[z,TO,i1,i2]→s.heap.get? c=some o→h'.get? c=some o)→Q (.ref s.heap.objs.size) { s with heap:=h',toks:=tk }) :
  wpAny (model prog w) A (Builtin.«zip.__next__» ⟨[.ref z],[]⟩) (fun r s'=>∃ v,r=.done (.ret v)∧Q v s') E s:=by
 have nd:=S.all
 simp only[List.nodup_cons,List.mem_cons,List.not_mem_nil,or_false,not_or]at nd
 obtain⟨⟨zI,zO,z1,z2⟩,⟨IO,I1,I2⟩,⟨O1,O2⟩,n12,_⟩:=nd
 refine rf 2 hz rfl rfl (rf 3 hz rfl rfl (wpAny_bind (wpAny_seqItems hI rfl (wpAny_bind (rf 0 hz rfl rfl (wpAny_pure ?_))))))
 simp only[if_true]
 refine wpAny_bind (wpAny_rule (rf 4 hz rfl rfl (wpAny_bind (wpAny_setField_rec hz (show 0<5 by decide) fun ha za sa=>wpAny_bind ?_))))
 have za':IsZip ha z TI TO .ellipsis:=za;simp only[List.zipIdx_cons,List.zipIdx_nil,List.forIn_cons,List.forIn_nil]
 refine wpAny_bind (wpAny_bind (wpAny_onRaise (wpAny_bind (D1.item k _ _ _ l1 (D1.frame _ _ _ d1 fun c hc o e=>(sa.2 c fun q=>S.z1 (q ▸ hc)).trans e) fun x hb tb px db sb=>wpAny_pure ?_))))
 have Ob:IsPair hb TO a b:=(sb.2 TO O1).trans ((sa.2 TO (Ne.symm zO)).trans hO)
 refine wpAny_bind (wpAny_seqItems Ob rfl (wpAny_bind (wpAny_updateSeq_pair Ob fun hc Oc sc=>wpAny_bind (wpAny_letGo (wpAny_pure ?_)))))
 have Oc':IsPair hc TO x b:=Oc
 have st2:S2 k hc:=D2.frame _ _ _ d2 fun c hm o e=>(sc.2 c fun q=>S.t2 (q ▸ hm)).trans ((sb.2 c fun q=>S.o2 (q ▸ hm)).trans ((sa.2 c fun q=>S.z2 (q ▸ hm)).trans e))
 refine wpAny_bind (wpAny_bind (wpAny_onRaise (wpAny_bind (D2.item k _ _ _ l2 st2 fun y hd td py dd sd=>wpAny_pure ?_))))
 have Od:IsPair hd TO x b:=(sd.2 TO O2).trans Oc'
 refine wpAny_bind (wpAny_seqItems Od rfl (wpAny_bind (wpAny_updateSeq_pair Od fun he Oe se=>wpAny_bind (wpAny_letGo (wpAny_pure (wpAny_pure ?_))))))
 have Oe':IsPair he TO x y:=Oe
 refine wpAny_bind (wpAny_seqItems Oe' rfl (wpAny_bind (wpAny_newTuple (wpAny_bind ?_))))
 have sz:he.objs.size=s.heap.objs.size:=by rw[se.1,sd.1,sc.1,sb.1,sa.1]
 have ze:IsZip he z TI TO .ellipsis:=(se.2 z zO).trans ((sd.2 z z2).trans ((sc.2 z zO).trans ((sb.2 z z1).trans za')))
 have zn:he.objs.size≠z:=Nat.ne_of_gt (Heap.lt_size ze)
 unfold Builtin.SmallTypes.ownedTupleHandOut;refine wpAny_bind (wpAny_setField_rec (Heap.get?_push_of_some _ ze) (show 0<5 by decide) fun hf zf sf=>wpAny_setField_rec zf (show 1<5 by decide) fun hg zg sg=>wpAny_pure ⟨_,rfl,?_⟩)
 have up:∀ c o,c≠z→he.get? c=some o→hg.get? c=some o:=fun c o q e=>(sg.2 c q).trans ((sf.2 c q).trans (Heap.get?_push_of_some _ e))
 have new:IsPair hg he.objs.size x y:=(sg.2 _ zn).trans ((sf.2 _ zn).trans (Heap.get?_push_size _ rfl))
 have zg':IsZip hg z TI TO (rawInt he.objs.size):=zg
 rw[sz]at new zg'
 show Q (.ref he.objs.size) _
 rw[sz]
 refine h x y hg td px py zg' (up _ _ (Ne.symm zO) Oe') ?_ ?_ new fun c o hc e=>?_
 ·exact D1.frame _ _ _ db fun c hm o e=>up c o (fun q=>S.z1 (q ▸ hm)) ((se.2 c fun q=>S.t1 (q ▸ hm)).trans ((sd.2 c fun q=>S.o1 (q ▸ hm)).trans ((sc.2 c fun q=>S.t1 (q ▸ hm)).trans e)))
 ·exact D2.frame _ _ _ dd fun c hm o e=>up c o (fun q=>S.z2 (q ▸ hm)) ((se.2 c fun q=>S.t2 (q ▸ hm)).trans e)
 ·simp only[List.mem_cons,List.not_mem_nil,or_false,not_or]at hc
  obtain⟨c1,c2,c3,c4⟩:=hc
  exact up c o c1 ((se.2 c c2).trans ((sd.2 c c4).trans ((sc.2 c c2).trans ((sb.2 c c3).trans ((sa.2 c c1).trans e)))))
end
section
variable {prog:Program}{w:World}{A:Around}{E:Value→Shared→Prop}{s:Shared}{z TI TO i1 i2:Addr}{f1 f2:List Addr}{n1 n2 k:Nat}{P1 P2:Nat→Value→Prop}{S1 S2:Nat→Heap→Prop}{a b:Value}
theorem ze0 (S:Sep z TI TO i1 i2 f1 f2) (D1:Draws prog w A i1 f1 n1 P1 S1) {Q:Fin→Shared→Prop}(hz:IsZip s.heap z TI TO .none) (hI:IsPair s.heap TI (.ref i1) (.ref i2)) (d1:S1 n1 s.heap)
  (h:∀ h' x,(∀ c o,c∉[z,TO,i1,i2]→s.heap.get? c=some o→h'.get? c=some o)→(∃ o,h'.get? x=some o∧o.cls=.type "StopIteration")→E (.ref x) { s with heap:=h' }):wpAny (model prog w) A (Builtin.«zip.__next__» ⟨[.ref z],[]⟩) Q E s:=by
 have nd:=S.all
 simp only[List.nodup_cons,List.mem_cons,List.not_mem_nil,or_false,not_or]at nd
 obtain⟨⟨zI,zO,z1,z2⟩,⟨IO,I1,I2⟩,⟨O1,O2⟩,n12,_⟩:=nd
 refine rf 2 hz rfl rfl (rf 3 hz rfl rfl (wpAny_bind (wpAny_seqItems hI rfl (wpAny_bind (rf 0 hz rfl rfl (wpAny_pure ?_))))))
 simp only[if_true]
 refine wpAny_bind (wpAny_rule (rf 4 hz rfl rfl (wpAny_bind (wpAny_setField_rec hz (show 0<5 by decide) fun ha za sa=>wpAny_bind ?_))))
 have za':IsZip ha z TI TO .ellipsis:=za;simp only[List.zipIdx_cons,List.zipIdx_nil,List.forIn_cons,List.forIn_nil]
 refine wpAny_bind (wpAny_bind (wpAny_onRaise (wpAny_bind (D1.done _ _ _ (D1.frame _ _ _ d1 fun c hc o e=>(sa.2 c fun q=>S.z1 (q ▸ hc)).trans e) fun hb x kb ⟨ox,ex,cx⟩=>?_))))
 have zb:IsZip hb z TI TO .ellipsis:=kb z _ z1 za'
 have xz:x≠z:=fun q=>by rw[q,zb]at ex;cases ex;exact absurd (show Value.type "zip" = Value.type "StopIteration" from cx) (by decide)
 refine wpAny_setField_rec zb (show 0<5 by decide) fun hc _ sc=>h hc x (fun c o hm e=>?_) ⟨ox,(sc.2 x xz).trans ex,cx⟩
 simp only[List.mem_cons,List.not_mem_nil,or_false,not_or]at hm
 exact(sc.2 c hm.1).trans (kb c o hm.2.2.1 ((sa.2 c hm.1).trans e))
end
theorem zec (b1 b2:Bool) (a1 a2:Addr) (xs ys:Array Value):Meets (Builtin.«zip.__new__» ⟨[.type "zip",.ref a1,.ref a2],[]⟩) (fun _ R s=>SqO b1 s.heap a1 xs∧SqO b2 s.heap a2 ys ∧
  ∀ h' z,(∃ TI TO i1 i2,[z,TI,TO,i1,i2].Nodup∧(∀ c∈[z,TI,TO,i1,i2],s.heap.objs.size≤c)∧IsZip h' z TI TO .none∧IsPair h' TI (.ref i1) (.ref i2)∧IsPair h' TO .none .none∧RIt b1 h' i1 a1 0∧RIt b2 h' i2 a2 0) →
   (∀ c o,s.heap.get? c=some o→h'.get? c=some o)→R (.ok (.ret (.ref z))) { s with heap:=h' }) :=
 .of_wp fun prog w A R s h=>by
  obtain⟨hp,g,d,tk,os⟩:=s;obtain⟨q1,q2,h⟩:=h
  have sub:=sub_zip
  have r1:SqO b1 (Shared.heap ⟨hp,g,d,tk,os⟩) a1 xs:=q1
  have r2:SqO b2 (Shared.heap ⟨hp.push { cls:=.type (cN b1),data:=.fields #[.ref a1,.int 0 0] },g,d,tk,os⟩) a2 ys:=q2.mv fun o e=>Heap.get?_push_of_some _ e
  wp_walk using zcD r1,zcD r2
  refine⟨_,rfl,h _ _ ⟨_,_,_,_,?_,?_,Heap.get?_push_size _ rfl,Heap.get?_push_of_some _ (Heap.get?_push_of_some _ (Heap.get?_push_size _ rfl)),Heap.get?_push_of_some _ (Heap.get?_push_size _ rfl),
   Heap.get?_push_of_some _ (Heap.get?_push_of_some _ (Heap.get?_push_of_some _ (Heap.get?_push_of_some _ (Heap.get?_push_size _ rfl)))),Heap.get?_push_of_some _ (Heap.get?_push_of_some _ (Heap.get?_push_of_some _ (Heap.get?_push_size _ rfl)))⟩ fun c o e=>?_⟩
  ·simp only[Heap.size_push,List.nodup_cons,List.mem_cons,List.not_mem_nil,or_false,not_or]
   simp<;>lia
  ·simp only[Heap.size_push,List.mem_cons,List.not_mem_nil,or_false]
   intro c hc
   have:hp.objs.size≤c:=by lia
   exact this
  ·exact Heap.get?_push_of_some _ (Heap.get?_push_of_some _ (Heap.get?_push_of_some _ (Heap.get?_push_of_some _ (Heap.get?_push_of_some _ e))))
end Own
namespace L2
open PySem PySem.Spec PyProof.Rows Own
section
variable {X:Cx}{pins:List (Addr × Obj)}{σ:St}{H:Hp}{s:Shared}{h':Heap}
theorem Inv.spunN {fp:List Addr}{T:Addr}{o:HO}{t':Nat}(I:Inv X pins σ H s) (k:∀ b o,b∉fp→s.heap.get? b=some o→h'.get? b=some o) (hf:∀ b∈fp,FpOk X pins H b) (hT:s.heap.objs.size≤T)
  (new:ObjOk X.prog X.w (upd H T o) h' T o):Inv X pins σ (upd H T o) { s with heap:=h',toks:=t' }:=by
 have hn:H T=none:=I.hok.fresh hT
 have neT:∀ b u,s.heap.get? b=some u→b≠T:=fun b u e=>Nat.ne_of_lt (Nat.lt_of_lt_of_le (Heap.lt_size e) hT)
 have nfp:∀ b u,H b=some u→b∉fp:=fun b u e hb=>by rw[(hf b hb).1]at e;cases e
 refine I.step (g':=s.gens) (d':=s.drawn) (ch:=fp) (fun b hb=>?_) (fun b o _ _ hc e _=>k b o hc e) (fun b o _ _ hc e _=>⟨o.slots,k b o hc e⟩) (fun b o _ e n=>by rw[zae (neT b o e)];exact n)
  (fun b o hc e=>⟨o,k b o hc e⟩) (fun b xs e=>by rw[zae (zac e hn)];exact e) (fun b o u e=>by rw[zae (zac e hn)];exact e) (fun b ps e=>⟨#[],by rw[zae (zac e hn),e];simp⟩) (fun m hm=>?_) (fun b u e=>?_) I.bare
 ·obtain⟨f0,f1,f2,f3,f4,f5⟩:=hf b hb
  exact⟨f3,f1,f4,f5⟩
 ·obtain⟨o,es,ep,ho,r⟩:=hm
  exact⟨o,es,ep,k _ o (fun hb=>(hf _ hb).2.1 rfl) ho,r⟩
 ·by_cases hb:b=T
  ·subst hb;rw[zab]at e;cases e;exact new
  ·rw[zae hb]at e
   refine(I.hok b u e).stay (fun c v hc q=>k c v ?_ q) (fun c q=>by rw[zae (zac q hn)];exact q) fun c xs q=>by rw[zae (zac q hn)];exact q
   rcases hc with z|z
   ·rw[z];exact nfp b u e
   ·exact nfp c _ z
theorem Inv.spun {fp:List Addr}{t':Nat}(I:Inv X pins σ H s) (k:∀ b o,b∉fp→s.heap.get? b=some o→h'.get? b=some o) (hf:∀ b∈fp,FpOk X pins H b):Inv X pins σ H { s with heap:=h',toks:=t' }:=by
 have nfp:∀ b u,H b=some u→b∉fp:=fun b u e hb=>by rw[(hf b hb).1]at e;cases e
 refine I.step (g':=s.gens) (d':=s.drawn) (ch:=fp) (fun b hb=>?_) (fun b o _ _ hc e _=>k b o hc e) (fun b o _ _ hc e _=>⟨o.slots,k b o hc e⟩) (fun b o _ e n=>n)
  (fun b o hc e=>⟨o,k b o hc e⟩) (fun b xs e=>e) (fun b o u e=>e) (fun b ps e=>⟨#[],by rw[e];simp⟩) (fun m hm=>?_) (fun b u e=>?_) I.bare
 ·obtain⟨f0,f1,f2,f3,f4,f5⟩:=hf b hb
  exact⟨f3,f1,f4,f5⟩
 ·obtain⟨o,es,ep,ho,r⟩:=hm
  exact⟨o,es,ep,k _ o (fun hb=>(hf _ hb).2.1 rfl) ho,r⟩
 ·refine(I.hok b u e).stay (fun c v hc q=>k c v ?_ q) (fun c q=>q) fun c xs q=>q
  rcases hc with z|z
  ·rw[z];exact nfp b u e
  ·exact nfp c _ z
end
def SqB:Bool→PySem.W.Frag→Hp→Addr→List V→Prop
 | true,K,H,a,xs=>SqL K H a xs
 | false,K,H,a,xs=>SqT K H a xs
section
variable {X:Cx}{pins:List (Addr × Obj)}{σ:St}{H:Hp}{s:Shared}{a c:Addr}{xs ys:List V}{b:Bool}
theorem Inv.sq (I:Inv X pins σ H s) (h:SqB b X.K H a xs):∃ its:List Value,Vals xs its∧SqO b s.heap a its.toArray:=by
 cases b
 ·obtain⟨its,r,p,z⟩:=I.tuple h
  exact⟨its,r,p⟩
 ·obtain⟨its,r,p,z⟩:=I.list h
  exact⟨its,r,p.isList⟩
theorem Inv.sq_inj (I:Inv X pins σ H s) (h:SqB b X.K H a xs) (h':SqB b X.K H a ys):xs=ys:=by
 cases b
 ·exact I.tuple_inj h h'
 ·exact I.list_inj h h'
theorem Inv.sq_ne (I:Inv X pins σ H s) (h:SqB b X.K H a xs) (f:FpOk X pins H c):c≠a:=by
 rintro rfl
 have inK:∀ o,X.K.lookup c=some o→False:=fun o e=>by
  have e1:=I.ok.mod.kin c o e
  rcases f.2.2.2.1 with z|z
  ·exact I.ok.noex c o e1 z
  ·exact absurd (Nat.lt_of_lt_of_le (Heap.lt_size e1) (Nat.le_trans I.ok.bsz z)) (Nat.lt_irrefl _)
 cases b <;>
 ·rcases h with (h|⟨o,h⟩)|⟨o,_,_,e,_⟩
  ·rw[f.1]at h;cases h
  ·rw[f.1]at h;cases h
  ·exact inK o e
end
def Pr (v u:V) (H:Hp) (x:V) (H':Hp):Prop:=∃ T,H T=none∧x=.ref T∧H'=upd H T (.tup [v,u])
theorem zds {P:Program}{w:World}{H:Hp}{h:Heap}{T:Addr}{v u:V}{a b:Value}(e:IsPair h T a b) (rv:RelV v a) (ru:RelV u b):ObjOk P w (upd H T (.tup [v,u])) h T (.tup [v,u]) :=
 ⟨show 2≤sizeLine by decide,[a,b],.cons rv (.cons ru .nil),⟨_,e,rfl,_,rfl,rfl⟩⟩
def Ite (K:PySem.W.Frag) (b:Bool) (a:Addr):It :=
 ⟨fun i H=>∃ xs x,SqB b K H a xs∧xs[i]?=some x,fun i H x H'=>∃ y,(∀ xs,SqB b K H a xs→xs[i]?=some y)∧Pr (.int i) y H x H',fun i H=>∃ xs,SqB b K H a xs∧xs.length=i⟩
theorem zgf {P:Program}{w:World}{K:PySem.W.Frag}{es:List Expr}{k1} {p1:Pos}(b:Bool) (a e it:Addr) (hne:e≠it):Turn P w K (.Tuple es k1 p1) (Ite K b a) [e,it] e (fun i h=>(∃ old,IsEnum h e it i old)∧RIt b h it a i) where
 mem:=List.mem_cons_self
 obj:=fun i h ⟨⟨old,he⟩,hi⟩ c hc=>by
  rcases List.mem_cons.mp hc with q|q
  ·rw[q];exact⟨_,he,fun v z=>by cases z⟩
  ·rw[List.mem_singleton.mp q];exact⟨_,hi,fun v z=>by cases z⟩
 keep:=fun i h h' ⟨⟨old,he⟩,hi⟩ kk=>⟨⟨old,kk e (by simp) _ he⟩,kk it (by simp) _ hi⟩
 item:=by
  intro X hP hw hK hc i pins s σ H E I hf ⟨⟨old,he⟩,hi⟩ ⟨xs,x,hq,hx⟩
  subst hP hw hK
  obtain⟨its,rv,p⟩:=I.sq hq
  obtain⟨u,hu,ru⟩:=rv.get hx
  have hlt:i<its.toArray.size:=by simpa using (List.getElem?_eq_some_iff.mp hu).1
  refine wpAny_pyNext_enum_itemD (zdy (prog:=X.prog) (w:=X.w) (A:=X.A.in1) (I.ok.hd hc) b it a its.toArray (p.ne hi)) he ⟨hi,p⟩ hlt hne (by simp[hne,I.sq_ne hq (hf e (by simp))]) fun v h1 tk hv ho hs hT _ hk=>?_
  obtain rfl:u=v:=Option.some.inj (hu.symm.trans (by simpa using hv))
  refine⟨_,rfl,wpAny_letOwnedTupleGo_enum ho fun h2 he2 s2=>?_⟩
  have nT:s.heap.objs.size≠e:=Nat.ne_of_gt (Heap.lt_size he)
  have nI:s.heap.objs.size≠it:=Nat.ne_of_gt (Heap.lt_size hi)
  refine⟨.ref s.heap.objs.size,_,I.spunN (fp:=[e,it]) (fun c o hm q=>?_) hf (Nat.le_refl _) (zds (v:=.int i) (u:=x) ((s2.2 _ nT).trans hT) ⟨tk,rfl⟩ ru),rfl,⟨x,fun ys hy=>by rw[I.sq_inj hy hq];exact hx,_,I.fresh,rfl,rfl⟩,⟨⟨_,he2⟩,(s2.2 it (Ne.symm hne)).trans hs.1⟩,fun c hm=>?_⟩
  ·have c1:c≠e:=fun z=>hm (by simp[z])
   exact(s2.2 c c1).trans (hk c o c1 (fun z=>hm (by simp[z])) q)
  ·rw[zae,(hf c hm).1]
   rintro rfl
   rcases List.mem_cons.mp hm with z|z
   ·exact nT z
   ·exact nI (List.mem_singleton.mp z)
 done:=by
  intro X hP hw hK hc i pins s σ H E I hf ⟨⟨old,he⟩,hi⟩ ⟨xs,hq,hx⟩
  subst hP hw hK
  obtain⟨its,rv,p⟩:=I.sq hq
  have hz:i=its.toArray.size:=by rw[List.size_toArray,← rv.length,hx]
  refine wpAny_pyNext_enum_endD (zdy (prog:=X.prog) (w:=X.w) (A:=X.A.in1) (I.ok.hd hc) b it a its.toArray (p.ne hi)) he ⟨by rw[← hz];exact hi,p⟩ fun h' eb=>⟨rfl,I.spun (t':=s.toks) (fp:=[e,it]) (fun c o hm q=>eb c o (fun z=>hm (by simp[z])) q) hf⟩
 self:=fun _ _ _ _ _ ⟨⟨_,he⟩,_⟩ h=>wpAny_pyIter_enum he h
def zlw (K:PySem.W.Frag) (b:Bool) (ta:TA):TI:=fun σ H R=>ta σ H fun vs H1=>∃ a xs,vs=[.ref a]∧SqB b K H1 a xs∧R (Ite K b a) H1
theorem zgU {X:Cx}{a:Expr}{ta:TA}{p pos p1:Pos}{es:List Expr}{k1} (b:Bool) (hg:Gl X "enumerate") (hm:X.mg "enumerate" = none) (ha:PA X [a] ta) (hs:starEach [a] X.env=[(false,eval a X.env)]:=by rfl) :
  PI X (.Tuple es k1 p1) (.Call (.Name "enumerate" p) [a] [] pos) (zlw X.K b ta):=by
 intro pins s σ H R I h
 refine Call_ (zbd I hg hm (u:=.type "enumerate") (by rfl) (PyProof.Rows.callWith_type1 (thn (ha pos pins s σ H _ I h) fun us s1 ⟨vs,H1,I1,r1,q1⟩=>?_) hs rfl))
 obtain⟨a',xs,rfl,hq,q⟩:=q1
 obtain⟨u,rfl,ru⟩:=r1.one
 cases ru
 obtain⟨its,rv,pl⟩:=I1.sq hq
 refine zhJ pl fun h' e it l1 l2 ne he hi hk=>wpAny_pyIter_enum he ⟨_,[e,it],_,_,H1,rfl,I1.kept (t':=s1.toks) hk,zgf b a' e it ne,⟨⟨_,he⟩,hi⟩,fun c hc=>?_,q⟩
 have hc':s1.heap.objs.size≤c:=by
  rcases List.mem_cons.mp hc with z|z
  ·rw[z];exact l1
  ·rw[List.mem_singleton.mp z];exact l2
 exact I1.fpOk hc' (I1.hok.fresh hc')
def Itz (K:PySem.W.Frag) (b1 b2:Bool) (a1 a2:Addr):It :=
 ⟨fun i H=>∃ xs ys x y,SqB b1 K H a1 xs∧SqB b2 K H a2 ys∧xs[i]?=some x∧ys[i]?=some y,fun i H v H'=>∃ x y,(∀ xs,SqB b1 K H a1 xs→xs[i]?=some x)∧(∀ ys,SqB b2 K H a2 ys→ys[i]?=some y)∧Pr x y H v H',
  fun i H=>∃ xs,SqB b1 K H a1 xs∧xs.length=i⟩
def iZip (K:PySem.W.Frag) (b1 b2:Bool) (ta:TA):TI:=fun σ H R=>ta σ H fun vs H1=>∃ a1 a2 xs ys,vs=[.ref a1,.ref a2]∧SqB b1 K H1 a1 xs∧SqB b2 K H1 a2 ys∧R (Itz K b1 b2 a1 a2) H1
section
variable {X:Cx}
theorem zk5 {prog:Program}{w:World}{A:Around}(hh:A.handled=none) (b:Bool) (I a:Addr) (hne:a≠I) (xs:Array Value) :
  Walks prog w A I [I,a] [I] xs.size (fun i v=>xs[i]?=some v) (fun i h=>(match b with|true=>h.IsListIter I a i|false=>h.IsTupleIter I a i)∧SqO b h a xs):=by
 cases b
 ·exact Walks.tuple hh I a hne xs
 ·exact Walks.list hh I a hne xs
theorem zco:CallR X (.builtin "isinstance") (fun vs H Q=>∃ x T t k,vs=[x,.ty T]∧TyOf X.K H x t∧PySem.W.kitOne X.K t (.type T)=some k∧Q (.bl k) H):=by
 intro pins s σ H vs us Q I rv h
 obtain⟨x,T,t,k,rfl,ht,hk,q⟩:=h
 obtain⟨u,v,rfl,ru,rv'⟩:=rv.two
 cases (show v=Value.type T from rv')
 exact zhn I ru ht hk fun tk=>⟨.bl k,H,I.tok tk,rfl,q⟩
end
example (K:PySem.W.Frag):PySem.W.kitOne K (.type "int") (.type "tuple")=some false:=by rfl
example (K:PySem.W.Frag):PySem.W.kitOne K (.type "int") (.type "bool")=some false:=by first|rfl|decide|(with_unfolding_all rfl)
theorem zaa {H:Hp}{p:Addr}(h:H p=none) (o:HO):Same H (upd H p o):=fun b u q=>by rw[zae (zac q h)];exact q
def capB (N N':List Str) (sc scope:Scope) (cap:List (Option Nat)):Bool :=
 decide (scope.kind=.function) && (scope.names.all fun y=>decide (y.2≠.cell) && (decide (y.2≠.local) || decide (scope.names.lookup y.1=some .local)) &&
  (decide (y.2≠.free) || (decide (sc.names.lookup y.1=some .cell) || decide (sc.names.lookup y.1=some .free)))) && decide (cap.length=N'.length) &&
 ((N'.zip cap).all fun p=>match p.2 with
  | none=>true
  | some i=>decide (N[i]?=some p.1) && (decide (scope.names.lookup p.1=some .free) && (decide (sc.names.lookup p.1=some .cell) || decide (sc.names.lookup p.1=some .free))))
theorem CapOk.of {N N':List Str}{sc scope:Scope}{cap:List (Option Nat)}(h:capB N N' sc scope cap=true):CapOk N N' sc scope cap:=by
 unfold capB at h
 simp only[Bool.and_eq_true,List.all_eq_true,Bool.or_eq_true,decide_eq_true_eq]at h
 obtain⟨⟨⟨h1,h2⟩,h3⟩,h4⟩:=h;refine⟨h1,fun y hy=>(h2 y hy).1.1,fun y hy e=>?_,fun y hy e=>?_,h3,fun p hp i e=>?_⟩
 ·rcases (h2 y hy).1.2 with z|z
  ·exact absurd e z
  ·exact z
 ·rcases (h2 y hy).2 with z|z
  ·exact absurd e z
  ·exact z
 ·have q:=h4 p hp
  rw[e]at q
  simp only[Bool.and_eq_true,Bool.or_eq_true,decide_eq_true_eq]at q
  exact q
def Nx (n i:Nat) (p:Prop):Prop:=∃ m',m'<n-i∧m'=n-(i+1)∧i+1≤n∧p
theorem nx {n i:Nat}{p:Prop}(h:i<n) (q:p):Nx n i p:=⟨n-(i+1),by lia,rfl,h,q⟩
theorem zfl {lo:Int}{n:Nat}{g:TG}{te:TE}{l:Addr}{σ:St}{H:Hp}{Q:VK}(Pv:Nat→List V→St→Hp→Prop) (h0:Pv 0 [] σ H) (hl:∀ i acc σ H,Pv i acc σ H→H l=some (.lst acc))
  (hs:∀ i acc σ H,i<n→Pv i acc σ H→g (.int (lo+i)) σ H fun σ3 H3=>te σ3 H3 fun y H5=>H5 l=some (.lst acc)∧acc.length<sizeLine∧Nx n i (Pv (i+1) (acc++[y]) σ3 (upd H5 l (.lst (acc++[y])))))
  (hd:∀ acc σ H,Pv n acc σ H→Q (.ref l) H):∃ W:Nat→Nat→List V→St→Hp→Prop,(∃ m,W 0 m [] σ H)∧LCW (Itr lo n) g tYes te l Q W:=by
 refine⟨fun i m acc σ H=>m=n-i∧i≤n∧Pv i acc σ H,⟨n,by simp,Nat.zero_le _,h0⟩,?_⟩
 rintro i m acc σ H ⟨rfl,hi,p⟩
 refine⟨hl i acc σ H p,?_⟩
 by_cases hlt:i<n
 ·refine .inr ⟨hlt,fun x H2 ⟨e,y⟩=>?_⟩
  subst e y
  exact hs i acc σ _ hlt p
 ·have e:i=n:=by lia
  subst e
  exact .inl ⟨Nat.le_refl _,hd acc σ H p⟩
theorem zfr {K:PySem.W.Frag}{b:Bool}{a:Addr}{xs:List V}{g:TG}{tb:TS}{D:Ends}{σ:St}{H:Hp}(Pv:Nat→St→Hp→Prop) (h0:Pv 0 σ H) (hl:∀ i σ H,i≤xs.length→Pv i σ H→SqB b K H a xs)
  (hs:∀ i x σ H T,xs[i]?=some x→H T=none→Pv i σ H→g (.ref T) σ (upd H T (.tup [.int i,x])) fun σ2 H2=>tb { D with nx:=Pv (i+1),ct:=Pv (i+1),bk:=D.nx } σ2 H2) (hd:∀ σ H,Pv xs.length σ H→D.nx σ H) :
  ∃ W:Nat→Nat→St→Hp→Prop,(∃ m,W 0 m σ H)∧∀ i m σ H,W i m σ H →
   ((Ite K b a).stop i H∧D.nx σ H)∨((Ite K b a).go i H∧∃ N:St→Hp→Prop,(∀ σ' H',N σ' H'→∃ m',m'<m∧W (i+1) m' σ' H')∧∀ x H',(Ite K b a).yld i H x H'→g x σ H' fun σ2 H2=>tb { D with nx:=N,ct:=N,bk:=D.nx } σ2 H2):=by
 refine⟨fun i m σ H=>m=xs.length-i∧i≤xs.length∧Pv i σ H,⟨xs.length,by simp,Nat.zero_le _,h0⟩,?_⟩
 rintro i m σ H ⟨rfl,hi,p⟩
 have q:=hl i σ H hi p
 by_cases hlt:i<xs.length
 ·refine .inr ⟨⟨xs,xs[i],q,List.getElem?_eq_getElem hlt⟩,Pv (i+1),fun σ' H' p'=>⟨xs.length-(i+1),by lia,rfl,hlt,p'⟩,fun x H' ⟨y,ey,T,hT,e1,e2⟩=>?_⟩
  subst e1 e2
  exact hs i y σ H T (ey xs q) hT p
 ·have e:i=xs.length:=by lia
  subst e
  exact .inl ⟨⟨xs,q,rfl⟩,hd σ H p⟩
section
variable {X:Cx}
def rEqT (K:PySem.W.Frag):R2:=fun x y H Q=>∃ a b xs ys,x=.ref a∧y=.ref b∧SqT K H a xs∧SqT K H b ys∧xs.all zbS=true∧ys.all zbS=true∧Q (.bl ((List.range (min xs.length ys.length)).all (fun j=>eqV (xs.getD j .non) (ys.getD j .non)) && xs.length == ys.length)) H
theorem zkC (hu:X.A.units<cLine):OpR X (compareOp .Eq) (rEqT X.K):=by
 intro pins s σ H x y v u Q I rx ry h
 obtain⟨a,b,xs,ys,rfl,rfl,ha,hb,fa,fb,q⟩:=h
 cases rx
 cases ry
 obtain⟨its,r1,p1,_⟩:=I.tuple ha
 obtain⟨jts,r2,p2,_⟩:=I.tuple hb
 have l1:=r1.length
 have l2:=r2.length
 refine SeqAt.RcAt.tuples (e:=fun j=>eqV (xs.getD j .non) (ys.getD j .non)) p1 p2 hu (fun j h1 h2=>?_) X.prog X.w _ _ ?_
 ·have h1':j<xs.length:=by simpa [l1] using h1
  have h2':j<ys.length:=by simpa [l2] using h2
  obtain⟨w1,e1,q1⟩:=r1.get (List.getElem?_eq_getElem h1')
  obtain⟨w2,e2,q2⟩:=r2.get (List.getElem?_eq_getElem h2')
  have g1:its.toArray[j]=w1:=by simpa using (List.getElem?_eq_some_iff.mp e1).2
  have g2:jts.toArray[j]=w2:=by simpa using (List.getElem?_eq_some_iff.mp e2).2
  rw[g1,g2,List.getD_eq_getElem?_getD,List.getD_eq_getElem?_getD,List.getElem?_eq_getElem h1',List.getElem?_eq_getElem h2']
  exact zft q1 q2 (List.all_eq_true.mp fa _ (List.getElem_mem h1')) (List.all_eq_true.mp fb _ (List.getElem_mem h2'))
 ·rw[List.size_toArray,List.size_toArray,← l1,← l2]
  exact⟨.bl _,H,I,rfl,q⟩
theorem zhd {ns:List Int}{its:List Value}(r:Vals (ns.map V.int) its) {i:Nat}{v:Value}(h:its[i]?=some v):i<ns.length∧∃ t,v=.int (ns.getD i 0) t:=by
 have hl:its.length=ns.length:=by rw[← r.length,List.length_map]
 have hi:=(List.getElem?_eq_some_iff.mp h).1
 have e:(List.map V.int ns)[i]?=some (V.int (ns.getD i 0)):=by
  rw[List.getElem?_map,List.getD_eq_getElem?_getD,List.getElem?_eq_getElem (by lia)];rfl
 obtain⟨u',e',⟨t,rfl⟩⟩:=r.get e
 rw[h]at e'
 exact⟨by lia,t,Option.some.inj e'⟩
theorem zck {ns:List Int}{i:Nat}(h:i<ns.length):ns.getD i 0∈ns:=by
 rw[List.getD_eq_getElem?_getD,List.getElem?_eq_getElem h];exact List.getElem_mem h
theorem zir {ns:List Int}{x:Int}(h:x∈ns):∃ i,i<ns.length∧ns.getD i 0=x:=by
 obtain⟨i,hi,e⟩:=List.getElem_of_mem h
 exact⟨i,hi,by rw[List.getD_eq_getElem?_getD,List.getElem?_eq_getElem hi];exact e⟩
theorem call_minB (hc:X.calm=true) (b:Bool):CallR X (.builtin "min") (fun vs H Q=>∃ a ns,vs=[.ref a]∧SqB b X.K H a (List.map V.int ns)∧0<ns.length∧∀ M,M∈ns→(∀ x∈ns,M≤x)→Q (.int M) H):=by
 intro pins s σ H vs us Q I rv h
 obtain⟨a,ns,rfl,hq,hpos,q⟩:=h
 obtain⟨u,rfl,ru⟩:=rv.one
 cases ru
 obtain⟨its,r,p⟩:=I.sq hq
 obtain⟨o,n,eo,_⟩:=p.ob
 have hl:its.length=ns.length:=by rw[← r.length,List.length_map]
 refine call_min_walk (zcD p ⟨s.heap.objs.size,[s.heap.objs.size,a],[s.heap.objs.size],_,_,_,fun i j=>decide (ns.getD i 0<ns.getD j 0),rfl,zk5 (show X.A.in1.handled=none from I.ok.hd hc) b _ a (Nat.ne_of_lt (Heap.lt_size eo)) its.toArray,⟨?_,p.mv fun o e=>Heap.get?_push_of_some _ e⟩,fun c hm=>?_,by rw[List.size_toArray];lia,?_,?_⟩)
 ·cases b<;>exact⟨_,Heap.get?_push_size _ rfl,rfl,rfl⟩
 ·show c<(s.heap.push _).objs.size
  rw[Heap.size_push]
  rcases List.mem_cons.mp hm with z|z
  ·rw[z];exact Nat.lt_succ_self _
  ·rw[List.mem_singleton.mp z];exact Nat.lt_succ_of_lt (Heap.lt_size eo)
 ·intro i j vi vj s' Q' E' hi hj hQ
  obtain⟨_,t,rfl⟩:=zhd r (i:=i) (by simpa using hi)
  obtain⟨_,t',rfl⟩:=zhd r (i:=j) (by simpa using hj)
  exact lt_int hQ
 ·intro v h' tk hv hk
  have best:=argBest_lt (fun i=>ns.getD i 0) (its.toArray.size-1)
  obtain⟨li,t,rfl⟩:=zhd r (by simpa using hv)
  refine⟨.int _,H,I.kept (t':=tk) fun c o e=>hk c o (fun z=>Nat.ne_of_lt (Heap.lt_size e) (List.mem_singleton.mp z)) (Heap.get?_push_of_some _ e),⟨t,rfl⟩,q _ (zck li) fun x hx=>?_⟩
  obtain⟨j,hj,rfl⟩:=zir hx
  exact best.2 j (by rw[List.size_toArray];lia)
end
end L2
namespace Own
open PySem PySem.Spec PyProof.Rows
section
variable {prog:Program}{w:World}{A:Around}{E:Value→Shared→Prop}{s:Shared}
end
end Own
namespace L2
open PySem PySem.Spec PyProof.Rows Own
section
variable {X:Cx}
theorem zgi:∀ {ns:List Int}{us:List Value},Vals (ns.map V.int) us→IntsAre us ns
 | [],_,.nil=>.nil
 | n::ns,_,.cons ⟨t,e⟩ r=>by subst e;exact .cons n t (zgi r)
def tRev (K:PySem.W.Frag) (te:TE) (ts:TO):TE:=fun σ H Q=>te σ H fun x H1=>ts σ H1 fun o H2=>o=some (-1)∧∃ a xs,x=.ref a∧SqL K H2 a xs∧∀ p,H2 p=none→Q (.ref p) (upd H2 p (.lst xs.reverse))
theorem zky {e st:Expr}{te:TE}{ts:TO}{p2 pos:Pos}(he:PE X e te) (hs:PO X (some st) ts):PE X (.Subscript e (.Slice none none (some st) p2) pos) (tRev X.K te ts):=by
 intro pins s σ H Q I h
 refine Subscript_ (thn (he pins s σ H _ I h) fun v s1 ⟨x,H1,I1,r1,q1⟩=>wpAny_Slice ?_)
 rw[evalPart_none]
 refine wpAny_pure (wpAny_pure (thn (hs pins s1 σ H1 _ I1 q1) fun vst s2 ⟨o,H2,I2,po,q2⟩=>?_))
 obtain⟨rfl,a,xs,rfl,hq,k⟩:=q2
 cases r1
 have I3:Inv X pins σ H2 { s2 with heap:=s2.heap.push { cls:=.type "slice",data:=.fields #[.none,.none,vst] } }:=I2.kept (t':=s2.toks) fun b ob q=>Heap.get?_push_of_some _ q
 obtain⟨its,r,ht,hz⟩:=I3.list hq
 have hlen:=r.length
 show wpAny (model X.prog X.w) X.A (subscriptTail e (.Slice none none (some st) p2) (.ref a) (.ref s2.heap.objs.size)) (EP X pins σ Q) X.xe { s2 with heap:=s2.heap.push { cls:=.type "slice",data:=.fields #[.none,.none,vst] } }
 refine tail_any (ops:=[.ref a,.ref s2.heap.objs.size]) ht.isList.typeIs slot_list_getitem.lookup (wpAny_getItem_list_slice ht.isList (Heap.IsSliceOf.new ..) .none .none po (by simp) ?_ (by rw[List.size_toArray]<;>lia)) (by with_unfolding_all rfl)
 rw[PySem.W.krv_pick]
 refine⟨.ref _,_,I3.laid (t':=s2.toks) (o:=.lst xs.reverse) (fun b ob q=>Heap.get?_push_of_some _ q) (Nat.le_refl _) ⟨by rw[List.length_reverse];exact hz,_,0,r.reverse,?_⟩,rfl,k _ (I3.hok.fresh (Nat.le_refl _))⟩
 exact Heap.get?_push_size _ rfl
end
section
variable {X:Cx}
theorem op_notB:OpR X (compareOp .IsNot) (fun x y H Q=>∃ c d:Bool,x=.bl c∧y=.bl d∧Q (.bl (!(c == d))) H):=by
 intro pins s σ H x y v u Q I rx ry h
 obtain⟨c,d,rfl,rfl,q⟩:=h
 cases rx;cases ry
 exact wpAny_isNot_plain rfl (zao I q (by cases c<;>cases d<;>rfl))
end
theorem ziS {K:PySem.W.Frag}{a:Addr}{xs:List V}{g:TG}{te:TE}{l:Addr}{σ:St}{H:Hp}{Q:VK}(Pv:Nat→List V→St→Hp→Prop) (h0:Pv 0 [] σ H) (hl:∀ i acc σ H,Pv i acc σ H→H l=some (.lst acc)∧SqT K H a xs)
  (hs:∀ i x acc σ H,xs[i]?=some x→Pv i acc σ H→g x σ H fun σ3 H3=>te σ3 H3 fun y H5=>H5 l=some (.lst acc)∧acc.length<sizeLine∧Nx xs.length i (Pv (i+1) (acc++[y]) σ3 (upd H5 l (.lst (acc++[y])))))
  (hd:∀ acc σ H,Pv xs.length acc σ H→Q (.ref l) H):∃ W:Nat→Nat→List V→St→Hp→Prop,(∃ m,W 0 m [] σ H)∧LCW (Itt K a) g tYes te l Q W:=by
 refine⟨fun i m acc σ H=>m=xs.length-i∧i≤xs.length∧Pv i acc σ H,⟨_,rfl,Nat.zero_le _,h0⟩,?_⟩
 rintro i m acc σ H ⟨rfl,hi,p⟩
 obtain⟨q0,q1⟩:=hl i acc σ H p
 refine⟨q0,?_⟩
 by_cases hlt:i<xs.length
 ·refine .inr ⟨⟨xs,xs[i],q1,List.getElem?_eq_getElem hlt⟩,fun x H2 ⟨e,y⟩=>?_⟩
  subst e
  exact hs i x acc σ _ (y xs q1) p
 ·obtain rfl:i=xs.length:=by lia
  exact .inl ⟨⟨xs,q1,Nat.le_refl _⟩,hd acc σ H p⟩
theorem zjX {K:PySem.W.Frag}{a:Addr}{xs:List V}{g:TG}{te:TE}{l:Addr}{σ:St}{H:Hp}{Q:VK}(Pv:Nat→List V→St→Hp→Prop) (h0:Pv 0 [] σ H) (hl:∀ i acc σ H,Pv i acc σ H→H l=some (.lst acc)∧SqL K H a xs)
  (hs:∀ i x acc σ H,xs[i]?=some x→Pv i acc σ H→g x σ H fun σ3 H3=>te σ3 H3 fun y H5=>H5 l=some (.lst acc)∧acc.length<sizeLine∧Nx xs.length i (Pv (i+1) (acc++[y]) σ3 (upd H5 l (.lst (acc++[y])))))
  (hd:∀ acc σ H,Pv xs.length acc σ H→Q (.ref l) H):∃ W:Nat→Nat→List V→St→Hp→Prop,(∃ m,W 0 m [] σ H)∧LCW (Itl K a) g tYes te l Q W:=by
 refine⟨fun i m acc σ H=>m=xs.length-i∧i≤xs.length∧Pv i acc σ H,⟨_,rfl,Nat.zero_le _,h0⟩,?_⟩
 rintro i m acc σ H ⟨rfl,hi,p⟩
 obtain⟨q0,q1⟩:=hl i acc σ H p
 refine⟨q0,?_⟩
 by_cases hlt:i<xs.length
 ·refine .inr ⟨⟨xs,xs[i],q1,List.getElem?_eq_getElem hlt⟩,fun x H2 ⟨e,y⟩=>?_⟩
  subst e
  exact hs i x acc σ _ (y xs q1) p
 ·obtain rfl:i=xs.length:=by lia
  exact .inl ⟨⟨xs,q1,Nat.le_refl _⟩,hd acc σ H p⟩
end L2
namespace L2
open PySem PySem.Spec PyProof.Rows PySem.Calls PySem.NumText Own
theorem zeQ {M:Model}{K:PySem.W.Frag}{h:Heap}(X:K.In h) (e:PySem.W.nsIn K cStatics "sys.int_max_str_digits" = some none):PySem.W.Looks M h Builtin.intMaxStrDigits 4300:=by
 show PySem.W.Looks M h (nsGet cStatics "sys.int_max_str_digits" >>= _) 4300
 exact(PySem.W.looks_nsIn X e).andThen .now
theorem zi2 {M:Model}{A:Around}{E:Value→Shared→Prop}{s:Shared}{Q:Value→Shared→Prop}{v:Value}{text:List Nat}{n:Int}
  (hl:PySem.W.Looks M s.heap Builtin.intMaxStrDigits 4300) (hs:¬(text.takeWhile (· != 0)).length≤640) (hr:(int_private% "readNumeral") 4300 10 (text.takeWhile (· != 0))=(int_private% "Numeral.value") n)
  (ha:((text.takeWhile (· != 0)).length == text.length)=true) (h:Q (.int n s.toks) { s with toks:=s.toks+1 }):wpAny M A ((int_private% "intFromText") v text 10) Q E s:=by
 cases s
 repeat (any_goals (first|assumption|(with_reducible refine wpAny_ite_false (decide_eq_false hs) ?_)|((with_reducible show wpAny _ _ Builtin.intMaxStrDigits _ _ _);refine PySem.W.Looks.at hl ?_)|wp_step))
 all_goals (try (rw[hr];dsimp only))
 repeat (any_goals (first|assumption|(with_reducible refine wpAny_ite_true (by rw[ha];rfl) ?_)|wp_step))
theorem zfS {K:PySem.W.Frag}{x:Str}{u:Tok}{n:Int}(e:PySem.W.nsIn K cStatics "sys.int_max_str_digits" = some none) (hl:x.length≤4300) (h6:¬(numSeenOf x).length≤640) (hn:intText? x=some n) :
  Meets (Builtin.«int.__new__» ⟨[.type "int",.str x u],[]⟩) (fun _ R s=>K.In s.heap∧R (.ok (.ret (.int n s.toks))) { s with toks:=s.toks+1 }) :=
 .of_wp fun prog w A R s h=>by
  cases s with
  | mk hp gs dr tk os =>
  obtain⟨KX,h⟩:=h
  have kinds:=And.intro PySem.W.KIN.str_int (And.intro PySem.W.KIN.str_idx PySem.W.KIN.str_trunc)
  obtain⟨k1,k2,k3⟩:=kinds
  have k4:=F.conv_sub_int;have k5:=F.madeHere_int
  have ofText:typeOf (.str x u)=pure (.type "str"):=rfl
  have lk:PySem.W.Looks (model prog w) hp Builtin.intMaxStrDigits 4300:=zeQ KX e
  have rd:(int_private% "readNumeral") 4300 10 (numSeenOf x)=(int_private% "Numeral.value") n∧((numSeenOf x).length == (numTextOf x).length)=true:=by
   rcases read4300 x (Nat.le_trans hl (by decide)) with ⟨m,g1,g2,g3⟩|⟨g1,_⟩
   ·rw[hn]at g1;cases g1;exact⟨g3,g2⟩
   ·rw[hn]at g1;cases g1
  have all4:=PySem.W.KIN.Hid.mk (And.intro lk (And.intro h6 rd))
  clear lk h6 rd hl hn e KX
  repeat (any_goals (first|assumption|((with_reducible show wpAny _ _ ((int_private% "intFromText") _ _ _) _ _ _);refine zi2 all4.out.1 all4.out.2.1 all4.out.2.2.1 all4.out.2.2.2 ?_)|wp_step))
  all_goals (first|exact Exists.intro _ (And.intro rfl h)|skip)
section
variable {X:Cx}
theorem zd6 (e:PySem.W.nsIn X.K cStatics "sys.int_max_str_digits" = some none):CallR X (.type "int") (fun vs H Q=>∃ x:Str,vs=[.str x]∧AllDigits x.cps.toList∧640<x.length∧x.length≤4300∧Q (.int (digitsVal x.cps.toList:Nat)) H):=by
 intro pins s σ H vs us Q I rv h
 obtain⟨x,rfl,hd,h6,h43,q⟩:=h
 obtain⟨u,rfl,t,rfl⟩:=rv.one
 have xl:x.cps.toList.length=x.length:=by simp[Str.length]
 have ne:x.cps.toList≠[]:=fun z=>by rw[z]at xl;simp at xl;lia
 have hn:=intText_digits hd ne h43
 have seen:(numSeenOf x).length=x.length:=by
  rcases read4300 x (Nat.le_trans h43 (by decide)) with ⟨m,g1,g2,g3⟩|⟨g1,_⟩
  ·have a128:x.cps.all (· < 128)=true:=by
    rw[← Array.all_toList];refine List.all_eq_true.mpr fun c hc=>?_
    have:=(hd c hc).2
    exact decide_eq_true (show c<128 by lia)
   have g2':=eq_of_beq g2
   rw[g2']
   show (if x.cps.all (· < 128)=true then x.cps.toList else _).length=_
   rw[if_pos a128,xl]
  ·rw[hn]at g1;cases g1
 exact call_int_1 (zfS (K:=X.K) e h43 (by lia) hn) ⟨I.kIn,(typeIs_int _ _ _),.int _,H,I.tok _,⟨_,rfl⟩,q⟩
theorem zgW:OpR X (binaryOp .Mult) (fun x y H Q=>∃ (c:Nat) (n:Int),x=.str ⟨#[c]⟩∧y=.int n∧0≤n∧n≤100000∧∀ z:Str,z.cps.toList=List.replicate n.toNat c→Q (.str z) H):=by
 intro pins s σ H x y v u Q I rx ry h
 obtain⟨c,n,rfl,rfl,n0,n1,q⟩:=h
 obtain⟨t,rfl⟩:=rx
 obtain⟨t',rfl⟩:=ry
 have one:(⟨#[c]⟩:Str).length=1:=rfl
 refine PySem.P.mul_str (by rw[decide_eq_false (by lia),decide_eq_false (by lia)];rfl) (fun a b=>?_) (fun a b=>?_) ?_
 ·rw[one]
  have:(1:Int)≤(2 ^ 63-1) / n:=by
   rw[Int.le_ediv_iff_mul_le (by lia)];lia
  lia
 ·rw[one]
  exact decide_eq_false (by have:=sizeLine_eq;lia)
 ·by_cases a:n<1
  ·rw[if_pos a]
   have e:n=0:=by lia
   subst e
   exact⟨by decide,.str _,H,I.tok _,⟨_,rfl⟩,q _ rfl⟩
  ·rw[if_neg a]
   by_cases b:n=1
   ·subst b
    rw[if_pos (show ((1:Int) == 1 || (⟨#[c]⟩:Str).length == 0)=true from rfl)]
    exact⟨.str _,H,I,⟨_,rfl⟩,q _ rfl⟩
   ·have nb:¬(n == 1 || (⟨#[c]⟩:Str).length == 0)=true:=by simp[b,one]
    rw[if_neg nb]
    have lst:∀ (k:Nat) (acc:Array Nat),((List.replicate k #[c]).foldl (·++·) acc).toList=acc.toList++List.replicate k c:=fun k=>by
     induction k with
     | zero=>intro acc;simp
     | succ k ih=>intro acc;rw[List.replicate_succ,List.foldl_cons,ih,List.replicate_succ];simp
    have l0:=lst n.toNat #[]
    refine⟨?_,.str _,H,I.tok _,⟨_,rfl⟩,q _ (by rw[l0];rfl)⟩
    have ln:=congrArg List.length l0
    simp only[Array.length_toList,List.length_append,List.length_replicate]at ln
    show (Array.size _)≤sizeLine
    rw[ln]
    have:=sizeLine_eq
    simp
    lia
end
end L2
namespace L2
open PySem PySem.Spec PyProof.Rows Own
section
variable {prog:Program}{w:World}{A:Around}{E:Value→Shared→Prop}{s:Shared}
end
def upTo (n:Nat):List V:=(List.range n).map fun (i:Nat)=>V.int i
theorem zc9 {acc:Array Value}{n:Nat}(h:ItemsOf (fun i v=>∃ t,v=Value.int (0+i*1) t) acc n):Vals (upTo n) acc.toList:=by
 obtain⟨h1,h2⟩:=h
 have go:∀ (l:List Value) (k:Nat),(∀ (j:Nat) (v:Value),l[j]?=some v→∃ t,v=Value.int ((k+j:Nat):Int) t)→Vals ((List.range l.length).map fun (i:Nat)=>V.int ((k+i:Nat):Int)) l:=by
  intro l
  induction l with
  | nil=>intro k _;exact .nil
  | cons x l ih =>
   intro k hx
   rw[List.length_cons,List.range_succ_eq_map,List.map_cons,List.map_map]
   refine .cons (by obtain⟨t,e⟩:=hx 0 x rfl;exact⟨t,e⟩) ?_
   have:=ih (k+1) fun j v hj=>by
    obtain⟨t,e⟩:=hx (j+1) v (by simpa using hj)
    exact⟨t,by rw[e];congr 1;lia⟩
   refine cast (congrArg (fun z=>Vals z l) (List.map_congr_left fun i _=>?_)) this
   show V.int ((k+1+i:Nat):Int)=V.int ((k+(i+1):Nat):Int)
   congr 2;lia
 have:=go acc.toList 0 fun j v hj=>by
  obtain⟨t,e⟩:=h2 j v (by simpa using hj)
  exact⟨t,by rw[e];congr 1;lia⟩
 rw[Array.length_toList,h1]at this
 unfold upTo
 refine cast (congrArg (fun z=>Vals z acc.toList) (List.map_congr_left fun i _=>?_)) this
 show V.int ((0+i:Nat):Int)=V.int (i:Int)
 rw[Nat.zero_add]
theorem zhN (n:Nat):(upTo n).length=n:=by simp[upTo]
section
variable {X:Cx}
def zkk (b:Bool) (ta:TA):TE:=fun σ H Q=>ta σ H fun vs H1=>∃ j:Nat,vs=[.int j]∧j≤100000∧∀ l,H1 l=none→Q (.ref l) (upd H1 l (if b=true then .lst (upTo j) else .tup (upTo j)))
theorem zhU {j:Nat}(h:j≤100000):Builtin.Range.small 0 (j:Int) 1=true:=small_one (by lia) (by lia) (by lia) (by lia)
theorem zjb {j:Nat}:Builtin.Range.rangeSize 0 (j:Int) 1=((j:Nat):Int):=by rw[rangeSize_one];split<;>lia
theorem pe_lstRng {a:Expr}{ta:TA}{p p2 pos pos2:Pos}(hc:X.calm=true) (hgl:Gl X "list") (hml:X.mg "list" = none) (hgr:Gl X "range") (hmr:X.mg "range" = none) (ha:PA X [a] ta) (hs:starEach [a] X.env=[(false,eval a X.env)]:=by rfl)
  (hs2:starEach [.Call (.Name "range" p2) [a] [] pos2] X.env=[(false,eval (.Call (.Name "range" p2) [a] [] pos2) X.env)]:=by rfl):PE X (.Call (.Name "list" p) [.Call (.Name "range" p2) [a] [] pos2] [] pos) (zkk true ta):=by
 intro pins s σ H Q I h
 refine wpAny_Call_Name_kw (zbd I hgl hml (u:=.type "list") (by rfl) (PyProof.Rows.callWith_type1 ?_ hs2 rfl))
 rw[hs2]
 refine Calls.spliced_cons (Call_ (zbd I hgr hmr boot_range (PyProof.Rows.callWith_type1 (thn (ha pos2 pins s σ H _ I h) fun us s1 ⟨vs,H1,I1,r1,q1⟩=>?_) hs rfl)))
 obtain⟨j,rfl,hj,q⟩:=q1
 obtain⟨u,rfl,t,rfl⟩:=r1.one
 refine call_range_1 (Calls.spliced_nil ?_)
 refine call_list_range (n:=j) (I1.ok.hd hc) (IsRange.new ..) (zhU hj) zjb (Nat.le_trans hj (by decide)) fun h' tk acc' c' kk e it=>?_
 have k2:∀ b o,s1.heap.get? b=some o→h'.get? b=some o:=fun b o z=>kk b o (Heap.get?_push_of_some _ z)
 refine⟨.ref _,_,I1.laid (t':=tk) (o:=.lst (upTo j)) k2 ?_ ⟨by rw[zhN];exact Nat.le_trans hj (by decide),acc'.toList,c',zc9 it,by simpa using e⟩,rfl,q _ (I1.hok.fresh ?_)⟩
 all_goals (show s1.heap.objs.size≤(s1.heap.push _).objs.size;rw[Heap.size_push];exact Nat.le_succ _)
theorem ziO (hu:X.A.units<cLine):OpR X (compareOp .NotEq) (fun x y H Q=>∃ a b xs,x=.ref a∧y=.ref b∧SqL X.K H a xs∧SqL X.K H b []∧Q (.bl (!xs.isEmpty)) H):=by
 intro pins s σ H x y v u Q I rx ry h
 obtain⟨a,b,xs,rfl,rfl,ha,hb,q⟩:=h
 cases rx;cases ry
 obtain⟨its,r1,p1,_⟩:=I.list ha
 obtain⟨jts,r2,p2,_⟩:=I.list hb
 cases r2
 have l1:=r1.length
 cases xs with
 | nil =>
  cases r1
  exact SeqAt.RcNeAt.lists (e:=fun _=>true) p1.isList p2.isList rfl hu (fun j h=>absurd h (Nat.not_lt_zero _)) X.prog X.w _ _ ⟨.bl _,H,I,rfl,q⟩
 | cons z zs =>
  exact SeqAt.RcNeAt.lists_lengths p1.isList p2.isList (by rw[List.size_toArray,← l1];simp) hu X.prog X.w _ _ ⟨.bl _,H,I,rfl,q⟩
end
section
variable {prog:Program}{w:World}{A:Around}{E:Value→Shared→Prop}{s:Shared}
theorem zeb {sl:Addr}{t:Tok}{Q:Int × Int × Nat→Shared→Prop}(hs:s.heap.IsSliceOf sl .none .none (.int (-1) t)) (h:Q (1,-1,2) s):wpAny (model prog w) A (Builtin.Slice.sliceApplied (.ref sl) (pure (2:Int))) Q E s:=by
 obtain⟨os,hos,hcs,hds⟩:=id hs
 unfold Builtin.Slice.sliceApplied Builtin.Slice.sliceFields
 refine wpAny_bind (wpAny_bind (wpAny_field hos hds (x:=.none) rfl (wpAny_bind (wpAny_field hos hds (x:=.none) rfl (wpAny_bind (wpAny_field hos hds (x:=.int (-1) t) rfl (wpAny_pure ?_)))))))
 refine wpAny_bind (slicePart_int ?_)
 show wpAny _ _ (if ((-1:Int) == 0)=true then _ else _) _ _ s
 rw[if_neg (by decide)]
 refine wpAny_bind (slicePart_none (wpAny_bind (slicePart_none (wpAny_bind (wpAny_pure ?_)))))
 show wpAny _ _ (match Builtin.Slice.sliceAdjust none none (-1) (2:Int) with|(lo,hi)=>pure (lo,(-1:Int),Builtin.Slice.slicePlaces lo hi (-1))) _ _ s
 have e:Builtin.Slice.sliceAdjust none none (-1) (2:Int)=(1,-1):=by decide
 rw[e]
 have e2:Builtin.Slice.slicePlaces (1:Int) (-1) (-1)=2:=by decide
 show wpAny _ _ (pure ((1:Int),(-1:Int),Builtin.Slice.slicePlaces (1:Int) (-1) (-1))) _ _ s
 rw[e2]
 exact wpAny_pure h
theorem zd2 {t sl:Addr}{x y:Value}{tk:Tok}{Q:Value→Shared→Prop}(ht:IsTup s.heap t #[x,y]) (hs:s.heap.IsSliceOf sl .none .none (.int (-1) tk)) (h:Q (.ref s.heap.objs.size) { s with heap:=s.heap.push { cls:=.type "tuple",data:=.seq #[y,x] } }) :
  wpAny (model prog w) A (getItem (.ref t) (.ref sl)) Q E s:=by
 obtain⟨os,hos,hcs,hds⟩:=id hs
 have hTs:s.TypeIs (.ref sl) "slice":=⟨os,hos,hcs⟩
 unfold getItem
 try with_reducible refine wpAny_holding ?_
 first|refine wpAny_bind (wpAny_pure ?_)|skip
 refine wpAny_bind (wpAny_sequenceKey ht.typeIs (by decide) (wpAny_bind (wpAny_callSpecial?_slot (name:=Str.ofString "__getitem__") ht.typeIs PyProof.Rows.slot_tuple_getitem (wpAny_call_entry PyProof.Rows.slot_tuple_getitem ht.typeIs PyProof.Rows.entry_tuple_getitem ?_ (PyProof.Rows.args_tuple_getitem _ _)))))
 show wpAny _ _ (Builtin.Tuple.tupleItemsOf (.ref t) >>= _) _ _ s
 refine wpAny_bind (tupleItemsOf_ ht (wpAny_bind (wpAny_typeOf hTs ?_)))
 rw[if_pos (by decide)]
 refine wpAny_bind (zeb hs ?_)
 show wpAny _ _ (if ((1:Int) == 0 && (-1:Int) == 1 && (2:Nat) == 2)=true then _ else _) _ _ s
 rw[if_neg (by decide)]
 have pk:((List.range 2).filterMap fun (k:Nat)=>(#[x,y]:Array Value)[((1:Int)+(k:Int)*(-1)).toNat]?).toArray = #[y,x]:=rfl
 rw[pk]
 first
  | exact wpAny_bind (m:=Builtin.Tuple.tupleExact _) (wpAny_newObj_type (wpAny_pure ⟨_,rfl,wpAny_pure h⟩) (by show 2≤sizeLine;decide))
  | exact wpAny_bind (m:=Builtin.Tuple.tupleExact _) (wpAny_newObj_type (wpAny_bind (wpAny_pure (wpAny_pure ⟨_,rfl,wpAny_pure h⟩))) (by show 2≤sizeLine;decide))
  | exact wpAny_bind (wpAny_bind (m:=Builtin.Tuple.tupleExact _) (wpAny_newObj_type (wpAny_pure (wpAny_pure ⟨_,rfl,wpAny_pure h⟩)) (by show 2≤sizeLine;decide)))
  | exact wpAny_bind (wpAny_bind (m:=Builtin.Tuple.tupleExact _) (wpAny_newObj_type (wpAny_pure ⟨_,rfl,wpAny_pure h⟩) (by show 2≤sizeLine;decide)))
end
section
variable {X:Cx}
end
theorem zfR (l:Addr) (o:Obj) (items:Array Value) (n:Nat) (x:Value) (j:Nat) (hc:o.cls=.type "tuple") (hd:o.data=.seq items n) (e:Nat→Bool) (h0:∀ i,i<j→e i=false) (h1:e j=true) (hj:j<items.size) :
  Meets (Builtin.«tuple.index» ⟨[.ref l,x],[]⟩) (fun A R s=>s.heap.get? l=some o∧(∀ i (h:i<items.size),SeqAt.EqAt A.in1 s items[i] x (e i))∧R (.ok (.ret (.int j s.toks))) { s with toks:=s.toks+1 }) :=
 .of_wp fun prog w A R s h=>by
  cases s with
  | mk hp gs dr tk os =>
  obtain⟨hl,he,h⟩:=h
  unfold Builtin.«tuple.index»
  simp only[Std.Legacy.Range.forIn_eq_forIn_range']
  wp_walk using wpAny_seqItems hl hd,wpAny_forIn_list _ (fun rest b s'=>s'=⟨hp,gs,dr,tk,os⟩∧b.1=none∧∃ i,i≤j∧rest=List.range' i (items.size-i)) _
  case turn =>
   rintro i rest b s' ⟨rfl,hb,i',hi,hz⟩
   have hs:items.size-i'=(items.size-(i'+1))+1:=by lia
   rw[hs,List.range'_succ]at hz
   injection hz with e1 e2
   subst e1
   have il:i<items.size:=by lia
   have hg:items[i]?=some items[i]:=by simp[il]
   simp only[hg]
   refine wpAny_bind (he i il prog w _ _ ?_)
   by_cases q:i=j
   ·subst q;rw[h1];wp_walk;exact⟨_,rfl,h⟩
   ·rw[h0 i (by lia)];wp_walk;exact⟨rfl,rfl,i+1,by lia,e2⟩
  case fin =>
   rintro b s' ⟨rfl,hb,i',hi,hz⟩
   have:=congrArg List.length hz
   simp at this
   lia
  case h=>exact⟨rfl,rfl,0,Nat.zero_le _,by simp[Std.Legacy.Range.size]⟩
section
variable {X:Cx}
theorem zc3:∀ {ns:List Int}{k:Int}{i:Nat},i<ns.idxOf k→(ns.getD i 0 == k)=false
 | [],k,i,h=>by simp at h
 | n::ns,k,i,h=>by
  rw[List.idxOf_cons]at h
  cases e:n == k with
  | true=>rw[e]at h;simp at h
  | false =>
   rw[e]at h
   simp only[cond_false]at h
   cases i with
   | zero=>exact e
   | succ i=>exact zc3 (ns:=ns) (i:=i) (by lia)
def zk8 (to:TE) (t:TA):TE:=fun σ H Q=>to σ H fun x H1=>∃ a ns,x=.ref a∧H1 a=some (.tup (List.map V.int ns))∧t σ H1 fun vs H2=>∃ k:Int,vs=[.int k]∧H2 a=some (.tup (List.map V.int ns))∧k∈ns∧Q (.int (ns.idxOf k:Nat)) H2
theorem zjy {o e:Expr}{to:TE}{t:TA}{apos cpos:Pos}(hu:X.A.units+64<cLine) (ho:PE X o to) (ha:PA X [e] t)
  (hbase:attributeBase o "index" X.env (eval o X.env)=eval o X.env:=by rfl)
  (hfew:((backTo cpos (starEach [e] X.env)).all (fun x=>!x.1) && (backToKw cpos (keywordEach [] X.env)).all (fun x=>x.1.isSome) && decide ([e].length+([]:List Keyword).length+(if ([]:List Keyword).isEmpty then 0 else 1)<30))=true:=by rfl)
  (hline:(apos.endLine == cpos.line)=true:=by rfl) (hs:starEach [e] X.env=(false,eval e X.env)::starEach [] X.env:=by rfl):PE X (.Call (.Attribute o "index" apos) [e] [] cpos) (zk8 to t):=by
 intro pins s σ H Q I h
 refine wpAny_Call_method_late hbase hfew hline rfl (thn (ho pins s σ H _ I h) fun v s1 ⟨x,H1,I1,r1,a,ns,ex,hx,q1⟩=>?_)
 subst ex
 cases r1
 obtain⟨_,its,_,⟨ob,eo,c1,n1,d1,nd⟩⟩:=(show ObjOk X.prog X.w H1 s1.heap a (.tup (List.map V.int ns)) from I1.hok a _ hx)
 refine⟨"tuple","tuple.index",PySem.F.plainAttrs_tuple,PySem.F.slot_tuple_index,PySem.F.type_tuple_index,⟨ob,eo,c1⟩,fun a' e'=>by cases e';exact⟨ob,eo,nd⟩,?_⟩
 have hA:=ha cpos pins s1 σ H1 _ I1 q1
 rw[hs]at hA ⊢
 refine Calls.callWith_builtin rfl (Calls.evalArgs_plain ?_)
 refine thn hA fun us s2 ⟨vs,H2,I2,r2,k,ev,hx2,km,q⟩=>?_
 subst ev
 obtain⟨u,rfl,tk,rfl⟩:=r2.one
 obtain⟨_,jts,rj,⟨ob2,eo2,c2,n2,d2,nd2⟩⟩:=(show ObjOk X.prog X.w H2 s2.heap a (.tup (List.map V.int ns)) from I2.hok a _ hx2)
 have hlen:jts.toArray.size=ns.length:=by rw[List.size_toArray,← rj.length,List.length_map]
 have hj:=List.idxOf_lt_length_of_mem km
 refine call_meets PySem.F.slot_tuple_index ⟨ob2,eo2,c2⟩ PySem.F.entry_tuple_index (PySem.F.args_tuple_index_2 _ _)
  (zfR a ob2 jts.toArray n2 (.int k tk) (ns.idxOf k) c2 d2 (fun i=>ns.getD i 0 == k) (fun i hi=>?_) ?_ (by rw[hlen];exact hj)) ⟨eo2,fun i hi=>?_,?_⟩
 ·exact zc3 hi
 ·rw[List.getD_eq_getElem?_getD,List.getElem?_eq_getElem hj]
  simp
 ·have hi':i<ns.length:=by rw[← hlen];exact hi
  obtain⟨w1,e1,t1,rfl⟩:=rj.get (show (List.map V.int ns)[i]?=some (V.int (ns.getD i 0)) by rw[List.getElem?_map,List.getD_eq_getElem?_getD,List.getElem?_eq_getElem hi'];rfl)
  have g1:jts.toArray[i]=.int (ns.getD i 0) t1:=by simpa using (List.getElem?_eq_some_iff.mp e1).2
  rw[g1]
  exact(MeetsSeq.EqGives.int _ _ _ _).at _ _
 ·exact⟨.int _,H2,I2.tok _,⟨_,rfl⟩,q⟩
end
theorem zeM:fillsNumberSlot (.type "tuple") "mul" = pure false :=
 PySem.fillsNumberSlot_seq (id:="tuple.__mul__") (r:=some (.builtin "tuple.__rmul__")) F.slot_tuple_mul.lookup (by decide +kernel) F.slot_tuple_rmul.lookup (by decide +kernel)
theorem zfH:seqRepeat? (.type "tuple")=pure (some (.builtin "tuple.__mul__")):=by
 unfold seqRepeat?;rw[PySem.seqSlot_of (T:="tuple") (name:="__mul__") (id:="tuple.__mul__") F.slot_tuple_mul.lookup (by decide +kernel),PySem.seqSlot_of (T:="tuple") (name:="__rmul__") (id:="tuple.__rmul__") F.slot_tuple_rmul.lookup (by decide +kernel)];rfl
theorem ziE (a:Int) (t:Tok) (l:Addr) (dd:Option Addr) (sl:Array (Option Value)) (items:Array Value) (n:Nat) :
  Meets (Builtin.«int.__rmul__» ⟨[.int a t,.ref l],[]⟩) (fun _ R s=>s.heap.get? l=some { cls:=.type "tuple",dict:=dd,data:=.seq items n,slots:=sl }∧R (.ok (.ret Value.notImplemented)) s) :=
 .of_wp fun prog w A R s h=>by
  cases s;obtain⟨hl,h⟩:=h
  wp_walk using AutoSeq1.wpAny_loadPart' hl
  exact⟨_,rfl,h⟩
theorem zfQ (l:Addr) (o:Obj) (x:Value) (n k:Nat) (t:Tok) (hc:o.cls=.type "tuple") (hd:o.data=.seq #[x] n) (hk:k≤100000) :
  Meets (Builtin.«tuple.__mul__» ⟨[.ref l,.int k t],[]⟩) (fun _ R s=>s.heap.get? l=some o ∧
   (k=1→R (.ok (.ret (.ref l))) s)∧(k≠1→R (.ok (.ret (.ref s.heap.objs.size))) { s with heap:=s.heap.push { cls:=.type "tuple",data:=.seq (List.replicate k x).toArray } })) :=
 .of_wp fun prog w A R s h=>by
  cases s with
  | mk hp gs dr tk os =>
  obtain⟨hl,g1,g2⟩:=h
  have ty:Shared.TypeIs ⟨hp,gs,dr,tk,os⟩ (.ref l) "tuple":=⟨o,hl,hc⟩
  wp_walk using wpAny_seqItems hl hd,wpAny_typeOf ty
  have c1:¬(decide ((k:Int) < -2 ^ 63) || decide ((k:Int)≥2 ^ 63))=true:=by
   rw[decide_eq_false (by lia),decide_eq_false (by lia)];exact Bool.false_ne_true
  rw[if_neg c1]
  wp_walk using wpAny_seqItems hl hd,wpAny_typeOf ty
  by_cases k1:k=1
  ·have c2:((#[x]:Array Value).isEmpty || (k:Int) == 1)=true:=by subst k1;rfl
   rw[if_pos c2]
   wp_walk using wpAny_typeOf ty
   exact⟨_,rfl,g1 k1⟩
  ·have c2:¬((#[x]:Array Value).isEmpty || (k:Int) == 1)=true:=by
    have:((k:Int) == 1)=false:=by rw[beq_eq_false_iff_ne];lia
    rw[this];exact Bool.false_ne_true
   rw[if_neg c2]
   have fl:∀ (m:Nat) (acc:Array Value),(List.foldl (fun x1 x2=>x1++x2) acc (List.replicate m #[x]))=acc++(List.replicate m x).toArray:=fun m=>by
    induction m with
    | zero=>intro acc;simp
    | succ m ih=>intro acc;rw[List.replicate_succ,List.foldl_cons,ih,List.replicate_succ];apply Array.ext';simp
   by_cases k0:k=0
   ·subst k0
    have c3:(decide (((0:Nat):Int)≤0) || (#[x]:Array Value).isEmpty)=true:=rfl
    rw[if_pos c3]
    wp_walk
    exact⟨_,rfl,g2 (by decide)⟩
   ·have c3:¬(decide ((k:Int)≤0) || (#[x]:Array Value).isEmpty)=true:=by
     rw[decide_eq_false (by lia)];exact Bool.false_ne_true
    have c4:¬(((#[x]:Array Value).size:Int)*(k:Int) > (2 ^ 63-1) / 8):=by
     show ¬((1:Int)*(k:Int) > (2 ^ 63-1) / 8)
     lia
    have c5:¬ Builtin.Tuple.tupleTooMany (((#[x]:Array Value).size:Int)*(k:Int))=true:=by
     unfold Builtin.Tuple.tupleTooMany
     show ¬ decide ((1:Int)*(k:Int) > (sizeLine:Int))=true
     rw[decide_eq_false (by rw[sizeLine_eq];lia)];exact Bool.false_ne_true
    rw[if_neg c3,if_neg c4,if_neg c5,Int.toNat_natCast,fl]
    refine wpAny_bind (m:=Builtin.Tuple.tupleExact _) (wpAny_newObj_type (wpAny_pure ⟨_,rfl,?_⟩) ?_)
    ·have e:(#[]++(List.replicate k x).toArray:Array Value)=(List.replicate k x).toArray:=by simp
     rw[e];exact g2 k1
    ·show (#[]++(List.replicate k x).toArray:Array Value).size≤sizeLine
     rw[sizeLine_eq];simp;lia
section
variable {X:Cx}
theorem Vals.same {v:V}{u:Value}(r:RelV v u):∀ k:Nat,Vals (List.replicate k v) (List.replicate k u)
 | 0=>.nil
 | k+1=>by rw[List.replicate_succ,List.replicate_succ];exact .cons r (Vals.same r k)
theorem zeI:OpR X (binaryOp .Mult) (fun x y H Q=>∃ a v,∃ k:Nat,x=.ref a∧y=.int k∧H a=some (.tup [v])∧k≤100000∧∀ r H',Same H H'→H' r=some (.tup (List.replicate k v))→Q (.ref r) H'):=by
 intro pins s σ H x y vx vy Q I rx ry h
 obtain⟨a,v,k,rfl,rfl,ha,hk,q⟩:=h
 cases rx
 obtain⟨t,rfl⟩:=ry
 obtain⟨_,its,r,⟨⟨c,dd,d,sl⟩,eo,c1,n1,d1,nd⟩⟩:=(show ObjOk X.prog X.w H s.heap a (.tup [v]) from I.hok a _ ha)
 simp only at c1 d1 nd
 subst c1 d1 nd
 obtain⟨u,rfl,ru⟩:=r.one
 refine wpAny_binaryOp_repeat_ref (T:="tuple") (U:="int") (by decide) ⟨_,eo,rfl⟩ (fun s'=>typeIs_int s' k t) zeM F.fills_int_mul F.slot_int_rmul zfH F.slot_int_index.lookup
  (call_meets F.slot_int_rmul (typeIs_int s k t) F.entry_int_rmul (F.args_int_rmul_2 _ _) (ziE k t a none sl _ n1)
   ⟨eo,rfl,⟨_,eo,rfl⟩,call_meets F.slot_tuple_mul ⟨_,eo,rfl⟩ F.entry_tuple_mul (F.args_tuple_mul_2 _ _) (zfQ a _ u n1 k t rfl rfl hk) ⟨eo,fun e=>?_,fun e=>?_⟩⟩)
 ·subst e
  exact⟨.ref a,H,I,rfl,q a H (Same.refl H) ha⟩
 ·have hz:(List.replicate k v).length≤sizeLine:=by rw[List.length_replicate,sizeLine_eq];lia
  exact⟨.ref s.heap.objs.size,_,I.laid (t':=s.toks) (o:=.tup (List.replicate k v)) (fun b ob z=>Heap.get?_push_of_some _ z) (Nat.le_refl _) ⟨hz,_,Vals.same ru k,TupX.new _ _⟩,rfl,q _ _ (zaa (I.hok.fresh (Nat.le_refl _)) _) zab⟩
end
end L2
namespace Bn
open PySem L2 Own
def Tups (H H':Hp):Prop:=∀ a xs,H a=some (.tup xs)→H' a=some (.tup xs)
theorem Tups.refl (H:Hp):Tups H H:=fun _ _ e=>e
theorem Tups.trans {H H1 H2:Hp}(x:Tups H H1) (y:Tups H1 H2):Tups H H2:=fun a xs e=>y a xs (x a xs e)
theorem Tups.of {H H':Hp}(s:Same H H'):Tups H H':=fun a _ e=>s a _ e
theorem Tups.lst {H:Hp}{l:Addr}{xs ys:List V}(h:H l=some (.lst xs)):Tups H (upd H l (.lst ys)):=fun a zs e=>by
 rw[zae (by rintro rfl;rw[h]at e;cases e)];exact e
def But (l:Addr) (H H':Hp):Prop:=∀ b o,H b=some o→b≠l→H' b=some o
theorem But.trans {l:Addr}{H H1 H2:Hp}(x:But l H H1) (y:But l H1 H2):But l H H2:=fun b o e n=>y b o (x b o e n) n
theorem But.of {l:Addr}{H H1:Hp}(x:Same H H1):But l H H1:=fun b o e _=>x b o e
structure PkAt (H:Hp) (l:Addr):Prop where
 ex:∃ a b:Int,H l=some (.lst [.int a,.int b])∧0≤a∧0≤b∧b<2 ^ 31
theorem PkAt.keep {H H':Hp}{l:Addr}(S:PkAt H l) (s:Same H H'):PkAt H' l:=by
 obtain⟨a,b,h,r⟩:=S.ex
 exact⟨a,b,s _ _ h,r⟩
theorem PkAt.ne {H:Hp}{l p:Addr}(S:PkAt H l) (h:H p=none):l≠p:=by
 obtain⟨a,b,e,_⟩:=S.ex
 exact zac e h
theorem PkAt.upd {H:Hp}{l p:Addr}{o:HO}(S:PkAt H l) (h:l≠p):PkAt (upd H p o) l:=by
 obtain⟨a,b,e,r⟩:=S.ex
 exact⟨a,b,by rw[zae h];exact e,r⟩
theorem But.tups {H H':Hp}{l:Addr}(x:But l H H') (S:PkAt H l):Tups H H':=fun a xs e=>x a _ e (by
 rintro rfl
 obtain⟨_,_,z,_⟩:=S.ex
 rw[z]at e;cases e)
def Prs (H:Hp):List V→List (Nat × Nat)→Prop
 | [],[]=>True
 | p::ps,f::fs=>(∃ a,p=.ref a∧H a=some (.tup [.int f.1,.int f.2]))∧Prs H ps fs
 | _,_=>False
theorem Prs.tups {H H':Hp}(t:Tups H H'):∀ {ps:List V}{fs:List (Nat × Nat)},Prs H ps fs→Prs H' ps fs
 | [],[],_=>trivial
 | _::_,_::_,⟨⟨a,e,h⟩,r⟩=>⟨⟨a,e,t _ _ h⟩,r.tups t⟩
theorem Prs.len {H:Hp}:∀ {ps:List V}{fs:List (Nat × Nat)},Prs H ps fs→ps.length=fs.length
 | [],[],_=>rfl
 | _::_,_::_,⟨_,r⟩=>congrArg (· + 1) r.len
theorem Prs.add {H:Hp}{a:Addr}{f:Nat × Nat}(h:H a=some (.tup [.int f.1,.int f.2])):∀ {ps:List V}{fs:List (Nat × Nat)},Prs H ps fs→Prs H (ps++[.ref a]) (fs++[f])
 | [],[],_=>⟨⟨a,rfl,h⟩,trivial⟩
 | _::_,_::_,⟨x,r⟩=>⟨x,r.add h⟩
theorem Prs.get {H:Hp}:∀ {ps:List V}{fs:List (Nat × Nat)}{i:Nat}{p:V},Prs H ps fs→ps[i]?=some p→∃ a f,p=.ref a∧fs[i]?=some f∧H a=some (.tup [.int f.1,.int f.2])
 | [],[],_,_,_,e=>by simp at e
 | _::_,f::_,0,p,⟨⟨a,e1,h⟩,_⟩,e=>by
  have:_=p:=Option.some.inj e
  subst this
  exact⟨a,f,e1,rfl,h⟩
 | _::_,_::_,i+1,p,⟨_,r⟩,e=>r.get (i:=i) (by simpa using e)
structure Nt where
 lanes:Nat
 forks:List (Nat × Nat)
 ends:List Nat
structure Nt.Ok (N:Nt):Prop where
 l1:1≤N.lanes
 l16:N.lanes≤16
 fm:N.forks.length≤128
 fk:∀ f∈N.forks,f.1<N.lanes∧f.2<N.lanes∧f.1≠f.2
 en:N.ends.Perm (List.range N.lanes)
def nums (es:List Nat):List V:=es.map fun (e:Nat)=>V.int e
structure NetAt (H:Hp) (r fr er:Addr) (ps:List V) (N:Nt):Prop where
 net:H r=some (.tup [.int N.lanes,.ref fr,.ref er])
 forks:H fr=some (.tup ps)
 prs:Prs H ps N.forks
 ends:H er=some (.tup (nums N.ends))
theorem NetAt.tups {H H':Hp}{r fr er:Addr}{ps:List V}{N:Nt}(t:Tups H H') (h:NetAt H r fr er ps N):NetAt H' r fr er ps N:=⟨t _ _ h.net,t _ _ h.forks,h.prs.tups t,t _ _ h.ends⟩
def zaA (st:List Int × List Int) (f:Nat × Nat):List Int × List Int :=
 ((st.1.set f.1 ((st.1.getD f.1 0+st.1.getD f.2 0+1) / 2)).set f.2 ((st.1.getD f.1 0+st.1.getD f.2 0) / 2),st.2++[(st.1.getD f.1 0+st.1.getD f.2 0)%2])
def zay (st:List Int × List Int) (fs:List (Nat × Nat)):List Int × List Int:=fs.foldl zaA st
def flow (fs:List (Nat × Nat)) (cs:List Int):List Int × List Int:=zay (cs,[]) fs
def zau (N:Nt) (cs:List Int):List Int:=N.ends.map fun e=>(flow N.forks cs).1.getD e 0
def zai (N:Nt) (cs:List Int):List Int:=(flow N.forks cs).2
theorem zht (fs:List (Nat × Nat)) (f:Nat × Nat) (cs:List Int):flow (fs++[f]) cs=zaA (flow fs cs) f:=by
 unfold flow zay;rw[List.foldl_append];rfl
theorem zaF (st:List Int × List Int) (f:Nat × Nat):(zaA st f).1.length=st.1.length:=by simp[zaA]
theorem zbj:∀ (fs:List (Nat × Nat)) (st:List Int × List Int),(zay st fs).1.length=st.1.length∧(zay st fs).2.length=st.2.length+fs.length
 | [],st=>⟨rfl,rfl⟩
 | f::fs,st=>by
  have h:=zbj fs (zaA st f)
  refine⟨h.1.trans (zaF st f),h.2.trans ?_⟩
  simp[zaA];lia
theorem zbO (fs:List (Nat × Nat)) (cs:List Int):(flow fs cs).1.length=cs.length:=(zbj fs (cs,[])).1
theorem zav (fs:List (Nat × Nat)) (cs:List Int):(flow fs cs).2.length=fs.length:=by
 have:=(zbj fs (cs,[])).2
 simpa [flow] using this
theorem zbi {fs:List (Nat × Nat)}{i:Nat}{f:Nat × Nat}(h:fs[i]?=some f) (cs:List Int):flow (fs.take (i+1)) cs=zaA (flow (fs.take i) cs) f:=by
 have w:=List.getElem?_eq_some_iff.mp h;obtain⟨hi,e⟩:=w
 rw[List.take_succ_eq_append_getElem hi,zht,e]
theorem zaL {xs:List Int}{i p:Nat}{a:Int}(h:p<xs.length):(xs.set i a).getD p 0=if i=p then a else xs.getD p 0:=by
 rw[List.getD_eq_getElem?_getD,List.getElem?_set]
 by_cases e:i=p
 ·subst e;simp[h]
 ·simp[e]
theorem zhy {N:Nt}(ok:N.Ok) {e:Nat}(h:e∈N.ends):e<N.lanes:=List.mem_range.mp (ok.en.mem_iff.mp h)
theorem zdx {N:Nt}(ok:N.Ok):N.ends.length=N.lanes:=by rw[ok.en.length_eq,List.length_range]
theorem zbw {cs:List Int}{i:Nat}(h:i<cs.length):atI (cs.map V.int) ((i:Nat):Int)=some (.int (cs.getD i 0)):=by
 refine zaB ?_
 rw[List.getElem?_map,List.getD_eq_getElem?_getD,List.getElem?_eq_getElem h];rfl
theorem zdv {α:Type}{xs:List α}{i:Nat}(h:i<xs.length):ixN xs.length ((i:Nat):Int)=some i:=by
 unfold ixN
 rw[if_pos (by lia),if_pos (by lia)];simp
theorem zbn (cs:List Int) (i:Nat) (a:Int):(cs.map V.int).set i (.int a)=(cs.set i a).map V.int:=by rw[List.map_set]
structure Mgs (mg:Str→Option Value):Prop where
 len:mg "len" = none
 range:mg "range" = none
 tuple:mg "tuple" = none
 enum:mg "enumerate" = none
 abs:mg "abs" = none
 zip:mg "zip" = none
 isi:mg "isinstance" = none
 all:mg "all" = none
 sum:mg "sum" = none
 bool:mg "bool" = none
 int:mg "int" = none
 str:mg "str" = none
 max:mg "max" = none
 min:mg "min" = none
 sorted:mg "sorted" = none
 list:mg "list" = none
structure Use (P:Program) (w:World) (K:PySem.W.Frag) (mg:Str→Option Value) (base:Heap) (x:Str) (ps:List Str) (k:Nat) (sp:Sp) (f:Addr) (fd:FuncData):Prop where
 ok:FnOk P w K mg base CX0 k f fd ps sp
 b:Binds K fd ps []
 kp:PySem.W.keepIn K (.ref f)=true
 m:mg x=some (.ref f)
def zgt (K:PySem.W.Frag):Sp:=fun vs H Q _=>∃ (a:Addr) (ns:List Int) (k:Int),vs=[.ref a,.int k]∧SqL K H a (ns.map V.int)∧0≤k∧∀ x:Int,Q (.int x) H
def zgr (K:PySem.W.Frag):Sp:=fun vs H Q _=>∃ (a:Addr) (ns:List Int) (k:Int),vs=[.ref a,.int k]∧SqL K H a (ns.map V.int)∧ns.length≤63∧0≤k∧k≤1000∧∀ l H',H l=none→Same H H'→PkAt H' l→Q (.ref l) H'
def zbs:Sp:=fun vs H Q _=>∃ (l:Addr) (m:Int),vs=[.ref l,.int m]∧0<m∧m<1073741824∧PkAt H l∧∀ (v:Nat) H',(v:Int)<m→PkAt H' l→But l H H'→Q (.int v) H'
def zch:Sp:=fun vs H Q _=>∃ r fr er ps N c cs,vs=[.ref r,.ref c]∧Nt.Ok N∧NetAt H r fr er ps N∧H c=some (.tup (List.map V.int cs))∧cs.length=N.lanes ∧
 ∀ p lo lt H',Same H H'→H' p=some (.tup [.ref lo,.ref lt])→H' lo=some (.lst ((flow N.forks cs).1.map V.int))→H' lt=some (.lst ((flow N.forks cs).2.map V.int))→Q (.ref p) H'
def zgs:Sp:=fun vs H Q _=>∃ r fr er ps N c cs,vs=[.ref r,.ref c]∧Nt.Ok N∧NetAt H r fr er ps N∧H c=some (.tup (List.map V.int cs))∧cs.length=N.lanes ∧
 ∀ p H',Same H H'→H' p=some (.tup ((zau N cs).map V.int))→Q (.ref p) H'
def zeh:Sp:=fun vs H Q _=>∃ r fr er ps N c cs,vs=[.ref r,.ref c]∧Nt.Ok N∧NetAt H r fr er ps N∧H c=some (.tup (List.map V.int cs))∧cs.length=N.lanes ∧
 ∀ p H',Same H H'→H' p=some (.tup ((zai N cs).map V.int))→Q (.ref p) H'
def Frs (l:Addr) (H:Hp) (x:Addr):Prop:=∀ b o,H b=some o→b≠l→b≠x
theorem But.frs {l x:Addr}{H H1:Hp}(B:But l H H1) (h:H1 x=none):Frs l H x:=fun b o e n=>zac (B b o e n) h
theorem But.upd {l x:Addr}{H H1:Hp}{o:HO}(B:But l H H1) (f:Frs l H x):But l H (upd H1 x o):=fun b u e n=>by rw[zae (f b u e n)];exact B b u e n
theorem But.new {l x:Addr}{H H1:Hp}{o:HO}(B:But l H H1) (h:H1 x=none):But l H (L2.upd H1 x o):=B.upd (B.frs h)
theorem zag (es:List Nat):(nums es).length=es.length:=by simp[nums]
theorem zh3 {one d lanes:Nat}(h1:one<lanes) (h2:d+1<lanes):(one+1+d)%lanes<lanes∧one≠(one+1+d)%lanes:=by
 refine⟨Nat.mod_lt _ (by lia),fun e=>?_⟩
 by_cases z:one+1+d<lanes
 ·rw[Nat.mod_eq_of_lt z]at e;lia
 ·rw[Nat.mod_eq_sub_mod (by lia),Nat.mod_eq_of_lt (by lia)]at e;lia
theorem zh6 (k:Nat):0<PySem.NumText.digitsVal (49::List.replicate k 48):=by
 unfold PySem.NumText.digitsVal
 have go:∀ (k acc:Nat),0<acc→0<(List.replicate k 48).foldl (fun acc c=>acc*10+(c-48)) acc:=fun k=>by
  induction k with
  | zero=>intro acc h;exact h
  | succ k ih=>intro acc h;rw[List.replicate_succ,List.foldl_cons];exact ih _ (by lia)
 rw[List.foldl_cons]
 exact go k _ (by decide)
theorem zhj {z:Str}{k:Nat}(hz:z.cps.toList=List.replicate k 48):PySem.NumText.AllDigits ((("1":Str)++z).cps.toList)∧(("1":Str)++z).length=k+1∧0<PySem.NumText.digitsVal ((("1":Str)++z).cps.toList):=by
 have e:(("1":Str)++z).cps.toList=49::List.replicate k 48:=by
  show ((("1":Str).cps++z.cps).toList)=_
  rw[Array.toList_append,hz];rfl
 refine⟨?_,?_,?_⟩
 ·rw[e]
  intro c hc
  rcases List.mem_cons.mp hc with q|q
  ·lia
  ·have:=List.eq_of_mem_replicate q;lia
 ·have:=congrArg List.length e
  rw[Array.length_toList]at this
  show (("1":Str)++z).cps.size=k+1
  rw[this,List.length_cons,List.length_replicate]
 ·rw[e];exact zh6 k
end Bn
namespace L2
open PySem PySem.Spec PyProof.Rows Own
def DEq (K:PySem.W.Frag) (H:Hp):Nat→V→V→Prop
 | 0,x,y=>x=y∧zbS x=true
 | n+1,x,y=>(x=y∧zbS x=true)∨∃ a b xs ys,x=.ref a∧y=.ref b∧SqT K H a xs∧SqT K H b ys∧xs.length=ys.length∧∀ (i:Nat) (u v:V),xs[i]?=some u→ys[i]?=some v→DEq K H n u v
section
variable {X:Cx}
theorem ziB {x:V}(h:zbS x=true):eqV x x=true:=by
 cases x<;>first|rfl|(simp[eqV];done)|exact absurd (show false=true from h) Bool.false_ne_true
theorem zcr (n:Nat):(List.range n).all (fun _=>true)=true:=by rw[List.all_eq_true];intro _ _;rfl
theorem zd5 {A:Around}{s:Shared}{x:V}{u v:Value}(f:zbS x=true) (r1:RelV x u) (r2:RelV x v):SeqAt.EqAt A s u v true:=by
 have:=zft (A:=A) (s:=s) r1 r2 f f
 rwa [ziB f]at this
theorem zhw {pins:List (Addr × Obj)}{σ:St}{H:Hp}{s:Shared}(I:Inv X pins σ H s):∀ (n:Nat) (A:Around) (x y:V) (u v:Value),A.units+n<cLine→DEq X.K H n x y→RelV x u→RelV y v→SeqAt.EqAt A s u v true
 | 0,A,x,y,u,v,_,⟨e,f⟩,r1,r2=>by subst e;exact zd5 f r1 r2
 | n+1,A,x,y,u,v,hu,h,r1,r2=>by
  rcases h with ⟨e,f⟩|⟨a,b,xs,ys,rfl,rfl,h1,h2,hl,hx⟩
  ·subst e;exact zd5 f r1 r2
  ·cases r1;cases r2
   by_cases ab:a=b
   ·subst ab;exact SeqAt.EqAt.same _
   ·obtain⟨its,g1,p1,_⟩:=I.tuple h1
    obtain⟨jts,g2,p2,_⟩:=I.tuple h2
    have l1:=g1.length
    have l2:=g2.length
    refine SeqAt.EqAt.of_refs ab ?_
    have:=SeqAt.RcAt.tuples (e:=fun _=>true) p1 p2 (A:=A) (s:=s) (by lia) (fun j k1 k2=>?_)
    ·rw[zcr,List.size_toArray,List.size_toArray,← l1,← l2,hl]at this
     simpa using this
    ·have k1':j<xs.length:=by simpa [l1] using k1
     have k2':j<ys.length:=by simpa [l2] using k2
     obtain⟨w1,e1,q1⟩:=g1.get (List.getElem?_eq_getElem k1')
     obtain⟨w2,e2,q2⟩:=g2.get (List.getElem?_eq_getElem k2')
     have z1:its.toArray[j]=w1:=by simpa using (List.getElem?_eq_some_iff.mp e1).2
     have z2:jts.toArray[j]=w2:=by simpa using (List.getElem?_eq_some_iff.mp e2).2
     rw[z1,z2]
     exact zhw I n A.in1 _ _ _ _ (by show A.units+1+n<cLine;lia) (hx j _ _ (List.getElem?_eq_getElem k1') (List.getElem?_eq_getElem k2')) q1 q2
def ziK (K:PySem.W.Frag) (c:Bool):R2:=fun x y H Q=>∃ n a b xs ys,n≤20∧x=.ref a∧y=.ref b∧SqT K H a xs∧SqT K H b ys∧xs.length=ys.length∧(∀ (i:Nat) (u v:V),xs[i]?=some u→ys[i]?=some v→DEq K H n u v)∧Q (.bl c) H
theorem op_neD (hu:X.A.units+64<cLine):OpR X (compareOp .NotEq) (ziK X.K false):=by
 intro pins s σ H x y vx vy Q I rx ry h
 obtain⟨n,a,b,xs,ys,hn,rfl,rfl,h1,h2,hl,hx,q⟩:=h
 cases rx;cases ry
 obtain⟨its,g1,p1,_⟩:=I.tuple h1
 obtain⟨jts,g2,p2,_⟩:=I.tuple h2
 have l1:=g1.length
 have l2:=g2.length
 refine SeqAt.RcNeAt.tuples (e:=fun _=>true) p1 p2 (by lia) (fun j k1 k2=>?_) X.prog X.w _ _ ?_
 ·have k1':j<xs.length:=by simpa [l1] using k1
  have k2':j<ys.length:=by simpa [l2] using k2
  obtain⟨w1,e1,q1⟩:=g1.get (List.getElem?_eq_getElem k1')
  obtain⟨w2,e2,q2⟩:=g2.get (List.getElem?_eq_getElem k2')
  have z1:its.toArray[j]=w1:=by simpa using (List.getElem?_eq_some_iff.mp e1).2
  have z2:jts.toArray[j]=w2:=by simpa using (List.getElem?_eq_some_iff.mp e2).2
  rw[z1,z2]
  exact zhw I n _ _ _ _ _ (by show X.A.units+1+n<cLine;lia) (hx j _ _ (List.getElem?_eq_getElem k1') (List.getElem?_eq_getElem k2')) q1 q2
 ·rw[zcr,List.size_toArray,List.size_toArray,← l1,← l2,hl]
  refine⟨.bl false,H,I,?_,q⟩
  show Value.bool _=Value.bool false
  simp
theorem ziP (hu:X.A.units+64<cLine):OpR X (compareOp .Eq) (ziK X.K true):=by
 intro pins s σ H x y vx vy Q I rx ry h
 obtain⟨n,a,b,xs,ys,hn,rfl,rfl,h1,h2,hl,hx,q⟩:=h
 cases rx;cases ry
 obtain⟨its,g1,p1,_⟩:=I.tuple h1
 obtain⟨jts,g2,p2,_⟩:=I.tuple h2
 have l1:=g1.length
 have l2:=g2.length
 refine SeqAt.RcAt.tuples (e:=fun _=>true) p1 p2 (by lia) (fun j k1 k2=>?_) X.prog X.w _ _ ?_
 ·have k1':j<xs.length:=by simpa [l1] using k1
  have k2':j<ys.length:=by simpa [l2] using k2
  obtain⟨w1,e1,q1⟩:=g1.get (List.getElem?_eq_getElem k1')
  obtain⟨w2,e2,q2⟩:=g2.get (List.getElem?_eq_getElem k2')
  have z1:its.toArray[j]=w1:=by simpa using (List.getElem?_eq_some_iff.mp e1).2
  have z2:jts.toArray[j]=w2:=by simpa using (List.getElem?_eq_some_iff.mp e2).2
  rw[z1,z2]
  exact zhw I n _ _ _ _ _ (by show X.A.units+1+n<cLine;lia) (hx j _ _ (List.getElem?_eq_getElem k1') (List.getElem?_eq_getElem k2')) q1 q2
 ·rw[zcr,List.size_toArray,List.size_toArray,← l1,← l2,hl]
  refine⟨.bl true,H,I,?_,q⟩
  show Value.bool _=Value.bool true
  simp
end
section
variable {prog:Program}{w:World}{A:Around}{E:Value→Shared→Prop}{s:Shared}
theorem zeT {t sl:Addr}{items:Array Value}{vl vu:Value}{lo hi:Option Int}{Q:Value→Shared→Prop}(ht:IsTup s.heap t items) (hs:s.heap.IsSliceOf sl vl vu .none) (pl:IsPart vl lo) (pu:IsPart vu hi)
  (e0:HT.sIx items.size 0 lo=0) (e1:HT.sIx items.size items.size hi=items.size) (h:Q (.ref t) s):wpAny (model prog w) A (getItem (.ref t) (.ref sl)) Q E s:=by
 obtain⟨os,hos,hcs,hds⟩:=id hs
 have hTs:s.TypeIs (.ref sl) "slice":=⟨os,hos,hcs⟩
 unfold getItem
 try with_reducible refine wpAny_holding ?_
 first|refine wpAny_bind (wpAny_pure ?_)|skip
 refine wpAny_bind (wpAny_sequenceKey ht.typeIs (by decide) (wpAny_bind (wpAny_callSpecial?_slot (name:=Str.ofString "__getitem__") ht.typeIs PyProof.Rows.slot_tuple_getitem (wpAny_call_entry PyProof.Rows.slot_tuple_getitem ht.typeIs PyProof.Rows.entry_tuple_getitem ?_ (PyProof.Rows.args_tuple_getitem _ _)))))
 show wpAny _ _ (Builtin.Tuple.tupleItemsOf (.ref t) >>= _) _ _ s
 refine wpAny_bind (tupleItemsOf_ ht (wpAny_bind (wpAny_typeOf hTs ?_)))
 rw[if_pos (by decide)]
 refine wpAny_bind (HT.sliceApplied_gen hs pl pu ?_)
 rw[e0,e1]
 show wpAny _ _ (if (((0:Nat):Int) == 0 && (1:Int) == 1 && (items.size-0) == items.size)=true then _ else _) _ _ s
 rw[if_pos (by simp)]
 refine wpAny_bind ?_
 unfold Builtin.Tuple.tupleIsExact
 refine wpAny_bind (wpAny_typeOf ht.typeIs (wpAny_pure ?_))
 rw[if_pos (by decide)]
 exact wpAny_bind (wpAny_rule (wpAny_pure ⟨_,rfl,wpAny_pure h⟩))
end
section
variable {X:Cx}
end
section
variable {prog:Program}{w:World}{A:Around}{R:Result→Shared→Prop}{I S:Addr}{fp wr:List Addr}{n:Nat}{P B:Nat→Value→Prop}{St:Nat→Heap→Prop}
end
section
variable {prog:Program}{w:World}{A:Around}{E:Value→Shared→Prop}{s:Shared}
end
section
variable {X:Cx}{e e2:Expr}{ta tb:TE}{p kp pos:Pos}
end
section
variable {X:Cx}
theorem za7:OpR X (binaryOp .Add) (fun x y H Q=>∃ a b xs ys,x=.ref a∧y=.ref b∧H a=some (.tup xs)∧H b=some (.tup ys)∧xs.length+ys.length≤sizeLine∧∀ r H',Same H H'→H' r=some (.tup (xs++ys))→Q (.ref r) H'):=by
 intro pins s σ H x y v u Q I rx ry h
 obtain⟨a,b,xs,ys,rfl,rfl,ha,hb,hz,q⟩:=h
 by_cases hx:xs=[]
 ·subst hx
  cases rx;cases ry
  obtain⟨its,r1,p1,_⟩:=I.tuple (SqT.of ha)
  obtain⟨jts,r2,p2,_⟩:=I.tuple (SqT.of hb)
  cases r1
  obtain⟨⟨c1,d1,e1,sl1⟩,o1,c1',n1,e1'⟩:=p1
  obtain⟨⟨c2,d2,e2,sl2⟩,o2,c2',n2,e2'⟩:=p2
  simp only at c1' e1' c2' e2'
  subst c1' e1' c2' e2'
  refine concat_meets ⟨_,o1,rfl⟩ ⟨_,o2,rfl⟩ noFill_tuple_add seq_tuple_add PySem.F.slot_tuple_add PySem.F.entry_tuple_add (PySem.F.args_tuple_add_2 _ _) (tuple_addW0 a b #[] jts.toArray n1 n2 d1 d2 sl1 sl2 rfl) ⟨o1,o2,?_⟩
  exact⟨.ref b,H,I,rfl,q b H (Same.refl H) (by rw[List.nil_append];exact hb)⟩
 ·exact zjz pins s σ H _ _ v u Q I rx ry ⟨a,b,xs,ys,rfl,rfl,SqT.of ha,SqT.of hb,hx,hz,fun e=>q a H (Same.refl H) (by rw[e,List.append_nil];exact ha),fun _ p hp=>q p _ (zaa hp _) zab⟩
theorem zaP:SlR X (fun x lo hi H Q=>∃ a xs,x=.ref a∧H a=some (.tup xs)∧∀ p H',Same H H'→H' p=some (.tup (cutV xs lo hi))→Q (.ref p) H'):=by
 intro pins s σ H x v vl vu lo hi sl Q I rx hs pl pu h
 obtain⟨a,xs,rfl,hx,q⟩:=h
 by_cases hw:HT.sIx xs.length 0 lo=0∧HT.sIx xs.length xs.length hi=xs.length
 ·cases rx
  obtain⟨its,r,ht,hz⟩:=I.tuple (SqT.of hx)
  have hlen:its.toArray.size=xs.length:=by rw[List.size_toArray];exact r.length.symm
  refine⟨"tuple",_,PyProof.Rows.slot_tuple_getitem.lookup,ht.typeIs,zeT ht hs pl pu (by rw[hlen];exact hw.1) (by rw[hlen];exact hw.2) ⟨.ref a,H,I,rfl,q a H (Same.refl H) ?_⟩⟩
  unfold cutV
  rw[hw.1,hw.2,List.drop_zero,Nat.sub_zero,List.take_length]
  exact hx
 ·exact zkn pins s σ H _ v vl vu lo hi sl Q I rx hs pl pu ⟨a,xs,rfl,SqT.of hx,hw,fun p hp=>q p _ (zaa hp _) zab⟩
end
theorem zaY (xs:List V) (i:Nat) (h:i≤xs.length):cutV xs none (some (i:Int))=xs.take i:=by
 unfold cutV
 rw[HT.sIx_none,HT.sIx_nat,List.drop_zero,Nat.sub_zero,Nat.min_eq_left h]
theorem zaZ (xs:List V) (i:Nat) (h:i≤xs.length):cutV xs (some (i:Int)) none=xs.drop i:=by
 unfold cutV
 rw[HT.sIx_none,HT.sIx_nat,Nat.min_eq_left h]
 exact List.take_of_length_le (by rw[List.length_drop];exact Nat.le_refl _)
section
variable {X:Cx}
end
section
variable {X:Cx}
end
end L2
namespace L2
open PySem PySem.Spec PyProof.Rows PySem.Calls PySem.NumText Own
section
variable {prog:Program}{w:World}{A:Around}{E:Value→Shared→Prop}{s:Shared}
theorem zeZ {sl:Addr}{t:Tok}{Q:Int × Int × Nat→Shared→Prop}(hs:s.heap.IsSliceOf sl .none .none (.int 1 t)) (h:Q (0,1,2) s):wpAny (model prog w) A (Builtin.Slice.sliceApplied (.ref sl) (pure (2:Int))) Q E s:=by
 have hs':=hs;obtain⟨os,hos,hcs,hds⟩:=hs'
 unfold Builtin.Slice.sliceApplied Builtin.Slice.sliceFields
 refine wpAny_bind (wpAny_bind (wpAny_field hos hds (x:=.none) rfl (wpAny_bind (wpAny_field hos hds (x:=.none) rfl (wpAny_bind (wpAny_field hos hds (x:=.int 1 t) rfl (wpAny_pure ?_)))))))
 refine wpAny_bind (slicePart_int ?_);show wpAny _ _ (if ((1:Int) == 0)=true then _ else _) _ _ s
 rw[if_neg (by decide)]
 refine wpAny_bind (slicePart_none (wpAny_bind (slicePart_none (wpAny_bind (wpAny_pure ?_)))))
 show wpAny _ _ (match Builtin.Slice.sliceAdjust none none 1 (2:Int) with|(lo,hi)=>pure (lo,(1:Int),Builtin.Slice.slicePlaces lo hi 1)) _ _ s
 have e:Builtin.Slice.sliceAdjust none none 1 (2:Int)=(0,2):=by decide
 have e2:Builtin.Slice.slicePlaces (0:Int) 2 1=2:=by decide
 rw[e];show wpAny _ _ (pure ((0:Int),(1:Int),Builtin.Slice.slicePlaces (0:Int) 2 1)) _ _ s
 rw[e2];exact wpAny_pure h
theorem zeS {t sl:Addr}{x y:Value}{tk:Tok}{Q:Value→Shared→Prop}(ht:IsTup s.heap t #[x,y]) (hs:s.heap.IsSliceOf sl .none .none (.int 1 tk)) (h:Q (.ref t) s) :
  wpAny (model prog w) A (getItem (.ref t) (.ref sl)) Q E s:=by
 have hs':=hs;obtain⟨os,hos,hcs,hds⟩:=hs'
 have hTs:s.TypeIs (.ref sl) "slice":=⟨os,hos,hcs⟩
 unfold getItem;try with_reducible refine wpAny_holding ?_
 first|refine wpAny_bind (wpAny_pure ?_)|skip
 refine wpAny_bind (wpAny_sequenceKey ht.typeIs (by decide) (wpAny_bind (wpAny_callSpecial?_slot (name:=Str.ofString "__getitem__") ht.typeIs PyProof.Rows.slot_tuple_getitem (wpAny_call_entry PyProof.Rows.slot_tuple_getitem ht.typeIs PyProof.Rows.entry_tuple_getitem ?_ (PyProof.Rows.args_tuple_getitem _ _)))))
 show wpAny _ _ (Builtin.Tuple.tupleItemsOf (.ref t) >>= _) _ _ s
 refine wpAny_bind (tupleItemsOf_ ht (wpAny_bind (wpAny_typeOf hTs ?_)));rw[if_pos (by decide)]
 refine wpAny_bind (zeZ hs ?_);show wpAny _ _ (if ((0:Int) == 0 && (1:Int) == 1 && (2:Nat) == 2)=true then _ else _) _ _ s
 rw[if_pos (by decide)]
 refine wpAny_bind (?_:wpAny _ _ (Builtin.Tuple.tupleIsExact (.ref t)) _ _ s)
 unfold Builtin.Tuple.tupleIsExact;refine wpAny_bind (wpAny_typeOf ht.typeIs (wpAny_pure ?_))
 rw[if_pos (by decide)];exact wpAny_bind (wpAny_rule (wpAny_pure ⟨_,rfl,wpAny_pure h⟩))
end
section
variable {X:Cx}
def zk7 (K:PySem.W.Frag) (te:TE) (ts:TO):TE:=fun σ H Q=>te σ H fun x H1=>ts σ H1 fun o H2=>∃ a u v,x=.ref a∧SqT K H2 a [u,v]∧((o=some 1∧Q (.ref a) H2)∨(o=some (-1)∧∀ p,H2 p=none→Q (.ref p) (upd H2 p (.tup [v,u]))))
theorem zjx {e st:Expr}{te:TE}{ts:TO}{p2 pos:Pos}(he:PE X e te) (hs:PO X (some st) ts):PE X (.Subscript e (.Slice none none (some st) p2) pos) (zk7 X.K te ts):=by
 intro pins s σ H Q I h
 refine Subscript_ (thn (he pins s σ H _ I h) fun v s1 ⟨x,H1,I1,r1,q1⟩=>wpAny_Slice ?_)
 rw[evalPart_none];refine wpAny_pure (wpAny_pure (thn (hs pins s1 σ H1 _ I1 q1) fun vst s2 ⟨o,H2,I2,po,q2⟩=>?_))
 obtain⟨a,u1,u2,rfl,hq,k⟩:=q2
 cases r1
 rcases k with ⟨rfl,k⟩|⟨rfl,k⟩
 ·obtain⟨t,rfl⟩:∃ t,vst=.int 1 t:=by cases po;exact⟨_,rfl⟩
  have I3:Inv X pins σ H2 { s2 with heap:=s2.heap.push { cls:=.type "slice",data:=.fields #[.none,.none,.int 1 t] } }:=I2.kept (t':=s2.toks) fun b ob q=>Heap.get?_push_of_some _ q
  obtain⟨its,r,ht,hz⟩:=I3.tuple hq
  obtain⟨w1,w2,rfl,g1,g2⟩:=r.two
  show wpAny (model X.prog X.w) X.A (subscriptTail e (.Slice none none (some st) p2) (.ref a) (.ref s2.heap.objs.size)) (EP X pins σ Q) X.xe { s2 with heap:=s2.heap.push { cls:=.type "slice",data:=.fields #[.none,.none,.int 1 t] } }
  refine tail_any (ops:=[.ref a,.ref s2.heap.objs.size]) ht.typeIs PyProof.Rows.slot_tuple_getitem.lookup (zeS ht (Heap.IsSliceOf.new ..) ?_) (by with_unfolding_all rfl)
  exact⟨.ref _,_,I3,rfl,k⟩
 ·obtain⟨t,rfl⟩:∃ t,vst=.int (-1) t:=by cases po;exact⟨_,rfl⟩
  have I3:Inv X pins σ H2 { s2 with heap:=s2.heap.push { cls:=.type "slice",data:=.fields #[.none,.none,.int (-1) t] } }:=I2.kept (t':=s2.toks) fun b ob q=>Heap.get?_push_of_some _ q
  obtain⟨its,r,ht,hz⟩:=I3.tuple hq
  obtain⟨w1,w2,rfl,g1,g2⟩:=r.two
  show wpAny (model X.prog X.w) X.A (subscriptTail e (.Slice none none (some st) p2) (.ref a) (.ref s2.heap.objs.size)) (EP X pins σ Q) X.xe { s2 with heap:=s2.heap.push { cls:=.type "slice",data:=.fields #[.none,.none,.int (-1) t] } }
  refine tail_any (ops:=[.ref a,.ref s2.heap.objs.size]) ht.typeIs PyProof.Rows.slot_tuple_getitem.lookup (zd2 ht (Heap.IsSliceOf.new ..) ?_) (by with_unfolding_all rfl)
  exact⟨.ref _,_,I3.laid (t':=s2.toks) (o:=.tup [u2,u1]) (fun b ob q=>Heap.get?_push_of_some _ q) (Nat.le_refl _) ⟨by show 2≤sizeLine;decide,[w2,w1],.cons g2 (.cons g1 .nil),TupX.new _ _⟩,rfl,k _ (I3.hok.fresh (Nat.le_refl _))⟩
theorem zdD:CallR X (.type "int") (fun vs H Q=>∃ x:Str,vs=[.str x]∧AllDigits x.cps.toList∧0<x.length∧x.length≤640∧Q (.int (digitsVal x.cps.toList:Nat)) H):=by
 rintro pins s σ H vs us Q I rv ⟨x,rfl,hd,h0,h6,q⟩
 obtain⟨u,rfl,t,rfl⟩:=rv.one
 have xl:x.cps.toList.length=x.length:=by simp[Str.length]
 have ne:x.cps.toList≠[]:=fun z=>by rw[z]at xl;simp at xl;lia
 exact PySem.W.KIN.call_text (intText_digits hd ne (by lia)) h6 ⟨.int _,H,I.tok _,⟨_,rfl⟩,q⟩
end
end L2
namespace K83
open PySem L2 Own Bn
def top (i:Nat):Stmt:=PySem.Challenge.pw_stairlanes_k83_whole_weavings.main.body.getD i (.Pass ⟨0,0,0,0⟩)
abbrev zjp:Stmt:=top 53
abbrev zjl:Stmt:=top 54
abbrev zjh:Stmt:=top 55
section
variable {P:Program}{w:World}{K:PySem.W.Frag}{mg:Str→Option Value}{base:Heap}
theorem scC:FnScope ["_law_script","_law_k"] ["_law_script","_law_k"] (zad zjp):=⟨rfl,rfl,rfl,by decide +kernel,rfl,by decide +kernel,by decide +kernel⟩
theorem zjL {f:Addr}{fd:FuncData}(F:Fun K "_law_cell_at" "_law_cell_at" zjp f fd) (G:Mgs mg):FnOk P w K mg base CX0 1 f fd ["_law_script","_law_k"] (zgt K):=by
 refine F.ok scC (fun vs H Q E h=>?_) (fun cdv A outer s H vs Q E hr h=>?_)
 ·obtain⟨a,ns,k,rfl,_⟩:=h
  rfl
 obtain⟨a,ns,k,rfl,hS,k0,q⟩:=h
 refine⟨_,(@pss_cons _ _ _ _ _ (@ps_if _ _ _ _ _ _ _ _ (@pt_cmpR _ _ _ _ _ _ _ _ zcN (@pv _ 1 _ _ (by rfl) (by first|exact Or.inl rfl|exact Or.inr (.inl rfl)|exact Or.inr (.inr rfl)) (by decide) (by decide)) (@pe_callB _ _ _ _ _ _ _ _ _ call_len_seq (by rfl) G.len PySem.boot_len (@pa_cons _ _ _ _ _ (@pv _ 0 _ _ (by rfl) (by first|exact Or.inl rfl|exact Or.inr (.inl rfl)|exact Or.inr (.inr rfl)) (by decide) (by decide)) pa_nil (by rfl)) (by decide) (by decide) (by rfl) (by rfl)) (nomark _)) (@pss_one _ _ _ (@ps_ret _ _ _ _ (@pe_ix _ _ _ _ _ _ _ ix_list (@pv _ 0 _ _ (by rfl) (by first|exact Or.inl rfl|exact Or.inr (.inl rfl)|exact Or.inr (.inr rfl)) (by decide) (by decide)) (@pv _ 1 _ _ (by rfl) (by first|exact Or.inl rfl|exact Or.inr (.inl rfl)|exact Or.inr (.inr rfl)) (by decide) (by decide)) (fun _ _=>rfl)))) pss_nil) (@pss_one _ _ _ (@ps_ret _ _ _ _ pe_int))),?_⟩
 refine⟨_,rfl,_,rfl,a,_,rfl,.inl hS,_,_,rfl,rfl,_,rfl,ite2 (fun z=>?_) (fun z=>?_)⟩
 ·obtain⟨j,rfl⟩:=Int.eq_ofNat_of_zero_le k0
  have hj:j<ns.length:=by have:=of_decide_eq_true z;rw[List.length_map]at this;lia
  exact⟨_,rfl,_,rfl,a,_,_,_,rfl,rfl,hS,zbw hj,q _⟩
 ·exact q 0
theorem scK:FnScope ["_law_left_here","_law_many_here","_law_digit"] ["_law_left_here","_law_many_here"] (zad zjh):=⟨rfl,rfl,rfl,by decide +kernel,rfl,by decide +kernel,by decide +kernel⟩
theorem zjD {f:Addr}{fd:FuncData}(F:Fun K "_law_pick" "_law_pick" zjh f fd):FnOk P w K mg base CX0 1 f fd ["_law_left_here","_law_many_here"] zbs:=by
 refine F.ok scK (fun vs H Q E h=>?_) (fun cdv A outer s H vs Q E hr h=>?_)
 ·obtain⟨l,m,rfl,_⟩:=h
  rfl
 obtain⟨l,m,rfl,m0,m1,S,k⟩:=h
 obtain⟨a,b,hl,a0,b0,b1⟩:=S.ex
 refine⟨_,(@pss_cons _ _ _ _ _ (@ps_if _ _ _ _ _ _ _ _ (@pt_cmpR _ _ _ _ _ _ _ _ op_gt (@pe_ix _ _ _ _ _ _ _ ix_list (@pv _ 0 _ _ (by rfl) (by first|exact Or.inl rfl|exact Or.inr (.inl rfl)|exact Or.inr (.inr rfl)) (by decide) (by decide)) pe_int (fun _ _=>rfl)) pe_int (nomark _)) (@pss_cons _ _ _ _ _ (@ps_set _ _ 2 _ _ _ _ scK.nd rfl (.inl rfl) (@pe_op _ _ _ _ _ _ _ _ op_mod (@pe_ix _ _ _ _ _ _ _ ix_list (@pv _ 0 _ _ (by rfl) (by first|exact Or.inl rfl|exact Or.inr (.inl rfl)|exact Or.inr (.inr rfl)) (by decide) (by decide)) pe_int (fun _ _=>rfl)) (@pv _ 1 _ _ (by rfl) (by first|exact Or.inl rfl|exact Or.inr (.inl rfl)|exact Or.inr (.inr rfl)) (by decide) (by decide))) (by rfl) (by first|exact .inl rfl|exact .inr rfl|assumption)) (@pss_cons _ _ _ _ _ (@ps_asg _ _ _ _ _ _ (@pe_op _ _ _ _ _ _ _ _ op_fdiv (@pe_ix _ _ _ _ _ _ _ ix_list (@pv _ 0 _ _ (by rfl) (by first|exact Or.inl rfl|exact Or.inr (.inl rfl)|exact Or.inr (.inr rfl)) (by decide) (by decide)) pe_int (fun _ _=>rfl)) (@pv _ 1 _ _ (by rfl) (by first|exact Or.inl rfl|exact Or.inr (.inl rfl)|exact Or.inr (.inr rfl)) (by decide) (by decide))) (@pg_sub _ _ _ _ _ _ _ (@pv _ 0 _ _ (by rfl) (by first|exact Or.inl rfl|exact Or.inr (.inl rfl)|exact Or.inr (.inr rfl)) (by decide) (by decide)) pe_int set_list (by intro _;rfl)) (by rfl) (by rfl) (by rfl)) (@pss_one _ _ _ (@ps_ret _ _ _ _ (@pv _ 2 _ _ (by rfl) (by first|exact Or.inl rfl|exact Or.inr (.inl rfl)|exact Or.inr (.inr rfl)) (by decide) (by decide)))))) pss_nil) (@pss_cons _ _ _ _ _ (@ps_asg _ _ _ _ _ _ (@pe_op _ _ _ _ _ _ _ _ op_mod (@pe_op _ _ _ _ _ _ _ _ op_add (@pe_op _ _ _ _ _ _ _ _ op_mul (@pe_ix _ _ _ _ _ _ _ ix_list (@pv _ 0 _ _ (by rfl) (by first|exact Or.inl rfl|exact Or.inr (.inl rfl)|exact Or.inr (.inr rfl)) (by decide) (by decide)) pe_int (fun _ _=>rfl)) pe_int) pe_int) pe_int) (@pg_sub _ _ _ _ _ _ _ (@pv _ 0 _ _ (by rfl) (by first|exact Or.inl rfl|exact Or.inr (.inl rfl)|exact Or.inr (.inr rfl)) (by decide) (by decide)) pe_int set_list (by intro _;rfl)) (by rfl) (by rfl) (by rfl)) (@pss_one _ _ _ (@ps_ret _ _ _ _ (@pe_op _ _ _ _ _ _ _ _ op_mod (@pe_op _ _ _ _ _ _ _ _ op_mod (@pe_op _ _ _ _ _ _ _ _ op_mul (@pe_ix _ _ _ _ _ _ _ ix_list (@pv _ 0 _ _ (by rfl) (by first|exact Or.inl rfl|exact Or.inr (.inl rfl)|exact Or.inr (.inr rfl)) (by decide) (by decide)) pe_int (fun _ _=>rfl)) (@pe_ix _ _ _ _ _ _ _ ix_list (@pv _ 0 _ _ (by rfl) (by first|exact Or.inl rfl|exact Or.inr (.inl rfl)|exact Or.inr (.inr rfl)) (by decide) (by decide)) pe_int (fun _ _=>rfl))) pe_int) (@pv _ 1 _ _ (by rfl) (by first|exact Or.inl rfl|exact Or.inr (.inl rfl)|exact Or.inr (.inr rfl)) (by decide) (by decide))))))),?_⟩
 have fin:∀ (x:Int) (H':Hp),0≤x→x<m→PkAt H' l→But l H H'→Q (.int x) H':=fun x H' x0 x1 S' B'=>by
  obtain⟨v,rfl⟩:=Int.eq_ofNat_of_zero_le x0
  exact k v H' x1 S' B'
 refine⟨_,rfl,l,_,_,_,rfl,rfl,SqL.of hl,rfl,_,_,rfl,rfl,_,rfl,ite2 (fun q=>?_) (fun q=>?_)⟩
 ·refine⟨_,rfl,l,_,_,_,rfl,rfl,SqL.of hl,rfl,_,rfl,_,_,rfl,rfl,m0,?_⟩
  refine⟨_,rfl,l,_,_,_,rfl,rfl,SqL.of hl,rfl,_,rfl,_,_,rfl,rfl,⟨m0,m1⟩,_,rfl,l,_,_,0,rfl,rfl,hl,rfl,_,rfl,?_⟩
  exact fin _ _ (Int.emod_nonneg _ (by lia)) (Int.emod_lt_of_pos _ m0) ⟨a / m,b,zab,Int.ediv_nonneg a0 (by lia),b0,b1⟩ fun x o e ne=>by rw[zae ne];exact e
 ·refine⟨_,rfl,l,_,_,_,rfl,rfl,SqL.of hl,rfl,_,_,rfl,rfl,.inr ⟨by decide,by decide⟩,_,_,rfl,rfl,_,_,rfl,rfl,(by show (0:Int)<2147483647;decide),_,rfl,l,_,_,1,rfl,rfl,hl,rfl,?_⟩
  have g0:0≤(b*48271+12345)%2147483647:=Int.emod_nonneg _ (by decide)
  have g1:(b*48271+12345)%2147483647<2147483647:=Int.emod_lt_of_pos _ (by decide)
  generalize hH:upd H l (HO.lst ([V.int a,V.int b].set 1 (V.int ((b*48271+12345)%2147483647))))=H1
  have h1:H1 l=some (.lst [.int a,.int ((b*48271+12345)%2147483647)]):=by rw[← hH];exact zab
  refine⟨_,rfl,l,_,_,_,rfl,rfl,SqL.of h1,rfl,_,rfl,l,_,_,_,rfl,rfl,SqL.of h1,rfl,_,_,rfl,rfl,.inl ⟨by lia,by lia⟩,_,_,rfl,rfl,(by show (0:Int)<1999999973;decide),_,rfl,_,_,rfl,rfl,m0,?_⟩
  exact fin _ _ (Int.emod_nonneg _ (by lia)) (Int.emod_lt_of_pos _ m0) ⟨a,_,h1,a0,g0,by lia⟩ fun x o e ne=>by rw[← hH,zae ne];exact e
theorem scL:FnScope ["_law_script","_law_k","_law_cell","_law_seed"] ["_law_script","_law_k"] (zad zjl):=⟨rfl,rfl,rfl,by decide +kernel,rfl,by decide +kernel,by decide +kernel⟩
theorem zjH {f fC:Addr}{fd dC:FuncData}(F:Fun K "_law_left" "_law_left" zjl f fd) (G:Mgs mg) (zd:PySem.W.nsIn K cStatics "sys.int_max_str_digits" = some none) (UC:Use P w K mg base "_law_cell_at" ["_law_script","_law_k"] 1 (zgt K) fC dC):FnOk P w K mg base CX0 2 f fd ["_law_script","_law_k"] (zgr K):=by
 refine F.ok scL (fun vs H Q E h=>?_) (fun cdv A outer s H vs Q E hr h=>?_)
 ·obtain⟨a,ns,k,rfl,_⟩:=h
  rfl
 obtain⟨a,ns,k,rfl,hS,h63,k0,k1,q⟩:=h
 refine⟨_,(@pss_cons _ _ _ _ _ (@ps_set _ _ 2 _ _ _ _ scL.nd rfl (.inl rfl) (@pe_call _ _ _ _ _ _ _ _ _ _ _ _ _ _ _ _ UC.ok hr (by rfl) UC.m UC.kp UC.b .nil pass0 (@pa_cons _ _ _ _ _ (@pv _ 0 _ _ (by rfl) (by first|exact Or.inl rfl|exact Or.inr (.inl rfl)|exact Or.inr (.inr rfl)) (by decide) (by decide)) (@pa_cons _ _ _ _ _ (@pe_op _ _ _ _ _ _ _ _ op_mod (@pv _ 1 _ _ (by rfl) (by first|exact Or.inl rfl|exact Or.inr (.inl rfl)|exact Or.inr (.inr rfl)) (by decide) (by decide)) (@pe_callB _ _ _ _ _ _ _ _ _ (zcK rfl) (by rfl) G.max (by rfl) (@pa_cons _ _ _ _ _ pe_int (@pa_cons _ _ _ _ _ (@pe_callB _ _ _ _ _ _ _ _ _ call_len_seq (by rfl) G.len PySem.boot_len (@pa_cons _ _ _ _ _ (@pv _ 0 _ _ (by rfl) (by first|exact Or.inl rfl|exact Or.inr (.inl rfl)|exact Or.inr (.inr rfl)) (by decide) (by decide)) pa_nil (by rfl)) (by decide) (by decide) (by rfl) (by rfl)) pa_nil (by rfl)) (by rfl)) (by decide) (by decide) (by rfl) (by rfl))) pa_nil (by rfl)) (by rfl)) (by decide) (by rfl) (by rfl)) (by rfl) (by first|exact .inl rfl|exact .inr rfl|assumption)) (@pss_cons _ _ _ _ _ (@ps_set _ _ 3 _ _ _ _ scL.nd rfl (.inl rfl) (@pe_op _ _ _ _ _ _ _ _ op_mod (@pe_op _ _ _ _ _ _ _ _ op_mul (@pe_op _ _ _ _ _ _ _ _ op_add (@pe_op _ _ _ _ _ _ _ _ op_add (@pe_op _ _ _ _ _ _ _ _ op_mod (@pv _ 2 _ _ (by rfl) (by first|exact Or.inl rfl|exact Or.inr (.inl rfl)|exact Or.inr (.inr rfl)) (by decide) (by decide)) pe_int) (@pe_op _ _ _ _ _ _ _ _ op_mul (@pe_op _ _ _ _ _ _ _ _ op_mul pe_int (@pv _ 1 _ _ (by rfl) (by first|exact Or.inl rfl|exact Or.inr (.inl rfl)|exact Or.inr (.inr rfl)) (by decide) (by decide))) (@pv _ 1 _ _ (by rfl) (by first|exact Or.inl rfl|exact Or.inr (.inl rfl)|exact Or.inr (.inr rfl)) (by decide) (by decide)))) pe_int) pe_int) pe_int) (by rfl) (by first|exact .inl rfl|exact .inr rfl|assumption)) (@pss_one _ _ _ (@ps_ret _ _ _ _ (@zaz _ _ _ _ (@pa_cons _ _ _ _ _ (@pe_op _ _ _ _ _ _ _ _ op_mod (@pe_op _ _ _ _ _ _ _ _ op_mul (@pe_callB _ _ _ _ _ _ _ _ _ zcp (by rfl) G.abs (by rfl) (@pa_cons _ _ _ _ _ (@pv _ 2 _ _ (by rfl) (by first|exact Or.inl rfl|exact Or.inr (.inl rfl)|exact Or.inr (.inr rfl)) (by decide) (by decide)) pa_nil (by rfl)) (by decide) (by decide) (by rfl) (by rfl)) (@pe_callTy _ _ _ _ _ _ _ _ _ zcL (by rfl) G.int (by rfl) (@pa_cons _ _ _ _ _ (@zaS _ _ _ _ _ _ _ _ zh4 (@pe_callB _ _ _ _ _ _ _ _ _ zcp (by rfl) G.abs (by rfl) (@pa_cons _ _ _ _ _ (@pv _ 2 _ _ (by rfl) (by first|exact Or.inl rfl|exact Or.inr (.inl rfl)|exact Or.inr (.inr rfl)) (by decide) (by decide)) pa_nil (by rfl)) (by decide) (by decide) (by rfl) (by rfl)) (@pe_op _ _ _ _ _ _ _ _ ziN pe_int pe_int) (nomark _)) pa_nil (by rfl)) (by decide) (by decide) (by rfl) (by rfl))) (@pe_callTy _ _ _ _ _ _ _ _ _ (zd6 zd) (by rfl) G.int (by rfl) (@pa_cons _ _ _ _ _ (@pe_op _ _ _ _ _ _ _ _ zcX pe_str (@pe_op _ _ _ _ _ _ _ _ zgW pe_str pe_int)) pa_nil (by rfl)) (by decide) (by decide) (by rfl) (by rfl))) (@pa_cons _ _ _ _ _ (@pv _ 3 _ _ (by rfl) (by first|exact Or.inl rfl|exact Or.inr (.inl rfl)|exact Or.inr (.inr rfl)) (by decide) (by decide)) pa_nil (by rfl)) (by rfl))))))),?_⟩
 refine⟨_,rfl,_,rfl,_,rfl,a,_,rfl,.inl hS,_,_,rfl,_,_,rfl,rfl,?_,?_⟩
 ·split<;>lia
 refine⟨a,ns,_,rfl,hS,Int.emod_nonneg _ (by split<;>lia),fun x=>?_⟩
 refine⟨_,rfl,_,_,rfl,rfl,(by show (0:Int)<2147483629;decide),_,rfl,_,_,rfl,rfl,.inl ⟨by decide,by decide⟩,_,rfl,_,_,rfl,rfl,.inr ⟨by lia,by lia⟩,_,_,rfl,rfl,_,_,rfl,rfl,_,_,rfl,rfl,.inr ⟨by decide,by decide⟩,_,_,rfl,rfl,(by show (0:Int)<2147483647;decide),?_⟩
 have g0:=Int.emod_nonneg ((x%2147483629+7919*k*k+11)*48271) (show (2147483647:Int)≠0 by decide)
 have g1:=Int.emod_lt_of_pos ((x%2147483629+7919*k*k+11)*48271) (show (0:Int)<2147483647 by decide)
 refine⟨_,rfl,_,rfl,_,rfl,_,rfl,_,_,rfl,rfl,⟨by decide,by decide,by decide⟩,_,_,rfl,rfl,.inr ⟨_,rfl,_,_,rfl,rfl,.inr ?_,?_⟩⟩
 ·have c:∀ b:Bool,-2 ^ 64<(if b=true then (1:Int) else 0)∧(if b=true then (1:Int) else 0)<2 ^ 64:=by decide
  exact c _
 refine⟨48,2000,rfl,rfl,by decide,by decide,fun z hz=>?_⟩
 obtain⟨d1,d2,d3⟩:=zhj hz
 have zl:z.length=2000:=by
  have:=congrArg List.length hz
  rw[Array.length_toList,List.length_replicate]at this
  exact this
 refine⟨_,_,rfl,rfl,by rw[zl];decide,_,rfl,d1,by lia,by lia,_,_,rfl,rfl,by lia,_,rfl,(by show 2≤sizeLine;decide),fun l hl=>?_⟩
 exact q l _ hl (zaa hl _) ⟨_,_,zab,Int.emod_nonneg _ (by lia),g0,by lia⟩
end
end K83
namespace L2
open PySem PySem.Spec PyProof.Rows Own
section
variable {X:Cx}
theorem zdq {st:Stmt}:PS X st (fun _ _ _=>False):=fun _ _ _ _ _ _ h=>h.elim
end
def AnyT (K:PySem.W.Frag) (H:Hp) (x:V):Prop:=∃ T,TyOf K H x T∧∃ t:String,T=.type t
def zkc:V→Bool
 | .int _=>true
 | _=>false
def zbu (b:Int):V→Bool
 | .int i=>decide (0≤i) && decide (i<b)
 | _=>false
def zce (b:Int):V→Bool
 | .int i=>decide (b≤i)
 | _=>false
def fewV:V→Bool
 | .int i=>decide ((if i<0 then -i else i)<10 ^ 30)
 | _=>false
def zaK (w:Str):V→Bool
 | .str x=>decide (x=w)
 | _=>false
def zbr (H:Hp):V→Option (List V)
 | .ref a=>match H a with
  | some (.tup xs)=>some xs
  | _=>none
 | _=>none
def rowV (H:Hp) (m:Int) (x:V):Bool:=match zbr H x with
 | some xs=>decide ((xs.length:Int)=m)
 | none=>false
theorem zaQ {H:Hp}{a:Addr}{xs:List V}(h:H a=some (.tup xs)):zbr H (.ref a)=some xs:=by
 show (match H a with
  | some (.tup xs)=>some xs
  | _=>none)=_
 rw[h]
theorem zcU {H:Hp}{x:V}{xs:List V}(h:zbr H x=some xs):∃ a,x=.ref a∧H a=some (.tup xs):=by
 cases x with
 | ref a =>
  refine⟨a,rfl,?_⟩
  cases z:H a with
  | none=>simp[zbr,z]at h
  | some o=>cases o<;>simp[zbr,z]at h;rw[h]
 | _=>cases h
theorem zhp (i j:Int):decide (V.int i=V.int j)=decide (i=j):=by
 by_cases e:i=j
 ·rw[decide_eq_true e,decide_eq_true (congrArg V.int e)]
 ·rw[decide_eq_false e,decide_eq_false (fun z=>e (V.int.inj z))]
theorem zi6 (i j:Str):decide (V.str i=V.str j)=decide (i=j):=by
 by_cases e:i=j
 ·rw[decide_eq_true e,decide_eq_true (congrArg V.str e)]
 ·rw[decide_eq_false e,decide_eq_false (fun z=>e (V.str.inj z))]
structure Isi (K:PySem.W.Frag) (H:Hp) (x:V) (t:Value):Prop where
 ty:TyOf K H x t
 int:PySem.W.kitOne K t (.type "int")=some (match x with|.int _=>true|.bl _=>true|_=>false)
 bool:PySem.W.kitOne K t (.type "bool")=some (match x with|.bl _=>true|_=>false)
 str:PySem.W.kitOne K t (.type "str")=some (match x with|.str _=>true|_=>false)
 tup:PySem.W.kitOne K t (.type "tuple")=some (zbr H x).isSome
theorem zkQ {K:PySem.W.Frag}{H:Hp}{x:V}{T:Value}(h:TyOf K H x T) (et:∃ t,T=.type t):Isi K H x T:=by
 cases h with
 | ins e _ _ _ _ _=>obtain⟨t,et⟩:=et;cases et
 | lst e=>exact⟨.lst e,rfl,rfl,rfl,by simp only[zbr,e];rfl⟩
 | frz e=>exact⟨.frz e,rfl,rfl,rfl,by simp only[zbr,e];rfl⟩
 | tup e=>exact⟨.tup e,rfl,rfl,rfl,by simp only[zbr,e];rfl⟩
 | dK e=>exact⟨.dK e,rfl,rfl,rfl,by simp only[zbr,e];rfl⟩
 | dT e=>exact⟨.dT e,rfl,rfl,rfl,by simp only[zbr,e];rfl⟩
 | non=>exact⟨.non,rfl,rfl,rfl,rfl⟩
 | bl b=>exact⟨.bl b,rfl,rfl,rfl,rfl⟩
 | int i=>exact⟨.int i,rfl,rfl,rfl,rfl⟩
 | str x=>exact⟨.str x,rfl,rfl,rfl,rfl⟩
 | flt x=>exact⟨.flt x,rfl,rfl,rfl,rfl⟩
theorem AnyT.isi {K:PySem.W.Frag}{H:Hp}{x:V}(h:AnyT K H x):∃ t,Isi K H x t :=
 let ⟨T,h,et⟩:=h
 ⟨T,zkQ h et⟩
end L2
namespace Bn
open PySem L2 Own
theorem zlt (h a b:Nat):inV (V.int h) [V.int a,V.int b]=decide (h=a∨h=b):=by
 by_cases e1:h=a
 ·subst e1;simp[inV,eqV]
 ·by_cases e2:h=b
  ·subst e2;simp[inV,eqV]
  ·have n1:¬((h:Int)=a):=by lia
   have n2:¬((h:Int)=b):=by lia
   simp[inV,eqV,e1,e2];lia
structure IsNext (fs:List (Nat × Nat)) (lane n k:Nat):Prop where
 from_:n≤k
 upto:k≤fs.length
 none:∀ j g,n≤j→j<k→fs[j]?=some g→¬(lane=g.1∨lane=g.2)
 here:∀ g,fs[k]?=some g→lane=g.1∨lane=g.2
structure Grp where
 many:Int
 lane:Nat
 fork:Nat
def Grs (H:Hp):List V→List Grp→Prop
 | [],[]=>True
 | p::ps,g::gs=>(∃ a,p=.ref a∧H a=some (.tup [.int g.many,.int g.lane,.int g.fork]))∧Grs H ps gs
 | _,_=>False
theorem Grs.tups {H H':Hp}(t:Tups H H'):∀ {ps:List V}{gs:List Grp},Grs H ps gs→Grs H' ps gs
 | [],[],_=>trivial
 | _::_,_::_,⟨⟨a,e,h⟩,r⟩=>⟨⟨a,e,t _ _ h⟩,r.tups t⟩
theorem Grs.len {H:Hp}:∀ {ps:List V}{gs:List Grp},Grs H ps gs→ps.length=gs.length
 | [],[],_=>rfl
 | _::_,_::_,⟨_,r⟩=>congrArg (· + 1) r.len
theorem Grs.app {H:Hp}:∀ {ps qs:List V}{gs hs:List Grp},Grs H ps gs→Grs H qs hs→Grs H (ps++qs) (gs++hs)
 | [],_,[],_,_,q=>q
 | _::_,_,_::_,_,⟨x,r⟩,q=>⟨x,r.app q⟩
theorem Grs.one {H:Hp}{a:Addr}{g:Grp}(h:H a=some (.tup [.int g.many,.int g.lane,.int g.fork])):Grs H [.ref a] [g]:=⟨⟨a,rfl,h⟩,trivial⟩
theorem Grs.get {H:Hp}:∀ {ps:List V}{gs:List Grp}{i:Nat}{p:V},Grs H ps gs→ps[i]?=some p→∃ a g,p=.ref a∧gs[i]?=some g∧H a=some (.tup [.int g.many,.int g.lane,.int g.fork])
 | [],[],_,_,_,e=>by simp at e
 | _::_,g::_,0,p,⟨⟨a,e1,h⟩,_⟩,e=>by
  have:_=p:=Option.some.inj e
  subst this
  exact⟨a,g,e1,rfl,h⟩
 | _::_,_::_,i+1,p,⟨_,r⟩,e=>r.get (i:=i) (by simpa using e)
theorem Grs.take {H:Hp}:∀ {ps:List V}{gs:List Grp}(i:Nat),Grs H ps gs→Grs H (ps.take i) (gs.take i)
 | [],[],i,_=>by cases i<;>exact trivial
 | _::_,_::_,0,_=>trivial
 | _::_,_::_,i+1,⟨x,r⟩=>⟨x,r.take i⟩
theorem Grs.drop {H:Hp}:∀ {ps:List V}{gs:List Grp}(i:Nat),Grs H ps gs→Grs H (ps.drop i) (gs.drop i)
 | [],[],i,_=>by cases i<;>exact trivial
 | _::_,_::_,0,h=>h
 | _::_,_::_,i+1,⟨_,r⟩=>r.drop i
structure SceneAt (H:Hp) (sc tr gr ou:Addr) (ps:List V) (ts:List Int) (gs:List Grp) (os:List Int):Prop where
 sc:H sc=some (.tup [.ref tr,.ref gr,.ref ou])
 tr:H tr=some (.tup (ts.map V.int))
 gr:H gr=some (.tup ps)
 grs:Grs H ps gs
 ou:H ou=some (.tup (os.map V.int))
theorem SceneAt.tups {H H':Hp}{sc tr gr ou:Addr}{ps:List V}{ts:List Int}{gs:List Grp}{os:List Int}(t:Tups H H') (h:SceneAt H sc tr gr ou ps ts gs os):SceneAt H' sc tr gr ou ps ts gs os:=⟨t _ _ h.sc,t _ _ h.tr,t _ _ h.gr,h.grs.tups t,t _ _ h.ou⟩
theorem zkb (n:Nat):(List.replicate n [V.int 0]).flatten=(List.replicate n (0:Int)).map V.int:=by
 induction n with
 | zero=>rfl
 | succ n ih=>rw[List.replicate_succ,List.flatten_cons,ih,List.replicate_succ];rfl
end Bn
namespace K83
open PySem L2 Own Bn
abbrev zjj:Stmt:=top 13
def ze7:Sp:=fun vs H Q _=>∃ r fr er ps N,∃ lane n:Nat,vs=[.ref r,.int lane,.int n]∧Nt.Ok N∧NetAt H r fr er ps N∧n≤N.forks.length∧∀ k:Nat,IsNext N.forks lane n k→Q (.int k) H
section
variable {P:Program}{w:World}{K:PySem.W.Frag}{mg:Str→Option Value}{base:Heap}
theorem scNx:FnScope ["net","lane","number","forks"] ["net","lane","number"] (zad zjj):=⟨rfl,rfl,rfl,by decide +kernel,rfl,by decide +kernel,by decide +kernel⟩
theorem zjF {f:Addr}{fd:FuncData}(F:Fun K "next_fork" "next_fork" zjj f fd) (G:Mgs mg):FnOk P w K mg base CX0 1 f fd ["net","lane","number"] ze7:=by
 refine F.ok scNx (fun vs H Q E h=>?_) (fun cdv A outer s H vs Q E hr h=>?_)
 ·obtain⟨r,fr,er,ps,N,lane,n,rfl,_⟩:=h
  rfl
 obtain⟨r,fr,er,ps,N,lane,n,rfl,ok,na,nl,k⟩:=h
 refine⟨_,(@pss_cons _ _ _ _ _ (@ps_set _ _ 3 _ _ _ _ scNx.nd rfl (.inl rfl) (@pe_ix _ _ _ _ _ _ _ ix_tup (@pv _ 0 _ _ (by rfl) (by first|exact Or.inl rfl|exact Or.inr (.inl rfl)|exact Or.inr (.inr rfl)) (by decide) (by decide)) pe_int (fun _ _=>rfl)) (by rfl) (by first|exact .inl rfl|exact .inr rfl|assumption)) (@pss_cons _ _ _ _ _ (@zdp _ _ _ _ _ _ PassesOwn.never (@zfe _ _ _ _ _ _ _ (@pt_cmpR _ _ _ _ _ _ _ _ zcN (@pv _ 2 _ _ (by rfl) (by first|exact Or.inl rfl|exact Or.inr (.inl rfl)|exact Or.inr (.inr rfl)) (by decide) (by decide)) (@pe_callB _ _ _ _ _ _ _ _ _ call_len_seq (by rfl) G.len PySem.boot_len (@pa_cons _ _ _ _ _ (@pv _ 3 _ _ (by rfl) (by first|exact Or.inl rfl|exact Or.inr (.inl rfl)|exact Or.inr (.inr rfl)) (by decide) (by decide)) pa_nil (by rfl)) (by decide) (by decide) (by rfl) (by rfl)) (nomark _)) (@zdo _ _ _ _ (@pt_cmpR _ _ _ _ _ _ _ _ zdV (@pv _ 1 _ _ (by rfl) (by first|exact Or.inl rfl|exact Or.inr (.inl rfl)|exact Or.inr (.inr rfl)) (by decide) (by decide)) (@pe_ix _ _ _ _ _ _ _ ix_tup (@pv _ 3 _ _ (by rfl) (by first|exact Or.inl rfl|exact Or.inr (.inl rfl)|exact Or.inr (.inr rfl)) (by decide) (by decide)) (@pv _ 2 _ _ (by rfl) (by first|exact Or.inl rfl|exact Or.inr (.inl rfl)|exact Or.inr (.inr rfl)) (by decide) (by decide)) (fun _ _=>rfl)) (by rfl)))).pt (@pss_one _ _ _ (@ziL _ _ 2 _ _ _ _ _ _ scNx.nd rfl (.inl rfl) pe_int ip_add (by first|exact .inl rfl|exact .inr rfl|assumption)))) (@pss_one _ _ _ (@ps_ret _ _ _ _ (@pv _ 2 _ _ (by rfl) (by first|exact Or.inl rfl|exact Or.inr (.inl rfl)|exact Or.inr (.inr rfl)) (by decide) (by decide)))))),?_⟩
 have pl:=na.prs.len
 have fm:=ok.fm
 refine⟨_,rfl,r,_,_,_,rfl,rfl,SqT.of na.net,rfl,?_⟩
 refine⟨fun m σ H1=>H1=H∧∃ q:Nat,σ=[some (.ref r),some (.int lane),some (.int q),some (.ref fr)]∧n≤q∧q≤N.forks.length∧m=N.forks.length-q∧∀ j g,n≤j→j<q→N.forks[j]?=some g→¬(lane=g.1∨lane=g.2),
  ⟨_,rfl,n,rfl,Nat.le_refl _,nl,rfl,fun j g h1 h2=>by lia⟩,?_⟩
 rintro m σ H1 ⟨rfl,q,rfl,nq,ql,em,hno⟩
 refine⟨_,rfl,_,rfl,fr,_,rfl,.inr (SqT.of na.forks),_,_,rfl,rfl,_,rfl,?_⟩
 by_cases z:q<N.forks.length
 ·rw[decide_eq_true (show (q:Int)<ps.length by lia)]
  obtain⟨a,g,ex,eg,ha⟩:=na.prs.get (i:=q) (List.getElem?_eq_getElem (show q<ps.length by lia))
  have hat:atI ps ((q:Nat):Int)=some (.ref a):=zaB (by rw[List.getElem?_eq_getElem (show q<ps.length by lia),ex])
  refine iteT ⟨_,rfl,_,rfl,_,rfl,fr,_,_,_,rfl,rfl,SqT.of na.forks,hat,a,_,rfl,.inr (SqT.of ha),rfl,rfl,_,rfl,?_⟩
  show if (if true=true then !inV (V.int (lane:Nat)) [V.int (g.1:Nat),V.int (g.2:Nat)] else inV (V.int (lane:Nat)) [V.int (g.1:Nat),V.int (g.2:Nat)])=true then _ else _
  rw[if_pos rfl,zlt]
  by_cases on:lane=g.1∨lane=g.2
  ·rw[decide_eq_true on]
   refine iteF ⟨_,rfl,k q ⟨nq,ql,hno,fun g' eg'=>?_⟩⟩
   rw[eg]at eg';obtain rfl:=Option.some.inj eg';exact on
  ·rw[decide_eq_false on]
   refine iteT ⟨_,fun σ' H' hN=>⟨m-1,by lia,hN⟩,?_⟩
   refine⟨_,rfl,_,_,rfl,rfl,rfl,q+1,rfl,by lia,by lia,by lia,fun j g' h1 h2 h3=>?_⟩
   by_cases e:j=q
   ·subst e;rw[eg]at h3;obtain rfl:=Option.some.inj h3;exact on
   ·exact hno j g' h1 (by lia) h3
 ·rw[decide_eq_false (show ¬(q:Int)<ps.length by lia)]
  refine iteF (iteF ⟨_,rfl,k q ⟨nq,ql,hno,fun g' eg'=>?_⟩⟩)
  have:=(List.getElem?_eq_some_iff.mp eg').1
  lia
end
abbrev zgx:Stmt:=top 5
abbrev zgJ:Stmt:=top 6
abbrev sFew:Stmt:=top 7
abbrev zgH:Stmt:=top 9
def zct (K:PySem.W.Frag):Sp:=fun vs H Q _=>∃ x,vs=[x]∧AnyT K H x∧Q (.bl (zkc x)) H
def zep (K:PySem.W.Frag):Sp:=fun vs H Q _=>∃ x b,vs=[x,.int b]∧AnyT K H x∧Q (.bl (zbu b x)) H
def zi9 (K:PySem.W.Frag):Sp:=fun vs H Q _=>∃ x,vs=[x]∧AnyT K H x∧Q (.bl (fewV x)) H
def zeo (K:PySem.W.Frag):Sp:=fun vs H Q _=>∃ x m,vs=[x,.int m]∧AnyT K H x∧Q (.bl (rowV H m x)) H
section
variable {P:Program}{w:World}{K:PySem.W.Frag}{mg:Str→Option Value}{base:Heap}
theorem scKw:FnScope ["thing"] ["thing"] (zad zgx):=⟨rfl,rfl,rfl,by decide +kernel,rfl,by decide +kernel,by decide +kernel⟩
theorem zh9 {f:Addr}{fd:FuncData}(F:Fun K "is_whole" "is_whole" zgx f fd) (G:Mgs mg):FnOk P w K mg base CX0 1 f fd ["thing"] (zct K):=by
 refine F.ok scKw (fun vs H Q E h=>?_) (fun cdv A outer s H vs Q E hr h=>?_)
 ·obtain⟨x,rfl,_⟩:=h
  rfl
 obtain⟨x,rfl,ax,k⟩:=h
 refine⟨_,(@pss_one _ _ _ (@ps_ret _ _ _ _ (@zbb _ _ _ _ _ _ _ (@pe_callB _ _ _ _ _ _ _ _ _ zco (by rfl) G.isi (by rfl) (@pa_cons _ _ _ _ _ (@pv _ 0 _ _ (by rfl) (by first|exact Or.inl rfl|exact Or.inr (.inl rfl)|exact Or.inr (.inr rfl)) (by decide) (by decide)) (@pa_cons _ _ _ _ _ (@zdr _ _ (.ty "int") (.type "int") _ (by rfl) G.int (by rfl) rfl (by decide) (by decide)) pa_nil (by rfl)) (by rfl)) (by decide) (by decide) (by rfl) (by rfl)) (@zbh _ _ _ _ _ (@zkz _ _ _ _ (@pe_callB _ _ _ _ _ _ _ _ _ zco (by rfl) G.isi (by rfl) (@pa_cons _ _ _ _ _ (@pv _ 0 _ _ (by rfl) (by first|exact Or.inl rfl|exact Or.inr (.inl rfl)|exact Or.inr (.inr rfl)) (by decide) (by decide)) (@pa_cons _ _ _ _ _ (@zdr _ _ (.ty "bool") (.type "bool") _ (by rfl) G.bool (by rfl) rfl (by decide) (by decide)) pa_nil (by rfl)) (by rfl)) (by decide) (by decide) (by rfl) (by rfl))))))),?_⟩
 obtain⟨t,I⟩:=ax.isi
 refine⟨_,rfl,_,"int",_,_,rfl,I.ty,I.int,_,rfl,?_⟩
 cases x with
 | int i=>exact iteT ⟨_,rfl,_,"bool",_,_,rfl,I.ty,I.bool,_,rfl,k⟩
 | bl b=>exact iteT ⟨_,rfl,_,"bool",_,_,rfl,I.ty,I.bool,_,rfl,k⟩
 | non=>exact iteF k
 | str z=>exact iteF k
 | flt z=>exact iteF k
 | byt z=>exact iteF k
 | ref z=>exact iteF k
 | ty z=>exact iteF k
theorem scKb:FnScope ["thing","bound"] ["thing","bound"] (zad zgJ):=⟨rfl,rfl,rfl,by decide +kernel,rfl,by decide +kernel,by decide +kernel⟩
theorem zil {f fW:Addr}{fd dW:FuncData}(F:Fun K "is_below" "is_below" zgJ f fd) (G:Mgs mg) (UW:Use P w K mg base "is_whole" ["thing"] 1 (zct K) fW dW):FnOk P w K mg base CX0 2 f fd ["thing","bound"] (zep K):=by
 refine F.ok scKb (fun vs H Q E h=>?_) (fun cdv A outer s H vs Q E hr h=>?_)
 ·obtain⟨x,b,rfl,_⟩:=h
  rfl
 obtain⟨x,b,rfl,ax,k⟩:=h
 refine⟨_,(@pss_one _ _ _ (@ps_ret _ _ _ _ (@zbb _ _ _ _ _ _ _ (@pe_call _ _ _ _ _ _ _ _ _ _ _ _ _ _ _ _ UW.ok hr (by rfl) UW.m UW.kp UW.b .nil pass0 (@pa_cons _ _ _ _ _ (@pv _ 0 _ _ (by rfl) (by first|exact Or.inl rfl|exact Or.inr (.inl rfl)|exact Or.inr (.inr rfl)) (by decide) (by decide)) pa_nil (by rfl)) (by decide) (by rfl) (by rfl)) (@zbh _ _ _ _ _ (@zh2 _ _ _ _ _ _ _ _ _ _ _ _ zln zcN pe_int (@pv _ 0 _ _ (by rfl) (by first|exact Or.inl rfl|exact Or.inr (.inl rfl)|exact Or.inr (.inr rfl)) (by decide) (by decide)) (@pv _ 1 _ _ (by rfl) (by first|exact Or.inl rfl|exact Or.inr (.inl rfl)|exact Or.inr (.inr rfl)) (by decide) (by decide)) (by with_unfolding_all rfl)))))),?_⟩
 refine⟨_,rfl,_,rfl,ax,_,rfl,?_⟩
 cases x with
 | int i =>
  refine iteT ⟨_,rfl,_,_,rfl,rfl,_,rfl,?_⟩
  have e:zbu b (.int i)=(decide (0≤i) && decide (i<b)):=rfl
  rw[e]at k
  by_cases z:(0:Int)≤i
  ·rw[decide_eq_true z]at k ⊢
   exact iteT ⟨_,rfl,_,_,rfl,rfl,k⟩
  ·rw[decide_eq_false z]at k ⊢
   exact iteF k
 | bl z=>exact iteF k
 | non=>exact iteF k
 | str z=>exact iteF k
 | flt z=>exact iteF k
 | byt z=>exact iteF k
 | ref z=>exact iteF k
 | ty z=>exact iteF k
theorem scKf:FnScope ["thing"] ["thing"] (zad sFew):=⟨rfl,rfl,rfl,by decide +kernel,rfl,by decide +kernel,by decide +kernel⟩
theorem zkH {f fW:Addr}{fd dW:FuncData}(F:Fun K "has_few_figures" "has_few_figures" sFew f fd) (G:Mgs mg) (UW:Use P w K mg base "is_whole" ["thing"] 1 (zct K) fW dW):FnOk P w K mg base CX0 2 f fd ["thing"] (zi9 K):=by
 refine F.ok scKf (fun vs H Q E h=>?_) (fun cdv A outer s H vs Q E hr h=>?_)
 ·obtain⟨x,rfl,_⟩:=h
  rfl
 obtain⟨x,rfl,ax,k⟩:=h
 refine⟨_,(@pss_one _ _ _ (@ps_ret _ _ _ _ (@zbb _ _ _ _ _ _ _ (@pe_call _ _ _ _ _ _ _ _ _ _ _ _ _ _ _ _ UW.ok hr (by rfl) UW.m UW.kp UW.b .nil pass0 (@pa_cons _ _ _ _ _ (@pv _ 0 _ _ (by rfl) (by first|exact Or.inl rfl|exact Or.inr (.inl rfl)|exact Or.inr (.inr rfl)) (by decide) (by decide)) pa_nil (by rfl)) (by decide) (by rfl) (by rfl)) (@zbh _ _ _ _ _ (@zaS _ _ _ _ _ _ _ _ zcN (@pe_callB _ _ _ _ _ _ _ _ _ zcp (by rfl) G.abs (by rfl) (@pa_cons _ _ _ _ _ (@pv _ 0 _ _ (by rfl) (by first|exact Or.inl rfl|exact Or.inr (.inl rfl)|exact Or.inr (.inr rfl)) (by decide) (by decide)) pa_nil (by rfl)) (by decide) (by decide) (by rfl) (by rfl)) (@pe_op _ _ _ _ _ _ _ _ ziN pe_int pe_int) (nomark _)))))),?_⟩
 refine⟨_,rfl,_,rfl,ax,_,rfl,?_⟩
 cases x with
 | int i=>exact iteT ⟨_,rfl,_,rfl,_,_,rfl,rfl,⟨by decide,by decide,by decide⟩,_,_,rfl,rfl,k⟩
 | bl z=>exact iteF k
 | non=>exact iteF k
 | str z=>exact iteF k
 | flt z=>exact iteF k
 | byt z=>exact iteF k
 | ref z=>exact iteF k
 | ty z=>exact iteF k
theorem scKr:FnScope ["thing","many"] ["thing","many"] (zad zgH):=⟨rfl,rfl,rfl,by decide +kernel,rfl,by decide +kernel,by decide +kernel⟩
theorem zij {f:Addr}{fd:FuncData}(F:Fun K "is_row" "is_row" zgH f fd) (G:Mgs mg):FnOk P w K mg base CX0 1 f fd ["thing","many"] (zeo K):=by
 refine F.ok scKr (fun vs H Q E h=>?_) (fun cdv A outer s H vs Q E hr h=>?_)
 ·obtain⟨x,m,rfl,_⟩:=h
  rfl
 obtain⟨x,m,rfl,ax,k⟩:=h
 refine⟨_,(@pss_one _ _ _ (@ps_ret _ _ _ _ (@zbb _ _ _ _ _ _ _ (@pe_callB _ _ _ _ _ _ _ _ _ zco (by rfl) G.isi (by rfl) (@pa_cons _ _ _ _ _ (@pv _ 0 _ _ (by rfl) (by first|exact Or.inl rfl|exact Or.inr (.inl rfl)|exact Or.inr (.inr rfl)) (by decide) (by decide)) (@pa_cons _ _ _ _ _ (@zdr _ _ (.ty "tuple") (.type "tuple") _ (by rfl) G.tuple (by rfl) rfl (by decide) (by decide)) pa_nil (by rfl)) (by rfl)) (by decide) (by decide) (by rfl) (by rfl)) (@zbh _ _ _ _ _ (@zaS _ _ _ _ _ _ _ _ op_eq (@pe_callB _ _ _ _ _ _ _ _ _ call_len_seq (by rfl) G.len PySem.boot_len (@pa_cons _ _ _ _ _ (@pv _ 0 _ _ (by rfl) (by first|exact Or.inl rfl|exact Or.inr (.inl rfl)|exact Or.inr (.inr rfl)) (by decide) (by decide)) pa_nil (by rfl)) (by decide) (by decide) (by rfl) (by rfl)) (@pv _ 1 _ _ (by rfl) (by first|exact Or.inl rfl|exact Or.inr (.inl rfl)|exact Or.inr (.inr rfl)) (by decide) (by decide)) (nomark _)))))),?_⟩
 obtain⟨t,I⟩:=ax.isi
 refine⟨_,rfl,_,"tuple",_,_,rfl,I.ty,I.tup,_,rfl,?_⟩
 cases z:zbr H x with
 | none =>
  have e:rowV H m x=false:=by unfold rowV;rw[z]
  rw[e]at k
  exact iteF k
 | some xs =>
  have e:rowV H m x=decide ((xs.length:Int)=m):=by unfold rowV;rw[z]
  rw[e]at k
  obtain⟨a,rfl,ha⟩:=zcU z
  exact iteT ⟨_,rfl,a,_,rfl,.inr (SqT.of ha),_,rfl,rfl,by rw[zhp];exact k⟩
end
abbrev zje:Stmt:=top 8
abbrev zgD:Stmt:=top 18
abbrev zjk:Stmt:=top 19
abbrev zjo:Stmt:=top 17
def zgl (K:PySem.W.Frag):Sp:=fun vs H Q _=>∃ x w,vs=[x,.str w]∧AnyT K H x∧Q (.bl (zaK w x)) H
def zel (K:PySem.W.Frag):Sp:=fun vs H Q _=>∃ x,vs=[x]∧AnyT K H x∧Q (.bl (zce 0 x)) H
def zdY:V→Bool
 | .int i=>fewV (.int i) && !decide (i=0)
 | _=>false
def zgq (K:PySem.W.Frag):Sp:=fun vs H Q _=>∃ x,vs=[x]∧AnyT K H x∧Q (.bl (zdY x)) H
def lowV (a:V):V→Bool
 | .int j=>zbu j a
 | _=>false
def ziV (lanes:Int):List V→Bool
 | [w,k]=>zaK "step" w && zce 0 k
 | [w,a,b]=>if zaK "put" w=true then zbu lanes a && zdY b else zaK "join" w && (zce 0 b && lowV a b)
 | _=>false
def zbA (H:Hp) (lanes:Int) (x:V):Bool:=match zbr H x with
 | some xs=>ziV lanes xs
 | none=>false
def ze9 (K:PySem.W.Frag):Sp:=fun vs H Q _=>∃ r fr er ps N x,vs=[.ref r,x]∧NetAt H r fr er ps N∧AnyT K H x∧(∀ xs,zbr H x=some xs→∀ y∈xs,AnyT K H y)∧Q (.bl (zbA H N.lanes x)) H
section
variable {P:Program}{w:World}{K:PySem.W.Frag}{mg:Str→Option Value}{base:Heap}
theorem scKd:FnScope ["thing","word"] ["thing","word"] (zad zje):=⟨rfl,rfl,rfl,by decide +kernel,rfl,by decide +kernel,by decide +kernel⟩
theorem zjA {f:Addr}{fd:FuncData}(F:Fun K "is_word" "is_word" zje f fd) (G:Mgs mg):FnOk P w K mg base CX0 1 f fd ["thing","word"] (zgl K):=by
 refine F.ok scKd (fun vs H Q E h=>?_) (fun cdv A outer s H vs Q E hr h=>?_)
 ·obtain⟨x,b,rfl,_⟩:=h
  rfl
 obtain⟨x,b,rfl,ax,k⟩:=h
 refine⟨_,(@pss_one _ _ _ (@ps_ret _ _ _ _ (@zbb _ _ _ _ _ _ _ (@pe_callB _ _ _ _ _ _ _ _ _ zco (by rfl) G.isi (by rfl) (@pa_cons _ _ _ _ _ (@pv _ 0 _ _ (by rfl) (by first|exact Or.inl rfl|exact Or.inr (.inl rfl)|exact Or.inr (.inr rfl)) (by decide) (by decide)) (@pa_cons _ _ _ _ _ (@zdr _ _ (.ty "str") (.type "str") _ (by rfl) G.str (by rfl) rfl (by decide) (by decide)) pa_nil (by rfl)) (by rfl)) (by decide) (by decide) (by rfl) (by rfl)) (@zbh _ _ _ _ _ (@zaS _ _ _ _ _ _ _ _ op_eq (@pv _ 0 _ _ (by rfl) (by first|exact Or.inl rfl|exact Or.inr (.inl rfl)|exact Or.inr (.inr rfl)) (by decide) (by decide)) (@pv _ 1 _ _ (by rfl) (by first|exact Or.inl rfl|exact Or.inr (.inl rfl)|exact Or.inr (.inr rfl)) (by decide) (by decide)) (nomark _)))))),?_⟩
 obtain⟨t,I⟩:=ax.isi
 refine⟨_,rfl,_,"str",_,_,rfl,I.ty,I.str,_,rfl,?_⟩
 cases x with
 | str z=>exact iteT ⟨_,rfl,_,rfl,rfl,by rw[zi6];exact k⟩
 | bl z=>exact iteF k
 | non=>exact iteF k
 | int z=>exact iteF k
 | flt z=>exact iteF k
 | byt z=>exact iteF k
 | ref z=>exact iteF k
 | ty z=>exact iteF k
theorem scKp:FnScope ["thing"] ["thing"] (zad zgD):=⟨rfl,rfl,rfl,by decide +kernel,rfl,by decide +kernel,by decide +kernel⟩
theorem zif {f fW:Addr}{fd dW:FuncData}(F:Fun K "is_place" "is_place" zgD f fd) (G:Mgs mg) (UW:Use P w K mg base "is_whole" ["thing"] 1 (zct K) fW dW):FnOk P w K mg base CX0 2 f fd ["thing"] (zel K):=by
 refine F.ok scKp (fun vs H Q E h=>?_) (fun cdv A outer s H vs Q E hr h=>?_)
 ·obtain⟨x,rfl,_⟩:=h
  rfl
 obtain⟨x,rfl,ax,k⟩:=h
 refine⟨_,(@pss_one _ _ _ (@ps_ret _ _ _ _ (@zbb _ _ _ _ _ _ _ (@pe_call _ _ _ _ _ _ _ _ _ _ _ _ _ _ _ _ UW.ok hr (by rfl) UW.m UW.kp UW.b .nil pass0 (@pa_cons _ _ _ _ _ (@pv _ 0 _ _ (by rfl) (by first|exact Or.inl rfl|exact Or.inr (.inl rfl)|exact Or.inr (.inr rfl)) (by decide) (by decide)) pa_nil (by rfl)) (by decide) (by rfl) (by rfl)) (@zbh _ _ _ _ _ (@zaS _ _ _ _ _ _ _ _ zh4 (@pv _ 0 _ _ (by rfl) (by first|exact Or.inl rfl|exact Or.inr (.inl rfl)|exact Or.inr (.inr rfl)) (by decide) (by decide)) pe_int (nomark _)))))),?_⟩
 refine⟨_,rfl,_,rfl,ax,_,rfl,?_⟩
 cases x with
 | int i=>exact iteT ⟨_,rfl,_,_,rfl,rfl,k⟩
 | bl z=>exact iteF k
 | non=>exact iteF k
 | str z=>exact iteF k
 | flt z=>exact iteF k
 | byt z=>exact iteF k
 | ref z=>exact iteF k
 | ty z=>exact iteF k
theorem scKm:FnScope ["thing"] ["thing"] (zad zjk):=⟨rfl,rfl,rfl,by decide +kernel,rfl,by decide +kernel,by decide +kernel⟩
theorem zjG {f fW:Addr}{fd dW:FuncData}(F:Fun K "is_many" "is_many" zjk f fd) (G:Mgs mg) (UF:Use P w K mg base "has_few_figures" ["thing"] 2 (zi9 K) fW dW):FnOk P w K mg base CX0 3 f fd ["thing"] (zgq K):=by
 refine F.ok scKm (fun vs H Q E h=>?_) (fun cdv A outer s H vs Q E hr h=>?_)
 ·obtain⟨x,rfl,_⟩:=h
  rfl
 obtain⟨x,rfl,ax,k⟩:=h
 refine⟨_,(@pss_one _ _ _ (@ps_ret _ _ _ _ (@zbb _ _ _ _ _ _ _ (@pe_call _ _ _ _ _ _ _ _ _ _ _ _ _ _ _ _ UF.ok hr (by rfl) UF.m UF.kp UF.b .nil pass0 (@pa_cons _ _ _ _ _ (@pv _ 0 _ _ (by rfl) (by first|exact Or.inl rfl|exact Or.inr (.inl rfl)|exact Or.inr (.inr rfl)) (by decide) (by decide)) pa_nil (by rfl)) (by decide) (by rfl) (by rfl)) (@zbh _ _ _ _ _ (@zaS _ _ _ _ _ _ _ _ zgY (@pv _ 0 _ _ (by rfl) (by first|exact Or.inl rfl|exact Or.inr (.inl rfl)|exact Or.inr (.inr rfl)) (by decide) (by decide)) pe_int (nomark _)))))),?_⟩
 refine⟨_,rfl,_,rfl,ax,_,rfl,?_⟩
 cases x with
 | int i =>
  have e:zdY (.int i)=(fewV (.int i) && !decide (i=0)):=rfl
  rw[e]at k
  cases z:fewV (.int i) with
  | true=>rw[z]at k;exact iteT ⟨_,rfl,rfl,by rw[zhp];exact k⟩
  | false=>rw[z]at k;exact iteF k
 | bl z=>exact iteF k
 | non=>exact iteF k
 | str z=>exact iteF k
 | flt z=>exact iteF k
 | byt z=>exact iteF k
 | ref z=>exact iteF k
 | ty z=>exact iteF k
theorem scKe:FnScope ["net","thing","word","first","second"] ["net","thing"] (zad zjo):=⟨rfl,rfl,rfl,by decide +kernel,rfl,by decide +kernel,by decide +kernel⟩
theorem zjK {f fR fD fB fM fP:Addr}{fd dR dD dB dM dP:FuncData}(F:Fun K "is_deed" "is_deed" zjo f fd) (G:Mgs mg) (UR:Use P w K mg base "is_row" ["thing","many"] 1 (zeo K) fR dR) (UD:Use P w K mg base "is_word" ["thing","word"] 1 (zgl K) fD dD)
  (UB:Use P w K mg base "is_below" ["thing","bound"] 2 (zep K) fB dB) (UM:Use P w K mg base "is_many" ["thing"] 3 (zgq K) fM dM) (UPl:Use P w K mg base "is_place" ["thing"] 2 (zel K) fP dP):FnOk P w K mg base CX0 4 f fd ["net","thing"] (ze9 K):=by
 refine F.ok scKe (fun vs H Q E h=>?_) (fun cdv A outer s H vs Q E hr h=>?_)
 ·obtain⟨r,fr,er,ps,N,x,rfl,_⟩:=h
  rfl
 obtain⟨r,fr,er,ps,N,x,rfl,na,ax,ay,k⟩:=h
 have hr1:Room 1 _:=hr.mono (by decide)
 have hr2:Room 2 _:=hr.mono (by decide)
 refine⟨_,(@pss_cons _ _ _ _ _ (@ps_if _ _ _ _ _ _ _ _ (@pt_truth _ _ _ (@pe_call _ _ _ _ _ _ _ _ _ _ _ _ _ _ _ _ UR.ok hr1 (by rfl) UR.m UR.kp UR.b .nil pass0 (@pa_cons _ _ _ _ _ (@pv _ 1 _ _ (by rfl) (by first|exact Or.inl rfl|exact Or.inr (.inl rfl)|exact Or.inr (.inr rfl)) (by decide) (by decide)) (@pa_cons _ _ _ _ _ pe_int pa_nil (by rfl)) (by rfl)) (by decide) (by rfl) (by rfl)) (fun _=>rfl)) (@pss_one _ _ _ (@ps_ret _ _ _ _ (@zbb _ _ _ _ _ _ _ (@pe_call _ _ _ _ _ _ _ _ _ _ _ _ _ _ _ _ UD.ok hr1 (by rfl) UD.m UD.kp UD.b .nil pass0 (@pa_cons _ _ _ _ _ (@pe_ix _ _ _ _ _ _ _ ix_tup (@pv _ 1 _ _ (by rfl) (by first|exact Or.inl rfl|exact Or.inr (.inl rfl)|exact Or.inr (.inr rfl)) (by decide) (by decide)) pe_int (fun _ _=>rfl)) (@pa_cons _ _ _ _ _ pe_str pa_nil (by rfl)) (by rfl)) (by decide) (by rfl) (by rfl)) (@zbh _ _ _ _ _ (@pe_call _ _ _ _ _ _ _ _ _ _ _ _ _ _ _ _ UPl.ok hr2 (by rfl) UPl.m UPl.kp UPl.b .nil pass0 (@pa_cons _ _ _ _ _ (@pe_ix _ _ _ _ _ _ _ ix_tup (@pv _ 1 _ _ (by rfl) (by first|exact Or.inl rfl|exact Or.inr (.inl rfl)|exact Or.inr (.inr rfl)) (by decide) (by decide)) pe_int (fun _ _=>rfl)) pa_nil (by rfl)) (by decide) (by rfl) (by rfl)))))) pss_nil) (@pss_cons _ _ _ _ _ (@ps_if _ _ _ _ _ _ _ _ (@pt_not _ _ _ _ (@pt_truth _ _ _ (@pe_call _ _ _ _ _ _ _ _ _ _ _ _ _ _ _ _ UR.ok hr1 (by rfl) UR.m UR.kp UR.b .nil pass0 (@pa_cons _ _ _ _ _ (@pv _ 1 _ _ (by rfl) (by first|exact Or.inl rfl|exact Or.inr (.inl rfl)|exact Or.inr (.inr rfl)) (by decide) (by decide)) (@pa_cons _ _ _ _ _ pe_int pa_nil (by rfl)) (by rfl)) (by decide) (by rfl) (by rfl)) (fun _=>rfl))) (@pss_one _ _ _ (@ps_ret _ _ _ _ pe_bl)) pss_nil) (@pss_cons _ _ _ _ _ (@ps_asg _ _ _ _ _ _ (@pv _ 1 _ _ (by rfl) (by first|exact Or.inl rfl|exact Or.inr (.inl rfl)|exact Or.inr (.inr rfl)) (by decide) (by decide)) (@pg_tup _ _ _ _ _ _ rfl (@pgs_cons _ _ _ _ _ (@pg_name _ _ 2 _ scKe.nd rfl (.inl rfl) (by first|exact .inl rfl|exact .inr rfl|assumption)) (@pgs_cons _ _ _ _ _ (@pg_name _ _ 3 _ scKe.nd rfl (.inl rfl) (by first|exact .inl rfl|exact .inr rfl|assumption)) (@pgs_cons _ _ _ _ _ (@pg_name _ _ 4 _ scKe.nd rfl (.inl rfl) (by first|exact .inl rfl|exact .inr rfl|assumption)) pgs_nil (by rfl)) (by rfl)) (by rfl)) (by rfl) (by rfl)) (by rfl) (by rfl) (by rfl)) (@pss_cons _ _ _ _ _ (@ps_if _ _ _ _ _ _ _ _ (@pt_truth _ _ _ (@pe_call _ _ _ _ _ _ _ _ _ _ _ _ _ _ _ _ UD.ok hr1 (by rfl) UD.m UD.kp UD.b .nil pass0 (@pa_cons _ _ _ _ _ (@pv _ 2 _ _ (by rfl) (by first|exact Or.inl rfl|exact Or.inr (.inl rfl)|exact Or.inr (.inr rfl)) (by decide) (by decide)) (@pa_cons _ _ _ _ _ pe_str pa_nil (by rfl)) (by rfl)) (by decide) (by rfl) (by rfl)) (fun _=>rfl)) (@pss_one _ _ _ (@ps_ret _ _ _ _ (@zbb _ _ _ _ _ _ _ (@pe_call _ _ _ _ _ _ _ _ _ _ _ _ _ _ _ _ UB.ok hr2 (by rfl) UB.m UB.kp UB.b .nil pass0 (@pa_cons _ _ _ _ _ (@pv _ 3 _ _ (by rfl) (by first|exact Or.inl rfl|exact Or.inr (.inl rfl)|exact Or.inr (.inr rfl)) (by decide) (by decide)) (@pa_cons _ _ _ _ _ (@pe_ix _ _ _ _ _ _ _ ix_tup (@pv _ 0 _ _ (by rfl) (by first|exact Or.inl rfl|exact Or.inr (.inl rfl)|exact Or.inr (.inr rfl)) (by decide) (by decide)) pe_int (fun _ _=>rfl)) pa_nil (by rfl)) (by rfl)) (by decide) (by rfl) (by rfl)) (@zbh _ _ _ _ _ (@pe_call _ _ _ _ _ _ _ _ _ _ _ _ _ _ _ _ UM.ok hr (by rfl) UM.m UM.kp UM.b .nil pass0 (@pa_cons _ _ _ _ _ (@pv _ 4 _ _ (by rfl) (by first|exact Or.inl rfl|exact Or.inr (.inl rfl)|exact Or.inr (.inr rfl)) (by decide) (by decide)) pa_nil (by rfl)) (by decide) (by rfl) (by rfl)))))) pss_nil) (@pss_one _ _ _ (@ps_ret _ _ _ _ (@zbb _ _ _ _ _ _ _ (@pe_call _ _ _ _ _ _ _ _ _ _ _ _ _ _ _ _ UD.ok hr1 (by rfl) UD.m UD.kp UD.b .nil pass0 (@pa_cons _ _ _ _ _ (@pv _ 2 _ _ (by rfl) (by first|exact Or.inl rfl|exact Or.inr (.inl rfl)|exact Or.inr (.inr rfl)) (by decide) (by decide)) (@pa_cons _ _ _ _ _ pe_str pa_nil (by rfl)) (by rfl)) (by decide) (by rfl) (by rfl)) (@zbb _ _ _ _ _ _ _ (@pe_call _ _ _ _ _ _ _ _ _ _ _ _ _ _ _ _ UPl.ok hr2 (by rfl) UPl.m UPl.kp UPl.b .nil pass0 (@pa_cons _ _ _ _ _ (@pv _ 4 _ _ (by rfl) (by first|exact Or.inl rfl|exact Or.inr (.inl rfl)|exact Or.inr (.inr rfl)) (by decide) (by decide)) pa_nil (by rfl)) (by decide) (by rfl) (by rfl)) (@zbh _ _ _ _ _ (@pe_call _ _ _ _ _ _ _ _ _ _ _ _ _ _ _ _ UB.ok hr2 (by rfl) UB.m UB.kp UB.b .nil pass0 (@pa_cons _ _ _ _ _ (@pv _ 3 _ _ (by rfl) (by first|exact Or.inl rfl|exact Or.inr (.inl rfl)|exact Or.inr (.inr rfl)) (by decide) (by decide)) (@pa_cons _ _ _ _ _ (@pv _ 4 _ _ (by rfl) (by first|exact Or.inl rfl|exact Or.inr (.inl rfl)|exact Or.inr (.inr rfl)) (by decide) (by decide)) pa_nil (by rfl)) (by rfl)) (by decide) (by rfl) (by rfl))))))))))),?_⟩
 refine⟨_,rfl,_,_,rfl,ax,_,rfl,?_⟩
 cases z:zbr H x with
 | none =>
  have e2:∀ m,rowV H m x=false:=fun m=>by unfold rowV;rw[z]
  have e3:zbA H N.lanes x=false:=by unfold zbA;rw[z]
  rw[e3]at k
  rw[e2]
  refine iteF ⟨_,rfl,_,_,rfl,ax,_,rfl,?_⟩
  rw[e2]
  exact iteT k
 | some xs =>
  have e2:∀ m,rowV H m x=decide ((xs.length:Int)=m):=fun m=>by unfold rowV;rw[z]
  have e3:zbA H N.lanes x=ziV N.lanes xs:=by unfold zbA;rw[z]
  rw[e3]at k
  obtain⟨a,rfl,ha⟩:=zcU z
  have ay':=ay xs z
  rw[e2]
  match xs,k,ha,ay',e2 with
  | [],k,ha,ay',e2 =>
   refine iteF ⟨_,rfl,_,_,rfl,ax,_,rfl,?_⟩
   rw[e2];exact iteT k
  | [_],k,ha,ay',e2 =>
   refine iteF ⟨_,rfl,_,_,rfl,ax,_,rfl,?_⟩
   rw[e2];exact iteT k
  | [u,v],k,ha,ay',e2 =>
   have k':Q (.bl (zaK "step" u && zce 0 v)) H:=k
   refine iteT ⟨_,rfl,a,_,_,_,rfl,rfl,SqT.of ha,rfl,_,_,rfl,ay' u (by simp),_,rfl,?_⟩
   cases y:zaK "step" u with
   | true=>rw[y]at k';exact iteT ⟨_,rfl,a,_,_,_,rfl,rfl,SqT.of ha,rfl,_,rfl,ay' v (by simp),k'⟩
   | false=>rw[y]at k';exact iteF k'
  | [u,v,t],k,ha,ay',e2 =>
   have k':Q (.bl (if zaK "put" u=true then zbu N.lanes v && zdY t else zaK "join" u && (zce 0 t && lowV v t))) H:=k
   refine iteF ⟨_,rfl,_,_,rfl,ax,_,rfl,?_⟩
   rw[e2]
   refine iteF ⟨_,rfl,a,_,rfl,SqT.of ha,rfl,_,_,rfl,_,_,rfl,_,_,rfl,rfl,?_⟩
   refine⟨_,rfl,_,_,rfl,ay' u (by simp),_,rfl,?_⟩
   cases y:zaK "put" u with
   | true =>
    rw[y,if_pos rfl]at k'
    refine iteT ⟨_,rfl,_,rfl,r,_,_,_,rfl,rfl,SqT.of na.net,rfl,_,_,rfl,ay' v (by simp),_,rfl,?_⟩
    cases q:zbu N.lanes v with
    | true=>rw[q]at k';exact iteT ⟨_,rfl,_,rfl,ay' t (by simp),k'⟩
    | false=>rw[q]at k';exact iteF k'
   | false =>
    rw[y,if_neg (by decide)]at k'
    refine iteF ⟨_,rfl,_,_,rfl,ay' u (by simp),_,rfl,?_⟩
    cases q:zaK "join" u with
    | false=>rw[q]at k';exact iteF k'
    | true =>
     rw[q]at k'
     refine iteT ⟨_,rfl,_,rfl,ay' t (by simp),_,rfl,?_⟩
     cases p:zce 0 t with
     | false=>rw[p]at k';exact iteF k'
     | true =>
      rw[p]at k'
      cases t with
      | int j=>exact iteT ⟨_,rfl,_,rfl,_,_,rfl,ay' v (by simp),k'⟩
      | _=>cases p
  | _::_::_::_::_,k,ha,ay',e2 =>
   rw[decide_eq_false (by simp only[List.length_cons];lia)]
   refine iteF ⟨_,rfl,_,_,rfl,ax,_,rfl,?_⟩
   rw[e2,decide_eq_false (by simp only[List.length_cons];lia)];exact iteT k
end
abbrev zgK:Stmt:=top 16
abbrev zjg:Stmt:=top 21
def zeq:Sp:=fun vs H Q _=>∃ r fr er ps N,vs=[.ref r]∧Nt.Ok N∧NetAt H r fr er ps N∧∀ sc tr gr ou H',Same H H'→SceneAt H' sc tr gr ou [] (List.replicate N.forks.length 0) [] (List.replicate N.lanes 0)→Q (.ref sc) H'
def zgn:Sp:=fun vs H Q _=>∃ r fr er ps N sc tr gr ou qs ts gs os,∃ (lane:Nat) (many:Int),vs=[.ref r,.ref sc,.int lane,.int many]∧Nt.Ok N∧NetAt H r fr er ps N∧SceneAt H sc tr gr ou qs ts gs os∧gs.length≤900 ∧
 ∀ k sc' gr' qs' H',IsNext N.forks lane 0 k→Same H H'→SceneAt H' sc' tr gr' ou qs' ts (gs++[⟨many,lane,k⟩]) os→Q (.ref sc') H'
section
variable {P:Program}{w:World}{K:PySem.W.Frag}{mg:Str→Option Value}{base:Heap}
theorem scBe:FnScope ["net","lanes","forks","ends"] ["net"] (zad zgK):=⟨rfl,rfl,rfl,by decide +kernel,rfl,by decide +kernel,by decide +kernel⟩
theorem zim {f:Addr}{fd:FuncData}(F:Fun K "begun" "begun" zgK f fd) (G:Mgs mg):FnOk P w K mg base CX0 1 f fd ["net"] zeq:=by
 refine F.ok scBe (fun vs H Q E h=>?_) (fun cdv A outer s H vs Q E hr h=>?_)
 ·obtain⟨r,fr,er,ps,N,rfl,_⟩:=h
  rfl
 obtain⟨r,fr,er,ps,N,rfl,ok,na,k⟩:=h
 refine⟨_,(@pss_cons _ _ _ _ _ (@ps_asg _ _ _ _ _ _ (@pv _ 0 _ _ (by rfl) (by first|exact Or.inl rfl|exact Or.inr (.inl rfl)|exact Or.inr (.inr rfl)) (by decide) (by decide)) (@pg_tup _ _ _ _ _ _ rfl (@pgs_cons _ _ _ _ _ (@pg_name _ _ 1 _ scBe.nd rfl (.inl rfl) (by first|exact .inl rfl|exact .inr rfl|assumption)) (@pgs_cons _ _ _ _ _ (@pg_name _ _ 2 _ scBe.nd rfl (.inl rfl) (by first|exact .inl rfl|exact .inr rfl|assumption)) (@pgs_cons _ _ _ _ _ (@pg_name _ _ 3 _ scBe.nd rfl (.inl rfl) (by first|exact .inl rfl|exact .inr rfl|assumption)) pgs_nil (by rfl)) (by rfl)) (by rfl)) (by rfl) (by rfl)) (by rfl) (by rfl) (by rfl)) (@pss_one _ _ _ (@ps_ret _ _ _ _ (@pe_tup _ _ _ _ _ (@pa_cons _ _ _ _ _ (@pe_op _ _ _ _ _ _ _ _ zeI (@pe_tup _ _ _ _ _ (@pa_cons _ _ _ _ _ pe_int pa_nil (by rfl))) (@pe_callB _ _ _ _ _ _ _ _ _ call_len_seq (by rfl) G.len PySem.boot_len (@pa_cons _ _ _ _ _ (@pv _ 2 _ _ (by rfl) (by first|exact Or.inl rfl|exact Or.inr (.inl rfl)|exact Or.inr (.inr rfl)) (by decide) (by decide)) pa_nil (by rfl)) (by decide) (by decide) (by rfl) (by rfl))) (@pa_cons _ _ _ _ _ (@pe_tup _ _ _ _ _ pa_nil) (@pa_cons _ _ _ _ _ (@pe_op _ _ _ _ _ _ _ _ zeI (@pe_tup _ _ _ _ _ (@pa_cons _ _ _ _ _ pe_int pa_nil (by rfl))) (@pv _ 1 _ _ (by rfl) (by first|exact Or.inl rfl|exact Or.inr (.inl rfl)|exact Or.inr (.inr rfl)) (by decide) (by decide))) pa_nil (by rfl)) (by rfl)) (by rfl)))))),?_⟩
 have pl:=na.prs.len
 have fm:=ok.fm
 have l16:=ok.l16
 refine⟨_,rfl,r,_,rfl,SqT.of na.net,rfl,_,_,rfl,_,_,rfl,_,_,rfl,rfl,?_⟩
 refine⟨(by show 1≤sizeLine;decide),fun t1 ht1=>?_⟩
 have s1:=zaa ht1 (.tup [.int 0])
 refine⟨_,rfl,fr,_,rfl,.inr (SqT.of (s1 _ _ na.forks)),t1,_,_,rfl,rfl,zab,by lia,fun tr H2 s2 h2=>?_⟩
 refine⟨(by show 0≤sizeLine;decide),fun gr hgr=>?_⟩
 have s3:=zaa hgr (.tup [])
 refine⟨(by show 1≤sizeLine;decide),fun t2 ht2=>?_⟩
 have s4:=zaa ht2 (.tup [.int 0])
 refine⟨_,rfl,t2,_,_,rfl,rfl,zab,by lia,fun ou H5 s5 h5=>?_⟩
 refine⟨(by show 3≤sizeLine;decide),fun sc hsc=>?_⟩
 have s6:=zaa hsc (.tup [.ref tr,.ref gr,.ref ou])
 have t36:=(s4.trans s5).trans s6
 refine k sc tr gr ou _ ((s1.trans s2).trans (s3.trans t36)) ⟨zab,?_,t36 _ _ zab,trivial,?_⟩
 ·rw[(s3.trans t36) _ _ h2,List.map_replicate,pl]
 ·rw[s6 _ _ h5,List.map_replicate]
theorem scPb:FnScope ["net","scene","lane","many","turns","groups","out"] ["net","scene","lane","many"] (zad zjg):=⟨rfl,rfl,rfl,by decide +kernel,rfl,by decide +kernel,by decide +kernel⟩
theorem zjC {f fN:Addr}{fd dN:FuncData}(F:Fun K "put_behind" "put_behind" zjg f fd) (G:Mgs mg) (UN:Use P w K mg base "next_fork" ["net","lane","number"] 1 ze7 fN dN):FnOk P w K mg base CX0 2 f fd ["net","scene","lane","many"] zgn:=by
 refine F.ok scPb (fun vs H Q E h=>?_) (fun cdv A outer s H vs Q E hr h=>?_)
 ·obtain⟨r,fr,er,ps,N,sc,tr,gr,ou,qs,ts,gs,os,lane,many,rfl,_⟩:=h
  rfl
 obtain⟨r,fr,er,ps,N,sc,tr,gr,ou,qs,ts,gs,os,lane,many,rfl,ok,na,sa,gl,k⟩:=h
 refine⟨_,(@pss_cons _ _ _ _ _ (@ps_asg _ _ _ _ _ _ (@pv _ 1 _ _ (by rfl) (by first|exact Or.inl rfl|exact Or.inr (.inl rfl)|exact Or.inr (.inr rfl)) (by decide) (by decide)) (@pg_tup _ _ _ _ _ _ rfl (@pgs_cons _ _ _ _ _ (@pg_name _ _ 4 _ scPb.nd rfl (.inl rfl) (by first|exact .inl rfl|exact .inr rfl|assumption)) (@pgs_cons _ _ _ _ _ (@pg_name _ _ 5 _ scPb.nd rfl (.inl rfl) (by first|exact .inl rfl|exact .inr rfl|assumption)) (@pgs_cons _ _ _ _ _ (@pg_name _ _ 6 _ scPb.nd rfl (.inl rfl) (by first|exact .inl rfl|exact .inr rfl|assumption)) pgs_nil (by rfl)) (by rfl)) (by rfl)) (by rfl) (by rfl)) (by rfl) (by rfl) (by rfl)) (@pss_one _ _ _ (@ps_ret _ _ _ _ (@pe_tup _ _ _ _ _ (@pa_cons _ _ _ _ _ (@pv _ 4 _ _ (by rfl) (by first|exact Or.inl rfl|exact Or.inr (.inl rfl)|exact Or.inr (.inr rfl)) (by decide) (by decide)) (@pa_cons _ _ _ _ _ (@pe_op _ _ _ _ _ _ _ _ za7 (@pv _ 5 _ _ (by rfl) (by first|exact Or.inl rfl|exact Or.inr (.inl rfl)|exact Or.inr (.inr rfl)) (by decide) (by decide)) (@pe_tup _ _ _ _ _ (@pa_cons _ _ _ _ _ (@pe_tup _ _ _ _ _ (@pa_cons _ _ _ _ _ (@pv _ 3 _ _ (by rfl) (by first|exact Or.inl rfl|exact Or.inr (.inl rfl)|exact Or.inr (.inr rfl)) (by decide) (by decide)) (@pa_cons _ _ _ _ _ (@pv _ 2 _ _ (by rfl) (by first|exact Or.inl rfl|exact Or.inr (.inl rfl)|exact Or.inr (.inr rfl)) (by decide) (by decide)) (@pa_cons _ _ _ _ _ (@pe_call _ _ _ _ _ _ _ _ _ _ _ _ _ _ _ _ UN.ok hr (by rfl) UN.m UN.kp UN.b .nil pass0 (@pa_cons _ _ _ _ _ (@pv _ 0 _ _ (by rfl) (by first|exact Or.inl rfl|exact Or.inr (.inl rfl)|exact Or.inr (.inr rfl)) (by decide) (by decide)) (@pa_cons _ _ _ _ _ (@pv _ 2 _ _ (by rfl) (by first|exact Or.inl rfl|exact Or.inr (.inl rfl)|exact Or.inr (.inr rfl)) (by decide) (by decide)) (@pa_cons _ _ _ _ _ pe_int pa_nil (by rfl)) (by rfl)) (by rfl)) (by decide) (by rfl) (by rfl)) pa_nil (by rfl)) (by rfl)) (by rfl))) pa_nil (by rfl)))) (@pa_cons _ _ _ _ _ (@pv _ 6 _ _ (by rfl) (by first|exact Or.inl rfl|exact Or.inr (.inl rfl)|exact Or.inr (.inr rfl)) (by decide) (by decide)) pa_nil (by rfl)) (by rfl)) (by rfl)))))),?_⟩
 have ql:=sa.grs.len
 refine⟨_,rfl,sc,_,rfl,SqT.of sa.sc,rfl,_,_,rfl,_,_,rfl,_,_,rfl,rfl,?_⟩
 refine⟨_,rfl,_,rfl,_,rfl,_,rfl,_,rfl,_,rfl,r,fr,er,ps,N,lane,0,rfl,ok,na,Nat.zero_le _,fun n hn=>?_⟩
 refine⟨(by show 3≤sizeLine;decide),fun t1 h1=>?_⟩
 have s1:=zaa h1 (.tup [.int many,.int lane,.int n])
 refine⟨(by show 1≤sizeLine;decide),fun t2 h2=>?_⟩
 have s2:=zaa h2 (.tup [.ref t1])
 refine⟨gr,t2,_,_,rfl,rfl,(s1.trans s2) _ _ sa.gr,zab,?_,fun g' H3 s3 h3=>?_⟩
 ·rw[ql];show gs.length+1≤_;exact Nat.le_trans (show gs.length+1≤1000 by lia) (by decide)
 refine⟨_,rfl,(by show 3≤sizeLine;decide),fun sc' h4=>?_⟩
 have s4:=zaa h4 (.tup [.ref tr,.ref g',.ref ou])
 have st:=(s1.trans s2).trans (s3.trans s4)
 exact k n sc' g' (qs++[.ref t1]) _ hn st ⟨zab,st _ _ sa.tr,s4 _ _ h3,(sa.grs.tups (Tups.of st)).app (Grs.one (g:=⟨many,lane,n⟩) ((s2.trans (s3.trans s4)) _ _ zab)),st _ _ sa.ou⟩
end
end K83
namespace Bn
open PySem L2 Own
def zaj (back:Bool) (st:List Int × Nat) (k:Nat) (f:Nat × Nat):List Int × Nat :=
 if st.2=f.1∨st.2=f.2 then (st.1.set k (1-st.1.getD k 0),if (if back then 1-st.1.getD k 0 else st.1.getD k 0)=0 then f.1 else f.2) else st
def zaf (back:Bool) (fs:List (Nat × Nat)) (ts:List Int) (lane:Nat):Nat→List Int × Nat
 | 0=>(ts,lane)
 | i+1=>zaj back (zaf back fs ts lane i) i (fs.getD i (0,0))
def zap (xs:List Int) (i:Nat) (d:Int):List Int:=xs.set i (xs.getD i 0+d)
theorem zar (xs:List Int) (i:Nat) (d:Int):(zap xs i d).length=xs.length:=by simp[zap]
theorem zaq {xs:List Int}{i p:Nat}{d:Int}(h:p<xs.length):(zap xs i d).getD p 0=xs.getD p 0+if i=p then d else 0:=by
 unfold zap
 rw[zaL h]
 by_cases e:i=p
 ·subst e;rw[if_pos rfl,if_pos rfl]
 ·rw[if_neg e,if_neg e,Int.add_zero]
theorem zbp {xs ys:List Int}(hl:xs.length=ys.length) (h:∀ p,p<xs.length→xs.getD p 0=ys.getD p 0):xs=ys:=by
 refine List.ext_getElem hl fun p h1 h2=>?_
 have:=h p h1
 rwa [List.getD_eq_getElem?_getD,List.getD_eq_getElem?_getD,List.getElem?_eq_getElem h1,List.getElem?_eq_getElem h2]at this
theorem zbD {L T:List Int}{f:Nat × Nat}{p:Nat}(hp:p<L.length):(zaA (L,T) f).1.getD p 0=if f.2=p then (L.getD f.1 0+L.getD f.2 0) / 2 else if f.1=p then (L.getD f.1 0+L.getD f.2 0+1) / 2 else L.getD p 0:=by
 unfold zaA
 simp only
 rw[zaL (by rw[List.length_set];exact hp),zaL hp]
theorem zh8 (back:Bool) (L T:List Int) (f:Nat × Nat) (here k:Nat) (ts:List Int) (h1:f.1<L.length) (h2:f.2<L.length) (ne:f.1≠f.2) (hh:here<L.length) (ht:ts.getD k 0=(L.getD f.1 0+L.getD f.2 0)%2) :
  let d:Int:=if back then -1 else 1
  let r:=zaj back (ts,here) k f
  (zaA (zap L here d,T) f).1=zap (zaA (L,T) f).1 r.2 d∧r.2<L.length ∧
   ((here=f.1∨here=f.2)→((zap L here d).getD f.1 0+(zap L here d).getD f.2 0)%2=1-ts.getD k 0)∧(¬(here=f.1∨here=f.2)→((zap L here d).getD f.1 0+(zap L here d).getD f.2 0)%2=ts.getD k 0):=by
 intro d r
 have hd:d=if back then -1 else 1:=rfl
 have a1:=zaq (xs:=L) (i:=here) (d:=d) h1
 have a2:=zaq (xs:=L) (i:=here) (d:=d) h2
 generalize hc:L.getD f.1 0+L.getD f.2 0=c at *
 have hr:r=zaj back (ts,here) k f:=rfl
 unfold zaj at hr
 simp only at hr
 by_cases on:here=f.1∨here=f.2
 ·rw[if_pos on]at hr
  have c':(zap L here d).getD f.1 0+(zap L here d).getD f.2 0=c+d:=by
   rw[a1,a2,← hc]
   rcases on with e|e
   ·subst e;rw[if_pos rfl,if_neg ne];lia
   ·subst e;rw[if_neg (Ne.symm ne),if_pos rfl];lia
  have hr2:r.2=if (if back then 1-c%2 else c%2)=0 then f.1 else f.2:=by rw[hr,ht]
  refine⟨zbp (by rw[zaF,zar,zar,zaF]) fun p hp=>?_,?_,fun _=>?_,fun z=>absurd on z⟩
  ·rw[zaF,zar]at hp
   have hp':p<L.length:=hp
   rw[zbD (by rw[zar];exact hp'),c',zaq (xs:=(zaA (L,T) f).1) (by rw[zaF];exact hp'),zbD hp',hc,zaq (xs:=L) hp',hr2]
   cases back
   ·simp only[Bool.false_eq_true,if_false]at hd ⊢
    rw[hd]
    by_cases p2:f.2=p
    ·subst p2
     simp only[if_true]
     by_cases z:c%2=0
     ·rw[if_pos z,if_neg ne];lia
     ·rw[if_neg z,if_pos rfl];lia
    ·rw[if_neg p2,if_neg p2]
     by_cases p1:f.1=p
     ·subst p1
      simp only[if_true]
      by_cases z:c%2=0
      ·rw[if_pos z,if_pos rfl];lia
      ·rw[if_neg z,if_neg (Ne.symm ne)];lia
     ·rw[if_neg p1,if_neg p1]
      have q1:¬ here=p:=by rcases on with e|e<;>lia
      have q2:¬(if c%2=0 then f.1 else f.2)=p:=by split<;>assumption
      rw[if_neg q1,if_neg q2]
   ·simp only[if_true]at hd ⊢
    rw[hd]
    by_cases p2:f.2=p
    ·subst p2
     simp only[if_true]
     by_cases z:1-c%2=0
     ·rw[if_pos z,if_neg ne];lia
     ·rw[if_neg z,if_pos rfl];lia
    ·rw[if_neg p2,if_neg p2]
     by_cases p1:f.1=p
     ·subst p1
      simp only[if_true]
      by_cases z:1-c%2=0
      ·rw[if_pos z,if_pos rfl];lia
      ·rw[if_neg z,if_neg (Ne.symm ne)];lia
     ·rw[if_neg p1,if_neg p1]
      have q1:¬ here=p:=by rcases on with e|e<;>lia
      have q2:¬(if 1-c%2=0 then f.1 else f.2)=p:=by split<;>assumption
      rw[if_neg q1,if_neg q2]
  ·rw[hr2]
   by_cases z:(if back=true then 1-c%2 else c%2)=0
   ·rw[if_pos z];exact h1
   ·rw[if_neg z];exact h2
  ·rw[c',ht]
   cases back<;>simp at hd<;>lia
 ·rw[if_neg on]at hr
  have n1:¬ here=f.1:=fun z=>on (.inl z)
  have n2:¬ here=f.2:=fun z=>on (.inr z)
  rw[if_neg n1]at a1
  rw[if_neg n2]at a2
  have c':(zap L here d).getD f.1 0+(zap L here d).getD f.2 0=c:=by rw[a1,a2,← hc];lia
  have hr2:r.2=here:=by rw[hr]
  refine⟨zbp (by rw[zaF,zar,zar,zaF]) fun p hp=>?_,by rw[hr2];exact hh,fun z=>absurd z on,fun _=>by rw[c',ht]⟩
  rw[zaF,zar]at hp
  have hp':p<L.length:=hp
  rw[zbD (by rw[zar];exact hp'),c',zaq (xs:=(zaA (L,T) f).1) (by rw[zaF];exact hp'),zbD hp',hc,zaq (xs:=L) hp',hr2]
  by_cases p2:f.2=p
  ·rw[if_pos p2,if_pos p2,if_neg (by lia)];lia
  ·rw[if_neg p2,if_neg p2]
   by_cases p1:f.1=p
   ·rw[if_pos p1,if_pos p1,if_neg (by lia)];lia
   ·rw[if_neg p1,if_neg p1]
structure Ran (back:Bool) (fs:List (Nat × Nat)) (cs ts:List Int) (lane i:Nat):Prop where
 flows:(flow (fs.take i) (zap cs lane (if back then -1 else 1))).1=zap (flow (fs.take i) cs).1 (zaf back fs ts lane i).2 (if back then -1 else 1)
 turns:∀ k,k<i→(flow (fs.take i) (zap cs lane (if back then -1 else 1))).2.getD k 0=(zaf back fs ts lane i).1.getD k 0
 rest:∀ k,i≤k→(zaf back fs ts lane i).1.getD k 0=ts.getD k 0
 len:(zaf back fs ts lane i).1.length=ts.length
 here:(zaf back fs ts lane i).2<cs.length
 bits:∀ t∈(zaf back fs ts lane i).1,t=0∨t=1
theorem zcH (cs:List Int) (T:List Int):∀ (gs:List (Nat × Nat)) (L:List Int) (k:Nat),k<T.length→(zay (L,T) gs).2.getD k 0=T.getD k 0
 | [],_,_,_=>rfl
 | g::gs,L,k,h=>by
  have:=zcH cs (zaA (L,T) g).2 gs (zaA (L,T) g).1 k (by simp[zaA];lia)
  rw[show zay (L,T) (g::gs)=zay ((zaA (L,T) g).1,(zaA (L,T) g).2) gs from rfl,this]
  show (T++[_]).getD k 0=T.getD k 0
  rw[List.getD_eq_getElem?_getD,List.getElem?_append_left h,← List.getD_eq_getElem?_getD]
theorem zi3 {fs:List (Nat × Nat)}{i:Nat}{f:Nat × Nat}(h:fs[i]?=some f) (cs:List Int):(flow fs cs).2.getD i 0=((flow (fs.take i) cs).1.getD f.1 0+(flow (fs.take i) cs).1.getD f.2 0)%2:=by
 have sp:fs=fs.take (i+1)++fs.drop (i+1):=(List.take_append_drop _ _).symm
 have e:flow fs cs=zay (flow (fs.take (i+1)) cs) (fs.drop (i+1)):=by
  conv=>lhs;rw[sp]
  unfold flow zay;rw[List.foldl_append]
 have hi:i<fs.length:=(List.getElem?_eq_some_iff.mp h).1
 have tl:(flow (fs.take i) cs).2.length=i:=by rw[zav,List.length_take];lia
 rw[e,zbi h]
 have:=zcH cs (zaA (flow (fs.take i) cs) f).2 (fs.drop (i+1)) (zaA (flow (fs.take i) cs) f).1 i (by simp[zaA,tl])
 rw[this]
 unfold zaA
 simp only
 rw[List.getD_eq_getElem?_getD,List.getElem?_append_right (by lia),tl]
 simp
theorem zfa {ts:List Int}{k:Nat}(h:∀ t∈ts,t=0∨t=1):∀ t∈ts.set k (1-ts.getD k 0),t=0∨t=1:=fun t ht=>by
 rcases List.mem_or_eq_of_mem_set ht with z|z
 ·exact h t z
 ·by_cases hk:k<ts.length
  ·have:=h _ (L2.zck hk);lia
  ·rw[List.set_eq_of_length_le (by lia)]at ht;exact h t ht
theorem ran {back:Bool}{fs:List (Nat × Nat)}{cs:List Int}{lane:Nat}(ok:∀ f∈fs,f.1<cs.length∧f.2<cs.length∧f.1≠f.2) (hl:lane<cs.length) (hb:∀ t∈(flow fs cs).2,t=0∨t=1):∀ i,i≤fs.length→Ran back fs cs (flow fs cs).2 lane i
 | 0,_=>⟨rfl,fun k hk=>absurd hk (Nat.not_lt_zero _),fun _ _=>rfl,rfl,hl,hb⟩
 | i+1,hi=>by
  have ih:=ran (back:=back) ok hl hb i (by lia)
  have eg:fs[i]?=some fs[i]:=List.getElem?_eq_getElem (by lia)
  have gd:fs.getD i (0,0)=fs[i]:=by rw[List.getD_eq_getElem?_getD,eg];rfl
  have okf:=ok _ (List.getElem_mem (show i<fs.length by lia))
  have e1:=zbi eg (zap cs lane (if back then -1 else 1))
  have e2:=zbi eg cs
  have tt:=zi3 eg cs
  generalize fs[i]=f at *
  have l1:(flow (fs.take i) cs).1.length=cs.length:=zbO _ _
  have tl:(flow (fs.take i) (zap cs lane (if back then -1 else 1))).2.length=i:=by rw[zav,List.length_take];lia
  have tf:(flow fs cs).2.length=fs.length:=zav _ _
  have of:=zh8 back (flow (fs.take i) cs).1 (flow (fs.take i) (zap cs lane (if back then -1 else 1))).2 f (zaf back fs (flow fs cs).2 lane i).2 i (zaf back fs (flow fs cs).2 lane i).1 (by lia) (by lia) okf.2.2 (by rw[l1];exact ih.here) (by rw[ih.rest i (Nat.le_refl _)];exact tt)
  obtain⟨o1,o2,o3,o4⟩:=of
  have rs:zaf back fs (flow fs cs).2 lane (i+1)=zaj back ((zaf back fs (flow fs cs).2 lane i).1,(zaf back fs (flow fs cs).2 lane i).2) i f:=by show zaj _ _ _ _=_;rw[gd]
  have st:flow (fs.take i) (zap cs lane (if back then -1 else 1))=(zap (flow (fs.take i) cs).1 (zaf back fs (flow fs cs).2 lane i).2 (if back then -1 else 1),(flow (fs.take i) (zap cs lane (if back then -1 else 1))).2):=by rw[← ih.flows]
  generalize hr:zaf back fs (flow fs cs).2 lane i=r at *
  generalize hF:(flow (fs.take i) (zap cs lane (if back then -1 else 1))).2=T at *
  have tn:(zaj back (r.1,r.2) i f).1.getD i 0=(zaA (zap (flow (fs.take i) cs).1 r.2 (if back then -1 else 1),T) f).2.getD i 0:=by
   unfold zaA
   simp only
   rw[List.getD_eq_getElem?_getD (l:=T++_),List.getElem?_append_right (by lia),tl]
   simp only[Nat.sub_self,List.getElem?_cons_zero,Option.getD_some]
   unfold zaj
   by_cases on:r.2=f.1∨r.2=f.2
   ·rw[if_pos on,o3 on]
    simp only
    rw[zaL (by have z:=ih.len;rw[hr,tf]at z;lia),if_pos rfl]
   ·rw[if_neg on,o4 on]
  have keep:∀ k,k≠i→(zaj back (r.1,r.2) i f).1.getD k 0=r.1.getD k 0:=fun k hk=>by
   unfold zaj
   split
   ·simp only
    rw[List.getD_eq_getElem?_getD,List.getElem?_set_ne (Ne.symm hk),← List.getD_eq_getElem?_getD]
   ·rfl
  refine⟨?_,fun k hk=>?_,fun k hk=>?_,?_,?_,?_⟩
  ·rw[e1,st,o1,rs,e2,show flow (fs.take i) cs=((flow (fs.take i) cs).1,(flow (fs.take i) cs).2) from rfl];rfl
  ·rw[e1,st,rs]
   by_cases e:k=i
   ·subst e;exact tn.symm
   ·have z:=ih.turns k (by lia)
    rw[hr,hF]at z
    rw[keep k e,← z]
    unfold zaA
    simp only
    rw[List.getD_eq_getElem?_getD,List.getElem?_append_left (by lia),← List.getD_eq_getElem?_getD]
  ·have z:=ih.rest k (by lia)
   rw[hr]at z
   rw[rs,keep k (by lia),z]
  ·rw[rs]
   unfold zaj
   split
   ·simp only;rw[List.length_set,← ih.len,hr]
   ·rw[← ih.len,hr]
  ·rw[rs,← l1];exact o2
  ·rw[rs]
   unfold zaj
   split
   ·exact zfa (by have z:=ih.bits;rw[hr]at z;exact z)
   ·have z:=ih.bits;rw[hr]at z;exact z
theorem zbo {back:Bool}{fs:List (Nat × Nat)}{ts:List Int}{lane:Nat}(h:∀ t∈ts,t=0∨t=1):∀ i,∀ t∈(zaf back fs ts lane i).1,t=0∨t=1
 | 0=>h
 | i+1=>by
  have ih:=zbo (back:=back) (fs:=fs) (lane:=lane) h i
  show ∀ t∈(zaj back (zaf back fs ts lane i) i (fs.getD i (0,0))).1,t=0∨t=1
  unfold zaj
  split
  ·exact zfa ih
  ·exact ih
theorem zaw {back:Bool}{fs:List (Nat × Nat)}{ts:List Int}{lane:Nat}:∀ i,(zaf back fs ts lane i).1.length=ts.length
 | 0=>rfl
 | i+1=>by
  have ih:=zaw (back:=back) (fs:=fs) (ts:=ts) (lane:=lane) i
  show (zaj back (zaf back fs ts lane i) i (fs.getD i (0,0))).1.length=_
  unfold zaj
  split
  ·simp only;rw[List.length_set];exact ih
  ·exact ih
theorem zcT {back:Bool}{fs:List (Nat × Nat)}{ts:List Int}{lane n:Nat}(ok:∀ f∈fs,f.1<n∧f.2<n∧f.1≠f.2) (hl:lane<n):∀ i,i≤fs.length→(zaf back fs ts lane i).2<n
 | 0,_=>hl
 | i+1,hi=>by
  have ih:=zcT (back:=back) (ts:=ts) ok hl i (by lia)
  have okf:=ok _ (List.getElem_mem (show i<fs.length by lia))
  have gd:fs.getD i (0,0)=fs[i]:=by rw[List.getD_eq_getElem?_getD,List.getElem?_eq_getElem (show i<fs.length by lia)];rfl
  show (zaj back (zaf back fs ts lane i) i (fs.getD i (0,0))).2<n
  rw[gd]
  generalize fs[i]=f at *
  unfold zaj
  split
  ·simp only
   by_cases z:(if back=true then 1-(zaf back fs ts lane i).1.getD i 0 else (zaf back fs ts lane i).1.getD i 0)=0
   ·rw[if_pos z];exact okf.1
   ·rw[if_neg z];exact okf.2.1
  ·exact ih
theorem zfo (k:Nat):∀ es:List Nat,(es.map fun (e:Nat)=>(e:Int)).idxOf (k:Int)=es.idxOf k
 | []=>rfl
 | e::es=>by
  rw[List.map_cons,List.idxOf_cons,List.idxOf_cons,zfo k es]
  have:((e:Int) == (k:Int))=(e == k):=by
   rw[Bool.eq_iff_iff,beq_iff_eq];rw[beq_iff_eq];lia
  rw[this]
theorem zio (es:List Nat):nums es=(es.map fun (e:Nat)=>(e:Int)).map V.int:=by unfold nums;rw[List.map_map];rfl
def zhT:Sp:=fun vs H Q _=>∃ r fr er ps N,∃ lane:Nat,vs=[.ref r,.int lane]∧Nt.Ok N∧NetAt H r fr er ps N∧lane<N.lanes∧Q (.int (N.ends.idxOf lane:Nat)) H
def RunQ (back:Bool) (vs:List V) (H:Hp) (Q:VK):Prop:=∃ r fr er ps N tr ts,∃ lane:Nat,vs=[.ref r,.ref tr,.int lane]∧Nt.Ok N∧NetAt H r fr er ps N∧H tr=some (.tup (List.map V.int ts))∧ts.length=N.forks.length∧(∀ t∈ts,t=0∨t=1)∧lane<N.lanes ∧
 ∀ p tr' H',Same H H'→H' p=some (.tup [.ref tr',.int (N.ends.idxOf (zaf back N.forks ts lane N.forks.length).2:Nat)])→H' tr'=some (.tup ((zaf back N.forks ts lane N.forks.length).1.map V.int))→Q (.ref p) H'
def zb6 (back:Bool):Sp:=fun vs H Q _=>RunQ back vs H Q
def zhR:Sp:=fun vs H Q _=>∃ (us:List V) (back:Bool),vs=us++[.bl back]∧RunQ back us H Q
theorem zjc (xs:List Int) (i:Nat) (v:Int) (h:i<xs.length):(xs.map V.int).take i++[V.int v]++(xs.map V.int).drop (i+1)=(xs.set i v).map V.int:=by
 rw[List.set_eq_take_append_cons_drop,if_pos h,List.map_append,List.map_cons,List.map_take,List.map_drop,List.append_assoc];rfl
def part (m:Int) (lane k:Nat):List Grp:=if m=0 then [] else [⟨m,lane,k⟩]
def Parts (fs:List (Nat × Nat)) (t m:Int) (n:Nat) (gs:List Grp):Prop:=∃ f k1 k2,fs[n]?=some f∧IsNext fs f.1 (n+1) k1∧IsNext fs f.2 (n+1) k2∧gs=part ((t+m+1) / 2-t) f.1 k1++part (m-((t+m+1) / 2-t)) f.2 k2
theorem Parts.len {fs:List (Nat × Nat)}{t m:Int}{n:Nat}{gs:List Grp}(h:Parts fs t m n gs):gs.length≤2:=by
 obtain⟨f,k1,k2,_,_,_,rfl⟩:=h
 unfold part
 rw[List.length_append]
 split<;>split<;>simp
def StepTo (N:Nt) (place:Nat) (ts:List Int) (gs:List Grp) (os:List Int) (ts':List Int) (gs':List Grp) (os':List Int):Prop:=∃ g,gs[place]?=some g ∧
 ((g.fork=N.forks.length∧ts'=ts∧gs'=gs.take place++gs.drop (place+1)∧os'=os.set (N.ends.idxOf g.lane) (os.getD (N.ends.idxOf g.lane) 0+g.many)) ∨
  (g.fork<N.forks.length∧ts'=ts.set g.fork ((ts.getD g.fork 0+g.many)%2)∧os'=os∧∃ ms,Parts N.forks (ts.getD g.fork 0) g.many g.fork ms∧gs'=gs.take place++ms++gs.drop (place+1)))
def JoinTo (first second:Nat) (gs gs':List Grp):Prop:=∃ g h,gs[first]?=some g∧gs[second]?=some h∧gs'=gs.take first++part (g.many+h.many) g.lane g.fork++(gs.drop (first+1)).take (second-(first+1))++gs.drop (second+1)
theorem zjQ (fs:List (Nat × Nat)) (lane:Nat):∀ n,n≤fs.length→∃ k,IsNext fs lane n k:=by
 have go:∀ d n,n+d=fs.length→∃ k,IsNext fs lane n k:=by
  intro d
  induction d with
  | zero =>
   intro n h
   refine⟨n,Nat.le_refl _,by lia,fun j g a b=>by lia,fun g e=>?_⟩
   rw[List.getElem?_eq_none (by lia)]at e;cases e
  | succ d ih =>
   intro n h
   have nl:n<fs.length:=by lia
   by_cases z:lane=fs[n].1∨lane=fs[n].2
   ·refine⟨n,Nat.le_refl _,by lia,fun j g a b=>by lia,fun g e=>?_⟩
    rw[List.getElem?_eq_getElem nl]at e
    rw[← Option.some.inj e];exact z
   ·obtain⟨k,hk⟩:=ih (n+1) (by lia)
    refine⟨k,by have:=hk.from_;lia,hk.upto,fun j g a b e=>?_,hk.here⟩
    by_cases y:j=n
    ·subst y
     rw[List.getElem?_eq_getElem nl]at e
     rw[← Option.some.inj e];exact z
    ·exact hk.none j g (by lia) b e
 exact fun n h=>go (fs.length-n) n (by lia)
theorem zhF (xs:List V) (i j:Nat) (h1:i≤j) (h2:j≤xs.length):cutV xs (some (i:Int)) (some (j:Int))=(xs.drop i).take (j-i):=by
 unfold cutV
 rw[HT.sIx_nat,HT.sIx_nat,Nat.min_eq_left h2,Nat.min_eq_left (Nat.le_trans h1 h2)]
end Bn
namespace L2
open PySem PySem.Spec PyProof.Rows Own
section
variable {X:Cx}{pos:Pos}
end
end L2
namespace Bn
open PySem L2 Own
end Bn
namespace L2
open PySem PySem.Spec PyProof.Rows Own
def LtAt (A:Around) (s:Shared) (y x:Value) (b:Bool):Prop:=∀ (prog:Program) (w:World) (E:Value→Shared→Prop) (Q:Value→Shared→Prop),Q (.bool b) s→wpAny (model prog w) A (richCompare .Lt y x) Q E s
theorem LtAt.ints {A:Around}{s:Shared}(a b:Int) (t u:Tok):LtAt A s (.int a t) (.int b u) (decide (a<b)):=fun _ _ _ _ h=>lt_int h
theorem zeP (l b:Addr) (xs ys:Array Value) (n m:Nat) (d1 d2:Option Addr) (sl1 sl2:Array (Option Value)) (k:Nat) (k1:k<xs.size) (k2:k<ys.size) (c:Bool) :
  Meets (Builtin.«tuple.__lt__» ⟨[.ref l,.ref b],[]⟩)
   (fun A R s=>s.heap.get? l=some { cls:=.type "tuple",dict:=d1,data:=.seq xs n,slots:=sl1 }∧s.heap.get? b=some { cls:=.type "tuple",dict:=d2,data:=.seq ys m,slots:=sl2 } ∧
    (∀ j (h1:j<xs.size) (h2:j<ys.size),j<k→SeqAt.EqAt A.in1 s xs[j] ys[j] true)∧SeqAt.EqAt A.in1 s xs[k] ys[k] false∧LtAt A.in1 s xs[k] ys[k] c∧R (.ok (.ret (.bool c))) s) :=
 .of_wp fun prog w A R s h=>by
  obtain⟨hp,g,d,tk,os⟩:=s;obtain⟨hl,hb,he,hk,hc,h⟩:=h
  have kinds:=AutoSeq1.sub_tuple_tuple
  have zl:(xs.toList.zip ys.toList).length=min xs.size ys.size:=by simp
  wp_walk using wpAny_loadPart' hl,wpAny_loadPart' hb,wpAny_forIn_list _ (fun rest b s'=>b.1=none∧s'=⟨hp,g,d,tk,os⟩∧∃ i,i≤k∧rest=(xs.toList.zip ys.toList).drop i) _
  case turn =>
   rintro⟨y,x⟩ rest b s' ⟨hb',rfl,i,ik,hz⟩
   have i1:i<xs.size:=by lia
   have i2:i<ys.size:=by lia
   have il:i<(xs.toList.zip ys.toList).length:=by rw[zl];lia
   rw[List.drop_eq_getElem_cons il]at hz
   obtain⟨e1,e2⟩:=List.cons.inj hz
   have ey:y=xs[i]:=by simpa using congrArg Prod.fst e1
   have ex:x=ys[i]:=by simpa using congrArg Prod.snd e1
   subst ey ex
   by_cases z:i=k
   ·subst z
    refine wpAny_bind (hk prog w _ _ ?_)
    simp only[if_true,Bool.not_false]
    refine wpAny_bind (wpAny_rule (wpAny_bind (hc prog w _ _ ?_)))
    wp_walk
    exact⟨_,rfl,h⟩
   ·refine wpAny_bind (he i i1 i2 (by lia) prog w _ _ ?_)
    wp_walk
    exact⟨rfl,rfl,i+1,by lia,e2⟩
  case fin =>
   rintro⟨b1,b2⟩ s' ⟨hb',rfl,i,ik,hz⟩
   have il:i<(xs.toList.zip ys.toList).length:=by rw[zl];lia
   rw[List.drop_eq_getElem_cons il]at hz;cases hz
  case h =>
   exact⟨rfl,rfl,0,Nat.zero_le _,rfl⟩
theorem LtAt.tuples {A:Around}{s:Shared}{l b:Addr}{xs ys:Array Value}{k:Nat}{c:Bool}(hl:IsTup s.heap l xs) (hb:IsTup s.heap b ys) (hu:A.units<cLine) (k1:k<xs.size) (k2:k<ys.size)
  (he:∀ j (h1:j<xs.size) (h2:j<ys.size),j<k→SeqAt.EqAt A.in1 s xs[j] ys[j] true) (hk:SeqAt.EqAt A.in1 s xs[k] ys[k] false) (hc:LtAt A.in1 s xs[k] ys[k] c):LtAt A s (.ref l) (.ref b) c:=fun prog w E Q h=>by
 obtain⟨⟨cl1,dd1,da1,sl1⟩,o1,c1,n,e1⟩:=hl
 obtain⟨⟨cl2,dd2,da2,sl2⟩,o2,c2,m,e2⟩:=hb
 simp only at c1 e1 c2 e2;subst c1 e1 c2 e2
 exact richCompare_meets_room (op:=.Lt) ⟨_,o1,rfl⟩ ⟨_,o2,rfl⟩ F.slot_tuple_lt F.entry_tuple_lt (F.args_tuple_lt_2 _ _) (zeP l b xs ys n m dd1 dd2 sl1 sl2 k k1 k2 c) ⟨o1,o2,he,hk,hc,show Value.bool c≠Value.notImplemented∧Q (.bool c) s from⟨(fun x=>nomatch x),h⟩⟩ hu
section
variable {prog:Program}{w:World}{A:Around}{R:Result→Shared→Prop}{I S:Addr}{fp wr:List Addr}{n:Nat}{P:Nat→Value→Prop}{St:Nat→Heap→Prop}
end
section
variable {prog:Program}{w:World}{A:Around}{E:Value→Shared→Prop}{s:Shared}
end
section
variable {X:Cx}
end
theorem zjW {K:PySem.W.Frag}{a:Addr}{xs:List V}{g:TG}{tt:TT}{te:TE}{l:Addr}{σ:St}{H:Hp}{Q:VK}(Pv:Nat→List V→St→Hp→Prop) (h0:Pv 0 [] σ H) (hl:∀ i acc σ H,Pv i acc σ H→H l=some (.lst acc)∧SqT K H a xs)
  (hs:∀ i x acc σ H,xs[i]?=some x→Pv i acc σ H→g x σ H fun σ3 H3=>tt σ3 H3 fun b H4=>if b=true then te σ3 H4 fun y H5=>H5 l=some (.lst acc)∧acc.length<sizeLine∧Nx xs.length i (Pv (i+1) (acc++[y]) σ3 (upd H5 l (.lst (acc++[y])))) else Nx xs.length i (Pv (i+1) acc σ3 H4))
  (hd:∀ acc σ H,Pv xs.length acc σ H→Q (.ref l) H):∃ W:Nat→Nat→List V→St→Hp→Prop,(∃ m,W 0 m [] σ H)∧LCW (Itt K a) g tt te l Q W:=by
 refine⟨fun i m acc σ H=>m=xs.length-i∧i≤xs.length∧Pv i acc σ H,⟨_,rfl,Nat.zero_le _,h0⟩,?_⟩
 rintro i m acc σ H ⟨rfl,hi,p⟩
 obtain⟨q0,q1⟩:=hl i acc σ H p
 refine⟨q0,?_⟩
 by_cases hlt:i<xs.length
 ·refine .inr ⟨⟨xs,xs[i],q1,List.getElem?_eq_getElem hlt⟩,fun x H2 ⟨e,y⟩=>?_⟩
  subst e
  exact hs i x acc σ _ (y xs q1) p
 ·obtain rfl:i=xs.length:=by lia
  exact .inl ⟨⟨xs,q1,Nat.le_refl _⟩,hd acc σ H p⟩
section
variable {prog:Program}{w:World}{A:Around}{E:Value→Shared→Prop}{s:Shared}
end
section
variable {X:Cx}
end
section
variable {X:Cx}
end
end L2
namespace K83
open PySem L2 Own Bn
abbrev sEnd:Stmt:=top 14
abbrev zgI:Stmt:=top 25
abbrev zgL:Stmt:=top 26
abbrev zex:Stmt:=top 23
abbrev zdm:Stmt:=top 22
abbrev zeA:Stmt:=top 24
def zdk:Sp:=fun vs H Q _=>∃ a xs,∃ (place:Nat) (v:Int),vs=[.ref a,.int place,.int v]∧H a=some (.tup (List.map V.int xs))∧place<xs.length∧xs.length≤1000∧∀ p H',Same H H'→H' p=some (.tup ((xs.set place v).map V.int))→Q (.ref p) H'
def zer:Sp:=fun vs H Q _=>∃ a xs,∃ (place:Nat) (v:Int),vs=[.ref a,.int place,.int v]∧H a=some (.tup (List.map V.int xs))∧place<xs.length∧xs.length≤1000∧∀ p H',Same H H'→H' p=some (.tup ((xs.set place (xs.getD place 0+v)).map V.int))→Q (.ref p) H'
def zdf:Sp:=fun vs H Q _=>∃ r fr er ps N,∃ (t m:Int) (n:Nat),vs=[.ref r,.int t,.int m,.int n]∧Nt.Ok N∧NetAt H r fr er ps N∧n<N.forks.length∧∀ p qs gs H',Parts N.forks t m n gs→Same H H'→H' p=some (.tup qs)→Grs H' qs gs→Q (.ref p) H'
def zcv:Sp:=fun vs H Q _=>∃ r fr er ps N sc tr gr ou qs ts gs os,∃ place:Nat,vs=[.ref r,.ref sc,.int place]∧Nt.Ok N∧NetAt H r fr er ps N∧SceneAt H sc tr gr ou qs ts gs os∧place<gs.length∧gs.length≤900∧ts.length=N.forks.length∧os.length=N.lanes∧(∀ g∈gs,g.lane<N.lanes∧g.fork≤N.forks.length) ∧
 ∀ sc' tr' gr' ou' qs' ts' gs' os' H',StepTo N place ts gs os ts' gs' os'→Same H H'→SceneAt H' sc' tr' gr' ou' qs' ts' gs' os'→Q (.ref sc') H'
def zdj:Sp:=fun vs H Q _=>∃ sc tr gr ou qs ts gs os,∃ (first second:Nat),vs=[.ref sc,.int first,.int second]∧SceneAt H sc tr gr ou qs ts gs os∧first<second∧second<gs.length∧gs.length≤900∧(∀ g h,gs[first]?=some g→gs[second]?=some h→g.lane=h.lane∧g.fork=h.fork) ∧
 ∀ sc' gr' qs' gs' H',JoinTo first second gs gs'→Same H H'→SceneAt H' sc' tr gr' ou qs' ts gs' os→Q (.ref sc') H'
section
variable {P:Program}{w:World}{K:PySem.W.Frag}{mg:Str→Option Value}{base:Heap}
theorem scEn:FnScope ["net","lane"] ["net","lane"] (zad sEnd):=⟨rfl,rfl,rfl,by decide +kernel,rfl,by decide +kernel,by decide +kernel⟩
theorem zkI {f:Addr}{fd:FuncData}(F:Fun K "end_of" "end_of" sEnd f fd):FnOk P w K mg base CX0 1 f fd ["net","lane"] zhT:=by
 refine F.ok scEn (fun vs H Q E h=>?_) (fun cdv A outer s H vs Q E hr h=>?_)
 ·obtain⟨r,fr,er,ps,N,lane,rfl,_⟩:=h
  rfl
 obtain⟨r,fr,er,ps,N,lane,rfl,ok,na,hl,k⟩:=h
 refine⟨_,(@pss_one _ _ _ (@ps_ret _ _ _ _ (@zjy _ _ _ _ _ _ _ hr.units (@pe_ix _ _ _ _ _ _ _ ix_tup (@pv _ 0 _ _ (by rfl) (by first|exact Or.inl rfl|exact Or.inr (.inl rfl)|exact Or.inr (.inr rfl)) (by decide) (by decide)) pe_int (fun _ _=>rfl)) (@pa_cons _ _ _ _ _ (@pv _ 1 _ _ (by rfl) (by first|exact Or.inl rfl|exact Or.inr (.inl rfl)|exact Or.inr (.inr rfl)) (by decide) (by decide)) pa_nil (by rfl)) (by rfl) (by rfl) (by rfl) (by rfl)))),?_⟩
 have he:=na.ends
 rw[zio]at he
 refine⟨_,rfl,r,_,_,_,rfl,rfl,SqT.of na.net,rfl,er,_,rfl,he,_,rfl,(lane:Int),rfl,he,?_,?_⟩
 ·exact List.mem_map.mpr ⟨lane,ok.en.mem_iff.mpr (List.mem_range.mpr hl),rfl⟩
 ·rw[zfo];exact k
theorem scGi:FnScope ["row","place","value"] ["row","place","value"] (zad zgI):=⟨rfl,rfl,rfl,by decide +kernel,rfl,by decide +kernel,by decide +kernel⟩
theorem zik {f:Addr}{fd:FuncData}(F:Fun K "given_at" "given_at" zgI f fd) (G:Mgs mg):FnOk P w K mg base CX0 1 f fd ["row","place","value"] zdk:=by
 refine F.ok scGi (fun vs H Q E h=>?_) (fun cdv A outer s H vs Q E hr h=>?_)
 ·obtain⟨a,xs,place,v,rfl,_⟩:=h
  rfl
 obtain⟨a,xs,place,v,rfl,ha,pl,xl,k⟩:=h
 refine⟨_,(@pss_one _ _ _ (@ps_ret _ _ _ _ (@pe_op _ _ _ _ _ _ _ _ za7 (@pe_op _ _ _ _ _ _ _ _ za7 (@zan _ _ _ _ _ _ _ _ _ _ zaP (@pv _ 0 _ _ (by rfl) (by first|exact Or.inl rfl|exact Or.inr (.inl rfl)|exact Or.inr (.inr rfl)) (by decide) (by decide)) zas (@zak _ _ _ (@pv _ 1 _ _ (by rfl) (by first|exact Or.inl rfl|exact Or.inr (.inl rfl)|exact Or.inr (.inr rfl)) (by decide) (by decide)))) (@pe_tup _ _ _ _ _ (@pa_cons _ _ _ _ _ (@pv _ 2 _ _ (by rfl) (by first|exact Or.inl rfl|exact Or.inr (.inl rfl)|exact Or.inr (.inr rfl)) (by decide) (by decide)) pa_nil (by rfl)))) (@zan _ _ _ _ _ _ _ _ _ _ zaP (@pv _ 0 _ _ (by rfl) (by first|exact Or.inl rfl|exact Or.inr (.inl rfl)|exact Or.inr (.inr rfl)) (by decide) (by decide)) (@zak _ _ _ (@pe_op _ _ _ _ _ _ _ _ op_add (@pv _ 1 _ _ (by rfl) (by first|exact Or.inl rfl|exact Or.inr (.inl rfl)|exact Or.inr (.inr rfl)) (by decide) (by decide)) pe_int)) zas)))),?_⟩
 have ml:(xs.map V.int).length=xs.length:=List.length_map _
 refine⟨_,rfl,_,rfl,_,rfl,a,_,rfl,ha,fun p1 H1 s1 h1=>?_⟩
 rw[zaY _ place (by lia)]at h1
 refine⟨_,rfl,(by show 1≤sizeLine;decide),fun p2 hp2=>?_⟩
 have s2:=zaa hp2 (.tup [.int v])
 refine⟨p1,p2,_,_,rfl,rfl,s2 _ _ h1,zab,?_,fun p3 H3 s3 h3=>?_⟩
 ·rw[List.length_take,sizeLine_eq];show _+1≤_;lia
 have u3:=(s1.trans s2).trans s3
 refine⟨_,rfl,_,rfl,_,_,rfl,rfl,_,rfl,a,_,rfl,u3 _ _ ha,fun p4 H4 s4 h4=>?_⟩
 rw[show ((place:Int)+1)=((place+1:Nat):Int) from rfl,zaZ _ (place+1) (by lia)]at h4
 refine⟨p3,p4,_,_,rfl,rfl,s4 _ _ h3,h4,?_,fun p5 H5 s5 h5=>?_⟩
 ·rw[List.length_append,List.length_take,List.length_drop,sizeLine_eq];show _+1+_≤_;lia
 exact k p5 H5 ((u3.trans s4).trans s5) (by rw[h5,zjc xs place v pl])
theorem scAd:FnScope ["counts","place","many"] ["counts","place","many"] (zad zgL):=⟨rfl,rfl,rfl,by decide +kernel,rfl,by decide +kernel,by decide +kernel⟩
theorem zin {f fG:Addr}{fd dG:FuncData}(F:Fun K "added" "added" zgL f fd) (G:Mgs mg) (UG:Use P w K mg base "given_at" ["row","place","value"] 1 zdk fG dG):FnOk P w K mg base CX0 2 f fd ["counts","place","many"] zer:=by
 refine F.ok scAd (fun vs H Q E h=>?_) (fun cdv A outer s H vs Q E hr h=>?_)
 ·obtain⟨a,xs,place,v,rfl,_⟩:=h
  rfl
 obtain⟨a,xs,place,v,rfl,ha,pl,xl,k⟩:=h
 refine⟨_,(@pss_one _ _ _ (@ps_ret _ _ _ _ (@pe_call _ _ _ _ _ _ _ _ _ _ _ _ _ _ _ _ UG.ok hr (by rfl) UG.m UG.kp UG.b .nil pass0 (@pa_cons _ _ _ _ _ (@pv _ 0 _ _ (by rfl) (by first|exact Or.inl rfl|exact Or.inr (.inl rfl)|exact Or.inr (.inr rfl)) (by decide) (by decide)) (@pa_cons _ _ _ _ _ (@pv _ 1 _ _ (by rfl) (by first|exact Or.inl rfl|exact Or.inr (.inl rfl)|exact Or.inr (.inr rfl)) (by decide) (by decide)) (@pa_cons _ _ _ _ _ (@pe_op _ _ _ _ _ _ _ _ op_add (@pe_ix _ _ _ _ _ _ _ ix_tup (@pv _ 0 _ _ (by rfl) (by first|exact Or.inl rfl|exact Or.inr (.inl rfl)|exact Or.inr (.inr rfl)) (by decide) (by decide)) (@pv _ 1 _ _ (by rfl) (by first|exact Or.inl rfl|exact Or.inr (.inl rfl)|exact Or.inr (.inr rfl)) (by decide) (by decide)) (fun _ _=>rfl)) (@pv _ 2 _ _ (by rfl) (by first|exact Or.inl rfl|exact Or.inr (.inl rfl)|exact Or.inr (.inr rfl)) (by decide) (by decide))) pa_nil (by rfl)) (by rfl)) (by rfl)) (by decide) (by rfl) (by rfl)))),?_⟩
 exact⟨_,rfl,_,rfl,_,rfl,_,rfl,a,_,_,_,rfl,rfl,SqT.of ha,zbw pl,_,rfl,_,_,rfl,rfl,a,xs,place,_,rfl,ha,pl,xl,k⟩
theorem scPa:FnScope ["net","turn","many","number","one","other","on_one","parts"] ["net","turn","many","number"] (zad zex):=⟨rfl,rfl,rfl,by decide +kernel,rfl,by decide +kernel,by decide +kernel⟩
theorem zg5 {f fN:Addr}{fd dN:FuncData}(F:Fun K "parted" "parted" zex f fd) (G:Mgs mg) (UN:Use P w K mg base "next_fork" ["net","lane","number"] 1 ze7 fN dN):FnOk P w K mg base CX0 2 f fd ["net","turn","many","number"] zdf:=by
 refine F.ok scPa (fun vs H Q E h=>?_) (fun cdv A outer s H vs Q E hr h=>?_)
 ·obtain⟨r,fr,er,ps,N,t,m,n,rfl,_⟩:=h
  rfl
 obtain⟨r,fr,er,ps,N,t,m,n,rfl,ok,na,nl,k⟩:=h
 refine⟨_,(@pss_cons _ _ _ _ _ (@ps_asg _ _ _ _ _ _ (@pe_ix _ _ _ _ _ _ _ ix_tup (@pe_ix _ _ _ _ _ _ _ ix_tup (@pv _ 0 _ _ (by rfl) (by first|exact Or.inl rfl|exact Or.inr (.inl rfl)|exact Or.inr (.inr rfl)) (by decide) (by decide)) pe_int (fun _ _=>rfl)) (@pv _ 3 _ _ (by rfl) (by first|exact Or.inl rfl|exact Or.inr (.inl rfl)|exact Or.inr (.inr rfl)) (by decide) (by decide)) (fun _ _=>rfl)) (@pg_tup _ _ _ _ _ _ rfl (@pgs_cons _ _ _ _ _ (@pg_name _ _ 4 _ scPa.nd rfl (.inl rfl) (by first|exact .inl rfl|exact .inr rfl|assumption)) (@pgs_cons _ _ _ _ _ (@pg_name _ _ 5 _ scPa.nd rfl (.inl rfl) (by first|exact .inl rfl|exact .inr rfl|assumption)) pgs_nil (by rfl)) (by rfl)) (by rfl) (by rfl)) (by rfl) (by rfl) (by rfl)) (@pss_cons _ _ _ _ _ (@ps_set _ _ 6 _ _ _ _ scPa.nd rfl (.inl rfl) (@pe_op _ _ _ _ _ _ _ _ op_sub (@pe_op _ _ _ _ _ _ _ _ op_fdiv (@pe_op _ _ _ _ _ _ _ _ op_add (@pe_op _ _ _ _ _ _ _ _ op_add (@pv _ 1 _ _ (by rfl) (by first|exact Or.inl rfl|exact Or.inr (.inl rfl)|exact Or.inr (.inr rfl)) (by decide) (by decide)) (@pv _ 2 _ _ (by rfl) (by first|exact Or.inl rfl|exact Or.inr (.inl rfl)|exact Or.inr (.inr rfl)) (by decide) (by decide))) pe_int) pe_int) (@pv _ 1 _ _ (by rfl) (by first|exact Or.inl rfl|exact Or.inr (.inl rfl)|exact Or.inr (.inr rfl)) (by decide) (by decide))) (by rfl) (by first|exact .inl rfl|exact .inr rfl|assumption)) (@pss_cons _ _ _ _ _ (@ps_set _ _ 7 _ _ _ _ scPa.nd rfl (.inl rfl) (@pe_tup _ _ _ _ _ (@pa_cons _ _ _ _ _ (@pe_tup _ _ _ _ _ (@pa_cons _ _ _ _ _ (@pv _ 6 _ _ (by rfl) (by first|exact Or.inl rfl|exact Or.inr (.inl rfl)|exact Or.inr (.inr rfl)) (by decide) (by decide)) (@pa_cons _ _ _ _ _ (@pv _ 4 _ _ (by rfl) (by first|exact Or.inl rfl|exact Or.inr (.inl rfl)|exact Or.inr (.inr rfl)) (by decide) (by decide)) pa_nil (by rfl)) (by rfl))) (@pa_cons _ _ _ _ _ (@pe_tup _ _ _ _ _ (@pa_cons _ _ _ _ _ (@pe_op _ _ _ _ _ _ _ _ op_sub (@pv _ 2 _ _ (by rfl) (by first|exact Or.inl rfl|exact Or.inr (.inl rfl)|exact Or.inr (.inr rfl)) (by decide) (by decide)) (@pv _ 6 _ _ (by rfl) (by first|exact Or.inl rfl|exact Or.inr (.inl rfl)|exact Or.inr (.inr rfl)) (by decide) (by decide))) (@pa_cons _ _ _ _ _ (@pv _ 5 _ _ (by rfl) (by first|exact Or.inl rfl|exact Or.inr (.inl rfl)|exact Or.inr (.inr rfl)) (by decide) (by decide)) pa_nil (by rfl)) (by rfl))) pa_nil (by rfl)) (by rfl))) (by rfl) (by first|exact .inl rfl|exact .inr rfl|assumption)) (@pss_one _ _ _ (@ps_ret _ _ _ _ (@pe_callTy _ _ _ _ _ _ _ _ _ call_tuple_of (by rfl) G.tuple (by rfl) (@pa_cons _ _ _ _ _ (@pe_lc _ _ _ _ (some _) _ _ _ (gTup K 2 (zhs (zdw 0) (zhs (zdw 1) gNil))) _ _ ["part","lane","net","number"] [none,none,some 0,some 3] rfl (@zb9 _ _ _ _ (@pv _ 7 _ _ (by rfl) (by first|exact Or.inl rfl|exact Or.inr (.inl rfl)|exact Or.inr (.inr rfl)) (by decide) (by decide))) (CapOk.of (by kernel_rfl)) (fun _ _ _ _ _=>(@pg_tup _ _ _ _ _ _ rfl (@pgs_cons _ _ _ _ _ (@pg_name _ _ 0 _ (show (["part","lane","net","number"]:List Str).Nodup from by decide +kernel) rfl (.inl rfl) (.inr rfl)) (@pgs_cons _ _ _ _ _ (@pg_name _ _ 1 _ (show (["part","lane","net","number"]:List Str).Nodup from by decide +kernel) rfl (.inl rfl) (.inr rfl)) pgs_nil (by rfl)) (by rfl)) (by rfl) (by rfl))) (fun _ _ _ _ _=>(@zju _ _ _ (@pt_cmpR _ _ _ _ _ _ _ _ zgY (@pv _ 0 _ _ (by rfl) (by first|exact Or.inl rfl|exact Or.inr (.inl rfl)|exact Or.inr (.inr rfl)) (by decide) (by decide)) pe_int (nomark _)))) (fun _ _ _ _ _=>(@pe_tup _ _ _ _ _ (@pa_cons _ _ _ _ _ (@pv _ 0 _ _ (by rfl) (by first|exact Or.inl rfl|exact Or.inr (.inl rfl)|exact Or.inr (.inr rfl)) (by decide) (by decide)) (@pa_cons _ _ _ _ _ (@pv _ 1 _ _ (by rfl) (by first|exact Or.inl rfl|exact Or.inr (.inl rfl)|exact Or.inr (.inr rfl)) (by decide) (by decide)) (@pa_cons _ _ _ _ _ (@pe_call _ _ _ _ _ _ _ _ _ _ _ _ _ _ _ _ UN.ok hr (by rfl) UN.m UN.kp UN.b .nil pass0 (@pa_cons _ _ _ _ _ (@pv _ 2 _ _ (by rfl) (by first|exact Or.inl rfl|exact Or.inr (.inl rfl)|exact Or.inr (.inr rfl)) (by decide) (by decide)) (@pa_cons _ _ _ _ _ (@pv _ 1 _ _ (by rfl) (by first|exact Or.inl rfl|exact Or.inr (.inl rfl)|exact Or.inr (.inr rfl)) (by decide) (by decide)) (@pa_cons _ _ _ _ _ (@pe_op _ _ _ _ _ _ _ _ op_add (@pv _ 3 _ _ (by rfl) (by first|exact Or.inl rfl|exact Or.inr (.inl rfl)|exact Or.inr (.inr rfl)) (by decide) (by decide)) pe_int) pa_nil (by rfl)) (by rfl)) (by rfl)) (by decide) (by rfl) (by rfl)) pa_nil (by rfl)) (by rfl)) (by rfl)))) (by intro _;rfl)) pa_nil (by rfl)) (by decide) (by decide) (by rfl) (by rfl))))))),?_⟩
 have pl:=na.prs.len
 have nl':n<ps.length:=by lia
 obtain⟨fa,g,efa,eg,hga⟩:=na.prs.get (List.getElem?_eq_getElem nl')
 have eat:atI ps ((n:Nat):Int)=some (.ref fa):=zaB (by rw[List.getElem?_eq_getElem nl',efa])
 refine⟨_,rfl,r,_,_,_,rfl,rfl,SqT.of na.net,rfl,_,rfl,fr,_,_,_,rfl,rfl,SqT.of na.forks,eat,fa,_,rfl,SqT.of hga,rfl,_,_,rfl,_,_,rfl,rfl,?_⟩
 refine⟨_,rfl,_,rfl,_,_,rfl,rfl,_,_,rfl,rfl,_,_,rfl,rfl,⟨by decide,by decide⟩,_,rfl,_,_,rfl,rfl,?_⟩
 dsimp only
 generalize hoo:((t+m+1) / 2-t)=oo
 refine⟨_,rfl,_,rfl,(by show 2≤sizeLine;decide),fun t1 h1=>?_⟩
 have s1:=zaa h1 (.tup [.int oo,.int g.1])
 refine⟨_,rfl,_,rfl,_,_,rfl,rfl,_,rfl,(by show 2≤sizeLine;decide),fun t2 h2=>?_⟩
 have s2:=zaa h2 (.tup [.int (m-oo),.int g.2])
 refine⟨(by show 2≤sizeLine;decide),fun t3 h3=>?_⟩
 have s3:=zaa h3 (.tup [.ref t1,.ref t2])
 have s13:=(s1.trans s2).trans s3
 have e1:=(s2.trans s3) _ _ (show L2.upd H t1 (.tup [.int oo,.int g.1]) t1=_ from zab)
 have e2:=s3 _ _ (show L2.upd (L2.upd H t1 (.tup [.int oo,.int g.1])) t2 (.tup [.int (m-oo),.int g.2]) t2=_ from zab)
 have e3:L2.upd (L2.upd (L2.upd H t1 (.tup [.int oo,.int g.1])) t2 (.tup [.int (m-oo),.int g.2])) t3 (.tup [.ref t1,.ref t2]) t3=some (.tup [.ref t1,.ref t2]):=zab
 have na3:=na.tups (Tups.of s13)
 dsimp only
 generalize L2.upd (L2.upd (L2.upd H t1 (.tup [.int oo,.int g.1])) t2 (.tup [.int (m-oo),.int g.2])) t3 (.tup [.ref t1,.ref t2])=H3 at *
 refine⟨_,rfl,t3,rfl,⟨_,SqT.of e3⟩,fun lq hlq=>?_⟩
 refine zjW (K:=K) (a:=t3) (xs:=[.ref t1,.ref t2]) (fun i acc σ H4=>(∃ v0 v1,σ=[v0,v1,some (.ref r),some (.int n)])∧Same H3 H4∧H4 lq=some (.lst acc)∧∃ k1 k2,(1≤i→IsNext N.forks g.1 (n+1) k1)∧(2≤i→IsNext N.forks g.2 (n+1) k2)∧∃ gs,Grs H4 acc gs∧acc.length≤i∧gs=(if 1≤i then part oo g.1 k1 else [])++(if 2≤i then part (m-oo) g.2 k2 else [])) ⟨⟨_,_,rfl⟩,zaa hlq _,zab,0,0,fun h=>absurd h (by decide),fun h=>absurd h (by decide),[],trivial,Nat.le_refl _,rfl⟩ (fun i acc σ H4 q=>⟨q.2.2.1,SqT.of (q.2.1 _ _ e3)⟩) ?_ ?_
 ·rintro i x acc σ H4 hx ⟨⟨v0,v1,rfl⟩,s4,h4,k1,k2,n1,n2,gs,gr,al,egs⟩
  have il:i<2:=by have:=(List.getElem?_eq_some_iff.mp hx).1;simpa using this
  obtain⟨ta,mm,lane,rfl,hta,hlane⟩:∃ (ta:Addr) (mm:Int) (lane:Nat),x=.ref ta∧H4 ta=some (.tup [.int mm,.int lane])∧((i=0∧mm=oo∧lane=g.1)∨(i=1∧mm=m-oo∧lane=g.2)):=by
   rcases i with _|_|i
   ·obtain rfl:=Option.some.inj hx
    exact⟨t1,oo,g.1,rfl,s4 _ _ e1,.inl ⟨rfl,rfl,rfl⟩⟩
   ·obtain rfl:=Option.some.inj hx
    exact⟨t2,m-oo,g.2,rfl,s4 _ _ e2,.inr ⟨rfl,rfl,rfl⟩⟩
   ·lia
  have put:∀ (kk:Nat) (H5:Hp) (acc':List V),IsNext N.forks lane (n+1) kk→acc'.length≤i+1→(∃ gs',Grs H5 acc' gs'∧gs'=gs++part mm lane kk)→∃ k1 k2,(1≤i+1→IsNext N.forks g.1 (n+1) k1)∧(2≤i+1→IsNext N.forks g.2 (n+1) k2)∧∃ gs,Grs H5 acc' gs∧acc'.length≤i+1∧gs=(if 1≤i+1 then part oo g.1 k1 else [])++(if 2≤i+1 then part (m-oo) g.2 k2 else []):=by
   rintro kk H5 acc' hk al' ⟨gs',gr',rfl⟩
   rcases hlane with ⟨rfl,rfl,rfl⟩|⟨rfl,rfl,rfl⟩
   ·refine⟨kk,0,fun _=>hk,fun h=>absurd h (by decide),_,gr',al',?_⟩
    rw[egs];simp
   ·refine⟨k1,kk,fun _=>n1 (by decide),fun _=>hk,_,gr',al',?_⟩
    rw[egs];simp
  refine⟨ta,_,rfl,SqT.of hta,rfl,_,_,rfl,_,_,rfl,rfl,?_⟩
  refine⟨_,rfl,rfl,_,rfl,?_⟩
  obtain⟨kk,hk⟩:=zjQ N.forks lane (n+1) (by lia)
  by_cases z:mm=0
  ·rw[show (!decide (V.int mm=V.int 0))=false from by rw[decide_eq_true (by rw[z])];rfl]
   exact iteF (nx (by show i<2;exact il) ⟨⟨_,_,rfl⟩,s4,h4,put kk H4 acc hk (by lia) ⟨gs,gr,by unfold part;rw[if_pos z,List.append_nil]⟩⟩)
  ·rw[show (!decide (V.int mm=V.int 0))=true from by rw[decide_eq_false (fun y=>z (V.int.inj y))];rfl]
   refine iteT ⟨_,rfl,_,rfl,_,rfl,_,rfl,_,rfl,_,_,rfl,rfl,r,fr,er,ps,N,lane,n+1,rfl,ok,na3.tups (Tups.of s4),by lia,fun k' hk'=>?_⟩
   refine⟨(by show 3≤sizeLine;decide),fun t5 h5=>?_⟩
   have s5:=zaa h5 (.tup [.int mm,.int lane,.int k'])
   have h5':=s5 _ _ h4
   refine⟨h5',Nat.lt_of_lt_of_le (show acc.length<1000 by lia) (by decide),nx (by show i<2;exact il) ⟨⟨_,_,rfl⟩,fun b o e=>?_,zab,put k' _ _ hk' (by rw[List.length_append];show _+1≤_;lia) ⟨gs++[⟨mm,lane,k'⟩],?_,by unfold part;rw[if_neg z]⟩⟩⟩
   ·rw[zae (zac e hlq)];exact s5 _ _ (s4 b o e)
   ·exact(((gr.tups (Tups.of s5)).app (Grs.one (g:=⟨mm,lane,k'⟩) zab)).tups (Tups.lst h5'))
 ·rintro acc σ H4 ⟨⟨v0,v1,rfl⟩,s4,h4,k1,k2,n1,n2,gs,gr,al,egs⟩
  refine⟨lq,_,rfl,.inl ⟨SqL.of h4,fun p hp=>?_⟩⟩
  have s5:=zaa hp (.tup acc)
  refine k p acc gs _ ⟨g,k1,k2,eg,n1 (by show 1≤2;decide),n2 (by show 2≤2;decide),?_⟩ ((s13.trans s4).trans s5) zab (gr.tups (Tups.of s5))
  rw[egs,hoo];simp
theorem scSt:FnScope ["net","scene","place","turns","groups","out","many","lane","number","left","parts","turn"] ["net","scene","place"] (zad zdm):=⟨rfl,rfl,rfl,by decide +kernel,rfl,by decide +kernel,by decide +kernel⟩
theorem zfL {f fA fE fP fG:Addr}{fd dA dE dP dG:FuncData}(F:Fun K "stepped" "stepped" zdm f fd) (G:Mgs mg) (UA:Use P w K mg base "added" ["counts","place","many"] 2 zer fA dA) (UE:Use P w K mg base "end_of" ["net","lane"] 1 zhT fE dE) (UP:Use P w K mg base "parted" ["net","turn","many","number"] 2 zdf fP dP) (UG:Use P w K mg base "given_at" ["row","place","value"] 1 zdk fG dG):FnOk P w K mg base CX0 3 f fd ["net","scene","place"] zcv:=by
 refine F.ok scSt (fun vs H Q E h=>?_) (fun cdv A outer s H vs Q E hr h=>?_)
 ·obtain⟨r,fr,er,ps,N,sc,tr,gr,ou,qs,ts,gs,os,place,rfl,_⟩:=h
  rfl
 obtain⟨r,fr,er,ps,N,sc,tr,gr,ou,qs,ts,gs,os,place,rfl,ok,na,sa,pl,gl,tl,ol,gok,k⟩:=h
 have hr1:Room 1 _:=hr.mono (by decide)
 refine⟨_,(@pss_cons _ _ _ _ _ (@ps_asg _ _ _ _ _ _ (@pv _ 1 _ _ (by rfl) (by first|exact Or.inl rfl|exact Or.inr (.inl rfl)|exact Or.inr (.inr rfl)) (by decide) (by decide)) (@pg_tup _ _ _ _ _ _ rfl (@pgs_cons _ _ _ _ _ (@pg_name _ _ 3 _ scSt.nd rfl (.inl rfl) (by first|exact .inl rfl|exact .inr rfl|assumption)) (@pgs_cons _ _ _ _ _ (@pg_name _ _ 4 _ scSt.nd rfl (.inl rfl) (by first|exact .inl rfl|exact .inr rfl|assumption)) (@pgs_cons _ _ _ _ _ (@pg_name _ _ 5 _ scSt.nd rfl (.inl rfl) (by first|exact .inl rfl|exact .inr rfl|assumption)) pgs_nil (by rfl)) (by rfl)) (by rfl)) (by rfl) (by rfl)) (by rfl) (by rfl) (by rfl)) (@pss_cons _ _ _ _ _ (@ps_if _ _ _ _ _ _ _ _ (@pt_cmpR _ _ _ _ _ _ _ _ zh4 (@pv _ 2 _ _ (by rfl) (by first|exact Or.inl rfl|exact Or.inr (.inl rfl)|exact Or.inr (.inr rfl)) (by decide) (by decide)) (@pe_callB _ _ _ _ _ _ _ _ _ call_len_seq (by rfl) G.len PySem.boot_len (@pa_cons _ _ _ _ _ (@pv _ 4 _ _ (by rfl) (by first|exact Or.inl rfl|exact Or.inr (.inl rfl)|exact Or.inr (.inr rfl)) (by decide) (by decide)) pa_nil (by rfl)) (by decide) (by decide) (by rfl) (by rfl)) (nomark _)) (@pss_one _ _ _ zdq) pss_nil) (@pss_cons _ _ _ _ _ (@ps_asg _ _ _ _ _ _ (@pe_ix _ _ _ _ _ _ _ ix_tup (@pv _ 4 _ _ (by rfl) (by first|exact Or.inl rfl|exact Or.inr (.inl rfl)|exact Or.inr (.inr rfl)) (by decide) (by decide)) (@pv _ 2 _ _ (by rfl) (by first|exact Or.inl rfl|exact Or.inr (.inl rfl)|exact Or.inr (.inr rfl)) (by decide) (by decide)) (fun _ _=>rfl)) (@pg_tup _ _ _ _ _ _ rfl (@pgs_cons _ _ _ _ _ (@pg_name _ _ 6 _ scSt.nd rfl (.inl rfl) (by first|exact .inl rfl|exact .inr rfl|assumption)) (@pgs_cons _ _ _ _ _ (@pg_name _ _ 7 _ scSt.nd rfl (.inl rfl) (by first|exact .inl rfl|exact .inr rfl|assumption)) (@pgs_cons _ _ _ _ _ (@pg_name _ _ 8 _ scSt.nd rfl (.inl rfl) (by first|exact .inl rfl|exact .inr rfl|assumption)) pgs_nil (by rfl)) (by rfl)) (by rfl)) (by rfl) (by rfl)) (by rfl) (by rfl) (by rfl)) (@pss_cons _ _ _ _ _ (@ps_if _ _ _ _ _ _ _ _ (@pt_cmpR _ _ _ _ _ _ _ _ op_eq (@pv _ 8 _ _ (by rfl) (by first|exact Or.inl rfl|exact Or.inr (.inl rfl)|exact Or.inr (.inr rfl)) (by decide) (by decide)) (@pe_callB _ _ _ _ _ _ _ _ _ call_len_seq (by rfl) G.len PySem.boot_len (@pa_cons _ _ _ _ _ (@pe_ix _ _ _ _ _ _ _ ix_tup (@pv _ 0 _ _ (by rfl) (by first|exact Or.inl rfl|exact Or.inr (.inl rfl)|exact Or.inr (.inr rfl)) (by decide) (by decide)) pe_int (fun _ _=>rfl)) pa_nil (by rfl)) (by decide) (by decide) (by rfl) (by rfl)) (nomark _)) (@pss_cons _ _ _ _ _ (@ps_set _ _ 9 _ _ _ _ scSt.nd rfl (.inl rfl) (@pe_op _ _ _ _ _ _ _ _ za7 (@zan _ _ _ _ _ _ _ _ _ _ zaP (@pv _ 4 _ _ (by rfl) (by first|exact Or.inl rfl|exact Or.inr (.inl rfl)|exact Or.inr (.inr rfl)) (by decide) (by decide)) zas (@zak _ _ _ (@pv _ 2 _ _ (by rfl) (by first|exact Or.inl rfl|exact Or.inr (.inl rfl)|exact Or.inr (.inr rfl)) (by decide) (by decide)))) (@zan _ _ _ _ _ _ _ _ _ _ zaP (@pv _ 4 _ _ (by rfl) (by first|exact Or.inl rfl|exact Or.inr (.inl rfl)|exact Or.inr (.inr rfl)) (by decide) (by decide)) (@zak _ _ _ (@pe_op _ _ _ _ _ _ _ _ op_add (@pv _ 2 _ _ (by rfl) (by first|exact Or.inl rfl|exact Or.inr (.inl rfl)|exact Or.inr (.inr rfl)) (by decide) (by decide)) pe_int)) zas)) (by rfl) (by first|exact .inl rfl|exact .inr rfl|assumption)) (@pss_one _ _ _ (@ps_ret _ _ _ _ (@pe_tup _ _ _ _ _ (@pa_cons _ _ _ _ _ (@pv _ 3 _ _ (by rfl) (by first|exact Or.inl rfl|exact Or.inr (.inl rfl)|exact Or.inr (.inr rfl)) (by decide) (by decide)) (@pa_cons _ _ _ _ _ (@pv _ 9 _ _ (by rfl) (by first|exact Or.inl rfl|exact Or.inr (.inl rfl)|exact Or.inr (.inr rfl)) (by decide) (by decide)) (@pa_cons _ _ _ _ _ (@pe_call _ _ _ _ _ _ _ _ _ _ _ _ _ _ _ _ UA.ok hr (by rfl) UA.m UA.kp UA.b .nil pass0 (@pa_cons _ _ _ _ _ (@pv _ 5 _ _ (by rfl) (by first|exact Or.inl rfl|exact Or.inr (.inl rfl)|exact Or.inr (.inr rfl)) (by decide) (by decide)) (@pa_cons _ _ _ _ _ (@pe_call _ _ _ _ _ _ _ _ _ _ _ _ _ _ _ _ UE.ok hr1 (by rfl) UE.m UE.kp UE.b .nil pass0 (@pa_cons _ _ _ _ _ (@pv _ 0 _ _ (by rfl) (by first|exact Or.inl rfl|exact Or.inr (.inl rfl)|exact Or.inr (.inr rfl)) (by decide) (by decide)) (@pa_cons _ _ _ _ _ (@pv _ 7 _ _ (by rfl) (by first|exact Or.inl rfl|exact Or.inr (.inl rfl)|exact Or.inr (.inr rfl)) (by decide) (by decide)) pa_nil (by rfl)) (by rfl)) (by decide) (by rfl) (by rfl)) (@pa_cons _ _ _ _ _ (@pv _ 6 _ _ (by rfl) (by first|exact Or.inl rfl|exact Or.inr (.inl rfl)|exact Or.inr (.inr rfl)) (by decide) (by decide)) pa_nil (by rfl)) (by rfl)) (by rfl)) (by decide) (by rfl) (by rfl)) pa_nil (by rfl)) (by rfl)) (by rfl)))))) pss_nil) (@pss_cons _ _ _ _ _ (@ps_set _ _ 10 _ _ _ _ scSt.nd rfl (.inl rfl) (@pe_call _ _ _ _ _ _ _ _ _ _ _ _ _ _ _ _ UP.ok hr (by rfl) UP.m UP.kp UP.b .nil pass0 (@pa_cons _ _ _ _ _ (@pv _ 0 _ _ (by rfl) (by first|exact Or.inl rfl|exact Or.inr (.inl rfl)|exact Or.inr (.inr rfl)) (by decide) (by decide)) (@pa_cons _ _ _ _ _ (@pe_ix _ _ _ _ _ _ _ ix_tup (@pv _ 3 _ _ (by rfl) (by first|exact Or.inl rfl|exact Or.inr (.inl rfl)|exact Or.inr (.inr rfl)) (by decide) (by decide)) (@pv _ 8 _ _ (by rfl) (by first|exact Or.inl rfl|exact Or.inr (.inl rfl)|exact Or.inr (.inr rfl)) (by decide) (by decide)) (fun _ _=>rfl)) (@pa_cons _ _ _ _ _ (@pv _ 6 _ _ (by rfl) (by first|exact Or.inl rfl|exact Or.inr (.inl rfl)|exact Or.inr (.inr rfl)) (by decide) (by decide)) (@pa_cons _ _ _ _ _ (@pv _ 8 _ _ (by rfl) (by first|exact Or.inl rfl|exact Or.inr (.inl rfl)|exact Or.inr (.inr rfl)) (by decide) (by decide)) pa_nil (by rfl)) (by rfl)) (by rfl)) (by rfl)) (by decide) (by rfl) (by rfl)) (by rfl) (by first|exact .inl rfl|exact .inr rfl|assumption)) (@pss_cons _ _ _ _ _ (@ps_set _ _ 11 _ _ _ _ scSt.nd rfl (.inl rfl) (@pe_op _ _ _ _ _ _ _ _ op_mod (@pe_op _ _ _ _ _ _ _ _ op_add (@pe_ix _ _ _ _ _ _ _ ix_tup (@pv _ 3 _ _ (by rfl) (by first|exact Or.inl rfl|exact Or.inr (.inl rfl)|exact Or.inr (.inr rfl)) (by decide) (by decide)) (@pv _ 8 _ _ (by rfl) (by first|exact Or.inl rfl|exact Or.inr (.inl rfl)|exact Or.inr (.inr rfl)) (by decide) (by decide)) (fun _ _=>rfl)) (@pv _ 6 _ _ (by rfl) (by first|exact Or.inl rfl|exact Or.inr (.inl rfl)|exact Or.inr (.inr rfl)) (by decide) (by decide))) pe_int) (by rfl) (by first|exact .inl rfl|exact .inr rfl|assumption)) (@pss_one _ _ _ (@ps_ret _ _ _ _ (@pe_tup _ _ _ _ _ (@pa_cons _ _ _ _ _ (@pe_call _ _ _ _ _ _ _ _ _ _ _ _ _ _ _ _ UG.ok hr1 (by rfl) UG.m UG.kp UG.b .nil pass0 (@pa_cons _ _ _ _ _ (@pv _ 3 _ _ (by rfl) (by first|exact Or.inl rfl|exact Or.inr (.inl rfl)|exact Or.inr (.inr rfl)) (by decide) (by decide)) (@pa_cons _ _ _ _ _ (@pv _ 8 _ _ (by rfl) (by first|exact Or.inl rfl|exact Or.inr (.inl rfl)|exact Or.inr (.inr rfl)) (by decide) (by decide)) (@pa_cons _ _ _ _ _ (@pv _ 11 _ _ (by rfl) (by first|exact Or.inl rfl|exact Or.inr (.inl rfl)|exact Or.inr (.inr rfl)) (by decide) (by decide)) pa_nil (by rfl)) (by rfl)) (by rfl)) (by decide) (by rfl) (by rfl)) (@pa_cons _ _ _ _ _ (@pe_op _ _ _ _ _ _ _ _ za7 (@pe_op _ _ _ _ _ _ _ _ za7 (@zan _ _ _ _ _ _ _ _ _ _ zaP (@pv _ 4 _ _ (by rfl) (by first|exact Or.inl rfl|exact Or.inr (.inl rfl)|exact Or.inr (.inr rfl)) (by decide) (by decide)) zas (@zak _ _ _ (@pv _ 2 _ _ (by rfl) (by first|exact Or.inl rfl|exact Or.inr (.inl rfl)|exact Or.inr (.inr rfl)) (by decide) (by decide)))) (@pv _ 10 _ _ (by rfl) (by first|exact Or.inl rfl|exact Or.inr (.inl rfl)|exact Or.inr (.inr rfl)) (by decide) (by decide))) (@zan _ _ _ _ _ _ _ _ _ _ zaP (@pv _ 4 _ _ (by rfl) (by first|exact Or.inl rfl|exact Or.inr (.inl rfl)|exact Or.inr (.inr rfl)) (by decide) (by decide)) (@zak _ _ _ (@pe_op _ _ _ _ _ _ _ _ op_add (@pv _ 2 _ _ (by rfl) (by first|exact Or.inl rfl|exact Or.inr (.inl rfl)|exact Or.inr (.inr rfl)) (by decide) (by decide)) pe_int)) zas)) (@pa_cons _ _ _ _ _ (@pv _ 5 _ _ (by rfl) (by first|exact Or.inl rfl|exact Or.inr (.inl rfl)|exact Or.inr (.inr rfl)) (by decide) (by decide)) pa_nil (by rfl)) (by rfl)) (by rfl))))))))))),?_⟩
 have ql:=sa.grs.len
 have fl:=na.prs.len
 have fm:=ok.fm
 have l16:=ok.l16
 have pl':place<qs.length:=by lia
 obtain⟨ga,g,ega,eg,hga⟩:=sa.grs.get (List.getElem?_eq_getElem pl')
 have eat:atI qs ((place:Nat):Int)=some (.ref ga):=zaB (by rw[List.getElem?_eq_getElem pl',ega])
 obtain⟨gln,gfk⟩:=gok g (List.mem_of_getElem? eg)
 refine⟨_,rfl,sc,_,rfl,SqT.of sa.sc,rfl,_,_,rfl,_,_,rfl,_,_,rfl,rfl,?_⟩
 refine⟨_,rfl,_,rfl,gr,_,rfl,.inr (SqT.of sa.gr),_,_,rfl,rfl,_,rfl,?_⟩
 rw[decide_eq_false (show ¬ _ from by lia)]
 refine iteF ⟨_,rfl,_,rfl,gr,_,_,_,rfl,rfl,SqT.of sa.gr,eat,ga,_,rfl,SqT.of hga,rfl,_,_,rfl,_,_,rfl,_,_,rfl,rfl,?_⟩
 refine⟨_,rfl,_,rfl,r,_,_,_,rfl,rfl,SqT.of na.net,rfl,fr,_,rfl,.inr (SqT.of na.forks),rfl,_,rfl,?_⟩
 by_cases z:g.fork=N.forks.length
 ·rw[show decide (V.int (g.fork:Int)=V.int (ps.length:Int))=true from decide_eq_true (by rw[fl,z])]
  refine iteT ⟨_,rfl,_,rfl,_,rfl,gr,_,rfl,sa.gr,fun p1 H1 s1 h1=>?_⟩
  rw[zaY _ place (by lia)]at h1
  refine⟨_,rfl,_,rfl,_,_,rfl,rfl,_,rfl,gr,_,rfl,s1 _ _ sa.gr,fun p2 H2 s2 h2=>?_⟩
  rw[show ((place:Int)+1)=((place+1:Nat):Int) from rfl,zaZ _ (place+1) (by lia)]at h2
  refine⟨p1,p2,_,_,rfl,rfl,s2 _ _ h1,h2,?_,fun p3 H3 s3 h3=>?_⟩
  ·rw[List.length_take,List.length_drop,sizeLine_eq];lia
  have u3:=(s1.trans s2).trans s3
  refine⟨_,rfl,_,rfl,_,rfl,_,rfl,_,rfl,r,fr,er,ps,N,g.lane,rfl,ok,na.tups (Tups.of u3),gln,?_⟩
  have il:N.ends.idxOf g.lane<os.length:=by
   rw[ol,← zdx ok]
   exact List.idxOf_lt_length_of_mem (ok.en.mem_iff.mpr (List.mem_range.mpr gln))
  refine⟨_,rfl,ou,os,_,_,rfl,u3 _ _ sa.ou,il,by lia,fun p4 H4 s4 h4=>?_⟩
  refine⟨(by show 3≤sizeLine;decide),fun sc' h5=>?_⟩
  have s5:=zaa h5 (.tup [.ref tr,.ref p3,.ref p4])
  have u5:=(u3.trans s4).trans s5
  have sa5:=sa.tups (Tups.of u5)
  exact k sc' tr p3 p4 _ ts _ _ _ ⟨g,eg,.inl ⟨z,rfl,rfl,rfl⟩⟩ u5 ⟨zab,sa5.tr,(s4.trans s5) _ _ h3,(sa5.grs.take place).app (sa5.grs.drop (place+1)),s5 _ _ h4⟩
 ·rw[show decide (V.int (g.fork:Int)=V.int (ps.length:Int))=false from decide_eq_false (by intro y;have:=V.int.inj y;lia)]
  have gf:g.fork<N.forks.length:=by lia
  refine iteF ⟨_,rfl,_,rfl,_,rfl,tr,_,_,_,rfl,rfl,SqT.of sa.tr,zbw (by lia),_,rfl,_,rfl,r,fr,er,ps,N,_,_,_,rfl,ok,na,gf,fun p1 ms' ms H1 pt s1 h1 gr1=>?_⟩
  refine⟨_,rfl,_,rfl,tr,_,_,_,rfl,rfl,SqT.of (s1 _ _ sa.tr),zbw (by lia),_,rfl,_,_,rfl,rfl,_,_,rfl,rfl,(by show (0:Int)<2;decide),?_⟩
  refine⟨_,rfl,_,rfl,_,rfl,tr,ts,_,_,rfl,s1 _ _ sa.tr,by lia,by lia,fun p2 H2 s2 h2=>?_⟩
  have u2:=s1.trans s2
  refine⟨_,rfl,_,rfl,_,rfl,gr,_,rfl,u2 _ _ sa.gr,fun p3 H3 s3 h3=>?_⟩
  rw[zaY _ place (by lia)]at h3
  have ml:ms'.length≤2:=by rw[gr1.len];exact pt.len
  refine⟨_,rfl,p3,p1,_,_,rfl,rfl,h3,(s2.trans s3) _ _ h1,?_,fun p4 H4 s4 h4=>?_⟩
  ·rw[List.length_take,sizeLine_eq];lia
  have u4:=(u2.trans s3).trans s4
  refine⟨_,rfl,_,rfl,_,_,rfl,rfl,_,rfl,gr,_,rfl,u4 _ _ sa.gr,fun p5 H5 s5 h5=>?_⟩
  rw[show ((place:Int)+1)=((place+1:Nat):Int) from rfl,zaZ _ (place+1) (by lia)]at h5
  refine⟨p4,p5,_,_,rfl,rfl,s5 _ _ h4,h5,?_,fun p6 H6 s6 h6=>?_⟩
  ·rw[List.length_append,List.length_take,List.length_drop,sizeLine_eq];lia
  refine⟨_,rfl,(by show 3≤sizeLine;decide),fun sc' h7=>?_⟩
  have s7:=zaa h7 (.tup [.ref p2,.ref p6,.ref ou])
  have u7:=((u4.trans s5).trans s6).trans s7
  have sa7:=sa.tups (Tups.of u7)
  have t7:=((s3.trans s4).trans (s5.trans s6)).trans s7
  exact k sc' p2 p6 ou _ _ _ os _ ⟨g,eg,.inr ⟨gf,rfl,rfl,ms,pt,rfl⟩⟩ u7 ⟨zab,t7 _ _ h2,s7 _ _ h6,((sa7.grs.take place).app (gr1.tups (Tups.of (s2.trans t7)))).app (sa7.grs.drop (place+1)),sa7.ou⟩
theorem scJo:FnScope ["scene","first","second","turns","groups","out","many","lane","number","more","other_lane","other_number","whole"] ["scene","first","second"] (zad zeA):=⟨rfl,rfl,rfl,by decide +kernel,rfl,by decide +kernel,by decide +kernel⟩
theorem zg8 {f:Addr}{fd:FuncData}(F:Fun K "joined" "joined" zeA f fd) (G:Mgs mg):FnOk P w K mg base CX0 1 f fd ["scene","first","second"] zdj:=by
 refine F.ok scJo (fun vs H Q E h=>?_) (fun cdv A outer s H vs Q E hr h=>?_)
 ·obtain⟨sc,tr,gr,ou,qs,ts,gs,os,first,second,rfl,_⟩:=h
  rfl
 obtain⟨sc,tr,gr,ou,qs,ts,gs,os,first,second,rfl,sa,fs,sl,gl,same,k⟩:=h
 refine⟨_,(@pss_cons _ _ _ _ _ (@ps_asg _ _ _ _ _ _ (@pv _ 0 _ _ (by rfl) (by first|exact Or.inl rfl|exact Or.inr (.inl rfl)|exact Or.inr (.inr rfl)) (by decide) (by decide)) (@pg_tup _ _ _ _ _ _ rfl (@pgs_cons _ _ _ _ _ (@pg_name _ _ 3 _ scJo.nd rfl (.inl rfl) (by first|exact .inl rfl|exact .inr rfl|assumption)) (@pgs_cons _ _ _ _ _ (@pg_name _ _ 4 _ scJo.nd rfl (.inl rfl) (by first|exact .inl rfl|exact .inr rfl|assumption)) (@pgs_cons _ _ _ _ _ (@pg_name _ _ 5 _ scJo.nd rfl (.inl rfl) (by first|exact .inl rfl|exact .inr rfl|assumption)) pgs_nil (by rfl)) (by rfl)) (by rfl)) (by rfl) (by rfl)) (by rfl) (by rfl) (by rfl)) (@pss_cons _ _ _ _ _ (@ps_if _ _ _ _ _ _ _ _ (@pt_cmpR _ _ _ _ _ _ _ _ zh4 (@pv _ 2 _ _ (by rfl) (by first|exact Or.inl rfl|exact Or.inr (.inl rfl)|exact Or.inr (.inr rfl)) (by decide) (by decide)) (@pe_callB _ _ _ _ _ _ _ _ _ call_len_seq (by rfl) G.len PySem.boot_len (@pa_cons _ _ _ _ _ (@pv _ 4 _ _ (by rfl) (by first|exact Or.inl rfl|exact Or.inr (.inl rfl)|exact Or.inr (.inr rfl)) (by decide) (by decide)) pa_nil (by rfl)) (by decide) (by decide) (by rfl) (by rfl)) (nomark _)) (@pss_one _ _ _ zdq) pss_nil) (@pss_cons _ _ _ _ _ (@ps_asg _ _ _ _ _ _ (@pe_ix _ _ _ _ _ _ _ ix_tup (@pv _ 4 _ _ (by rfl) (by first|exact Or.inl rfl|exact Or.inr (.inl rfl)|exact Or.inr (.inr rfl)) (by decide) (by decide)) (@pv _ 1 _ _ (by rfl) (by first|exact Or.inl rfl|exact Or.inr (.inl rfl)|exact Or.inr (.inr rfl)) (by decide) (by decide)) (fun _ _=>rfl)) (@pg_tup _ _ _ _ _ _ rfl (@pgs_cons _ _ _ _ _ (@pg_name _ _ 6 _ scJo.nd rfl (.inl rfl) (by first|exact .inl rfl|exact .inr rfl|assumption)) (@pgs_cons _ _ _ _ _ (@pg_name _ _ 7 _ scJo.nd rfl (.inl rfl) (by first|exact .inl rfl|exact .inr rfl|assumption)) (@pgs_cons _ _ _ _ _ (@pg_name _ _ 8 _ scJo.nd rfl (.inl rfl) (by first|exact .inl rfl|exact .inr rfl|assumption)) pgs_nil (by rfl)) (by rfl)) (by rfl)) (by rfl) (by rfl)) (by rfl) (by rfl) (by rfl)) (@pss_cons _ _ _ _ _ (@ps_asg _ _ _ _ _ _ (@pe_ix _ _ _ _ _ _ _ ix_tup (@pv _ 4 _ _ (by rfl) (by first|exact Or.inl rfl|exact Or.inr (.inl rfl)|exact Or.inr (.inr rfl)) (by decide) (by decide)) (@pv _ 2 _ _ (by rfl) (by first|exact Or.inl rfl|exact Or.inr (.inl rfl)|exact Or.inr (.inr rfl)) (by decide) (by decide)) (fun _ _=>rfl)) (@pg_tup _ _ _ _ _ _ rfl (@pgs_cons _ _ _ _ _ (@pg_name _ _ 9 _ scJo.nd rfl (.inl rfl) (by first|exact .inl rfl|exact .inr rfl|assumption)) (@pgs_cons _ _ _ _ _ (@pg_name _ _ 10 _ scJo.nd rfl (.inl rfl) (by first|exact .inl rfl|exact .inr rfl|assumption)) (@pgs_cons _ _ _ _ _ (@pg_name _ _ 11 _ scJo.nd rfl (.inl rfl) (by first|exact .inl rfl|exact .inr rfl|assumption)) pgs_nil (by rfl)) (by rfl)) (by rfl)) (by rfl) (by rfl)) (by rfl) (by rfl) (by rfl)) (@pss_cons _ _ _ _ _ (@ps_if _ _ _ _ _ _ _ _ (@pw_or _ _ _ _ _ _ _ (@pt_cmpR _ _ _ _ _ _ _ _ zgY (@pv _ 7 _ _ (by rfl) (by first|exact Or.inl rfl|exact Or.inr (.inl rfl)|exact Or.inr (.inr rfl)) (by decide) (by decide)) (@pv _ 10 _ _ (by rfl) (by first|exact Or.inl rfl|exact Or.inr (.inl rfl)|exact Or.inr (.inr rfl)) (by decide) (by decide)) (nomark _)) (@pw_or1 _ _ _ _ (@pt_cmpR _ _ _ _ _ _ _ _ zgY (@pv _ 8 _ _ (by rfl) (by first|exact Or.inl rfl|exact Or.inr (.inl rfl)|exact Or.inr (.inr rfl)) (by decide) (by decide)) (@pv _ 11 _ _ (by rfl) (by first|exact Or.inl rfl|exact Or.inr (.inl rfl)|exact Or.inr (.inr rfl)) (by decide) (by decide)) (nomark _)))).pt (@pss_one _ _ _ zdq) pss_nil) (@pss_cons _ _ _ _ _ (@ps_set _ _ 12 _ _ _ _ scJo.nd rfl (.inl rfl) (@pe_ifExp _ _ _ _ _ _ _ _ (@pt_cmpR _ _ _ _ _ _ _ _ zgY (@pe_op _ _ _ _ _ _ _ _ op_add (@pv _ 6 _ _ (by rfl) (by first|exact Or.inl rfl|exact Or.inr (.inl rfl)|exact Or.inr (.inr rfl)) (by decide) (by decide)) (@pv _ 9 _ _ (by rfl) (by first|exact Or.inl rfl|exact Or.inr (.inl rfl)|exact Or.inr (.inr rfl)) (by decide) (by decide))) pe_int (nomark _)) (@pe_tup _ _ _ _ _ (@pa_cons _ _ _ _ _ (@pe_tup _ _ _ _ _ (@pa_cons _ _ _ _ _ (@pe_op _ _ _ _ _ _ _ _ op_add (@pv _ 6 _ _ (by rfl) (by first|exact Or.inl rfl|exact Or.inr (.inl rfl)|exact Or.inr (.inr rfl)) (by decide) (by decide)) (@pv _ 9 _ _ (by rfl) (by first|exact Or.inl rfl|exact Or.inr (.inl rfl)|exact Or.inr (.inr rfl)) (by decide) (by decide))) (@pa_cons _ _ _ _ _ (@pv _ 7 _ _ (by rfl) (by first|exact Or.inl rfl|exact Or.inr (.inl rfl)|exact Or.inr (.inr rfl)) (by decide) (by decide)) (@pa_cons _ _ _ _ _ (@pv _ 8 _ _ (by rfl) (by first|exact Or.inl rfl|exact Or.inr (.inl rfl)|exact Or.inr (.inr rfl)) (by decide) (by decide)) pa_nil (by rfl)) (by rfl)) (by rfl))) pa_nil (by rfl))) (@pe_tup _ _ _ _ _ pa_nil)) (by rfl) (by first|exact .inl rfl|exact .inr rfl|assumption)) (@pss_one _ _ _ (@ps_ret _ _ _ _ (@pe_tup _ _ _ _ _ (@pa_cons _ _ _ _ _ (@pv _ 3 _ _ (by rfl) (by first|exact Or.inl rfl|exact Or.inr (.inl rfl)|exact Or.inr (.inr rfl)) (by decide) (by decide)) (@pa_cons _ _ _ _ _ (@pe_op _ _ _ _ _ _ _ _ za7 (@pe_op _ _ _ _ _ _ _ _ za7 (@pe_op _ _ _ _ _ _ _ _ za7 (@zan _ _ _ _ _ _ _ _ _ _ zaP (@pv _ 4 _ _ (by rfl) (by first|exact Or.inl rfl|exact Or.inr (.inl rfl)|exact Or.inr (.inr rfl)) (by decide) (by decide)) zas (@zak _ _ _ (@pv _ 1 _ _ (by rfl) (by first|exact Or.inl rfl|exact Or.inr (.inl rfl)|exact Or.inr (.inr rfl)) (by decide) (by decide)))) (@pv _ 12 _ _ (by rfl) (by first|exact Or.inl rfl|exact Or.inr (.inl rfl)|exact Or.inr (.inr rfl)) (by decide) (by decide))) (@zan _ _ _ _ _ _ _ _ _ _ zaP (@pv _ 4 _ _ (by rfl) (by first|exact Or.inl rfl|exact Or.inr (.inl rfl)|exact Or.inr (.inr rfl)) (by decide) (by decide)) (@zak _ _ _ (@pe_op _ _ _ _ _ _ _ _ op_add (@pv _ 1 _ _ (by rfl) (by first|exact Or.inl rfl|exact Or.inr (.inl rfl)|exact Or.inr (.inr rfl)) (by decide) (by decide)) pe_int)) (@zak _ _ _ (@pv _ 2 _ _ (by rfl) (by first|exact Or.inl rfl|exact Or.inr (.inl rfl)|exact Or.inr (.inr rfl)) (by decide) (by decide))))) (@zan _ _ _ _ _ _ _ _ _ _ zaP (@pv _ 4 _ _ (by rfl) (by first|exact Or.inl rfl|exact Or.inr (.inl rfl)|exact Or.inr (.inr rfl)) (by decide) (by decide)) (@zak _ _ _ (@pe_op _ _ _ _ _ _ _ _ op_add (@pv _ 2 _ _ (by rfl) (by first|exact Or.inl rfl|exact Or.inr (.inl rfl)|exact Or.inr (.inr rfl)) (by decide) (by decide)) pe_int)) zas)) (@pa_cons _ _ _ _ _ (@pv _ 5 _ _ (by rfl) (by first|exact Or.inl rfl|exact Or.inr (.inl rfl)|exact Or.inr (.inr rfl)) (by decide) (by decide)) pa_nil (by rfl)) (by rfl)) (by rfl))))))))))),?_⟩
 have ql:=sa.grs.len
 obtain⟨ga,g,ega,eg,hga⟩:=sa.grs.get (List.getElem?_eq_getElem (show first<qs.length by lia))
 obtain⟨ha,h,eha,eh,hha⟩:=sa.grs.get (List.getElem?_eq_getElem (show second<qs.length by lia))
 obtain⟨sl1,sf1⟩:=same g h eg eh
 have eat1:atI qs ((first:Nat):Int)=some (.ref ga):=zaB (by rw[List.getElem?_eq_getElem (by lia),ega])
 have eat2:atI qs ((second:Nat):Int)=some (.ref ha):=zaB (by rw[List.getElem?_eq_getElem (by lia),eha])
 refine⟨_,rfl,sc,_,rfl,SqT.of sa.sc,rfl,_,_,rfl,_,_,rfl,_,_,rfl,rfl,?_⟩
 refine⟨_,rfl,_,rfl,gr,_,rfl,.inr (SqT.of sa.gr),_,_,rfl,rfl,_,rfl,?_⟩
 rw[decide_eq_false (show ¬ _ from by lia)]
 refine iteF ⟨_,rfl,_,rfl,gr,_,_,_,rfl,rfl,SqT.of sa.gr,eat1,ga,_,rfl,SqT.of hga,rfl,_,_,rfl,_,_,rfl,_,_,rfl,rfl,?_⟩
 refine⟨_,rfl,_,rfl,gr,_,_,_,rfl,rfl,SqT.of sa.gr,eat2,ha,_,rfl,SqT.of hha,rfl,_,_,rfl,_,_,rfl,_,_,rfl,rfl,?_⟩
 refine⟨_,rfl,_,rfl,rfl,_,rfl,?_⟩
 rw[show (!decide (V.int (g.lane:Int)=V.int (h.lane:Int)))=false from by rw[decide_eq_true (by rw[sl1])];rfl]
 refine iteF ⟨_,rfl,_,rfl,rfl,_,rfl,?_⟩
 rw[show (!decide (V.int (g.fork:Int)=V.int (h.fork:Int)))=false from by rw[decide_eq_true (by rw[sf1])];rfl]
 refine iteF ⟨_,rfl,_,rfl,_,_,rfl,rfl,rfl,_,rfl,?_⟩
 by_cases z:g.many+h.many=0
 ·rw[show (!decide (V.int (g.many+h.many)=V.int 0))=false from by rw[decide_eq_true (by rw[z])];rfl]
  refine iteF ⟨(by show 0≤sizeLine;decide),fun wh hwh=>?_⟩
  have sw:=zaa hwh (.tup [])
  refine⟨_,rfl,_,rfl,_,rfl,_,rfl,gr,_,rfl,sw _ _ sa.gr,fun p1 H1 s1 h1=>?_⟩
  rw[zaY _ first (by lia)]at h1
  refine⟨_,rfl,p1,wh,_,_,rfl,rfl,h1,s1 _ _ zab,?_,fun p2 H2 s2 h2=>?_⟩
  ·rw[List.length_take,sizeLine_eq];show _+0≤_;lia
  have u2:=(sw.trans s1).trans s2
  refine⟨_,rfl,_,rfl,_,_,rfl,rfl,_,rfl,_,rfl,_,rfl,gr,_,rfl,u2 _ _ sa.gr,fun p3 H3 s3 h3=>?_⟩
  rw[show ((first:Int)+1)=((first+1:Nat):Int) from rfl,zhF _ (first+1) second (by lia) (by lia)]at h3
  refine⟨p2,p3,_,_,rfl,rfl,s3 _ _ h2,h3,?_,fun p4 H4 s4 h4=>?_⟩
  ·rw[List.length_append,List.length_take,List.length_take,List.length_drop,sizeLine_eq];show _+0+_≤_;lia
  have u4:=(u2.trans s3).trans s4
  refine⟨_,rfl,_,rfl,_,_,rfl,rfl,_,rfl,gr,_,rfl,u4 _ _ sa.gr,fun p5 H5 s5 h5=>?_⟩
  rw[show ((second:Int)+1)=((second+1:Nat):Int) from rfl,zaZ _ (second+1) (by lia)]at h5
  refine⟨p4,p5,_,_,rfl,rfl,s5 _ _ h4,h5,?_,fun p6 H6 s6 h6=>?_⟩
  ·rw[List.length_append,List.length_append,List.length_take,List.length_take,List.length_drop,List.length_drop,sizeLine_eq];show _+0+_+_≤_;lia
  refine⟨_,rfl,(by show 3≤sizeLine;decide),fun sc' h7=>?_⟩
  have s7:=zaa h7 (.tup [.ref tr,.ref p6,.ref ou])
  have t7:=((s3.trans s4).trans (s5.trans s6)).trans s7
  have u7:=u2.trans t7
  have sa7:=sa.tups (Tups.of u7)
  exact k sc' p6 _ _ _ ⟨g,h,eg,eh,rfl⟩ u7 ⟨zab,sa7.tr,s7 _ _ h6,(((sa7.grs.take first).app (show Grs _ [] (part (g.many+h.many) g.lane g.fork) from by unfold part;rw[if_pos z];exact trivial)).app ((sa7.grs.drop (first+1)).take (second-(first+1)))).app (sa7.grs.drop (second+1)),sa7.ou⟩
 ·rw[show (!decide (V.int (g.many+h.many)=V.int 0))=true from by rw[decide_eq_false (fun y=>z (V.int.inj y))];rfl]
  refine iteT ⟨_,rfl,_,rfl,_,_,rfl,rfl,_,rfl,_,rfl,(by show 3≤sizeLine;decide),fun wt hwt=>⟨(by show 1≤sizeLine;decide),fun wh hwh=>?_⟩⟩
  have sv:=zaa hwh (.tup [.ref wt])
  have sw:=(zaa hwt (.tup [.int (g.many+h.many),.int g.lane,.int g.fork])).trans sv
  refine⟨_,rfl,_,rfl,_,rfl,_,rfl,gr,_,rfl,sw _ _ sa.gr,fun p1 H1 s1 h1=>?_⟩
  rw[zaY _ first (by lia)]at h1
  refine⟨_,rfl,p1,wh,_,_,rfl,rfl,h1,s1 _ _ zab,?_,fun p2 H2 s2 h2=>?_⟩
  ·rw[List.length_take,sizeLine_eq];show _+1≤_;lia
  have u2:=(sw.trans s1).trans s2
  refine⟨_,rfl,_,rfl,_,_,rfl,rfl,_,rfl,_,rfl,_,rfl,gr,_,rfl,u2 _ _ sa.gr,fun p3 H3 s3 h3=>?_⟩
  rw[show ((first:Int)+1)=((first+1:Nat):Int) from rfl,zhF _ (first+1) second (by lia) (by lia)]at h3
  refine⟨p2,p3,_,_,rfl,rfl,s3 _ _ h2,h3,?_,fun p4 H4 s4 h4=>?_⟩
  ·rw[List.length_append,List.length_take,List.length_take,List.length_drop,sizeLine_eq];show _+1+_≤_;lia
  have u4:=(u2.trans s3).trans s4
  refine⟨_,rfl,_,rfl,_,_,rfl,rfl,_,rfl,gr,_,rfl,u4 _ _ sa.gr,fun p5 H5 s5 h5=>?_⟩
  rw[show ((second:Int)+1)=((second+1:Nat):Int) from rfl,zaZ _ (second+1) (by lia)]at h5
  refine⟨p4,p5,_,_,rfl,rfl,s5 _ _ h4,h5,?_,fun p6 H6 s6 h6=>?_⟩
  ·rw[List.length_append,List.length_append,List.length_take,List.length_take,List.length_drop,List.length_drop,sizeLine_eq];show _+1+_+_≤_;lia
  refine⟨_,rfl,(by show 3≤sizeLine;decide),fun sc' h7=>?_⟩
  have s7:=zaa h7 (.tup [.ref tr,.ref p6,.ref ou])
  have t7:=((s3.trans s4).trans (s5.trans s6)).trans s7
  have u7:=u2.trans t7
  have sa7:=sa.tups (Tups.of u7)
  exact k sc' p6 _ _ _ ⟨g,h,eg,eh,rfl⟩ u7 ⟨zab,sa7.tr,s7 _ _ h6,(((sa7.grs.take first).app (show Grs _ [.ref wt] (part (g.many+h.many) g.lane g.fork) from by unfold part;rw[if_neg z];exact Grs.one ((((sv.trans s1).trans s2).trans t7) _ _ zab))).app ((sa7.grs.drop (first+1)).take (second-(first+1)))).app (sa7.grs.drop (second+1)),sa7.ou⟩
end
end K83
namespace L2
open PySem PySem.Spec PyProof.Rows
section
variable {κ:Type} [DecidableEq κ]
end
section
variable {P:Program}{w:World}{H:Hp}{h:Heap}{a:Addr}
end
section
variable {X:Cx}{pins:List (Addr × Obj)}{σ:St}{H:Hp}{s:Shared}{a:Addr}{y v:V}{u r:Value}{o:Option V}{A:Around}{E:Value→Shared→Prop}
end
section
variable {X:Cx}{pins:List (Addr × Obj)}{σ:St}{H:Hp}{s:Shared}{a:Addr}{kvs:List (Key × V)}{k:Key}{u:Value}{A:Around}{E:Value→Shared→Prop}
end
section
variable {X:Cx}{o i e value:Expr}{pos pos' tpos:Pos}{td ty tv:TE}
end
section
variable {X:Cx}{pos:Pos}
end
section
variable {X:Cx}{pins:List (Addr × Obj)}{σ:St}{H:Hp}{s:Shared}{a:Addr}{y d:V}{u r:Value}{o:Option V}{A:Around}{E:Value→Shared→Prop}
end
section
variable {X:Cx}{o e f:Expr}{apos cpos:Pos}{td ty tx:TE}
end
section
variable {X:Cx}{pins:List (Addr × Obj)}{σ:St}{H:Hp}{s:Shared}{a:Addr}{kvs:List (Key × V)}{A:Around}{E:Value→Shared→Prop}
end
section
variable {X:Cx}{pins:List (Addr × Obj)}{σ:St}{H:Hp}{s:Shared}{a:Addr}{y:V}{u:Value}{A:Around}{E:Value→Shared→Prop}
end
end L2
namespace Bn
open PySem L2 Own
theorem zbR:∀ (fs:List (Nat × Nat)) (st:List Int × List Int),(∀ t∈st.2,t=0∨t=1)→∀ t∈(zay st fs).2,t=0∨t=1
 | [],_,h=>h
 | f::fs,st,h=>zbR fs (zaA st f) fun t ht=>by
  unfold zaA at ht
  simp only at ht
  rcases List.mem_append.mp ht with z|z
  ·exact h t z
  ·rw[List.mem_singleton.mp z];lia
theorem zbP (fs:List (Nat × Nat)) (cs:List Int):∀ t∈(flow fs cs).2,t=0∨t=1:=zbR fs (cs,[]) fun t ht=>by simp at ht
theorem zdG (n p:Nat):(List.replicate n (0:Int)).getD p 0=0:=by
 rw[List.getD_eq_getElem?_getD,List.getElem?_replicate];split<;>rfl
theorem ze3 (n p:Nat):(List.replicate n (0:Int)).set p 0=List.replicate n 0:=by
 refine List.ext_getElem (by simp) fun i h1 h2=>?_
 rw[List.getElem_set]
 split<;>simp
theorem zbQ (n:Nat):∀ (fs:List (Nat × Nat)) (T:List Int),zay (List.replicate n 0,T) fs=(List.replicate n 0,T++List.replicate fs.length 0)
 | [],T=>by simp[zay]
 | f::fs,T=>by
  have e:zaA (List.replicate n 0,T) f=(List.replicate n 0,T++[0]):=by
   unfold zaA
   simp only[zdG]
   rw[show ((0:Int)+0+1) / 2=0 by decide,show ((0:Int)+0) / 2=0 by decide,show ((0:Int)+0)%2=0 by decide,ze3,ze3]
  show zay (zaA (List.replicate n 0,T) f) fs=_
  rw[e,zbQ n fs (T++[0]),List.length_cons,List.replicate_succ,List.append_assoc];rfl
theorem zd4 (n:Nat) (fs:List (Nat × Nat)):flow fs (List.replicate n 0)=(List.replicate n 0,List.replicate fs.length 0):=by
 unfold flow;rw[zbQ,List.nil_append]
theorem zhx (N:Nt) (ok:N.Ok):zau N (List.replicate N.lanes 0)=List.replicate N.lanes 0:=by
 unfold zau
 rw[zd4]
 refine List.ext_getElem (by rw[List.length_map,List.length_replicate,zdx ok]) fun i h1 h2=>?_
 rw[List.getElem_map,List.getElem_replicate];exact zdG _ _
theorem zfy (N:Nt):zai N (List.replicate N.lanes 0)=List.replicate N.forks.length 0:=by unfold zai;rw[zd4]
theorem ball {N:Nt}(ok:N.Ok) (back:Bool) {cs:List Int}(cl:cs.length=N.lanes) {lane:Nat}(hl:lane<N.lanes) :
  zai N (zap cs lane (if back then -1 else 1))=(zaf back N.forks (zai N cs) lane N.forks.length).1 ∧
  zau N (zap cs lane (if back then -1 else 1))=zap (zau N cs) (N.ends.idxOf (zaf back N.forks (zai N cs) lane N.forks.length).2) (if back then -1 else 1) ∧
  (zaf back N.forks (zai N cs) lane N.forks.length).2<N.lanes:=by
 have R:=ran (back:=back) (fs:=N.forks) (cs:=cs) (lane:=lane) (fun f hf=>by rw[cl];exact ok.fk f hf) (by lia) (zbP _ _) N.forks.length (Nat.le_refl _)
 have tk:N.forks.take N.forks.length=N.forks:=List.take_length
 have f1:=R.flows
 have t1:=R.turns
 rw[tk]at f1 t1
 have hh:=R.here
 rw[cl]at hh
 refine⟨?_,?_,hh⟩
 ·refine zbp ?_ fun p hp=>?_
  ·unfold zai;rw[zav,R.len,zav]
  ·unfold zai at hp;rw[zav]at hp;exact t1 p hp
 ·have ne:(zaf back N.forks (zai N cs) lane N.forks.length).2∈N.ends:=ok.en.mem_iff.mpr (List.mem_range.mpr hh)
  have nd:N.ends.Nodup:=ok.en.nodup_iff.mpr List.nodup_range
  have el:(zau N cs).length=N.ends.length:=by unfold zau;rw[List.length_map]
  refine zbp (by rw[zar];unfold zau;rw[List.length_map,List.length_map]) fun p hp=>?_
  have hp':p<N.ends.length:=by unfold zau at hp;rwa [List.length_map]at hp
  rw[zaq (by rw[el];exact hp')]
  have g:∀ xs:List Int,(N.ends.map fun e=>xs.getD e 0).getD p 0=xs.getD N.ends[p] 0:=fun xs=>by
   rw[List.getD_eq_getElem?_getD (l:=List.map _ _),List.getElem?_map,List.getElem?_eq_getElem hp'];rfl
  unfold zau
  rw[g,g,f1]
  have lt':N.ends[p]<(flow N.forks cs).1.length:=by rw[zbO,cl];exact zhy ok (List.getElem_mem hp')
  rw[zaq lt']
  congr 1
  show (if (zaf back N.forks (zai N cs) lane N.forks.length).2=N.ends[p] then _ else _)=_
  have iff:(zaf back N.forks (zai N cs) lane N.forks.length).2=N.ends[p]↔N.ends.idxOf (zaf back N.forks (zai N cs) lane N.forks.length).2=p:=by
   constructor
   ·intro e;rw[e];exact nd.idxOf_getElem p hp'
   ·intro e
    have:=List.getElem_idxOf (List.idxOf_lt_length_of_mem ne)
    subst e
    exact this.symm
  by_cases e:(zaf back N.forks (zai N cs) lane N.forks.length).2=N.ends[p]
  ·rw[if_pos e,if_pos (iff.mp e)]
  ·rw[if_neg e,if_neg fun z=>e (iff.mpr z)]
def Bls (H:Hp):List V→List (Nat × Int)→Prop
 | [],[]=>True
 | p::ps,f::fs=>(∃ a,p=.ref a∧H a=some (.tup [.int f.1,.int f.2]))∧Bls H ps fs
 | _,_=>False
theorem Bls.tups {H H':Hp}(t:Tups H H'):∀ {ps:List V}{fs:List (Nat × Int)},Bls H ps fs→Bls H' ps fs
 | [],[],_=>trivial
 | _::_,_::_,⟨⟨a,e,h⟩,r⟩=>⟨⟨a,e,t _ _ h⟩,r.tups t⟩
theorem Bls.len {H:Hp}:∀ {ps:List V}{fs:List (Nat × Int)},Bls H ps fs→ps.length=fs.length
 | [],[],_=>rfl
 | _::_,_::_,⟨_,r⟩=>congrArg (· + 1) r.len
theorem Bls.app {H:Hp}:∀ {ps qs:List V}{fs gs:List (Nat × Int)},Bls H ps fs→Bls H qs gs→Bls H (ps++qs) (fs++gs)
 | [],_,[],_,_,h=>h
 | _::_,_,_::_,_,⟨x,r⟩,h=>⟨x,r.app h⟩
theorem Bls.get {H:Hp}:∀ {ps:List V}{fs:List (Nat × Int)}{i:Nat}{p:V},Bls H ps fs→ps[i]?=some p→∃ a f,p=.ref a∧fs[i]?=some f∧H a=some (.tup [.int f.1,.int f.2])
 | [],[],_,_,_,e=>by simp at e
 | _::_,f::_,0,p,⟨⟨a,e1,h⟩,_⟩,e=>by
  have:_=p:=Option.some.inj e
  subst this
  exact⟨a,f,e1,rfl,h⟩
 | _::_,_::_,i+1,p,⟨_,r⟩,e=>r.get (i:=i) (by simpa using e)
def zaH (cs:List Int) (bs:List (Nat × Int)):List Int:=bs.foldl (fun cs b=>zap cs b.1 b.2) cs
def zah (n:Nat) (bs:List (Nat × Int)):List Int:=zaH (List.replicate n 0) bs
def OkB (n:Nat) (bs:List (Nat × Int)):Prop:=∀ b∈bs,b.1<n∧(b.2=1∨b.2 = -1)
theorem zbV:∀ (bs:List (Nat × Int)) (cs:List Int),(zaH cs bs).length=cs.length
 | [],_=>rfl
 | b::bs,cs=>(zbV bs (zap cs b.1 b.2)).trans (zar _ _ _)
theorem zcb (n:Nat) (bs:List (Nat × Int)):(zah n bs).length=n:=by unfold zah;rw[zbV,List.length_replicate]
theorem zdz {bs:List (Nat × Int)}{i:Nat}{b:Nat × Int}(h:bs[i]?=some b) (n:Nat):zah n (bs.take (i+1))=zap (zah n (bs.take i)) b.1 b.2:=by
 have w:=List.getElem?_eq_some_iff.mp h;obtain⟨hi,e⟩:=w
 rw[List.take_succ_eq_append_getElem hi,e]
 unfold zah zaH
 rw[List.foldl_append];rfl
theorem zc7 (cs:List Int) (i j:Nat) (d e:Int):zap (zap cs i d) j e=zap (zap cs j e) i d:=by
 refine zbp (by simp only[zar]) fun p hp=>?_
 simp only[zar]at hp
 rw[zaq (by rw[zar];exact hp),zaq hp,zaq (by rw[zar];exact hp),zaq hp]
 lia
theorem zdA {bs cs:List (Nat × Int)}(h:bs.Perm cs) (n:Nat):zah n bs=zah n cs :=
 h.foldl_eq' (fun x _ y _ z=>zc7 z x.1 y.1 x.2 y.2) _
theorem zfu {K:PySem.W.Frag}{H:Hp}{a b:Addr}{xs:List Int}(h1:H a=some (.tup (xs.map V.int))) (h2:H b=some (.tup (xs.map V.int))):DEq K H 1 (.ref a) (.ref b) :=
 .inr ⟨a,b,_,_,rfl,rfl,SqT.of h1,SqT.of h2,rfl,fun i u v hu hv=>by
  rw[hu]at hv
  obtain rfl:=Option.some.inj hv
  refine⟨rfl,?_⟩
  rw[List.getElem?_map]at hu
  cases e:xs[i]? with
  | none=>rw[e]at hu;cases hu
  | some z=>rw[e]at hu;obtain rfl:=Option.some.inj hu;rfl⟩
end Bn
namespace L2
open PySem PySem.Spec PyProof.Rows Own
section
variable {X:Cx}
end
end L2
namespace Bn
open PySem L2 Own
def nm (ns:List Nat) (i:Nat):Nat:=ns.getD i 0
section
variable {ns:List Nat}{n:Nat}(pm:ns.Perm (List.range n))
include pm
end
def Nt.again (N:Nt) (f:Nat × Nat):Nt:=⟨N.lanes,N.forks++[f],N.ends⟩
def big (x y:Int):Int:=if y > x then y else x
theorem zlE (x y:Int):x≤big x y:=by unfold big;split<;>lia
theorem zlD (x y:Int):y≤big x y:=by unfold big;split<;>lia
def zby (st:List Int × List Int) (f:Nat × Nat):List Int × List Int :=
 ((st.1.set f.1 (1+big (st.1.getD f.1 0) (st.1.getD f.2 0))).set f.2 (1+big (st.1.getD f.1 0) (st.1.getD f.2 0)),st.2++[1+big (st.1.getD f.1 0) (st.1.getD f.2 0)])
def lay (n:Nat) (fs:List (Nat × Nat)):List Int × List Int:=fs.foldl zby (List.replicate n 0,[])
theorem zfm {n:Nat}{fs:List (Nat × Nat)}{i:Nat}{f:Nat × Nat}(h:fs[i]?=some f):lay n (fs.take (i+1))=zby (lay n (fs.take i)) f:=by
 have w:=List.getElem?_eq_some_iff.mp h
 rw[List.take_succ_eq_append_getElem w.1,w.2]
 unfold lay
 rw[List.foldl_append];rfl
theorem zdu {n:Nat}:∀ (i:Nat) (fs:List (Nat × Nat)),i≤fs.length→(lay n (fs.take i)).1.length=n∧(lay n (fs.take i)).2.length=i
 | 0,fs,_=>by simp[lay]
 | i+1,fs,h=>by
  have ih:=zdu (n:=n) i fs (by lia)
  rw[zfm (List.getElem?_eq_getElem (by lia))]
  unfold zby
  simp[ih.1,ih.2]
def zcd (g f:Nat × Nat):Bool:=decide (g.1=f.1∨g.1=f.2) || decide (g.2=f.1∨g.2=f.2)
def zlF (fs:List (Nat × Nat)) (fo:List Int) (f:Nat × Nat) (i:Nat):List Int:=((List.range i).filter fun j=>zcd (fs.getD j (0,0)) f).map fun j=>fo.getD j 0
def zbt (N:Nt):List Int:=(lay N.lanes N.forks).2
theorem zfU (N:Nt):(zbt N).length=N.forks.length:=by
 have:=(zdu (n:=N.lanes) N.forks.length N.forks (Nat.le_refl _)).2
 rwa [List.take_length]at this
abbrev Fk:=Nat × Nat
inductive Sw {α:Type}:List (α × Fk)→List (α × Fk)→Prop where
 | refl (l:List (α × Fk)):Sw l l
 | swap (pre:List (α × Fk)) (x y:α × Fk) (post:List (α × Fk)) (h:zcd x.2 y.2=false):Sw (pre++x::y::post) (pre++y::x::post)
 | trans {a b c:List (α × Fk)}(h:Sw a b) (g:Sw b c):Sw a c
theorem Sw.cons {α:Type}(x:α × Fk) {a b:List (α × Fk)}(h:Sw a b):Sw (x::a) (x::b):=by
 induction h with
 | refl l=>exact .refl _
 | swap pre u v post h=>exact .swap (x::pre) u v post h
 | trans _ _ ih1 ih2=>exact .trans ih1 ih2
theorem Sw.perm {α:Type}{a b:List (α × Fk)}(h:Sw a b):b.Perm a:=by
 induction h with
 | refl l=>exact .refl _
 | swap pre u v post h=>exact List.Perm.append_left pre (List.Perm.swap u v post)
 | trans _ _ ih1 ih2=>exact ih2.trans ih1
def run {σ α:Type}(step:σ→Fk→σ × α):σ→List Fk→σ × List (α × Fk)
 | s,[]=>(s,[])
 | s,f::fs=>((run step (step s f).1 fs).1,((step s f).2,f)::(run step (step s f).1 fs).2)
theorem zdO {σ α:Type}(step:σ→Fk→σ × α):∀ (s:σ) (fs:List Fk),(run step s fs).2.map Prod.snd=fs
 | _,[]=>rfl
 | s,f::fs=>by
  show f::((run step (step s f).1 fs).2.map Prod.snd)=f::fs
  rw[zdO step]
def Commutes {σ α:Type}(step:σ→Fk→σ × α):Prop:=∀ s f g,zcd f g=false→(step (step s f).1 g).1=(step (step s g).1 f).1∧(step (step s f).1 g).2=(step s g).2∧(step (step s g).1 f).2=(step s f).2
theorem zkq {σ α:Type}{step:σ→Fk→σ × α}(C:Commutes step) {a b:List (α × Fk)}(h:Sw a b):∀ s,(run step s (a.map Prod.snd)).2=a→(run step s (b.map Prod.snd)).2=b∧(run step s (b.map Prod.snd)).1=(run step s (a.map Prod.snd)).1:=by
 induction h with
 | refl l=>exact fun s e=>⟨e,rfl⟩
 | swap pre x y post hm =>
  induction pre with
  | nil =>
   intro s e
   obtain⟨x1,x2⟩:=x
   obtain⟨y1,y2⟩:=y
   obtain⟨c1,c2,c3⟩:=C s x2 y2 hm
   simp only[List.nil_append,List.map_cons,run]at e ⊢
   obtain⟨e1,e2⟩:=List.cons.inj e
   obtain⟨e3,e4⟩:=List.cons.inj e2
   have f1:=(Prod.mk.inj e1).1
   have f3:=(Prod.mk.inj e3).1
   rw[← c1,c3,f1,e4,← c2,f3]
   exact⟨rfl,rfl⟩
  | cons z pre ih =>
   intro s e
   obtain⟨z1,z2⟩:=z
   simp only[List.cons_append,List.map_cons,run]at e ⊢
   obtain⟨e1,e2⟩:=List.cons.inj e
   obtain⟨i1,i2⟩:=ih _ e2
   rw[i1,i2,e1]
   exact⟨rfl,rfl⟩
 | trans _ _ ih1 ih2 =>
  intro s e
  obtain⟨a1,a2⟩:=ih1 s e
  obtain⟨b1,b2⟩:=ih2 s a1
  exact⟨b1,b2.trans a2⟩
theorem zis {f g:Fk}(h:zcd f g=false):f.1≠g.1∧f.1≠g.2∧f.2≠g.1∧f.2≠g.2:=by
 unfold zcd at h
 rw[Bool.or_eq_false_iff,decide_eq_false_iff_not,decide_eq_false_iff_not]at h
 lia
theorem zaG {l:List Int}{i j:Nat}{x:Int}(h:i≠j):(l.set i x).getD j 0=l.getD j 0:=by
 rw[List.getD_eq_getElem?_getD,List.getElem?_set_ne h,← List.getD_eq_getElem?_getD]
theorem set4 (l:List Int) {a b c d:Nat}{x y z w:Int}(h1:a≠c) (h2:a≠d) (h3:b≠c) (h4:b≠d):(((l.set a x).set b y).set c z).set d w=(((l.set c z).set d w).set a x).set b y:=by
 rw[List.set_comm _ _ h3,List.set_comm _ _ h1,List.set_comm _ _ h4,List.set_comm _ _ h2]
def layS (re:List Int) (f:Fk):List Int × Int:=((re.set f.1 (1+big (re.getD f.1 0) (re.getD f.2 0))).set f.2 (1+big (re.getD f.1 0) (re.getD f.2 0)),1+big (re.getD f.1 0) (re.getD f.2 0))
theorem ziw:Commutes layS:=fun s f g h=>by
 obtain⟨h1,h2,h3,h4⟩:=zis h
 unfold layS
 simp only[zaG h1,zaG h2,zaG h3,zaG h4,zaG h1.symm,zaG h2.symm,zaG h3.symm,zaG h4.symm]
 exact⟨set4 _ h1 h2 h3 h4,trivial,trivial⟩
theorem zhl:∀ (fs:List Fk) (re fo:List Int),fs.foldl zby (re,fo)=((run layS re fs).1,fo++(run layS re fs).2.map Prod.fst)
 | [],re,fo=>by
  show (re,fo)=(re,fo++[])
  rw[List.append_nil]
 | f::fs,re,fo=>by
  rw[List.foldl_cons]
  show fs.foldl zby ((layS re f).1,fo++[(layS re f).2])=_
  rw[zhl fs]
  show (_,fo++[(layS re f).2]++_)=(_,fo++((layS re f).2::_))
  rw[List.append_assoc];rfl
def pz (N:Nt):List (Int × Fk):=(run layS (List.replicate N.lanes 0) N.forks).2
theorem zgO (N:Nt):(pz N).map Prod.fst=zbt N:=by
 unfold zbt lay pz
 rw[zhl];rfl
theorem zci (N:Nt):(pz N).map Prod.snd=N.forks:=zdO _ _ _
theorem zgM:∀ (fs:List Fk) (re:List Int),(∀ f∈fs,f.1<re.length∧f.2<re.length)→(∀ y∈(run layS re fs).2,re.getD y.2.1 0<y.1∧re.getD y.2.2 0<y.1)∧(run layS re fs).2.Pairwise fun x y=>zcd x.2 y.2=true→x.1<y.1
 | [],re,_=>⟨fun y hy=>by simp[run]at hy,List.Pairwise.nil⟩
 | f::fs,re,ok=>by
  have okf:=ok f List.mem_cons_self
  obtain⟨i1,i2⟩:=zgM fs (layS re f).1 fun g hg=>by
   have:=ok g (List.mem_cons_of_mem _ hg)
   unfold layS
   simpa using this
  have gl:=zlE (re.getD f.1 0) (re.getD f.2 0)
  have gr:=zlD (re.getD f.1 0) (re.getD f.2 0)
  have st:∀ lane,(layS re f).1.getD lane 0=if f.2=lane then (layS re f).2 else if f.1=lane then (layS re f).2 else re.getD lane 0:=fun lane=>by
   by_cases hl:lane<re.length
   ·unfold layS
    rw[zaL (by simp[hl]),zaL hl]
   ·have n1:f.2≠lane:=by lia
    have n2:f.1≠lane:=by lia
    rw[if_neg n1,if_neg n2]
    unfold layS
    rw[zaG n1,zaG n2]
  have m1:(layS re f).2=1+big (re.getD f.1 0) (re.getD f.2 0):=rfl
  have up:∀ lane,re.getD lane 0≤(layS re f).1.getD lane 0:=fun lane=>by
   rw[st lane]
   split
   ·next h=>subst h;lia
   ·split
    ·next h=>subst h;lia
    ·exact Int.le_refl _
  refine⟨fun y hy=>?_,List.pairwise_cons.mpr ⟨fun y hy hm=>?_,i2⟩⟩
  ·rcases List.mem_cons.mp hy with rfl|hy2
   ·show re.getD f.1 0<(layS re f).2∧re.getD f.2 0<(layS re f).2
    lia
   ·have:=i1 y hy2
    have a:=up y.2.1
    have b:=up y.2.2
    lia
  ·show (layS re f).2<y.1
   have hy2:=i1 y hy
   rw[st,st]at hy2
   unfold zcd at hm
   rw[Bool.or_eq_true,decide_eq_true_eq,decide_eq_true_eq]at hm
   have hm:(f.1=y.2.1∨f.1=y.2.2)∨(f.2=y.2.1∨f.2=y.2.2):=hm
   rcases hm with (h|h)|(h|h)
   ·have:=hy2.1
    by_cases q:f.2=y.2.1
    ·rw[if_pos q]at this;exact this
    ·rw[if_neg q,if_pos h]at this;exact this
   ·have:=hy2.2
    by_cases q:f.2=y.2.2
    ·rw[if_pos q]at this;exact this
    ·rw[if_neg q,if_pos h]at this;exact this
   ·have:=hy2.1;rw[if_pos h]at this;exact this
   ·have:=hy2.2;rw[if_pos h]at this;exact this
def rnk (x:Int × Fk):Int:=x.1*1024+x.2.1*32+x.2.2
def ins (x:Int × Fk):List (Int × Fk)→List (Int × Fk)
 | []=>[x]
 | y::l=>if rnk x≤rnk y then x::y::l else y::ins x l
def zd1:List (Int × Fk)→List (Int × Fk)
 | []=>[]
 | x::l=>ins x (zd1 l)
theorem insP (x:Int × Fk):∀ l,(ins x l).Perm (x::l)
 | []=>.refl _
 | y::l=>by
  unfold ins
  split
  ·exact .refl _
  ·exact((insP x l).cons y).trans (List.Perm.swap x y l)
theorem zax:∀ l,(zd1 l).Perm l
 | []=>.refl _
 | x::l=>(insP x _).trans ((zax l).cons x)
theorem zc2 (x:Int × Fk):∀ l:List (Int × Fk),l.Pairwise (fun a b=>rnk a≤rnk b)→(ins x l).Pairwise (fun a b=>rnk a≤rnk b)
 | [],_=>List.pairwise_singleton _ _
 | y::l,h=>by
  obtain⟨h1,h2⟩:=List.pairwise_cons.mp (id h)
  unfold ins
  split
  ·next le =>
   refine List.pairwise_cons.mpr ⟨fun z hz=>?_,h⟩
   rcases List.mem_cons.mp hz with rfl|hz2
   ·exact le
   ·exact Int.le_trans le (h1 z hz2)
  ·next gt =>
   refine List.pairwise_cons.mpr ⟨fun z hz=>?_,zc2 x l h2⟩
   rcases List.mem_cons.mp ((insP x l).mem_iff.mp hz) with rfl|hz
   ·lia
   ·exact h1 z hz
theorem zaX:∀ l,(zd1 l).Pairwise (fun a b=>rnk a≤rnk b)
 | []=>List.Pairwise.nil
 | x::l=>zc2 x _ (zaX l)
theorem ziT (x:Int × Fk):∀ l:List (Int × Fk),(∀ y∈l,y.2.1<32∧y.2.2<32)→x.2.1<32→x.2.2<32→(∀ y∈l,zcd x.2 y.2=true→x.1<y.1)→Sw (x::l) (ins x l)
 | [],_,_,_,_=>.refl _
 | y::l,bd,b1,b2,h=>by
  unfold ins
  split
  ·exact .refl _
  ·next gt =>
   have hy:=bd y List.mem_cons_self
   have no:zcd x.2 y.2=false:=by
    cases q:zcd x.2 y.2 with
    | false=>rfl
    | true =>
     have:=h y List.mem_cons_self q
     unfold rnk at gt
     lia
   exact .trans (.swap [] x y l no) ((ziT x l (fun z hz=>bd z (List.mem_cons_of_mem _ hz)) b1 b2 fun z hz=>h z (List.mem_cons_of_mem _ hz)).cons y)
theorem zfn:∀ l:List (Int × Fk),(∀ y∈l,y.2.1<32∧y.2.2<32)→l.Pairwise (fun x y=>zcd x.2 y.2=true→x.1<y.1)→Sw l (zd1 l)
 | [],_,_=>.refl _
 | x::l,bd,h=>by
  obtain⟨h1,h2⟩:=List.pairwise_cons.mp (id h)
  have bx:=bd x List.mem_cons_self
  have ih:=zfn l (fun y hy=>bd y (List.mem_cons_of_mem _ hy)) h2
  refine .trans (ih.cons x) (ziT x _ (fun y hy=>bd y (List.mem_cons_of_mem _ ((zax l).mem_iff.mp hy))) bx.1 bx.2 fun y hy=>h1 y ((zax l).mem_iff.mp hy))
theorem zbH {a b:List (Int × Fk)}(p:a.Perm b) (bd:∀ y∈b,y.2.1<32∧y.2.2<32) (sa:a.Pairwise (fun x y=>rnk x≤rnk y)) (sb:b.Pairwise (fun x y=>rnk x≤rnk y)):a=b:=by
 refine List.Perm.eq_of_pairwise (le:=fun x y=>rnk x≤rnk y) (fun x y hx hy h1 h2=>?_) sa sb p
 have bx:=bd x (p.mem_iff.mp hx)
 have by':=bd y hy
 obtain⟨x1,x2,x3⟩:=x
 obtain⟨y1,y2,y3⟩:=y
 unfold rnk at h1 h2
 simp only at h1 h2 bx by'
 have e1:x1=y1:=by lia
 have e2:x2=y2:=by lia
 have e3:x3=y3:=by lia
 rw[e1,e2,e3]
def za2 (N:Nt):List Fk:=(zd1 (pz N)).map Prod.snd
def zal (N:Nt):Nt:=⟨N.lanes,za2 N,N.ends⟩
theorem zku {N:Nt}{y:Int × Fk}(h:y∈pz N):y.2∈N.forks:=by
 rw[← zci N];exact List.mem_map.mpr ⟨y,h,rfl⟩
theorem zfd {N:Nt}(ok:N.Ok):∀ y∈pz N,y.2.1<32∧y.2.2<32:=fun y hy=>by
 have:=ok.fk y.2 (zku hy)
 have:=ok.l16
 lia
theorem zkv {N:Nt}(ok:N.Ok):(pz N).Pairwise fun x y=>zcd x.2 y.2=true→x.1<y.1 :=
 (zgM N.forks (List.replicate N.lanes 0) fun f hf=>by
  have:=ok.fk f hf
  rw[List.length_replicate];lia).2
theorem zhY {N:Nt}(ok:N.Ok):Sw (pz N) (zd1 (pz N)):=zfn _ (zfd ok) (zkv ok)
theorem zcW (N:Nt):(za2 N).Perm N.forks:=by
 have:=(zax (pz N)).map Prod.snd
 rwa [zci]at this
theorem zhZ {N:Nt}(ok:N.Ok):(zal N).Ok:=⟨ok.l1,ok.l16,by
 show (za2 N).length≤128
 rw[(zcW N).length_eq];exact ok.fm,fun f hf=>ok.fk f ((zcW N).mem_iff.mp hf),ok.en⟩
theorem zlm {N N':Nt}{b:List (Int × Fk)}(hl:N'.lanes=N.lanes) (h:Sw (pz N) b) (hb:b.map Prod.snd=N'.forks):pz N'=b:=by
 have:=(zkq ziw h (List.replicate N.lanes 0) (by rw[zci];rfl)).1
 unfold pz
 rw[hl,← hb];exact this
theorem zeH {N N':Nt}(ok:N.Ok) {b:List (Int × Fk)}(hl:N'.lanes=N.lanes) (h:Sw (pz N) b) (hb:b.map Prod.snd=N'.forks):za2 N'=za2 N:=by
 unfold za2
 rw[zlm hl h hb]
 congr 1
 exact zbH ((zax b).trans (h.perm.trans (zax _).symm)) (fun y hy=>zfd ok y ((zax _).mem_iff.mp hy)) (zaX _) (zaX _)
theorem zeG {N:Nt}(ok:N.Ok):za2 (zal N)=za2 N:=zeH (N':=zal N) ok rfl (zhY ok) rfl
theorem zcy {N:Nt}(ok:N.Ok) {zs:List (Int × Fk)}(p:zs.Perm (pz N)) (so:zs.Pairwise (fun a b=>rnk a≤rnk b)):zs=zd1 (pz N) :=
 zbH (p.trans (zax _).symm) (fun y hy=>zfd ok y ((zax _).mem_iff.mp hy)) so (zaX _)
end Bn
namespace Ts
open PySem PyProof.Rows
structure Cmp (prog:Program) (w:World) (A:Around) (s:Shared) (κ:SortKind) (P:Keyed→Prop) (rk:Keyed→Int):Prop where
 ask:∀ (x y:Keyed),P x→P y→∀ {Q:Bool→Shared→Prop}{E:Value→Shared→Prop},Q (decide (rk x<rk y)) s→wpAny (model prog w) A (keyLt' κ x.1 y.1) Q E s
def R (rk:Keyed→Int) (xs:Array Keyed) (i:Nat):Int:=match xs[i]? with
 | some p=>rk p
 | none=>0
theorem R_congr {rk:Keyed→Int}{xs ys:Array Keyed}{i j:Nat}(h:xs[i]?=ys[j]?):R rk xs i=R rk ys j:=by unfold R;rw[h]
def Up (rk:Keyed→Int) (xs:Array Keyed) (lo n:Nat):Prop:=∀ i j,lo≤i→i≤j→j<lo+n→R rk xs i≤R rk xs j
def Dn (rk:Keyed→Int) (xs:Array Keyed) (lo n:Nat):Prop:=∀ i j,lo≤i→i≤j→j<lo+n→R rk xs j≤R rk xs i
structure Bs (κ:SortKind) (P:Keyed→Prop) (a₀:Array Keyed) (st:SortSt):Prop where
 kind:kindOf st=κ
 fail:failedOf st=none
 perm:(arrOf st).Perm a₀
 all:∀ p∈a₀.toList,P p
theorem Bs.size {κ:SortKind}{P:Keyed→Prop}{a₀:Array Keyed}{st:SortSt}(h:Bs κ P a₀ st):(arrOf st).size=a₀.size:=h.perm.size_eq
theorem Bs.at {κ:SortKind}{P:Keyed→Prop}{a₀:Array Keyed}{st:SortSt}(h:Bs κ P a₀ st) {i:Nat}(hi:i<a₀.size) (rk:Keyed→Int):∃ p,(arrOf st)[i]?=some p∧P p∧R rk (arrOf st) i=rk p:=by
 have e:(arrOf st)[i]?=some ((arrOf st)[i]'(by rw[h.size];exact hi)):=getElem?_pos (arrOf st) i (by rw[h.size];exact hi)
 refine⟨_,e,h.all _ ((Array.perm_iff_toList_perm.mp h.perm).mem_iff.mp (by simp)),?_⟩
 unfold R;rw[e]
theorem Bs.arr {κ:SortKind}{P:Keyed→Prop}{a₀:Array Keyed}{st:SortSt}(h:Bs κ P a₀ st) {xs:Array Keyed}(hp:xs.Perm (arrOf st)):Bs κ P a₀ (setArr st xs):=⟨h.kind,h.fail,hp.trans h.perm,h.all⟩
section
variable {prog:Program}{w:World}{A:Around}{E:Value→Shared→Prop}{s:Shared}{κ:SortKind}{P:Keyed→Prop}{rk:Keyed→Int}{a₀:Array Keyed}
theorem zls (C:Cmp prog w A s κ P rk) {st:SortSt}{x y:Keyed}{Q:Option Bool→SortSt→Prop}(hk:kindOf st=κ) (px:P x) (py:P y) (h:Q (some (decide (rk x<rk y))) st):wpS (model prog w) A E s (lt' x y) Q st:=by
 rw[lt'_eq]
 refine wpS_bind (wpS_get (wpS_bind (wpS_lift (wpAny_attempt ?_))))
 rw[hk]
 exact C.ask x y px py ⟨rfl,wpS_pure h⟩
theorem zgN {r:String}{st:SortSt}{Q:Unit→SortSt→Prop}(h:Q () st):wpS (model prog w) A E s (liftM (rule r):StateT SortSt Sem Unit) Q st:=wpS_lift (wpAny_rule ⟨rfl,h⟩)
theorem zhz {st:SortSt}{arr:Array Keyed}{i:Nat}{p:Keyed}{Q:Keyed→SortSt→Prop}(e:arr[i]?=some p) (h:Q p st):wpS (model prog w) A E s (elem' arr i) Q st:=by
 rw[elem'_eq,e];exact wpS_pure h
theorem zhh (C:Cmp prog w A s κ P rk) {st:SortSt}{i j:Nat}{Q:Option Bool→SortSt→Prop}(hB:Bs κ P a₀ st) (hi:i<a₀.size) (hj:j<a₀.size) (h:Q (some (decide (R rk (arrOf st) i<R rk (arrOf st) j))) st):wpS (model prog w) A E s (ltAt' i j) Q st:=by
 obtain⟨p,e1,pp,r1⟩:=hB.at hi rk
 obtain⟨q,e2,pq,r2⟩:=hB.at hj rk
 rw[r1,r2]at h
 rw[ltAt'_eq]
 exact wpS_bind (wpS_get (wpS_bind (zhz e1 (wpS_bind (zhz e2 (zls C hB.kind pp pq h))))))
structure Keep (κ:SortKind) (P:Keyed→Prop) (rk:Keyed→Int) (a₀:Array Keyed) (lo:Nat) (st st':SortSt):Prop where
 b:Bs κ P a₀ st'
 pend:pendingOf st'=pendingOf st
 low:∀ k,k<lo→R rk (arrOf st') k=R rk (arrOf st) k
theorem Keep.refl {lo:Nat}{st:SortSt}(h:Bs κ P a₀ st):Keep κ P rk a₀ lo st st:=⟨h,rfl,fun _ _=>rfl⟩
theorem Keep.trans {lo:Nat}{st st1 st2:SortSt}(h:Keep κ P rk a₀ lo st st1) (g:Keep κ P rk a₀ lo st1 st2):Keep κ P rk a₀ lo st st2:=⟨g.b,g.pend.trans h.pend,fun k hk=>(g.low k hk).trans (h.low k hk)⟩
theorem R_mirror {xs:Array Keyed}{i j:Nat}(hj:j≤xs.size) (k:Nat):R rk (mirror xs i j ((j-i) / 2)) k=if i≤k∧k<j then R rk xs (i+j-1-k) else R rk xs k:=by
 have e:=getElem?_mirror_all (xs:=xs) (i:=i) hj k
 split at e
 ·next h=>rw[if_pos h];exact R_congr e
 ·next h=>rw[if_neg h];exact R_congr e
theorem zfc {lo i j:Nat}{st:SortSt}{Q:Unit→SortSt→Prop}(hB:Bs κ P a₀ st) (hl:lo≤i) (hj:j≤a₀.size)
  (h:∀ st',Keep κ P rk a₀ lo st st'→(∀ k,R rk (arrOf st') k=if i≤k∧k<j then R rk (arrOf st) (i+j-1-k) else R rk (arrOf st) k)→Q () st'):wpS (model prog w) A E s (reverseSlice' i j) Q st:=by
 rw[reverseSlice'_eq]
 refine wpS_modify (h _ ⟨hB.arr (mirror_perm _ _ _ _),rfl,fun k hk=>?_⟩ fun k=>?_)
 ·show R rk (mirror (arrOf st) i j ((j-i) / 2)) k=_
  rw[R_mirror (by rw[hB.size];exact hj),if_neg (by lia)]
 ·exact R_mirror (by rw[hB.size];exact hj) k
theorem ziG (C:Cmp prog w A s κ P rk) {st:SortSt}{lo nrem:Nat}{Q:Option Nat→SortSt→Prop}(hB:Bs κ P a₀ st) (h1:1≤nrem) (hn:lo+nrem≤a₀.size)
  (h:∀ st' m,Keep κ P rk a₀ lo st st'→1≤m→m≤nrem→Up rk (arrOf st') lo m→Q (some m) st'):wpS (model prog w) A E s (countRun' lo nrem) Q st:=by
 have asc:∀ (st:SortSt) (n0:Nat) {Q':Option (Option Nat) × Nat→SortSt→Prop},Bs κ P a₀ st→1≤n0→Up rk (arrOf st) lo n0 →
   (∀ n,n0≤n→n≤max n0 nrem→Up rk (arrOf st) lo n→(n<nrem→R rk (arrOf st) (lo+n)<R rk (arrOf st) (lo+n-1))→Q' (none,n) st)→
   ∀ f:Nat→Option (Option Nat) × Nat→StateT SortSt Sem (ForInStep (Option (Option Nat) × Nat)),(∀ i n,f i (none,n)=(do
    let some smaller ← ltAt' (lo+n) (lo+n-1)|pure (.done (some none,n))
    if smaller then pure (.done (none,n)) else pure (.yield (none,n+1))))→wpS (model prog w) A E s (forIn [n0:nrem] (none,n0) f) Q' st:=by
  intro st n0 Q' hB h0 hu hq f hf
  refine wpS_forRange (I:=fun i c st'=>st'=st∧c=(none,i)∧n0≤i∧Up rk (arrOf st) lo i) ?_ ?_ ⟨rfl,rfl,Nat.le_refl _,hu⟩
  ·rintro i c st' hi hi2 ⟨rfl,rfl,h3,hu'⟩
   rw[hf]
   refine wpS_bind (zhh C hB (by lia) (by lia) ?_)
   by_cases z:R rk (arrOf st') (lo+i)<R rk (arrOf st') (lo+i-1)
   ·rw[decide_eq_true z]
    exact wpS_pure (hq i h3 (by lia) hu' fun _=>z)
   ·rw[decide_eq_false z]
    refine wpS_pure ⟨rfl,rfl,by lia,fun a b ha hab hb=>?_⟩
    by_cases q:b<lo+i
    ·exact hu' a b ha hab q
    ·obtain rfl:b=lo+i:=by lia
     by_cases q2:a=lo+i
     ·rw[q2];exact Int.le_refl _
     ·have:=hu' a (lo+i-1) ha (by lia) (by lia)
      lia
  ·rintro c st' ⟨rfl,rfl,h3,hu'⟩
   exact hq _ h3 (Nat.le_refl _) hu' fun q=>by lia
 rw[countRun'_eq]
 refine wpS_bind (asc st 1 hB (Nat.le_refl _) (fun a b h1 h2 h3=>by rw[show a=b by lia];exact Int.le_refl _) (fun n n1 n2 hu hs=>?_) _ (fun i n=>rfl))
 dsimp only
 by_cases z:n=nrem
 ·subst z
  rw[if_pos (beq_self_eq_true _)]
  exact wpS_pure (h _ _ (Keep.refl hB) n1 (Nat.le_refl _) hu)
 rw[if_neg (by simpa using z)]
 have nl:n<nrem:=by lia
 have hs:=hs nl
 generalize hT:(bind (liftM (rule "list.sort.descending-run")) _:StateT SortSt Sem (Option Nat))=T
 have tail:∀ st1,Keep κ P rk a₀ lo st st1→Dn rk (arrOf st1) lo n→R rk (arrOf st1) (lo+n)<R rk (arrOf st1) (lo+n-1)→wpS (model prog w) A E s T Q st1:=by
  intro st1 K1 d1 l1
  rw[← hT]
  refine wpS_bind (zgN ?_)
  have last:∀ st2 m,Keep κ P rk a₀ lo st st2→1≤m→m≤nrem→Dn rk (arrOf st2) lo m→∀ st3,Keep κ P rk a₀ lo st2 st3→(∀ k,R rk (arrOf st3) k=if lo≤k∧k<lo+m then R rk (arrOf st2) (lo+(lo+m)-1-k) else R rk (arrOf st2) k)→Up rk (arrOf st3) lo m:=by
   intro st2 m K2 m1 m2 d2 st3 K3 r3 a b ha hab hb
   rw[r3,r3,if_pos ⟨by lia,by lia⟩,if_pos ⟨by lia,by lia⟩]
   exact d2 _ _ (by lia) (by lia) (by lia)
  refine wpS_bind (wpS_mono (wpS_forRange (I:=fun i c st2=>∃ m q,c=(none,m,q)∧m=i∧q+1≤m∧Keep κ P rk a₀ lo st st2∧(i≤nrem→Dn rk (arrOf st2) lo m∧∀ k,lo+m-(q+1)≤k→k<lo+m→R rk (arrOf st2) k=R rk (arrOf st2) (lo+m-1)))
   (Q:=fun c st2=>∃ m q,c=(none,m,q)∧1≤m∧m≤nrem∧q+1≤m∧Keep κ P rk a₀ lo st st2∧Dn rk (arrOf st2) lo m∧∀ k,lo+m-(q+1)≤k→k<lo+m→R rk (arrOf st2) k=R rk (arrOf st2) (lo+m-1)) ?step ?fin ?init) ?post)
  case init =>
   refine⟨n+1,0,rfl,rfl,by lia,K1,fun _=>⟨fun a b ha hab hb=>?_,fun k k1 k2=>by rw[show k=lo+(n+1)-1 by lia]⟩⟩
   by_cases q:b<lo+n
   ·exact d1 a b ha hab q
   ·obtain rfl:b=lo+n:=by lia
    by_cases q2:a=lo+n
    ·rw[q2];exact Int.le_refl _
    ·have:=d1 a (lo+n-1) ha (by lia) (by lia)
     lia
  case fin =>
   rintro c st2 ⟨m,q,rfl,e,hq,K2,hd⟩
   obtain⟨d2,eq2⟩:=hd (by lia)
   exact⟨m,q,rfl,by lia,by lia,hq,K2,d2,eq2⟩
  case step =>
   rintro i c st2 hi hi2 ⟨m,q,rfl,rfl,hq,K2,hd⟩
   obtain⟨d2,eq2⟩:=hd (by lia)
   dsimp only
   refine wpS_bind (zhh C K2.b (by lia) (by lia) ?_)
   have more:∀ st3,Dn rk (arrOf st3) lo m→R rk (arrOf st3) (lo+m)≤R rk (arrOf st3) (lo+m-1)→Dn rk (arrOf st3) lo (m+1):=by
    intro st3 d3 le a b ha hab hb
    by_cases q:b<lo+m
    ·exact d3 a b ha hab q
    ·obtain rfl:b=lo+m:=by lia
     by_cases q2:a=lo+m
     ·rw[q2];exact Int.le_refl _
     ·have:=d3 a (lo+m-1) ha (by lia) (by lia)
      lia
   by_cases z1:R rk (arrOf st2) (lo+m)<R rk (arrOf st2) (lo+m-1)
   ·rw[decide_eq_true z1]
    dsimp only
    rw[if_pos rfl]
    by_cases zq:q > 0
    ·rw[if_pos zq]
     refine wpS_bind (zfc (rk:=rk) (lo:=lo) K2.b (by lia) (by lia) fun st3 K3 r3=>wpS_pure ?_)
     have same:∀ k,R rk (arrOf st3) k=R rk (arrOf st2) k:=fun k=>by
      rw[r3]
      split
      ·rw[eq2 _ (by lia) (by lia),eq2 k (by lia) (by lia)]
      ·rfl
     refine⟨m+1,0,rfl,rfl,by lia,K2.trans K3,fun _=>⟨more st3 (fun a b ha hab hb=>by rw[same,same];exact d2 a b ha hab hb) (by rw[same,same];lia),fun k k1 k2=>by rw[show k=lo+(m+1)-1 by lia]⟩⟩
    ·rw[if_neg zq]
     exact wpS_pure ⟨m+1,0,rfl,rfl,by lia,K2,fun _=>⟨more st2 d2 (by lia),fun k k1 k2=>by rw[show k=lo+(m+1)-1 by lia]⟩⟩
   ·rw[decide_eq_false z1]
    dsimp only
    rw[if_neg Bool.false_ne_true]
    refine wpS_bind (zhh C K2.b (by lia) (by lia) ?_)
    by_cases z2:R rk (arrOf st2) (lo+m-1)<R rk (arrOf st2) (lo+m)
    ·rw[decide_eq_true z2]
     dsimp only
     rw[if_pos rfl]
     exact wpS_pure ⟨m,q,rfl,by lia,by lia,hq,K2,d2,eq2⟩
    ·rw[decide_eq_false z2]
     dsimp only
     rw[if_neg Bool.false_ne_true]
     have e:R rk (arrOf st2) (lo+m)=R rk (arrOf st2) (lo+m-1):=by lia
     refine wpS_pure ⟨m+1,q+1,rfl,rfl,by lia,K2,fun _=>⟨more st2 d2 (by lia),fun k k1 k2=>?_⟩⟩
     rw[show lo+(m+1)-1=lo+m by lia]
     by_cases q3:k=lo+m
     ·rw[q3]
     ·rw[eq2 k (by lia) (by lia),e]
  case post =>
   rintro c st2 ⟨m,q,rfl,m1,m2,hq,K2,d2,eq2⟩
   dsimp only
   generalize hT2:(bind (reverseSlice' lo (lo+m)) _:StateT SortSt Sem (Option Nat))=T2
   have on:∀ st3,Keep κ P rk a₀ lo st st3→Dn rk (arrOf st3) lo m→wpS (model prog w) A E s T2 Q st3:=by
    intro st3 K3 d3
    rw[← hT2]
    refine wpS_bind (zfc (rk:=rk) (lo:=lo) K3.b (by lia) (by lia) fun st4 K4 r4=>?_)
    refine wpS_bind (asc st4 m K4.b m1 (last st3 m K3 m1 m2 d3 st4 K4 r4) (fun n' a1 a2 hu' _=>?_) _ (fun i n=>rfl))
    exact wpS_pure (h _ _ (K3.trans K4) (by lia) (by lia) hu')
   by_cases zq:q > 0
   ·rw[if_pos zq]
    refine wpS_bind (zfc (rk:=rk) (lo:=lo) K2.b (by lia) (by lia) fun st3 K3 r3=>?_)
    have same:∀ k,R rk (arrOf st3) k=R rk (arrOf st2) k:=fun k=>by
     rw[r3]
     split
     ·rw[eq2 _ (by lia) (by lia),eq2 k (by lia) (by lia)]
     ·rfl
    exact on st3 (K2.trans K3) (fun a b ha hab hb=>by rw[same,same];exact d2 a b ha hab hb)
   ·rw[if_neg zq]
    exact on st2 K2 d2
 by_cases z2:n > 1
 ·rw[if_pos z2]
  refine wpS_bind (zhh C hB (by lia) (by lia) ?_)
  by_cases z3:R rk (arrOf st) lo<R rk (arrOf st) (lo+n-1)
  ·rw[decide_eq_true z3]
   exact wpS_pure (h _ _ (Keep.refl hB) n1 (by lia) hu)
  ·rw[decide_eq_false z3]
   dsimp only
   rw[if_neg Bool.false_ne_true]
   refine wpS_bind (zfc (rk:=rk) (lo:=lo) hB (by lia) (by lia) fun st1 K1 r1=>tail st1 K1 (fun a b ha hab hb=>?_) ?_)
   ·rw[r1,r1,if_pos ⟨by lia,by lia⟩,if_pos ⟨by lia,by lia⟩]
    exact hu _ _ (by lia) (by lia) (by lia)
   ·rw[r1,r1,if_neg (by lia),if_pos ⟨by lia,by lia⟩]
    have:=hu (lo+(lo+n)-1-(lo+n-1)) (lo+n-1) (by lia) (by lia) (by lia)
    have e:lo+(lo+n)-1-(lo+n-1)=lo:=by lia
    rw[e]at this ⊢
    have:=hu lo (lo+n-1) (by lia) (by lia) (by lia)
    lia
 ·rw[if_neg z2]
  exact tail st (Keep.refl hB) (fun a b ha hab hb=>by rw[show a=b by lia];exact Int.le_refl _) hs
end
section
variable {prog:Program}{w:World}{A:Around}{E:Value→Shared→Prop}{s:Shared}{κ:SortKind}{P:Keyed→Prop}{rk:Keyed→Int}{a₀:Array Keyed}
theorem R_bubble {xs:Array Keyed}{src d:Nat}(hs:src<xs.size) (hd:d≤src) (k:Nat):R rk (bubble xs src d) k=if k=src-d then R rk xs src else if src-d<k∧k≤src then R rk xs (k-1) else R rk xs k:=by
 have e:=getElem?_bubble (xs:=xs) hs d hd k
 by_cases h1:k=src-d
 ·rw[if_pos h1]at e ⊢;exact R_congr e
 ·rw[if_neg h1]at e ⊢
  by_cases h2:(src-d<k∧k≤src)
  ·rw[if_pos h2]at e ⊢;exact R_congr e
  ·rw[if_neg h2]at e ⊢;exact R_congr e
theorem zk1 (C:Cmp prog w A s κ P rk) {st:SortSt}{lo n ok:Nat}{Q:Bool→SortSt→Prop}(hB:Bs κ P a₀ st) (h1:1≤ok) (hok:ok≤n) (hn:lo+n≤a₀.size) (hu:Up rk (arrOf st) lo ok)
  (h:∀ st',Keep κ P rk a₀ lo st st'→Up rk (arrOf st') lo n→Q true st'):wpS (model prog w) A E s (binarySort' lo n ok) Q st:=by
 rw[binarySort'_eq]
 rw[show max ok 1=ok by lia]
 refine wpS_bind (wpS_mono (wpS_forRange (I:=fun k c st1=>c=(none,())∧Keep κ P rk a₀ lo st st1∧Up rk (arrOf st1) lo (min k n)) (Q:=fun c st1=>c=(none,())∧Keep κ P rk a₀ lo st st1∧Up rk (arrOf st1) lo n) ?step ?fin ?init) ?post)
 case init=>exact⟨rfl,Keep.refl hB,by rwa [Nat.min_eq_left hok]⟩
 case fin =>
  rintro c st1 ⟨rfl,K1,u1⟩
  rw[show min (max ok n) n=n by lia]at u1
  exact⟨rfl,K1,u1⟩
 case post =>
  rintro c st1 ⟨rfl,K1,u1⟩
  exact wpS_pure (h st1 K1 u1)
 case step =>
  rintro k c st1 hk1 hk2 ⟨rfl,K1,u1⟩
  rw[show min k n=k by lia]at u1
  refine wpS_bind (wpS_mono (wpS_forRange (I:=fun x c st2=>st2=st1∧∃ l r,c=(none,l,r)∧l≤r∧r≤k∧r-l≤k-x∧(∀ i,lo≤i→i<lo+l→R rk (arrOf st1) i≤R rk (arrOf st1) (lo+k))∧(∀ i,lo+r≤i→i<lo+k→R rk (arrOf st1) (lo+k)≤R rk (arrOf st1) i))
   (Q:=fun c st2=>st2=st1∧∃ l r,c=(none,l,r)∧l≤k∧(∀ i,lo≤i→i<lo+l→R rk (arrOf st1) i≤R rk (arrOf st1) (lo+k))∧(∀ i,lo+l≤i→i<lo+k→R rk (arrOf st1) (lo+k)≤R rk (arrOf st1) i)) ?istep ?ifin ?iinit) ?ipost)
  case iinit=>exact⟨rfl,0,k,rfl,by lia,by lia,by lia,fun i _ _=>by lia,fun i _ _=>by lia⟩
  case ifin =>
   rintro c st2 ⟨rfl,l,r,rfl,lr,rk',m,h2,h3⟩
   obtain rfl:l=r:=by lia
   exact⟨rfl,l,l,rfl,rk',h2,h3⟩
  case istep =>
   rintro x c st2 _ hx ⟨rfl,l,r,rfl,lr,rk',m,h2,h3⟩
   dsimp only
   by_cases ge:l≥r
   ·rw[if_pos ge]
    obtain rfl:l=r:=by lia
    exact wpS_pure ⟨rfl,l,l,rfl,rk',h2,h3⟩
   ·rw[if_neg ge]
    refine wpS_bind (zhh C K1.b (by lia) (by lia) ?_)
    by_cases z:R rk (arrOf st2) (lo+k)<R rk (arrOf st2) (lo+(l+r) / 2)
    ·rw[decide_eq_true z]
     refine wpS_pure ⟨rfl,l,(l+r) / 2,rfl,by lia,by lia,by lia,h2,fun i i1 i2=>?_⟩
     have:=u1 (lo+(l+r) / 2) i (by lia) i1 (by lia)
     lia
    ·rw[decide_eq_false z]
     refine wpS_pure ⟨rfl,(l+r) / 2+1,r,rfl,by lia,by lia,by lia,fun i i1 i2=>?_,h3⟩
     have:=u1 i (lo+(l+r) / 2) i1 (by lia) (by lia)
     lia
  case ipost =>
   rintro c st2 ⟨rfl,l,r,rfl,lk,h2,h3⟩
   dsimp only
   rw[moveDown'_eq]
   have sz:=K1.b.size
   have rb:∀ j,R rk (arrOf (setArr st2 (bubble (arrOf st2) (lo+k) (lo+k-(lo+l))))) j=if j=lo+l then R rk (arrOf st2) (lo+k) else if lo+l<j∧j≤lo+k then R rk (arrOf st2) (j-1) else R rk (arrOf st2) j:=fun j=>by
    have:=R_bubble (rk:=rk) (xs:=arrOf st2) (src:=lo+k) (d:=lo+k-(lo+l)) (by rw[sz];lia) (by lia) j
    rw[show lo+k-(lo+k-(lo+l))=lo+l by lia]at this
    exact this
   refine wpS_bind (wpS_modify (wpS_pure ⟨rfl,K1.trans ⟨K1.b.arr (bubble_perm _ _ _),rfl,fun j hj=>?_⟩,fun i j hi hij hj=>?_⟩))
   ·rw[rb,if_neg (by lia),if_neg (by lia)]
   ·rw[show min (k+1) n=k+1 by lia]at hj
    rw[rb,rb]
    by_cases a1:i=lo+l
    ·rw[if_pos a1]
     by_cases b1:j=lo+l
     ·rw[if_pos b1];exact Int.le_refl _
     ·rw[if_neg b1,if_pos ⟨by lia,by lia⟩]
      exact h3 _ (by lia) (by lia)
    ·rw[if_neg a1]
     by_cases a2:lo+l<i∧i≤lo+k
     ·rw[if_pos a2,if_neg (by lia),if_pos ⟨by lia,by lia⟩]
      exact u1 _ _ (by lia) (by lia) (by lia)
     ·rw[if_neg a2]
      by_cases b1:j=lo+l
      ·rw[if_pos b1];exact h2 _ hi (by lia)
      ·rw[if_neg b1]
       by_cases b2:lo+l<j∧j≤lo+k
       ·rw[if_pos b2];exact u1 _ _ hi (by lia) (by lia)
       ·rw[if_neg b2];exact u1 _ _ hi hij (by lia)
end
def bd (left:Bool) (k r:Int):Bool:=if left=true then decide (r<k) else !decide (k<r)
section
variable {prog:Program}{w:World}{A:Around}{E:Value→Shared→Prop}{s:Shared}{κ:SortKind}{P:Keyed→Prop}{rk:Keyed→Int}{a₀:Array Keyed}
end
def Srt (rk:Keyed→Int) (l:List Keyed):Prop:=l.Pairwise fun x y=>rk x≤rk y
section
variable {rk:Keyed→Int}{T out a b c:List Keyed}
theorem R_at {arr:Array Keyed}{i:Nat}{p:Keyed}(e:arr[i]?=some p):R rk arr i=rk p:=by unfold R;rw[e]
end
section
variable {rk:Keyed→Int}{T:List Keyed}{out a b:Array Keyed}{ia ib k:Nat}{p q:Keyed}
end
section
variable {prog:Program}{w:World}{A:Around}{E:Value→Shared→Prop}{s:Shared}{κ:SortKind}{P:Keyed→Prop}{rk:Keyed→Int}{a₀:Array Keyed}
end
section
variable {rk:Keyed→Int}{T out a b c:List Keyed}
theorem zk0 (arr:Array Keyed) (n:Nat):(arr.extract 0 n).toList=arr.toList.take n:=by
 rw[Array.toList_extract,List.extract_eq_take_drop,List.drop_zero,Nat.sub_zero]
end
section
variable {rk:Keyed→Int}{T:List Keyed}{out a b:Array Keyed}{na nb i:Nat}{p q:Keyed}
end
section
variable {prog:Program}{w:World}{A:Around}{E:Value→Shared→Prop}{s:Shared}{κ:SortKind}{P:Keyed→Prop}{rk:Keyed→Int}{a₀:Array Keyed}
end
section
variable {rk:Keyed→Int}
theorem zkm {arr:Array Keyed}{lo n:Nat}(h:Up rk arr lo n) (hn:lo+n≤arr.size):Srt rk (arr.extract lo (lo+n)).toList:=by
 refine List.pairwise_iff_getElem.mpr fun i j hi hj ij=>?_
 have hs:(arr.extract lo (lo+n)).size=n:=by rw[Array.size_extract];lia
 rw[Array.length_toList,hs]at hi hj
 have:=h (lo+i) (lo+j) (by lia) (by lia) (by lia)
 rw[R_at (getElem?_pos arr (lo+i) (by lia)),R_at (getElem?_pos arr (lo+j) (by lia))]at this
 simpa using this
end
section
variable {prog:Program}{w:World}{A:Around}{E:Value→Shared→Prop}{s:Shared}{κ:SortKind}{P:Keyed→Prop}{rk:Keyed→Int}{a₀:Array Keyed}
end
section
variable {prog:Program}{w:World}{A:Around}{E:Value→Shared→Prop}{s:Shared}{κ:SortKind}{P:Keyed→Prop}{rk:Keyed→Int}{a₀:Array Keyed}
theorem zjr (C:Cmp prog w A s κ P rk) {st:SortSt}{Q:Unit→SortSt→Prop}(hs:a₀.size<64) (hB:Bs κ P a₀ st) (hp:pendingOf st = #[])
  (h:∀ st',Bs κ P a₀ st'→Up rk (arrOf st') 0 a₀.size→Q () st'):wpS (model prog w) A E s sortRuns' Q st:=by
 rw[sortRuns'_eq]
 refine wpS_bind (wpS_get ?_)
 dsimp only
 rw[hB.size]
 have mr:∀ n,n<64→minRun' n n 0=n:=fun n hn=>by
  cases n with
  | zero=>rfl
  | succ n=>rw[minRun'_succ,if_pos hn]
 rw[mr _ hs]
 refine wpS_bind (wpS_mono (wpS_forRange (I:=fun i c st1=>∃ lo,c=(none,lo)∧((lo=0∧i=0∧Bs κ P a₀ st1∧pendingOf st1 = #[])∨(lo=a₀.size∧Bs κ P a₀ st1∧(pendingOf st1).size≤1∧Up rk (arrOf st1) 0 a₀.size)))
  (Q:=fun c st1=>∃ lo,c=(none,lo)∧Bs κ P a₀ st1∧(pendingOf st1).size≤1∧Up rk (arrOf st1) 0 a₀.size) ?step ?fin ?init) ?post)
 case init=>exact⟨0,rfl,.inl ⟨rfl,rfl,hB,hp⟩⟩
 case fin =>
  rintro c st1 ⟨lo,rfl,⟨_,z,b,p⟩|⟨_,b,p,u⟩⟩
  ·exact⟨lo,rfl,b,by rw[p];exact Nat.zero_le _,fun c d hc hcd hd=>by lia⟩
  ·exact⟨lo,rfl,b,p,u⟩
 case step =>
  rintro i c st1 _ hi ⟨lo,rfl,⟨rfl,rfl,b,p⟩|⟨rfl,b,p,u⟩⟩
  ·dsimp only
   rw[if_neg (show ¬ 0≥a₀.size by lia)]
   refine wpS_bind (ziG C b (by lia) (by lia) fun st2 n K2 n1 n2 u2=>?_)
   dsimp only
   have last:∀ st4,Bs κ P a₀ st4→pendingOf st4 = #[]→Up rk (arrOf st4) 0 a₀.size→wpS (model prog w) A E s (do
     modify fun st5=>setPending st5 ((pendingOf st5).push (0,a₀.size,0))
     pure (ForInStep.yield ((none:Option Unit),0+a₀.size))) (fun r st'=>match r with|.done c'=>∃ lo,c'=(none,lo)∧Bs κ P a₀ st'∧(pendingOf st').size≤1∧Up rk (arrOf st') 0 a₀.size|.yield c'=>∃ lo,c'=(none,lo)∧((lo=0∧0+1=0∧Bs κ P a₀ st'∧pendingOf st' = #[])∨(lo=a₀.size∧Bs κ P a₀ st'∧(pendingOf st').size≤1∧Up rk (arrOf st') 0 a₀.size))) st4:=by
    intro st4 b4 p4 u4
    refine wpS_bind (wpS_modify (wpS_pure ⟨0+a₀.size,rfl,.inr ⟨Nat.zero_add _,⟨b4.kind,b4.fail,b4.perm,b4.all⟩,?_,u4⟩⟩))
    show ((pendingOf st4).push (0,a₀.size,0)).size≤1
    rw[p4];exact Nat.le_refl _
   by_cases zm:n<a₀.size
   ·rw[if_pos zm]
    refine wpS_bind (zgN ?_)
    refine wpS_bind (zk1 C K2.b n1 (by lia) (by lia) u2 fun st3 K3 u3=>?_)
    have em:min (a₀.size-0) a₀.size=a₀.size:=by lia
    rw[em]at u3 ⊢
    rw[if_neg (show ¬(!true)=true by decide)]
    refine wpS_bind (wpS_get ?_)
    have p3:pendingOf st3 = #[]:=by rw[K3.pend,K2.pend,p]
    rw[p3]
    exact last st3 K3.b p3 u3
   ·rw[if_neg zm]
    have en:n=a₀.size:=by lia
    subst en
    refine wpS_bind (wpS_get ?_)
    have p3:pendingOf st2 = #[]:=by rw[K2.pend,p]
    rw[p3]
    exact last st2 K2.b p3 u2
  ·dsimp only
   rw[if_pos (Nat.le_refl _)]
   exact wpS_pure ⟨_,rfl,b,p,u⟩
 case post =>
  rintro c st1 ⟨lo,rfl,b,p,u⟩
  dsimp only
  refine wpS_bind (wpS_mono (wpS_forRange (I:=fun i c st2=>c=(none,())∧st2=st1) (Q:=fun c st2=>c=(none,())∧st2=st1) ?_ (fun c st2 hh=>hh) ⟨rfl,rfl⟩) ?_)
  ·rintro i c st2 _ hi ⟨rfl,rfl⟩
   refine wpS_bind (wpS_get ?_)
   rw[if_pos p]
   exact wpS_pure ⟨rfl,rfl⟩
  ·rintro c st2 ⟨rfl,rfl⟩
   exact wpS_pure (h st2 b u)
end
section
variable {prog:Program}{w:World}{A:Around}{E:Value→Shared→Prop}{s:Shared}
theorem zgu {a:Addr}{vs:List Value}{n:Nat}{Pp:Fin→Shared→Prop}(ho:s.heap.get? a=some (seqObj "list" vs.toArray n)) (hz:vs.length≤63) (κ:SortKind) (rv:Value→Int)
  (hkind:∀ h',(∀ c o,c≠a→s.heap.get? c=some o→h'.get? c=some o)→2≤vs.length→∀ {Q:SortKind→Shared→Prop}{E:Value→Shared→Prop},Q κ { s with heap:=h' }→wpAny (model prog w) A (keyKind' vs.toArray) Q E { s with heap:=h' })
  (hcmp:∀ h',(∀ c o,c≠a→s.heap.get? c=some o→h'.get? c=some o)→Cmp prog w A { s with heap:=h' } κ (fun p=>p.1∈vs) (fun p=>rv p.1))
  (h:∀ out:List Value,out.Perm vs→out.Pairwise (fun x y=>rv x≤rv y)→Pp (.done (.ret .none)) { s with heap:=sortedHeap s.heap a vs out.toArray }) :
  wpAny (model prog w) A (Builtin.«list.sort» ⟨[.ref a],[]⟩) Pp E s:=by
 have al:a<s.heap.objs.size:=Heap.lt_size ho
 have ln:vs.toArray.size=vs.length:=List.size_toArray ..
 have sl:vs.length≤sizeLine:=Nat.le_trans hz (by decide)
 rw[list_sort_plain]
 refine wpAny_bind (listItems_at ho rfl (wpAny_bind (listUpdate_at ho rfl ?_ (hsz:=by rw[ln];exact sl))))
 obtain⟨ep,e1⟩:∃ ep,(s.heap.update a (Obj.mapSeq fun _=>#[])).get? a=some (seqObj "list" #[] ep):=⟨_,get?_update_seq ho fun _=>#[]⟩
 refine wpAny_bind (seqEpoch_at e1 rfl (wpAny_bind (wpAny_newTuple (wpAny_bind (wpAny_newList (wpAny_holding ?_))))))
 have e6:(((s.heap.update a (Obj.mapSeq fun _=>#[])).push (seqObj "tuple" vs.toArray 0)).push (seqObj "list" #[] 0)).get? a=some (seqObj "list" #[] ep) :=
  Heap.get?_push_of_some _ (Heap.get?_push_of_some _ e1)
 have old:∀ c o,c≠a→s.heap.get? c=some o→(((s.heap.update a (Obj.mapSeq fun _=>#[])).push (seqObj "tuple" vs.toArray 0)).push (seqObj "list" #[] 0)).get? c=some o:=fun c o nc q =>
  Heap.get?_push_of_some _ (Heap.get?_push_of_some _ ((Heap.get?_update_other _ _ (Ne.symm nc)).trans q))
 show wpAny (model prog w) A _ Pp E { s with heap:=((s.heap.update a (Obj.mapSeq fun _=>#[])).push (seqObj "tuple" vs.toArray 0)).push (seqObj "list" #[] 0) }
 have lo:∀ out:List Value,out.Perm vs→out.toArray.size≤sizeLine+1:=fun out p1=>by rw[List.size_toArray,p1.length_eq];lia
 generalize hH:((s.heap.update a (Obj.mapSeq fun _=>#[])).push (seqObj "tuple" vs.toArray 0)).push (seqObj "list" #[] 0)=h6 at e6 old ⊢
 have back:∀ out:Array Value,sortedHeap s.heap a vs out=h6.update a (Obj.mapSeq fun _=>out):=fun out=>by rw[← hH];rfl
 by_cases few:vs.toArray.size<2
 ·rw[if_pos few,if_pos few]
  refine wpAny_bind (wpAny_pure (?_:wpAny _ _ _ _ _ _))
  refine wpAny_bind (wpAny_pure ?_)
  have em:(vs.toArray.zip vs.toArray).map (·.2)=vs.toArray:=by
   apply Array.ext'
   rw[Array.toList_map,Array.toList_zip]
   exact List.map_snd_zip (Nat.le_refl _)
  have one:vs.Pairwise (fun x y=>rv x≤rv y):=by
   match vs,few with
   | [],_=>exact List.Pairwise.nil
   | [x],_=>exact List.pairwise_singleton _ _
   | _::_::_,z=>simp at z;lia
  have k:=h vs (List.Perm.refl _) one
  rw[back]at k
  dsimp only
  rw[em]
  refine wpAny_bind (seqEpoch_at e6 rfl (wpAny_bind (listUpdate_at e6 rfl ?_ (hsz:=Nat.zero_le _) (hsz2:=lo vs (List.Perm.refl _)))))
  simp only[if_false,bne_self_eq_false,Bool.false_eq_true]
  exact wpAny_pure k
 rw[if_neg few,if_neg few]
 refine wpAny_bind (hkind h6 old (by lia) ?_)
 have C:=hcmp h6 old
 refine wpAny_bind (wpAny_mono (zjr C (hs:=by simp;lia) (a₀:=vs.toArray.zip vs.toArray) (st:=SortSt.mk' κ (vs.toArray.zip vs.toArray) #[] 7 none)
  (Q:=fun _ st'=>Bs κ (fun p=>p.1∈vs) (vs.toArray.zip vs.toArray) st'∧Up (fun p=>rv p.1) (arrOf st') 0 (vs.toArray.zip vs.toArray).size) ⟨rfl,rfl,Array.Perm.refl _,fun p hp=>?_⟩ rfl fun st' b u=>⟨b,u⟩) ?_ fun _ _ e=>e)
 ·have:(vs.toArray.zip vs.toArray).toList=vs.zip vs:=by simp
  rw[this]at hp
  exact(List.of_mem_zip hp).1
 rintro⟨⟨⟩,st'⟩ s' ⟨rfl,b,u⟩
 have pl:(arrOf st').toList.Perm (vs.zip vs):=by
  have:=Array.perm_iff_toList_perm.mp b.perm
  simpa using this
 have same:∀ p∈(arrOf st').toList,p.1=p.2:=fun p hp=>by
  have h1:=pl.mem_iff.mp hp
  obtain⟨i,hi⟩:=List.mem_iff_getElem?.mp h1
  rw[List.getElem?_zip_eq_some]at hi
  have:=hi.1.symm.trans hi.2
  exact Option.some.inj this
 have so:Srt (fun p=>rv p.1) (arrOf st').toList:=by
  have:=zkm (arr:=arrOf st') (lo:=0) (n:=(arrOf st').size) (by rw[b.size];exact u) (by lia)
  rw[Nat.zero_add,zk0,← Array.length_toList,List.take_length]at this
  exact this
 have pm:((arrOf st').toList.map (·.2)).Perm vs:=by
  have:=pl.map (·.2)
  rwa [List.map_snd_zip (Nat.le_refl _)]at this
 have em:(arrOf st').map (·.2)=((arrOf st').toList.map (·.2)).toArray:=by
  apply Array.ext';simp
 have k:=h _ pm (by
  refine List.pairwise_map.mpr (List.Pairwise.imp_of_mem ?_ so)
  intro x y hx hy le
  rw[← same x hx,← same y hy];exact le)
 rw[back]at k
 dsimp only
 rw[em,b.fail]
 refine wpAny_bind (seqEpoch_at e6 rfl (wpAny_bind (listUpdate_at e6 rfl ?_ (hsz:=Nat.zero_le _) (hsz2:=lo _ pm))))
 simp only[if_false,bne_self_eq_false,Bool.false_eq_true]
 exact wpAny_pure k
end
end Ts
namespace Own
open PySem PySem.Spec PyProof.Rows
abbrev IsZipN (h:Heap) (z TI TO t:Addr) (c:Bool):Prop:=h.get? z=some { cls:=.type "zip",dict:=none,data:=.fields #[rawInt t,.bool c,.bool false,.ref TI,.ref TO],slots:=#[] }
section
variable {prog:Program}{w:World}{A:Around}{E:Value→Shared→Prop}{s:Shared}{z TI TO i1 i2:Addr}{f1 f2:List Addr}{n1 n2 k:Nat}{P1 P2:Nat→Value→Prop}{S1 S2:Nat→Heap→Prop}{a b:Value}
theorem zc8 {α:Type}{t:Addr}{c:Bool}{o:Obj}{f:Bool→Sem α}{Q:α→Shared→Prop}(hz:IsZipN s.heap z TI TO t c) (ho:s.heap.get? t=some o) (h:∀ h',IsZipN h' z TI TO t true→Heap.SameBut z s.heap h'→wpAny (model prog w) A (f false) Q E { s with heap:=h' }) :
  wpAny (model prog w) A (Builtin.SmallTypes.ownedTupleIsFree (.ref z) >>= f) Q E s:=by
 refine wpAny_bind ?_;unfold Builtin.SmallTypes.ownedTupleIsFree
 refine rf 0 hz rfl rfl ?_
 show wpAny _ _ (loadIfAlive ((t:Int).toNat) >>= _) _ _ _
 rw[Int.toNat_natCast]
 refine wpAny_bind (PySem.W.kdx_alive ho ?_)
 simp only[Bool.false_eq_true,if_false,Option.isNone_some]
 refine rf (x:=.bool c) 1 hz rfl rfl ?_
 have eT:(Value.bool true != Value.bool true)=false:=rfl
 have eF:(Value.bool false != Value.bool true)=true:=rfl
 cases c with
 | true =>
  rw[eT]
  exact wpAny_pure (h s.heap hz (Heap.SameBut.refl _ _))
 | false =>
  rw[eF]
  exact wpAny_bind (wpAny_setField_rec hz (show 1<5 by decide) fun h' z' sb=>wpAny_pure (h h' z' sb))
theorem zf2 {t:Addr}{c:Bool}{o:Obj}(S:Sep z TI TO i1 i2 f1 f2) (D1:Draws prog w A i1 f1 n1 P1 S1) (D2:Draws prog w A i2 f2 n2 P2 S2) {Q:Value→Shared→Prop}
  (hz:IsZipN s.heap z TI TO t c) (ho:s.heap.get? t=some o) (hI:IsPair s.heap TI (.ref i1) (.ref i2)) (d1:S1 k s.heap) (d2:S2 k s.heap) (l1:k<n1) (l2:k<n2)
  (h:∀ x y h' tk,P1 k x→P2 k y→IsZipN h' z TI TO t true→S1 (k+1) h'→S2 (k+1) h'→IsPair h' s.heap.objs.size x y →
   (∀ c o,c∉[z,TO,i1,i2]→s.heap.get? c=some o→h'.get? c=some o)→Q (.ref s.heap.objs.size) { s with heap:=h',toks:=tk }) :
  wpAny (model prog w) A (Builtin.«zip.__next__» ⟨[.ref z],[]⟩) (fun r s'=>∃ v,r=.done (.ret v)∧Q v s') E s:=by
 have nd:=S.all
 simp only[List.nodup_cons,List.mem_cons,List.not_mem_nil,or_false,not_or]at nd
 obtain⟨⟨zI,zO,z1,z2⟩,⟨IO,I1,I2⟩,⟨O1,O2⟩,n12,_⟩:=nd
 refine rf 2 hz rfl rfl (rf 3 hz rfl rfl (wpAny_bind (wpAny_seqItems hI rfl (zc8 hz ho fun ha za sa=>?_))))
 rw[if_neg Bool.false_ne_true]
 refine wpAny_bind ?_
 simp only[List.forIn_toArray,List.forIn_cons,List.forIn_nil]
 refine wpAny_bind (wpAny_bind (wpAny_holding (wpAny_bind (D1.item k _ _ _ l1 (D1.frame _ _ _ d1 fun c hc o e=>(sa.2 c fun q=>S.z1 (q ▸ hc)).trans e) fun x hb tb px db sb=>wpAny_pure (wpAny_pure ?_)))))
 have st2:S2 k hb:=D2.frame _ _ _ d2 fun c hm o e=>(sb.2 c fun q=>S.o2 (q ▸ hm)).trans ((sa.2 c fun q=>S.z2 (q ▸ hm)).trans e)
 refine wpAny_bind (wpAny_bind (wpAny_holding (wpAny_bind (D2.item k _ _ _ l2 st2 fun y hd td py dd sd=>wpAny_pure (wpAny_pure (wpAny_pure ?_))))))
 refine wpAny_bind (wpAny_newTuple (wpAny_pure ⟨_,rfl,?_⟩) (hsz:=by show 2≤sizeLine;decide))
 have sz:hd.objs.size=s.heap.objs.size:=by rw[sd.1,sb.1,sa.1]
 show Q (.ref hd.objs.size) _
 rw[sz]
 have zd:IsZipN hd z TI TO t true:=(sd.2 z z2).trans ((sb.2 z z1).trans za)
 have new:(hd.push { cls:=.type "tuple",data:=.seq #[x,y] }).get? s.heap.objs.size=some { cls:=.type "tuple",data:=.seq #[x,y] }:=by rw[← sz];exact Heap.get?_push_size _ rfl
 refine h x y _ td px py (Heap.get?_push_of_some _ zd) ?_ ?_ new fun c o hc e=>?_
 ·exact D1.frame _ _ _ db fun c hm o e=>Heap.get?_push_of_some _ ((sd.2 c fun q=>S.o1 (q ▸ hm)).trans e)
 ·exact D2.frame _ _ _ dd fun c hm o e=>Heap.get?_push_of_some _ e
 ·simp only[List.mem_cons,List.not_mem_nil,or_false,not_or]at hc
  exact Heap.get?_push_of_some _ ((sd.2 c hc.2.2.2).trans ((sb.2 c hc.2.2.1).trans ((sa.2 c hc.1).trans e)))
theorem zdE {t:Addr}{c:Bool}{o:Obj}(S:Sep z TI TO i1 i2 f1 f2) (D1:Draws prog w A i1 f1 n1 P1 S1) {Q:Fin→Shared→Prop}(hz:IsZipN s.heap z TI TO t c) (ho:s.heap.get? t=some o) (hI:IsPair s.heap TI (.ref i1) (.ref i2)) (d1:S1 n1 s.heap)
  (h:∀ h' x,(∀ c o,c∉[z,TO,i1,i2]→s.heap.get? c=some o→h'.get? c=some o)→(∃ o,h'.get? x=some o∧o.cls=.type "StopIteration")→E (.ref x) { s with heap:=h' }):wpAny (model prog w) A (Builtin.«zip.__next__» ⟨[.ref z],[]⟩) Q E s:=by
 refine rf 2 hz rfl rfl (rf 3 hz rfl rfl (wpAny_bind (wpAny_seqItems hI rfl (zc8 hz ho fun ha za sa=>?_))))
 rw[if_neg Bool.false_ne_true]
 refine wpAny_bind ?_
 simp only[List.forIn_toArray,List.forIn_cons,List.forIn_nil]
 refine wpAny_bind (wpAny_bind (wpAny_holding (wpAny_bind (D1.done _ _ _ (D1.frame _ _ _ d1 fun c hc o e=>(sa.2 c fun q=>S.z1 (q ▸ hc)).trans e) fun hb x kb ex=>?_))))
 refine h hb x (fun c o hm e=>?_) ex
 simp only[List.mem_cons,List.not_mem_nil,or_false,not_or]at hm
 exact kb c o hm.2.2.1 ((sa.2 c hm.1).trans e)
end
theorem zdF:typeLookup (.type "zip") "__len__" = pure none:=by rw[typeLookup_type,builtinLookup_eq_fast];kernel_rfl
theorem zcO:typeLookup (.type "zip") "__length_hint__" = pure none:=by rw[typeLookup_type,builtinLookup_eq_fast];kernel_rfl
def ZSt (z TI TO i1 i2:Addr) (S1 S2:Nat→Heap→Prop) (k:Nat) (acc:Array Value) (h:Heap):Prop :=
 IsPair h TI (.ref i1) (.ref i2)∧S1 k h∧S2 k h∧((k=0∧IsZip h z TI TO .none∧∃ a b,IsPair h TO a b)∨(1≤k∧∃ t c,acc[0]?=some (.ref t)∧IsZipN h z TI TO t c))
def Kept (far:List Addr) (P1 P2:Nat→Value→Prop) (acc:Array Value) (h:Heap):Prop:=∀ j v,acc[j]?=some v→∃ t x y,v=.ref t∧t∉far∧IsPair h t x y∧P1 j x∧P2 j y
section
variable {prog:Program}{w:World}{A:Around}{E:Value→Shared→Prop}{s:Shared}{z TI TO i1 i2 L:Addr}{f1 f2:List Addr}{n n2 k:Nat}{P1 P2:Nat→Value→Prop}{S1 S2:Nat→Heap→Prop}
theorem zka {acc:Array Value}(S:Sep z TI TO i1 i2 f1 f2) (D1:Draws prog w A.in1 i1 f1 n P1 S1) (D2:Draws prog w A.in1 i2 f2 n2 P2 S2) (hle:n≤n2) {Q:Option Value→Shared→Prop}(Z:ZSt z TI TO i1 i2 S1 S2 k acc s.heap) (K:Kept [z,TI,TO,i1,i2,L] P1 P2 acc s.heap) (ha:acc.size=k) (hL:L<s.heap.objs.size) (hTO:TO<s.heap.objs.size) (lk:k<n)
  (h:∀ h' tk x y,P1 k x→P2 k y→IsPair h' s.heap.objs.size x y→ZSt z TI TO i1 i2 S1 S2 (k+1) (acc.push (.ref s.heap.objs.size)) h'→Kept [z,TI,TO,i1,i2,L] P1 P2 (acc.push (.ref s.heap.objs.size)) h' →
   (∀ c o,c∉[z,TO,i1,i2]→s.heap.get? c=some o→h'.get? c=some o)→Q (some (.ref s.heap.objs.size)) { s with heap:=h',toks:=tk }):wpAny (model prog w) A (pyNext (.ref z)) Q E s:=by
 obtain⟨hI,d1,d2,st⟩:=Z
 have nd:=S.all
 simp only[List.nodup_cons,List.mem_cons,List.not_mem_nil,or_false,not_or]at nd
 obtain⟨⟨zI,zO,z1,z2⟩,⟨IO,I1,I2⟩,⟨O1,O2⟩,n12,_⟩:=nd
 obtain⟨o1,e1⟩:=D1.live _ _ d1
 obtain⟨o2,e2⟩:=D2.live _ _ d2
 have old:∀ h':Heap,(∀ c o,c∉[z,TO,i1,i2]→s.heap.get? c=some o→h'.get? c=some o)→∀ x y,IsPair h' s.heap.objs.size x y→P1 k x→P2 k y→(∃ oz,s.heap.get? z=some oz)→TO<s.heap.objs.size→Kept [z,TI,TO,i1,i2,L] P1 P2 (acc.push (.ref s.heap.objs.size)) h':=by
  intro h' kk x y new px py ⟨oz,ez⟩ lt j v hv
  by_cases q:j<acc.size
  ·rw[Array.getElem?_push_lt q]at hv
   obtain⟨t,x',y',rfl,nt,ht,p1,p2⟩:=K j v ((getElem?_pos acc j q).trans hv)
   refine⟨t,x',y',rfl,nt,kk t _ (fun m=>nt ?_) ht,p1,p2⟩
   simp only[List.mem_cons,List.not_mem_nil,or_false]at m ⊢
   rcases m with m|m|m|m<;>simp[m]
  ·have jl:j<(acc.push (.ref s.heap.objs.size)).size:=(Array.getElem?_eq_some_iff.mp hv).1
   rw[Array.size_push]at jl
   obtain rfl:j=acc.size:=by lia
   rw[Array.getElem?_push_size]at hv
   obtain rfl:=Option.some.inj hv
   refine⟨_,x,y,rfl,fun m=>?_,new,by rw[ha];exact px,by rw[ha];exact py⟩
   simp only[List.mem_cons,List.not_mem_nil,or_false]at m
   have b1:=Heap.lt_size ez
   have b2:=Heap.lt_size hI
   have b3:=Heap.lt_size e1
   have b4:=Heap.lt_size e2
   rcases m with m|m|m|m|m|m
   ·exact Nat.ne_of_gt b1 m
   ·exact Nat.ne_of_gt b2 m
   ·exact Nat.ne_of_gt lt m
   ·exact Nat.ne_of_gt b3 m
   ·exact Nat.ne_of_gt b4 m
   ·exact Nat.ne_of_gt hL m
 have first:∀ t,acc[0]?=some (Value.ref t)→(acc.push (.ref s.heap.objs.size))[0]?=some (Value.ref t):=fun t e=>by
  have q:=(Array.getElem?_eq_some_iff.mp e).1
  rw[Array.getElem?_push_lt q];exact(getElem?_pos acc 0 q).symm.trans e
 rcases st with ⟨rfl,hz,a,b,hO⟩|⟨k1,t,c,ht,hz⟩
 ·have tyz:s.TypeIs (.ref z) "zip":=⟨_,hz,rfl⟩
  unfold pyNext
  refine wpAny_bind (wpAny_attempt (wpAny_callSpecial?_slot (name:="__next__") tyz F.slot_zip_next (wpAny_call_entry F.slot_zip_next tyz F.entry_zip_next (ze1 S D1 D2 hz hI hO d1 d2 lk (by lia)
   fun x y h' tk p1 p2 zh Oh s1 s2 new kk=>wpAny_pure ?_) (F.args_zip_next_1 _))))
  have acc0:acc = #[]:=Array.size_eq_zero_iff.mp ha
  subst acc0
  exact h h' tk x y p1 p2 new ⟨kk TI _ (by simp[Ne.symm zI,IO,I1,I2]) hI,s1,s2,.inr ⟨by lia,s.heap.objs.size,false,rfl,zh⟩⟩ (old h' kk x y new p1 p2 ⟨_,hz⟩ (Heap.lt_size hO)) kk
 ·have tyz:s.TypeIs (.ref z) "zip":=⟨_,hz,rfl⟩
  obtain⟨t',x0,y0,et,nt,ht',_,_⟩:=K 0 _ ht
  cases et
  unfold pyNext
  refine wpAny_bind (wpAny_attempt (wpAny_callSpecial?_slot (name:="__next__") tyz F.slot_zip_next (wpAny_call_entry F.slot_zip_next tyz F.entry_zip_next (zf2 S D1 D2 hz ht' hI d1 d2 lk (by lia)
   fun x y h' tk p1 p2 zh s1 s2 new kk=>wpAny_pure ?_) (F.args_zip_next_1 _))))
  exact h h' tk x y p1 p2 new ⟨kk TI _ (by simp[Ne.symm zI,IO,I1,I2]) hI,s1,s2,.inr ⟨by lia,t,true,first t ht,zh⟩⟩ (old h' kk x y new p1 p2 ⟨_,hz⟩ hTO) kk
theorem zi1 {acc:Array Value}(S:Sep z TI TO i1 i2 f1 f2) (D1:Draws prog w A.in1 i1 f1 n P1 S1) {Q:Option Value→Shared→Prop}(Z:ZSt z TI TO i1 i2 S1 S2 n acc s.heap) (K:Kept [z,TI,TO,i1,i2,L] P1 P2 acc s.heap)
  (h:∀ h',(∀ c o,c∉[z,TO,i1,i2]→s.heap.get? c=some o→h'.get? c=some o)→Q none { s with heap:=h' }):wpAny (model prog w) A (pyNext (.ref z)) Q E s:=by
 obtain⟨hI,d1,d2,st⟩:=Z
 rcases st with ⟨rfl,hz,a,b,hO⟩|⟨k1,t,c,ht,hz⟩
 ·have tyz:s.TypeIs (.ref z) "zip":=⟨_,hz,rfl⟩
  unfold pyNext
  refine wpAny_bind (wpAny_attempt (wpAny_callSpecial?_slot (name:="__next__") tyz F.slot_zip_next (wpAny_call_entry F.slot_zip_next tyz F.entry_zip_next (ze0 S D1 hz hI d1 fun h' x kk ⟨o,eo,co⟩=>?_) (F.args_zip_next_1 _))))
  exact wpAny_bind (wpAny_isInstance (T:="StopIteration") (b:=true) ⟨o,eo,co⟩ isSubtype_stop (wpAny_pure (h h' kk)))
 ·have tyz:s.TypeIs (.ref z) "zip":=⟨_,hz,rfl⟩
  obtain⟨t',x0,y0,et,nt,ht',_,_⟩:=K 0 _ ht
  cases et
  unfold pyNext
  refine wpAny_bind (wpAny_attempt (wpAny_callSpecial?_slot (name:="__next__") tyz F.slot_zip_next (wpAny_call_entry F.slot_zip_next tyz F.entry_zip_next (zdE S D1 hz ht' hI d1 fun h' x kk ⟨o,eo,co⟩=>?_) (F.args_zip_next_1 _))))
  exact wpAny_bind (wpAny_isInstance (T:="StopIteration") (b:=true) ⟨o,eo,co⟩ isSubtype_stop (wpAny_pure (h h' kk)))
theorem zhv {res:Value}{R:Result→Shared→Prop}{J:Array Value→Shared→Prop}(S:Sep z TI TO i1 i2 f1 f2) (D1:Draws prog w A.in1.in1 i1 f1 n P1 S1) (D2:Draws prog w A.in1.in1 i2 f2 n2 P2 S2) (hle:n≤n2) (nL:L∉[z,TI,TO,i1,i2]++f1++f2) (hn:n≤sizeLine)
  (jn:∀ (acc:Array Value) (s:Shared) (h':Heap) tk x y,J acc s→L<s.heap.objs.size→P1 acc.size x→P2 acc.size y→IsPair h' s.heap.objs.size x y→(∀ c o,c∉[z,TO,i1,i2]→s.heap.get? c=some o→h'.get? c=some o)→J (acc.push (.ref s.heap.objs.size)) { s with heap:=h',toks:=tk })
  (jf:∀ (acc:Array Value) (s:Shared) (h':Heap) tk,J acc s→(∀ c o,c∉[z,TO,i1,i2,L]→s.heap.get? c=some o→h'.get? c=some o)→J acc { s with heap:=h',toks:=tk }) :
  ∀ (m k:Nat) (s:Shared) (acc:Array Value) (c:Nat),k+m=n→acc.size=k→ZSt z TI TO i1 i2 S1 S2 k acc s.heap→Kept [z,TI,TO,i1,i2,L] P1 P2 acc s.heap→s.heap.get? L=some { cls:=.type "list",dict:=none,data:=.seq acc c,slots:=#[] }→TO<s.heap.objs.size→J acc s →
   (∀ h' tk acc' c',acc'.size=n→J acc' { s with heap:=h',toks:=tk }→Kept [z,TI,TO,i1,i2,L] P1 P2 acc' h'→h'.get? L=some { cls:=.type "list",dict:=none,data:=.seq acc' c',slots:=#[] }→(∀ b o,b∉[z,TO,i1,i2,L]→s.heap.get? b=some o→h'.get? b=some o)→R (.ok (.ret res)) { s with heap:=h',toks:=tk }) →
   codeAny (model prog w) A (.builtin "list.extend.loop" ⟨[.ref L,.ref z,res],[]⟩) R s:=by
 simp only[List.mem_append,List.mem_cons,List.not_mem_nil,or_false,not_or]at nL
 obtain⟨⟨⟨Lz,LI,LO,L1,L2⟩,Lf1⟩,Lf2⟩:=nL
 intro m
 induction m with
 | zero =>
  intro k s acc c km ha Z K hs hTO j0 fin
  obtain rfl:k=n:=by lia
  refine codeAny_builtin F.entry_extend_loop (by
   refine Around.under_plainId F.plain_extend_loop _ ▸ (show wpAny _ A.in1 (pyNext (.ref z) >>= _) _ _ _ from wpAny_bind (zi1 S D1 Z K fun h' kk=>?_))
   refine wpAny_pure (fin h' s.toks acc c ha (jf acc s h' s.toks j0 fun c o hc e=>kk c o (fun m=>hc (by simp only[List.mem_cons,List.not_mem_nil,or_false]at m ⊢;rcases m with m|m|m|m<;>simp[m])) e) (fun j v hv=>?_) (kk L _ (by simp[Lz,LO,L1,L2]) hs) fun b o hb e=>kk b o (fun m=>hb ?_) e)
   ·obtain⟨t,x,y,rfl,nt,ht,p1,p2⟩:=K j v hv
    refine⟨t,x,y,rfl,nt,kk t _ (fun m=>nt ?_) ht,p1,p2⟩
    simp only[List.mem_cons,List.not_mem_nil,or_false]at m ⊢
    rcases m with m|m|m|m<;>simp[m]
   ·simp only[List.mem_cons,List.not_mem_nil,or_false]at m ⊢
    rcases m with m|m|m|m<;>simp[m])
 | succ m ih =>
  intro k s acc c km ha Z K hs hTO j0 fin
  have Ls:=Heap.lt_size hs
  refine codeAny_builtin F.entry_extend_loop (by
   refine Around.under_plainId F.plain_extend_loop _ ▸ (show wpAny _ A.in1 (pyNext (.ref z) >>= _) _ _ _ from wpAny_bind (zka (L:=L) S D1 D2 hle Z K ha Ls hTO (by lia) fun h1 tk x y px py new Z1 K1 kk=>?_))
   have hs1:=kk L _ (by simp[Lz,LO,L1,L2]) hs
   show wpAny _ A.in1 (updateSeq L (·.push (.ref s.heap.objs.size)) >>= _) _ _ _
   refine wpAny_bind (wpAny_updateSeq hs1 rfl ?_ (hz:=by rw[ha];lia) (_hz':=by rw[Array.size_push,ha];lia))
   have oth:∀ b o,b≠L→h1.get? b=some o→(h1.update L (Obj.mapSeq (·.push (.ref s.heap.objs.size)))).get? b=some o:=fun b o hb e=>(Heap.get?_update_other _ _ (Ne.symm hb)).trans e
   obtain⟨hI,d1,d2,st⟩:=Z1
   have hs2:=Heap.get?_update_self (Obj.mapSeq (·.push (.ref s.heap.objs.size))) hs1 rfl
   refine wpAny_pure ⟨plainId_quiet F.plain_extend_loop _,ih (k+1) _ (acc.push (.ref s.heap.objs.size)) _ (by lia) (by rw[Array.size_push,ha]) ⟨oth _ _ (Ne.symm LI) hI,D1.frame _ _ _ d1 fun b hb o e=>oth b o (fun q=>Lf1 (q ▸ hb)) e,D2.frame _ _ _ d2 fun b hb o e=>oth b o (fun q=>Lf2 (q ▸ hb)) e,?_⟩ (fun j v hv=>?_) hs2 ?_ (jf _ _ _ tk (jn acc s h1 tk x y j0 Ls (by rw[ha];exact px) (by rw[ha];exact py) new kk) fun c o hc e=>oth c o (fun q=>hc (by simp[q])) e) fun h' tk' acc' c' a1 j1 a2 a3 a4=>fin h' tk' acc' c' a1 j1 a2 a3 fun b o hb e=>a4 b o hb ?_⟩
   ·rcases st with ⟨q,_⟩|⟨q,t,c',e,hz⟩
    ·lia
    ·exact .inr ⟨q,t,c',e,oth _ _ (Ne.symm Lz) hz⟩
   ·obtain⟨t,x,y,rfl,nt,ht,p1,p2⟩:=K1 j v hv
    exact⟨t,x,y,rfl,nt,oth t _ (fun q=>nt (by simp[q])) ht,p1,p2⟩
   ·rw[Heap.size_update]
    obtain⟨t,x,y,e,_,ht,_,_⟩:=K1 acc.size _ Array.getElem?_push_size
    cases e
    exact Nat.lt_trans hTO (Heap.lt_size ht)
   ·simp only[List.mem_cons,List.not_mem_nil,or_false,not_or]at hb
    exact oth b o hb.2.2.2.2 (kk b o (by simp[hb]) e))
theorem zfW {Q:List Value→Shared→Prop}{J:Array Value→Shared→Prop}(S:Sep z TI TO i1 i2 f1 f2) (D1:Draws prog w A.in1.in1 i1 f1 n P1 S1) (D2:Draws prog w A.in1.in1 i2 f2 n2 P2 S2) (hle:n≤n2) (hz:IsZip s.heap z TI TO .none) (hI:IsPair s.heap TI (.ref i1) (.ref i2)) {a b:Value}(hO:IsPair s.heap TO a b) (d1:S1 0 s.heap) (d2:S2 0 s.heap)
  (low:∀ c∈f1++f2,c<s.heap.objs.size) (hn:n≤sizeLine)
  (jn:∀ (acc:Array Value) (s':Shared) (h':Heap) tk x y,J acc s'→s.heap.objs.size<s'.heap.objs.size→P1 acc.size x→P2 acc.size y→IsPair h' s'.heap.objs.size x y→(∀ c o,c∉[z,TO,i1,i2]→s'.heap.get? c=some o→h'.get? c=some o)→J (acc.push (.ref s'.heap.objs.size)) { s' with heap:=h',toks:=tk })
  (jf:∀ (acc:Array Value) (s':Shared) (h':Heap) tk,J acc s'→(∀ c o,c∉[z,TO,i1,i2,s.heap.objs.size]→s'.heap.get? c=some o→h'.get? c=some o)→J acc { s' with heap:=h',toks:=tk })
  (j0:J #[] s)
  (h:∀ h' tk (acc:Array Value),acc.size=n→J acc { s with heap:=h',toks:=tk }→Kept [z,TI,TO,i1,i2,s.heap.objs.size] P1 P2 acc h'→(∀ b o,b∉[z,TO,i1,i2]→s.heap.get? b=some o→h'.get? b=some o)→s.heap.objs.size<h'.objs.size→Q acc.toList { s with heap:=h',toks:=tk }):wpAny (model prog w) A (collect (.ref z)) Q E s:=by
 obtain⟨o1,e1⟩:=D1.live _ _ d1
 obtain⟨o2,e2⟩:=D2.live _ _ d2
 have nL:s.heap.objs.size∉[z,TI,TO,i1,i2]++f1++f2:=fun m=>by
  simp only[List.mem_append,List.mem_cons,List.not_mem_nil,or_false]at m
  rcases m with ((m|m|m|m|m)|m)|m
  ·exact Nat.ne_of_gt (Heap.lt_size hz) m
  ·exact Nat.ne_of_gt (Heap.lt_size hI) m
  ·exact Nat.ne_of_gt (Heap.lt_size hO) m
  ·exact Nat.ne_of_gt (Heap.lt_size e1) m
  ·exact Nat.ne_of_gt (Heap.lt_size e2) m
  ·exact Nat.lt_irrefl _ (low _ (List.mem_append_left _ m))
  ·exact Nat.lt_irrefl _ (low _ (List.mem_append_right _ m))
 have p1:∀ c o,s.heap.get? c=some o→(s.heap.push (seqObj "list" #[] 0)).get? c=some o:=fun c o e=>Heap.get?_push_of_some _ e
 have tyz:Shared.TypeIs ({ s with heap:=s.heap.push (seqObj "list" #[] 0) }:Shared) (.ref z) "zip":=⟨_,p1 _ _ hz,rfl⟩
 have new:(s.heap.push (seqObj "list" #[] 0)).get? s.heap.objs.size=some (seqObj "list" #[] 0):=Heap.get?_push_size _ rfl
 unfold collect
 refine wpAny_bind (wpAny_runValue (codeAny_builtin entry_proto_collect' (Around.under_plainId F.plain_proto_collect _ ▸ (wpAny_bind (wpAny_newList (wpAny_pure ⟨Code.quiet_builtin _ (by decide +kernel),codeAny_builtin entry_list_iadd' (Around.under_plainId F.plain_list_iadd _ ▸ ?_)⟩))))))
 show wpAny _ A.in1 (Builtin.List.listExtendWith (.ref s.heap.objs.size) (.ref z) (.ref s.heap.objs.size)) _ _ ({ s with heap:=s.heap.push (seqObj "list" #[] 0) }:Shared)
 unfold Builtin.List.listExtendWith;refine wpAny_bind (wpAny_typeOf tyz ?_)
 have no:(Builtin.List.listSameRef (.ref s.heap.objs.size) (.ref z) || Value.type "zip" == Value.type "list" || Value.type "zip" == Value.type "tuple")=false:=by
  have:Builtin.List.listSameRef (.ref s.heap.objs.size) (.ref z)=false:=by simp[Builtin.List.listSameRef,Nat.ne_of_gt (Heap.lt_size hz)]
  rw[this];decide
 rw[no,if_neg Bool.false_ne_true]
 refine wpAny_bind (wpAny_pyIter_zip (p1 _ _ hz) (wpAny_bind (wpAny_holding ?_)))
 unfold Builtin.List.listLengthHint;refine wpAny_bind (wpAny_specialOf tyz zdF ?_)
 show wpAny _ A.in1 (specialOf (Value.ref z) (Str.ofString "__length_hint__") >>= _) _ _ _
 refine wpAny_bind (wpAny_specialOf tyz zcO (wpAny_pure ?_))
 refine wpAny_bind (wpAny_rule (wpAny_bind ?_))
 unfold Builtin.List.listTouch Builtin.List.listUpdate;refine wpAny_bind (wpAny_updateSeq new rfl ?_)
 have n2:=Heap.get?_update_self (Obj.mapSeq (·.push Value.none)) new rfl
 refine wpAny_updateSeq n2 rfl ?_
 have n3:=Heap.get?_update_self (Obj.mapSeq (·.pop)) n2 rfl
 have oth:∀ b o,s.heap.get? b=some o→(((s.heap.push (seqObj "list" #[] 0)).update s.heap.objs.size (Obj.mapSeq (·.push Value.none))).update s.heap.objs.size (Obj.mapSeq (·.pop))).get? b=some o :=
  fun b o e=>by
   have hb:=Nat.ne_of_gt (Heap.lt_size e)
   exact(Heap.get?_update_other _ _ hb).trans ((Heap.get?_update_other _ _ hb).trans (p1 b o e))
 refine wpAny_pure ⟨plainId_quiet F.plain_extend_loop _,zhv (J:=J) (L:=s.heap.objs.size) S D1 D2 hle nL hn jn jf n 0 _ #[] _ (by lia) rfl ⟨oth _ _ hI,D1.frame _ _ _ d1 fun b _ o e=>oth b o e,D2.frame _ _ _ d2 fun b _ o e=>oth b o e,.inl ⟨rfl,oth _ _ hz,_,_,oth _ _ hO⟩⟩ (fun j v hv=>by simp at hv) n3 ?_ (jf #[] s _ s.toks j0 fun c o _ e=>oth c o e) fun h' tk acc' c' a1 j1 a2 a3 a4=>?_⟩
 ·rw[Heap.size_update,Heap.size_update,size_push']
  exact Nat.lt_succ_of_lt (Heap.lt_size hO)
 ·refine wpAny_bind (wpAny_load a3 (wpAny_pure (h h' tk acc' a1 j1 a2 (fun b o hb e=>a4 b o (fun m=>?_) (oth b o e)) (Heap.lt_size a3))))
  simp only[List.mem_cons,List.not_mem_nil,or_false]at m hb
  rcases m with m|m|m|m|m
  ·exact hb (.inl m)
  ·exact hb (.inr (.inl m))
  ·exact hb (.inr (.inr (.inl m)))
  ·exact hb (.inr (.inr (.inr m)))
  ·exact Nat.ne_of_gt (Heap.lt_size e) m.symm
theorem zhL {res:Value}{R:Result→Shared→Prop}{J:Array Value→Shared→Prop}{c0:Nat}(S:Sep z TI TO i1 i2 f1 f2) (D1:Draws prog w A.in1.in1 i1 f1 n P1 S1) (D2:Draws prog w A.in1.in1 i2 f2 n2 P2 S2) (hle:n≤n2) (hz:IsZip s.heap z TI TO .none) (hI:IsPair s.heap TI (.ref i1) (.ref i2)) {a b:Value}(hO:IsPair s.heap TO a b) (d1:S1 0 s.heap) (d2:S2 0 s.heap)
  (hL:s.heap.get? L=some (seqObj "list" #[] c0)) (nL:L∉[z,TI,TO,i1,i2]++f1++f2) (hn:n≤sizeLine)
  (jn:∀ (acc:Array Value) (s':Shared) (h':Heap) tk x y,J acc s'→L<s'.heap.objs.size→P1 acc.size x→P2 acc.size y→IsPair h' s'.heap.objs.size x y→(∀ c o,c∉[z,TO,i1,i2]→s'.heap.get? c=some o→h'.get? c=some o)→J (acc.push (.ref s'.heap.objs.size)) { s' with heap:=h',toks:=tk })
  (jf:∀ (acc:Array Value) (s':Shared) (h':Heap) tk,J acc s'→(∀ c o,c∉[z,TO,i1,i2,L]→s'.heap.get? c=some o→h'.get? c=some o)→J acc { s' with heap:=h',toks:=tk })
  (j0:J #[] s)
  (h:∀ h' tk acc' c',acc'.size=n→J acc' { s with heap:=h',toks:=tk }→Kept [z,TI,TO,i1,i2,L] P1 P2 acc' h'→h'.get? L=some (seqObj "list" acc' c')→R (.ok (.ret res)) { s with heap:=h',toks:=tk }) :
  wpAny (model prog w) A.in1 (Builtin.List.listExtendWith (.ref L) (.ref z) res) (fun fin s'=>match fin with|.done f=>R (.ok f) s'|.again c'=>c'.quiet=true∧codeAny (model prog w) A c' R s') (fun e s'=>R (.error e) s') s:=by
 have Lz:L≠z:=fun q=>nL (by simp[q])
 have tyz:s.TypeIs (.ref z) "zip":=⟨_,hz,rfl⟩
 unfold Builtin.List.listExtendWith;refine wpAny_bind (wpAny_typeOf tyz ?_)
 have no:(Builtin.List.listSameRef (.ref L) (.ref z) || Value.type "zip" == Value.type "list" || Value.type "zip" == Value.type "tuple")=false:=by
  have:Builtin.List.listSameRef (.ref L) (.ref z)=false:=by simp[Builtin.List.listSameRef,Lz]
  rw[this];decide
 rw[no,if_neg Bool.false_ne_true]
 refine wpAny_bind (wpAny_pyIter_zip hz (wpAny_bind (wpAny_holding ?_)))
 unfold Builtin.List.listLengthHint;refine wpAny_bind (wpAny_specialOf tyz zdF ?_)
 show wpAny _ A.in1 (specialOf (Value.ref z) (Str.ofString "__length_hint__") >>= _) _ _ _
 refine wpAny_bind (wpAny_specialOf tyz zcO (wpAny_pure ?_))
 refine wpAny_bind (wpAny_rule (wpAny_bind ?_))
 unfold Builtin.List.listTouch Builtin.List.listUpdate;refine wpAny_bind (wpAny_updateSeq hL rfl ?_)
 have m2:=Heap.get?_update_self (Obj.mapSeq (·.push Value.none)) hL rfl
 refine wpAny_updateSeq m2 rfl ?_
 have m3:=Heap.get?_update_self (Obj.mapSeq (·.pop)) m2 rfl
 have oth:∀ b o,b≠L→s.heap.get? b=some o→((s.heap.update L (Obj.mapSeq (·.push Value.none))).update L (Obj.mapSeq (·.pop))).get? b=some o :=
  fun _ _ away was=>(Heap.get?_update_other _ _ (Ne.symm away)).trans ((Heap.get?_update_other _ _ (Ne.symm away)).trans was)
 have ne:=fun c (hc:c∈[z,TI,TO,i1,i2]++f1++f2)=>(fun q=>nL (q ▸ hc):c≠L)
 refine wpAny_pure ⟨plainId_quiet F.plain_extend_loop _,zhv (J:=J) (L:=L) S D1 D2 hle nL hn jn jf n 0 _ #[] _ (by lia) rfl ⟨oth _ _ (ne TI (by simp)) hI,D1.frame _ _ _ d1 fun b hb o e=>oth b o (ne b (by simp[hb])) e,D2.frame _ _ _ d2 fun b hb o e=>oth b o (ne b (by simp[hb])) e,.inl ⟨rfl,oth _ _ (ne z (by simp)) hz,_,_,oth _ _ (ne TO (by simp)) hO⟩⟩ (fun j v hv=>by simp at hv) m3 ?_ (jf #[] s _ s.toks j0 fun c o hc e=>oth c o (fun q=>hc (by simp[q])) e) fun h' tk acc' c' a1 j1 a2 a3 a4=>h h' tk acc' c' a1 j1 a2 a3⟩
 rw[Heap.size_update,Heap.size_update]
 exact Heap.lt_size hO
theorem ziu {Q:Value→Shared→Prop}{J:Array Value→Shared→Prop}(S:Sep z TI TO i1 i2 f1 f2) (D1:Draws prog w A.in1.in1.in1 i1 f1 n P1 S1) (D2:Draws prog w A.in1.in1.in1 i2 f2 n2 P2 S2) (hle:n≤n2) (hz:IsZip s.heap z TI TO .none) (hI:IsPair s.heap TI (.ref i1) (.ref i2)) {a b:Value}(hO:IsPair s.heap TO a b) (d1:S1 0 s.heap) (d2:S2 0 s.heap)
  (low:∀ c∈f1++f2,c<s.heap.objs.size) (hn:n≤sizeLine)
  (jn:∀ (acc:Array Value) (s':Shared) (h':Heap) tk x y,J acc s'→s.heap.objs.size<s'.heap.objs.size→P1 acc.size x→P2 acc.size y→IsPair h' s'.heap.objs.size x y→(∀ c o,c∉[z,TO,i1,i2]→s'.heap.get? c=some o→h'.get? c=some o)→J (acc.push (.ref s'.heap.objs.size)) { s' with heap:=h',toks:=tk })
  (jf:∀ (acc:Array Value) (s':Shared) (h':Heap) tk,J acc s'→(∀ c o,c∉[z,TO,i1,i2,s.heap.objs.size]→s'.heap.get? c=some o→h'.get? c=some o)→J acc { s' with heap:=h',toks:=tk })
  (j0:J #[] s)
  (h:∀ h' tk acc' c',acc'.size=n→J acc' { s with heap:=h',toks:=tk }→Kept [z,TI,TO,i1,i2,s.heap.objs.size] P1 P2 acc' h'→h'.get? s.heap.objs.size=some (seqObj "list" acc' c')→Q (.ref s.heap.objs.size) { s with heap:=h',toks:=tk }):wpAny (model prog w) A (call (.type "list") [.ref z]) Q E s:=by
 obtain⟨o1,e1⟩:=D1.live _ _ d1
 obtain⟨o2,e2⟩:=D2.live _ _ d2
 have nL:s.heap.objs.size∉[z,TI,TO,i1,i2]++f1++f2:=fun m=>by
  simp only[List.mem_append,List.mem_cons,List.not_mem_nil,or_false]at m
  rcases m with ((m|m|m|m|m)|m)|m
  ·exact Nat.ne_of_gt (Heap.lt_size hz) m
  ·exact Nat.ne_of_gt (Heap.lt_size hI) m
  ·exact Nat.ne_of_gt (Heap.lt_size hO) m
  ·exact Nat.ne_of_gt (Heap.lt_size e1) m
  ·exact Nat.ne_of_gt (Heap.lt_size e2) m
  ·exact Nat.lt_irrefl _ (low _ (List.mem_append_left _ m))
  ·exact Nat.lt_irrefl _ (low _ (List.mem_append_right _ m))
 refine callType_codes (Q₁:=fun obj t=>obj=.ref s.heap.objs.size∧t={ s with heap:=s.heap.push (seqObj "list" #[] 0) }) F.called_list (F.typeCall_list_1 _) F.entry_list_init (code_list_new _ ⟨rfl,rfl⟩) fun obj t ht=>?_
 obtain⟨rfl,rfl⟩:=ht
 have new:(s.heap.push (seqObj "list" #[] 0)).get? s.heap.objs.size=some (seqObj "list" #[] 0):=Heap.get?_push_size _ rfl
 have old:∀ c o,s.heap.get? c=some o→((s.heap.push (seqObj "list" #[] 0)).update s.heap.objs.size (Obj.mapSeq (fun _=>(#[]:Array Value)))).get? c=some o:=fun c o e=>(Heap.get?_update_other _ _ (Nat.ne_of_gt (Heap.lt_size e))).trans (Heap.get?_push_of_some _ e)
 have m2:=Heap.get?_update_self (Obj.mapSeq (fun _=>(#[]:Array Value))) new rfl
 refine⟨⟨_,new,rfl⟩,F.args_list_init_2 _ _,?_⟩
 show wpAny _ _ (do let was ← Builtin.List.listItems (.ref s.heap.objs.size);Builtin.List.listUpdate (.ref s.heap.objs.size) (fun _=>#[]);letGo was.toList.reverse;Builtin.List.listExtendWith (.ref s.heap.objs.size) (.ref z) .none) _ _ _
 refine wpAny_bind (m:=Builtin.List.listItems _) ?_
 unfold Builtin.List.listItems;refine wpAny_bind (wpAny_seqItems new rfl (wpAny_pure ?_))
 refine wpAny_bind (m:=updateSeq _ _) (wpAny_updateSeq new rfl (wpAny_bind (wpAny_letGo ?_)))
 refine zhL (A:=A.in1) (J:=J) (L:=s.heap.objs.size) S D1 D2 hle (old _ _ hz) (old _ _ hI) (old _ _ hO) (D1.frame _ _ _ d1 fun c _ o e=>old c o e) (D2.frame _ _ _ d2 fun c _ o e=>old c o e) m2 nL hn jn jf (jf #[] s _ s.toks j0 fun c o _ e=>old c o e) fun h' tk acc' c' a1 j1 a2 a3=>?_
 exact⟨rfl,h h' tk acc' c' a1 j1 a2 a3⟩
end
end Own
namespace Own
open PySem PySem.Spec PyProof.Rows Ts
section
variable {prog:Program}{w:World}{A:Around}{E:Value→Shared→Prop}{s:Shared}
theorem zja {x:Value}{Q:Value→Shared→Prop}
  (h:wpAny (model prog w) A.in1 (collect x) (fun vs s1=>∃ (κ:SortKind) (rv:Value→Int),vs.length≤63 ∧
   (∀ h':Heap,(∀ c o,s1.heap.get? c=some o→h'.get? c=some o)→2≤vs.length→∀ (A':Around) {Q:SortKind→Shared→Prop}{E:Value→Shared→Prop},Q κ { s1 with heap:=h' }→wpAny (model prog w) A' (keyKind' vs.toArray) Q E { s1 with heap:=h' }) ∧
   (∀ h':Heap,(∀ c o,s1.heap.get? c=some o→h'.get? c=some o)→∀ (A':Around),A'.units≤A.units+8→Cmp prog w A' { s1 with heap:=h' } κ (fun p=>p.1∈vs) (fun p=>rv p.1)) ∧
   ∀ (h':Heap) (l:Addr) (e:Nat) (out:List Value),s1.heap.objs.size≤l→h'.get? l=some (seqObj "list" out.toArray e)→out.Perm vs→out.Pairwise (fun x y=>rv x≤rv y)→(∀ c o,s1.heap.get? c=some o→h'.get? c=some o)→Q (.ref l) { s1 with heap:=h' }) E s) :
  wpAny (model prog w) A (call (.builtin "sorted") [x]) Q E s:=by
 refine Calls.call_function_entry kind_sorted plain_sorted entry_sorted (args_sorted1 _) ?_;unfold Builtin.«sorted»
 refine wpAny_bind (m:=checkCount "sorted" 1 1 _) (wpAny_pure (wpAny_bind (wpAny_mono h (fun vs s1 z=>?_) fun _ _ e=>e)))
 obtain⟨κ,rv,hz,hk,hc,fin⟩:=z
 have sl:vs.length≤sizeLine:=Nat.le_trans hz (by decide)
 refine wpAny_bind (wpAny_newList ?_ (hsz:=sl))
 have new:(s1.heap.push (seqObj "list" vs.toArray 0)).get? s1.heap.objs.size=some (seqObj "list" vs.toArray 0):=Heap.get?_push_size _ rfl
 have up:∀ h':Heap,(∀ c o,c≠s1.heap.objs.size→(s1.heap.push (seqObj "list" vs.toArray 0)).get? c=some o→h'.get? c=some o)→∀ c o,s1.heap.get? c=some o→h'.get? c=some o:=fun h' k c o e=>k c o (Nat.ne_of_lt (Heap.lt_size e)) (Heap.get?_push_of_some _ e)
 refine wpAny_bind (wpAny_holding (wpAny_call_entry slot_list_sort ⟨_,new,rfl⟩ entry_list_sort (zgu new hz κ rv (fun h' k l2=>hk h' (up h' k) l2 _) (fun h' k=>hc h' (up h' k) _ ?_) fun out p1 p2=>⟨_,rfl,?_⟩) (args_list_sort _)))
 ·show A.units+1+1≤A.units+8
  lia
 obtain⟨e,he⟩:=sortedHeap_at (out:=out.toArray) new
 refine wpAny_pure ⟨_,rfl,fin _ _ e out (Nat.le_refl _) he p1 p2 fun c o q=>?_⟩
 have lt:=Heap.lt_size q
 rw[sortedHeap_old (Nat.ne_of_lt lt) (by rw[size_push'];exact Nat.lt_succ_of_lt lt)]
 exact Heap.get?_push_of_some _ q
end
end Own
namespace L2
open PySem PySem.Spec PyProof.Rows Own Ts
inductive Lx (H:Hp):Nat→V→V→Ordering→Prop where
 | int (n:Nat) (i j:Int):Lx H n (.int i) (.int j) (compare i j)
 | row {n:Nat}{a b:Addr}{xs ys:List V}{cs:List Ordering}(ha:H a=some (.tup xs)) (hb:H b=some (.tup ys)) (l1:xs.length=cs.length) (l2:ys.length=cs.length) (h:∀ (i:Nat) u v c,xs[i]?=some u→ys[i]?=some v→cs[i]?=some c→Lx H n u v c) :
   Lx H (n+1) (.ref a) (.ref b) (cs.foldr Ordering.then .eq)
theorem Lx.pair {H:Hp}{n:Nat}{a b:Addr}{x1 x2 y1 y2:V}{c1 c2:Ordering}(ha:H a=some (.tup [x1,x2])) (hb:H b=some (.tup [y1,y2])) (h1:Lx H n x1 y1 c1) (h2:Lx H n x2 y2 c2):Lx H (n+1) (.ref a) (.ref b) (c1.then c2):=by
 have e:c1.then c2=[c1,c2].foldr Ordering.then .eq:=by cases c1<;>cases c2<;>rfl
 rw[e]
 refine .row ha hb rfl rfl fun i u v c hu hv hc=>?_
 rcases i with _|_|i
 ·cases hu;cases hv;cases hc;exact h1
 ·cases hu;cases hv;cases hc;exact h2
 ·simp at hu
theorem zdb:∀ {cs:List Ordering},cs.foldr Ordering.then .eq=.eq↔∀ c∈cs,c=.eq
 | []=>by simp
 | c::cs=>by
  rw[List.foldr_cons]
  constructor
  ·intro h
   cases c<;>simp[Ordering.then]at h
   intro d hd
   rcases List.mem_cons.mp hd with rfl|hd2
   ·rfl
   ·exact zdb.mp h d hd2
  ·intro h
   rw[h c List.mem_cons_self]
   exact zdb.mpr fun d hd=>h d (List.mem_cons_of_mem _ hd)
theorem zef:∀ {cs:List Ordering},cs.foldr Ordering.then .eq≠.eq→∃ (k:Nat) (c:Ordering),cs[k]?=some c∧c≠.eq∧cs.foldr Ordering.then .eq=c∧∀ j:Nat,j<k→cs[j]?=some Ordering.eq
 | [],h=>absurd rfl h
 | c::cs,h=>by
  by_cases z:c=.eq
  ·subst z
   have e:(Ordering.eq::cs).foldr Ordering.then .eq=cs.foldr Ordering.then .eq:=rfl
   rw[e]at h ⊢
   obtain⟨k,d,h1,h2,h3,h4⟩:=zef h
   refine⟨k+1,d,by simpa using h1,h2,h3,fun j hj=>?_⟩
   cases j with
   | zero=>rfl
   | succ j=>simpa using h4 j (by lia)
  ·refine⟨0,c,rfl,z,?_,fun j hj=>by lia⟩
   rw[List.foldr_cons]
   cases c<;>first|rfl|exact absurd rfl z
section
variable {X:Cx}
theorem zcA (i j:Int):(compare i j == .eq)=decide (i=j)∧(compare i j == .lt)=decide (i<j):=by
 rw[show compare i j=compareOfLessAndEq i j from rfl]
 unfold compareOfLessAndEq
 by_cases h1:i<j
 ·rw[if_pos h1,decide_eq_true h1,decide_eq_false (by lia)];exact⟨rfl,rfl⟩
 ·rw[if_neg h1,decide_eq_false h1]
  by_cases h2:i=j
  ·rw[if_pos h2,decide_eq_true h2];exact⟨rfl,rfl⟩
  ·rw[if_neg h2,decide_eq_false h2];exact⟨rfl,rfl⟩
theorem Lx.refl {H:Hp}{n:Nat}{x y:V}{c:Ordering}(h:Lx H n x y c):x=y→c=.eq:=by
 induction h with
 | int n i j =>
  intro e
  cases e
  have:=(zcA i i).1
  rw[decide_eq_true rfl]at this
  simpa using this
 | @row n a b xs ys cs ha hb l1 l2 h ih =>
  intro e
  cases e
  rw[ha]at hb
  cases hb
  refine zdb.mpr fun c hc=>?_
  obtain⟨i,hi⟩:=List.mem_iff_getElem?.mp hc
  have il:=(List.getElem?_eq_some_iff.mp hi).1
  exact ih i _ _ c (List.getElem?_eq_getElem (by lia)) (List.getElem?_eq_getElem (by lia)) hi rfl
theorem zjT {pins:List (Addr × Obj)}{σ:St}{H:Hp}{s:Shared}(I:Inv X pins σ H s) {n:Nat}{x y:V}{c:Ordering}(h:Lx H n x y c):∀ (A:Around) (u v:Value),A.units+n<cLine→RelV x u→RelV y v→SeqAt.EqAt A s u v (c == .eq):=by
 induction h with
 | int n i j =>
  intro A u v _ r1 r2
  have:=zft (A:=A) (s:=s) (x:=.int j) (y:=.int i) r1 r2 rfl rfl
  rw[(zcA i j).1]
  have e:eqV (.int i) (.int j)=decide (i=j):=by
   show (i == j)=decide (i=j)
   by_cases z:i=j<;>simp[z]
  rwa [e]at this
 | @row n a b xs ys cs ha hb l1 l2 h ih =>
  intro A u v hu r1 r2
  cases r1;cases r2
  by_cases ab:a=b
  ·subst ab
   have:cs.foldr Ordering.then .eq=.eq:=Lx.refl (.row ha hb l1 l2 h) rfl
   rw[this];exact SeqAt.EqAt.same _
  ·obtain⟨its,g1,p1,_⟩:=I.tuple (SqT.of ha)
   obtain⟨jts,g2,p2,_⟩:=I.tuple (SqT.of hb)
   have m1:=g1.length
   have m2:=g2.length
   refine SeqAt.EqAt.of_refs ab ?_
   have e:((List.range (min its.toArray.size jts.toArray.size)).all (fun j=>(cs.getD j .eq) == .eq) && its.toArray.size == jts.toArray.size)=(cs.foldr Ordering.then .eq == .eq):=by
    rw[List.size_toArray,List.size_toArray,← m1,← m2,l1,l2,beq_self_eq_true,Bool.and_true,Nat.min_self]
    by_cases z:cs.foldr Ordering.then .eq=.eq
    ·rw[z]
     refine(List.all_eq_true.mpr fun j hj=>?_).trans rfl
     have jl:=List.mem_range.mp hj
     rw[List.getD_eq_getElem?_getD,List.getElem?_eq_getElem jl,Option.getD_some,zdb.mp z _ (List.getElem_mem jl)];rfl
    ·obtain⟨k,d,h1,h2,h3,_⟩:=zef z
     have kl:=(List.getElem?_eq_some_iff.mp h1).1
     rw[h3]
     have f1:(d == Ordering.eq)=false:=by simpa using h2
     rw[f1]
     refine Bool.eq_false_iff.mpr fun t=>?_
     have:=List.all_eq_true.mp t k (List.mem_range.mpr kl)
     rw[List.getD_eq_getElem?_getD,h1,Option.getD_some,f1]at this
     cases this
   have:=SeqAt.RcAt.tuples (e:=fun j=>(cs.getD j .eq) == .eq) p1 p2 (A:=A) (s:=s) (by lia) (fun j k1 k2=>?_)
   ·rwa [e]at this
   ·have k1':j<xs.length:=by simpa [m1] using k1
    have k2':j<ys.length:=by simpa [m2] using k2
    obtain⟨w1,e1,q1⟩:=g1.get (List.getElem?_eq_getElem k1')
    obtain⟨w2,e2,q2⟩:=g2.get (List.getElem?_eq_getElem k2')
    have z1:its.toArray[j]=w1:=by simpa using (List.getElem?_eq_some_iff.mp e1).2
    have z2:jts.toArray[j]=w2:=by simpa using (List.getElem?_eq_some_iff.mp e2).2
    have kc:j<cs.length:=by lia
    rw[z1,z2,List.getD_eq_getElem?_getD,List.getElem?_eq_getElem kc,Option.getD_some]
    exact ih j _ _ _ (List.getElem?_eq_getElem k1') (List.getElem?_eq_getElem k2') (List.getElem?_eq_getElem kc) A.in1 _ _ (by show A.units+1+n<cLine;lia) q1 q2
theorem zlr {pins:List (Addr × Obj)}{σ:St}{H:Hp}{s:Shared}(I:Inv X pins σ H s) {n:Nat}{x y:V}{c:Ordering}(h:Lx H n x y c):c≠.eq→∀ (A:Around) (u v:Value),A.units+n<cLine→RelV x u→RelV y v→LtAt A s u v (c == .lt):=by
 induction h with
 | int n i j =>
  intro _ A u v _ ⟨t1,e1⟩ ⟨t2,e2⟩
  subst e1 e2
  rw[(zcA i j).2]
  exact LtAt.ints i j t1 t2
 | @row n a b xs ys cs ha hb l1 l2 h ih =>
  intro ne A u v hu r1 r2
  cases r1;cases r2
  obtain⟨its,g1,p1,_⟩:=I.tuple (SqT.of ha)
  obtain⟨jts,g2,p2,_⟩:=I.tuple (SqT.of hb)
  have m1:=g1.length
  have m2:=g2.length
  obtain⟨k,d,h1,h2,h3,h4⟩:=zef ne
  have kl:=(List.getElem?_eq_some_iff.mp h1).1
  have at_:∀ j (k1:j<its.toArray.size) (k2:j<jts.toArray.size),∃ (j1:j<xs.length) (j2:j<ys.length),RelV xs[j] its.toArray[j]∧RelV ys[j] jts.toArray[j]:=fun j k1 k2=>by
   have k1':j<xs.length:=by simpa [m1] using k1
   have k2':j<ys.length:=by simpa [m2] using k2
   obtain⟨w1,e1,q1⟩:=g1.get (List.getElem?_eq_getElem k1')
   obtain⟨w2,e2,q2⟩:=g2.get (List.getElem?_eq_getElem k2')
   have z1:its.toArray[j]=w1:=by simpa using (List.getElem?_eq_some_iff.mp e1).2
   have z2:jts.toArray[j]=w2:=by simpa using (List.getElem?_eq_some_iff.mp e2).2
   rw[z1,z2]
   exact⟨k1',k2',q1,q2⟩
  rw[h3]
  have b1:k<its.toArray.size:=by rw[List.size_toArray];lia
  have b2:k<jts.toArray.size:=by rw[List.size_toArray];lia
  obtain⟨j1,j2,r1,r2⟩:=at_ k b1 b2
  refine LtAt.tuples (k:=k) p1 p2 (by lia) b1 b2 (fun j k1 k2 hj=>?_) ?_ ?_
  ·obtain⟨j1,j2,r1,r2⟩:=at_ j k1 k2
   exact zjT I (h j _ _ _ (List.getElem?_eq_getElem j1) (List.getElem?_eq_getElem j2) (h4 j hj)) A.in1 _ _ (by show A.units+1+n<cLine;lia) r1 r2
  ·have:=zjT I (h k _ _ _ (List.getElem?_eq_getElem j1) (List.getElem?_eq_getElem j2) h1) A.in1 _ _ (by show A.units+1+n<cLine;lia) r1 r2
   rwa [show (d == Ordering.eq)=false from by simpa using h2]at this
  ·exact ih k _ _ _ (List.getElem?_eq_getElem j1) (List.getElem?_eq_getElem j2) h1 h2 A.in1 _ _ (by show A.units+1+n<cLine;lia) r1 r2
end
def Rk (H:Hp) (xs:List V) (rk:V→Int):Prop:=(∀ x∈xs,∃ i,x=.int i∧rk x=i)∨∃ n,n≤20∧∀ x∈xs,(∃ a f r,x=.ref a∧H a=some (.tup (.int f::r)))∧∀ y∈xs,Lx H n x y (compare (rk x) (rk y))
def vOf:Value→V
 | .int i _=>.int i
 | .ref a=>.ref a
 | _=>.non
theorem zee:∀ {xs:List V}{us:List Value},Vals xs us→(∀ x∈xs,(∃ i,x=.int i)∨∃ a,x=.ref a)→xs=us.map vOf∧∀ u∈us,RelV (vOf u) u
 | _,_,.nil,_=>⟨rfl,fun u hu=>by simp at hu⟩
 | x::xs,u::us,.cons r rs,h=>by
  obtain⟨e,f⟩:=zee rs fun y hy=>h y (List.mem_cons_of_mem _ hy)
  have one:vOf u=x∧RelV (vOf u) u:=by
   rcases h x List.mem_cons_self with ⟨i,rfl⟩|⟨a,rfl⟩
   ·obtain⟨t,rfl⟩:=r;exact⟨rfl,t,rfl⟩
   ·cases r;exact⟨rfl,rfl⟩
  refine⟨by rw[List.map_cons,one.1,← e],fun v hv=>?_⟩
  rcases List.mem_cons.mp hv with rfl|hv2
  ·exact one.2
  ·exact f v hv2
theorem zdJ:∀ {us:List Value},(∀ u∈us,RelV (vOf u) u)→Vals (us.map vOf) us
 | [],_=>.nil
 | u::us,h=>.cons (h u List.mem_cons_self) (zdJ fun v hv=>h v (List.mem_cons_of_mem _ hv))
theorem Rk.kinds {H:Hp}{xs:List V}{rk:V→Int}(h:Rk H xs rk):∀ x∈xs,(∃ i,x=.int i)∨∃ a,x=.ref a:=fun x hx=>by
 rcases h with h|⟨n,_,h⟩
 ·obtain⟨i,e,_⟩:=h x hx;exact .inl ⟨i,e⟩
 ·obtain⟨⟨a,_,_,e,_⟩,_⟩:=h x hx;exact .inr ⟨a,e⟩
section
variable {prog:Program}{w:World}{A:Around}{E:Value→Shared→Prop}{s:Shared}
theorem zh7 {u v:Value}{b:Bool}{Q:Bool→Shared→Prop}(l:LtAt A s u v b) (h:Q b s):wpAny (model prog w) A (oneLt' false u v) Q E s:=by
 rw[oneLt'_eq,if_neg Bool.false_ne_true]
 exact wpAny_bind (l prog w _ _ (wpAny_truthy_bool h))
theorem zj1 {Q:Bool→Shared→Prop}(cs:List Ordering):∀ (us vs:List Value) (i:Nat),us.length=cs.length→vs.length=cs.length→(∀ (j:Nat) u v c,us[j]?=some u→vs[j]?=some v→cs[j]?=some c→SeqAt.EqAt A s u v (c == .eq)∧(c≠.eq→LtAt A s u v (c == .lt))) →
  (i=0→∀ u v c,us[0]?=some u→vs[0]?=some v→cs[0]?=some c→∃ a b t t',u=.int a t∧v=.int b t'∧c=compare a b)→Q (cs.foldr Ordering.then .eq == .lt) s→PySem.W.KatLex prog w A true false Q (us.zip vs) i s:=by
 induction cs with
 | nil =>
  intro us vs i l1 l2 _ _ q
  rw[List.length_eq_zero_iff.mp l1]
  exact PySem.W.kat_nil q
 | cons c cs ih =>
  intro us vs i l1 l2 h h0 q
  obtain⟨u,us,rfl⟩:∃ u us',us=u::us':=by
   cases us with
   | nil=>simp at l1
   | cons u us=>exact⟨u,us,rfl⟩
  obtain⟨v,vs,rfl⟩:∃ v vs',vs=v::vs':=by
   cases vs with
   | nil=>simp at l2
   | cons v vs=>exact⟨v,vs,rfl⟩
  have hh:=h 0 u v c rfl rfl rfl
  refine PySem.W.kat_cons (hh.1 prog w _ _ ?_)
  by_cases z:c=.eq
  ·subst z
   refine PySem.W.kat_yes (ih us vs (i+1) (by simpa using l1) (by simpa using l2) (fun j u v c a1 a2 a3=>h (j+1) u v c (by simpa using a1) (by simpa using a2) (by simpa using a3)) (fun e=>by lia) q)
  ·have e1:(c == Ordering.eq)=false:=by simpa using z
   have e2:(c::cs).foldr Ordering.then .eq=c:=by
    rw[List.foldr_cons]
    cases c<;>first|rfl|exact absurd rfl z
   rw[e2]at q
   rw[e1]
   refine PySem.W.kat_no ?_
   by_cases i0:i=0
   ·obtain⟨a,b,t,t',rfl,rfl,ec⟩:=h0 i0 u v c rfl rfl rfl
    subst i0
    rw[ec,(zcA a b).2]at q
    exact oneLt_int q
   ·have:(true && i == 0)=false:=by simpa using i0
    rw[this]
    exact zh7 (hh.2 z) q
end
section
variable {X:Cx}
theorem asks {pins:List (Addr × Obj)}{σ:St}{H:Hp}{s1:Shared}(I:Inv X pins σ H s1) (hu:X.A.units+64<cLine) {xs:List V}{vs:List Value}{rk:V→Int}(r:Vals xs vs) (R:Rk H xs rk) :
  ∃ κ:SortKind,(∀ h':Heap,(∀ c o,s1.heap.get? c=some o→h'.get? c=some o)→2≤vs.length→∀ (A':Around) {Q:SortKind→Shared→Prop}{E:Value→Shared→Prop},Q κ { s1 with heap:=h' }→wpAny (model X.prog X.w) A' (keyKind' vs.toArray) Q E { s1 with heap:=h' }) ∧
   (∀ h':Heap,(∀ c o,s1.heap.get? c=some o→h'.get? c=some o)→∀ (A':Around),A'.units≤X.A.units+8→Cmp X.prog X.w A' { s1 with heap:=h' } κ (fun p=>p.1∈vs) (fun p=>rk (vOf p.1))):=by
 obtain⟨ex,rel⟩:=zee r R.kinds
 have mem:∀ u∈vs,vOf u∈xs:=fun u hu=>by rw[ex];exact List.mem_map.mpr ⟨u,hu,rfl⟩
 rcases R with R|⟨n,hn,R⟩
 ·have nms:∀ u∈vs,∃ i t,u=.int i t∧rk (vOf u)=i:=fun u hu=>by
   obtain⟨i,e,ei⟩:=R _ (mem u hu)
   have ru:=rel u hu
   rw[e]at ru
   obtain⟨t,rfl⟩:=ru
   exact⟨i,t,rfl,ei⟩
  refine⟨oneType',fun h' k l2 A' Q E q=>PySem.W.kas_kind l2 (T:=.type "int") (fun v hv=>?_) (by decide) (by decide) q,fun h' k A' _=>⟨fun x y hx hy Q E q=>?_⟩⟩
  ·obtain⟨i,t,rfl,_⟩:=nms v hv
   exact PySem.W.Looks.of_pure rfl
  ·obtain⟨x1,x2⟩:=x
   obtain⟨y1,y2⟩:=y
   obtain⟨i,t,e1,r1⟩:=nms x1 hx
   obtain⟨j,t',e2,r2⟩:=nms y1 hy
   simp only at q
   rw[r1,r2]at q
   subst e1 e2
   show wpAny _ _ (keyLt' oneType' (.int i t) (.int j t')) _ _ _
   rw[keyLt'_oneType]
   exact oneLt_int q
 ·refine⟨tuples' (Value.type "int" != Value.type "tuple"),fun h' k l2 A' Q E q=>?_,fun h' k A' hA=>⟨fun x y hx hy Q E q=>?_⟩⟩
  ·have I':Inv X pins σ H { s1 with heap:=h',toks:=s1.toks }:=I.kept k
   have kt:∀ us:List Value,(∀ u∈us,vOf u∈xs∧RelV (vOf u) u)→∃ fs,PySem.W.KatTups h' us fs∧fs.length=us.length∧∀ f∈fs,∃ i t,f=Value.int i t:=by
    intro us
    induction us with
    | nil=>intro _;exact⟨[],PySem.W.KatTups.nil,rfl,fun f hf=>by simp at hf⟩
    | cons u us ih =>
     intro h
     obtain⟨fs,k1,k2,k3⟩:=ih fun v hv=>h v (List.mem_cons_of_mem _ hv)
     obtain⟨m1,r1⟩:=h u List.mem_cons_self
     obtain⟨⟨a,f,rr,e,ha⟩,_⟩:=R _ m1
     rw[e]at r1
     cases r1
     obtain⟨its,g,⟨o,eo,co,no,dt⟩,_⟩:=I'.tuple (SqT.of ha)
     obtain⟨f0,ef,⟨t0,rfl⟩⟩:=g.get (i:=0) (x:=.int f) rfl
     exact⟨_,PySem.W.KatTups.cons eo co dt (by simpa using ef) k1,by rw[List.length_cons,List.length_cons,k2],fun f' hf=>by
      rcases List.mem_cons.mp hf with rfl|hf
      ·exact⟨_,_,rfl⟩
      ·exact k3 f' hf⟩
   obtain⟨fs,k1,k2,k3⟩:=kt vs fun u hu=>⟨mem u hu,rel u hu⟩
   refine PySem.W.kat_kind (T:=.type "int") k1 (by lia) (fun v hv=>?_) (by decide) q
   obtain⟨i,t,rfl⟩:=k3 v hv
   exact PySem.W.Looks.of_pure rfl
  ·have I':Inv X pins σ H { s1 with heap:=h',toks:=s1.toks }:=I.kept k
   obtain⟨x1,x2⟩:=x
   obtain⟨y1,y2⟩:=y
   have rx:=rel x1 hx
   have ry:=rel y1 hy
   obtain⟨⟨a,f,xr,ea,ha⟩,lx⟩:=R _ (mem x1 hx)
   obtain⟨⟨b,g,yr,eb,hb⟩,_⟩:=R _ (mem y1 hy)
   have L:=lx _ (mem y1 hy)
   simp only at q
   rw[ea]at rx L q
   rw[eb]at ry L q
   cases rx;cases ry
   generalize hc:compare (rk (V.ref a)) (rk (V.ref b))=c at L
   rw[← (zcA (rk (V.ref a)) (rk (V.ref b))).2,hc]at q
   cases L with
   | @row n _ _ xs' ys' cs ha' hb' l1 l2 hL =>
    rw[ha]at ha';cases ha'
    rw[hb]at hb';cases hb'
    obtain⟨its,g1,⟨o1,eo1,co1,no1,dt1⟩,_⟩:=I'.tuple (SqT.of ha)
    obtain⟨jts,g2,⟨o2,eo2,co2,no2,dt2⟩,_⟩:=I'.tuple (SqT.of hb)
    have m1:=g1.length
    have m2:=g2.length
    show wpAny _ _ (keyLt' (tuples' true) (.ref a) (.ref b)) _ _ _
    refine PySem.W.kat_lt eo1 dt1 eo2 dt2 ?_
    have ds:decide (its.toArray.size<jts.toArray.size)=false:=decide_eq_false (by rw[List.size_toArray,List.size_toArray];lia)
    rw[ds]
    refine zj1 cs its jts 0 (by lia) (by lia) (fun j u v c hu' hv hc'=>?_) (fun _ u v c hu' hv hc'=>?_) q
    ·have j1:j<(V.int f::xr).length:=by have:=(List.getElem?_eq_some_iff.mp hu').1;lia
     have j2:j<(V.int g::yr).length:=by have:=(List.getElem?_eq_some_iff.mp hv).1;lia
     obtain⟨u',e1,q1⟩:=g1.get (List.getElem?_eq_getElem j1)
     obtain⟨v',e2,q2⟩:=g2.get (List.getElem?_eq_getElem j2)
     rw[hu']at e1;obtain rfl:=Option.some.inj e1
     rw[hv]at e2;obtain rfl:=Option.some.inj e2
     have LL:=hL j _ _ c (List.getElem?_eq_getElem j1) (List.getElem?_eq_getElem j2) hc'
     exact⟨zjT I' LL A' _ _ (by lia) q1 q2,fun ne=>zlr I' LL ne A' _ _ (by lia) q1 q2⟩
    ·obtain⟨u',e1,t1,r1⟩:=g1.get (i:=0) (x:=.int f) rfl
     obtain⟨v',e2,t2,r2⟩:=g2.get (i:=0) (x:=.int g) rfl
     rw[hu']at e1;obtain rfl:=Option.some.inj e1
     rw[hv]at e2;obtain rfl:=Option.some.inj e2
     have LL:=hL 0 (.int f) (.int g) c rfl rfl hc'
     cases LL
     exact⟨f,g,t1,t2,r1,r2,rfl⟩
end
section
variable {X:Cx}
end
def Zip2 (H:Hp) (ts xs ys:List V):Prop:=ts.length=xs.length∧∀ (i:Nat) t,ts[i]?=some t→∃ a x y,t=.ref a∧xs[i]?=some x∧ys[i]?=some y∧H a=some (.tup [x,y])
def zhP (K:PySem.W.Frag) (b1 b2:Bool) (ta:TA):TE:=fun σ H Q=>ta σ H fun vs H1=>∃ a1 a2 xs ys,vs=[.ref a1,.ref a2]∧SqB b1 K H1 a1 xs∧SqB b2 K H1 a2 ys∧ys.length=xs.length∧xs.length≤63 ∧
 ∀ ts H2,Same H1 H2→Zip2 H2 ts xs ys→∃ rk,Rk H2 ts rk∧∀ l zs,H2 l=none→zs.Perm ts→zs.Pairwise (fun x y=>rk x≤rk y)→Q (.ref l) (upd H2 l (.lst zs))
theorem zfJ {X:Cx}{a b:Expr}{ta:TA}{p p2 pos pos2:Pos}(b1 b2:Bool) (hg:Gl X "sorted") (hm:X.mg "sorted" = none) (hg2:Gl X "zip") (hm2:X.mg "zip" = none) (hc:X.calm=true) (hu:X.A.units+64<cLine) (ha:PA X [a,b] ta)
  (he:starEach [Expr.Call (.Name "zip" p2) [a,b] [] pos2] X.env=[(false,eval (Expr.Call (.Name "zip" p2) [a,b] [] pos2) X.env)]:=by rfl)
  (hs:starEach [a,b] X.env=[(false,eval a X.env),(false,eval b X.env)]:=by rfl) (hs2:starEach [b] X.env=[(false,eval b X.env)]:=by rfl) :
  PE X (.Call (.Name "sorted" p) [.Call (.Name "zip" p2) [a,b] [] pos2] [] pos) (zhP X.K b1 b2 ta):=by
 intro pins s σ H Q I h
 refine wpAny_Call_Name_kw (zbd I hg hm (u:=.builtin "sorted") (by rfl) (PyProof.Rows.callWith_builtin1 ?_ he rfl))
 rw[he]
 show wpAny _ _ (spliced ((false,eval (Expr.Call (.Name "zip" p2) [a,b] [] pos2) X.env)::[])) _ _ s
 refine Calls.spliced_cons ?_
 refine Call_ (zbd I hg2 hm2 (u:=.type "zip") (by rfl) (PyProof.Rows.callWith_type1 (thn (ha pos2 pins s σ H _ I h) fun us s1 ⟨vs,H1,I1,r1,q1⟩=>?_) (by rw[hs,hs2]) (by rw[hs2];rfl)))
 obtain⟨a1,a2,xs,ys,rfl,hq1,hq2,hl,hz,q⟩:=q1
 obtain⟨u,v,rfl,ru,rv⟩:=r1.two
 cases ru
 cases rv
 obtain⟨its,rx,pl1⟩:=I1.sq hq1
 obtain⟨jts,ry,pl2⟩:=I1.sq hq2
 have lx:=rx.length
 have ly:=ry.length
 refine callType_new F.called_zip (by decide) (F.typeCall_zip_2 _ _) (F.newCall_zip_2 _ _) (fun obj=>F.args_object_init_3 obj _ _) F.entry_zip_new (zec b1 b2 a1 a2 its.toArray jts.toArray) ⟨pl1,pl2,fun h' z ⟨TI,TO,i1,i2,nd,far,hzz,hI,hO,h1,h2⟩ hk=>⟨⟨_,hzz,rfl⟩,?_⟩⟩
 refine Calls.spliced_nil ?_
 have I2:Inv X pins σ H1 { s1 with heap:=h',toks:=s1.toks }:=I1.kept hk
 have fp:∀ c∈[z,TI,TO,i1,i2],FpOk X pins H1 c:=fun c hc=>I1.fpOk (far c hc) (I1.hok.fresh (far c hc))
 have na1:∀ c∈[z,TI,TO,i1,i2],c≠a1:=fun c hm=>I1.sq_ne hq1 (fp c hm)
 have na2:∀ c∈[z,TI,TO,i1,i2],c≠a2:=fun c hm=>I1.sq_ne hq2 (fp c hm)
 have nd':=nd
 simp only[List.nodup_cons,List.mem_cons,List.not_mem_nil,or_false,not_or]at nd'
 obtain⟨⟨zI,zO,z1,z2⟩,⟨IO,iI1,iI2⟩,⟨O1,O2⟩,n12,_⟩:=nd'
 have S:Sep z TI TO i1 i2 [i1,a1] [i2,a2]:=⟨nd,by simp[z1,na1 z (by simp)],by simp[O1,na1 TO (by simp)],by simp[Ne.symm n12,na1 i2 (by simp)],by simp[z2,na2 z (by simp)],by simp[O2,na2 TO (by simp)],by simp[n12,na2 i1 (by simp)]⟩
 have hd:=I1.ok.hd hc
 have q1':SqO b1 h' a1 its.toArray:=pl1.mv fun o e=>hk _ _ e
 have q2':SqO b2 h' a2 jts.toArray:=pl2.mv fun o e=>hk _ _ e
 have n12s:its.toArray.size=jts.toArray.size:=by rw[List.size_toArray,List.size_toArray];lia
 have D1:=zdy (prog:=X.prog) (w:=X.w) (A:=X.A.in1.in1.in1) hd b1 i1 a1 its.toArray (q1'.ne h1)
 have D2:=zdy (prog:=X.prog) (w:=X.w) (A:=X.A.in1.in1.in1) hd b2 i2 a2 jts.toArray (q2'.ne h2)
 rw[← n12s]at D2
 have low:∀ c∈[i1,a1]++[i2,a2],c<h'.objs.size:=fun c hc=>by
  obtain⟨o1,n1,e1,_⟩:=q1'.ob
  obtain⟨o2,n2,e2,_⟩:=q2'.ob
  simp only[List.cons_append,List.nil_append,List.mem_cons,List.not_mem_nil,or_false]at hc
  rcases hc with rfl|rfl|rfl|rfl
  ·exact Heap.lt_size h1
  ·exact Heap.lt_size e1
  ·exact Heap.lt_size h2
  ·exact Heap.lt_size e2
 have fpL:FpOk X pins H1 h'.objs.size:=I2.fpOk (Nat.le_refl _) (I2.hok.fresh (Nat.le_refl _))
 have lows:∀ c∈[z,TO,i1,i2],c<h'.objs.size:=fun c hc=>by
  simp only[List.mem_cons,List.not_mem_nil,or_false]at hc
  rcases hc with rfl|rfl|rfl|rfl
  ·exact Heap.lt_size hzz
  ·exact Heap.lt_size hO
  ·exact Heap.lt_size h1
  ·exact Heap.lt_size h2
 refine zja (zfW (J:=fun acc s'=>∃ (ts:List Addr) (Hk:Hp),Inv X pins σ Hk s'∧Same H1 Hk∧acc.toList=ts.map Value.ref∧(∀ (i:Nat) t,ts[i]?=some t→∃ x y,xs[i]?=some x∧ys[i]?=some y∧Hk t=some (.tup [x,y]))∧(∀ c∈[z,TO,i1,i2,h'.objs.size],FpOk X pins Hk c)) S D1 D2 (Nat.le_refl _) hzz hI hO ⟨h1,q1'⟩ ⟨h2,q2'⟩ low ?_ ?_ ?_ ?_ ?_)
 ·rw[List.size_toArray];exact Nat.le_trans (show _≤63 by lia) (by decide)
 ·rintro acc s' h2' tk x y ⟨ts,Hk,Ik,sm,ea,ht,fk⟩ lt px py new kk
  have il:acc.size<xs.length:=by
   have b:acc.size<its.toArray.size:=(Array.getElem?_eq_some_iff.mp px).1
   have b2:its.toArray.size=its.length:=List.size_toArray ..
   lia
  obtain⟨u,e1,r1⟩:=rx.get (List.getElem?_eq_getElem il)
  obtain⟨v,e2,r2⟩:=ry.get (List.getElem?_eq_getElem (show acc.size<ys.length by lia))
  have px':its[acc.size]?=some x:=by simpa using px
  have py':jts[acc.size]?=some y:=by simpa using py
  rw[px']at e1;obtain rfl:=Option.some.inj e1
  rw[py']at e2;obtain rfl:=Option.some.inj e2
  have nT:∀ c∈[z,TO,i1,i2,h'.objs.size],c≠s'.heap.objs.size:=fun c hc=>by
   simp only[List.mem_cons,List.not_mem_nil,or_false]at hc
   rcases hc with rfl|rfl|rfl|rfl|rfl
   ·exact Nat.ne_of_lt (Nat.lt_trans (Heap.lt_size hzz) lt)
   ·exact Nat.ne_of_lt (Nat.lt_trans (Heap.lt_size hO) lt)
   ·exact Nat.ne_of_lt (Nat.lt_trans (Heap.lt_size h1) lt)
   ·exact Nat.ne_of_lt (Nat.lt_trans (Heap.lt_size h2) lt)
   ·exact Nat.ne_of_lt lt
  have fk4:∀ c∈[z,TO,i1,i2],FpOk X pins Hk c:=fun c hc=>fk c (by simp only[List.mem_cons,List.not_mem_nil,or_false]at hc ⊢;rcases hc with m|m|m|m<;>simp[m])
  have fr:Hk s'.heap.objs.size=none:=Ik.fresh
  have al:acc.size=ts.length:=by rw[← Array.length_toList,ea,List.length_map]
  refine⟨ts++[s'.heap.objs.size],_,Ik.spunN (fp:=[z,TO,i1,i2]) kk fk4 (Nat.le_refl _) (zds new r1 r2),sm.trans (zaa fr _),by rw[Array.toList_push,ea,List.map_append];rfl,fun i t hi=>?_,fun c hc=>⟨by rw[zae (nT c hc)];exact(fk c hc).1,(fk c hc).2⟩⟩
  by_cases q:i<ts.length
  ·rw[List.getElem?_append_left q]at hi
   obtain⟨x',y',a1',a2',a3'⟩:=ht i t hi
   exact⟨x',y',a1',a2',zaa fr _ _ _ a3'⟩
  ·have il2:=(List.getElem?_eq_some_iff.mp hi).1
   rw[List.length_append]at il2
   have il3:i=ts.length:=by simp at il2;lia
   subst il3
   rw[List.getElem?_append_right (Nat.le_refl _),Nat.sub_self]at hi
   obtain rfl:s'.heap.objs.size=t:=by simpa using hi
   rw[← al]
   exact⟨_,_,List.getElem?_eq_getElem il,List.getElem?_eq_getElem (show acc.size<ys.length by lia),zab⟩
 ·rintro acc s' h2' tk ⟨ts,Hk,Ik,sm,ea,ht,fk⟩ kk
  exact⟨ts,Hk,Ik.spun (fp:=[z,TO,i1,i2,h'.objs.size]) kk fk,sm,ea,ht,fk⟩
 ·refine⟨[],H1,I2,Same.refl _,rfl,fun i t hi=>by simp at hi,fun c hc=>?_⟩
  simp only[List.mem_cons,List.not_mem_nil,or_false]at hc
  rcases hc with rfl|rfl|rfl|rfl|rfl
  ·exact fp _ (by simp)
  ·exact fp _ (by simp)
  ·exact fp _ (by simp)
  ·exact fp _ (by simp)
  ·exact fpL
 ·rintro h2' tk acc hn ⟨ts,Hk,Ik,sm,ea,ht,fk⟩ _ kk lt
  have tl:ts.length=xs.length:=by
   have:acc.toList.length=ts.length:=by rw[ea,List.length_map]
   rw[Array.length_toList,hn,List.size_toArray]at this;lia
  obtain⟨rk,Rr,fin⟩:=q (ts.map V.ref) Hk sm ⟨by rw[List.length_map];exact tl,fun i t hi=>by
   rw[List.getElem?_map]at hi
   obtain⟨t',e',rfl⟩:=Option.map_eq_some_iff.mp hi
   obtain⟨x,y,a1',a2',a3'⟩:=ht i t' e'
   exact⟨t',x,y,rfl,a1',a2',a3'⟩⟩
  have vr:Vals (ts.map V.ref) acc.toList:=by
   rw[ea]
   clear ht ea tl Rr fin
   induction ts with
   | nil=>exact .nil
   | cons t ts ih=>exact .cons rfl ih
  obtain⟨κ,ak,ac⟩:=asks Ik hu vr Rr
  refine⟨κ,fun u=>rk (vOf u),by rw[Array.length_toList,hn,List.size_toArray];lia,ak,ac,fun h3 l e out lo eo pm so k3=>?_⟩
  obtain⟨ex,rel⟩:=zee vr Rr.kinds
  have vo:Vals (out.map vOf) out:=zdJ fun u hu=>rel u (pm.mem_iff.mp hu)
  refine⟨.ref l,_,Ik.laid (t':=tk) (o:=.lst (out.map vOf)) k3 lo ⟨?_,out,e,vo,eo⟩,rfl,fin l _ (Ik.hok.fresh lo) ?_ ?_⟩
  ·rw[List.length_map,pm.length_eq,Array.length_toList,hn,List.size_toArray];exact Nat.le_trans (show _≤63 by lia) (by decide)
  ·rw[ex];exact pm.map vOf
  ·exact List.pairwise_map.mpr so
end L2
namespace Bn
open PySem L2 Own
theorem atNew {H:Hp}{a:Addr}(_:H a=none) (o:HO):L2.upd H a o a=some o:=zab
def decF (H:Hp):V→Fk
 | .ref g=>match H g with
  | some (.tup [.int a,.int b])=>(a.toNat,b.toNat)
  | _=>(0,0)
 | _=>(0,0)
def dec (H:Hp):V→Int × Fk
 | .ref t=>match H t with
  | some (.tup [.int l,x])=>(l,decF H x)
  | _=>(0,(0,0))
 | _=>(0,(0,0))
theorem zhD {H:Hp}{g:Addr}{f:Fk}(h:H g=some (.tup [.int f.1,.int f.2])):decF H (.ref g)=f:=by
 simp only[decF,h]
 obtain⟨a,b⟩:=f
 simp
theorem zkX {H:Hp}{t g:Addr}{l:Int}{f:Fk}(h:H t=some (.tup [.int l,.ref g])) (hg:H g=some (.tup [.int f.1,.int f.2])):dec H (.ref t)=(l,f):=by
 show (match H t with|some (.tup [.int l,x])=>(l,decF H x)|_=>(0,(0,0)))=(l,f)
 rw[h]
 show (l,decF H (.ref g))=(l,f)
 rw[zhD hg]
def Trp (H:Hp) (x:V) (p:Int × Fk):Prop:=∃ t g,x=.ref t∧H t=some (.tup [.int p.1,.ref g])∧H g=some (.tup [.int p.2.1,.int p.2.2])
theorem Trp.dec {H:Hp}{x:V}{p:Int × Fk}(h:Trp H x p):dec H x=p:=by
 obtain⟨t,g,rfl,h1,h2⟩:=h
 exact zkX h1 h2
theorem za9 {i j:Int}:(compare i j=.lt↔i<j)∧(compare i j=.eq↔i=j)∧(compare i j=.gt↔j<i):=by
 rw[show compare i j=compareOfLessAndEq i j from rfl]
 unfold compareOfLessAndEq
 by_cases h1:i<j
 ·rw[if_pos h1];simp[h1];lia
 ·rw[if_neg h1]
  by_cases h2:i=j
  ·rw[if_pos h2];simp[h2]
  ·rw[if_neg h2];simp[h1,h2];lia
theorem ziY {i j:Int}{c:Ordering}(h:(c=.lt→i<j)∧(c=.eq→i=j)∧(c=.gt→j<i)):compare i j=c:=by
 cases c with
 | lt=>exact za9.1.mpr (h.1 rfl)
 | eq=>exact za9.2.1.mpr (h.2.1 rfl)
 | gt=>exact za9.2.2.mpr (h.2.2 rfl)
theorem cmp2 {a b a' b':Int}(h1:0≤b∧b<32) (h2:0≤b'∧b'<32):compare (a*32+b) (a'*32+b')=(compare a a').then (compare b b'):=by
 apply ziY
 have c1:=@za9 a a'
 have c2:=@za9 b b'
 cases e:compare a a'<;>rw[e]at c1<;>simp at c1
 ·refine⟨fun _=>by lia,fun z=>?_,fun z=>?_⟩<;>cases z
 ·cases f:compare b b'<;>rw[f]at c2<;>simp at c2
  ·refine⟨fun _=>by lia,fun z=>?_,fun z=>?_⟩<;>cases z
  ·refine⟨fun z=>?_,fun _=>by lia,fun z=>?_⟩<;>cases z
  ·refine⟨fun z=>?_,fun z=>?_,fun _=>by lia⟩<;>cases z
 ·refine⟨fun z=>?_,fun z=>?_,fun _=>by lia⟩<;>cases z
theorem zjS {H:Hp}{n:Nat}{g g':Addr}{f f':Fk}(h:H g=some (.tup [.int f.1,.int f.2])) (h':H g'=some (.tup [.int f'.1,.int f'.2])) (b:f.2<32) (b':f'.2<32) :
  Lx H (n+1) (.ref g) (.ref g') (compare ((f.1:Int)*32+f.2) ((f'.1:Int)*32+f'.2)):=by
 rw[cmp2 (by lia) (by lia)]
 exact Lx.pair h h' (.int _ _ _) (.int _ _ _)
theorem zkJ {H:Hp}{x y:V}{p q:Int × Fk}(hx:Trp H x p) (hy:Trp H y q) (b:p.2.1<32∧p.2.2<32) (b':q.2.1<32∧q.2.2<32):Lx H 2 x y (compare (rnk p) (rnk q)):=by
 obtain⟨t,g,rfl,h1,h2⟩:=hx
 obtain⟨t',g',rfl,h3,h4⟩:=hy
 have e:compare (rnk p) (rnk q)=(compare p.1 q.1).then (compare ((p.2.1:Int)*32+p.2.2) ((q.2.1:Int)*32+q.2.2)):=by
  apply ziY
  have c1:=@za9 p.1 q.1
  have c2:=@za9 ((p.2.1:Int)*32+p.2.2) ((q.2.1:Int)*32+q.2.2)
  unfold rnk
  cases e:compare p.1 q.1<;>rw[e]at c1<;>simp at c1
  ·refine⟨fun _=>by lia,fun z=>?_,fun z=>?_⟩<;>cases z
  ·cases f:compare ((p.2.1:Int)*32+p.2.2) ((q.2.1:Int)*32+q.2.2)<;>rw[f]at c2<;>simp at c2
   ·refine⟨fun _=>by lia,fun z=>?_,fun z=>?_⟩<;>cases z
   ·refine⟨fun z=>?_,fun _=>by lia,fun z=>?_⟩<;>cases z
   ·refine⟨fun z=>?_,fun z=>?_,fun _=>by lia⟩<;>cases z
  ·refine⟨fun z=>?_,fun z=>?_,fun _=>by lia⟩<;>cases z
 rw[e]
 exact Lx.pair h1 h3 (.int _ _ _) (zjS h2 h4 b.2 b'.2)
theorem zi0 {H:Hp}{ts ps:List V}{ls:List Int}{fs:List Fk}(z:Zip2 H ts (ls.map V.int) ps) (pr:Prs H ps fs):ts.map (dec H)=ls.zip fs∧∀ x∈ts,Trp H x (dec H x):=by
 have pl:=pr.len
 have tl:=z.1
 rw[List.length_map]at tl
 have at_:∀ (i:Nat) t,ts[i]?=some t→∃ l f,ls[i]?=some l∧fs[i]?=some f∧Trp H t (l,f):=fun i t ht=>by
  obtain⟨a,x,y,rfl,hx,hy,ha⟩:=z.2 i t ht
  rw[List.getElem?_map]at hx
  obtain⟨l,hl,rfl⟩:=Option.map_eq_some_iff.mp hx
  obtain⟨g,f,rfl,hf,hg⟩:=pr.get hy
  exact⟨l,f,hl,hf,a,g,rfl,ha,hg⟩
 refine⟨List.ext_getElem? fun i=>?_,fun x hx=>?_⟩
 ·rw[List.getElem?_map]
  cases e:ts[i]? with
  | none =>
   have il:=List.getElem?_eq_none_iff.mp e
   exact(List.getElem?_eq_none_iff.mpr (by rw[List.length_zip];lia)).symm
  | some t =>
   obtain⟨l,f,hl,hf,tr⟩:=at_ i t e
   rw[Option.map_some,tr.dec]
   exact(List.getElem?_zip_eq_some.mpr ⟨hl,hf⟩).symm
 ·obtain⟨i,hi⟩:=List.mem_iff_getElem?.mp hx
  obtain⟨l,f,_,_,tr⟩:=at_ i x hi
  rw[tr.dec];exact tr
def IsFk (H:Hp) (x:V) (f:Fk):Prop:=∃ g,x=.ref g∧H g=some (.tup [.int f.1,.int f.2])
theorem IsFk.dec {H:Hp}{x:V}{f:Fk}(h:IsFk H x f):decF H x=f:=by
 obtain⟨g,rfl,e⟩:=h
 exact zhD e
theorem ziM {H:Hp}:∀ {ps:List V},(∀ x∈ps,IsFk H x (decF H x))→Prs H ps (ps.map (decF H))
 | [],_=>trivial
 | x::ps,h=>by
  obtain⟨g,e,hg⟩:=h x List.mem_cons_self
  exact⟨⟨g,e,hg⟩,ziM fun y hy=>h y (List.mem_cons_of_mem _ hy)⟩
theorem Prs.app {H:Hp}:∀ {ps qs:List V}{fs gs:List Fk},Prs H ps fs→Prs H qs gs→Prs H (ps++qs) (fs++gs)
 | [],_,[],_,_,h=>h
 | _::_,_,_::_,_,⟨x,r⟩,h=>⟨x,Prs.app r h⟩
theorem zkt (N:Nt):pz N=(zbt N).zip N.forks:=by
 rw[← zgO,← zci]
 induction pz N with
 | nil=>rfl
 | cons x l ih=>rw[List.map_cons,List.map_cons,List.zip_cons_cons,← ih]
end Bn
namespace L2
open PySem PySem.Spec PyProof.Rows Own
section
variable {X:Cx}
end
end L2
namespace Bn
open PySem L2 Own
end Bn
namespace L2
open PySem PySem.Spec PyProof.Rows Own
section
variable {prog:Program}{w:World}{A:Around}{E:Value→Shared→Prop}{it l:Addr}{items:Array Value}
end
section
variable {X:Cx}
end
end L2
namespace L2
open PySem
end L2
namespace Bn
open PySem L2 Own
theorem zca {α:Type}{x:α}{a b:List α}(h:x∈a++b):x∈a∨x∈b:=List.mem_append.mp h
section
variable {H0 H H':Hp}{l d lt lg lo:Addr}{qa:List Addr}{ts os:List Int}{gs:List Grp}
end
inductive Dd
 | put (lane:Nat) (many:Int)
 | step (place:Nat)
 | join (i j:Nat)
def DeedAt (H:Hp) (t:Addr):Dd→Prop
 | .put lane many=>H t=some (.tup [.str "put",.int lane,.int many])
 | .step place=>H t=some (.tup [.str "step",.int place])
 | .join i j=>H t=some (.tup [.str "join",.int i,.int j])
theorem DeedAt.tups {H H':Hp}(s:Tups H H') {t:Addr}:∀ {dd:Dd},DeedAt H t dd→DeedAt H' t dd
 | .put _ _,h=>s _ _ h
 | .step _,h=>s _ _ h
 | .join _ _,h=>s _ _ h
def Alike (gs:List Grp) (i j:Nat):Prop:=∀ g h,gs[i]?=some g→gs[j]?=some h→g.lane=h.lane∧g.fork=h.fork
def DeedOk (N:Nt) (gs:List Grp):Dd→Prop
 | .put lane many=>lane<N.lanes∧many≠0∧-(10 ^ 29)<many∧many<10 ^ 29
 | .step place=>place<gs.length
 | .join i j=>i<j∧j<gs.length∧Alike gs i j
def DoTo (N:Nt) (ts:List Int) (gs:List Grp) (os ts':List Int) (gs':List Grp) (os':List Int):Dd→Prop
 | .put lane many=>ts'=ts∧os'=os∧∃ k,IsNext N.forks lane 0 k∧gs'=gs++[⟨many,lane,k⟩]
 | .step place=>StepTo N place ts gs os ts' gs' os'
 | .join i j=>ts'=ts∧os'=os∧JoinTo i j gs gs'
structure ScOk (N:Nt) (ts:List Int) (gs:List Grp) (os:List Int):Prop where
 tl:ts.length=N.forks.length
 tb:∀ t∈ts,t=0∨t=1
 ol:os.length=N.lanes
 gk:∀ g∈gs,g.lane<N.lanes∧g.fork≤N.forks.length
theorem zaN {m:Int}{lane k:Nat}{g:Grp}(h:g∈part m lane k):g=⟨m,lane,k⟩:=by
 unfold part at h
 split at h
 ·simp at h
 ·simpa using h
theorem zjd {ts:List Int}{i:Nat}{v:Int}(h:∀ t∈ts,t=0∨t=1) (hv:v=0∨v=1):∀ t∈ts.set i v,t=0∨t=1:=fun t ht=>by
 rcases List.mem_or_eq_of_mem_set ht with z|z
 ·exact h t z
 ·rw[z];exact hv
theorem DoTo.ok {N:Nt}(okN:N.Ok) {ts os ts' os':List Int}{gs gs':List Grp}{dd:Dd}(k:ScOk N ts gs os) (dk:DeedOk N gs dd) (h:DoTo N ts gs os ts' gs' os' dd):ScOk N ts' gs' os'∧gs'.length≤gs.length+1:=by
 cases dd with
 | put lane many =>
  obtain⟨rfl,rfl,kk,hk,rfl⟩:=h
  refine⟨⟨k.tl,k.tb,k.ol,fun g hg=>?_⟩,by rw[List.length_append];exact Nat.le_refl _⟩
  rcases zca hg with hg|hg
  ·exact k.gk g hg
  ·rw[List.mem_singleton.mp hg];exact⟨dk.1,hk.upto⟩
 | step place =>
  obtain⟨g,eg,h⟩:=h
  have gm:=List.mem_of_getElem? eg
  have gl:=(List.getElem?_eq_some_iff.mp eg).1
  rcases h with ⟨z,rfl,rfl,rfl⟩|⟨z,rfl,rfl,ms,pt,rfl⟩
  ·refine⟨⟨k.tl,k.tb,by rw[List.length_set];exact k.ol,fun q hq=>?_⟩,by rw[List.length_append,List.length_take,List.length_drop];lia⟩
   rcases zca hq with hq|hq
   ·exact k.gk q (List.mem_of_mem_take hq)
   ·exact k.gk q (List.mem_of_mem_drop hq)
  ·have pl:=pt.len
   refine⟨⟨by rw[List.length_set];exact k.tl,zjd k.tb (by lia),k.ol,fun q hq=>?_⟩,by rw[List.length_append,List.length_append,List.length_take,List.length_drop];lia⟩
   rcases zca hq with hq|hq
   ·rcases zca hq with hq|hq
    ·exact k.gk q (List.mem_of_mem_take hq)
    ·obtain⟨f,k1,k2,ef,n1,n2,rfl⟩:=pt
     have fo:=okN.fk f (List.mem_of_getElem? ef)
     rcases zca hq with hq|hq
     ·rw[zaN hq];exact⟨fo.1,n1.upto⟩
     ·rw[zaN hq];exact⟨fo.2.1,n2.upto⟩
   ·exact k.gk q (List.mem_of_mem_drop hq)
 | join i j =>
  obtain⟨rfl,rfl,g,h',eg,eh,rfl⟩:=h
  have gm:=List.mem_of_getElem? eg
  obtain⟨ij,jl,_⟩:=dk
  have pl:(part (g.many+h'.many) g.lane g.fork).length≤1:=by unfold part;split<;>simp
  refine⟨⟨k.tl,k.tb,k.ol,fun q hq=>?_⟩,by rw[List.length_append,List.length_append,List.length_append,List.length_take,List.length_take,List.length_drop,List.length_drop];lia⟩
  rcases zca hq with hq|hq
  ·rcases zca hq with hq|hq
   ·rcases zca hq with hq|hq
    ·exact k.gk q (List.mem_of_mem_take hq)
    ·rw[zaN hq];exact k.gk g gm
   ·exact k.gk q (List.mem_of_mem_drop (List.mem_of_mem_take hq))
  ·exact k.gk q (List.mem_of_mem_drop hq)
end Bn
namespace K83
open PySem L2 Own Bn
abbrev zjn:Stmt:=top 20
def ze8:Sp:=fun vs H Q _=>∃ r fr er ps N sc tr gr ou qs ts gs os t dd,vs=[.ref r,.ref sc,.ref t]∧Nt.Ok N∧NetAt H r fr er ps N∧SceneAt H sc tr gr ou qs ts gs os∧ScOk N ts gs os∧gs.length≤900∧DeedAt H t dd∧DeedOk N gs dd ∧
 ∀ sc' tr' gr' ou' qs' ts' gs' os' H',DoTo N ts gs os ts' gs' os' dd→Same H H'→SceneAt H' sc' tr' gr' ou' qs' ts' gs' os'→Q (.ref sc') H'
theorem zkW:¬(V.str "step" = V.str "put")∧¬(V.str "join" = V.str "put")∧¬(V.str "join" = V.str "step"):=⟨fun y=>absurd (V.str.inj y) (by decide +kernel),fun y=>absurd (V.str.inj y) (by decide +kernel),fun y=>absurd (V.str.inj y) (by decide +kernel)⟩
section
variable {P:Program}{w:World}{K:PySem.W.Frag}{mg:Str→Option Value}{base:Heap}
theorem scDn:FnScope ["net","scene","deed"] ["net","scene","deed"] (zad zjn):=⟨rfl,rfl,rfl,by decide +kernel,rfl,by decide +kernel,by decide +kernel⟩
theorem zjJ {f fD fP fS fJ:Addr}{fd dD dP dS dJ:FuncData}(F:Fun K "done" "done" zjn f fd) (G:Mgs mg) (UDe:Use P w K mg base "is_deed" ["net","thing"] 4 (ze9 K) fD dD) (UPu:Use P w K mg base "put_behind" ["net","scene","lane","many"] 2 zgn fP dP) (USt:Use P w K mg base "stepped" ["net","scene","place"] 3 zcv fS dS) (UJo:Use P w K mg base "joined" ["scene","first","second"] 1 zdj fJ dJ):FnOk P w K mg base CX0 5 f fd ["net","scene","deed"] ze8:=by
 refine F.ok scDn (fun vs H Q E h=>?_) (fun cdv A outer s H vs Q E hr h=>?_)
 ·obtain⟨r,fr,er,ps,N,sc,tr,gr,ou,qs,ts,gs,os,t,dd,rfl,_⟩:=h
  rfl
 obtain⟨r,fr,er,ps,N,sc,tr,gr,ou,qs,ts,gs,os,t,dd,rfl,ok,na,sa,sk,gl,da,dk,k⟩:=h
 have hr1:Room 1 _:=hr.mono (by decide)
 have hr2:Room 2 _:=hr.mono (by decide)
 have hr3:Room 3 _:=hr.mono (by decide)
 refine⟨_,(@pss_cons _ _ _ _ _ (@ps_if _ _ _ _ _ _ _ _ (@pt_not _ _ _ _ (@pt_truth _ _ _ (@pe_call _ _ _ _ _ _ _ _ _ _ _ _ _ _ _ _ UDe.ok hr (by rfl) UDe.m UDe.kp UDe.b .nil pass0 (@pa_cons _ _ _ _ _ (@pv _ 0 _ _ (by rfl) (by first|exact Or.inl rfl|exact Or.inr (.inl rfl)|exact Or.inr (.inr rfl)) (by decide) (by decide)) (@pa_cons _ _ _ _ _ (@pv _ 2 _ _ (by rfl) (by first|exact Or.inl rfl|exact Or.inr (.inl rfl)|exact Or.inr (.inr rfl)) (by decide) (by decide)) pa_nil (by rfl)) (by rfl)) (by decide) (by rfl) (by rfl)) (fun _=>rfl))) (@pss_one _ _ _ zdq) pss_nil) (@pss_cons _ _ _ _ _ (@ps_if _ _ _ _ _ _ _ _ (@pt_cmpR _ _ _ _ _ _ _ _ op_eq (@pe_ix _ _ _ _ _ _ _ ix_tup (@pv _ 2 _ _ (by rfl) (by first|exact Or.inl rfl|exact Or.inr (.inl rfl)|exact Or.inr (.inr rfl)) (by decide) (by decide)) pe_int (fun _ _=>rfl)) pe_str (nomark _)) (@pss_one _ _ _ (@ps_ret _ _ _ _ (@pe_call _ _ _ _ _ _ _ _ _ _ _ _ _ _ _ _ UPu.ok hr2 (by rfl) UPu.m UPu.kp UPu.b .nil pass0 (@pa_cons _ _ _ _ _ (@pv _ 0 _ _ (by rfl) (by first|exact Or.inl rfl|exact Or.inr (.inl rfl)|exact Or.inr (.inr rfl)) (by decide) (by decide)) (@pa_cons _ _ _ _ _ (@pv _ 1 _ _ (by rfl) (by first|exact Or.inl rfl|exact Or.inr (.inl rfl)|exact Or.inr (.inr rfl)) (by decide) (by decide)) (@pa_cons _ _ _ _ _ (@pe_ix _ _ _ _ _ _ _ ix_tup (@pv _ 2 _ _ (by rfl) (by first|exact Or.inl rfl|exact Or.inr (.inl rfl)|exact Or.inr (.inr rfl)) (by decide) (by decide)) pe_int (fun _ _=>rfl)) (@pa_cons _ _ _ _ _ (@pe_ix _ _ _ _ _ _ _ ix_tup (@pv _ 2 _ _ (by rfl) (by first|exact Or.inl rfl|exact Or.inr (.inl rfl)|exact Or.inr (.inr rfl)) (by decide) (by decide)) pe_int (fun _ _=>rfl)) pa_nil (by rfl)) (by rfl)) (by rfl)) (by rfl)) (by decide) (by rfl) (by rfl)))) pss_nil) (@pss_cons _ _ _ _ _ (@ps_if _ _ _ _ _ _ _ _ (@pt_cmpR _ _ _ _ _ _ _ _ op_eq (@pe_ix _ _ _ _ _ _ _ ix_tup (@pv _ 2 _ _ (by rfl) (by first|exact Or.inl rfl|exact Or.inr (.inl rfl)|exact Or.inr (.inr rfl)) (by decide) (by decide)) pe_int (fun _ _=>rfl)) pe_str (nomark _)) (@pss_one _ _ _ (@ps_ret _ _ _ _ (@pe_call _ _ _ _ _ _ _ _ _ _ _ _ _ _ _ _ USt.ok hr3 (by rfl) USt.m USt.kp USt.b .nil pass0 (@pa_cons _ _ _ _ _ (@pv _ 0 _ _ (by rfl) (by first|exact Or.inl rfl|exact Or.inr (.inl rfl)|exact Or.inr (.inr rfl)) (by decide) (by decide)) (@pa_cons _ _ _ _ _ (@pv _ 1 _ _ (by rfl) (by first|exact Or.inl rfl|exact Or.inr (.inl rfl)|exact Or.inr (.inr rfl)) (by decide) (by decide)) (@pa_cons _ _ _ _ _ (@pe_ix _ _ _ _ _ _ _ ix_tup (@pv _ 2 _ _ (by rfl) (by first|exact Or.inl rfl|exact Or.inr (.inl rfl)|exact Or.inr (.inr rfl)) (by decide) (by decide)) pe_int (fun _ _=>rfl)) pa_nil (by rfl)) (by rfl)) (by rfl)) (by decide) (by rfl) (by rfl)))) pss_nil) (@pss_one _ _ _ (@ps_ret _ _ _ _ (@pe_call _ _ _ _ _ _ _ _ _ _ _ _ _ _ _ _ UJo.ok hr1 (by rfl) UJo.m UJo.kp UJo.b .nil pass0 (@pa_cons _ _ _ _ _ (@pv _ 1 _ _ (by rfl) (by first|exact Or.inl rfl|exact Or.inr (.inl rfl)|exact Or.inr (.inr rfl)) (by decide) (by decide)) (@pa_cons _ _ _ _ _ (@pe_ix _ _ _ _ _ _ _ ix_tup (@pv _ 2 _ _ (by rfl) (by first|exact Or.inl rfl|exact Or.inr (.inl rfl)|exact Or.inr (.inr rfl)) (by decide) (by decide)) pe_int (fun _ _=>rfl)) (@pa_cons _ _ _ _ _ (@pe_ix _ _ _ _ _ _ _ ix_tup (@pv _ 2 _ _ (by rfl) (by first|exact Or.inl rfl|exact Or.inr (.inl rfl)|exact Or.inr (.inr rfl)) (by decide) (by decide)) pe_int (fun _ _=>rfl)) pa_nil (by rfl)) (by rfl)) (by rfl)) (by decide) (by rfl) (by rfl))))))),?_⟩
 obtain⟨w1,w2,w3⟩:=zkW
 cases dd with
 | put lane many =>
  obtain⟨ll,m0,m1,m2⟩:=dk
  replace da:H t=some (.tup [.str "put",.int lane,.int many]):=da
  have ro:=zaQ da
  have dv:zbA H N.lanes (.ref t)=true:=by
   unfold zbA
   rw[ro]
   show (if zaK "put" (.str "put")=true then zbu N.lanes (.int lane) && zdY (.int many) else zaK "join" (.str "put") && (zce 0 (.int many) && lowV (.int lane) (.int many)))=true
   rw[if_pos (by decide)]
   show ((decide ((0:Int)≤lane) && decide ((lane:Int)<N.lanes)) && (decide ((if many<0 then -many else many)<10 ^ 30) && !decide (many=0)))=true
   rw[decide_eq_true (by lia),decide_eq_true (by lia),decide_eq_true (by split<;>lia),decide_eq_false m0];rfl
  refine⟨_,rfl,_,rfl,r,fr,er,ps,N,.ref t,rfl,na,⟨_,.tup da,_,rfl⟩,fun xs hx y hy=>?_,?_⟩
  ·rw[ro]at hx
   obtain rfl:=Option.some.inj hx
   simp only[List.mem_cons,List.mem_nil_iff,or_false]at hy
   rcases hy with rfl|rfl|rfl
   ·exact⟨_,.str _,_,rfl⟩
   ·exact⟨_,.int _,_,rfl⟩
   ·exact⟨_,.int _,_,rfl⟩
  rw[dv]
  refine⟨true,rfl,iteF ?_⟩
  refine⟨_,rfl,t,_,_,_,rfl,rfl,SqT.of da,rfl,rfl,_,rfl,ite2 (fun _=>?_) (fun z=>absurd (decide_eq_true rfl) z)⟩
  exact⟨_,rfl,_,rfl,_,rfl,t,_,_,_,rfl,rfl,SqT.of da,rfl,_,rfl,t,_,_,_,rfl,rfl,SqT.of da,rfl,r,fr,er,ps,N,sc,tr,gr,ou,qs,ts,gs,os,lane,many,rfl,ok,na,sa,gl,fun kk sc' gr' qs' H' hk s' sa'=>k _ _ _ _ _ _ _ _ _ ⟨rfl,rfl,kk,hk,rfl⟩ s' sa'⟩
 | step place =>
  replace da:H t=some (.tup [.str "step",.int place]):=da
  have ro:=zaQ da
  have dv:zbA H N.lanes (.ref t)=true:=by
   unfold zbA
   rw[ro]
   show (zaK "step" (.str "step") && zce 0 (.int place))=true
   rw[show zaK "step" (.str "step")=true by decide]
   rw[Bool.true_and]
   exact decide_eq_true (show (0:Int)≤(place:Int) from Int.natCast_nonneg _)
  refine⟨_,rfl,_,rfl,r,fr,er,ps,N,.ref t,rfl,na,⟨_,.tup da,_,rfl⟩,fun xs hx y hy=>?_,?_⟩
  ·rw[ro]at hx
   obtain rfl:=Option.some.inj hx
   simp only[List.mem_cons,List.mem_nil_iff,or_false]at hy
   rcases hy with rfl|rfl
   ·exact⟨_,.str _,_,rfl⟩
   ·exact⟨_,.int _,_,rfl⟩
  rw[dv]
  refine⟨true,rfl,iteF ?_⟩
  refine⟨_,rfl,t,_,_,_,rfl,rfl,SqT.of da,rfl,rfl,_,rfl,?_⟩
  rw[show decide (V.str "step" = V.str "put")=false from decide_eq_false w1]
  refine iteF ⟨_,rfl,t,_,_,_,rfl,rfl,SqT.of da,rfl,rfl,_,rfl,?_⟩
  rw[show decide (V.str "step" = V.str "step")=true from decide_eq_true rfl]
  refine iteT ⟨_,rfl,_,rfl,_,rfl,t,_,_,_,rfl,rfl,SqT.of da,rfl,r,fr,er,ps,N,sc,tr,gr,ou,qs,ts,gs,os,place,rfl,ok,na,sa,dk,gl,sk.tl,sk.ol,sk.gk,fun sc' tr' gr' ou' qs' ts' gs' os' H' st s' sa'=>k _ _ _ _ _ _ _ _ _ st s' sa'⟩
 | join i j =>
  obtain⟨ij,jl,al⟩:=dk
  replace da:H t=some (.tup [.str "join",.int i,.int j]):=da
  have ro:=zaQ da
  have dv:zbA H N.lanes (.ref t)=true:=by
   unfold zbA
   rw[ro]
   show (if zaK "put" (.str "join")=true then zbu N.lanes (.int i) && zdY (.int j) else zaK "join" (.str "join") && (zce 0 (.int j) && lowV (.int i) (.int j)))=true
   rw[if_neg (by decide),show zaK "join" (.str "join")=true by decide]
   show (decide ((0:Int)≤j) && (decide ((0:Int)≤i) && decide ((i:Int)<j)))=true
   rw[decide_eq_true (by lia),decide_eq_true (by lia),decide_eq_true (by lia)];rfl
  refine⟨_,rfl,_,rfl,r,fr,er,ps,N,.ref t,rfl,na,⟨_,.tup da,_,rfl⟩,fun xs hx y hy=>?_,?_⟩
  ·rw[ro]at hx
   obtain rfl:=Option.some.inj hx
   simp only[List.mem_cons,List.mem_nil_iff,or_false]at hy
   rcases hy with rfl|rfl|rfl
   ·exact⟨_,.str _,_,rfl⟩
   ·exact⟨_,.int _,_,rfl⟩
   ·exact⟨_,.int _,_,rfl⟩
  rw[dv]
  refine⟨true,rfl,iteF ?_⟩
  refine⟨_,rfl,t,_,_,_,rfl,rfl,SqT.of da,rfl,rfl,_,rfl,?_⟩
  rw[show decide (V.str "join" = V.str "put")=false from decide_eq_false w2]
  refine iteF ⟨_,rfl,t,_,_,_,rfl,rfl,SqT.of da,rfl,rfl,_,rfl,?_⟩
  rw[show decide (V.str "join" = V.str "step")=false from decide_eq_false w3]
  exact iteF ⟨_,rfl,_,rfl,t,_,_,_,rfl,rfl,SqT.of da,rfl,_,rfl,t,_,_,_,rfl,rfl,SqT.of da,rfl,sc,tr,gr,ou,qs,ts,gs,os,i,j,rfl,sa,ij,jl,gl,al,fun sc' gr' qs' gs' H' jt s' sa'=>k _ _ _ _ _ _ _ _ _ ⟨rfl,rfl,jt⟩ s' sa'⟩
end
end K83
namespace Bn
open PySem L2 Own
theorem zk2 {ps:List V}{x:V}(h:ps[ps.length-1]?=some x):atI ps (-1)=some x:=by
 have ne:ps≠[]:=by rintro rfl;simp at h
 have g:ps.getLast ne=x:=by rw[List.getLast_eq_getElem];exact(List.getElem?_eq_some_iff.mp h).2
 have e:ps=ps.dropLast++[x]:=by rw[← g];exact(List.dropLast_concat_getLast ne).symm
 rw[e];exact ziH _ _
theorem zfO {ys zs:List V}(h:ys.Perm zs):∀ l:List Nat,zs=nums l→∃ es:List Nat,ys=nums es∧es.Perm l:=by
 induction h with
 | nil=>intro l e;cases l with
  | nil=>exact⟨[],rfl,.nil⟩
  | cons a b=>cases e
 | cons x _ ih=>intro l e;cases l with
  | nil=>cases e
  | cons a b =>
   have e':x=.int a∧_=nums b:=List.cons.inj e
   obtain⟨es,e1,p1⟩:=ih b e'.2
   exact⟨a::es,by rw[e'.1,e1];rfl,p1.cons a⟩
 | swap x y t=>intro l e;match l,e with
  | [],e=>cases e
  | [_],e=>cases (List.cons.inj e).2
  | a::b::c,e =>
   have e1:x=.int a∧y::t=nums (b::c):=List.cons.inj e
   have e2:y=.int b∧t=nums c:=List.cons.inj e1.2
   exact⟨b::a::c,by rw[e1.1,e2.1,e2.2];rfl,.swap a b c⟩
 | trans _ _ i1 i2 =>
  intro l e
  obtain⟨m,e1,p1⟩:=i2 l e
  obtain⟨n,e2,p2⟩:=i1 m e1
  exact⟨n,e2,p2.trans p1⟩
theorem zhb {ys:List V}{l:List Nat}(h:ys.Perm (nums l)):∃ es:List Nat,ys=nums es∧es.Perm l:=zfO h l rfl
theorem zc4 {α:Type}:∀ (xs:List α) (k:Nat) (h:k<xs.length),(xs[k]::xs.eraseIdx k).Perm xs
 | x::xs,0,_=>.refl _
 | x::xs,k+1,h=>by
  have hk:k<xs.length:=by simpa using h
  have ih:=zc4 xs k hk
  exact(List.Perm.swap x xs[k] _).trans (ih.cons x)
end Bn
namespace K83
open PySem L2 Own Bn
abbrev sOf:Stmt:=top 56
abbrev zev:Stmt:=top 57
abbrev sNet:Stmt:=top 58
def spOf:Sp:=fun vs H Q _=>∃ (l q:Addr) (xs:List V),vs=[.ref l,.ref q]∧PkAt H l∧q≠l∧H q=some (.lst xs)∧0<xs.length∧xs.length≤100000∧∀ (i:Nat) x H',xs[i]?=some x→PkAt H' l→But l H H'→Q x H'
def zbG:Sp:=fun vs H Q _=>∃ (l q:Addr) (xs:List V),vs=[.ref l,.ref q]∧PkAt H l∧q≠l∧H q=some (.lst xs)∧xs.length≤1000∧∀ r ys H',ys.Perm xs→H r=none→H' r=some (.lst ys)→PkAt H' l→But l H H'→Q (.ref r) H'
def zgp (most:Nat):Sp:=fun vs H Q _=>∃ (l:Addr) (lanes:Nat),vs=[.ref l,.int lanes,.int most]∧PkAt H l∧1≤lanes∧lanes≤16∧∀ r fr er ps N H',Nt.Ok N→N.lanes=lanes→N.forks.length≤most→NetAt H' r fr er ps N→PkAt H' l→But l H H'→Q (.ref r) H'
section
variable {P:Program}{w:World}{K:PySem.W.Frag}{mg:Str→Option Value}{base:Heap}
theorem scOf:FnScope ["_law_left_here","_law_some"] ["_law_left_here","_law_some"] (zad sOf):=⟨rfl,rfl,rfl,by decide +kernel,rfl,by decide +kernel,by decide +kernel⟩
theorem zlo {f fK:Addr}{fd dK:FuncData}(F:Fun K "_law_of" "_law_of" sOf f fd) (G:Mgs mg) (UK:Use P w K mg base "_law_pick" ["_law_left_here","_law_many_here"] 1 zbs fK dK):FnOk P w K mg base CX0 2 f fd ["_law_left_here","_law_some"] spOf:=by
 refine F.ok scOf (fun vs H Q E h=>?_) (fun cdv A outer s H vs Q E hr h=>?_)
 ·obtain⟨l,q,xs,rfl,_⟩:=h
  rfl
 obtain⟨l,q,xs,rfl,S,ne,hq,x0,xm,k⟩:=h
 refine⟨_,(@pss_one _ _ _ (@ps_ret _ _ _ _ (@pe_ix _ _ _ _ _ _ _ ix_list (@pv _ 1 _ _ (by rfl) (by first|exact Or.inl rfl|exact Or.inr (.inl rfl)|exact Or.inr (.inr rfl)) (by decide) (by decide)) (@pe_call _ _ _ _ _ _ _ _ _ _ _ _ _ _ _ _ UK.ok hr (by rfl) UK.m UK.kp UK.b .nil pass0 (@pa_cons _ _ _ _ _ (@pv _ 0 _ _ (by rfl) (by first|exact Or.inl rfl|exact Or.inr (.inl rfl)|exact Or.inr (.inr rfl)) (by decide) (by decide)) (@pa_cons _ _ _ _ _ (@pe_callB _ _ _ _ _ _ _ _ _ call_len_seq (by rfl) G.len PySem.boot_len (@pa_cons _ _ _ _ _ (@pv _ 1 _ _ (by rfl) (by first|exact Or.inl rfl|exact Or.inr (.inl rfl)|exact Or.inr (.inr rfl)) (by decide) (by decide)) pa_nil (by rfl)) (by decide) (by decide) (by rfl) (by rfl)) pa_nil (by rfl)) (by rfl)) (by decide) (by rfl) (by rfl)) (fun _ _=>rfl)))),?_⟩
 refine⟨_,rfl,_,rfl,_,rfl,q,_,rfl,.inl (SqL.of hq),l,_,rfl,by lia,by lia,S,fun v H1 hv S1 B1=>?_⟩
 have vl:v<xs.length:=by lia
 exact⟨q,_,_,_,rfl,rfl,SqL.of (B1 q _ hq ne),zaB (List.getElem?_eq_getElem vl),k v _ H1 (List.getElem?_eq_getElem vl) S1 B1⟩
theorem scPl:FnScope ["_law_left_here","_law_some","_law_found"] ["_law_left_here","_law_some"] (zad zev):=⟨rfl,rfl,rfl,by decide +kernel,rfl,by decide +kernel,by decide +kernel⟩
theorem zg3 {f fK:Addr}{fd dK:FuncData}(F:Fun K "_law_placed" "_law_placed" zev f fd) (G:Mgs mg) (UK:Use P w K mg base "_law_pick" ["_law_left_here","_law_many_here"] 1 zbs fK dK):FnOk P w K mg base CX0 2 f fd ["_law_left_here","_law_some"] zbG:=by
 refine F.ok scPl (fun vs H Q E h=>?_) (fun cdv A outer s H vs Q E hr h=>?_)
 ·obtain⟨l,q,xs,rfl,_⟩:=h
  rfl
 obtain⟨l,q,xs,rfl,S,ne,hq,xm,k⟩:=h
 refine⟨_,(@pss_cons _ _ _ _ _ (@ps_set _ _ 1 _ _ _ _ scPl.nd rfl (.inl rfl) (@pe_callTy _ _ _ _ _ _ _ _ _ zbk (by rfl) G.list (by rfl) (@pa_cons _ _ _ _ _ (@pv _ 1 _ _ (by rfl) (by first|exact Or.inl rfl|exact Or.inr (.inl rfl)|exact Or.inr (.inr rfl)) (by decide) (by decide)) pa_nil (by rfl)) (by decide) (by decide) (by rfl) (by rfl)) (by rfl) (by first|exact .inl rfl|exact .inr rfl|assumption)) (@pss_cons _ _ _ _ _ (@ps_set _ _ 2 _ _ _ _ scPl.nd rfl (.inl rfl) (@zaz _ _ _ _ pa_nil) (by rfl) (by first|exact .inl rfl|exact .inr rfl|assumption)) (@pss_cons _ _ _ _ _ (@zdp _ _ _ _ _ _ PassesOwn.never (@pt_cmpR _ _ _ _ _ _ _ _ (ziO hr.units0) (@pv _ 1 _ _ (by rfl) (by first|exact Or.inl rfl|exact Or.inr (.inl rfl)|exact Or.inr (.inr rfl)) (by decide) (by decide)) (@zaz _ _ _ _ pa_nil) (nomark _)) (@pss_one _ _ _ (@ps_expr _ _ _ _ (@pe_bm _ _ _ _ _ _ _ _ _ _ _ _ PySem.F.plainAttrs_list PySem.F.slot_list_append PySem.F.type_list_append mt_append (@pv _ 2 _ _ (by rfl) (by first|exact Or.inl rfl|exact Or.inr (.inl rfl)|exact Or.inr (.inr rfl)) (by decide) (by decide)) (@pa_cons _ _ _ _ _ (@pe_bm _ _ _ _ _ _ _ _ _ _ _ _ PySem.F.plainAttrs_list PySem.F.slot_list_pop PySem.F.type_list_pop ziq (@pv _ 1 _ _ (by rfl) (by first|exact Or.inl rfl|exact Or.inr (.inl rfl)|exact Or.inr (.inr rfl)) (by decide) (by decide)) (@pa_cons _ _ _ _ _ (@pe_call _ _ _ _ _ _ _ _ _ _ _ _ _ _ _ _ UK.ok hr (by rfl) UK.m UK.kp UK.b .nil pass0 (@pa_cons _ _ _ _ _ (@pv _ 0 _ _ (by rfl) (by first|exact Or.inl rfl|exact Or.inr (.inl rfl)|exact Or.inr (.inr rfl)) (by decide) (by decide)) (@pa_cons _ _ _ _ _ (@pe_callB _ _ _ _ _ _ _ _ _ call_len_seq (by rfl) G.len PySem.boot_len (@pa_cons _ _ _ _ _ (@pv _ 1 _ _ (by rfl) (by first|exact Or.inl rfl|exact Or.inr (.inl rfl)|exact Or.inr (.inr rfl)) (by decide) (by decide)) pa_nil (by rfl)) (by decide) (by decide) (by rfl) (by rfl)) pa_nil (by rfl)) (by rfl)) (by decide) (by rfl) (by rfl)) pa_nil (by rfl)) (by rfl) (by rfl) (by rfl) (by rfl) (by rfl)) pa_nil (by rfl)) (by rfl) (by rfl) (by rfl) (by rfl) (by rfl)) (by rfl)))) (@pss_one _ _ _ (@ps_ret _ _ _ _ (@pv _ 2 _ _ (by rfl) (by first|exact Or.inl rfl|exact Or.inr (.inl rfl)|exact Or.inr (.inr rfl)) (by decide) (by decide))))))),?_⟩
 refine⟨_,rfl,q,_,rfl,.inl (SqL.of hq),fun lo hlo=>?_⟩
 have s1:=zaa hlo (.lst xs)
 have nlo:=S.ne hlo
 refine⟨(by show 0≤sizeLine;decide),fun lt hlt=>?_⟩
 have s2:=zaa hlt (.lst [])
 have nlt:=(S.keep s1).ne hlt
 have not:lo≠lt:=zac zab hlt
 have flo:Frs l H lo:=fun b o e _=>zac e hlo
 have flt:Frs l H lt:=fun b o e _=>zac (s1 _ _ e) hlt
 have hlt0:H lt=none:=by
  cases z:H lt with
  | none=>rfl
  | some o=>rw[s1 _ _ z]at hlt;cases hlt
 refine⟨fun m σ H3=>σ=[some (.ref l),some (.ref lo),some (.ref lt)]∧PkAt H3 l∧But l H H3∧∃ us ys,H3 lo=some (.lst us)∧us.length=m∧H3 lt=some (.lst ys)∧(ys++us).Perm xs,
  ⟨_,rfl,(S.keep s1).keep s2,(But.of s1).trans (But.of s2),xs,[],by rw[zae not];exact zab,rfl,zab,.refl _⟩,?_⟩
 rintro m σ H3 ⟨rfl,S3,B3,us,ys,hu,ul,hy,pm⟩
 refine⟨_,rfl,(by show 0≤sizeLine;decide),fun e he=>?_⟩
 have s4:=zaa he (.lst [])
 refine⟨lo,e,us,rfl,rfl,SqL.of (s4 _ _ hu),SqL.of zab,_,rfl,?_⟩
 have S4:=S3.keep s4
 have B4:But l H (L2.upd H3 e (.lst [])):=B3.trans (But.of s4)
 have hu4:=s4 _ _ hu
 have hy4:=s4 _ _ hy
 generalize L2.upd H3 e (.lst [])=H4 at *
 have tot:ys.length+us.length=xs.length:=by rw[← List.length_append];exact pm.length_eq
 by_cases un:us=[]
 ·rw[show (!us.isEmpty)=false by rw[un];rfl]
  refine iteF ⟨_,rfl,k lt ys H4 ?_ hlt0 hy4 S4 B4⟩
  rw[un,List.append_nil]at pm;exact pm
 have up:0<us.length:=List.length_pos_iff.mpr un
 rw[show (!us.isEmpty)=true by cases us with
  | nil=>exact absurd rfl un
  | cons a b=>rfl]
 refine iteT ⟨_,fun σ' H' hN=>⟨m-1,by lia,hN⟩,?_⟩
 refine⟨_,rfl,.inl ⟨rfl,_,SqL.of hy4⟩,_,rfl,.inl ⟨rfl,_,SqL.of hu4⟩,_,rfl,_,rfl,lo,_,rfl,.inl (SqL.of hu4),l,_,rfl,by lia,by lia,S4,fun kk H5 hk S5 B5=>?_⟩
 have kl:kk<us.length:=by lia
 have hu5:=B5 lo _ hu4 nlo.symm
 have hy5:=B5 lt _ hy4 nlt.symm
 refine⟨lo,_,_,kk,us[kk],rfl,rfl,hu5,by lia,by lia,(zeR (zdv (xs:=us) (i:=kk) kl)).1,List.getElem?_eq_getElem kl,?_⟩
 have hy6:upd H5 lo (.lst (us.eraseIdx kk)) lt=some (.lst ys):=by rw[zae not.symm];exact hy5
 refine⟨lt,_,_,rfl,rfl,hy6,Nat.lt_of_lt_of_le (show ys.length<1001 by lia) (by decide),rfl,(S5.upd nlo).upd nlt,((B4.trans B5).upd flo).upd flt,us.eraseIdx kk,ys++[us[kk]],by rw[zae not];exact zab,by rw[List.length_eraseIdx,if_pos kl];lia,zab,?_⟩
 refine List.Perm.trans ?_ pm
 rw[List.append_assoc]
 refine List.Perm.append_left ys ?_
 exact zc4 us kk kl
theorem scN:FnScope ["_law_left_here","_law_lanes","_law_most","_law_forks","_law_k","_law_a","_law_b","_law_ends"] ["_law_left_here","_law_lanes","_law_most"] (zad sNet):=⟨rfl,rfl,rfl,by decide +kernel,rfl,by decide +kernel,by decide +kernel⟩
theorem zkF {f fK fO fP:Addr}{fd dK dO dP:FuncData}(most:Nat) (hmost:most≤100) (F:Fun K "_law_net" "_law_net" sNet f fd) (G:Mgs mg) (UK:Use P w K mg base "_law_pick" ["_law_left_here","_law_many_here"] 1 zbs fK dK) (UO:Use P w K mg base "_law_of" ["_law_left_here","_law_some"] 2 spOf fO dO) (UP:Use P w K mg base "_law_placed" ["_law_left_here","_law_some"] 2 zbG fP dP):FnOk P w K mg base CX0 3 f fd ["_law_left_here","_law_lanes","_law_most"] (zgp most):=by
 refine F.ok scN (fun vs H Q E h=>?_) (fun cdv A outer s H vs Q E hr h=>?_)
 ·obtain⟨l,lanes,rfl,_⟩:=h
  rfl
 obtain⟨l,lanes,rfl,S,l1,l16,k⟩:=h
 have hr1:Room 1 _:=hr.mono (by decide)
 refine⟨_,(@pss_cons _ _ _ _ _ (@ps_set _ _ 3 _ _ _ _ scN.nd rfl (.inl rfl) (@zaz _ _ _ _ pa_nil) (by rfl) (by first|exact .inl rfl|exact .inr rfl|assumption)) (@pss_cons _ _ _ _ _ (@ps_for _ _ _ _ _ _ _ _ PassesOwn.never rfl (@pi_range1 _ _ _ _ _ _ rfl G.range (@pa_cons _ _ _ _ _ (@pe_op _ _ _ _ _ _ _ _ op_mul (@pe_call _ _ _ _ _ _ _ _ _ _ _ _ _ _ _ _ UK.ok hr1 (by rfl) UK.m UK.kp UK.b .nil pass0 (@pa_cons _ _ _ _ _ (@pv _ 0 _ _ (by rfl) (by first|exact Or.inl rfl|exact Or.inr (.inl rfl)|exact Or.inr (.inr rfl)) (by decide) (by decide)) (@pa_cons _ _ _ _ _ (@pe_op _ _ _ _ _ _ _ _ op_add (@pv _ 2 _ _ (by rfl) (by first|exact Or.inl rfl|exact Or.inr (.inl rfl)|exact Or.inr (.inr rfl)) (by decide) (by decide)) pe_int) pa_nil (by rfl)) (by rfl)) (by decide) (by rfl) (by rfl)) (@pe_callTy _ _ _ _ _ _ _ _ _ zcL (by rfl) G.int (by rfl) (@pa_cons _ _ _ _ _ (@zaS _ _ _ _ _ _ _ _ op_gt (@pv _ 1 _ _ (by rfl) (by first|exact Or.inl rfl|exact Or.inr (.inl rfl)|exact Or.inr (.inr rfl)) (by decide) (by decide)) pe_int (nomark _)) pa_nil (by rfl)) (by decide) (by decide) (by rfl) (by rfl))) pa_nil (by rfl)) (by rfl)) (@pg_name _ _ 4 _ scN.nd rfl (.inl rfl) (by first|exact .inl rfl|exact .inr rfl|assumption)) (@pss_cons _ _ _ _ _ (@ps_set _ _ 5 _ _ _ _ scN.nd rfl (.inl rfl) (@pe_call _ _ _ _ _ _ _ _ _ _ _ _ _ _ _ _ UK.ok hr1 (by rfl) UK.m UK.kp UK.b .nil pass0 (@pa_cons _ _ _ _ _ (@pv _ 0 _ _ (by rfl) (by first|exact Or.inl rfl|exact Or.inr (.inl rfl)|exact Or.inr (.inr rfl)) (by decide) (by decide)) (@pa_cons _ _ _ _ _ (@pv _ 1 _ _ (by rfl) (by first|exact Or.inl rfl|exact Or.inr (.inl rfl)|exact Or.inr (.inr rfl)) (by decide) (by decide)) pa_nil (by rfl)) (by rfl)) (by decide) (by rfl) (by rfl)) (by rfl) (by first|exact .inl rfl|exact .inr rfl|assumption)) (@pss_cons _ _ _ _ _ (@ps_set _ _ 6 _ _ _ _ scN.nd rfl (.inl rfl) (@pe_op _ _ _ _ _ _ _ _ op_mod (@pe_op _ _ _ _ _ _ _ _ op_add (@pe_op _ _ _ _ _ _ _ _ op_add (@pv _ 5 _ _ (by rfl) (by first|exact Or.inl rfl|exact Or.inr (.inl rfl)|exact Or.inr (.inr rfl)) (by decide) (by decide)) pe_int) (@pe_call _ _ _ _ _ _ _ _ _ _ _ _ _ _ _ _ UK.ok hr1 (by rfl) UK.m UK.kp UK.b .nil pass0 (@pa_cons _ _ _ _ _ (@pv _ 0 _ _ (by rfl) (by first|exact Or.inl rfl|exact Or.inr (.inl rfl)|exact Or.inr (.inr rfl)) (by decide) (by decide)) (@pa_cons _ _ _ _ _ (@pe_op _ _ _ _ _ _ _ _ op_sub (@pv _ 1 _ _ (by rfl) (by first|exact Or.inl rfl|exact Or.inr (.inl rfl)|exact Or.inr (.inr rfl)) (by decide) (by decide)) pe_int) pa_nil (by rfl)) (by rfl)) (by decide) (by rfl) (by rfl))) (@pv _ 1 _ _ (by rfl) (by first|exact Or.inl rfl|exact Or.inr (.inl rfl)|exact Or.inr (.inr rfl)) (by decide) (by decide))) (by rfl) (by first|exact .inl rfl|exact .inr rfl|assumption)) (@pss_cons _ _ _ _ _ (@ps_if _ _ _ _ _ _ _ _ (@zfe _ _ _ _ _ _ _ (@pt_cmpR _ _ _ _ _ _ _ _ (ziO hr.units0) (@pv _ 3 _ _ (by rfl) (by first|exact Or.inl rfl|exact Or.inr (.inl rfl)|exact Or.inr (.inr rfl)) (by decide) (by decide)) (@zaz _ _ _ _ pa_nil) (nomark _)) (@zdo _ _ _ _ (@pt_cmpR _ _ _ _ _ _ _ _ op_eq (@pe_call _ _ _ _ _ _ _ _ _ _ _ _ _ _ _ _ UK.ok hr1 (by rfl) UK.m UK.kp UK.b .nil pass0 (@pa_cons _ _ _ _ _ (@pv _ 0 _ _ (by rfl) (by first|exact Or.inl rfl|exact Or.inr (.inl rfl)|exact Or.inr (.inr rfl)) (by decide) (by decide)) (@pa_cons _ _ _ _ _ pe_int pa_nil (by rfl)) (by rfl)) (by decide) (by rfl) (by rfl)) pe_int (nomark _)))).pt (@pss_one _ _ _ (@ps_asg _ _ _ _ _ _ (@zjx _ _ _ _ _ _ _ (@pe_ix _ _ _ _ _ _ _ ix_list (@pv _ 3 _ _ (by rfl) (by first|exact Or.inl rfl|exact Or.inr (.inl rfl)|exact Or.inr (.inr rfl)) (by decide) (by decide)) (@zgV _ _ _ _ _ _ zdK pe_int) (fun _ _=>rfl)) (@zak _ _ _ (@pe_call _ _ _ _ _ _ _ _ _ _ _ _ _ _ _ _ UO.ok hr (by rfl) UO.m UO.kp UO.b .nil pass0 (@pa_cons _ _ _ _ _ (@pv _ 0 _ _ (by rfl) (by first|exact Or.inl rfl|exact Or.inr (.inl rfl)|exact Or.inr (.inr rfl)) (by decide) (by decide)) (@pa_cons _ _ _ _ _ (@zaz _ _ _ _ (@pa_cons _ _ _ _ _ pe_int (@pa_cons _ _ _ _ _ (@zgV _ _ _ _ _ _ zdK pe_int) pa_nil (by rfl)) (by rfl))) pa_nil (by rfl)) (by rfl)) (by decide) (by rfl) (by rfl)))) (@pg_tup _ _ _ _ _ _ rfl (@pgs_cons _ _ _ _ _ (@pg_name _ _ 5 _ scN.nd rfl (.inl rfl) (by first|exact .inl rfl|exact .inr rfl|assumption)) (@pgs_cons _ _ _ _ _ (@pg_name _ _ 6 _ scN.nd rfl (.inl rfl) (by first|exact .inl rfl|exact .inr rfl|assumption)) pgs_nil (by rfl)) (by rfl)) (by rfl) (by rfl)) (by rfl) (by rfl) (by rfl))) pss_nil) (@pss_one _ _ _ (@ps_expr _ _ _ _ (@pe_bm _ _ _ _ _ _ _ _ _ _ _ _ PySem.F.plainAttrs_list PySem.F.slot_list_append PySem.F.type_list_append mt_append (@pv _ 3 _ _ (by rfl) (by first|exact Or.inl rfl|exact Or.inr (.inl rfl)|exact Or.inr (.inr rfl)) (by decide) (by decide)) (@pa_cons _ _ _ _ _ (@pe_tup _ _ _ _ _ (@pa_cons _ _ _ _ _ (@pv _ 5 _ _ (by rfl) (by first|exact Or.inl rfl|exact Or.inr (.inl rfl)|exact Or.inr (.inr rfl)) (by decide) (by decide)) (@pa_cons _ _ _ _ _ (@pv _ 6 _ _ (by rfl) (by first|exact Or.inl rfl|exact Or.inr (.inl rfl)|exact Or.inr (.inr rfl)) (by decide) (by decide)) pa_nil (by rfl)) (by rfl))) pa_nil (by rfl)) (by rfl) (by rfl) (by rfl) (by rfl) (by rfl)) (by rfl)))))) (by intro _;rfl)) (@pss_cons _ _ _ _ _ (@ps_set _ _ 7 _ _ _ _ scN.nd rfl (.inl rfl) (@pe_lstRng _ _ _ _ _ _ _ rfl (by rfl) G.list (by rfl) G.range (@pa_cons _ _ _ _ _ (@pv _ 1 _ _ (by rfl) (by first|exact Or.inl rfl|exact Or.inr (.inl rfl)|exact Or.inr (.inr rfl)) (by decide) (by decide)) pa_nil (by rfl)) (by rfl) (by rfl)) (by rfl) (by first|exact .inl rfl|exact .inr rfl|assumption)) (@pss_cons _ _ _ _ _ (@ps_if _ _ _ _ _ _ _ _ (@pt_cmpR _ _ _ _ _ _ _ _ op_eq (@pe_call _ _ _ _ _ _ _ _ _ _ _ _ _ _ _ _ UK.ok hr1 (by rfl) UK.m UK.kp UK.b .nil pass0 (@pa_cons _ _ _ _ _ (@pv _ 0 _ _ (by rfl) (by first|exact Or.inl rfl|exact Or.inr (.inl rfl)|exact Or.inr (.inr rfl)) (by decide) (by decide)) (@pa_cons _ _ _ _ _ pe_int pa_nil (by rfl)) (by rfl)) (by decide) (by rfl) (by rfl)) pe_int (nomark _)) (@pss_one _ _ _ (@ps_set _ _ 7 _ _ _ _ scN.nd rfl (.inl rfl) (@pe_call _ _ _ _ _ _ _ _ _ _ _ _ _ _ _ _ UP.ok hr (by rfl) UP.m UP.kp UP.b .nil pass0 (@pa_cons _ _ _ _ _ (@pv _ 0 _ _ (by rfl) (by first|exact Or.inl rfl|exact Or.inr (.inl rfl)|exact Or.inr (.inr rfl)) (by decide) (by decide)) (@pa_cons _ _ _ _ _ (@pv _ 7 _ _ (by rfl) (by first|exact Or.inl rfl|exact Or.inr (.inl rfl)|exact Or.inr (.inr rfl)) (by decide) (by decide)) pa_nil (by rfl)) (by rfl)) (by decide) (by rfl) (by rfl)) (by rfl) (by first|exact .inl rfl|exact .inr rfl|assumption))) pss_nil) (@pss_one _ _ _ (@ps_ret _ _ _ _ (@pe_tup _ _ _ _ _ (@pa_cons _ _ _ _ _ (@pv _ 1 _ _ (by rfl) (by first|exact Or.inl rfl|exact Or.inr (.inl rfl)|exact Or.inr (.inr rfl)) (by decide) (by decide)) (@pa_cons _ _ _ _ _ (@pe_callTy _ _ _ _ _ _ _ _ _ call_tuple_of (by rfl) G.tuple (by rfl) (@pa_cons _ _ _ _ _ (@pv _ 3 _ _ (by rfl) (by first|exact Or.inl rfl|exact Or.inr (.inl rfl)|exact Or.inr (.inr rfl)) (by decide) (by decide)) pa_nil (by rfl)) (by decide) (by decide) (by rfl) (by rfl)) (@pa_cons _ _ _ _ _ (@pe_callTy _ _ _ _ _ _ _ _ _ call_tuple_of (by rfl) G.tuple (by rfl) (@pa_cons _ _ _ _ _ (@pv _ 7 _ _ (by rfl) (by first|exact Or.inl rfl|exact Or.inr (.inl rfl)|exact Or.inr (.inr rfl)) (by decide) (by decide)) pa_nil (by rfl)) (by decide) (by decide) (by rfl) (by rfl)) pa_nil (by rfl)) (by rfl)) (by rfl))))))))),?_⟩
 refine⟨(by show 0≤sizeLine;decide),fun lf hlf=>?_⟩
 have nlf:=S.ne hlf
 have B0:But l H (L2.upd H lf (.lst [])):=But.of (zaa hlf _)
 have flf:Frs l H lf:=fun b o e _=>zac e hlf
 refine⟨_,rfl,_,rfl,_,_,rfl,rfl,l,_,rfl,by lia,by lia,S.upd nlf,fun kv H1 hkv S1 B1=>?_⟩
 refine⟨_,rfl,_,_,rfl,rfl,.inr ⟨_,rfl,_,_,rfl,rfl,.inl ⟨by lia,by lia⟩,?_⟩⟩
 have cb:((kv:Int)*(if decide ((1:Int)<lanes)=true then 1 else 0))=((if 1<lanes then kv else 0:Nat):Int):=by
  by_cases z:1<lanes
  ·rw[if_pos (decide_eq_true (by lia)),if_pos z];lia
  ·rw[if_neg (by rw[decide_eq_false (by lia)];exact Bool.false_ne_true),if_neg z];lia
 have cl:(if 1<lanes then kv else 0)≤most:=by split<;>lia
 refine⟨_,rfl,by rw[cb];lia,by rw[cb];lia,?_⟩
 rw[cb]
 generalize hcnt:(if 1<lanes then kv else 0)=cnt at cl
 refine zaT (lo:=0) (n:=((cnt:Nat):Int).toNat) (fun i σ H2=>(∃ w4 w5 w6 w7,σ=[some (.ref l),some (.int lanes),some (.int most),some (.ref lf),w4,w5,w6,w7])∧PkAt H2 l∧But l H H2∧∃ ps fs,H2 lf=some (.lst ps)∧Prs H2 ps fs∧fs.length=i∧∀ f∈fs,f.1<lanes∧f.2<lanes∧f.1≠f.2)
  ⟨⟨_,_,_,_,rfl⟩,S1,B0.trans B1,[],[],B1 lf _ zab nlf.symm,trivial,rfl,fun f hf=>by simp at hf⟩ ?_ ?_
 ·rintro i σ H2 hi ⟨⟨w4,w5,w6,w7,rfl⟩,S2,B2,ps,fs,h2,p2,fl,fok⟩
  have l2:1<lanes:=by
   by_cases z:1<lanes
   ·exact z
   ·rw[if_neg z]at hcnt;lia
  refine⟨_,rfl,_,rfl,l,lanes,rfl,by lia,by lia,S2,fun one H3 ho S3 B3=>?_⟩
  refine⟨_,rfl,_,_,rfl,rfl,_,rfl,_,rfl,_,_,rfl,rfl,l,_,rfl,by lia,by lia,S3,fun d H4 hd S4 B4=>?_⟩
  refine⟨_,_,rfl,rfl,_,rfl,_,_,rfl,rfl,by lia,?_⟩
  have hone:one<lanes:=by lia
  obtain⟨ok1,ok2⟩:=zh3 (one:=one) (d:=d) (lanes:=lanes) hone (by lia)
  have ec:((one:Int)+1+d)%lanes=(((one+1+d)%lanes:Nat):Int):=by rw[Int.natCast_emod,Int.natCast_add,Int.natCast_add];rfl
  dsimp only
  rw[ec]
  generalize (one+1+d)%lanes=oth at ok1 ok2
  have h4:=B4 lf _ (B3 lf _ h2 nlf.symm) nlf.symm
  have p4:=p2.tups ((B3.tups S2).trans (B4.tups S3))
  have B4':But l H H4:=(B2.trans B3).trans B4
  have fin:∀ (a b:Nat) (H5:Hp),a<lanes→b<lanes→a≠b→PkAt H5 l→But l H H5→H5 lf=some (.lst ps)→Prs H5 ps fs→∀ t:Addr,H5 t=none→ps.length<sizeLine∧PkAt (upd (upd H5 t (.tup [.int a,.int b])) lf (.lst (ps++[.ref t]))) l∧But l H (upd (upd H5 t (.tup [.int a,.int b])) lf (.lst (ps++[.ref t]))) ∧
    ∃ ps' fs',upd (upd H5 t (.tup [.int a,.int b])) lf (.lst (ps++[.ref t])) lf=some (.lst ps')∧Prs (upd (upd H5 t (.tup [.int a,.int b])) lf (.lst (ps++[.ref t]))) ps' fs'∧fs'.length=i+1∧∀ f∈fs',f.1<lanes∧f.2<lanes∧f.1≠f.2:=fun a b H5 ha hb ab S5 B5 h5 p5 t ht=>by
   have st:=zaa ht (.tup [.int a,.int b])
   have h6:=st _ _ h5
   have T6:Tups (upd H5 t (.tup [.int a,.int b])) (upd (upd H5 t (.tup [.int a,.int b])) lf (.lst (ps++[.ref t]))):=Tups.lst h6
   refine⟨by rw[p5.len,fl];exact Nat.lt_of_lt_of_le (show i<1000 by lia) (by decide),(S5.keep st).upd nlf,(B5.trans (But.of st)).upd flf,_,fs++[(a,b)],zab,((p5.tups (Tups.of st)).tups T6).add (f:=(a,b)) (T6 _ _ zab),by rw[List.length_append,fl];rfl,fun f hf=>?_⟩
   rcases List.mem_append.mp hf with z|z
   ·exact fok f z
   ·rw[List.mem_singleton.mp z];exact⟨ha,hb,ab⟩
  refine⟨_,rfl,(by show 0≤sizeLine;decide),fun e he=>?_⟩
  have s5:=zaa he (.lst [])
  refine⟨lf,e,ps,rfl,rfl,SqL.of (s5 _ _ h4),SqL.of zab,_,rfl,?_⟩
  have S5:=S4.keep s5
  have B5:But l H (L2.upd H4 e (.lst [])):=B4'.trans (But.of s5)
  have h5:=s5 _ _ h4
  have p5:=p4.tups (Tups.of s5)
  generalize L2.upd H4 e (.lst [])=H5 at *
  by_cases pn:ps=[]
  ·rw[show (!ps.isEmpty)=false by rw[pn];rfl]
   refine iteF ?_
   refine⟨_,rfl,.inl ⟨rfl,_,SqL.of h5⟩,_,rfl,_,rfl,(by show 2≤sizeLine;decide),fun t ht=>?_⟩
   obtain⟨z,a1,a2,a3⟩:=fin one oth H5 hone ok1 ok2 S5 B5 h5 p5 t ht
   exact⟨lf,_,_,rfl,rfl,zaa ht _ _ _ h5,z,⟨_,_,_,_,rfl⟩,a1,a2,a3⟩
  rw[show (!ps.isEmpty)=true by cases ps with
   | nil=>exact absurd rfl pn
   | cons a b=>rfl]
  refine iteT ⟨_,rfl,l,4,rfl,by decide,by decide,S5,fun y H6 hy S6 B6=>⟨rfl,_,rfl,?_⟩⟩
  have h6:=B6 lf _ h5 nlf.symm
  have p6:=p5.tups (B6.tups S5)
  have B6':But l H H6:=B5.trans B6
  refine ite2 (fun _=>?_) (fun _=>?_)
  ·-- the last one anew
   have pp:0<ps.length:=List.length_pos_iff.mpr pn
   have lx:ps[ps.length-1]?=some ps[ps.length-1]:=List.getElem?_eq_getElem (by lia)
   obtain⟨a,g,ea,eg,ha⟩:=p6.get lx
   have okg:=fok g (List.mem_of_getElem? eg)
   rw[ea]at lx
   refine⟨_,rfl,_,rfl,lf,_,_,_,rfl,rfl,SqL.of h6,zk2 lx,?_⟩
   refine⟨_,rfl,_,rfl,(by show 2≤sizeLine;decide),fun q hq=>?_⟩
   have s7:=zaa hq (.lst [.int 1,.int (-1)])
   have nlq:=S6.ne hq
   refine⟨l,q,_,rfl,S6.keep s7,nlq.symm,zab,by show 0<2;decide,by show 2≤100000;decide,fun j x H8 hx S8 B8=>?_⟩
   have T8:Tups H6 H8:=(Tups.of s7).trans (B8.tups (S6.keep s7))
   have h8:=B8 lf _ (s7 _ _ h6) nlf.symm
   have B8':But l H H8:=(B6'.trans (But.of s7)).trans B8
   have jl:=(List.getElem?_eq_some_iff.mp hx).1
   simp only[List.length_cons,List.length_nil]at jl
   rcases j with _|_|j
   ·obtain rfl:=Option.some.inj hx
    refine⟨_,rfl,a,_,_,rfl,SqT.of (T8 _ _ ha),.inl ⟨rfl,?_⟩⟩
    refine⟨a,_,rfl,SqT.of (T8 _ _ ha),rfl,_,_,rfl,_,_,rfl,rfl,?_⟩
    refine⟨_,rfl,.inl ⟨rfl,_,SqL.of h8⟩,_,rfl,_,rfl,(by show 2≤sizeLine;decide),fun t ht=>?_⟩
    obtain⟨z,a1,a2,a3⟩:=fin g.1 g.2 H8 okg.1 okg.2.1 okg.2.2 S8 B8' h8 (p6.tups T8) t ht
    exact⟨lf,_,_,rfl,rfl,zaa ht _ _ _ h8,z,⟨_,_,_,_,rfl⟩,a1,a2,a3⟩
   ·obtain rfl:=Option.some.inj hx
    refine⟨_,rfl,a,_,_,rfl,SqT.of (T8 _ _ ha),.inr ⟨rfl,fun b hb=>?_⟩⟩
    have s9:=zaa hb (.tup [.int g.2,.int g.1])
    refine⟨b,_,rfl,SqT.of zab,rfl,_,_,rfl,_,_,rfl,rfl,?_⟩
    refine⟨_,rfl,.inl ⟨rfl,_,SqL.of (s9 _ _ h8)⟩,_,rfl,_,rfl,(by show 2≤sizeLine;decide),fun t ht=>?_⟩
    obtain⟨z,a1,a2,a3⟩:=fin g.2 g.1 _ okg.2.1 okg.1 (Ne.symm okg.2.2) (S8.keep s9) (B8'.trans (But.of s9)) (s9 _ _ h8) ((p6.tups T8).tups (Tups.of s9)) t ht
    exact⟨lf,_,_,rfl,rfl,zaa ht _ _ _ (s9 _ _ h8),z,⟨_,_,_,_,rfl⟩,a1,a2,a3⟩
   ·lia
  ·refine⟨_,rfl,.inl ⟨rfl,_,SqL.of h6⟩,_,rfl,_,rfl,(by show 2≤sizeLine;decide),fun t ht=>?_⟩
   obtain⟨z,a1,a2,a3⟩:=fin one oth H6 hone ok1 ok2 S6 B6' h6 p6 t ht
   exact⟨lf,_,_,rfl,rfl,zaa ht _ _ _ h6,z,⟨_,_,_,_,rfl⟩,a1,a2,a3⟩
 ·rintro σ H2 ⟨⟨w4,w5,w6,w7,rfl⟩,S2,B2,ps,fs,h2,p2,fl,fok⟩
  refine⟨_,rfl,lanes,rfl,by lia,fun le hle=>?_⟩
  have s3:=zaa hle (if true=true then HO.lst (upTo lanes) else .tup (upTo lanes))
  have e3:upd H2 le (if true=true then HO.lst (upTo lanes) else .tup (upTo lanes)) le=some (.lst (nums (List.range lanes))):=zab
  have nle:=S2.ne hle
  have S3:=S2.keep s3
  have B3:But l H (upd H2 le (if true=true then HO.lst (upTo lanes) else .tup (upTo lanes))):=B2.trans (But.of s3)
  have h3:=s3 _ _ h2
  have p3:=p2.tups (Tups.of s3)
  generalize upd H2 le (if true=true then HO.lst (upTo lanes) else .tup (upTo lanes))=H3 at *
  have fin:∀ (el:Addr) (es:List Nat) (w4 w5 w6:Option V) (H4:Hp),es.Perm (List.range lanes)→H4 el=some (.lst (nums es))→PkAt H4 l→But l H H4→H4 lf=some (.lst ps)→Prs H4 ps fs→∀ fr,H4 fr=none→∀ er,upd H4 fr (.tup ps) er=none→∀ r,upd (upd H4 fr (.tup ps)) er (.tup (nums es)) r=none→Q (.ref r) (upd (upd (upd H4 fr (.tup ps)) er (.tup (nums es))) r (.tup [.int lanes,.ref fr,.ref er])):=fun el es w4 w5 w6 H4 pe he S4 B4 h4 p4 fr hfr er her r hr'=>by
   have t1:=zaa hfr (.tup ps)
   have t2:=zaa her (.tup (nums es))
   have t3:=zaa hr' (.tup [.int lanes,.ref fr,.ref er])
   have t:=(t1.trans t2).trans t3
   exact k r fr er ps ⟨lanes,fs,es⟩ _ ⟨l1,l16,by show fs.length≤128;lia,fok,pe⟩ rfl (by show fs.length≤most;lia) ⟨zab,(t2.trans t3) _ _ zab,p4.tups (Tups.of t),t3 _ _ zab⟩ (S4.keep t) (B4.trans (But.of t))
  refine⟨_,rfl,l,2,rfl,by decide,by decide,S3,fun y H4 hy S4 B4=>⟨rfl,_,rfl,?_⟩⟩
  have e4:=B4 le _ e3 nle.symm
  have h4:=B4 lf _ h3 nlf.symm
  have p4:=p3.tups (B4.tups S3)
  refine ite2 (fun _=>?_) (fun _=>?_)
  ·refine⟨_,rfl,_,rfl,l,le,_,rfl,S4,nle.symm,e4,by rw[zag,List.length_range];lia,fun el ys H5 pm hel e5 S5 B5=>?_⟩
   obtain⟨es,rfl,pe⟩:∃ es:List Nat,ys=nums es∧es.Perm (List.range lanes):=zhb pm
   have h5:=B5 lf _ h4 nlf.symm
   refine⟨_,rfl,_,rfl,lf,_,rfl,.inl ⟨SqL.of h5,fun fr hfr=>⟨_,rfl,el,_,rfl,.inl ⟨SqL.of (zaa hfr _ _ _ e5),fun er her=>⟨(by show 3≤sizeLine;decide),fun r hr'=>?_⟩⟩⟩⟩⟩
   exact fin el es none none none H5 pe e5 S5 ((B3.trans B4).trans B5) h5 (p4.tups (B5.tups S4)) fr hfr er her r hr'
  ·refine⟨_,rfl,_,rfl,lf,_,rfl,.inl ⟨SqL.of h4,fun fr hfr=>⟨_,rfl,le,_,rfl,.inl ⟨SqL.of (zaa hfr _ _ _ e4),fun er her=>⟨(by show 3≤sizeLine;decide),fun r hr'=>?_⟩⟩⟩⟩⟩
   exact fin le _ none none none H4 (.refl _) e4 S4 (B3.trans B4) h4 p4 fr hfr er her r hr'
end
end K83
namespace L2
open PySem PySem.Spec PyProof.Rows Own
def zlk (K:PySem.W.Frag):V→V→Hp→VK→Prop:=fun o i H Q=>∃ (p:Addr) (xs:List V) (j:Nat) (v:V),o=.ref p∧i=.int j∧SqL K H p xs∧xs[j]?=some v∧Q v H
theorem get_list {X:Cx}:PGet X (zlk X.K):=by
 intro pins s σ H o i ov iv Q I ro ri h
 obtain⟨p,xs,j,v,rfl,rfl,hq,hx,q⟩:=h
 cases ro
 obtain⟨t,rfl⟩:=ri
 obtain⟨its,r,pl,hz⟩:=I.list hq
 obtain⟨u,eu,ru⟩:=r.get hx
 have jl:=(List.getElem?_eq_some_iff.mp hx).1
 have z63:sizeLine<2 ^ 63:=by rw[sizeLine_eq];decide
 exact wpAny_getItem_list pl.isList (Int.natCast_nonneg _) (by lia) (by simpa using eu) ⟨v,H,I,ru,q⟩
end L2
namespace Bn
open PySem L2 Own
section
variable {n s p c u:Addr}
end
def endN (N:Nt) (lane:Nat):Nat:=N.ends.idxOf lane
theorem zkV {N:Nt}(ok:N.Ok) {lane:Nat}(h:lane<N.lanes):endN N lane<N.lanes:=by
 have el:N.ends.length=N.lanes:=by rw[ok.en.length_eq,List.length_range]
 rw[← el]
 exact List.idxOf_lt_length_of_mem (ok.en.mem_iff.mpr (List.mem_range.mpr h))
end Bn
namespace L2
open PySem
end L2
namespace Bn
open PySem L2 Own
def dl (lane l:Nat):Int:=if l=lane then 1 else 0
def zaI (f:Fk) (t:Int) (g:Nat→Int):Nat→Int:=fun l=>if l=f.1 then (t+1) / 2 else if l=f.2 then t / 2 else g l
def fkAt (N:Nt) (k:Nat):Fk:=N.forks.getD k (0,0)
def levF (N:Nt) (c T:Nat→Int):Nat→Nat→Int
 | 0=>c
 | k+1=>zaI (fkAt N k) (T k) (levF N c T k)
def isAt (p:Nat × Nat→Bool):Option (Nat × Nat)→Bool
 | some o=>p o
 | none=>false
def cnt (os:List (Option (Nat × Nat))) (p:Nat × Nat→Bool):Int:=(os.countP (isAt p):Nat)
def atK (k:Nat):Nat × Nat→Bool:=fun o=>decide (o.2=k)
def atL (lane k:Nat):Nat × Nat→Bool:=fun o=>decide (o=(lane,k))
theorem zkT {N:Nt}(ok:N.Ok) {k:Nat}(h:k<N.forks.length):(fkAt N k).1≠(fkAt N k).2:=by
 have e:fkAt N k=N.forks[k]:=by unfold fkAt;rw[List.getD_eq_getElem?_getD,List.getElem?_eq_getElem h];rfl
 rw[e];exact(ok.fk _ (List.getElem_mem h)).2.2
theorem zj6 {N:Nt}(ok:N.Ok) {a b:Nat}(ha:a<N.lanes) (hb:b<N.lanes) (h:endN N a=endN N b):a=b:=by
 have ma:a∈N.ends:=ok.en.mem_iff.mpr (List.mem_range.mpr ha)
 have mb:b∈N.ends:=ok.en.mem_iff.mpr (List.mem_range.mpr hb)
 have ea:=List.getElem_idxOf (List.idxOf_lt_length_of_mem ma)
 have eb:=List.getElem_idxOf (List.idxOf_lt_length_of_mem mb)
 unfold endN at h
 rw[← ea,← eb]
 congr 1
def dw (m:Int) (lane l:Nat):Int:=if l=lane then m else 0
theorem zfX {m:Int}{lane l:Nat}(h:l=lane):dw m lane l=m:=if_pos h
theorem za5 {m:Int}{lane l:Nat}(h:¬ l=lane):dw m lane l=0:=if_neg h
theorem zhQ (f:Fk) (t m:Int) {g h:Nat→Int}{lane:Nat}(e:∀ l,h l=g l+dw m lane l) (on:lane=f.1∨lane=f.2):zaI f t h=zaI f t g:=by
 funext l
 unfold zaI
 by_cases a:l=f.1
 ·rw[if_pos a,if_pos a]
 by_cases b:l=f.2
 ·rw[if_neg a,if_neg a,if_pos b,if_pos b]
 rw[if_neg a,if_neg a,if_neg b,if_neg b,e l,za5 (fun z=>on.elim (fun o=>a (z.trans o)) (fun o=>b (z.trans o))),Int.add_zero]
theorem zgj (f:Fk) (t m:Int) {g h:Nat→Int}{lane:Nat}(e:∀ l,h l=g l+dw m lane l) (off:¬(lane=f.1∨lane=f.2)) (l:Nat):zaI f t h l=zaI f t g l+dw m lane l:=by
 unfold zaI
 by_cases a:l=f.1
 ·rw[if_pos a,if_pos a,za5 (fun z=>off (.inl (z.symm.trans a))),Int.add_zero]
 by_cases b:l=f.2
 ·rw[if_neg a,if_neg a,if_pos b,if_pos b,za5 (fun z=>off (.inr (z.symm.trans b))),Int.add_zero]
 rw[if_neg a,if_neg a,if_neg b,if_neg b,e l]
theorem zbT {N:Nt}{j:Nat}(h:j<N.forks.length):N.forks[j]?=some (fkAt N j):=by unfold fkAt;rw[List.getD_eq_getElem?_getD,List.getElem?_eq_getElem h];rfl
theorem zlC {N:Nt}{X Y:Nat→Nat→Int}{T:Nat→Int}{m:Int}{i0 lane k:Nat}(hx:∀ j,i0≤j→X (j+1)=zaI (fkAt N j) (T j) (X j)) (hy:∀ j,i0≤j→Y (j+1)=zaI (fkAt N j) (T j) (Y j))
  (h0:∀ l,Y i0 l=X i0 l+dw m lane l) (nx:IsNext N.forks lane i0 k) :
  (∀ d,i0+d≤k→∀ l,Y (i0+d) l=X (i0+d) l+dw m lane l)∧(k<N.forks.length→∀ d,Y (k+1+d)=X (k+1+d)):=by
 have first:∀ d,i0+d≤k→∀ l,Y (i0+d) l=X (i0+d) l+dw m lane l:=fun d=>by
  induction d with
  | zero=>exact fun _=>h0
  | succ d ih =>
   intro hd l
   have jl:i0+d<N.forks.length:=by have:=nx.upto;lia
   show Y (i0+d+1) l=X (i0+d+1) l+_
   rw[hx _ (Nat.le_add_right _ _),hy _ (Nat.le_add_right _ _)]
   exact zgj _ _ _ (ih (by lia)) (nx.none _ _ (Nat.le_add_right _ _) (by lia) (zbT jl)) l
 refine⟨first,fun hk d=>?_⟩
 have fr:=nx.from_
 induction d with
 | zero =>
  show Y (k+1)=X (k+1)
  have e:=first (k-i0) (by lia)
  rw[show i0+(k-i0)=k by lia]at e
  rw[hx _ fr,hy _ fr]
  exact zhQ _ _ _ e (nx.here _ (zbT hk))
 | succ d ih =>
  show Y (k+1+d+1)=X (k+1+d+1)
  rw[hx _ (by lia),hy _ (by lia),ih]
def iw (b:Bool) (m:Int):Int:=if b=true then m else 0
theorem zb1 {N:Nt}(ok:N.Ok) {X Y:Nat→Nat→Int}{T:Nat→Int}{m:Int}{i0 lane k:Nat}(hx:∀ j,i0≤j→X (j+1)=zaI (fkAt N j) (T j) (X j)) (hy:∀ j,i0≤j→Y (j+1)=zaI (fkAt N j) (T j) (Y j))
  (h0:∀ l,Y i0 l=X i0 l+dw m lane l) (nx:IsNext N.forks lane i0 k) :
  (∀ j,i0≤j→j<N.forks.length→Y j (fkAt N j).1+Y j (fkAt N j).2=X j (fkAt N j).1+X j (fkAt N j).2+iw (atK j (lane,k)) m)∧(∀ l,i0≤N.forks.length→Y N.forks.length l=X N.forks.length l+iw (atL l N.forks.length (lane,k)) m):=by
 obtain⟨b1,b2⟩:=zlC hx hy h0 nx
 have fr:=nx.from_
 constructor
 ·intro j h1 h2
  have ne:=zkT ok h2
  unfold atK iw
  by_cases a:k=j
  ·subst a
   have e:=b1 (k-i0) (by lia)
   rw[show i0+(k-i0)=k by lia]at e
   rw[if_pos (decide_eq_true rfl),e,e]
   rcases nx.here _ (zbT h2) with o|o
   ·rw[zfX o.symm,za5 (fun z=>ne (o.symm.trans z.symm))];lia
   ·rw[zfX o.symm,za5 (fun z=>ne (z.trans o))];lia
  ·rw[if_neg (by simpa using a)]
   by_cases b:j<k
   ·have e:=b1 (j-i0) (by lia)
    rw[show i0+(j-i0)=j by lia]at e
    have off:=nx.none j _ h1 b (zbT h2)
    rw[e,e,za5 (fun z=>off (.inl z.symm)),za5 (fun z=>off (.inr z.symm))];lia
   ·have e:=b2 (by lia) (j-(k+1))
    rw[show k+1+(j-(k+1))=j by lia]at e
    rw[e,Int.add_zero]
 ·intro l h1
  have up:=nx.upto
  unfold atL iw
  by_cases a:k=N.forks.length
  ·have e:=b1 (N.forks.length-i0) (by lia) l
   rw[show i0+(N.forks.length-i0)=N.forks.length by lia]at e
   rw[e]
   by_cases c:l=lane
   ·rw[zfX c,if_pos (decide_eq_true (by rw[c,a]))]
   ·rw[za5 c,if_neg (by simpa using fun z=>absurd z.symm c)]
  ·have e:=b2 (by lia) (N.forks.length-(k+1))
   rw[show k+1+(N.forks.length-(k+1))=N.forks.length by lia]at e
   rw[e,if_neg (by simpa using fun _=>a),Int.add_zero]
theorem zj4 (f:Fk) (hf:f.1≠f.2) (t m:Int) (g:Nat→Int) (l:Nat):zaI f (t+m) g l=zaI f t g l+dw ((t%2+m+1) / 2-t%2) f.1 l+dw (m-((t%2+m+1) / 2-t%2)) f.2 l:=by
 unfold zaI
 by_cases a:l=f.1
 ·rw[if_pos a,if_pos a,zfX a,za5 (fun z=>hf (a.symm.trans z))];lia
 by_cases b:l=f.2
 ·rw[if_neg a,if_neg a,if_pos b,if_pos b,za5 a,zfX b];lia
 rw[if_neg a,if_neg a,if_neg b,if_neg b,za5 a,za5 b];lia
def wt (p:Nat × Nat→Bool):List Grp→Int
 | []=>0
 | g::gs=>iw (p (g.lane,g.fork)) g.many+wt p gs
theorem zbe (p:Nat × Nat→Bool):∀ a b:List Grp,wt p (a++b)=wt p a+wt p b
 | [],b=>(Int.zero_add _).symm
 | g::a,b=>by show _+wt p (a++b)=_+wt p a+wt p b;rw[zbe p a b,Int.add_assoc]
theorem iw0 (b:Bool):iw b 0=0:=by unfold iw;split<;>rfl
theorem zed (p:Nat × Nat→Bool) (m:Int) (lane k:Nat):wt p (part m lane k)=iw (p (lane,k)) m:=by
 unfold part
 by_cases h:m=0
 ·rw[if_pos h,h,iw0];rfl
 ·rw[if_neg h];exact Int.add_zero _
theorem cut1 {gs:List Grp}{i:Nat}{g:Grp}(h:gs[i]?=some g):gs=gs.take i++g::gs.drop (i+1):=by
 have z:=List.getElem?_eq_some_iff.mp h
 rw[← z.2,List.getElem_cons_drop,List.take_append_drop]
theorem ze4 (p:Nat × Nat→Bool) {gs:List Grp}{i:Nat}{g:Grp}(h:gs[i]?=some g):wt p gs=wt p (gs.take i)+iw (p (g.lane,g.fork)) g.many+wt p (gs.drop (i+1)):=by
 have e:=congrArg (wt p) (cut1 h)
 rw[zbe]at e
 rw[e,Int.add_assoc];rfl
structure RanW (N:Nt) (c T:Nat→Int) (ts:List Int) (gs:List Grp) (os:List Int):Prop where
 st:∀ k,k<N.forks.length→ts.getD k 0=T k%2
 on:∀ g∈gs,g.fork<N.forks.length→g.lane=(fkAt N g.fork).1∨g.lane=(fkAt N g.fork).2
 fk:∀ k,k<N.forks.length→levF N c T k (fkAt N k).1+levF N c T k (fkAt N k).2=T k+wt (atK k) gs
 en:∀ l,l<N.lanes→levF N c T N.forks.length l=os.getD (endN N l) 0+wt (atL l N.forks.length) gs
theorem RanW.put {N:Nt}(ok:N.Ok) {c T:Nat→Int}{ts os:List Int}{gs:List Grp}(R:RanW N c T ts gs os) {lane k:Nat}{m:Int}(nx:IsNext N.forks lane 0 k):RanW N (fun l=>c l+dw m lane l) T ts (gs++[⟨m,lane,k⟩]) os:=by
 obtain⟨m1,m2⟩:=zb1 ok (X:=levF N c T) (Y:=levF N (fun l=>c l+dw m lane l) T) (T:=T) (m:=m) (i0:=0) (fun _ _=>rfl) (fun _ _=>rfl) (fun _=>rfl) nx
 refine⟨R.st,fun g hg hk=>?_,fun j hj=>?_,fun l hl=>?_⟩
 ·rcases List.mem_append.mp hg with z|z
  ·exact R.on g z hk
  ·obtain rfl:=List.mem_singleton.mp z
   exact nx.here _ (zbT hk)
 ·rw[m1 j (Nat.zero_le _) hj,R.fk j hj,zbe]
  show _=T j+(_+(iw (atK j (lane,k)) m+0))
  lia
 ·rw[m2 l (Nat.zero_le _),R.en l hl,zbe]
  show _=os.getD (endN N l) 0+(_+(iw (atL l N.forks.length (lane,k)) m+0))
  lia
theorem RanW.go {N:Nt}(ok:N.Ok) {c T:Nat→Int}{ts os:List Int}{gs ms:List Grp}(R:RanW N c T ts gs os) (tl:ts.length=N.forks.length) {i:Nat}{g:Grp}(hg:gs[i]?=some g) (hk:g.fork<N.forks.length) (hp:Parts N.forks (ts.getD g.fork 0) g.many g.fork ms) :
  RanW N c (fun j=>if j=g.fork then T g.fork+g.many else T j) (ts.set g.fork ((ts.getD g.fork 0+g.many)%2)) (gs.take i++ms++gs.drop (i+1)) os:=by
 obtain⟨f,k1,k2,ef,n1,n2,rfl⟩:=hp
 have sk:=R.st _ hk
 rw[sk]
 have e1:f=fkAt N g.fork:=Option.some.inj (ef.symm.trans (zbT hk))
 subst e1
 generalize hk':g.fork=k at *
 generalize hp1:(T k%2+g.many+1) / 2-T k%2=p1 at *
 have low:∀ j,j≤k→levF N c (fun j=>if j=k then T k+g.many else T j) j=levF N c T j:=fun j=>by
  induction j with
  | zero=>exact fun _=>rfl
  | succ j ih =>
   intro hj
   show zaI _ (if j=k then T k+g.many else T j) _=zaI _ (T j) _
   rw[if_neg (by lia),ih (by lia)]
 let Z:Nat→Nat→Int:=fun j=>Nat.rec (fun _=>0) (fun j z=>if j=k then (fun l=>levF N c T (k+1) l+dw p1 (fkAt N k).1 l) else zaI (fkAt N j) (T j) z) j
 have z0:Z (k+1)=fun l=>levF N c T (k+1) l+dw p1 (fkAt N k).1 l:=if_pos rfl
 have zs:∀ j,k+1≤j→Z (j+1)=zaI (fkAt N j) (T j) (Z j):=fun j hj=>if_neg (by lia)
 obtain⟨m1,m2⟩:=zb1 ok (X:=levF N c T) (Y:=Z) (T:=T) (m:=p1) (i0:=k+1) (fun _ _=>rfl) zs (fun l=>congrFun z0 l) n1
 have y0:∀ l,levF N c (fun j=>if j=k then T k+g.many else T j) (k+1) l=Z (k+1) l+dw (g.many-p1) (fkAt N k).2 l:=fun l=>by
  rw[z0]
  show zaI _ (if k=k then T k+g.many else T k) _ l=zaI _ (T k) _ l+_+_
  rw[if_pos rfl,low k (Nat.le_refl _),← hp1]
  exact zj4 _ (zkT ok hk) _ _ _ l
 obtain⟨m3,m4⟩:=zb1 ok (X:=Z) (Y:=levF N c (fun j=>if j=k then T k+g.many else T j)) (T:=T) (m:=g.many-p1) (i0:=k+1) zs (fun j hj=>by
  show zaI _ (if j=k then T k+g.many else T j) _=_
  rw[if_neg (by lia)]) y0 n2
 have cs:∀ p:Nat × Nat→Bool,wt p (gs.take i++(part p1 (fkAt N k).1 k1++part (g.many-p1) (fkAt N k).2 k2)++gs.drop (i+1))+iw (p (g.lane,k)) g.many=wt p gs+(iw (p ((fkAt N k).1,k1)) p1+iw (p ((fkAt N k).2,k2)) (g.many-p1)):=fun p=>by
  rw[ze4 p hg,zbe,zbe,zbe,zed,zed,hk'];lia
 have f1:=n1.from_
 have f2:=n2.from_
 refine⟨fun j hj=>?_,fun x hx hq=>?_,fun j hj=>?_,fun l hl=>?_⟩
 ·rw[List.getD_eq_getElem?_getD,List.getElem?_set]
  by_cases e:k=j
  ·subst e
   rw[if_pos rfl,if_pos (by lia)]
   show (T k%2+g.many)%2=(if k=k then T k+g.many else T k)%2
   rw[if_pos rfl];lia
  ·rw[if_neg e,← List.getD_eq_getElem?_getD]
   show _=(if j=k then T k+g.many else T j)%2
   rw[if_neg (fun z=>e z.symm)];exact R.st j hj
 ·rcases List.mem_append.mp hx with z|z
  ·rcases List.mem_append.mp z with z|z
   ·exact R.on x (List.mem_of_mem_take z) hq
   ·rcases List.mem_append.mp z with z|z
    ·obtain rfl:=zaN z
     exact n1.here _ (zbT hq)
    ·obtain rfl:=zaN z
     exact n2.here _ (zbT hq)
  ·exact R.on x (List.mem_of_mem_drop z) hq
 ·have c1:=cs (atK j)
  have w:=R.fk j hj
  show _=(if j=k then T k+g.many else T j)+_
  have o1:iw (atK j (g.lane,k)) g.many=if j=k then g.many else 0:=by
   unfold atK iw
   by_cases z:k=j
   ·rw[if_pos (decide_eq_true z),if_pos z.symm]
   ·rw[if_neg (by simpa using z),if_neg (fun y=>z y.symm)]
  rw[o1]at c1
  by_cases a:j≤k
  ·rw[low j a]
   have o2:iw (atK j ((fkAt N k).1,k1)) p1=0:=by unfold atK iw;rw[if_neg (by simp;lia)]
   have o3:iw (atK j ((fkAt N k).2,k2)) (g.many-p1)=0:=by unfold atK iw;rw[if_neg (by simp;lia)]
   rw[o2,o3]at c1
   by_cases z:j=k
   ·subst z
    rw[if_pos rfl]at c1 ⊢
    lia
   ·rw[if_neg z]at c1 ⊢
    lia
  ·rw[m3 j (by lia) hj,m1 j (by lia) hj]
   rw[if_neg (by lia)]at c1 ⊢
   lia
 ·have c1:=cs (atL l N.forks.length)
  have o1:iw (atL l N.forks.length (g.lane,k)) g.many=0:=by unfold atL iw;rw[if_neg (by simp;lia)]
  rw[o1]at c1
  rw[m4 l (by lia),m2 l (by lia),R.en l hl]
  lia
theorem RanW.out {N:Nt}(ok:N.Ok) {c T:Nat→Int}{ts os:List Int}{gs:List Grp}(R:RanW N c T ts gs os) (ol:os.length=N.lanes) {i:Nat}{g:Grp}(hg:gs[i]?=some g) (hk:g.fork=N.forks.length) (hl:g.lane<N.lanes) :
  RanW N c T ts (gs.take i++gs.drop (i+1)) (os.set (endN N g.lane) (os.getD (endN N g.lane) 0+g.many)):=by
 have cs:∀ p:Nat × Nat→Bool,wt p (gs.take i++gs.drop (i+1))+iw (p (g.lane,N.forks.length)) g.many=wt p gs:=fun p=>by
  rw[ze4 p hg,zbe,hk];lia
 refine⟨R.st,fun x hx hq=>?_,fun j hj=>?_,fun l hl'=>?_⟩
 ·rcases List.mem_append.mp hx with z|z
  ·exact R.on x (List.mem_of_mem_take z) hq
  ·exact R.on x (List.mem_of_mem_drop z) hq
 ·have c1:=cs (atK j)
  have o1:iw (atK j (g.lane,N.forks.length)) g.many=0:=by unfold atK iw;rw[if_neg (by simp;lia)]
  rw[o1]at c1
  rw[R.fk j hj];lia
 ·have c1:=cs (atL l N.forks.length)
  rw[R.en l hl',List.getD_eq_getElem?_getD (l:=os.set _ _),List.getElem?_set]
  by_cases e:l=g.lane
  ·subst e
   have o1:iw (atL g.lane N.forks.length (g.lane,N.forks.length)) g.many=g.many:=by unfold atL iw;rw[if_pos (decide_eq_true rfl)]
   rw[o1]at c1
   rw[if_pos rfl,if_pos (by rw[ol];exact zkV ok hl)]
   show _=os.getD (endN N g.lane) 0+g.many+_
   lia
  ·have o1:iw (atL l N.forks.length (g.lane,N.forks.length)) g.many=0:=by unfold atL iw;rw[if_neg (by simp;exact fun z=>e z.symm)]
   rw[o1]at c1
   rw[if_neg (fun z=>e (zj6 ok hl hl' z).symm),← List.getD_eq_getElem?_getD]
   lia
theorem RanW.join {N:Nt}{c T:Nat→Int}{ts os:List Int}{gs gs':List Grp}(R:RanW N c T ts gs os) {i j:Nat}{g h:Grp}(ij:i<j) (hg:gs[i]?=some g) (hh:gs[j]?=some h) (el:h.lane=g.lane) (ef:h.fork=g.fork) (e:gs'=gs.take i++part (g.many+h.many) g.lane g.fork++(gs.drop (i+1)).take (j-(i+1))++gs.drop (j+1)):RanW N c T ts gs' os:=by
 have cs:∀ p:Nat × Nat→Bool,wt p gs'=wt p gs:=fun p=>by
  have d1:(gs.drop (i+1))[j-(i+1)]?=some h:=by rw[List.getElem?_drop,show i+1+(j-(i+1))=j by lia];exact hh
  have d2:=ze4 p d1
  rw[List.drop_drop,show i+1+(j-(i+1)+1)=j+1 by lia,el,ef]at d2
  rw[ze4 p hg,d2,e,zbe,zbe,zbe,zed]
  unfold iw
  split<;>lia
 refine⟨R.st,fun x hx hq=>?_,fun k hk=>by rw[cs];exact R.fk k hk,fun l hl=>by rw[cs];exact R.en l hl⟩
 rw[e]at hx
 rcases List.mem_append.mp hx with z|z
 ·rcases List.mem_append.mp z with z|z
  ·rcases List.mem_append.mp z with z|z
   ·exact R.on x (List.mem_of_mem_take z) hq
   ·obtain rfl:=zaN z
    exact R.on g (List.mem_of_getElem? hg) hq
  ·exact R.on x (List.mem_of_mem_drop (List.mem_of_mem_take z)) hq
 ·exact R.on x (List.mem_of_mem_drop z) hq
theorem RanW.zero {N:Nt}:RanW N (fun _=>0) (fun _=>0) (List.replicate N.forks.length 0) [] (List.replicate N.lanes 0):=by
 have z:∀ k l,levF N (fun _=>0) (fun _=>0) k l=0:=fun k=>by
  induction k with
  | zero=>exact fun _=>rfl
  | succ k ih =>
   intro l
   show zaI _ 0 _ l=0
   unfold zaI
   split
   ·rfl
   ·split
    ·rfl
    ·exact ih l
 refine⟨fun k hk=>?_,fun g hg=>absurd hg (by simp),fun k hk=>by rw[z,z];rfl,fun l hl=>?_⟩
 ·rw[List.getD_eq_getElem?_getD,List.getElem?_replicate,if_pos hk];rfl
 ·rw[z,List.getD_eq_getElem?_getD,List.getElem?_replicate]
  split<;>rfl
theorem RanW.done {N:Nt}(ok:N.Ok) {c T:Nat→Int}{ts os:List Int}(tl:ts.length=N.forks.length) (ol:os.length=N.lanes) (R:RanW N c T ts [] os) {cs:List Int}(cl:cs.length=N.lanes) (hc:∀ l,l<N.lanes→cs.getD l 0=c l) :
  ts=zai N cs∧os=zau N cs:=by
 have key:∀ j,j≤N.forks.length→(∀ l,l<N.lanes→(flow (N.forks.take j) cs).1.getD l 0=levF N c T j l)∧(flow (N.forks.take j) cs).2=(List.range j).map fun q=>T q%2:=fun j=>by
  induction j with
  | zero=>exact fun _=>⟨hc,rfl⟩
  | succ j ih =>
   intro hj
   obtain⟨i1,i2⟩:=ih (by lia)
   have eg:=zbT (N:=N) (j:=j) (by lia)
   have okf:=ok.fk _ (List.mem_of_getElem? eg)
   have fl:(flow (N.forks.take j) cs).1.length=N.lanes:=by rw[zbO,cl]
   have tj:(flow (N.forks.take j) cs).1.getD (fkAt N j).1 0+(flow (N.forks.take j) cs).1.getD (fkAt N j).2 0=T j:=by
    rw[i1 _ okf.1,i1 _ okf.2.1,R.fk j (by lia)];exact Int.add_zero _
   rw[zbi eg cs]
   generalize flow (N.forks.take j) cs=st at *
   unfold zaA
   refine⟨fun l hl=>?_,?_⟩
   ·show ((st.1.set (fkAt N j).1 ((st.1.getD (fkAt N j).1 0+st.1.getD (fkAt N j).2 0+1) / 2)).set (fkAt N j).2 ((st.1.getD (fkAt N j).1 0+st.1.getD (fkAt N j).2 0) / 2)).getD l 0=zaI (fkAt N j) (T j) _ l
    rw[tj,List.getD_eq_getElem?_getD,List.getElem?_set,List.getElem?_set,List.length_set]
    unfold zaI
    by_cases a:l=(fkAt N j).1
    ·rw[if_pos a,if_neg (fun z=>okf.2.2 (a.symm.trans z.symm)),if_pos a.symm,if_pos (by lia)];rfl
    ·rw[if_neg a]
     by_cases b:l=(fkAt N j).2
     ·rw[if_pos b,if_pos b.symm,if_pos (by lia)];rfl
     ·rw[if_neg b,if_neg (fun z=>b z.symm),if_neg (fun z=>a z.symm),← List.getD_eq_getElem?_getD];exact i1 l hl
   ·show st.2++[(st.1.getD (fkAt N j).1 0+st.1.getD (fkAt N j).2 0)%2]=_
    rw[tj,i2,List.range_succ,List.map_append];rfl
 obtain⟨k1,k2⟩:=key N.forks.length (Nat.le_refl _)
 rw[List.take_length]at k1 k2
 constructor
 ·unfold zai
  rw[k2]
  refine List.ext_getElem (by rw[List.length_map,List.length_range,tl]) fun i h1 h2=>?_
  have hi:i<N.forks.length:=by lia
  rw[List.getElem_map,List.getElem_range,← R.st i hi,List.getD_eq_getElem?_getD,List.getElem?_eq_getElem h1];rfl
 ·unfold zau
  have el:N.ends.length=N.lanes:=by rw[ok.en.length_eq,List.length_range]
  refine List.ext_getElem (by rw[List.length_map,ol,el]) fun i h1 h2=>?_
  rw[List.length_map]at h2
  have lane:N.ends[i]<N.lanes:=List.mem_range.mp (ok.en.mem_iff.mp (List.getElem_mem h2))
  have ei:endN N N.ends[i]=i:=by
   unfold endN
   exact ok.en.nodup_iff.mpr List.nodup_range |>.idxOf_getElem i h2
  rw[List.getElem_map,k1 _ lane,R.en _ lane,ei,List.getD_eq_getElem?_getD,List.getElem?_eq_getElem h1]
  exact(Int.add_zero _).symm
def dN (q:Nat→Bool):Nat→Nat
 | 0=>0
 | n+1=>dN q n+(if q n=true then 1 else 0)
theorem zkZ (q:Nat→Bool):∀ n,dN q n≤n
 | 0=>Nat.le_refl _
 | n+1=>by have:=zkZ q n;show dN q n+_≤_;split<;>lia
theorem zeV {q r:Nat→Bool}(h:∀ l,q l=true→r l=true):∀ n,dN q n≤dN r n
 | 0=>Nat.le_refl _
 | n+1=>by
  have:=zeV h n
  show dN q n+_≤dN r n+_
  by_cases z:q n=true
  ·rw[if_pos z,if_pos (h n z)];lia
  ·rw[if_neg z];lia
theorem zkY {q r:Nat→Bool}{l:Nat}(h:∀ l,q l=true→r l=true) (hr:r l=true) (hq:¬ q l=true):∀ n,l<n→dN q n<dN r n
 | 0,hl=>absurd hl (by lia)
 | n+1,hl=>by
  show dN q n+_<dN r n+_
  by_cases z:l=n
  ·subst z
   have:=zeV h l
   rw[if_neg hq,if_pos hr];lia
  ·have:=zkY h hr hq n (by lia)
   by_cases y:q n=true
   ·rw[if_pos y,if_pos (h n y)];lia
   ·rw[if_neg y];lia
theorem ziX {q:Nat→Bool}{a b:Nat}(h:∀ l,q l=true→l=a∨l=b):∀ n,dN q n≤(if a<n then 1 else 0)+(if b<n then 1 else 0)
 | 0=>Nat.zero_le _
 | n+1=>by
  have ih:=ziX h n
  show dN q n+_≤_
  by_cases z:q n=true
  ·rw[if_pos z]
   rcases h n z with rfl|rfl
   ·rw[if_pos (Nat.lt_succ_self _)]
    rw[if_neg (Nat.lt_irrefl _)]at ih
    have:(if b<n then 1 else 0:Nat)≤(if b<n+1 then 1 else 0):=by split<;>split<;>lia
    lia
   ·rw[if_pos (Nat.lt_succ_self n)]
    rw[if_neg (Nat.lt_irrefl n)]at ih
    have:(if a<n then 1 else 0:Nat)≤(if a<n+1 then 1 else 0):=by split<;>split<;>lia
    lia
  ·rw[if_neg z]
   have:(if a<n then 1 else 0:Nat)≤(if a<n+1 then 1 else 0):=by split<;>split<;>lia
   have:(if b<n then 1 else 0:Nat)≤(if b<n+1 then 1 else 0):=by split<;>split<;>lia
   lia
def hasG (gs:List Grp) (j l:Nat):Bool:=gs.any fun g=>decide (g.fork=j∧g.lane=l)
theorem za8 {gs:List Grp}{j l:Nat}:hasG gs j l=true↔∃ g∈gs,g.fork=j∧g.lane=l:=by
 unfold hasG
 rw[List.any_eq_true]
 exact⟨fun ⟨g,h,e⟩=>⟨g,h,of_decide_eq_true e⟩,fun ⟨g,h,e⟩=>⟨g,h,decide_eq_true e⟩⟩
def ziy (N:Nt) (j:Nat):Nat:=if j<N.forks.length then 2*(N.forks.length-1-j)+N.lanes else 0
def far (N:Nt) (gs:List Grp) (j:Nat):Nat:=ziy N j+dN (hasG gs j) N.lanes
structure GrOk (N:Nt) (gs:List Grp):Prop where
 gk:∀ g∈gs,g.lane<N.lanes∧g.fork≤N.forks.length
 on:∀ g∈gs,g.fork<N.forks.length→g.lane=(fkAt N g.fork).1∨g.lane=(fkAt N g.fork).2
theorem zhu {N:Nt}{gs:List Grp}(ok:GrOk N gs) (j:Nat):far N gs j≤(if j<N.forks.length then 2*(N.forks.length-j) else 0)+N.lanes:=by
 unfold far ziy
 by_cases h:j<N.forks.length
 ·rw[if_pos h,if_pos h]
  have:=ziX (q:=hasG gs j) (a:=(fkAt N j).1) (b:=(fkAt N j).2) (fun l hl=>by
   obtain⟨g,hg,rfl,rfl⟩:=za8.mp hl
   exact ok.on g hg h) N.lanes
  have:dN (hasG gs j) N.lanes≤2:=by
   refine Nat.le_trans this ?_
   split<;>split<;>lia
  lia
 ·rw[if_neg h,if_neg h]
  have:=zkZ (hasG gs j) N.lanes
  lia
theorem zkU {N:Nt}{gs hs:List Grp}(ok:GrOk N gs) {i j:Nat}(h:i<j) (hj:j≤N.forks.length):far N gs j≤ziy N i:=by
 have:=zhu ok j
 unfold ziy
 rw[if_pos (by lia)]
 split at this<;>lia
def Togo (N:Nt) (gs:List Grp) (b:Nat):Prop:=∃ j,(∀ g∈gs,j≤g.fork)∧gs.length+2*far N gs j≤b
theorem Togo.first {N:Nt}{gs:List Grp}(ok:GrOk N gs):Togo N gs (gs.length+2*(2*N.forks.length+N.lanes)):=by
 refine⟨0,fun g _=>Nat.zero_le _,?_⟩
 have:=zhu ok 0
 split at this<;>lia
theorem ziA {N:Nt}{gs gs':List Grp}{j:Nat}(h:∀ x∈gs',∃ y∈gs,y.fork=x.fork∧y.lane=x.lane):far N gs' j≤far N gs j:=by
 unfold far
 refine Nat.add_le_add_left (zeV (fun l hl=>?_) _) _
 obtain⟨x,hx,rfl,rfl⟩:=za8.mp hl
 obtain⟨y,hy,e1,e2⟩:=h x hx
 exact za8.mpr ⟨y,hy,e1,e2⟩
theorem Togo.join {N:Nt}{gs gs':List Grp}{b:Nat}(L:Togo N gs (b+1)) (h:∀ x∈gs',∃ y∈gs,y.fork=x.fork∧y.lane=x.lane) (hl:gs'.length<gs.length):Togo N gs' b:=by
 obtain⟨j,h1,h2⟩:=L
 have:=ziA (N:=N) (j:=j) h
 exact⟨j,fun x hx=>by obtain⟨y,hy,e,_⟩:=h x hx;rw[← e];exact h1 y hy,by lia⟩
theorem Togo.step {N:Nt}{gs gs':List Grp}{b:Nat}{g:Grp}(ok:GrOk N gs) (L:Togo N gs (b+1)) (hg:g∈gs) (hm:∀ x∈gs,g.fork≤x.fork) (h:∀ x∈gs',g.fork<x.fork∨(x∈gs∧¬(x.fork=g.fork∧x.lane=g.lane))) (hl:gs'.length≤gs.length+1):Togo N gs' b:=by
 obtain⟨j,h1,h2⟩:=L
 have gl:=(ok.gk g hg)
 have up:far N gs g.fork≤far N gs j:=by
  rcases Nat.lt_or_eq_of_le (h1 g hg) with z|z
  ·have:=zkU (hs:=gs) ok z gl.2
   unfold far at this ⊢;lia
  ·rw[← z];exact Nat.le_refl _
 refine⟨g.fork,fun x hx=>by rcases h x hx with z|z;lia;exact hm x z.1,?_⟩
 have lt:far N gs' g.fork<far N gs g.fork:=by
  unfold far
  refine Nat.add_lt_add_left (zkY (l:=g.lane) (fun l hl=>?_) (za8.mpr ⟨g,hg,rfl,rfl⟩) (fun z=>?_) _ gl.1) _
  ·obtain⟨x,hx,e1,e2⟩:=za8.mp hl
   rcases h x hx with z|z
   ·lia
   ·exact za8.mpr ⟨x,z.1,e1,e2⟩
  ·obtain⟨x,hx,e1,e2⟩:=za8.mp z
   rcases h x hx with z|z
   ·lia
   ·exact z.2 ⟨e1,e2⟩
 lia
theorem Togo.none {N:Nt}{gs:List Grp}(L:Togo N gs 0):gs=[]:=by
 obtain⟨j,_,h2⟩:=L
 exact List.length_eq_zero_iff.mp (by lia)
theorem Togo.mono {N:Nt}{gs:List Grp}{b b':Nat}(L:Togo N gs b) (h:b≤b'):Togo N gs b':=let ⟨j,h1,h2⟩:=L;⟨j,h1,by lia⟩
section
variable {H0 H:Hp}{l d lt lg lo:Addr}{qa:List Addr}{ts os:List Int}{gs:List Grp}
end
end Bn
namespace L2
open PySem Own
section
variable {X:Cx}
end
end L2
namespace L2
open PySem
theorem zk4 {i:Nat}{x:V}{t:TS}{D:Ends}{σ:St}{H:Hp}(h:∀ D':Ends,(∀ σ H,D.nx σ H→D'.nx σ H)→t D' (σ.set i (some x)) H):zdw i x σ H fun σ2 H2=>t D σ2 H2:=h D fun _ _ x=>x
theorem zaM {t u:TS}{D:Ends}{σ:St}{H:Hp}(h:∀ D':Ends,(∀ σ H,u D σ H→D'.nx σ H)→t D' σ H):tSeq t u D σ H:=h { D with nx:=u D } fun _ _ x=>x
end L2
namespace L2
open PySem Own PyProof.Rows PySem.Spec
section
variable {X:Cx}
end
end L2
namespace Bn
open PySem L2 Own
def Dds (H:Hp):List V→List Dd→Prop
 | [],[]=>True
 | x::xs,d::ds=>(∃ t,x=.ref t∧DeedAt H t d)∧Dds H xs ds
 | _,_=>False
theorem Dds.tups {H H':Hp}(s:Tups H H'):∀ {xs:List V}{ds:List Dd},Dds H xs ds→Dds H' xs ds
 | [],[],_=>trivial
 | [],_::_,h=>h.elim
 | _::_,[],h=>h.elim
 | _::_,_::_,⟨⟨t,e,h⟩,r⟩=>⟨⟨t,e,h.tups s⟩,Dds.tups s r⟩
theorem Dds.len {H:Hp}:∀ {xs:List V}{ds:List Dd},Dds H xs ds→xs.length=ds.length
 | [],[],_=>rfl
 | [],_::_,h=>h.elim
 | _::_,[],h=>h.elim
 | _::_,_::_,⟨_,r⟩=>congrArg (· + 1) (Dds.len r)
theorem Dds.app {H:Hp}:∀ {xs ys:List V}{ds es:List Dd},Dds H xs ds→Dds H ys es→Dds H (xs++ys) (ds++es)
 | [],_,[],_,_,q=>q
 | [],_,_::_,_,h,_=>h.elim
 | _::_,_,[],_,h,_=>h.elim
 | _::_,_,_::_,_,⟨x,r⟩,q=>⟨x,Dds.app r q⟩
theorem Dds.snoc {H:Hp}{xs:List V}{ds:List Dd}{t:Addr}{d:Dd}(h:Dds H xs ds) (a:DeedAt H t d):Dds H (xs++[.ref t]) (ds++[d]):=h.app (ys:=[.ref t]) (es:=[d]) ⟨⟨t,rfl,a⟩,trivial⟩
theorem Dds.get {H:Hp}:∀ {xs:List V}{ds:List Dd}{i:Nat}{x:V},Dds H xs ds→xs[i]?=some x→∃ t dd,x=.ref t∧ds[i]?=some dd∧DeedAt H t dd
 | [],[],_,_,_,e=>by simp at e
 | [],_::_,_,_,h,_=>h.elim
 | _::_,[],_,_,h,_=>h.elim
 | _::_,d::_,0,x,⟨⟨t,e1,h⟩,_⟩,e=>⟨t,d,(Option.some.inj e).symm.trans e1,rfl,h⟩
 | _::xs,_::ds,i+1,x,⟨_,r⟩,e=>by
  obtain⟨t,dd,p,q,z⟩:=Dds.get (i:=i) r (show xs[i]?=some x by simpa using e)
  exact⟨t,dd,p,by simpa using q,z⟩
def DdIs (N:Nt):Dd→Prop
 | .put lane many=>lane<N.lanes∧many≠0∧-(10 ^ 29)<many∧many<10 ^ 29
 | .step _=>True
 | .join i j=>i<j
def putO (cs:List Int):Dd→List Int
 | .put lane many=>cs.set lane (cs.getD lane 0+many)
 | _=>cs
def putC (N:Nt) (ds:List Dd):List Int:=ds.foldl putO (List.replicate N.lanes 0)
theorem putO_len (cs:List Int) (d:Dd):(putO cs d).length=cs.length:=by
 cases d<;>simp[putO]
theorem zff (N:Nt) (ds:List Dd):(putC N ds).length=N.lanes:=by
 have go:∀ (ds:List Dd) (cs:List Int),(ds.foldl putO cs).length=cs.length:=by
  intro ds
  induction ds with
  | nil=>intro cs;rfl
  | cons d ds ih=>intro cs;rw[List.foldl_cons,ih,putO_len]
 rw[putC,go,List.length_replicate]
theorem zdT (N:Nt) {ds:List Dd}{i:Nat}{d:Dd}(e:ds[i]?=some d):putC N (ds.take (i+1))=putO (putC N (ds.take i)) d:=by
 obtain⟨il,rfl⟩:=List.getElem?_eq_some_iff.mp e
 rw[putC,List.take_succ_eq_append_getElem il,List.foldl_append];rfl
section
variable {H0 H H':Hp}{l d lt lg lo:Addr}{qa qa':List Addr}{ts os ts' os':List Int}{gs gs':List Grp}
end
def Nxt (gs:List Grp) (late:Prop):Dd→Prop
 | .put _ _=>False
 | .step p=>(∀ (a b:Nat) (x y:Grp),a<b→gs[a]?=some x→gs[b]?=some y→¬(x.lane=y.lane∧x.fork=y.fork))∧∃ g,gs[p]?=some g∧(late→∀ x∈gs,g.fork≤x.fork)
 | .join i j=>i<j∧∃ x y:Grp,gs[i]?=some x∧gs[j]?=some y∧x.lane=y.lane∧x.fork=y.fork
theorem Nxt.ok {N:Nt}{gs:List Grp}{late:Prop}:∀ {dd:Dd},Nxt gs late dd→DeedOk N gs dd
 | .put _ _,h=>h.elim
 | .step _,⟨_,g,e,_⟩=>(List.getElem?_eq_some_iff.mp e).1
 | .join i j,⟨ij,x,y,ex,ey,e1,e2⟩=>⟨ij,(List.getElem?_eq_some_iff.mp ey).1,fun g h eg eh=>by
  rw[ex]at eg;rw[ey]at eh
  obtain rfl:=Option.some.inj eg
  obtain rfl:=Option.some.inj eh
  exact⟨e1,e2⟩⟩
def cf (cs:List Int):Nat→Int:=fun l=>cs.getD l 0
structure Wv (N:Nt) (cs:List Int) (ts:List Int) (gs:List Grp) (os:List Int):Prop where
 ok:ScOk N ts gs os
 cl:cs.length=N.lanes
 rw_:∃ T,RanW N (cf cs) T ts gs os
theorem Wv.gr {N:Nt}{cs ts os:List Int}{gs:List Grp}(h:Wv N cs ts gs os):GrOk N gs:=⟨h.ok.gk,let ⟨_,R⟩:=h.rw_;R.on⟩
theorem Wv.zero (N:Nt):Wv N (List.replicate N.lanes 0) (List.replicate N.forks.length 0) [] (List.replicate N.lanes 0):=by
 refine⟨⟨List.length_replicate,fun t ht=>.inl (List.eq_of_mem_replicate ht),List.length_replicate,fun g hg=>absurd hg (by simp)⟩,List.length_replicate,fun _=>0,?_⟩
 have:cf (List.replicate N.lanes 0)=fun _=>0:=by
  funext l
  unfold cf
  rw[List.getD_eq_getElem?_getD,List.getElem?_replicate]
  split<;>rfl
 rw[this]
 exact RanW.zero
theorem Wv.put {N:Nt}(okN:N.Ok) {cs ts os ts' os':List Int}{gs gs':List Grp}{lane:Nat}{m:Int}(h:Wv N cs ts gs os) (dk:DeedOk N gs (.put lane m)) (d:DoTo N ts gs os ts' gs' os' (.put lane m)):Wv N (cs.set lane (cs.getD lane 0+m)) ts' gs' os'∧gs'.length=gs.length+1:=by
 have o:=(d.ok okN h.ok dk).1
 obtain⟨rfl,rfl,k,nx,rfl⟩:=d
 obtain⟨T,R⟩:=h.rw_
 refine⟨⟨o,by rw[List.length_set];exact h.cl,T,?_⟩,by rw[List.length_append];rfl⟩
 have:cf (cs.set lane (cs.getD lane 0+m))=fun l=>cf cs l+dw m lane l:=by
  funext l
  unfold cf
  rw[List.getD_eq_getElem?_getD,List.getElem?_set]
  by_cases e:lane=l
  ·subst e
   have:=dk.1
   rw[if_pos rfl,if_pos (by have:=h.cl;lia),zfX rfl];rfl
  ·rw[if_neg e,za5 (fun z=>e z.symm),Int.add_zero,← List.getD_eq_getElem?_getD]
 rw[this]
 exact R.put okN nx
theorem Wv.next {N:Nt}(okN:N.Ok) {cs ts os ts' os':List Int}{gs gs':List Grp}{late:Prop}{dd:Dd}(h:Wv N cs ts gs os) (n:Nxt gs late dd) (d:DoTo N ts gs os ts' gs' os' dd):Wv N cs ts' gs' os'∧gs'.length≤gs.length+1∧(late→∀ b,Togo N gs (b+1)→Togo N gs' b):=by
 obtain⟨o,gl⟩:=d.ok okN h.ok n.ok
 obtain⟨T,R⟩:=h.rw_
 have gr:=h.gr
 cases dd with
 | put lane m=>exact n.elim
 | join i j =>
  obtain⟨ij,x,y,ex,ey,e1,e2⟩:=n
  obtain⟨rfl,rfl,x',y',ex',ey',rfl⟩:=d
  rw[ex]at ex';rw[ey]at ey'
  obtain rfl:=Option.some.inj ex'
  obtain rfl:=Option.some.inj ey'
  have xm:=List.mem_of_getElem? ex
  refine⟨⟨o,h.cl,T,R.join ij ex ey e1.symm e2.symm rfl⟩,gl,fun _ b L=>L.join (fun q hq=>?_) ?_⟩
  ·rcases List.mem_append.mp hq with z|z
   ·rcases List.mem_append.mp z with z|z
    ·rcases List.mem_append.mp z with z|z
     ·exact⟨q,List.mem_of_mem_take z,rfl,rfl⟩
     ·obtain rfl:=zaN z
      exact⟨x,xm,rfl,rfl⟩
    ·exact⟨q,List.mem_of_mem_drop (List.mem_of_mem_take z),rfl,rfl⟩
   ·exact⟨q,List.mem_of_mem_drop z,rfl,rfl⟩
  ·have jl:=(List.getElem?_eq_some_iff.mp ey).1
   have p1:(part (x.many+y.many) x.lane x.fork).length≤1:=by unfold part;split<;>simp
   simp only[List.length_append,List.length_take,List.length_drop]
   lia
 | step p =>
  obtain⟨un,g,eg,hm⟩:=n
  obtain⟨g',eg',d⟩:=d
  rw[eg]at eg'
  obtain rfl:=Option.some.inj eg'
  have gm:=List.mem_of_getElem? eg
  have pl:=(List.getElem?_eq_some_iff.mp eg).1
  have rest:∀ x,x∈gs.take p∨x∈gs.drop (p+1)→x∈gs∧¬(x.fork=g.fork∧x.lane=g.lane):=fun x hx=>by
   rcases hx with hx|hx
   ·refine⟨List.mem_of_mem_take hx,fun z=>?_⟩
    obtain⟨i,hi⟩:=List.mem_iff_getElem?.mp hx
    rw[List.getElem?_take]at hi
    split at hi
    ·exact un i p x g (by assumption) hi eg ⟨z.2,z.1⟩
    ·cases hi
   ·refine⟨List.mem_of_mem_drop hx,fun z=>?_⟩
    obtain⟨i,hi⟩:=List.mem_iff_getElem?.mp hx
    rw[List.getElem?_drop]at hi
    exact un p (p+1+i) g x (by lia) eg hi ⟨z.2.symm,z.1.symm⟩
  rcases d with ⟨z,rfl,rfl,rfl⟩|⟨z,rfl,rfl,ms,pt,rfl⟩
  ·refine⟨⟨o,h.cl,T,R.out okN h.ok.ol eg z (gr.gk g gm).1⟩,gl,fun l b L=>L.step gr gm (hm l) (fun x hx=>.inr (rest x (List.mem_append.mp hx))) gl⟩
  ·refine⟨⟨o,h.cl,_,R.go okN h.ok.tl eg z pt⟩,gl,fun l b L=>L.step gr gm (hm l) (fun x hx=>?_) gl⟩
   rcases List.mem_append.mp hx with y|y
   ·rcases List.mem_append.mp y with y|y
    ·exact .inr (rest x (.inl y))
    ·refine .inl ?_
     obtain⟨f,k1,k2,_,n1,n2,rfl⟩:=pt
     rcases List.mem_append.mp y with y|y
     ·obtain rfl:=zaN y
      have:=n1.from_
      show g.fork<k1;lia
     ·obtain rfl:=zaN y
      have:=n2.from_
      show g.fork<k2;lia
   ·exact .inr (rest x (.inr y))
theorem Wv.done {N:Nt}(okN:N.Ok) {cs ts os:List Int}{gs:List Grp}(h:Wv N cs ts gs os) (e:gs=[]):ts=zai N cs∧os=zau N cs:=by
 subst e
 obtain⟨T,R⟩:=h.rw_
 exact R.done okN h.ok.tl h.ok.ol h.cl (fun _ _=>rfl)
def goes (n:Nat):Option (Nat × Nat)→Nat
 | none=>0
 | some o=>n+1-o.2
end Bn
namespace L2
open PySem PySem.Spec PyProof.Rows Own Bn
theorem zj0:∀ {ns:List Int},(∀ n∈ns,n.natAbs<1024)→ns.length≤1000→PyData.layable0 (.list (ns.map .int))=true:=by
 intro ns h hl
 have go:∀ ns:List Int,(∀ n∈ns,n.natAbs<1024)→PyData.canLayAll0 (ns.map .int)=true∧PyData.depthAll (ns.map .int)=0∧PyData.weightAll (ns.map .int)≤12*ns.length:=fun ns=>by
  induction ns with
  | nil=>exact fun _=>⟨rfl,rfl,Nat.le_refl _⟩
  | cons n ns ih =>
   intro h
   obtain⟨a,b,c⟩:=ih (fun m hm=>h m (List.mem_cons_of_mem _ hm))
   refine⟨?_,?_,?_⟩
   ·show (true && PyData.canLayAll0 (ns.map .int))=true
    rw[a];rfl
   ·show max 0 (PyData.depthAll (ns.map .int))=0
    rw[b];rfl
   ·show (if n == 0 then 0 else n.natAbs.log2+1)+1+PyData.weightAll (ns.map .int)≤12*(ns.length+1)
    have:(if n == 0 then 0 else n.natAbs.log2+1)≤11:=by
     split
     ·lia
     ·rename_i z
      have n0:n.natAbs≠0:=by simpa using z
      have:=(Nat.log2_lt n0 (k:=10)).mpr (h n List.mem_cons_self)
      lia
    lia
 obtain⟨a,b,c⟩:=go ns h
 show (PyData.canLayAll0 (ns.map .int) && decide (PyData.depthAll (ns.map .int)+1≤64) && decide (PyData.weightAll (ns.map .int)≤2 ^ 20))=true
 rw[a,b,decide_eq_true (show PyData.weightAll (ns.map .int)≤2 ^ 20 by lia)];rfl
def zlj:V→List V→Hp→VK→Prop:=fun x vs H Q=>∃ l ns k,x=.ref l∧vs=[.int k]∧H l=some (.lst (List.map V.int ns))∧k∈ns∧(∀ n∈ns,n.natAbs<1024)∧ns.length≤1000∧Q (.int ((ns.idxOf k:Nat):Int)) H
theorem mt_index {X:Cx}:MtM X "list.index" zlj:=by
 intro pins s σ H x vs v us Q I rx rv h
 obtain⟨l,ns,k,rfl,rfl,hH,km,sm,le,q⟩:=h
 cases rx
 obtain⟨u,rfl,ru⟩:=rv.one
 obtain⟨t,rfl⟩:=ru
 obtain⟨z,its,n,r,hl,e⟩:=I.lstM hH
 refine index_list_ints ⟨_,e,rfl,n,rfl⟩ (zgi r) (zj0 sm le) km ?_
 exact⟨.int _,H,I.kept (t':=s.toks+1) (fun _ _ e=>e),⟨_,rfl⟩,q⟩
section
variable {X:Cx}
theorem zgX (hu:X.A.units+64<cLine):OpR X (compareOp .NotEq) (fun x y H Q=>∃ a b xs,x=.ref a∧y=.ref b∧SqT X.K H a xs∧SqT X.K H b []∧Q (.bl (!xs.isEmpty)) H):=by
 intro pins s σ H x y v u Q I rx ry h
 obtain⟨a,b,xs,rfl,rfl,ha,hb,q⟩:=h
 cases rx;cases ry
 obtain⟨its,r1,p1,_⟩:=I.tuple ha
 obtain⟨jts,r2,p2,_⟩:=I.tuple hb
 cases r2
 have l1:=r1.length
 refine SeqAt.RcNeAt.tuples (e:=fun _=>true) p1 p2 (by lia) (fun j k1 k2=>absurd k2 (Nat.not_lt_zero _)) X.prog X.w _ _ ?_
 refine⟨.bl (!xs.isEmpty),H,I,?_,q⟩
 rw[zcr,List.size_toArray,← l1]
 show Value.bool _=Value.bool _
 cases xs<;>simp
end
end L2
namespace K83
open PySem L2 Own Bn
abbrev zgF:Stmt:=top 60
def zdg:Sp:=fun vs H Q _=>∃ l sc tr gr ou qs ts gs os,∃ t:Nat,vs=[.ref l,.ref sc,.int t]∧PkAt H l∧SceneAt H sc tr gr ou qs ts gs os∧gs≠[]∧gs.length≤900∧(∀ g∈gs,g.fork<1000) ∧
 ∀ d dd H',Nxt gs (40<t) dd→DeedAt H' d dd→PkAt H' l→But l H H'→Q (.ref d) H'
theorem zkf (a b c d:Nat):((List.range (min 2 2)).all (fun j=>eqV ([V.int a,V.int b].getD j .non) ([V.int c,V.int d].getD j .non)) && (2:Nat) == 2)=decide (a=c∧b=d):=by
 show ((eqV (.int a) (.int c) && (eqV (.int b) (.int d) && true)) && true)=_
 rw[Bool.and_true,Bool.and_true]
 show (decide _ && decide _)=_
 by_cases h:a=c<;>by_cases h':b=d<;>simp[h,h']<;>lia
theorem zfp {K:PySem.W.Frag}{H:Hp}{sc tr gr ou:Addr}{qs:List V}{ts:List Int}{gs:List Grp}{os:List Int}{s0 s1 s2 s4 s5 s6:Option V}{Q:VK}(sa:SceneAt H sc tr gr ou qs ts gs os) (gl:gs.length≤900)
  (k:∀ a H',Same H H'→H' a=some (.lst ((gs.map fun g=>(g.fork:Int)).map V.int))→Q (.ref a) H'):tLC [none] (iTup K (tVar 3)) (zdw 0) tYes (tOp (rIxT K) (tVar 0) (tC (V.int 2))) [s0,s1,s2,some (.ref gr),s4,s5,s6] H Q:=by
 have ql:=sa.grs.len
 refine⟨_,rfl,gr,rfl,⟨_,SqT.of sa.gr⟩,fun l hl=>?_⟩
 refine ziS (K:=K) (a:=gr) (xs:=qs) (fun i acc σ H4=>(∃ v,σ=[v])∧Same H H4∧H4 l=some (.lst acc)∧acc=((gs.take i).map fun g=>(g.fork:Int)).map V.int) ⟨⟨_,rfl⟩,zaa hl _,zab,rfl⟩ (fun i acc σ H4 z=>⟨z.2.2.1,SqT.of (z.2.1 _ _ sa.gr)⟩) ?_ ?_
 ·rintro i x acc σ H4 hx ⟨⟨v,rfl⟩,s4,h4,rfl⟩
  obtain⟨a,g,rfl,eg,ha⟩:=sa.grs.get hx
  have ig:=(List.getElem?_eq_some_iff.mp eg).1
  refine⟨_,rfl,a,_,_,_,rfl,rfl,SqT.of (s4 _ _ ha),rfl,h4,?_,nx (by lia) ⟨⟨_,rfl⟩,fun b o e=>?_,zab,?_⟩⟩
  ·rw[List.length_map,List.length_map,List.length_take];exact Nat.lt_of_le_of_lt (Nat.min_le_left _ _) (Nat.lt_of_lt_of_le (show i<1000 by lia) (by decide))
  ·rw[zae (zac e hl)];exact s4 b o e
  ·rw[List.take_succ_eq_append_getElem ig,List.map_append,List.map_append,(List.getElem?_eq_some_iff.mp eg).2];rfl
 ·rintro acc σ H4 ⟨⟨v,rfl⟩,s4,h4,rfl⟩
  rw[ql,List.take_length]at h4
  exact k l H4 s4 h4
section
variable {P:Program}{w:World}{K:PySem.W.Frag}{mg:Str→Option Value}{base:Heap}
theorem scNd:FnScope ["_law_left_here","_law_scene","_law_turn","_law_groups","_law_k","_law_j","_law_at"] ["_law_left_here","_law_scene","_law_turn"] (zad zgF):=⟨rfl,rfl,rfl,by decide +kernel,rfl,by decide +kernel,by decide +kernel⟩
theorem zih {f fK:Addr}{fd dK:FuncData}(F:Fun K "_law_next" "_law_next" zgF f fd) (G:Mgs mg) (UK:Use P w K mg base "_law_pick" ["_law_left_here","_law_many_here"] 1 zbs fK dK):FnOk P w K mg base CX0 2 f fd ["_law_left_here","_law_scene","_law_turn"] zdg:=by
 refine F.ok scNd (fun vs H Q E h=>?_) (fun cdv A outer s H vs Q E hr h=>?_)
 ·obtain⟨l,sc,tr,gr,ou,qs,ts,gs,os,t,rfl,_⟩:=h
  rfl
 obtain⟨l,sc,tr,gr,ou,qs,ts,gs,os,t,rfl,pk,sa,gne,gl,gf,k⟩:=h
 have hr1:Room 1 _:=hr.mono (by decide)
 have ql:=sa.grs.len
 refine⟨_,(@pss_cons _ _ _ _ _ (@ps_set _ _ 3 _ _ _ _ scNd.nd rfl (.inl rfl) (@pe_ix _ _ _ _ _ _ _ ix_tup (@pv _ 1 _ _ (by rfl) (by first|exact Or.inl rfl|exact Or.inr (.inl rfl)|exact Or.inr (.inr rfl)) (by decide) (by decide)) pe_int (fun _ _=>rfl)) (by rfl) (by first|exact .inl rfl|exact .inr rfl|assumption)) (@pss_cons _ _ _ _ _ (@ps_for _ _ _ _ _ _ _ _ PassesOwn.never rfl (@pi_range1 _ _ _ _ _ _ rfl G.range (@pa_cons _ _ _ _ _ (@pe_callB _ _ _ _ _ _ _ _ _ call_len_seq (by rfl) G.len PySem.boot_len (@pa_cons _ _ _ _ _ (@pv _ 3 _ _ (by rfl) (by first|exact Or.inl rfl|exact Or.inr (.inl rfl)|exact Or.inr (.inr rfl)) (by decide) (by decide)) pa_nil (by rfl)) (by decide) (by decide) (by rfl) (by rfl)) pa_nil (by rfl)) (by rfl)) (@pg_name _ _ 4 _ scNd.nd rfl (.inl rfl) (by first|exact .inl rfl|exact .inr rfl|assumption)) (@pss_one _ _ _ (@ps_for _ _ _ _ _ _ _ _ PassesOwn.never rfl (@pi_range1 _ _ _ _ _ _ rfl G.range (@pa_cons _ _ _ _ _ (@pv _ 4 _ _ (by rfl) (by first|exact Or.inl rfl|exact Or.inr (.inl rfl)|exact Or.inr (.inr rfl)) (by decide) (by decide)) pa_nil (by rfl)) (by rfl)) (@pg_name _ _ 5 _ scNd.nd rfl (.inl rfl) (by first|exact .inl rfl|exact .inr rfl|assumption)) (@pss_one _ _ _ (@ps_if _ _ _ _ _ _ _ _ (@pt_cmpR _ _ _ _ _ _ _ _ (zkC hr.units0) (@zan _ _ _ _ _ _ _ _ _ _ zaP (@pe_ix _ _ _ _ _ _ _ ix_tup (@pv _ 3 _ _ (by rfl) (by first|exact Or.inl rfl|exact Or.inr (.inl rfl)|exact Or.inr (.inr rfl)) (by decide) (by decide)) (@pv _ 5 _ _ (by rfl) (by first|exact Or.inl rfl|exact Or.inr (.inl rfl)|exact Or.inr (.inr rfl)) (by decide) (by decide)) (fun _ _=>rfl)) (@zak _ _ _ pe_int) zas) (@zan _ _ _ _ _ _ _ _ _ _ zaP (@pe_ix _ _ _ _ _ _ _ ix_tup (@pv _ 3 _ _ (by rfl) (by first|exact Or.inl rfl|exact Or.inr (.inl rfl)|exact Or.inr (.inr rfl)) (by decide) (by decide)) (@pv _ 4 _ _ (by rfl) (by first|exact Or.inl rfl|exact Or.inr (.inl rfl)|exact Or.inr (.inr rfl)) (by decide) (by decide)) (fun _ _=>rfl)) (@zak _ _ _ pe_int) zas) (nomark _)) (@pss_one _ _ _ (@ps_ret _ _ _ _ (@pe_tup _ _ _ _ _ (@pa_cons _ _ _ _ _ pe_str (@pa_cons _ _ _ _ _ (@pv _ 5 _ _ (by rfl) (by first|exact Or.inl rfl|exact Or.inr (.inl rfl)|exact Or.inr (.inr rfl)) (by decide) (by decide)) (@pa_cons _ _ _ _ _ (@pv _ 4 _ _ (by rfl) (by first|exact Or.inl rfl|exact Or.inr (.inl rfl)|exact Or.inr (.inr rfl)) (by decide) (by decide)) pa_nil (by rfl)) (by rfl)) (by rfl))))) pss_nil)) (by intro _;rfl))) (by intro _;rfl)) (@pss_cons _ _ _ _ _ (@ps_set _ _ 6 _ _ _ _ scNd.nd rfl (.inl rfl) (@pe_call _ _ _ _ _ _ _ _ _ _ _ _ _ _ _ _ UK.ok hr1 (by rfl) UK.m UK.kp UK.b .nil pass0 (@pa_cons _ _ _ _ _ (@pv _ 0 _ _ (by rfl) (by first|exact Or.inl rfl|exact Or.inr (.inl rfl)|exact Or.inr (.inr rfl)) (by decide) (by decide)) (@pa_cons _ _ _ _ _ (@pe_callB _ _ _ _ _ _ _ _ _ call_len_seq (by rfl) G.len PySem.boot_len (@pa_cons _ _ _ _ _ (@pv _ 3 _ _ (by rfl) (by first|exact Or.inl rfl|exact Or.inr (.inl rfl)|exact Or.inr (.inr rfl)) (by decide) (by decide)) pa_nil (by rfl)) (by decide) (by decide) (by rfl) (by rfl)) pa_nil (by rfl)) (by rfl)) (by decide) (by rfl) (by rfl)) (by rfl) (by first|exact .inl rfl|exact .inr rfl|assumption)) (@pss_cons _ _ _ _ _ (@ps_if _ _ _ _ _ _ _ _ (@pt_cmpR _ _ _ _ _ _ _ _ op_gt (@pv _ 2 _ _ (by rfl) (by first|exact Or.inl rfl|exact Or.inr (.inl rfl)|exact Or.inr (.inr rfl)) (by decide) (by decide)) pe_int (nomark _)) (@pss_one _ _ _ (@ps_set _ _ 6 _ _ _ _ scNd.nd rfl (.inl rfl) (@pe_bm _ _ _ _ _ _ _ _ _ _ _ _ PySem.F.plainAttrs_list PySem.F.slot_list_index PySem.F.type_list_index mt_index (@pe_lc _ _ _ _ none _ _ _ _ _ _ ["_law_one"] [none] rfl (@zb9 _ _ _ _ (@pv _ 3 _ _ (by rfl) (by first|exact Or.inl rfl|exact Or.inr (.inl rfl)|exact Or.inr (.inr rfl)) (by decide) (by decide))) (CapOk.of (by kernel_rfl)) (fun _ _ _ _ _=>(@pg_name _ _ 0 _ (show (["_law_one"]:List Str).Nodup from by decide +kernel) rfl (.inl rfl) (.inr rfl))) (fun _ _ _ _ _=>zbx) (fun _ _ _ _ _=>(@pe_ix _ _ _ _ _ _ (rIxT K) ix_tup (@pv _ 0 _ _ (by rfl) (by first|exact Or.inl rfl|exact Or.inr (.inl rfl)|exact Or.inr (.inr rfl)) (by decide) (by decide)) pe_int (fun _ _=>rfl))) (by intro _;rfl)) (@pa_cons _ _ _ _ _ (@pe_callB _ _ _ _ _ _ _ _ _ (call_minB rfl true) (by rfl) G.min (by rfl) (@pa_cons _ _ _ _ _ (@pe_lc _ _ _ _ none _ _ _ _ _ _ ["_law_one"] [none] rfl (@zb9 _ _ _ _ (@pv _ 3 _ _ (by rfl) (by first|exact Or.inl rfl|exact Or.inr (.inl rfl)|exact Or.inr (.inr rfl)) (by decide) (by decide))) (CapOk.of (by kernel_rfl)) (fun _ _ _ _ _=>(@pg_name _ _ 0 _ (show (["_law_one"]:List Str).Nodup from by decide +kernel) rfl (.inl rfl) (.inr rfl))) (fun _ _ _ _ _=>zbx) (fun _ _ _ _ _=>(@pe_ix _ _ _ _ _ _ (rIxT K) ix_tup (@pv _ 0 _ _ (by rfl) (by first|exact Or.inl rfl|exact Or.inr (.inl rfl)|exact Or.inr (.inr rfl)) (by decide) (by decide)) pe_int (fun _ _=>rfl))) (by intro _;rfl)) pa_nil (by rfl)) (by decide) (by decide) (by rfl) (by rfl)) pa_nil (by rfl)) (by rfl) (by rfl) (by rfl) (by rfl) (by rfl)) (by rfl) (by first|exact .inl rfl|exact .inr rfl|assumption))) pss_nil) (@pss_one _ _ _ (@ps_ret _ _ _ _ (@pe_tup _ _ _ _ _ (@pa_cons _ _ _ _ _ pe_str (@pa_cons _ _ _ _ _ (@pv _ 6 _ _ (by rfl) (by first|exact Or.inl rfl|exact Or.inr (.inl rfl)|exact Or.inr (.inr rfl)) (by decide) (by decide)) pa_nil (by rfl)) (by rfl))))))))),?_⟩
 refine⟨_,rfl,sc,_,_,_,rfl,rfl,SqT.of sa.sc,rfl,?_⟩
 refine⟨_,rfl,gr,_,rfl,.inr (SqT.of sa.gr),_,rfl,by lia,by lia,?_⟩
 refine zaT (lo:=0) (fun i σ H2=>(∃ v4 v5 v6,σ=[some (.ref l),some (.ref sc),some (.int t),some (.ref gr),v4,v5,v6])∧Same H H2∧PkAt H2 l∧∀ (a b:Nat) (x y:Grp),a<b→b<i→gs[a]?=some x→gs[b]?=some y→¬(x.lane=y.lane∧x.fork=y.fork)) ⟨⟨_,_,_,rfl⟩,Same.refl _,pk,fun a b x y _ h=>by lia⟩ ?_ ?_
 ·rintro i σ H2 hi ⟨⟨v4,v5,v6,rfl⟩,s2,pk2,un⟩
  have il:i<gs.length:=by lia
  have ei:gs[i]?=some gs[i]:=List.getElem?_eq_getElem il
  obtain⟨ai,gi,exi,egi,hai⟩:=sa.grs.get (i:=i) (List.getElem?_eq_getElem (show i<qs.length by lia))
  obtain rfl:=Option.some.inj (ei.symm.trans egi)
  refine⟨_,rfl,_,rfl,by lia,by lia,?_⟩
  refine zaT (lo:=0) (fun j σ H3=>(∃ v5 v6,σ=[some (.ref l),some (.ref sc),some (.int t),some (.ref gr),some (.int (0+(i:Int))),v5,v6])∧Same H H3∧PkAt H3 l∧∀ (a:Nat) (x:Grp),a<j→gs[a]?=some x→¬(x.lane=gs[i].lane∧x.fork=gs[i].fork)) ⟨⟨_,_,rfl⟩,s2,pk2,fun a x h=>by lia⟩ ?_ ?_
  ·rintro j σ H3 hj ⟨⟨v5,v6,rfl⟩,s3,pk3,uj⟩
   have jl:j<i:=by lia
   have jg:j<gs.length:=by lia
   obtain⟨aj,gj,exj,egj,haj⟩:=sa.grs.get (i:=j) (List.getElem?_eq_getElem (show j<qs.length by lia))
   have hatj:atI qs (0+(j:Int))=some (.ref aj):=by rw[Int.zero_add];exact zaB (by rw[List.getElem?_eq_getElem (show j<qs.length by lia),exj])
   have hati:atI qs (0+(i:Int))=some (.ref ai):=by rw[Int.zero_add];exact zaB (by rw[List.getElem?_eq_getElem (show i<qs.length by lia),exi])
   refine⟨_,rfl,_,rfl,gr,_,_,_,rfl,rfl,SqT.of (s3 _ _ sa.gr),hatj,_,rfl,aj,_,rfl,s3 _ _ haj,fun p H4 s4 hp=>?_⟩
   refine⟨_,rfl,_,rfl,gr,_,_,_,rfl,rfl,SqT.of (s4 _ _ (s3 _ _ sa.gr)),hati,_,rfl,ai,_,rfl,s4 _ _ (s3 _ _ hai),fun q H5 s5 hq=>?_⟩
   refine⟨p,q,_,_,rfl,rfl,SqT.of (s5 _ _ hp),SqT.of hq,rfl,rfl,_,rfl,?_⟩
   have ev:((List.range (min 2 2)).all (fun j=>eqV ([V.int gj.lane,V.int gj.fork].getD j .non) ([V.int gs[i].lane,V.int gs[i].fork].getD j .non)) && (2:Nat) == 2)=decide (gj.lane=gs[i].lane∧gj.fork=gs[i].fork):=zkf _ _ _ _
   show if ((List.range (min 2 2)).all (fun j=>eqV ([V.int gj.lane,V.int gj.fork].getD j .non) ([V.int gs[i].lane,V.int gs[i].fork].getD j .non)) && (2:Nat) == 2)=true then _ else _
   rw[ev]
   by_cases z:gj.lane=gs[i].lane∧gj.fork=gs[i].fork
   ·rw[decide_eq_true z]
    refine iteT ⟨_,rfl,_,rfl,(by show 3≤sizeLine;decide),fun d hd=>k d (.join j i) _ ⟨jl,gj,gs[i],egj,ei,z.1,z.2⟩ ?_ ?_ ?_⟩
    ·show upd H5 d (.tup [.str "join",.int (0+(j:Int)),.int (0+(i:Int))]) d=_
     rw[zab,Int.zero_add,Int.zero_add]
    ·exact(pk3.keep (s4.trans s5)).upd ((pk3.keep (s4.trans s5)).ne hd)
    ·exact(But.of (s3.trans (s4.trans s5))).new hd
   ·rw[decide_eq_false z]
    refine iteF ⟨⟨_,_,rfl⟩,s3.trans (s4.trans s5),pk3.keep (s4.trans s5),fun a x ha ea=>?_⟩
    by_cases e:a=j
    ·subst e
     obtain rfl:=Option.some.inj (egj.symm.trans ea)
     exact z
    ·exact uj a x (by lia) ea
  ·rintro σ H3 ⟨⟨v5,v6,rfl⟩,s3,pk3,uj⟩
   refine⟨⟨_,_,_,rfl⟩,s3,pk3,fun a b x y ab hb ea eb=>?_⟩
   by_cases e:b=i
   ·subst e
    obtain rfl:=Option.some.inj (ei.symm.trans eb)
    exact uj a x (by lia) ea
   ·exact un a b x y ab (by lia) ea eb
 ·rintro σ H2 ⟨⟨v4,v5,v6,rfl⟩,s2,pk2,un⟩
  have un':∀ (a b:Nat) (x y:Grp),a<b→gs[a]?=some x→gs[b]?=some y→¬(x.lane=y.lane∧x.fork=y.fork):=fun a b x y ab ea eb=>un a b x y ab (by have:=(List.getElem?_eq_some_iff.mp eb).1;lia) ea eb
  have gp:0<gs.length:=List.length_pos_iff.mpr gne
  refine⟨_,rfl,_,rfl,gr,_,rfl,.inr (SqT.of (s2 _ _ sa.gr)),l,_,rfl,by lia,by lia,pk2,fun v H3 hv pk3 b3=>?_⟩
  have vl:v<gs.length:=by lia
  have tp3:=b3.tups pk2
  refine⟨_,rfl,_,_,rfl,rfl,_,rfl,?_⟩
  have last:∀ (at_:Nat) H4,at_<gs.length→(40<t→∀ g,gs[at_]?=some g→∀ x∈gs,g.fork≤x.fork)→PkAt H4 l→But l H H4→∀ d,H4 d=none→Q (.ref d) (upd H4 d (.tup [.str "step",.int at_])):=fun at_ H4 al hm pk4 b4 d hd =>
   k d (.step at_) _ ⟨un',_,List.getElem?_eq_getElem al,fun z=>hm z _ (List.getElem?_eq_getElem al)⟩ zab (pk4.upd (pk4.ne hd)) (b4.new hd)
  have b03:But l H H3:=(But.of s2).trans b3
  by_cases z:40<t
  ·rw[decide_eq_true (show (40:Int)<(t:Int) by lia)]
   have sa3:=sa.tups ((Tups.of s2).trans tp3)
   refine iteT (zfp sa3 gl fun la H4 s4 h4=>⟨.inl ⟨rfl,_,SqL.of h4⟩,zfp (sa3.tups (Tups.of s4)) gl fun lb H5 s5 h5=>⟨lb,_,rfl,SqL.of h5,by rw[List.length_map];exact gp,fun M hM hlo=>?_⟩⟩)
   refine⟨la,_,M,rfl,rfl,s5 _ _ h4,hM,fun n hn=>?_,by rw[List.length_map];lia,?_⟩
   ·obtain⟨g,hg,rfl⟩:=List.mem_map.mp hn
    have:=gf g hg
    lia
   have al:=List.idxOf_lt_length_of_mem hM
   rw[List.length_map]at al
   refine⟨_,rfl,(by show 2≤sizeLine;decide),fun d hd=>last _ _ al (fun _ g eg x hx=>?_) (pk3.keep (s4.trans s5)) (b03.trans (But.of (s4.trans s5))) d hd⟩
   have e1:=List.getElem_idxOf (List.idxOf_lt_length_of_mem hM)
   rw[List.getElem_map,(List.getElem?_eq_some_iff.mp eg).2]at e1
   have:=hlo _ (List.mem_map.mpr ⟨x,hx,rfl⟩)
   lia
  ·rw[decide_eq_false (show ¬(40:Int)<(t:Int) by lia)]
   refine iteF ⟨_,rfl,(by show 2≤sizeLine;decide),fun d hd=>last v _ vl (fun y=>absurd y z) pk3 b03 d hd⟩
end
abbrev zji:Stmt:=top 61
def zgo:Sp:=fun vs H Q _=>∃ l r fr er ps N sc tr gr ou qs ts gs os cs,vs=[.ref l,.ref r,.ref sc]∧PkAt H l∧Nt.Ok N∧NetAt H r fr er ps N∧SceneAt H sc tr gr ou qs ts gs os∧Wv N cs ts gs os∧gs.length+2*(2*N.forks.length+N.lanes)≤300 ∧
 ∀ sc' tr' gr' ou' H',PkAt H' l→But l H H'→Wv N cs (zai N cs) [] (zau N cs)→SceneAt H' sc' tr' gr' ou' [] (zai N cs) [] (zau N cs)→Q (.ref sc') H'
theorem Togo.len {N:Nt}{gs:List Grp}{b:Nat}(L:Togo N gs b):gs.length≤b:=by
 obtain⟨j,_,h⟩:=L
 lia
section
variable {P:Program}{w:World}{K:PySem.W.Frag}{mg:Str→Option Value}{base:Heap}
theorem scOt:FnScope ["_law_left_here","_law_net_here","_law_scene","_law_turn"] ["_law_left_here","_law_net_here","_law_scene"] (zad zji):=⟨rfl,rfl,rfl,by decide +kernel,rfl,by decide +kernel,by decide +kernel⟩
theorem zjE {f fD fN:Addr}{fd dD dN:FuncData}(F:Fun K "_law_out" "_law_out" zji f fd) (G:Mgs mg) (UDo:Use P w K mg base "done" ["net","scene","deed"] 5 ze8 fD dD) (UNd:Use P w K mg base "_law_next" ["_law_left_here","_law_scene","_law_turn"] 2 zdg fN dN):FnOk P w K mg base CX0 6 f fd ["_law_left_here","_law_net_here","_law_scene"] zgo:=by
 refine F.ok scOt (fun vs H Q E h=>?_) (fun cdv A outer s H vs Q E hr h=>?_)
 ·obtain⟨l,r,fr,er,ps,N,sc,tr,gr,ou,qs,ts,gs,os,cs,rfl,_⟩:=h
  rfl
 obtain⟨l,r,fr,er,ps,N,sc,tr,gr,ou,qs,ts,gs,os,cs,rfl,pk,ok,na,sa,wv,g3,k⟩:=h
 have hr2:Room 2 _:=hr.mono (by decide)
 have hr5:Room 5 _:=hr.mono (by decide)
 have fm:=ok.fm
 refine⟨_,(@pss_cons _ _ _ _ _ (@ps_set _ _ 3 _ _ _ _ scOt.nd rfl (.inl rfl) pe_int (by rfl) (by first|exact .inl rfl|exact .inr rfl|assumption)) (@pss_cons _ _ _ _ _ (@zdp _ _ _ _ _ _ PassesOwn.never (@zfe _ _ _ _ _ _ _ (@pt_cmpR _ _ _ _ _ _ _ _ (zgX hr.units) (@pe_ix _ _ _ _ _ _ _ ix_tup (@pv _ 2 _ _ (by rfl) (by first|exact Or.inl rfl|exact Or.inr (.inl rfl)|exact Or.inr (.inr rfl)) (by decide) (by decide)) pe_int (fun _ _=>rfl)) (@pe_tup _ _ _ _ _ pa_nil) (nomark _)) (@zdo _ _ _ _ (@pt_cmpR _ _ _ _ _ _ _ _ zcN (@pv _ 3 _ _ (by rfl) (by first|exact Or.inl rfl|exact Or.inr (.inl rfl)|exact Or.inr (.inr rfl)) (by decide) (by decide)) pe_int (nomark _)))).pt (@pss_cons _ _ _ _ _ (@ps_set _ _ 2 _ _ _ _ scOt.nd rfl (.inl rfl) (@pe_call _ _ _ _ _ _ _ _ _ _ _ _ _ _ _ _ UDo.ok hr5 (by rfl) UDo.m UDo.kp UDo.b .nil pass0 (@pa_cons _ _ _ _ _ (@pv _ 1 _ _ (by rfl) (by first|exact Or.inl rfl|exact Or.inr (.inl rfl)|exact Or.inr (.inr rfl)) (by decide) (by decide)) (@pa_cons _ _ _ _ _ (@pv _ 2 _ _ (by rfl) (by first|exact Or.inl rfl|exact Or.inr (.inl rfl)|exact Or.inr (.inr rfl)) (by decide) (by decide)) (@pa_cons _ _ _ _ _ (@pe_call _ _ _ _ _ _ _ _ _ _ _ _ _ _ _ _ UNd.ok hr2 (by rfl) UNd.m UNd.kp UNd.b .nil pass0 (@pa_cons _ _ _ _ _ (@pv _ 0 _ _ (by rfl) (by first|exact Or.inl rfl|exact Or.inr (.inl rfl)|exact Or.inr (.inr rfl)) (by decide) (by decide)) (@pa_cons _ _ _ _ _ (@pv _ 2 _ _ (by rfl) (by first|exact Or.inl rfl|exact Or.inr (.inl rfl)|exact Or.inr (.inr rfl)) (by decide) (by decide)) (@pa_cons _ _ _ _ _ (@pv _ 3 _ _ (by rfl) (by first|exact Or.inl rfl|exact Or.inr (.inl rfl)|exact Or.inr (.inr rfl)) (by decide) (by decide)) pa_nil (by rfl)) (by rfl)) (by rfl)) (by decide) (by rfl) (by rfl)) pa_nil (by rfl)) (by rfl)) (by rfl)) (by decide) (by rfl) (by rfl)) (by rfl) (by first|exact .inl rfl|exact .inr rfl|assumption)) (@pss_one _ _ _ (@ps_set _ _ 3 _ _ _ _ scOt.nd rfl (.inl rfl) (@pe_op _ _ _ _ _ _ _ _ op_add (@pv _ 3 _ _ (by rfl) (by first|exact Or.inl rfl|exact Or.inr (.inl rfl)|exact Or.inr (.inr rfl)) (by decide) (by decide)) pe_int) (by rfl) (by first|exact .inl rfl|exact .inr rfl|assumption))))) (@pss_one _ _ _ (@ps_ret _ _ _ _ (@pv _ 2 _ _ (by rfl) (by first|exact Or.inl rfl|exact Or.inr (.inl rfl)|exact Or.inr (.inr rfl)) (by decide) (by decide)))))),?_⟩
 refine⟨fun m σ H1=>∃ t:Nat,m=390-t∧∃ sc tr gr ou qs ts gs1 os,σ=[some (.ref l),some (.ref r),some (.ref sc),some (.int t)]∧PkAt H1 l∧But l H H1∧SceneAt H1 sc tr gr ou qs ts gs1 os∧Wv N cs ts gs1 os∧(t≤41→gs1.length≤gs.length+t)∧(41≤t→Togo N gs1 (gs.length+82+2*(2*N.forks.length+N.lanes)-t)),
  ⟨_,0,rfl,sc,tr,gr,ou,qs,ts,gs,os,rfl,pk,fun b o e _=>e,sa,wv,fun _=>Nat.le_refl _,fun z=>absurd z (by lia)⟩,?_⟩
 rintro m σ H1 ⟨t,rfl,sc,tr,gr,ou,qs,ts,gs1,os,rfl,pk1,b1,sa1,wv1,p1,p2⟩
 have tp1:=b1.tups pk
 have ql:=sa1.grs.len
 refine⟨_,rfl,sc,_,_,_,rfl,rfl,SqT.of sa1.sc,rfl,Nat.zero_le _,fun e he=>?_⟩
 have se:=zaa he (.tup [])
 have pke:=pk1.keep se
 have sae:=sa1.tups (Tups.of se)
 have be:=b1.trans (But.of se)
 refine⟨gr,e,_,rfl,rfl,SqT.of sae.gr,SqT.of zab,_,rfl,?_⟩
 generalize upd H1 e (.tup [])=H2 at pke sae be ⊢
 clear se sa1 pk1 b1 he
 have gl9:gs1.length≤900:=by
  by_cases z:t≤41
  ·have:=p1 z;lia
  ·have:=Togo.len (p2 (by lia));lia
 by_cases g0:gs1=[]
 ·subst g0
  have q0:qs=[]:=List.length_eq_zero_iff.mp ql
  subst q0
  obtain⟨e1,e2⟩:=wv1.done ok rfl
  rw[e1,e2]at sae wv1
  exact iteF (iteF ⟨_,rfl,k sc tr gr ou H2 pke be wv1 sae⟩)
 ·have q1:(!qs.isEmpty)=true:=by
   cases qs with
   | nil=>exact absurd (List.length_eq_zero_iff.mp ql.symm) g0
   | cons a b=>rfl
  rw[q1]
  refine iteT ⟨_,rfl,_,_,rfl,rfl,_,rfl,?_⟩
  have t9:t<390:=by
   by_cases z:t<390
   ·exact z
   ·exact absurd (Togo.none ((p2 (by lia)).mono (by lia))) g0
  rw[decide_eq_true (show (t:Int)<390 by lia)]
  refine iteT ⟨_,fun σ' H' hN=>⟨390-(t+1),by lia,hN⟩,?_⟩
  refine⟨_,rfl,_,rfl,_,rfl,_,rfl,_,rfl,l,sc,tr,gr,ou,qs,ts,gs1,os,t,rfl,pke,sae,g0,gl9,fun g hg=>by have:=(wv1.ok.gk g hg).2;lia,fun d dd H3 nxt da pk3 b3=>?_⟩
  have tp3:=b3.tups pke
  have sa3:=sae.tups tp3
  have na3:=na.tups ((be.tups pk).trans tp3)
  refine⟨r,fr,er,ps,N,sc,tr,gr,ou,qs,ts,gs1,os,d,dd,rfl,ok,na3,sa3,wv1.ok,gl9,da,nxt.ok,fun sc' tr' gr' ou' qs' ts' gs' os' H4 dt s4 sa4=>?_⟩
  obtain⟨wv4,gl4,lf⟩:=wv1.next ok nxt dt
  refine⟨_,rfl,_,_,rfl,rfl,t+1,rfl,sc',tr',gr',ou',qs',ts',gs',os',rfl,pk3.keep s4,be.trans (b3.trans (But.of s4)),sa4,wv4,fun z=>?_,fun z=>?_⟩
  ·have:=p1 (by lia);lia
  ·by_cases y:41≤t
   ·refine lf (by lia) _ ((p2 y).mono ?_)
    have:=Togo.len (p2 y)
    have:0<gs1.length:=List.length_pos_iff.mpr g0
    lia
   ·have t40:t=40:=by lia
    subst t40
    have:=p1 (by lia)
    exact(Togo.first wv4.gr).mono (by lia)
end
abbrev zes:Stmt:=top 62
def zdc:Sp:=fun vs H Q _=>∃ l r fr er ps N q xs ds,vs=[.ref l,.ref r,.ref q]∧PkAt H l∧q≠l∧Nt.Ok N∧NetAt H r fr er ps N∧H q=some (.lst xs)∧Dds H xs ds∧(∀ d∈ds,∃ lane m,d=.put lane m∧lane<N.lanes∧m≠0∧-(10 ^ 29)<m∧m<10 ^ 29)∧ds.length≤9∧N.forks.length≤36∧N.lanes≤8 ∧
 ∀ sc' tr' gr' ou' H',PkAt H' l→But l H H'→SceneAt H' sc' tr' gr' ou' [] (zai N (putC N ds)) [] (zau N (putC N ds))→Q (.ref sc') H'
section
variable {P:Program}{w:World}{K:PySem.W.Frag}{mg:Str→Option Value}{base:Heap}
theorem scWo:FnScope ["_law_left_here","_law_net_here","_law_puts","_law_scene","_law_put","_law_turn"] ["_law_left_here","_law_net_here","_law_puts"] (zad zes):=⟨rfl,rfl,rfl,by decide +kernel,rfl,by decide +kernel,by decide +kernel⟩
theorem zg0 {f fD fN fB fK fO:Addr}{fd dD dN dB dK dO:FuncData}(F:Fun K "_law_woven" "_law_woven" zes f fd) (G:Mgs mg) (UDo:Use P w K mg base "done" ["net","scene","deed"] 5 ze8 fD dD) (UNd:Use P w K mg base "_law_next" ["_law_left_here","_law_scene","_law_turn"] 2 zdg fN dN) (UBe:Use P w K mg base "begun" ["net"] 1 zeq fB dB) (UK:Use P w K mg base "_law_pick" ["_law_left_here","_law_many_here"] 1 zbs fK dK) (UOt:Use P w K mg base "_law_out" ["_law_left_here","_law_net_here","_law_scene"] 6 zgo fO dO):FnOk P w K mg base CX0 7 f fd ["_law_left_here","_law_net_here","_law_puts"] zdc:=by
 refine F.ok scWo (fun vs H Q E h=>?_) (fun cdv A outer s H vs Q E hr h=>?_)
 ·obtain⟨l,r,fr,er,ps,N,q,xs,ds,rfl,_⟩:=h
  rfl
 obtain⟨l,r,fr,er,ps,N,q,xs,ds,rfl,pk,ql,ok,na,hq,dx,dk,d9,f36,l8,k⟩:=h
 have hr1:Room 1 _:=hr.mono (by decide)
 have hr2:Room 2 _:=hr.mono (by decide)
 have hr5:Room 5 _:=hr.mono (by decide)
 have hr6:Room 6 _:=hr.mono (by decide)
 have xl:=dx.len
 refine⟨_,(@pss_cons _ _ _ _ _ (@ps_set _ _ 3 _ _ _ _ scWo.nd rfl (.inl rfl) (@pe_call _ _ _ _ _ _ _ _ _ _ _ _ _ _ _ _ UBe.ok hr1 (by rfl) UBe.m UBe.kp UBe.b .nil pass0 (@pa_cons _ _ _ _ _ (@pv _ 1 _ _ (by rfl) (by first|exact Or.inl rfl|exact Or.inr (.inl rfl)|exact Or.inr (.inr rfl)) (by decide) (by decide)) pa_nil (by rfl)) (by decide) (by rfl) (by rfl)) (by rfl) (by first|exact .inl rfl|exact .inr rfl|assumption)) (@pss_cons _ _ _ _ _ (@ps_for _ _ _ _ _ _ _ _ PassesOwn.never rfl (@pi_list _ _ _ _ (@pv _ 2 _ _ (by rfl) (by first|exact Or.inl rfl|exact Or.inr (.inl rfl)|exact Or.inr (.inr rfl)) (by decide) (by decide))) (@pg_name _ _ 4 _ scWo.nd rfl (.inl rfl) (by first|exact .inl rfl|exact .inr rfl|assumption)) (@pss_cons _ _ _ _ _ (@ps_set _ _ 3 _ _ _ _ scWo.nd rfl (.inl rfl) (@pe_call _ _ _ _ _ _ _ _ _ _ _ _ _ _ _ _ UDo.ok hr5 (by rfl) UDo.m UDo.kp UDo.b .nil pass0 (@pa_cons _ _ _ _ _ (@pv _ 1 _ _ (by rfl) (by first|exact Or.inl rfl|exact Or.inr (.inl rfl)|exact Or.inr (.inr rfl)) (by decide) (by decide)) (@pa_cons _ _ _ _ _ (@pv _ 3 _ _ (by rfl) (by first|exact Or.inl rfl|exact Or.inr (.inl rfl)|exact Or.inr (.inr rfl)) (by decide) (by decide)) (@pa_cons _ _ _ _ _ (@pv _ 4 _ _ (by rfl) (by first|exact Or.inl rfl|exact Or.inr (.inl rfl)|exact Or.inr (.inr rfl)) (by decide) (by decide)) pa_nil (by rfl)) (by rfl)) (by rfl)) (by decide) (by rfl) (by rfl)) (by rfl) (by first|exact .inl rfl|exact .inr rfl|assumption)) (@pss_one _ _ _ (@ps_for _ _ _ _ _ _ _ _ PassesOwn.never rfl (@pi_range1 _ _ _ _ _ _ rfl G.range (@pa_cons _ _ _ _ _ (@pe_call _ _ _ _ _ _ _ _ _ _ _ _ _ _ _ _ UK.ok hr1 (by rfl) UK.m UK.kp UK.b .nil pass0 (@pa_cons _ _ _ _ _ (@pv _ 0 _ _ (by rfl) (by first|exact Or.inl rfl|exact Or.inr (.inl rfl)|exact Or.inr (.inr rfl)) (by decide) (by decide)) (@pa_cons _ _ _ _ _ pe_int pa_nil (by rfl)) (by rfl)) (by decide) (by rfl) (by rfl)) pa_nil (by rfl)) (by rfl)) (@pg_name _ _ 5 _ scWo.nd rfl (.inl rfl) (by first|exact .inl rfl|exact .inr rfl|assumption)) (@pss_one _ _ _ (@ps_if _ _ _ _ _ _ _ _ (@pt_cmpR _ _ _ _ _ _ _ _ (zgX hr.units) (@pe_ix _ _ _ _ _ _ _ ix_tup (@pv _ 3 _ _ (by rfl) (by first|exact Or.inl rfl|exact Or.inr (.inl rfl)|exact Or.inr (.inr rfl)) (by decide) (by decide)) pe_int (fun _ _=>rfl)) (@pe_tup _ _ _ _ _ pa_nil) (nomark _)) (@pss_one _ _ _ (@ps_set _ _ 3 _ _ _ _ scWo.nd rfl (.inl rfl) (@pe_call _ _ _ _ _ _ _ _ _ _ _ _ _ _ _ _ UDo.ok hr5 (by rfl) UDo.m UDo.kp UDo.b .nil pass0 (@pa_cons _ _ _ _ _ (@pv _ 1 _ _ (by rfl) (by first|exact Or.inl rfl|exact Or.inr (.inl rfl)|exact Or.inr (.inr rfl)) (by decide) (by decide)) (@pa_cons _ _ _ _ _ (@pv _ 3 _ _ (by rfl) (by first|exact Or.inl rfl|exact Or.inr (.inl rfl)|exact Or.inr (.inr rfl)) (by decide) (by decide)) (@pa_cons _ _ _ _ _ (@pe_call _ _ _ _ _ _ _ _ _ _ _ _ _ _ _ _ UNd.ok hr2 (by rfl) UNd.m UNd.kp UNd.b .nil pass0 (@pa_cons _ _ _ _ _ (@pv _ 0 _ _ (by rfl) (by first|exact Or.inl rfl|exact Or.inr (.inl rfl)|exact Or.inr (.inr rfl)) (by decide) (by decide)) (@pa_cons _ _ _ _ _ (@pv _ 3 _ _ (by rfl) (by first|exact Or.inl rfl|exact Or.inr (.inl rfl)|exact Or.inr (.inr rfl)) (by decide) (by decide)) (@pa_cons _ _ _ _ _ (@pv _ 5 _ _ (by rfl) (by first|exact Or.inl rfl|exact Or.inr (.inl rfl)|exact Or.inr (.inr rfl)) (by decide) (by decide)) pa_nil (by rfl)) (by rfl)) (by rfl)) (by decide) (by rfl) (by rfl)) pa_nil (by rfl)) (by rfl)) (by rfl)) (by decide) (by rfl) (by rfl)) (by rfl) (by first|exact .inl rfl|exact .inr rfl|assumption))) pss_nil)) (by intro _;rfl)))) (by intro _;rfl)) (@pss_one _ _ _ (@ps_ret _ _ _ _ (@pe_call _ _ _ _ _ _ _ _ _ _ _ _ _ _ _ _ UOt.ok hr6 (by rfl) UOt.m UOt.kp UOt.b .nil pass0 (@pa_cons _ _ _ _ _ (@pv _ 0 _ _ (by rfl) (by first|exact Or.inl rfl|exact Or.inr (.inl rfl)|exact Or.inr (.inr rfl)) (by decide) (by decide)) (@pa_cons _ _ _ _ _ (@pv _ 1 _ _ (by rfl) (by first|exact Or.inl rfl|exact Or.inr (.inl rfl)|exact Or.inr (.inr rfl)) (by decide) (by decide)) (@pa_cons _ _ _ _ _ (@pv _ 3 _ _ (by rfl) (by first|exact Or.inl rfl|exact Or.inr (.inl rfl)|exact Or.inr (.inr rfl)) (by decide) (by decide)) pa_nil (by rfl)) (by rfl)) (by rfl)) (by decide) (by rfl) (by rfl)))))),?_⟩
 refine⟨_,rfl,r,fr,er,ps,N,rfl,ok,na,fun sc tr gr ou H1 s1 sa1=>?_⟩
 refine⟨_,rfl,q,rfl,⟨_,SqL.of (s1 _ _ hq)⟩,?_⟩
 refine zfq (K:=K) (a:=q) (xs:=xs) (fun i σ H2=>∃ w4 w5 sc tr gr ou qs ts gs os,σ=[some (.ref l),some (.ref r),some (.ref q),some (.ref sc),w4,w5]∧PkAt H2 l∧But l H H2∧SceneAt H2 sc tr gr ou qs ts gs os∧Wv N (putC N (ds.take i)) ts gs os∧gs.length≤3*i)
  ⟨_,_,sc,tr,gr,ou,_,_,_,_,rfl,pk.keep s1,But.of s1,sa1,Wv.zero N,Nat.zero_le _⟩ (fun i σ H2 _ ⟨_,_,_,_,_,_,_,_,_,_,_,_,b,_⟩=>SqL.of (b _ _ hq ql)) ?_ ?_
 ·rintro i x σ H2 hx ⟨w4,w5,sc,tr,gr,ou,qs,ts,gs,os,rfl,pk2,b2,sa2,wv2,gl2⟩
  have tp2:=b2.tups pk
  obtain⟨t,dd,rfl,ed,da⟩:=(dx.tups tp2).get hx
  obtain⟨lane,m,rfl,ll,m0,m1,m2⟩:=dk dd (List.mem_of_getElem? ed)
  have il:i<9:=by have:=(List.getElem?_eq_some_iff.mp ed).1;lia
  have dko:DeedOk N gs (.put lane m):=⟨ll,m0,m1,m2⟩
  refine⟨_,rfl,_,rfl,_,rfl,r,fr,er,ps,N,sc,tr,gr,ou,qs,ts,gs,os,t,.put lane m,rfl,ok,na.tups tp2,sa2,wv2.ok,by lia,da,dko,fun sc3 tr3 gr3 ou3 qs3 ts3 gs3 os3 H3 dt3 s3 sa3=>?_⟩
  obtain⟨wv3,gl3⟩:=wv2.put ok dko dt3
  have ec:(putC N (ds.take i)).set lane ((putC N (ds.take i)).getD lane 0+m)=putC N (ds.take (i+1)):=by rw[zdT N ed];rfl
  rw[ec]at wv3
  refine⟨_,rfl,l,_,rfl,by decide,by decide,pk2.keep s3,fun v H4 hv pk4 b4=>⟨_,rfl,by lia,by lia,?_⟩⟩
  refine zaT (lo:=0) (fun j σ H5=>∃ w4 w5 sc tr gr ou qs ts gs os,σ=[some (.ref l),some (.ref r),some (.ref q),some (.ref sc),w4,w5]∧PkAt H5 l∧But l H H5∧SceneAt H5 sc tr gr ou qs ts gs os∧Wv N (putC N (ds.take (i+1))) ts gs os∧gs.length≤3*i+1+j)
   ⟨_,_,sc3,tr3,gr3,ou3,qs3,ts3,gs3,os3,rfl,pk4,b2.trans ((But.of s3).trans b4),sa3.tups (b4.tups (pk2.keep s3)),wv3,by lia⟩ ?_ ?_
  ·rintro j σ H5 hj ⟨w4,w5,sc,tr,gr,ou,qs,ts,gs,os,rfl,pk5,b5,sa5,wv5,gl5⟩
   have jv:j<3:=by lia
   have ql5:=sa5.grs.len
   refine⟨_,rfl,sc,_,_,_,rfl,rfl,SqT.of sa5.sc,rfl,Nat.zero_le _,fun e he=>?_⟩
   have se:=zaa he (.tup [])
   have pke:=pk5.keep se
   have sae:=sa5.tups (Tups.of se)
   have be:=b5.trans (But.of se)
   refine⟨gr,e,_,rfl,rfl,SqT.of sae.gr,SqT.of zab,_,rfl,?_⟩
   generalize upd H5 e (.tup [])=H6 at pke sae be ⊢
   clear se sa5 pk5 b5 he
   by_cases g0:gs=[]
   ·subst g0
    have q0:qs=[]:=List.length_eq_zero_iff.mp ql5
    subst q0
    exact iteF ⟨_,_,sc,tr,gr,ou,[],ts,[],os,rfl,pke,be,sae,wv5,by show 0≤_;lia⟩
   ·have q1:(!qs.isEmpty)=true:=by
     cases qs with
     | nil=>exact absurd (List.length_eq_zero_iff.mp ql5.symm) g0
     | cons a b=>rfl
    rw[q1]
    refine iteT ⟨_,rfl,_,rfl,_,rfl,_,rfl,_,rfl,l,sc,tr,gr,ou,qs,ts,gs,os,j,congrArg (fun z=>[V.ref l,V.ref sc,V.int z]) (Int.zero_add _),pke,sae,g0,by lia,fun g hg=>by have:=(wv5.ok.gk g hg).2;lia,fun d dd H7 nxt da pk7 b7=>?_⟩
    have tp7:=b7.tups pke
    refine⟨r,fr,er,ps,N,sc,tr,gr,ou,qs,ts,gs,os,d,dd,rfl,ok,na.tups ((be.tups pk).trans tp7),sae.tups tp7,wv5.ok,by lia,da,nxt.ok,fun sc' tr' gr' ou' qs' ts' gs' os' H8 dt s8 sa8=>?_⟩
    obtain⟨wv8,gl8,_⟩:=wv5.next ok nxt dt
    exact⟨_,_,sc',tr',gr',ou',qs',ts',gs',os',rfl,pk7.keep s8,be.trans (b7.trans (But.of s8)),sa8,wv8,by lia⟩
  ·rintro σ H5 ⟨w4,w5,sc,tr,gr,ou,qs,ts,gs,os,rfl,pk5,b5,sa5,wv5,gl5⟩
   exact⟨_,_,sc,tr,gr,ou,qs,ts,gs,os,rfl,pk5,b5,sa5,wv5,by lia⟩
 ·rintro σ H2 ⟨w4,w5,sc,tr,gr,ou,qs,ts,gs,os,rfl,pk2,b2,sa2,wv2,gl2⟩
  rw[xl,List.take_length]at wv2
  exact⟨_,rfl,_,rfl,_,rfl,l,r,fr,er,ps,N,sc,tr,gr,ou,qs,ts,gs,os,_,rfl,pk2,ok,na.tups (b2.tups pk),sa2,wv2,by lia,fun sc' tr' gr' ou' H' p' b' _ s'=>k sc' tr' gr' ou' H' p' (b2.trans b') s'⟩
end
abbrev zgG:Stmt:=top 59
def zen:Sp:=fun vs H Q _=>∃ (l:Addr),vs=[.ref l]∧PkAt H l∧∀ (m:Int) H',m≠0→-(10 ^ 29)<m→m<10 ^ 29→PkAt H' l→But l H H'→Q (.int m) H'
theorem zh5 (k:Nat):PySem.NumText.digitsVal (49::List.replicate k 48)=10 ^ k:=by
 unfold PySem.NumText.digitsVal
 have go:∀ (k acc:Nat),(List.replicate k 48).foldl (fun acc c=>acc*10+(c-48)) acc=acc*10 ^ k:=fun k=>by
  induction k with
  | zero=>intro acc;simp
  | succ k ih=>intro acc;rw[List.replicate_succ,List.foldl_cons,ih,Nat.pow_succ];simp[Nat.mul_assoc,Nat.mul_comm]
 rw[List.foldl_cons,go];simp
section
variable {P:Program}{w:World}{K:PySem.W.Frag}{mg:Str→Option Value}{base:Heap}
theorem scMa:FnScope ["_law_left_here","_law_far","_law_many_here"] ["_law_left_here"] (zad zgG):=⟨rfl,rfl,rfl,by decide +kernel,rfl,by decide +kernel,by decide +kernel⟩
theorem zii {f fO fK:Addr}{fd dO dK:FuncData}(F:Fun K "_law_many" "_law_many" zgG f fd) (G:Mgs mg) (UK:Use P w K mg base "_law_pick" ["_law_left_here","_law_many_here"] 1 zbs fK dK) (UO:Use P w K mg base "_law_of" ["_law_left_here","_law_some"] 2 spOf fO dO):FnOk P w K mg base CX0 3 f fd ["_law_left_here"] zen:=by
 refine F.ok scMa (fun vs H Q E h=>?_) (fun cdv A outer s H vs Q E hr h=>?_)
 ·obtain⟨l,rfl,_⟩:=h
  rfl
 obtain⟨l,rfl,S,k⟩:=h
 have hr1:Room 1 _:=hr.mono (by decide)
 refine⟨_,(@pss_cons _ _ _ _ _ (@ps_set _ _ 1 _ _ _ _ scMa.nd rfl (.inl rfl) (@pe_op _ _ _ _ _ _ _ _ op_add (@pe_callTy _ _ _ _ _ _ _ _ _ zdD (by rfl) G.int (by rfl) (@pa_cons _ _ _ _ _ (@pe_op _ _ _ _ _ _ _ _ zcX pe_str (@pe_op _ _ _ _ _ _ _ _ zgW pe_str (@pe_call _ _ _ _ _ _ _ _ _ _ _ _ _ _ _ _ UK.ok hr1 (by rfl) UK.m UK.kp UK.b .nil pass0 (@pa_cons _ _ _ _ _ (@pv _ 0 _ _ (by rfl) (by first|exact Or.inl rfl|exact Or.inr (.inl rfl)|exact Or.inr (.inr rfl)) (by decide) (by decide)) (@pa_cons _ _ _ _ _ pe_int pa_nil (by rfl)) (by rfl)) (by decide) (by rfl) (by rfl)))) pa_nil (by rfl)) (by decide) (by decide) (by rfl) (by rfl)) (@pe_call _ _ _ _ _ _ _ _ _ _ _ _ _ _ _ _ UK.ok hr1 (by rfl) UK.m UK.kp UK.b .nil pass0 (@pa_cons _ _ _ _ _ (@pv _ 0 _ _ (by rfl) (by first|exact Or.inl rfl|exact Or.inr (.inl rfl)|exact Or.inr (.inr rfl)) (by decide) (by decide)) (@pa_cons _ _ _ _ _ pe_int pa_nil (by rfl)) (by rfl)) (by decide) (by rfl) (by rfl))) (by rfl) (by first|exact .inl rfl|exact .inr rfl|assumption)) (@pss_cons _ _ _ _ _ (@ps_set _ _ 2 _ _ _ _ scMa.nd rfl (.inl rfl) (@pe_call _ _ _ _ _ _ _ _ _ _ _ _ _ _ _ _ UO.ok hr (by rfl) UO.m UO.kp UO.b .nil pass0 (@pa_cons _ _ _ _ _ (@pv _ 0 _ _ (by rfl) (by first|exact Or.inl rfl|exact Or.inr (.inl rfl)|exact Or.inr (.inr rfl)) (by decide) (by decide)) (@pa_cons _ _ _ _ _ (@zaz _ _ _ _ (@pa_cons _ _ _ _ _ pe_int (@pa_cons _ _ _ _ _ pe_int (@pa_cons _ _ _ _ _ pe_int (@pa_cons _ _ _ _ _ pe_int (@pa_cons _ _ _ _ _ (@pe_op _ _ _ _ _ _ _ _ op_add pe_int (@pe_call _ _ _ _ _ _ _ _ _ _ _ _ _ _ _ _ UK.ok hr1 (by rfl) UK.m UK.kp UK.b .nil pass0 (@pa_cons _ _ _ _ _ (@pv _ 0 _ _ (by rfl) (by first|exact Or.inl rfl|exact Or.inr (.inl rfl)|exact Or.inr (.inr rfl)) (by decide) (by decide)) (@pa_cons _ _ _ _ _ pe_int pa_nil (by rfl)) (by rfl)) (by decide) (by rfl) (by rfl))) (@pa_cons _ _ _ _ _ (@pe_op _ _ _ _ _ _ _ _ zkB pe_int (@pe_call _ _ _ _ _ _ _ _ _ _ _ _ _ _ _ _ UK.ok hr1 (by rfl) UK.m UK.kp UK.b .nil pass0 (@pa_cons _ _ _ _ _ (@pv _ 0 _ _ (by rfl) (by first|exact Or.inl rfl|exact Or.inr (.inl rfl)|exact Or.inr (.inr rfl)) (by decide) (by decide)) (@pa_cons _ _ _ _ _ pe_int pa_nil (by rfl)) (by rfl)) (by decide) (by rfl) (by rfl))) (@pa_cons _ _ _ _ _ (@pv _ 1 _ _ (by rfl) (by first|exact Or.inl rfl|exact Or.inr (.inl rfl)|exact Or.inr (.inr rfl)) (by decide) (by decide)) pa_nil (by rfl)) (by rfl)) (by rfl)) (by rfl)) (by rfl)) (by rfl)) (by rfl))) pa_nil (by rfl)) (by rfl)) (by decide) (by rfl) (by rfl)) (by rfl) (by first|exact .inl rfl|exact .inr rfl|assumption)) (@pss_one _ _ _ (@ps_ret _ _ _ _ (@pe_op _ _ _ _ _ _ _ _ op_mul (@pv _ 2 _ _ (by rfl) (by first|exact Or.inl rfl|exact Or.inr (.inl rfl)|exact Or.inr (.inr rfl)) (by decide) (by decide)) (@pe_call _ _ _ _ _ _ _ _ _ _ _ _ _ _ _ _ UO.ok hr (by rfl) UO.m UO.kp UO.b .nil pass0 (@pa_cons _ _ _ _ _ (@pv _ 0 _ _ (by rfl) (by first|exact Or.inl rfl|exact Or.inr (.inl rfl)|exact Or.inr (.inr rfl)) (by decide) (by decide)) (@pa_cons _ _ _ _ _ (@zaz _ _ _ _ (@pa_cons _ _ _ _ _ pe_int (@pa_cons _ _ _ _ _ pe_int (@pa_cons _ _ _ _ _ (@zgV _ _ _ _ _ _ zdK pe_int) pa_nil (by rfl)) (by rfl)) (by rfl))) pa_nil (by rfl)) (by rfl)) (by decide) (by rfl) (by rfl))))))),?_⟩
 refine⟨_,rfl,l,29,rfl,by decide,by decide,S,fun z H1 hz S1 B1=>?_⟩
 refine⟨48,_,rfl,rfl,by lia,by lia,fun zs hzs=>?_⟩
 obtain⟨d1,d2,d3⟩:=zhj hzs
 have e:(("1":Str)++zs).cps.toList=49::List.replicate ((z:Nat):Int).toNat 48:=by
  show ((("1":Str).cps++zs.cps).toList)=_
  rw[Array.toList_append,hzs];rfl
 have zl:zs.length=((z:Nat):Int).toNat:=by
  have:=congrArg List.length hzs
  rw[Array.length_toList,List.length_replicate]at this
  exact this
 refine⟨_,_,rfl,rfl,by rw[zl];exact Nat.le_trans (show 1+((z:Nat):Int).toNat≤100 by lia) (by decide),_,rfl,d1,by lia,by lia,?_⟩
 have dv:PySem.NumText.digitsVal (("1":Str)++zs).cps.toList≤10 ^ 28:=by
  rw[e,zh5];exact Nat.pow_le_pow_right (by decide) (by lia)
 generalize PySem.NumText.digitsVal (("1":Str)++zs).cps.toList=far at dv d3
 refine⟨_,rfl,l,5,rfl,by decide,by decide,S1,fun y H2 hy S2 B2=>⟨_,_,rfl,rfl,?_⟩⟩
 refine⟨_,rfl,_,rfl,l,9,rfl,by decide,by decide,S2,fun a H3 ha S3 B3=>⟨_,_,rfl,rfl,?_⟩⟩
 refine⟨_,rfl,l,20,rfl,by decide,by decide,S3,fun b H4 hb S4 B4=>⟨_,_,rfl,rfl,⟨by lia,by lia,by decide⟩,?_⟩⟩
 refine⟨_,rfl,(by show 7≤sizeLine;decide),fun q hq=>?_⟩
 have pb:(1:Int)*2 ^ ((b:Nat):Int).toNat=((2 ^ b:Nat):Int):=by
  rw[Int.toNat_natCast,Int.one_mul];exact(Int.natCast_pow 2 b).symm
 have pbb:2 ^ b≤2 ^ 20:=Nat.pow_le_pow_right (by decide) (by lia)
 have pb0:0<2 ^ b:=Nat.pow_pos (by decide)
 have s5:=zaa hq (.lst [.int 1,.int 1,.int 2,.int 3,.int (1+(a:Int)),.int (1*2 ^ ((b:Nat):Int).toNat),.int ((far:Int)+y)])
 refine⟨l,q,_,rfl,S4.keep s5,(S4.ne hq).symm,zab,by show 0<7;decide,by show 7≤100000;decide,fun i x H6 hx S6 B6=>?_⟩
 obtain⟨m,rfl,m0,m1⟩:∃ m:Int,x=.int m∧0<m∧m<10 ^ 29:=by
  have il:i<7:=(List.getElem?_eq_some_iff.mp hx).1
  rcases i with _|_|_|_|_|_|_|i
  ·obtain rfl:=Option.some.inj hx;exact⟨_,rfl,by decide,by decide⟩
  ·obtain rfl:=Option.some.inj hx;exact⟨_,rfl,by decide,by decide⟩
  ·obtain rfl:=Option.some.inj hx;exact⟨_,rfl,by decide,by decide⟩
  ·obtain rfl:=Option.some.inj hx;exact⟨_,rfl,by decide,by decide⟩
  ·obtain rfl:=Option.some.inj hx;exact⟨_,rfl,by lia,by lia⟩
  ·obtain rfl:=Option.some.inj hx;exact⟨_,rfl,by rw[pb];lia,by rw[pb];lia⟩
  ·obtain rfl:=Option.some.inj hx;exact⟨_,rfl,by lia,by lia⟩
  ·lia
 refine⟨_,rfl,_,rfl,_,rfl,(by show 3≤sizeLine;decide),fun p hp=>?_⟩
 have s7:=zaa hp (.lst [.int 1,.int 1,.int (-1)])
 refine⟨l,p,_,rfl,S6.keep s7,(S6.ne hp).symm,zab,by show 0<3;decide,by show 3≤100000;decide,fun j u H8 hu S8 B8=>?_⟩
 have BB:But l H H8:=(((((((B1.trans B2).trans B3).trans B4).trans (But.of s5)).trans B6).trans (But.of s7)).trans B8)
 have jl:j<3:=(List.getElem?_eq_some_iff.mp hu).1
 rcases j with _|_|_|j
 ·obtain rfl:=Option.some.inj hu
  exact⟨_,_,rfl,rfl,.inr ⟨by decide,by decide⟩,k _ H8 (by lia) (by lia) (by lia) S8 BB⟩
 ·obtain rfl:=Option.some.inj hu
  exact⟨_,_,rfl,rfl,.inr ⟨by decide,by decide⟩,k _ H8 (by lia) (by lia) (by lia) S8 BB⟩
 ·obtain rfl:=Option.some.inj hu
  exact⟨_,_,rfl,rfl,.inr ⟨by decide,by decide⟩,k _ H8 (by lia) (by lia) (by lia) S8 BB⟩
 ·lia
end
abbrev zew:Stmt:=top 28
abbrev zjq:Stmt:=top 29
abbrev sRun:Stmt:=top 30
theorem zkR (h a b:Nat):inV (V.int h) [V.int a,V.int b]=decide (h=a∨h=b):=by
 rw[Bool.eq_iff_iff,decide_eq_true_iff]
 simp[inV,eqV]
 lia
section
variable {P:Program}{w:World}{K:PySem.W.Frag}{mg:Str→Option Value}{base:Heap}
theorem scR:FnScope ["net","turns","lane","back","behind","here","number","fork","turn"] ["net","turns","lane","back"] (zad sRun):=⟨rfl,rfl,rfl,by decide +kernel,rfl,by decide +kernel,by decide +kernel⟩
theorem zkD {f fD:Addr}{fd dD:FuncData}(F:Fun K "run_through" "run_through" sRun f fd) (G:Mgs mg) (UD:Use P w K mg base "end_of" ["net","lane"] 1 zhT fD dD):FnOk P w K mg base CX0 2 f fd ["net","turns","lane","back"] zhR:=by
 refine F.ok scR (fun vs H Q E h=>?_) (fun cdv A outer s H vs Q E hr h=>?_)
 ·obtain⟨us,back,rfl,r,fr,er,ps,N,tr,ts,lane,rfl,_⟩:=h
  rfl
 obtain⟨us,back,rfl,r,fr,er,ps,N,tr,ts,lane,rfl,ok,na,htr,tl,bits,hl,k⟩:=h
 refine⟨_,(@pss_cons _ _ _ _ _ (@ps_set _ _ 4 _ _ _ _ scR.nd rfl (.inl rfl) (@pe_callTy _ _ _ _ _ _ _ _ _ zbk (by rfl) G.list (by rfl) (@pa_cons _ _ _ _ _ (@pv _ 1 _ _ (by rfl) (by first|exact Or.inl rfl|exact Or.inr (.inl rfl)|exact Or.inr (.inr rfl)) (by decide) (by decide)) pa_nil (by rfl)) (by decide) (by decide) (by rfl) (by rfl)) (by rfl) (by first|exact .inl rfl|exact .inr rfl|assumption)) (@pss_cons _ _ _ _ _ (@ps_set _ _ 5 _ _ _ _ scR.nd rfl (.inl rfl) (@pv _ 2 _ _ (by rfl) (by first|exact Or.inl rfl|exact Or.inr (.inl rfl)|exact Or.inr (.inr rfl)) (by decide) (by decide)) (by rfl) (by first|exact .inl rfl|exact .inr rfl|assumption)) (@pss_cons _ _ _ _ _ (@ps_for _ _ _ _ _ _ _ _ PassesOwn.never rfl (@zgU _ _ _ _ _ _ _ _ false rfl G.enum (@pa_cons _ _ _ _ _ (@pe_ix _ _ _ _ _ _ _ ix_tup (@pv _ 0 _ _ (by rfl) (by first|exact Or.inl rfl|exact Or.inr (.inl rfl)|exact Or.inr (.inr rfl)) (by decide) (by decide)) pe_int (fun _ _=>rfl)) pa_nil (by rfl)) (by rfl)) (@pg_tup _ _ _ _ _ _ rfl (@pgs_cons _ _ _ _ _ (@pg_name _ _ 6 _ scR.nd rfl (.inl rfl) (by first|exact .inl rfl|exact .inr rfl|assumption)) (@pgs_cons _ _ _ _ _ (@pg_name _ _ 7 _ scR.nd rfl (.inl rfl) (by first|exact .inl rfl|exact .inr rfl|assumption)) pgs_nil (by rfl)) (by rfl)) (by rfl) (by rfl)) (@pss_one _ _ _ (@ps_if _ _ _ _ _ _ _ _ (@pt_cmpR _ _ _ _ _ _ _ _ zgZ (@pv _ 5 _ _ (by rfl) (by first|exact Or.inl rfl|exact Or.inr (.inl rfl)|exact Or.inr (.inr rfl)) (by decide) (by decide)) (@pv _ 7 _ _ (by rfl) (by first|exact Or.inl rfl|exact Or.inr (.inl rfl)|exact Or.inr (.inr rfl)) (by decide) (by decide)) (by rfl)) (@pss_cons _ _ _ _ _ (@ps_set _ _ 8 _ _ _ _ scR.nd rfl (.inl rfl) (@pe_ix _ _ _ _ _ _ _ ix_list (@pv _ 4 _ _ (by rfl) (by first|exact Or.inl rfl|exact Or.inr (.inl rfl)|exact Or.inr (.inr rfl)) (by decide) (by decide)) (@pv _ 6 _ _ (by rfl) (by first|exact Or.inl rfl|exact Or.inr (.inl rfl)|exact Or.inr (.inr rfl)) (by decide) (by decide)) (fun _ _=>rfl)) (by rfl) (by first|exact .inl rfl|exact .inr rfl|assumption)) (@pss_cons _ _ _ _ _ (@ps_asg _ _ _ _ _ _ (@pe_op _ _ _ _ _ _ _ _ op_sub pe_int (@pv _ 8 _ _ (by rfl) (by first|exact Or.inl rfl|exact Or.inr (.inl rfl)|exact Or.inr (.inr rfl)) (by decide) (by decide))) (@pg_sub _ _ _ _ _ _ _ (@pv _ 4 _ _ (by rfl) (by first|exact Or.inl rfl|exact Or.inr (.inl rfl)|exact Or.inr (.inr rfl)) (by decide) (by decide)) (@pv _ 6 _ _ (by rfl) (by first|exact Or.inl rfl|exact Or.inr (.inl rfl)|exact Or.inr (.inr rfl)) (by decide) (by decide)) set_list (by intro _;rfl)) (by rfl) (by rfl) (by rfl)) (@pss_one _ _ _ (@ps_set _ _ 5 _ _ _ _ scR.nd rfl (.inl rfl) (@pe_ix _ _ _ _ _ _ _ ix_tup (@pv _ 7 _ _ (by rfl) (by first|exact Or.inl rfl|exact Or.inr (.inl rfl)|exact Or.inr (.inr rfl)) (by decide) (by decide)) (@pe_ifExp _ _ _ _ _ _ _ _ (@pt_val _ _ _ (@pv _ 3 _ _ (by rfl) (by first|exact Or.inl rfl|exact Or.inr (.inl rfl)|exact Or.inr (.inr rfl)) (by decide) (by decide)) (by intro _;rfl)) (@pe_op _ _ _ _ _ _ _ _ op_sub pe_int (@pv _ 8 _ _ (by rfl) (by first|exact Or.inl rfl|exact Or.inr (.inl rfl)|exact Or.inr (.inr rfl)) (by decide) (by decide))) (@pv _ 8 _ _ (by rfl) (by first|exact Or.inl rfl|exact Or.inr (.inl rfl)|exact Or.inr (.inr rfl)) (by decide) (by decide))) (fun _ _=>rfl)) (by rfl) (by first|exact .inl rfl|exact .inr rfl|assumption))))) pss_nil)) (by intro _;rfl)) (@pss_one _ _ _ (@ps_ret _ _ _ _ (@pe_tup _ _ _ _ _ (@pa_cons _ _ _ _ _ (@pe_callTy _ _ _ _ _ _ _ _ _ call_tuple_of (by rfl) G.tuple (by rfl) (@pa_cons _ _ _ _ _ (@pv _ 4 _ _ (by rfl) (by first|exact Or.inl rfl|exact Or.inr (.inl rfl)|exact Or.inr (.inr rfl)) (by decide) (by decide)) pa_nil (by rfl)) (by decide) (by decide) (by rfl) (by rfl)) (@pa_cons _ _ _ _ _ (@pe_call _ _ _ _ _ _ _ _ _ _ _ _ _ _ _ _ UD.ok hr (by rfl) UD.m UD.kp UD.b .nil pass0 (@pa_cons _ _ _ _ _ (@pv _ 0 _ _ (by rfl) (by first|exact Or.inl rfl|exact Or.inr (.inl rfl)|exact Or.inr (.inr rfl)) (by decide) (by decide)) (@pa_cons _ _ _ _ _ (@pv _ 5 _ _ (by rfl) (by first|exact Or.inl rfl|exact Or.inr (.inl rfl)|exact Or.inr (.inr rfl)) (by decide) (by decide)) pa_nil (by rfl)) (by rfl)) (by decide) (by rfl) (by rfl)) pa_nil (by rfl)) (by rfl)))))))),?_⟩
 refine⟨_,rfl,tr,_,rfl,.inr (SqT.of htr),fun lb hlb=>⟨_,rfl,?_⟩⟩
 have s1:=zaa hlb (.lst (ts.map V.int))
 refine⟨_,rfl,r,_,_,_,rfl,rfl,SqT.of (s1 _ _ na.net),rfl,fr,ps,rfl,SqT.of (s1 _ _ na.forks),?_⟩
 refine zfr (K:=K) (b:=false) (a:=fr) (xs:=ps) (fun i σ H2=>(∃ v6 v7 v8,σ=[some (.ref r),some (.ref tr),some (.int lane),some (.bl back),some (.ref lb),some (.int (zaf back N.forks ts lane i).2),v6,v7,v8])∧Same H H2∧H2 lb=some (.lst ((zaf back N.forks ts lane i).1.map V.int)))
  ⟨⟨_,_,_,rfl⟩,s1,zab⟩ (fun i σ H2 _ q=>SqT.of (q.2.1 _ _ na.forks)) ?_ ?_
 ·rintro i x σ H2 T hx hT ⟨⟨v6,v7,v8,rfl⟩,s2,h2⟩
  obtain⟨a,g,rfl,eg,ha⟩:=(na.prs.tups (Tups.of s2)).get hx
  have gi:i<N.forks.length:=(List.getElem?_eq_some_iff.mp eg).1
  have gd:N.forks.getD i (0,0)=g:=by rw[List.getD_eq_getElem?_getD,eg];rfl
  have rs:zaf back N.forks ts lane (i+1)=zaj back (zaf back N.forks ts lane i) i g:=by show zaj _ _ _ _=_;rw[gd]
  have rl:=zaw (back:=back) (fs:=N.forks) (ts:=ts) (lane:=lane) i
  have rb:=zbo (back:=back) (fs:=N.forks) (lane:=lane) bits i
  generalize zaf back N.forks ts lane i=st at *
  have sT:=zaa hT (.tup [.int i,.ref a])
  have lT:lb≠T:=zac h2 hT
  refine⟨T,_,rfl,SqT.of zab,rfl,_,_,rfl,_,_,rfl,rfl,?_⟩
  refine⟨_,rfl,_,rfl,a,_,rfl,.inr (SqT.of (sT _ _ ha)),rfl,rfl,_,rfl,?_⟩
  show if (if false=true then !inV (V.int (st.2:Nat)) [V.int (g.1:Nat),V.int (g.2:Nat)] else inV (V.int (st.2:Nat)) [V.int (g.1:Nat),V.int (g.2:Nat)])=true then _ else _
  rw[if_neg Bool.false_ne_true,zkR]
  by_cases on:st.2=g.1∨st.2=g.2
  ·rw[decide_eq_true on]
   refine iteT ?_
   have rsn:zaj back st i g=(st.1.set i (1-st.1.getD i 0),if (if back then 1-st.1.getD i 0 else st.1.getD i 0)=0 then g.1 else g.2):=by unfold zaj;rw[if_pos on]
   have il:i<st.1.length:=by lia
   have tb:=rb _ (L2.zck il)
   have hb:=sT _ _ h2
   refine⟨_,rfl,_,rfl,lb,_,_,_,rfl,rfl,SqL.of hb,zbw il,?_⟩
   refine⟨_,rfl,_,_,rfl,rfl,_,rfl,_,rfl,lb,_,_,i,rfl,rfl,hb,zdv (by rw[List.length_map];exact il),?_⟩
   have ha3:upd (upd H2 T (.tup [.int i,.ref a])) lb (.lst ((st.1.map V.int).set i (.int (1-st.1.getD i 0)))) a=some (.tup [.int g.1,.int g.2]):=by
    rw[zae (by rintro rfl;rw[h2]at ha;cases ha)];exact sT _ _ ha
   have fin:∀ nx:Nat,nx=(zaj back st i g).2→(∃ v6 v7 v8,([some (.ref r),some (.ref tr),some (.int lane),some (.bl back),some (.ref lb),some (.int nx),some (.int i),some (.ref a),some (.int (st.1.getD i 0))]:List (Option V))=[some (.ref r),some (.ref tr),some (.int lane),some (.bl back),some (.ref lb),some (.int (zaf back N.forks ts lane (i+1)).2),v6,v7,v8]) ∧
     Same H (upd (upd H2 T (.tup [.int i,.ref a])) lb (.lst ((st.1.map V.int).set i (.int (1-st.1.getD i 0)))))∧upd (upd H2 T (.tup [.int i,.ref a])) lb (.lst ((st.1.map V.int).set i (.int (1-st.1.getD i 0)))) lb=some (.lst ((zaf back N.forks ts lane (i+1)).1.map V.int)):=fun nx en=>by
    refine⟨⟨_,_,_,by rw[rs,en]⟩,fun b o e=>?_,?_⟩
    ·rw[zae (zac e hlb)];exact sT _ _ (s2 b o e)
    ·rw[zab,rs,rsn,zbn]
   cases back with
   | false =>
    rcases tb with z|z
    ·exact⟨_,rfl,_,rfl,_,rfl,iteF ⟨_,rfl,a,_,_,_,rfl,rfl,SqT.of ha3,by rw[z];exact zaB (j:=0) rfl,fin g.1 (by rw[rsn,z];rfl)⟩⟩
    ·exact⟨_,rfl,_,rfl,_,rfl,iteF ⟨_,rfl,a,_,_,_,rfl,rfl,SqT.of ha3,by rw[z];exact zaB (j:=1) rfl,fin g.2 (by rw[rsn,z];rfl)⟩⟩
   | true =>
    rcases tb with z|z
    ·exact⟨_,rfl,_,rfl,_,rfl,iteT ⟨_,rfl,_,_,rfl,rfl,a,_,_,_,rfl,rfl,SqT.of ha3,by rw[z];exact zaB (j:=1) rfl,fin g.2 (by rw[rsn,z];rfl)⟩⟩
    ·exact⟨_,rfl,_,rfl,_,rfl,iteT ⟨_,rfl,_,_,rfl,rfl,a,_,_,_,rfl,rfl,SqT.of ha3,by rw[z];exact zaB (j:=0) rfl,fin g.1 (by rw[rsn,z];rfl)⟩⟩
  ·rw[decide_eq_false on]
   have rsn:zaj back st i g=st:=by unfold zaj;rw[if_neg on]
   exact iteF ⟨⟨_,_,_,by rw[rs,rsn];rfl⟩,s2.trans sT,by rw[rs,rsn];exact sT _ _ h2⟩
 ·rintro σ H2 ⟨⟨v6,v7,v8,rfl⟩,s2,h2⟩
  have pl:=na.prs.len
  rw[pl]at h2
  have hh:=zcT (back:=back) (ts:=ts) ok.fk hl N.forks.length (Nat.le_refl _)
  refine⟨_,rfl,lb,_,rfl,.inl ⟨SqL.of h2,fun t ht=>?_⟩⟩
  have s3:=zaa ht (.tup ((zaf back N.forks ts lane N.forks.length).1.map V.int))
  refine⟨_,rfl,_,rfl,r,fr,er,ps,N,_,by rw[pl];rfl,ok,na.tups (Tups.of (s2.trans s3)),hh,(by show 2≤sizeLine;decide),fun p hp=>?_⟩
  exact k p t _ ((s2.trans s3).trans (zaa hp _)) zab (zaa hp _ _ _ zab)
theorem scP:FnScope ["net","turns","lane"] ["net","turns","lane"] (zad zew):=⟨rfl,rfl,rfl,by decide +kernel,rfl,by decide +kernel,by decide +kernel⟩
theorem zg4 {f fR:Addr}{fd dR:FuncData}(F:Fun K "passed" "passed" zew f fd) (UR:Use P w K mg base "run_through" ["net","turns","lane","back"] 2 zhR fR dR):FnOk P w K mg base CX0 3 f fd ["net","turns","lane"] (zb6 false):=by
 refine F.ok scP (fun vs H Q E h=>?_) (fun cdv A outer s H vs Q E hr h=>?_)
 ·obtain⟨r,fr,er,ps,N,tr,ts,lane,rfl,_⟩:=h
  rfl
 obtain⟨r,fr,er,ps,N,tr,ts,lane,rfl,q⟩:=h
 refine⟨_,(@pss_one _ _ _ (@ps_ret _ _ _ _ (@pe_call _ _ _ _ _ _ _ _ _ _ _ _ _ _ _ _ UR.ok hr (by rfl) UR.m UR.kp UR.b .nil pass0 (@pa_cons _ _ _ _ _ (@pv _ 0 _ _ (by rfl) (by first|exact Or.inl rfl|exact Or.inr (.inl rfl)|exact Or.inr (.inr rfl)) (by decide) (by decide)) (@pa_cons _ _ _ _ _ (@pv _ 1 _ _ (by rfl) (by first|exact Or.inl rfl|exact Or.inr (.inl rfl)|exact Or.inr (.inr rfl)) (by decide) (by decide)) (@pa_cons _ _ _ _ _ (@pv _ 2 _ _ (by rfl) (by first|exact Or.inl rfl|exact Or.inr (.inl rfl)|exact Or.inr (.inr rfl)) (by decide) (by decide)) (@pa_cons _ _ _ _ _ pe_bl pa_nil (by rfl)) (by rfl)) (by rfl)) (by rfl)) (by decide) (by rfl) (by rfl)))),?_⟩
 exact⟨_,rfl,_,rfl,_,rfl,[.ref r,.ref tr,.int lane],false,rfl,r,fr,er,ps,N,tr,ts,lane,rfl,q⟩
theorem scQ:FnScope ["net","turns","lane"] ["net","turns","lane"] (zad zjq):=⟨rfl,rfl,rfl,by decide +kernel,rfl,by decide +kernel,by decide +kernel⟩
theorem zjM {f fR:Addr}{fd dR:FuncData}(F:Fun K "passed_back" "passed_back" zjq f fd) (UR:Use P w K mg base "run_through" ["net","turns","lane","back"] 2 zhR fR dR):FnOk P w K mg base CX0 3 f fd ["net","turns","lane"] (zb6 true):=by
 refine F.ok scQ (fun vs H Q E h=>?_) (fun cdv A outer s H vs Q E hr h=>?_)
 ·obtain⟨r,fr,er,ps,N,tr,ts,lane,rfl,_⟩:=h
  rfl
 obtain⟨r,fr,er,ps,N,tr,ts,lane,rfl,q⟩:=h
 refine⟨_,(@pss_one _ _ _ (@ps_ret _ _ _ _ (@pe_call _ _ _ _ _ _ _ _ _ _ _ _ _ _ _ _ UR.ok hr (by rfl) UR.m UR.kp UR.b .nil pass0 (@pa_cons _ _ _ _ _ (@pv _ 0 _ _ (by rfl) (by first|exact Or.inl rfl|exact Or.inr (.inl rfl)|exact Or.inr (.inr rfl)) (by decide) (by decide)) (@pa_cons _ _ _ _ _ (@pv _ 1 _ _ (by rfl) (by first|exact Or.inl rfl|exact Or.inr (.inl rfl)|exact Or.inr (.inr rfl)) (by decide) (by decide)) (@pa_cons _ _ _ _ _ (@pv _ 2 _ _ (by rfl) (by first|exact Or.inl rfl|exact Or.inr (.inl rfl)|exact Or.inr (.inr rfl)) (by decide) (by decide)) (@pa_cons _ _ _ _ _ pe_bl pa_nil (by rfl)) (by rfl)) (by rfl)) (by rfl)) (by decide) (by rfl) (by rfl)))),?_⟩
 exact⟨_,rfl,_,rfl,_,rfl,[.ref r,.ref tr,.int lane],true,rfl,r,fr,er,ps,N,tr,ts,lane,rfl,q⟩
end
end K83
namespace Bn
open PySem L2 Own
theorem deqT {K:PySem.W.Frag}{H:Hp}{a b:Addr}{xs:List Int}(h1:H a=some (.tup (xs.map V.int))) (h2:H b=some (.tup (xs.map V.int))):DEq K H 2 (.ref a) (.ref b):=by
 rcases zfu (K:=K) h1 h2 with h|⟨a',b',us,vs,e1,e2,p,q,r,z⟩
 ·exact .inl h
 ·exact .inr ⟨a',b',us,vs,e1,e2,p,q,r,fun i u v hu hv=>.inl (z i u v hu hv)⟩
theorem deqS {K:PySem.W.Frag}{H:Hp}{sc tr gr ou sc' tr' gr' ou':Addr}{qs qs':List V}{ts os:List Int}{gs:List Grp}(a:SceneAt H sc tr gr ou qs ts gs os) (b:SceneAt H sc' tr' gr' ou' qs' ts gs os):∀ (i:Nat) (u v:V),[V.ref tr,V.ref gr,V.ref ou][i]?=some u→[V.ref tr',V.ref gr',V.ref ou'][i]?=some v→DEq K H 2 u v:=fun i u v hu hv=>by
 have il:=(List.getElem?_eq_some_iff.mp hu).1
 simp only[List.length_cons,List.length_nil]at il
 rcases i with _|_|_|i
 ·obtain rfl:=Option.some.inj hu
  obtain rfl:=Option.some.inj hv
  exact deqT a.tr b.tr
 ·obtain rfl:=Option.some.inj hu
  obtain rfl:=Option.some.inj hv
  refine .inr ⟨gr,gr',_,_,rfl,rfl,SqT.of a.gr,SqT.of b.gr,by rw[a.grs.len,b.grs.len],fun i u v hu hv=>?_⟩
  obtain⟨x,g,rfl,eg,hx⟩:=a.grs.get hu
  obtain⟨y,g',rfl,eg',hy⟩:=b.grs.get hv
  obtain rfl:=Option.some.inj (eg.symm.trans eg')
  exact zfu (xs:=[g.many,g.lane,g.fork]) hx hy
 ·obtain rfl:=Option.some.inj hu
  obtain rfl:=Option.some.inj hv
  exact deqT a.ou b.ou
 ·lia
theorem zgP (cs:List Int) (d e:Dd):putO (putO cs d) e=putO (putO cs e) d:=by
 cases d with
 | put l m =>
  cases e with
  | put l' m'=>exact zc7 cs l l' m m'
  | step=>rfl
  | join=>rfl
 | step=>rfl
 | join=>rfl
theorem zgQ {ds es:List Dd}(h:ds.Perm es) (N:Nt):putC N ds=putC N es:=h.foldl_eq' (fun x _ y _ z=>zgP z x y) _
theorem Dds.perm {H:Hp}{xs ys:List V}(h:ys.Perm xs):∀ {ds:List Dd},Dds H xs ds→∃ es,Dds H ys es∧es.Perm ds:=by
 induction h with
 | nil =>
  intro ds d
  cases ds with
  | nil=>exact⟨[],trivial,.nil⟩
  | cons=>exact d.elim
 | cons x _ ih =>
  intro ds d
  cases ds with
  | nil=>exact d.elim
  | cons e ds =>
   obtain⟨es,a,b⟩:=ih d.2
   exact⟨e::es,⟨d.1,a⟩,b.cons e⟩
 | swap x y l =>
  intro ds d
  match ds,d with
  | [],d=>exact d.elim
  | [_],⟨_,d⟩=>exact d.elim
  | e::f::ds,⟨a,b,c⟩=>exact⟨f::e::ds,⟨b,a,c⟩,.swap e f ds⟩
 | trans _ _ ih1 ih2 =>
  intro ds d
  obtain⟨es,a,b⟩:=ih2 d
  obtain⟨fs,c,e⟩:=ih1 a
  exact⟨fs,c,e.trans b⟩
theorem Bls.perm {H:Hp}{xs ys:List V}(h:ys.Perm xs):∀ {ds:List (Nat × Int)},Bls H xs ds→∃ es,Bls H ys es∧es.Perm ds:=by
 induction h with
 | nil =>
  intro ds d
  cases ds with
  | nil=>exact⟨[],trivial,.nil⟩
  | cons=>exact d.elim
 | cons x _ ih =>
  intro ds d
  cases ds with
  | nil=>exact d.elim
  | cons e ds =>
   obtain⟨es,a,b⟩:=ih d.2
   exact⟨e::es,⟨d.1,a⟩,b.cons e⟩
 | swap x y l =>
  intro ds d
  match ds,d with
  | [],d=>exact d.elim
  | [_],⟨_,d⟩=>exact d.elim
  | e::f::ds,⟨a,b,c⟩=>exact⟨f::e::ds,⟨b,a,c⟩,.swap e f ds⟩
 | trans _ _ ih1 ih2 =>
  intro ds d
  obtain⟨es,a,b⟩:=ih2 d
  obtain⟨fs,c,e⟩:=ih1 a
  exact⟨fs,c,e.trans b⟩
def sg (m:Int):Int:=if m<0 then -1 else 1
def za0 (cs:List Int):Nat→List (Nat × Int)
 | 0=>[]
 | n+1=>za0 cs n++List.replicate (cs.getD n 0).natAbs (n,sg (cs.getD n 0))
theorem zbU (l:Nat) (s:Int):∀ (n:Nat) (cs:List Int),l<cs.length→zaH cs (List.replicate n (l,s))=zap cs l (n*s)
 | 0,cs,h=>by
  show cs=cs.set l (cs.getD l 0+(0:Nat)*s)
  rw[show cs.getD l 0+((0:Nat):Int)*s=cs.getD l 0 by simp,List.getD_eq_getElem?_getD,List.getElem?_eq_getElem h]
  exact(List.set_getElem_self h).symm
 | n+1,cs,h=>by
  show zaH (zap cs l s) (List.replicate n (l,s))=_
  have hl:l<(zap cs l s).length:=by unfold zap;rw[List.length_set];exact h
  rw[zbU l s n _ hl]
  unfold zap
  have e:(cs.set l (cs.getD l 0+s)).getD l 0=cs.getD l 0+s:=by rw[List.getD_eq_getElem?_getD,List.getElem?_set_self h];rfl
  rw[e,List.set_set,show ((n+1:Nat):Int)*s=n*s+s by rw[Int.natCast_add,Int.add_mul];simp]
  congr 1;lia
theorem zko (m:Int):(m.natAbs:Int)*sg m=m:=by
 unfold sg
 split<;>lia
theorem zdB (cs:List Int) (a b:List (Nat × Int)):zaH cs (a++b)=zaH (zaH cs a) b:=List.foldl_append
theorem zbv {cs:List Int}{n:Nat}(h:cs.length=n):∀ i,i≤n→zah n (za0 cs i)=cs.take i++List.replicate (n-i) 0
 | 0,_=>rfl
 | i+1,hi=>by
  have ih:=zbv h i (by lia)
  unfold zah at ih ⊢
  rw[za0,zdB,ih,zbU _ _ _ _ (by rw[List.length_append,List.length_take,List.length_replicate];lia),zko]
  unfold zap
  have e1:n-i=(n-(i+1))+1:=by lia
  have tl:(cs.take i).length=i:=by rw[List.length_take];lia
  rw[e1,List.replicate_succ,List.take_succ_eq_append_getElem (by lia)]
  have g0:(cs.take i++0::List.replicate (n-(i+1)) 0).getD i 0=0:=by
   rw[List.getD_eq_getElem?_getD,List.getElem?_append_right (by lia),tl,Nat.sub_self];rfl
  rw[g0,List.set_append_right _ _ (by lia),tl,Nat.sub_self,List.set_cons_zero,List.append_assoc]
  congr 2
  rw[List.getD_eq_getElem?_getD,List.getElem?_eq_getElem (by lia)]
  simp
theorem zeY {cs:List Int}{n:Nat}(h:cs.length=n):zah n (za0 cs n)=cs:=by
 rw[zbv h n (Nat.le_refl _),Nat.sub_self,← h,List.take_length];simp
theorem zc6 {cs:List Int}{n:Nat}:∀ i,i≤n→OkB n (za0 cs i)
 | 0,_=>fun b hb=>absurd hb (by simp[za0])
 | i+1,hi=>fun b hb=>by
  rcases List.mem_append.mp hb with z|z
  ·exact zc6 i (by lia) b z
  ·obtain⟨_,rfl⟩:=List.mem_replicate.mp z
   refine⟨by show i<n;lia,?_⟩
   show sg _=1∨sg _ = -1
   unfold sg
   split
   ·exact .inr rfl
   ·exact .inl rfl
theorem zbB {cs:List Int}(h:∀ c∈cs,c.natAbs≤4):∀ i,(za0 cs i).length≤4*i
 | 0=>Nat.le_refl _
 | i+1=>by
  have:=zbB h i
  rw[za0,List.length_append,List.length_replicate]
  have:(cs.getD i 0).natAbs≤4:=by
   show ((cs[i]?).getD 0).natAbs≤4
   cases e:cs[i]? with
   | none=>exact Nat.zero_le _
   | some c=>exact h c (List.mem_of_getElem? e)
  lia
theorem Bls.rep {H:Hp}{a:Addr}{b:Nat × Int}(h:H a=some (.tup [.int b.1,.int b.2])):∀ n,Bls H (List.replicate n [V.ref a]).flatten (List.replicate n b)
 | 0=>trivial
 | n+1=>⟨⟨a,rfl,h⟩,Bls.rep h n⟩
end Bn
namespace K83
open PySem L2 Own Bn
abbrev zgE:Stmt:=top 63
def zem:Sp:=fun vs H Q _=>∃ l r fr er ps N c cs,vs=[.ref l,.ref r,.ref c]∧PkAt H l∧Nt.Ok N∧NetAt H r fr er ps N∧H c=some (.tup (List.map V.int cs))∧cs.length=N.lanes∧(∀ x∈cs,x.natAbs≤4) ∧
 ∀ p t e H',PkAt H' l→But l H H'→H' p=some (.tup [.ref t,.ref e])→H' t=some (.tup ((zai N cs).map V.int))→H' e=some (.tup ((zau N cs).map V.int))→Q (.ref p) H'
theorem zjv (m:Int):atI [V.int 1,V.int (-1)] (if decide (m<0)=true then 1 else 0)=some (V.int (sg m)):=by
 unfold sg
 by_cases h:m<0
 ·rw[if_pos (decide_eq_true h),if_pos h];rfl
 ·rw[if_neg (by simpa using h),if_neg h];rfl
theorem zhV (x:V) (n:Nat):((List.replicate n [x]).flatten).length=n:=by simp
theorem zhr {xs:List Int}{j:Nat}(h:j<xs.length):(xs.map V.int)[j]?=some (V.int (xs.getD j 0)):=by
 rw[List.getElem?_map,List.getElem?_eq_getElem h,List.getD_eq_getElem?_getD,List.getElem?_eq_getElem h];rfl
theorem zgv (xs:List Int) (j:Nat) (d:Int):(xs.map V.int).set j (V.int d)=(xs.set j d).map V.int:=by rw[List.map_set]
section
variable {P:Program}{w:World}{K:PySem.W.Frag}{mg:Str→Option Value}{base:Heap}
theorem scOo:FnScope ["_law_left_here","_law_net_here","_law_counts","_law_turns","_law_out_here","_law_balls","_law_lane","_law_many_here","_law_sign","_law_end"] ["_law_left_here","_law_net_here","_law_counts"] (zad zgE):=⟨rfl,rfl,rfl,by decide +kernel,rfl,by decide +kernel,by decide +kernel⟩
theorem zig {f fP fB fPl:Addr}{fd dP dB dPl:FuncData}(F:Fun K "_law_one_by_one" "_law_one_by_one" zgE f fd) (G:Mgs mg) (UPl:Use P w K mg base "_law_placed" ["_law_left_here","_law_some"] 2 zbG fPl dPl) (UP:Use P w K mg base "passed" ["net","turns","lane"] 3 (zb6 false) fP dP) (UB:Use P w K mg base "passed_back" ["net","turns","lane"] 3 (zb6 true) fB dB):FnOk P w K mg base CX0 4 f fd ["_law_left_here","_law_net_here","_law_counts"] zem:=by
 refine F.ok scOo (fun vs H Q E h=>?_) (fun cdv A outer s H vs Q E hr h=>?_)
 ·obtain⟨l,r,fr,er,ps,N,c,cs,rfl,_⟩:=h
  rfl
 obtain⟨l,r,fr,er,ps,N,c,cs,rfl,pk,ok,na,hc,cl,c4,k⟩:=h
 have hr2:Room 2 _:=hr.mono (by decide)
 have hr3:Room 3 _:=hr.mono (by decide)
 refine⟨_,(@pss_cons _ _ _ _ _ (@zkw _ _ 3 4 _ _ _ _ _ _ _ _ _ _ _ rfl scOo.nd rfl rfl (by decide) rfl rfl (@pa_cons _ _ _ _ _ (@pe_op _ _ _ _ _ _ _ _ zeI (@pe_tup _ _ _ _ _ (@pa_cons _ _ _ _ _ pe_int pa_nil (by rfl))) (@pe_callB _ _ _ _ _ _ _ _ _ call_len_seq (by rfl) G.len PySem.boot_len (@pa_cons _ _ _ _ _ (@pe_ix _ _ _ _ _ _ _ ix_tup (@pv _ 1 _ _ (by rfl) (by first|exact Or.inl rfl|exact Or.inr (.inl rfl)|exact Or.inr (.inr rfl)) (by decide) (by decide)) pe_int (fun _ _=>rfl)) pa_nil (by rfl)) (by decide) (by decide) (by rfl) (by rfl))) (@pa_cons _ _ _ _ _ (@pe_op _ _ _ _ _ _ _ _ zdU (@zaz _ _ _ _ (@pa_cons _ _ _ _ _ pe_int pa_nil (by rfl))) (@pe_ix _ _ _ _ _ _ _ ix_tup (@pv _ 1 _ _ (by rfl) (by first|exact Or.inl rfl|exact Or.inr (.inl rfl)|exact Or.inr (.inr rfl)) (by decide) (by decide)) pe_int (fun _ _=>rfl))) pa_nil (by rfl)) (by rfl)) (by rfl) (by rfl)) (@pss_cons _ _ _ _ _ (@ps_set _ _ 5 _ _ _ _ scOo.nd rfl (.inl rfl) (@zaz _ _ _ _ pa_nil) (by rfl) (by first|exact .inl rfl|exact .inr rfl|assumption)) (@pss_cons _ _ _ _ _ (@ps_for _ _ _ _ _ _ _ _ PassesOwn.never rfl (@zgU _ _ _ _ _ _ _ _ false rfl G.enum (@pa_cons _ _ _ _ _ (@pv _ 2 _ _ (by rfl) (by first|exact Or.inl rfl|exact Or.inr (.inl rfl)|exact Or.inr (.inr rfl)) (by decide) (by decide)) pa_nil (by rfl)) (by rfl)) (@pg_tup _ _ _ _ _ _ rfl (@pgs_cons _ _ _ _ _ (@pg_name _ _ 6 _ scOo.nd rfl (.inl rfl) (by first|exact .inl rfl|exact .inr rfl|assumption)) (@pgs_cons _ _ _ _ _ (@pg_name _ _ 7 _ scOo.nd rfl (.inl rfl) (by first|exact .inl rfl|exact .inr rfl|assumption)) pgs_nil (by rfl)) (by rfl)) (by rfl) (by rfl)) (@pss_one _ _ _ (@ps_expr _ _ _ _ (@pe_bm _ _ _ _ _ _ _ _ _ _ _ _ PySem.F.plainAttrs_list PySem.F.slot_list_extend PySem.F.type_list_extend zhf (@pv _ 5 _ _ (by rfl) (by first|exact Or.inl rfl|exact Or.inr (.inl rfl)|exact Or.inr (.inr rfl)) (by decide) (by decide)) (@pa_cons _ _ _ _ _ (@pe_op _ _ _ _ _ _ _ _ zdU (@zaz _ _ _ _ (@pa_cons _ _ _ _ _ (@pe_tup _ _ _ _ _ (@pa_cons _ _ _ _ _ (@pv _ 6 _ _ (by rfl) (by first|exact Or.inl rfl|exact Or.inr (.inl rfl)|exact Or.inr (.inr rfl)) (by decide) (by decide)) (@pa_cons _ _ _ _ _ (@pe_ix _ _ _ _ _ _ _ ix_list (@zaz _ _ _ _ (@pa_cons _ _ _ _ _ pe_int (@pa_cons _ _ _ _ _ (@zgV _ _ _ _ _ _ zdK pe_int) pa_nil (by rfl)) (by rfl))) (@pe_callTy _ _ _ _ _ _ _ _ _ zcL (by rfl) G.int (by rfl) (@pa_cons _ _ _ _ _ (@zaS _ _ _ _ _ _ _ _ zcN (@pv _ 7 _ _ (by rfl) (by first|exact Or.inl rfl|exact Or.inr (.inl rfl)|exact Or.inr (.inr rfl)) (by decide) (by decide)) pe_int (nomark _)) pa_nil (by rfl)) (by decide) (by decide) (by rfl) (by rfl)) (fun _ _=>rfl)) pa_nil (by rfl)) (by rfl))) pa_nil (by rfl))) (@pe_callB _ _ _ _ _ _ _ _ _ zcp (by rfl) G.abs (by rfl) (@pa_cons _ _ _ _ _ (@pv _ 7 _ _ (by rfl) (by first|exact Or.inl rfl|exact Or.inr (.inl rfl)|exact Or.inr (.inr rfl)) (by decide) (by decide)) pa_nil (by rfl)) (by decide) (by decide) (by rfl) (by rfl))) pa_nil (by rfl)) (by rfl) (by rfl) (by rfl) (by rfl) (by rfl)) (by rfl))) (by intro _;rfl)) (@pss_cons _ _ _ _ _ (@ps_for _ _ _ _ _ _ _ _ PassesOwn.never rfl (@pi_list _ _ _ _ (@pe_call _ _ _ _ _ _ _ _ _ _ _ _ _ _ _ _ UPl.ok hr2 (by rfl) UPl.m UPl.kp UPl.b .nil pass0 (@pa_cons _ _ _ _ _ (@pv _ 0 _ _ (by rfl) (by first|exact Or.inl rfl|exact Or.inr (.inl rfl)|exact Or.inr (.inr rfl)) (by decide) (by decide)) (@pa_cons _ _ _ _ _ (@pv _ 5 _ _ (by rfl) (by first|exact Or.inl rfl|exact Or.inr (.inl rfl)|exact Or.inr (.inr rfl)) (by decide) (by decide)) pa_nil (by rfl)) (by rfl)) (by decide) (by rfl) (by rfl))) (@pg_tup _ _ _ _ _ _ rfl (@pgs_cons _ _ _ _ _ (@pg_name _ _ 6 _ scOo.nd rfl (.inl rfl) (by first|exact .inl rfl|exact .inr rfl|assumption)) (@pgs_cons _ _ _ _ _ (@pg_name _ _ 8 _ scOo.nd rfl (.inl rfl) (by first|exact .inl rfl|exact .inr rfl|assumption)) pgs_nil (by rfl)) (by rfl)) (by rfl) (by rfl)) (@pss_cons _ _ _ _ _ (@ps_asg _ _ _ _ _ _ (@pe_ifExp _ _ _ _ _ _ _ _ (@pt_cmpR _ _ _ _ _ _ _ _ op_gt (@pv _ 8 _ _ (by rfl) (by first|exact Or.inl rfl|exact Or.inr (.inl rfl)|exact Or.inr (.inr rfl)) (by decide) (by decide)) pe_int (nomark _)) (@pe_call _ _ _ _ _ _ _ _ _ _ _ _ _ _ _ _ UP.ok hr3 (by rfl) UP.m UP.kp UP.b .nil pass0 (@pa_cons _ _ _ _ _ (@pv _ 1 _ _ (by rfl) (by first|exact Or.inl rfl|exact Or.inr (.inl rfl)|exact Or.inr (.inr rfl)) (by decide) (by decide)) (@pa_cons _ _ _ _ _ (@pv _ 3 _ _ (by rfl) (by first|exact Or.inl rfl|exact Or.inr (.inl rfl)|exact Or.inr (.inr rfl)) (by decide) (by decide)) (@pa_cons _ _ _ _ _ (@pv _ 6 _ _ (by rfl) (by first|exact Or.inl rfl|exact Or.inr (.inl rfl)|exact Or.inr (.inr rfl)) (by decide) (by decide)) pa_nil (by rfl)) (by rfl)) (by rfl)) (by decide) (by rfl) (by rfl)) (@pe_call _ _ _ _ _ _ _ _ _ _ _ _ _ _ _ _ UB.ok hr3 (by rfl) UB.m UB.kp UB.b .nil pass0 (@pa_cons _ _ _ _ _ (@pv _ 1 _ _ (by rfl) (by first|exact Or.inl rfl|exact Or.inr (.inl rfl)|exact Or.inr (.inr rfl)) (by decide) (by decide)) (@pa_cons _ _ _ _ _ (@pv _ 3 _ _ (by rfl) (by first|exact Or.inl rfl|exact Or.inr (.inl rfl)|exact Or.inr (.inr rfl)) (by decide) (by decide)) (@pa_cons _ _ _ _ _ (@pv _ 6 _ _ (by rfl) (by first|exact Or.inl rfl|exact Or.inr (.inl rfl)|exact Or.inr (.inr rfl)) (by decide) (by decide)) pa_nil (by rfl)) (by rfl)) (by rfl)) (by decide) (by rfl) (by rfl))) (@pg_tup _ _ _ _ _ _ rfl (@pgs_cons _ _ _ _ _ (@pg_name _ _ 3 _ scOo.nd rfl (.inl rfl) (by first|exact .inl rfl|exact .inr rfl|assumption)) (@pgs_cons _ _ _ _ _ (@pg_name _ _ 9 _ scOo.nd rfl (.inl rfl) (by first|exact .inl rfl|exact .inr rfl|assumption)) pgs_nil (by rfl)) (by rfl)) (by rfl) (by rfl)) (by rfl) (by rfl) (by rfl)) (@pss_one _ _ _ (@ps_augS _ _ _ _ _ _ _ _ _ _ _ _ _ (@pv _ 4 _ _ (by rfl) (by first|exact Or.inl rfl|exact Or.inr (.inl rfl)|exact Or.inr (.inr rfl)) (by decide) (by decide)) (@pv _ 9 _ _ (by rfl) (by first|exact Or.inl rfl|exact Or.inr (.inl rfl)|exact Or.inr (.inr rfl)) (by decide) (by decide)) get_list (@pv _ 8 _ _ (by rfl) (by first|exact Or.inl rfl|exact Or.inr (.inl rfl)|exact Or.inr (.inr rfl)) (by decide) (by decide)) ip_add set_list (by intros;rfl)))) (by intro _;rfl)) (@pss_one _ _ _ (@ps_ret _ _ _ _ (@pe_tup _ _ _ _ _ (@pa_cons _ _ _ _ _ (@pv _ 3 _ _ (by rfl) (by first|exact Or.inl rfl|exact Or.inr (.inl rfl)|exact Or.inr (.inr rfl)) (by decide) (by decide)) (@pa_cons _ _ _ _ _ (@pe_callTy _ _ _ _ _ _ _ _ _ call_tuple_of (by rfl) G.tuple (by rfl) (@pa_cons _ _ _ _ _ (@pv _ 4 _ _ (by rfl) (by first|exact Or.inl rfl|exact Or.inr (.inl rfl)|exact Or.inr (.inr rfl)) (by decide) (by decide)) pa_nil (by rfl)) (by decide) (by decide) (by rfl) (by rfl)) pa_nil (by rfl)) (by rfl))))))))),?_⟩
 have pl:=na.prs.len
 have l1:=ok.l1
 have l16:=ok.l16
 have fm:=ok.fm
 refine⟨(by show 1≤sizeLine;decide),fun t0 ht0=>?_⟩
 have s4:=zaa ht0 (.tup [.int 0])
 refine⟨_,rfl,r,_,_,_,rfl,rfl,SqT.of (s4 _ _ na.net),rfl,fr,_,rfl,.inr (SqT.of (s4 _ _ na.forks)),t0,_,ps.length,rfl,rfl,zab,by lia,fun tr H5 s5 htr=>?_⟩
 have s45:=s4.trans s5
 refine⟨(by show 1≤sizeLine;decide),fun p1 hp1=>?_⟩
 have s6:=zaa hp1 (.lst [.int 0])
 refine⟨_,rfl,r,_,_,_,rfl,rfl,SqT.of (s6 _ _ (s45 _ _ na.net)),rfl,p1,N.lanes,_,rfl,rfl,zab,by lia,by lia,by show 1*_≤sizeLine;rw[sizeLine_eq];lia,fun le hle=>⟨_,_,rfl,?_⟩⟩
 have tn:((N.lanes:Int)).toNat=N.lanes:=by lia
 have hle0:H le=none:=(s45.trans s6).free hle
 generalize hH9:upd (upd H5 p1 (.lst [.int 0])) le (.lst (List.replicate ((N.lanes:Int)).toNat [V.int 0]).flatten)=H9
 have s9:Same H5 H9:=by rw[← hH9];exact s6.trans (zaa hle _)
 have e9:H9 le=some (.lst ((List.replicate N.lanes (0:Int)).map V.int)):=by rw[← hH9,tn,zkb];exact zab
 have t9:H9 tr=some (.tup ((List.replicate N.forks.length (0:Int)).map V.int)):=by rw[List.map_replicate,← pl];exact s9 _ _ htr
 have s09:Same H H9:=s45.trans s9
 clear s9 hH9 s6 hp1 htr s5 s45 s4 ht0
 refine⟨(by show 0≤sizeLine;decide),fun lb hlb=>?_⟩
 have s10:=zaa hlb (.lst [])
 have hlb0:H lb=none:=s09.free hlb
 have lle:lb≠le:=fun z=>by rw[z]at hlb;rw[hlb]at e9;cases e9
 have nl1:l≠le:=pk.ne hle0
 have nl2:l≠lb:=pk.ne hlb0
 have b10:But l H (upd H9 lb (.lst [])):=(But.of s09).trans (But.of s10)
 have pk10:=pk.keep (s09.trans s10)
 have e10:=s10 _ _ e9
 have t10:=s10 _ _ t9
 have h10:=zab (H:=H9) (a:=lb) (o:=.lst [])
 generalize upd H9 lb (.lst [])=H10 at b10 pk10 e10 t10 h10 ⊢
 clear s10 s09 e9 t9 hlb
 refine⟨_,rfl,c,_,rfl,SqT.of (b10.tups pk _ _ hc),?_⟩
 refine zfr (K:=K) (b:=false) (a:=c) (xs:=cs.map V.int) (fun i σ H2=>∃ w6 w7 w8 w9 qs,σ=[some (.ref l),some (.ref r),some (.ref c),some (.ref tr),some (.ref le),some (.ref lb),w6,w7,w8,w9]∧PkAt H2 l∧But l H H2∧H2 le=some (.lst ((List.replicate N.lanes (0:Int)).map V.int))∧H2 tr=some (.tup ((List.replicate N.forks.length (0:Int)).map V.int))∧H2 lb=some (.lst qs)∧Bls H2 qs (za0 cs i))
  ⟨_,_,_,_,[],rfl,pk10,b10,e10,t10,h10,trivial⟩ (fun i σ H2 _ z=>by obtain⟨_,_,_,_,_,_,_,b,_⟩:=z;exact SqT.of (b.tups pk _ _ hc)) ?_ ?_
 ·rintro i x σ H2 T hx hT ⟨w6,w7,w8,w9,qs,rfl,pk2,b2,e2,t2,h2,B2⟩
  have il:i<cs.length:=by have:=(List.getElem?_eq_some_iff.mp hx).1;rwa [List.length_map]at this
  have ex:x=.int (cs.getD i 0):=by
   rw[List.getElem?_map,List.getElem?_eq_getElem il]at hx
   rw[List.getD_eq_getElem?_getD,List.getElem?_eq_getElem il]
   exact(Option.some.inj hx).symm
  subst ex
  have m4:(cs.getD i 0).natAbs≤4:=by rw[List.getD_eq_getElem?_getD,List.getElem?_eq_getElem il];exact c4 _ (List.getElem_mem il)
  generalize hm:cs.getD i 0=m at *
  have s3:=zaa hT (.tup [.int i,.int m])
  refine⟨T,_,rfl,SqT.of zab,rfl,_,_,rfl,_,_,rfl,rfl,?_⟩
  generalize upd H2 T (.tup [.int i,.int m])=H3 at s3 ⊢
  refine⟨_,rfl,.inl ⟨rfl,_,SqL.of (s3 _ _ h2)⟩,?_⟩
  refine⟨_,rfl,_,rfl,(by show 2≤sizeLine;decide),fun la hla=>⟨_,rfl,_,_,rfl,rfl,.inr ⟨_,rfl,la,_,_,_,rfl,rfl,SqL.of zab,zjv m,(by show 2≤sizeLine;decide),fun t ht=>⟨(by show 1≤sizeLine;decide),fun li hli=>?_⟩⟩⟩⟩
  have s4:=zaa hla (.lst [.int 1,.int (-1)])
  have s5:=zaa ht (.tup [.int i,.int (sg m)])
  have s6:=zaa hli (.lst [.ref t])
  have ab:(if m<0 then -m else m).toNat=m.natAbs:=by split<;>lia
  refine⟨_,rfl,_,rfl,li,_,_,rfl,rfl,zab,by split<;>lia,by split<;>lia,by rw[ab];show 1*_≤sizeLine;rw[sizeLine_eq];lia,fun lr hlr=>?_⟩
  have s7:=zaa hlr (.lst (List.replicate (if m<0 then -m else m).toNat [V.ref t]).flatten)
  have s27:=s3.trans (s4.trans (s5.trans (s6.trans s7)))
  have ht7:=(s6.trans s7) _ _ (zab (H:=_) (a:=t) (o:=.tup [.int i,.int (sg m)]))
  refine⟨lb,lr,_,_,rfl,rfl,s27 _ _ h2,zab,?_,?_⟩
  ·have q1:=B2.len
   have q2:=zbB c4 i
   rw[ab,zhV,sizeLine_eq]
   lia
  have h27:=s27 _ _ h2
  have tp:=(Tups.of s27).trans (Tups.lst (ys:=qs++(List.replicate (if m<0 then -m else m).toNat [V.ref t]).flatten) h27)
  have ne1:le≠lb:=lle.symm
  refine⟨_,_,_,_,_,rfl,(pk2.keep s27).upd nl2,?_,?_,tp _ _ t2,zab,?_⟩
  ·exact(b2.trans (But.of s27)).upd (fun b o e _=>zac e hlb0)
  ·rw[zae ne1];exact s27 _ _ e2
  ·rw[za0,hm,← ab]
   exact(B2.tups tp).app (Bls.rep (b:=(i,sg m)) (Tups.lst h27 _ _ ht7) _)
 ·rintro σ H2 ⟨w6,w7,w8,w9,qs,rfl,pk2,b2,e2,t2,h2,B2⟩
  rw[List.length_map,cl]at B2
  have bl:=B2.len
  have b64:=zbB c4 N.lanes
  refine⟨_,rfl,_,rfl,l,lb,qs,rfl,pk2,nl2.symm,h2,by lia,fun lz ys H3 pm hz0 hz pk3 b3=>?_⟩
  have lzl:lz≠l:=(pk2.ne hz0).symm
  have tp3:=b3.tups pk2
  obtain⟨bs,B3,pb⟩:=(B2.tups tp3).perm pm
  have okB:OkB N.lanes bs:=fun b hb=>zc6 N.lanes (Nat.le_refl _) b (pb.mem_iff.mp hb)
  have e3:=b3 _ _ e2 nl1.symm
  have t3:=tp3 _ _ t2
  have b03:=b2.trans b3
  have lzle:lz≠le:=fun z=>by rw[z,e2]at hz0;cases hz0
  have cN:zah N.lanes bs=cs:=(zdA pb _).trans (zeY cl)
  refine⟨lz,rfl,⟨_,SqL.of hz⟩,?_⟩
  refine zfq (K:=K) (a:=lz) (xs:=ys) (fun i σ H4=>∃ w6 w7 w8 w9 tr,σ=[some (.ref l),some (.ref r),some (.ref c),some (.ref tr),some (.ref le),some (.ref lb),w6,w7,w8,w9]∧PkAt H4 l∧But l H H4∧H4 lz=some (.lst ys)∧Bls H4 ys bs∧H4 le=some (.lst ((zau N (zah N.lanes (bs.take i))).map V.int))∧H4 tr=some (.tup ((zai N (zah N.lanes (bs.take i))).map V.int)))
   ⟨_,_,_,_,tr,rfl,pk3,b03,hz,B3,by rw[List.take_zero,show zah N.lanes []=List.replicate N.lanes 0 from rfl,zhx N ok];exact e3,by rw[List.take_zero,show zah N.lanes []=List.replicate N.lanes 0 from rfl,zfy];exact t3⟩ (fun i σ H4 _ z=>by obtain⟨_,_,_,_,_,_,_,_,h,_⟩:=z;exact SqL.of h) ?_ ?_
  ·rintro i x σ H4 hx ⟨w6,w7,w8,w9,tr,rfl,pk4,b4,hz4,B4,e4,t4⟩
   obtain⟨a,b,rfl,eb,ha⟩:=B4.get hx
   have okb:=okB b (List.mem_of_getElem? eb)
   have cn:=zdz eb N.lanes
   have tp4:=b4.tups pk
   refine⟨a,_,rfl,SqT.of ha,rfl,_,_,rfl,_,_,rfl,rfl,?_⟩
   refine⟨_,rfl,_,_,rfl,rfl,_,rfl,?_⟩
   rcases okb.2 with sgn|sgn
   ·rw[show decide ((0:Int)<b.2)=true from by rw[sgn];decide]
    refine iteT ?_
    obtain⟨b1',b2',hh⟩:=ball ok false (cs:=zah N.lanes (bs.take i)) (zcb _ _) (lane:=b.1) okb.1
    have b1:zai N (zap (zah N.lanes (bs.take i)) b.1 (1))=(zaf false N.forks (zai N (zah N.lanes (bs.take i))) b.1 N.forks.length).1:=b1'
    have b2:zau N (zap (zah N.lanes (bs.take i)) b.1 (1))=zap (zau N (zah N.lanes (bs.take i))) (N.ends.idxOf (zaf false N.forks (zai N (zah N.lanes (bs.take i))) b.1 N.forks.length).2) (1):=b2'
    rw[sgn]at cn
    rw[← cn]at b1 b2
    generalize zah N.lanes (bs.take i)=ds at *
    have tl:(zai N ds).length=N.forks.length:=by unfold zai;exact zav _ _
    refine⟨_,rfl,_,rfl,_,rfl,r,fr,er,ps,N,tr,zai N ds,b.1,rfl,ok,na.tups tp4,t4,tl,zbP _ _,okb.1,fun p tr' H7 s7 hp htr'=>?_⟩
    refine⟨p,_,rfl,SqT.of hp,rfl,_,_,rfl,_,_,rfl,rfl,?_⟩
    have il:N.ends.idxOf (zaf false N.forks (zai N ds) b.1 N.forks.length).2<(zau N ds).length:=by
     unfold zau;rw[List.length_map];exact List.idxOf_lt_length_of_mem (ok.en.mem_iff.mpr (List.mem_range.mpr hh))
    have e7:=s7 _ _ e4
    refine⟨_,rfl,_,rfl,le,_,_,_,rfl,rfl,SqL.of e7,zhr il,_,rfl,_,_,rfl,rfl,le,_,_,_,rfl,rfl,e7,zdv (by rw[List.length_map];exact il),?_⟩
    have tp7:Tups H4 _:=(Tups.of s7).trans (Tups.lst (ys:=((zau N ds).map V.int).set (N.ends.idxOf (zaf false N.forks (zai N ds) b.1 N.forks.length).2) (V.int ((zau N ds).getD (N.ends.idxOf (zaf false N.forks (zai N ds) b.1 N.forks.length).2) 0+b.2))) e7)
    refine⟨_,_,_,_,tr',rfl,(pk4.keep s7).upd nl1,(b4.trans (But.of s7)).upd (fun b o e _=>zac e hle0),?_,B4.tups tp7,?_,?_⟩
    ·rw[zae lzle];exact s7 _ _ hz4
    ·rw[zab,b2,sgn,zgv];rfl
    ·rw[b1];exact Tups.lst e7 _ _ htr'
   ·rw[show decide ((0:Int)<b.2)=false from by rw[sgn];decide]
    refine iteF ?_
    obtain⟨b1',b2',hh⟩:=ball ok true (cs:=zah N.lanes (bs.take i)) (zcb _ _) (lane:=b.1) okb.1
    have b1:zai N (zap (zah N.lanes (bs.take i)) b.1 (-1))=(zaf true N.forks (zai N (zah N.lanes (bs.take i))) b.1 N.forks.length).1:=b1'
    have b2:zau N (zap (zah N.lanes (bs.take i)) b.1 (-1))=zap (zau N (zah N.lanes (bs.take i))) (N.ends.idxOf (zaf true N.forks (zai N (zah N.lanes (bs.take i))) b.1 N.forks.length).2) (-1):=b2'
    rw[sgn]at cn
    rw[← cn]at b1 b2
    generalize zah N.lanes (bs.take i)=ds at *
    have tl:(zai N ds).length=N.forks.length:=by unfold zai;exact zav _ _
    refine⟨_,rfl,_,rfl,_,rfl,r,fr,er,ps,N,tr,zai N ds,b.1,rfl,ok,na.tups tp4,t4,tl,zbP _ _,okb.1,fun p tr' H7 s7 hp htr'=>?_⟩
    refine⟨p,_,rfl,SqT.of hp,rfl,_,_,rfl,_,_,rfl,rfl,?_⟩
    have il:N.ends.idxOf (zaf true N.forks (zai N ds) b.1 N.forks.length).2<(zau N ds).length:=by
     unfold zau;rw[List.length_map];exact List.idxOf_lt_length_of_mem (ok.en.mem_iff.mpr (List.mem_range.mpr hh))
    have e7:=s7 _ _ e4
    refine⟨_,rfl,_,rfl,le,_,_,_,rfl,rfl,SqL.of e7,zhr il,_,rfl,_,_,rfl,rfl,le,_,_,_,rfl,rfl,e7,zdv (by rw[List.length_map];exact il),?_⟩
    have tp7:Tups H4 _:=(Tups.of s7).trans (Tups.lst (ys:=((zau N ds).map V.int).set (N.ends.idxOf (zaf true N.forks (zai N ds) b.1 N.forks.length).2) (V.int ((zau N ds).getD (N.ends.idxOf (zaf true N.forks (zai N ds) b.1 N.forks.length).2) 0+b.2))) e7)
    refine⟨_,_,_,_,tr',rfl,(pk4.keep s7).upd nl1,(b4.trans (But.of s7)).upd (fun b o e _=>zac e hle0),?_,B4.tups tp7,?_,?_⟩
    ·rw[zae lzle];exact s7 _ _ hz4
    ·rw[zab,b2,sgn,zgv];rfl
    ·rw[b1];exact Tups.lst e7 _ _ htr'
  ·rintro σ H4 ⟨w6,w7,w8,w9,tr,rfl,pk4,b4,hz4,B4,e4,t4⟩
   rw[B3.len,List.take_length,cN]at e4 t4
   refine⟨_,rfl,_,rfl,le,_,rfl,.inl ⟨SqL.of e4,fun e he=>?_⟩⟩
   have s5:=zaa he (.tup ((zau N cs).map V.int))
   refine⟨(by show 2≤sizeLine;decide),fun p hp=>?_⟩
   have s6:=zaa hp (.tup [.ref tr,.ref e])
   exact k p tr e _ (pk4.keep (s5.trans s6)) (b4.trans (But.of (s5.trans s6))) zab (s6 _ _ (s5 _ _ t4)) (s6 _ _ zab)
end
end K83
namespace Bn
open PySem L2 Own
theorem zb0 {back:Bool}{fs:List (Nat × Nat)}{ts:List Int}{lane:Nat}:∀ (i k:Nat),i≤k→(zaf back fs ts lane i).1.getD k 0=ts.getD k 0
 | 0,_,_=>rfl
 | i+1,k,h=>by
  have ih:=zb0 (back:=back) (fs:=fs) (ts:=ts) (lane:=lane) i k (by lia)
  show (zaj back (zaf back fs ts lane i) i (fs.getD i (0,0))).1.getD k 0=_
  unfold zaj
  split
  ·simp only
   rw[List.getD_eq_getElem?_getD,List.getElem?_set_ne (by lia),← List.getD_eq_getElem?_getD];exact ih
  ·exact ih
theorem zcS {back:Bool}{fs:List (Nat × Nat)}{ts:List Int}{lane:Nat}(k:Nat):∀ n,k<n→(zaf back fs ts lane n).1.getD k 0=(zaf back fs ts lane (k+1)).1.getD k 0
 | 0,h=>absurd h (Nat.not_lt_zero _)
 | n+1,h=>by
  by_cases e:k=n
  ·subst e;rfl
  ·have ih:=zcS (back:=back) (fs:=fs) (ts:=ts) (lane:=lane) k n (by lia)
   rw[← ih]
   show (zaj back (zaf back fs ts lane n) n (fs.getD n (0,0))).1.getD k 0=_
   unfold zaj
   split
   ·simp only
    rw[List.getD_eq_getElem?_getD,List.getElem?_set_ne (by lia),← List.getD_eq_getElem?_getD]
   ·rfl
theorem zf8 {back:Bool}{fs:List (Nat × Nat)}{ts:List Int}{lane n:Nat}(tl:ts.length=n) (bits:∀ t∈ts,t=0∨t=1):∀ i,i≤n →
  (zaf (!back) fs (zaf back fs ts lane n).1 lane i).2=(zaf back fs ts lane i).2∧(∀ k,k<i→(zaf (!back) fs (zaf back fs ts lane n).1 lane i).1.getD k 0=ts.getD k 0)
 | 0,_=>⟨rfl,fun k h=>absurd h (Nat.not_lt_zero _)⟩
 | i+1,hi=>by
  obtain⟨h1,h2⟩:=zf8 (back:=back) (fs:=fs) (lane:=lane) tl bits i (by lia)
  have q1:(zaf (!back) fs (zaf back fs ts lane n).1 lane i).1.getD i 0=(zaf back fs ts lane n).1.getD i 0:=zb0 i i (Nat.le_refl _)
  have q2:=zcS (back:=back) (fs:=fs) (ts:=ts) (lane:=lane) i n (by lia)
  have q3:(zaf back fs ts lane i).1.getD i 0=ts.getD i 0:=zb0 i i (Nat.le_refl _)
  have l1:(zaf (!back) fs (zaf back fs ts lane n).1 lane i).1.length=n:=by rw[zaw,zaw,tl]
  have l2:(zaf back fs ts lane i).1.length=n:=by rw[zaw,tl]
  rw[q2]at q1
  have e1:zaf back fs ts lane (i+1)=zaj back (zaf back fs ts lane i) i (fs.getD i (0,0)):=rfl
  have e2:zaf (!back) fs (zaf back fs ts lane n).1 lane (i+1)=zaj (!back) (zaf (!back) fs (zaf back fs ts lane n).1 lane i) i (fs.getD i (0,0)):=rfl
  rw[e1]at q1
  rw[e2,e1]
  have tb:ts.getD i 0=0∨ts.getD i 0=1:=bits _ (L2.zck (by lia))
  generalize zaf (!back) fs (zaf back fs ts lane n).1 lane i=r at *
  generalize zaf back fs ts lane i=s at *
  generalize fs.getD i (0,0)=f at *
  unfold zaj at q1 ⊢
  by_cases on:s.2=f.1∨s.2=f.2
  ·have on':r.2=f.1∨r.2=f.2:=by rw[h1];exact on
   rw[if_pos on]at q1 ⊢
   rw[if_pos on']
   simp only at q1 ⊢
   rw[zaL (by lia),if_pos rfl,q3]at q1
   refine⟨?_,fun k hk=>?_⟩
   ·rw[q1,q3]
    cases back<;>rcases tb with z|z<;>rw[z]<;>rfl
   ·by_cases e:k=i
    ·subst e
     rw[zaL (by lia),if_pos rfl,q1];lia
    ·rw[zaL (by lia),if_neg (Ne.symm e)];exact h2 k (by lia)
  ·have on':¬(r.2=f.1∨r.2=f.2):=by rw[h1];exact on
   rw[if_neg on]at q1 ⊢
   rw[if_neg on']
   refine⟨h1,fun k hk=>?_⟩
   by_cases e:k=i
   ·subst e;rw[q1,q3]
   ·exact h2 k (by lia)
theorem undo {back:Bool}{fs:List (Nat × Nat)}{ts:List Int}{lane:Nat}(tl:ts.length=fs.length) (bits:∀ t∈ts,t=0∨t=1) :
  (zaf (!back) fs (zaf back fs ts lane fs.length).1 lane fs.length).1=ts∧(zaf (!back) fs (zaf back fs ts lane fs.length).1 lane fs.length).2=(zaf back fs ts lane fs.length).2:=by
 obtain⟨h1,h2⟩:=zf8 (back:=back) (fs:=fs) (lane:=lane) tl bits fs.length (Nat.le_refl _)
 refine⟨zbp (by rw[zaw,zaw]) fun p hp=>?_,h1⟩
 rw[zaw,zaw,tl]at hp
 exact h2 p hp
end Bn
namespace K83
open PySem L2 Own Bn
abbrev zet:Stmt:=top 64
def zdd:Sp:=fun vs H Q _=>∃ l r fr er ps N tr ts,vs=[.ref l,.ref r,.ref tr]∧PkAt H l∧Nt.Ok N∧NetAt H r fr er ps N∧H tr=some (.tup (List.map V.int ts))∧ts.length=N.forks.length∧(∀ t∈ts,t=0∨t=1)∧∀ H',PkAt H' l→But l H H'→Q (.bl true) H'
theorem deqP {K:PySem.W.Frag}{H:Hp}{a b:Addr}{xs:List Int}{n:Int}(h1:H a=some (.tup (List.map V.int xs))) (h2:H b=some (.tup (List.map V.int xs))) (i:Nat) (u v:V) (hu:[V.ref a,V.int n][i]?=some u) (hv:[V.ref b,V.int n][i]?=some v):DEq K H 2 u v:=by
 have il:=(List.getElem?_eq_some_iff.mp hu).1
 simp only[List.length_cons,List.length_nil]at il
 rcases i with _|_|i
 ·obtain rfl:=Option.some.inj hu
  obtain rfl:=Option.some.inj hv
  exact deqT h1 h2
 ·obtain rfl:=Option.some.inj hu
  obtain rfl:=Option.some.inj hv
  exact .inl ⟨rfl,rfl⟩
 ·lia
section
variable {P:Program}{w:World}{K:PySem.W.Frag}{mg:Str→Option Value}{base:Heap}
theorem scUd:FnScope ["_law_left_here","_law_net_here","_law_turns","_law_lane","_law_there","_law_end","_law_back","_law_other"] ["_law_left_here","_law_net_here","_law_turns"] (zad zet):=⟨rfl,rfl,rfl,by decide +kernel,rfl,by decide +kernel,by decide +kernel⟩
theorem zg1 {f fK fP fB:Addr}{fd dK dP dB:FuncData}(F:Fun K "_law_undone" "_law_undone" zet f fd) (G:Mgs mg) (UK:Use P w K mg base "_law_pick" ["_law_left_here","_law_many_here"] 1 zbs fK dK) (UP:Use P w K mg base "passed" ["net","turns","lane"] 3 (zb6 false) fP dP) (UB:Use P w K mg base "passed_back" ["net","turns","lane"] 3 (zb6 true) fB dB) :
  FnOk P w K mg base CX0 4 f fd ["_law_left_here","_law_net_here","_law_turns"] zdd:=by
 refine F.ok scUd (fun vs H Q E h=>?_) (fun cdv A outer s H vs Q E hr h=>?_)
 ·obtain⟨l,r,fr,er,ps,N,tr,ts,rfl,_⟩:=h
  rfl
 obtain⟨l,r,fr,er,ps,N,tr,ts,rfl,S,ok,na,htr,tl,bits,k⟩:=h
 have hr1:Room 1 _:=hr.mono (by decide)
 have hr3:Room 3 _:=hr.mono (by decide)
 have l1:=ok.l1
 have l16:=ok.l16
 refine⟨_,(@pss_cons _ _ _ _ _ (@ps_set _ _ 3 _ _ _ _ scUd.nd rfl (.inl rfl) (@pe_call _ _ _ _ _ _ _ _ _ _ _ _ _ _ _ _ UK.ok hr1 (by rfl) UK.m UK.kp UK.b .nil pass0 (@pa_cons _ _ _ _ _ (@pv _ 0 _ _ (by rfl) (by first|exact Or.inl rfl|exact Or.inr (.inl rfl)|exact Or.inr (.inr rfl)) (by decide) (by decide)) (@pa_cons _ _ _ _ _ (@pe_ix _ _ _ _ _ _ _ ix_tup (@pv _ 1 _ _ (by rfl) (by first|exact Or.inl rfl|exact Or.inr (.inl rfl)|exact Or.inr (.inr rfl)) (by decide) (by decide)) pe_int (fun _ _=>rfl)) pa_nil (by rfl)) (by rfl)) (by decide) (by rfl) (by rfl)) (by rfl) (by first|exact .inl rfl|exact .inr rfl|assumption)) (@pss_cons _ _ _ _ _ (@ps_asg _ _ _ _ _ _ (@pe_call _ _ _ _ _ _ _ _ _ _ _ _ _ _ _ _ UP.ok hr3 (by rfl) UP.m UP.kp UP.b .nil pass0 (@pa_cons _ _ _ _ _ (@pv _ 1 _ _ (by rfl) (by first|exact Or.inl rfl|exact Or.inr (.inl rfl)|exact Or.inr (.inr rfl)) (by decide) (by decide)) (@pa_cons _ _ _ _ _ (@pv _ 2 _ _ (by rfl) (by first|exact Or.inl rfl|exact Or.inr (.inl rfl)|exact Or.inr (.inr rfl)) (by decide) (by decide)) (@pa_cons _ _ _ _ _ (@pv _ 3 _ _ (by rfl) (by first|exact Or.inl rfl|exact Or.inr (.inl rfl)|exact Or.inr (.inr rfl)) (by decide) (by decide)) pa_nil (by rfl)) (by rfl)) (by rfl)) (by decide) (by rfl) (by rfl)) (@pg_tup _ _ _ _ _ _ rfl (@pgs_cons _ _ _ _ _ (@pg_name _ _ 4 _ scUd.nd rfl (.inl rfl) (by first|exact .inl rfl|exact .inr rfl|assumption)) (@pgs_cons _ _ _ _ _ (@pg_name _ _ 5 _ scUd.nd rfl (.inl rfl) (by first|exact .inl rfl|exact .inr rfl|assumption)) pgs_nil (by rfl)) (by rfl)) (by rfl) (by rfl)) (by rfl) (by rfl) (by rfl)) (@pss_cons _ _ _ _ _ (@ps_asg _ _ _ _ _ _ (@pe_call _ _ _ _ _ _ _ _ _ _ _ _ _ _ _ _ UB.ok hr3 (by rfl) UB.m UB.kp UB.b .nil pass0 (@pa_cons _ _ _ _ _ (@pv _ 1 _ _ (by rfl) (by first|exact Or.inl rfl|exact Or.inr (.inl rfl)|exact Or.inr (.inr rfl)) (by decide) (by decide)) (@pa_cons _ _ _ _ _ (@pv _ 2 _ _ (by rfl) (by first|exact Or.inl rfl|exact Or.inr (.inl rfl)|exact Or.inr (.inr rfl)) (by decide) (by decide)) (@pa_cons _ _ _ _ _ (@pv _ 3 _ _ (by rfl) (by first|exact Or.inl rfl|exact Or.inr (.inl rfl)|exact Or.inr (.inr rfl)) (by decide) (by decide)) pa_nil (by rfl)) (by rfl)) (by rfl)) (by decide) (by rfl) (by rfl)) (@pg_tup _ _ _ _ _ _ rfl (@pgs_cons _ _ _ _ _ (@pg_name _ _ 6 _ scUd.nd rfl (.inl rfl) (by first|exact .inl rfl|exact .inr rfl|assumption)) (@pgs_cons _ _ _ _ _ (@pg_name _ _ 7 _ scUd.nd rfl (.inl rfl) (by first|exact .inl rfl|exact .inr rfl|assumption)) pgs_nil (by rfl)) (by rfl)) (by rfl) (by rfl)) (by rfl) (by rfl) (by rfl)) (@pss_one _ _ _ (@ps_ret _ _ _ _ (@zbb _ _ _ _ _ _ _ (@zaS _ _ _ _ _ _ _ _ (ziP hr.units) (@pe_call _ _ _ _ _ _ _ _ _ _ _ _ _ _ _ _ UB.ok hr3 (by rfl) UB.m UB.kp UB.b .nil pass0 (@pa_cons _ _ _ _ _ (@pv _ 1 _ _ (by rfl) (by first|exact Or.inl rfl|exact Or.inr (.inl rfl)|exact Or.inr (.inr rfl)) (by decide) (by decide)) (@pa_cons _ _ _ _ _ (@pv _ 4 _ _ (by rfl) (by first|exact Or.inl rfl|exact Or.inr (.inl rfl)|exact Or.inr (.inr rfl)) (by decide) (by decide)) (@pa_cons _ _ _ _ _ (@pv _ 3 _ _ (by rfl) (by first|exact Or.inl rfl|exact Or.inr (.inl rfl)|exact Or.inr (.inr rfl)) (by decide) (by decide)) pa_nil (by rfl)) (by rfl)) (by rfl)) (by decide) (by rfl) (by rfl)) (@pe_tup _ _ _ _ _ (@pa_cons _ _ _ _ _ (@pv _ 2 _ _ (by rfl) (by first|exact Or.inl rfl|exact Or.inr (.inl rfl)|exact Or.inr (.inr rfl)) (by decide) (by decide)) (@pa_cons _ _ _ _ _ (@pv _ 5 _ _ (by rfl) (by first|exact Or.inl rfl|exact Or.inr (.inl rfl)|exact Or.inr (.inr rfl)) (by decide) (by decide)) pa_nil (by rfl)) (by rfl))) (nomark _)) (@zbh _ _ _ _ _ (@zaS _ _ _ _ _ _ _ _ (ziP hr.units) (@pe_call _ _ _ _ _ _ _ _ _ _ _ _ _ _ _ _ UP.ok hr3 (by rfl) UP.m UP.kp UP.b .nil pass0 (@pa_cons _ _ _ _ _ (@pv _ 1 _ _ (by rfl) (by first|exact Or.inl rfl|exact Or.inr (.inl rfl)|exact Or.inr (.inr rfl)) (by decide) (by decide)) (@pa_cons _ _ _ _ _ (@pv _ 6 _ _ (by rfl) (by first|exact Or.inl rfl|exact Or.inr (.inl rfl)|exact Or.inr (.inr rfl)) (by decide) (by decide)) (@pa_cons _ _ _ _ _ (@pv _ 3 _ _ (by rfl) (by first|exact Or.inl rfl|exact Or.inr (.inl rfl)|exact Or.inr (.inr rfl)) (by decide) (by decide)) pa_nil (by rfl)) (by rfl)) (by rfl)) (by decide) (by rfl) (by rfl)) (@pe_tup _ _ _ _ _ (@pa_cons _ _ _ _ _ (@pv _ 2 _ _ (by rfl) (by first|exact Or.inl rfl|exact Or.inr (.inl rfl)|exact Or.inr (.inr rfl)) (by decide) (by decide)) (@pa_cons _ _ _ _ _ (@pv _ 7 _ _ (by rfl) (by first|exact Or.inl rfl|exact Or.inr (.inl rfl)|exact Or.inr (.inr rfl)) (by decide) (by decide)) pa_nil (by rfl)) (by rfl))) (nomark _))))))))),?_⟩
 refine⟨_,rfl,_,rfl,r,_,_,_,rfl,rfl,SqT.of na.net,rfl,l,_,rfl,by lia,by lia,S,fun lane H1 hl S1 B1=>?_⟩
 have T1:=B1.tups S
 have ll:lane<N.lanes:=by lia
 refine⟨_,rfl,_,rfl,_,rfl,r,fr,er,ps,N,tr,ts,lane,rfl,ok,na.tups T1,T1 _ _ htr,tl,bits,ll,fun p tr2 H2 s2 hp ht2=>?_⟩
 refine⟨p,_,rfl,SqT.of hp,rfl,_,_,rfl,_,_,rfl,rfl,?_⟩
 have T2:=T1.trans (Tups.of s2)
 refine⟨_,rfl,_,rfl,_,rfl,r,fr,er,ps,N,tr,ts,lane,rfl,ok,na.tups T2,T2 _ _ htr,tl,bits,ll,fun p3 tr3 H3 s3 hp3 ht3=>?_⟩
 refine⟨p3,_,rfl,SqT.of hp3,rfl,_,_,rfl,_,_,rfl,rfl,?_⟩
 have T3:=T2.trans (Tups.of s3)
 have u1:=undo (back:=false) (lane:=lane) tl bits
 have u2:=undo (back:=true) (lane:=lane) tl bits
 have q2:=s3 _ _ ht2
 refine⟨_,rfl,_,rfl,_,rfl,r,fr,er,ps,N,tr2,_,lane,rfl,ok,na.tups T3,q2,by rw[zaw,tl],zbo bits _,ll,fun p4 tr4 H4 s4 hp4 ht4=>?_⟩
 refine⟨_,rfl,_,rfl,(by show 2≤sizeLine;decide),fun q hq=>?_⟩
 have s5:=zaa hq (.tup [.ref tr,.int (N.ends.idxOf (zaf false N.forks ts lane N.forks.length).2:Nat)])
 have T5:=T3.trans ((Tups.of s4).trans (Tups.of s5))
 have e4:(zaf true N.forks (zaf false N.forks ts lane N.forks.length).1 lane N.forks.length)=(ts,(zaf false N.forks ts lane N.forks.length).2):=Prod.ext u1.1 u1.2
 rw[e4]at hp4 ht4
 refine⟨2,p4,q,_,_,by decide,rfl,rfl,SqT.of (s5 _ _ hp4),SqT.of zab,rfl,deqP (s5 _ _ ht4) (T5 _ _ htr),?_⟩
 refine⟨_,rfl,?_⟩
 have q3:=T5.trans (Tups.refl _)
 have h3:=(s4.trans s5) _ _ ht3
 refine iteT ⟨_,rfl,_,rfl,_,rfl,r,fr,er,ps,N,tr3,_,lane,rfl,ok,na.tups T5,h3,by rw[zaw,tl],zbo bits _,ll,fun p6 tr6 H6 s6 hp6 ht6=>?_⟩
 refine⟨_,rfl,_,rfl,(by show 2≤sizeLine;decide),fun z hz=>?_⟩
 have s7:=zaa hz (.tup [.ref tr,.int (N.ends.idxOf (zaf true N.forks ts lane N.forks.length).2:Nat)])
 have e6:(zaf false N.forks (zaf true N.forks ts lane N.forks.length).1 lane N.forks.length)=(ts,(zaf true N.forks ts lane N.forks.length).2):=Prod.ext u2.1 u2.2
 rw[e6]at hp6 ht6
 have T7:=T5.trans ((Tups.of s6).trans (Tups.of s7))
 have s17:=s2.trans (s3.trans (s4.trans (s5.trans (s6.trans s7))))
 exact⟨2,p6,z,_,_,by decide,rfl,rfl,SqT.of (s7 _ _ hp6),SqT.of zab,rfl,deqP (s7 _ _ ht6) (T7 _ _ htr),k _ (S1.keep s17) (B1.trans (But.of s17))⟩
end
abbrev zgz:Stmt:=top 50
abbrev zgB:Stmt:=top 51
def zei:Sp:=fun vs H Q _=>∃ sc tr gr ou qs ts gs os,vs=[.ref sc]∧SceneAt H sc tr gr ou qs ts gs os∧Q (.bl (decide (gs.length=0))) H
def zej:Sp:=fun vs H Q _=>∃ r fr er ps N p xs ds,vs=[.ref r,.ref p]∧Nt.Ok N∧NetAt H r fr er ps N∧H p=some (.tup xs)∧Dds H xs ds∧(∀ d∈ds,DdIs N d)∧∀ c H',Same H H'→H' c=some (.tup ((putC N ds).map V.int))→Q (.ref c) H'
theorem zj7 {H:Hp}{N:Nt}{t:Addr}:∀ {dd:Dd},DeedAt H t dd→DdIs N dd→zbA H N.lanes (.ref t)=true
 | .put lane many,da,⟨ll,m0,m1,m2⟩=>by
  unfold zbA
  rw[zaQ da]
  show (if zaK "put" (.str "put")=true then zbu N.lanes (.int lane) && zdY (.int many) else zaK "join" (.str "put") && (zce 0 (.int many) && lowV (.int lane) (.int many)))=true
  rw[if_pos (by decide)]
  show ((decide ((0:Int)≤lane) && decide ((lane:Int)<N.lanes)) && (decide ((if many<0 then -many else many)<10 ^ 30) && !decide (many=0)))=true
  rw[decide_eq_true (by lia),decide_eq_true (by lia),decide_eq_true (by split<;>lia),decide_eq_false m0];rfl
 | .step place,da,_=>by
  unfold zbA
  rw[zaQ da]
  show (zaK "step" (.str "step") && zce 0 (.int place))=true
  rw[show zaK "step" (.str "step")=true by decide,Bool.true_and]
  exact decide_eq_true (show (0:Int)≤(place:Int) from Int.natCast_nonneg _)
 | .join i j,da,ij=>by
  have ij':i<j:=ij
  unfold zbA
  rw[zaQ da]
  show (if zaK "put" (.str "join")=true then zbu N.lanes (.int i) && zdY (.int j) else zaK "join" (.str "join") && (zce 0 (.int j) && lowV (.int i) (.int j)))=true
  rw[if_neg (by decide),show zaK "join" (.str "join")=true by decide]
  show (decide ((0:Int)≤j) && (decide ((0:Int)≤i) && decide ((i:Int)<j)))=true
  rw[decide_eq_true (by lia),decide_eq_true (by lia),decide_eq_true (by lia)];rfl
def zdH:Dd→Str
 | .put _ _=>"put"
 | .step _=>"step"
 | .join _ _=>"join"
def ziJ:Dd→List V
 | .put lane many=>[.int lane,.int many]
 | .step place=>[.int place]
 | .join i j=>[.int i,.int j]
theorem zcm {H:Hp}{t:Addr}:∀ {dd:Dd},DeedAt H t dd→H t=some (.tup (.str (zdH dd)::ziJ dd))
 | .put _ _,h=>h
 | .step _,h=>h
 | .join _ _,h=>h
theorem ziD {K:PySem.W.Frag}{H:Hp}{t:Addr}{dd:Dd}(da:DeedAt H t dd):AnyT K H (.ref t)∧∀ xs,zbr H (.ref t)=some xs→∀ y∈xs,AnyT K H y:=by
 have h:=zcm da
 refine⟨⟨_,.tup h,_,rfl⟩,fun xs hx y hy=>?_⟩
 rw[zaQ h]at hx
 obtain rfl:=Option.some.inj hx
 obtain rfl|hy:=List.mem_cons.mp hy
 ·exact⟨_,.str _,_,rfl⟩
 ·have:∃ i:Int,y=.int i:=by
   cases dd<;>simp only[ziJ,List.mem_cons,List.mem_nil_iff,or_false]at hy
   ·rcases hy with rfl|rfl<;>exact⟨_,rfl⟩
   ·subst hy;exact⟨_,rfl⟩
   ·rcases hy with rfl|rfl<;>exact⟨_,rfl⟩
  obtain⟨i,rfl⟩:=this
  exact⟨_,.int _,_,rfl⟩
section
variable {P:Program}{w:World}{K:PySem.W.Frag}{mg:Str→Option Value}{base:Heap}
theorem scSl:FnScope ["scene"] ["scene"] (zad zgz):=⟨rfl,rfl,rfl,by decide +kernel,rfl,by decide +kernel,by decide +kernel⟩
theorem zib {f:Addr}{fd:FuncData}(F:Fun K "is_still" "is_still" zgz f fd) (G:Mgs mg):FnOk P w K mg base CX0 1 f fd ["scene"] zei:=by
 refine F.ok scSl (fun vs H Q E h=>?_) (fun cdv A outer s H vs Q E hr h=>?_)
 ·obtain⟨sc,tr,gr,ou,qs,ts,gs,os,rfl,_⟩:=h
  rfl
 obtain⟨sc,tr,gr,ou,qs,ts,gs,os,rfl,sa,k⟩:=h
 refine⟨_,(@pss_one _ _ _ (@ps_ret _ _ _ _ (@zaS _ _ _ _ _ _ _ _ op_eq (@pe_callB _ _ _ _ _ _ _ _ _ call_len_seq (by rfl) G.len PySem.boot_len (@pa_cons _ _ _ _ _ (@pe_ix _ _ _ _ _ _ _ ix_tup (@pv _ 0 _ _ (by rfl) (by first|exact Or.inl rfl|exact Or.inr (.inl rfl)|exact Or.inr (.inr rfl)) (by decide) (by decide)) pe_int (fun _ _=>rfl)) pa_nil (by rfl)) (by decide) (by decide) (by rfl) (by rfl)) pe_int (nomark _)))),?_⟩
 refine⟨_,rfl,sc,_,1,_,rfl,rfl,SqT.of sa.sc,rfl,gr,_,rfl,.inr (SqT.of sa.gr),rfl,?_⟩
 rw[show decide (V.int (qs.length:Int)=V.int 0)=decide (gs.length=0) from decide_eq_decide.mpr ⟨fun h=>by have:=V.int.inj h;rw[sa.grs.len]at this;lia,fun h=>by rw[sa.grs.len,h];rfl⟩]
 exact k
theorem scPi:FnScope ["net","deeds","counts","deed"] ["net","deeds"] (zad zgB):=⟨rfl,rfl,rfl,by decide +kernel,rfl,by decide +kernel,by decide +kernel⟩
theorem zid {f fD:Addr}{fd dD:FuncData}(F:Fun K "put_in" "put_in" zgB f fd) (G:Mgs mg) (UDe:Use P w K mg base "is_deed" ["net","thing"] 4 (ze9 K) fD dD):FnOk P w K mg base CX0 5 f fd ["net","deeds"] zej:=by
 refine F.ok scPi (fun vs H Q E h=>?_) (fun cdv A outer s H vs Q E hr h=>?_)
 ·obtain⟨r,fr,er,ps,N,p,xs,ds,rfl,_⟩:=h
  rfl
 obtain⟨r,fr,er,ps,N,p,xs,ds,rfl,ok,na,hp,dx,dis,k⟩:=h
 refine⟨_,(@pss_cons _ _ _ _ _ (@ps_set _ _ 2 _ _ _ _ scPi.nd rfl (.inl rfl) (@pe_op _ _ _ _ _ _ _ _ zdU (@zaz _ _ _ _ (@pa_cons _ _ _ _ _ pe_int pa_nil (by rfl))) (@pe_ix _ _ _ _ _ _ _ ix_tup (@pv _ 0 _ _ (by rfl) (by first|exact Or.inl rfl|exact Or.inr (.inl rfl)|exact Or.inr (.inr rfl)) (by decide) (by decide)) pe_int (fun _ _=>rfl))) (by rfl) (by first|exact .inl rfl|exact .inr rfl|assumption)) (@pss_cons _ _ _ _ _ (@ps_for _ _ _ _ _ _ _ _ PassesOwn.never rfl (@zb9 _ _ _ _ (@pv _ 1 _ _ (by rfl) (by first|exact Or.inl rfl|exact Or.inr (.inl rfl)|exact Or.inr (.inr rfl)) (by decide) (by decide))) (@pg_name _ _ 3 _ scPi.nd rfl (.inl rfl) (by first|exact .inl rfl|exact .inr rfl|assumption)) (@pss_one _ _ _ (@ps_if _ _ _ _ _ _ _ _ (@zfe _ _ _ _ _ _ _ (@pt_truth _ _ _ (@pe_call _ _ _ _ _ _ _ _ _ _ _ _ _ _ _ _ UDe.ok hr (by rfl) UDe.m UDe.kp UDe.b .nil pass0 (@pa_cons _ _ _ _ _ (@pv _ 0 _ _ (by rfl) (by first|exact Or.inl rfl|exact Or.inr (.inl rfl)|exact Or.inr (.inr rfl)) (by decide) (by decide)) (@pa_cons _ _ _ _ _ (@pv _ 3 _ _ (by rfl) (by first|exact Or.inl rfl|exact Or.inr (.inl rfl)|exact Or.inr (.inr rfl)) (by decide) (by decide)) pa_nil (by rfl)) (by rfl)) (by decide) (by rfl) (by rfl)) (fun _=>rfl)) (@zdo _ _ _ _ (@pt_cmpR _ _ _ _ _ _ _ _ op_eq (@pe_ix _ _ _ _ _ _ _ ix_tup (@pv _ 3 _ _ (by rfl) (by first|exact Or.inl rfl|exact Or.inr (.inl rfl)|exact Or.inr (.inr rfl)) (by decide) (by decide)) pe_int (fun _ _=>rfl)) pe_str (nomark _)))).pt (@pss_one _ _ _ (@ps_augS _ _ _ _ _ _ _ _ _ _ _ _ _ (@pv _ 2 _ _ (by rfl) (by first|exact Or.inl rfl|exact Or.inr (.inl rfl)|exact Or.inr (.inr rfl)) (by decide) (by decide)) (@pe_ix _ _ _ _ _ _ _ ix_tup (@pv _ 3 _ _ (by rfl) (by first|exact Or.inl rfl|exact Or.inr (.inl rfl)|exact Or.inr (.inr rfl)) (by decide) (by decide)) pe_int (fun _ _=>rfl)) get_list (@pe_ix _ _ _ _ _ _ _ ix_tup (@pv _ 3 _ _ (by rfl) (by first|exact Or.inl rfl|exact Or.inr (.inl rfl)|exact Or.inr (.inr rfl)) (by decide) (by decide)) pe_int (fun _ _=>rfl)) ip_add set_list (by intros;rfl))) pss_nil)) (by intro _;rfl)) (@pss_one _ _ _ (@ps_ret _ _ _ _ (@pe_callTy _ _ _ _ _ _ _ _ _ call_tuple_of (by rfl) G.tuple (by rfl) (@pa_cons _ _ _ _ _ (@pv _ 2 _ _ (by rfl) (by first|exact Or.inl rfl|exact Or.inr (.inl rfl)|exact Or.inr (.inr rfl)) (by decide) (by decide)) pa_nil (by rfl)) (by decide) (by decide) (by rfl) (by rfl)))))),?_⟩
 have l16:=ok.l16
 have xl:=dx.len
 refine⟨(by show 1≤sizeLine;decide),fun p1 hp1=>?_⟩
 have s1:=zaa hp1 (.lst [.int 0])
 have na1:=na.tups (Tups.of s1)
 refine⟨_,rfl,r,_,0,_,rfl,rfl,SqT.of na1.net,rfl,p1,N.lanes,_,rfl,rfl,zab,by lia,by lia,by show 1*_≤sizeLine;rw[sizeLine_eq];lia,fun lc hlc=>?_⟩
 rw[Int.toNat_natCast,zkb]
 have s2:=s1.trans (zaa hlc (.lst ((List.replicate N.lanes (0:Int)).map V.int)))
 have hlc0:H lc=none:=by
  cases e:H lc with
  | none=>rfl
  | some o=>rw[s1 _ _ e]at hlc;cases hlc
 refine⟨_,rfl,p,rfl,⟨_,SqT.of (s2 _ _ hp)⟩,?_⟩
 refine zeU (K:=K) (a:=p) (xs:=xs) (fun i σ H2=>(∃ v3,σ=[some (.ref r),some (.ref p),some (.ref lc),v3])∧Same H H2∧H2 lc=some (.lst ((putC N (ds.take i)).map V.int)))
  ⟨⟨_,rfl⟩,s2,zab⟩ (fun i σ H2 _ ⟨_,s2,_⟩=>SqT.of (s2 _ _ hp)) ?_ ?_
 ·rintro i x σ H2 hx ⟨⟨v3,rfl⟩,s2,h2⟩
  obtain⟨t,dd,rfl,ed,da⟩:=(dx.tups (Tups.of s2)).get hx
  have di:=dis dd (List.mem_of_getElem? ed)
  obtain⟨an,ay⟩:=ziD (K:=K) da
  have nx:=zdT N ed
  have cl:=zff N (ds.take i)
  refine⟨_,rfl,_,rfl,r,fr,er,ps,N,.ref t,rfl,na.tups (Tups.of s2),an,ay,?_⟩
  rw[zj7 da di]
  refine⟨true,rfl,iteT ⟨_,rfl,t,_,0,.str (zdH dd),rfl,rfl,SqT.of (zcm da),zaB (j:=0) rfl,rfl,_,rfl,?_⟩⟩
  obtain⟨w1,w2,w3⟩:=zkW
  cases dd with
  | put lane many =>
   rw[show decide (V.str (zdH (.put lane many))=V.str "put")=true from decide_eq_true rfl]
   have ll:lane<N.lanes:=di.1
   refine iteT ⟨_,rfl,_,rfl,t,_,1,_,rfl,rfl,SqT.of (zcm da),rfl,?_⟩
   refine⟨lc,_,lane,.int ((putC N (ds.take i)).getD lane 0),rfl,rfl,SqL.of h2,(by rw[List.getElem?_map,List.getElem?_eq_getElem (by lia),List.getD_eq_getElem?_getD,List.getElem?_eq_getElem (by lia)];rfl),_,rfl,t,_,2,_,rfl,rfl,SqT.of (zcm da),rfl,_,_,rfl,rfl,?_⟩
   refine⟨lc,_,_,lane,rfl,rfl,h2,zdv (by rw[List.length_map];lia),⟨_,rfl⟩,fun b o e=>?_,?_⟩
   ·rw[zae (zac e hlc0)];exact s2 _ _ e
   ·rw[zab,zbn,nx];rfl
  | step place =>
   rw[show decide (V.str (zdH (.step place))=V.str "put")=false from decide_eq_false w1]
   exact iteF ⟨⟨_,rfl⟩,s2,by rw[nx];exact h2⟩
  | join a b =>
   rw[show decide (V.str (zdH (.join a b))=V.str "put")=false from decide_eq_false w2]
   exact iteF ⟨⟨_,rfl⟩,s2,by rw[nx];exact h2⟩
 ·rintro σ H2 ⟨⟨v3,rfl⟩,s2,h2⟩
  rw[xl,List.take_length]at h2
  refine⟨_,rfl,lc,_,rfl,.inl ⟨SqL.of h2,fun c hc=>?_⟩⟩
  exact k c _ (s2.trans (zaa hc _)) zab
end
abbrev zjm:Stmt:=top 32
abbrev zgy:Stmt:=top 33
abbrev zeB:Stmt:=top 34
section
variable {P:Program}{w:World}{K:PySem.W.Frag}{mg:Str→Option Value}{base:Heap}
theorem scF:FnScope ["net","counts","on_lanes","turns","one","other","come"] ["net","counts"] (zad zeB):=⟨rfl,rfl,rfl,by decide +kernel,rfl,by decide +kernel,by decide +kernel⟩
theorem zg9 {f:Addr}{fd:FuncData}(F:Fun K "flowed" "flowed" zeB f fd) (G:Mgs mg):FnOk P w K mg base CX0 1 f fd ["net","counts"] zch:=by
 refine F.ok scF (fun vs H Q E h=>?_) (fun cdv A outer s H vs Q E hr h=>?_)
 ·obtain⟨r,fr,er,ps,N,c,cs,rfl,_⟩:=h
  rfl
 obtain⟨r,fr,er,ps,N,c,cs,rfl,ok,na,hc,cl,k⟩:=h
 refine⟨_,(@pss_cons _ _ _ _ _ (@ps_set _ _ 2 _ _ _ _ scF.nd rfl (.inl rfl) (@pe_callTy _ _ _ _ _ _ _ _ _ zbk (by rfl) G.list (by rfl) (@pa_cons _ _ _ _ _ (@pv _ 1 _ _ (by rfl) (by first|exact Or.inl rfl|exact Or.inr (.inl rfl)|exact Or.inr (.inr rfl)) (by decide) (by decide)) pa_nil (by rfl)) (by decide) (by decide) (by rfl) (by rfl)) (by rfl) (by first|exact .inl rfl|exact .inr rfl|assumption)) (@pss_cons _ _ _ _ _ (@ps_set _ _ 3 _ _ _ _ scF.nd rfl (.inl rfl) (@zaz _ _ _ _ pa_nil) (by rfl) (by first|exact .inl rfl|exact .inr rfl|assumption)) (@pss_cons _ _ _ _ _ (@ps_for _ _ _ _ _ _ _ _ PassesOwn.never rfl (@zb9 _ _ _ _ (@pe_ix _ _ _ _ _ _ _ ix_tup (@pv _ 0 _ _ (by rfl) (by first|exact Or.inl rfl|exact Or.inr (.inl rfl)|exact Or.inr (.inr rfl)) (by decide) (by decide)) pe_int (fun _ _=>rfl))) (@pg_tup _ _ _ _ _ _ rfl (@pgs_cons _ _ _ _ _ (@pg_name _ _ 4 _ scF.nd rfl (.inl rfl) (by first|exact .inl rfl|exact .inr rfl|assumption)) (@pgs_cons _ _ _ _ _ (@pg_name _ _ 5 _ scF.nd rfl (.inl rfl) (by first|exact .inl rfl|exact .inr rfl|assumption)) pgs_nil (by rfl)) (by rfl)) (by rfl) (by rfl)) (@pss_cons _ _ _ _ _ (@ps_set _ _ 6 _ _ _ _ scF.nd rfl (.inl rfl) (@pe_op _ _ _ _ _ _ _ _ op_add (@pe_ix _ _ _ _ _ _ _ ix_list (@pv _ 2 _ _ (by rfl) (by first|exact Or.inl rfl|exact Or.inr (.inl rfl)|exact Or.inr (.inr rfl)) (by decide) (by decide)) (@pv _ 4 _ _ (by rfl) (by first|exact Or.inl rfl|exact Or.inr (.inl rfl)|exact Or.inr (.inr rfl)) (by decide) (by decide)) (fun _ _=>rfl)) (@pe_ix _ _ _ _ _ _ _ ix_list (@pv _ 2 _ _ (by rfl) (by first|exact Or.inl rfl|exact Or.inr (.inl rfl)|exact Or.inr (.inr rfl)) (by decide) (by decide)) (@pv _ 5 _ _ (by rfl) (by first|exact Or.inl rfl|exact Or.inr (.inl rfl)|exact Or.inr (.inr rfl)) (by decide) (by decide)) (fun _ _=>rfl))) (by rfl) (by first|exact .inl rfl|exact .inr rfl|assumption)) (@pss_cons _ _ _ _ _ (@ps_asg _ _ _ _ _ _ (@pe_op _ _ _ _ _ _ _ _ op_fdiv (@pe_op _ _ _ _ _ _ _ _ op_add (@pv _ 6 _ _ (by rfl) (by first|exact Or.inl rfl|exact Or.inr (.inl rfl)|exact Or.inr (.inr rfl)) (by decide) (by decide)) pe_int) pe_int) (@pg_sub _ _ _ _ _ _ _ (@pv _ 2 _ _ (by rfl) (by first|exact Or.inl rfl|exact Or.inr (.inl rfl)|exact Or.inr (.inr rfl)) (by decide) (by decide)) (@pv _ 4 _ _ (by rfl) (by first|exact Or.inl rfl|exact Or.inr (.inl rfl)|exact Or.inr (.inr rfl)) (by decide) (by decide)) set_list (by intro _;rfl)) (by rfl) (by rfl) (by rfl)) (@pss_cons _ _ _ _ _ (@ps_asg _ _ _ _ _ _ (@pe_op _ _ _ _ _ _ _ _ op_fdiv (@pv _ 6 _ _ (by rfl) (by first|exact Or.inl rfl|exact Or.inr (.inl rfl)|exact Or.inr (.inr rfl)) (by decide) (by decide)) pe_int) (@pg_sub _ _ _ _ _ _ _ (@pv _ 2 _ _ (by rfl) (by first|exact Or.inl rfl|exact Or.inr (.inl rfl)|exact Or.inr (.inr rfl)) (by decide) (by decide)) (@pv _ 5 _ _ (by rfl) (by first|exact Or.inl rfl|exact Or.inr (.inl rfl)|exact Or.inr (.inr rfl)) (by decide) (by decide)) set_list (by intro _;rfl)) (by rfl) (by rfl) (by rfl)) (@pss_one _ _ _ (@ps_expr _ _ _ _ (@pe_bm _ _ _ _ _ _ _ _ _ _ _ _ PySem.F.plainAttrs_list PySem.F.slot_list_append PySem.F.type_list_append mt_append (@pv _ 3 _ _ (by rfl) (by first|exact Or.inl rfl|exact Or.inr (.inl rfl)|exact Or.inr (.inr rfl)) (by decide) (by decide)) (@pa_cons _ _ _ _ _ (@pe_op _ _ _ _ _ _ _ _ op_mod (@pv _ 6 _ _ (by rfl) (by first|exact Or.inl rfl|exact Or.inr (.inl rfl)|exact Or.inr (.inr rfl)) (by decide) (by decide)) pe_int) pa_nil (by rfl)) (by rfl) (by rfl) (by rfl) (by rfl) (by rfl)) (by rfl)))))) (by intro _;rfl)) (@pss_one _ _ _ (@ps_ret _ _ _ _ (@pe_tup _ _ _ _ _ (@pa_cons _ _ _ _ _ (@pv _ 2 _ _ (by rfl) (by first|exact Or.inl rfl|exact Or.inr (.inl rfl)|exact Or.inr (.inr rfl)) (by decide) (by decide)) (@pa_cons _ _ _ _ _ (@pv _ 3 _ _ (by rfl) (by first|exact Or.inl rfl|exact Or.inr (.inl rfl)|exact Or.inr (.inr rfl)) (by decide) (by decide)) pa_nil (by rfl)) (by rfl)))))))),?_⟩
 refine⟨_,rfl,c,_,rfl,.inr (SqT.of hc),fun lo hlo=>?_⟩
 have s1:=zaa hlo (.lst (cs.map V.int))
 refine⟨(by show 0≤sizeLine;decide),fun lt hlt=>?_⟩
 have s2:=s1.trans (zaa hlt (.lst []))
 have ne:lo≠lt:=zac zab hlt
 refine⟨_,rfl,r,_,_,_,rfl,rfl,SqT.of (s2 _ _ na.net),rfl,fr,rfl,⟨_,SqT.of (s2 _ _ na.forks)⟩,?_⟩
 refine zeU (K:=K) (a:=fr) (xs:=ps) (fun i σ H2=>(∃ v4 v5 v6,σ=[some (.ref r),some (.ref c),some (.ref lo),some (.ref lt),v4,v5,v6])∧Same H H2∧H2 lo=some (.lst ((flow (N.forks.take i) cs).1.map V.int))∧H2 lt=some (.lst ((flow (N.forks.take i) cs).2.map V.int)))
  ⟨⟨_,_,_,rfl⟩,s2,by rw[zae ne];exact zab,zab⟩ (fun i σ H2 _ q=>SqT.of (q.2.1 _ _ na.forks)) ?_ ?_
 ·rintro i p σ H2 hp ⟨⟨v4,v5,v6,rfl⟩,s3,h1,h2⟩
  obtain⟨a,g,rfl,eg,ha⟩:=(na.prs.tups (Tups.of s3)).get hp
  have okg:=ok.fk g (List.mem_of_getElem? eg)
  have fl:(flow (N.forks.take i) cs).1.length=N.lanes:=by rw[zbO,cl]
  have ft:(flow (N.forks.take i) cs).2.length≤128:=by rw[zav,List.length_take];have:=ok.fm;lia
  have fx:=zbi eg cs
  generalize flow (N.forks.take i) cs=st at *
  refine⟨a,_,rfl,SqT.of ha,rfl,_,_,rfl,_,_,rfl,rfl,?_⟩
  refine⟨_,rfl,_,rfl,lo,_,_,_,rfl,rfl,SqL.of h1,zbw (by lia),_,rfl,_,rfl,lo,_,_,_,rfl,rfl,SqL.of h1,zbw (by lia),_,_,rfl,rfl,?_⟩
  refine⟨_,rfl,_,_,rfl,rfl,_,_,rfl,rfl,⟨by decide,by decide⟩,_,rfl,_,rfl,lo,_,_,g.1,rfl,rfl,h1,zdv (by rw[List.length_map];lia),?_⟩
  refine⟨_,rfl,_,_,rfl,rfl,⟨by decide,by decide⟩,_,rfl,_,rfl,lo,_,_,g.2,rfl,rfl,zab,zdv (by rw[List.length_set,List.length_map];lia),?_⟩
  have h3:upd (upd H2 lo (.lst ((st.1.map V.int).set g.1 (.int ((st.1.getD g.1 0+st.1.getD g.2 0+1) / 2))))) lo (.lst (((st.1.map V.int).set g.1 (.int ((st.1.getD g.1 0+st.1.getD g.2 0+1) / 2))).set g.2 (.int ((st.1.getD g.1 0+st.1.getD g.2 0) / 2)))) lt=some (.lst (st.2.map V.int)):=by
   rw[zae ne.symm,zae ne.symm];exact h2
  refine⟨_,rfl,.inl ⟨rfl,_,SqL.of h3⟩,_,rfl,_,_,rfl,rfl,(by show (0:Int)<2;decide),lt,_,_,rfl,rfl,h3,by rw[List.length_map];exact Nat.lt_of_le_of_lt ft (by decide),⟨_,_,_,rfl⟩,fun b o e=>?_,?_,?_⟩
  ·rw[zae (zac (s1 b o e) hlt),zae (zac e hlo),zae (zac e hlo)];exact s3 b o e
  ·rw[zae ne,zab,fx]
   unfold zaA
   rw[zbn,zbn]
  ·rw[zab,fx]
   unfold zaA
   rw[List.map_append];rfl
 ·rintro σ H2 ⟨⟨v4,v5,v6,rfl⟩,s3,h1,h2⟩
  have e:N.forks.take ps.length=N.forks:=by rw[na.prs.len];exact List.take_length
  rw[e]at h1 h2
  exact⟨_,rfl,_,rfl,(by show 2≤sizeLine;decide),fun p hp=>k p lo lt _ (s3.trans (zaa hp _)) zab (zaa hp _ _ _ h1) (zaa hp _ _ _ h2)⟩
theorem scE:FnScope ["net","counts","on_lanes","turns"] ["net","counts"] (zad zjm):=⟨rfl,rfl,rfl,by decide +kernel,rfl,by decide +kernel,by decide +kernel⟩
theorem zjI {f fF:Addr}{fd dF:FuncData}(F:Fun K "ends_of" "ends_of" zjm f fd) (G:Mgs mg) (UF:Use P w K mg base "flowed" ["net","counts"] 1 zch fF dF):FnOk P w K mg base CX0 2 f fd ["net","counts"] zgs:=by
 refine F.ok scE (fun vs H Q E h=>?_) (fun cdv A outer s H vs Q E hr h=>?_)
 ·obtain⟨r,fr,er,ps,N,c,cs,rfl,_⟩:=h
  rfl
 obtain⟨r,fr,er,ps,N,c,cs,rfl,ok,na,hc,cl,k⟩:=h
 refine⟨_,(@pss_cons _ _ _ _ _ (@ps_asg _ _ _ _ _ _ (@pe_call _ _ _ _ _ _ _ _ _ _ _ _ _ _ _ _ UF.ok hr (by rfl) UF.m UF.kp UF.b .nil pass0 (@pa_cons _ _ _ _ _ (@pv _ 0 _ _ (by rfl) (by first|exact Or.inl rfl|exact Or.inr (.inl rfl)|exact Or.inr (.inr rfl)) (by decide) (by decide)) (@pa_cons _ _ _ _ _ (@pv _ 1 _ _ (by rfl) (by first|exact Or.inl rfl|exact Or.inr (.inl rfl)|exact Or.inr (.inr rfl)) (by decide) (by decide)) pa_nil (by rfl)) (by rfl)) (by decide) (by rfl) (by rfl)) (@pg_tup _ _ _ _ _ _ rfl (@pgs_cons _ _ _ _ _ (@pg_name _ _ 2 _ scE.nd rfl (.inr rfl) (by first|exact .inl rfl|exact .inr rfl|assumption)) (@pgs_cons _ _ _ _ _ (@pg_name _ _ 3 _ scE.nd rfl (.inl rfl) (by first|exact .inl rfl|exact .inr rfl|assumption)) pgs_nil (by rfl)) (by rfl)) (by rfl) (by rfl)) (by rfl) (by rfl) (by rfl)) (@pss_one _ _ _ (@ps_ret _ _ _ _ (@pe_callTy _ _ _ _ _ _ _ _ _ call_tuple_of (by rfl) G.tuple (by rfl) (@pa_cons _ _ _ _ _ (@pe_lc _ _ _ _ none _ _ _ _ _ _ ["lane","on_lanes"] [none,some 2] rfl (@zb9 _ _ _ _ (@pe_ix _ _ _ _ _ _ _ ix_tup (@pv _ 0 _ _ (by rfl) (by first|exact Or.inl rfl|exact Or.inr (.inl rfl)|exact Or.inr (.inr rfl)) (by decide) (by decide)) pe_int (fun _ _=>rfl))) (CapOk.of (by kernel_rfl)) (fun _ _ _ _ _=>(@pg_name _ _ 0 _ (show (["lane","on_lanes"]:List Str).Nodup from by decide +kernel) rfl (.inl rfl) (.inr rfl))) (fun _ _ _ _ _=>zbx) (fun _ _ _ _ _=>(@pe_ix _ _ _ _ _ _ (rIxL K) ix_list (@pv _ 1 _ _ (by rfl) (by first|exact Or.inl rfl|exact Or.inr (.inl rfl)|exact Or.inr (.inr rfl)) (by decide) (by decide)) (@pv _ 0 _ _ (by rfl) (by first|exact Or.inl rfl|exact Or.inr (.inl rfl)|exact Or.inr (.inr rfl)) (by decide) (by decide)) (fun _ _=>rfl))) (by intro _;rfl)) pa_nil (by rfl)) (by decide) (by decide) (by rfl) (by rfl))))),?_⟩
 refine⟨_,rfl,_,rfl,r,fr,er,ps,N,c,cs,rfl,ok,na,hc,cl,fun p lo lt H1 s1 hp ho ht=>?_⟩
 refine⟨p,_,rfl,SqT.of hp,rfl,_,_,rfl,_,_,rfl,rfl,?_⟩
 have na1:=na.tups (Tups.of s1)
 refine⟨_,rfl,r,_,_,_,rfl,rfl,SqT.of na1.net,rfl,er,rfl,⟨_,SqT.of na1.ends⟩,fun l hl=>?_⟩
 have lol:lo≠l:=zac ho hl
 refine ziS (K:=K) (a:=er) (xs:=nums N.ends) (fun i acc σ H2=>(∃ v,σ=[v,some (.ref lo)])∧Same H1 H2∧H2 l=some (.lst acc)∧acc=((zau N cs).take i).map V.int) ⟨⟨_,rfl⟩,zaa hl _,zab,rfl⟩ (fun i acc σ H2 q=>⟨q.2.2.1,SqT.of (q.2.1 _ _ na1.ends)⟩) ?_ ?_
 ·rintro i x acc σ H2 hx ⟨⟨v,rfl⟩,s2,h2,rfl⟩
  have il:i<N.ends.length:=by have:=(List.getElem?_eq_some_iff.mp hx).1;rwa [zag]at this
  have ex:x=.int N.ends[i]:=by
   unfold nums at hx
   rw[List.getElem?_map,List.getElem?_eq_getElem il]at hx;exact(Option.some.inj hx).symm
  subst ex
  have lt':=zhy ok (List.getElem_mem il)
  refine⟨_,rfl,_,rfl,lo,_,_,_,rfl,rfl,SqL.of (s2 _ _ ho),zbw (by rw[zbO,cl];exact lt'),h2,?_,nx (by rw[zag];exact il) ⟨⟨_,rfl⟩,fun b o e=>?_,zab,?_⟩⟩
  ·rw[List.length_map,List.length_take];exact Nat.lt_of_le_of_lt (Nat.min_le_left _ _) (Nat.lt_of_lt_of_le (show i<1000 by have:=zdx ok;have:=ok.l16;lia) (by decide))
  ·rw[zae (zac e hl)];exact s2 b o e
  ·have el:i<(zau N cs).length:=by unfold zau;rw[List.length_map];exact il
   have eg:(zau N cs)[i]=(flow N.forks cs).1.getD N.ends[i] 0:=by simp[zau]
   rw[List.take_succ_eq_append_getElem el,List.map_append,eg];rfl
 ·rintro acc σ H2 ⟨⟨v,rfl⟩,s2,h2,rfl⟩
  refine⟨l,_,rfl,.inl ⟨SqL.of h2,fun q hq=>k q _ ((s1.trans s2).trans (zaa hq _)) ?_⟩⟩
  rw[zab,zag,List.take_of_length_le (by unfold zau;rw[List.length_map];exact Nat.le_refl _)]
theorem scU:FnScope ["net","counts","on_lanes","turns"] ["net","counts"] (zad zgy):=⟨rfl,rfl,rfl,by decide +kernel,rfl,by decide +kernel,by decide +kernel⟩
theorem zia {f fF:Addr}{fd dF:FuncData}(F:Fun K "turns_of" "turns_of" zgy f fd) (G:Mgs mg) (UF:Use P w K mg base "flowed" ["net","counts"] 1 zch fF dF):FnOk P w K mg base CX0 2 f fd ["net","counts"] zeh:=by
 refine F.ok scU (fun vs H Q E h=>?_) (fun cdv A outer s H vs Q E hr h=>?_)
 ·obtain⟨r,fr,er,ps,N,c,cs,rfl,_⟩:=h
  rfl
 obtain⟨r,fr,er,ps,N,c,cs,rfl,ok,na,hc,cl,k⟩:=h
 refine⟨_,(@pss_cons _ _ _ _ _ (@ps_asg _ _ _ _ _ _ (@pe_call _ _ _ _ _ _ _ _ _ _ _ _ _ _ _ _ UF.ok hr (by rfl) UF.m UF.kp UF.b .nil pass0 (@pa_cons _ _ _ _ _ (@pv _ 0 _ _ (by rfl) (by first|exact Or.inl rfl|exact Or.inr (.inl rfl)|exact Or.inr (.inr rfl)) (by decide) (by decide)) (@pa_cons _ _ _ _ _ (@pv _ 1 _ _ (by rfl) (by first|exact Or.inl rfl|exact Or.inr (.inl rfl)|exact Or.inr (.inr rfl)) (by decide) (by decide)) pa_nil (by rfl)) (by rfl)) (by decide) (by rfl) (by rfl)) (@pg_tup _ _ _ _ _ _ rfl (@pgs_cons _ _ _ _ _ (@pg_name _ _ 2 _ scU.nd rfl (.inl rfl) (by first|exact .inl rfl|exact .inr rfl|assumption)) (@pgs_cons _ _ _ _ _ (@pg_name _ _ 3 _ scU.nd rfl (.inl rfl) (by first|exact .inl rfl|exact .inr rfl|assumption)) pgs_nil (by rfl)) (by rfl)) (by rfl) (by rfl)) (by rfl) (by rfl) (by rfl)) (@pss_one _ _ _ (@ps_ret _ _ _ _ (@pe_callTy _ _ _ _ _ _ _ _ _ call_tuple_of (by rfl) G.tuple (by rfl) (@pa_cons _ _ _ _ _ (@pv _ 3 _ _ (by rfl) (by first|exact Or.inl rfl|exact Or.inr (.inl rfl)|exact Or.inr (.inr rfl)) (by decide) (by decide)) pa_nil (by rfl)) (by decide) (by decide) (by rfl) (by rfl))))),?_⟩
 refine⟨_,rfl,_,rfl,r,fr,er,ps,N,c,cs,rfl,ok,na,hc,cl,fun p lo lt H1 s1 hp ho ht=>?_⟩
 refine⟨p,_,rfl,SqT.of hp,rfl,_,_,rfl,_,_,rfl,rfl,?_⟩
 exact⟨_,rfl,lt,_,rfl,.inl ⟨SqL.of ht,fun q hq=>k q _ (s1.trans (zaa hq _)) zab⟩⟩
end
abbrev zez:Stmt:=top 11
theorem zjO (n:Nat):(List.replicate n [V.int 0]).flatten=(List.replicate n (0:Int)).map V.int:=by
 induction n with
 | zero=>rfl
 | succ n ih=>rw[List.replicate_succ,List.flatten_cons,ih,List.replicate_succ];rfl
def zdi:Sp:=fun vs H Q _=>∃ r fr er ps N,vs=[.ref r]∧Nt.Ok N∧NetAt H r fr er ps N∧∀ p H',Same H H'→H' p=some (.tup ((zbt N).map V.int))→Q (.ref p) H'
section
variable {P:Program}{w:World}{K:PySem.W.Frag}{mg:Str→Option Value}{base:Heap}
theorem scLy:FnScope ["net","lanes","forks","ends","reached","found","one","other","layer"] ["net"] (zad zez):=⟨rfl,rfl,rfl,by decide +kernel,rfl,by decide +kernel,by decide +kernel⟩
theorem zg7 {f:Addr}{fd:FuncData}(F:Fun K "layers" "layers" zez f fd) (G:Mgs mg):FnOk P w K mg base CX0 1 f fd ["net"] zdi:=by
 refine F.ok scLy (fun vs H Q E h=>?_) (fun cdv A outer s H vs Q E hr h=>?_)
 ·obtain⟨r,fr,er,ps,N,rfl,_⟩:=h
  rfl
 obtain⟨r,fr,er,ps,N,rfl,ok,na,k⟩:=h
 refine⟨_,(@pss_cons _ _ _ _ _ (@ps_asg _ _ _ _ _ _ (@pv _ 0 _ _ (by rfl) (by first|exact Or.inl rfl|exact Or.inr (.inl rfl)|exact Or.inr (.inr rfl)) (by decide) (by decide)) (@pg_tup _ _ _ _ _ _ rfl (@pgs_cons _ _ _ _ _ (@pg_name _ _ 1 _ scLy.nd rfl (.inl rfl) (by first|exact .inl rfl|exact .inr rfl|assumption)) (@pgs_cons _ _ _ _ _ (@pg_name _ _ 2 _ scLy.nd rfl (.inl rfl) (by first|exact .inl rfl|exact .inr rfl|assumption)) (@pgs_cons _ _ _ _ _ (@pg_name _ _ 3 _ scLy.nd rfl (.inl rfl) (by first|exact .inl rfl|exact .inr rfl|assumption)) pgs_nil (by rfl)) (by rfl)) (by rfl)) (by rfl) (by rfl)) (by rfl) (by rfl) (by rfl)) (@pss_cons _ _ _ _ _ (@ps_set _ _ 4 _ _ _ _ scLy.nd rfl (.inl rfl) (@pe_op _ _ _ _ _ _ _ _ zdU (@zaz _ _ _ _ (@pa_cons _ _ _ _ _ pe_int pa_nil (by rfl))) (@pv _ 1 _ _ (by rfl) (by first|exact Or.inl rfl|exact Or.inr (.inl rfl)|exact Or.inr (.inr rfl)) (by decide) (by decide))) (by rfl) (by first|exact .inl rfl|exact .inr rfl|assumption)) (@pss_cons _ _ _ _ _ (@ps_set _ _ 5 _ _ _ _ scLy.nd rfl (.inl rfl) (@zaz _ _ _ _ pa_nil) (by rfl) (by first|exact .inl rfl|exact .inr rfl|assumption)) (@pss_cons _ _ _ _ _ (@ps_for _ _ _ _ _ _ _ _ PassesOwn.never rfl (@zb9 _ _ _ _ (@pv _ 2 _ _ (by rfl) (by first|exact Or.inl rfl|exact Or.inr (.inl rfl)|exact Or.inr (.inr rfl)) (by decide) (by decide))) (@pg_tup _ _ _ _ _ _ rfl (@pgs_cons _ _ _ _ _ (@pg_name _ _ 6 _ scLy.nd rfl (.inl rfl) (by first|exact .inl rfl|exact .inr rfl|assumption)) (@pgs_cons _ _ _ _ _ (@pg_name _ _ 7 _ scLy.nd rfl (.inl rfl) (by first|exact .inl rfl|exact .inr rfl|assumption)) pgs_nil (by rfl)) (by rfl)) (by rfl) (by rfl)) (@pss_cons _ _ _ _ _ (@ps_set _ _ 8 _ _ _ _ scLy.nd rfl (.inl rfl) (@pe_op _ _ _ _ _ _ _ _ op_add pe_int (@pe_callB _ _ _ _ _ _ _ _ _ (zcK rfl) (by rfl) G.max (by rfl) (@pa_cons _ _ _ _ _ (@pe_ix _ _ _ _ _ _ _ ix_list (@pv _ 4 _ _ (by rfl) (by first|exact Or.inl rfl|exact Or.inr (.inl rfl)|exact Or.inr (.inr rfl)) (by decide) (by decide)) (@pv _ 6 _ _ (by rfl) (by first|exact Or.inl rfl|exact Or.inr (.inl rfl)|exact Or.inr (.inr rfl)) (by decide) (by decide)) (fun _ _=>rfl)) (@pa_cons _ _ _ _ _ (@pe_ix _ _ _ _ _ _ _ ix_list (@pv _ 4 _ _ (by rfl) (by first|exact Or.inl rfl|exact Or.inr (.inl rfl)|exact Or.inr (.inr rfl)) (by decide) (by decide)) (@pv _ 7 _ _ (by rfl) (by first|exact Or.inl rfl|exact Or.inr (.inl rfl)|exact Or.inr (.inr rfl)) (by decide) (by decide)) (fun _ _=>rfl)) pa_nil (by rfl)) (by rfl)) (by decide) (by decide) (by rfl) (by rfl))) (by rfl) (by first|exact .inl rfl|exact .inr rfl|assumption)) (@pss_cons _ _ _ _ _ (@ps_asg _ _ _ _ _ _ (@pv _ 8 _ _ (by rfl) (by first|exact Or.inl rfl|exact Or.inr (.inl rfl)|exact Or.inr (.inr rfl)) (by decide) (by decide)) (@pg_sub _ _ _ _ _ _ _ (@pv _ 4 _ _ (by rfl) (by first|exact Or.inl rfl|exact Or.inr (.inl rfl)|exact Or.inr (.inr rfl)) (by decide) (by decide)) (@pv _ 6 _ _ (by rfl) (by first|exact Or.inl rfl|exact Or.inr (.inl rfl)|exact Or.inr (.inr rfl)) (by decide) (by decide)) set_list (by intro _;rfl)) (by rfl) (by rfl) (by rfl)) (@pss_cons _ _ _ _ _ (@ps_asg _ _ _ _ _ _ (@pv _ 8 _ _ (by rfl) (by first|exact Or.inl rfl|exact Or.inr (.inl rfl)|exact Or.inr (.inr rfl)) (by decide) (by decide)) (@pg_sub _ _ _ _ _ _ _ (@pv _ 4 _ _ (by rfl) (by first|exact Or.inl rfl|exact Or.inr (.inl rfl)|exact Or.inr (.inr rfl)) (by decide) (by decide)) (@pv _ 7 _ _ (by rfl) (by first|exact Or.inl rfl|exact Or.inr (.inl rfl)|exact Or.inr (.inr rfl)) (by decide) (by decide)) set_list (by intro _;rfl)) (by rfl) (by rfl) (by rfl)) (@pss_one _ _ _ (@ps_expr _ _ _ _ (@pe_bm _ _ _ _ _ _ _ _ _ _ _ _ PySem.F.plainAttrs_list PySem.F.slot_list_append PySem.F.type_list_append mt_append (@pv _ 5 _ _ (by rfl) (by first|exact Or.inl rfl|exact Or.inr (.inl rfl)|exact Or.inr (.inr rfl)) (by decide) (by decide)) (@pa_cons _ _ _ _ _ (@pv _ 8 _ _ (by rfl) (by first|exact Or.inl rfl|exact Or.inr (.inl rfl)|exact Or.inr (.inr rfl)) (by decide) (by decide)) pa_nil (by rfl)) (by rfl) (by rfl) (by rfl) (by rfl) (by rfl)) (by rfl)))))) (by intro _;rfl)) (@pss_one _ _ _ (@ps_ret _ _ _ _ (@pe_callTy _ _ _ _ _ _ _ _ _ call_tuple_of (by rfl) G.tuple (by rfl) (@pa_cons _ _ _ _ _ (@pv _ 5 _ _ (by rfl) (by first|exact Or.inl rfl|exact Or.inr (.inl rfl)|exact Or.inr (.inr rfl)) (by decide) (by decide)) pa_nil (by rfl)) (by decide) (by decide) (by rfl) (by rfl)))))))),?_⟩
 have l1:=ok.l1
 have l16:=ok.l16
 have fm:=ok.fm
 have pl:=na.prs.len
 have tn:((N.lanes:Nat):Int).toNat=N.lanes:=by lia
 refine⟨_,rfl,r,_,rfl,SqT.of na.net,rfl,_,_,rfl,_,_,rfl,_,_,rfl,rfl,?_⟩
 refine⟨(by show 1≤sizeLine;decide),fun p1 hp1=>?_⟩
 have s1:=zaa hp1 (.lst [.int 0])
 refine⟨_,rfl,p1,N.lanes,_,rfl,rfl,zab,by lia,by lia,by show 1*_≤sizeLine;rw[sizeLine_eq];lia,fun lr hlr=>?_⟩
 have s2:=s1.trans (zaa hlr (.lst (List.replicate ((N.lanes:Int)).toNat [V.int 0]).flatten))
 have hlr0:H lr=none:=by
  cases z:H lr with
  | none=>rfl
  | some o=>exact absurd (s1 _ _ z) (by rw[hlr];exact fun w=>nomatch w)
 refine⟨(by show 0≤sizeLine;decide),fun lf hlf=>?_⟩
 have s3:=s2.trans (zaa hlf (.lst []))
 have hlf0:H lf=none:=by
  cases z:H lf with
  | none=>rfl
  | some o=>exact absurd (s2 _ _ z) (by rw[hlf];exact fun w=>nomatch w)
 have nrf:lr≠lf:=zac zab hlf
 refine⟨_,rfl,fr,rfl,⟨_,SqT.of (s3 _ _ na.forks)⟩,?_⟩
 refine zeU (K:=K) (a:=fr) (xs:=ps) (fun i σ H2=>(∃ v6 v7 v8,σ=[some (.ref r),some (.int N.lanes),some (.ref fr),some (.ref er),some (.ref lr),some (.ref lf),v6,v7,v8])∧Same H H2∧H2 lr=some (.lst ((lay N.lanes (N.forks.take i)).1.map V.int))∧H2 lf=some (.lst ((lay N.lanes (N.forks.take i)).2.map V.int)))
  ⟨⟨_,_,_,rfl⟩,s3,by rw[zae nrf,zab,tn,zjO];rfl,zab⟩ (fun i σ H2 _ q=>SqT.of (q.2.1 _ _ na.forks)) ?_ ?_
 ·rintro i p σ H2 hp ⟨⟨v6,v7,v8,rfl⟩,s4,h1,h2⟩
  obtain⟨a,g,rfl,eg,ha⟩:=(na.prs.tups (Tups.of s4)).get hp
  have okg:=ok.fk g (List.mem_of_getElem? eg)
  have ig:i<N.forks.length:=(List.getElem?_eq_some_iff.mp eg).1
  have ln:=zdu (n:=N.lanes) i N.forks (by lia)
  have lx:=zfm (n:=N.lanes) eg
  generalize lay N.lanes (N.forks.take i)=st at *
  refine⟨a,_,rfl,SqT.of ha,rfl,_,_,rfl,_,_,rfl,rfl,?_⟩
  refine⟨_,rfl,_,rfl,lr,_,_,_,rfl,rfl,SqL.of h1,zbw (by lia),_,rfl,_,rfl,lr,_,_,_,rfl,rfl,SqL.of h1,zbw (by lia),_,_,rfl,_,_,rfl,rfl,?_⟩
  refine⟨_,rfl,_,rfl,_,rfl,lr,_,_,g.1,rfl,rfl,h1,zdv (by rw[List.length_map];lia),?_⟩
  refine⟨_,rfl,_,rfl,_,rfl,lr,_,_,g.2,rfl,rfl,zab,zdv (by rw[List.length_set,List.length_map];lia),?_⟩
  have h3:∀ x y,L2.upd (L2.upd H2 lr x) lr y lf=some (.lst (st.2.map V.int)):=fun x y=>by rw[zae nrf.symm,zae nrf.symm];exact h2
  refine⟨_,rfl,.inl ⟨rfl,_,SqL.of (h3 _ _)⟩,_,rfl,lf,_,_,rfl,rfl,h3 _ _,by rw[List.length_map,ln.2];exact Nat.lt_of_lt_of_le (show i<1000 by lia) (by decide),⟨_,_,_,rfl⟩,fun b o e=>?_,?_,?_⟩
  ·rw[zae (zac e hlf0),zae (zac e hlr0),zae (zac e hlr0)];exact s4 b o e
  ·rw[zae nrf,zab,lx]
   unfold zby
   rw[zbn,zbn];rfl
  ·rw[zab,lx]
   unfold zby
   rw[List.map_append];rfl
 ·rintro σ H2 ⟨⟨v6,v7,v8,rfl⟩,s4,h1,h2⟩
  rw[pl,List.take_length]at h2
  exact⟨_,rfl,lf,_,rfl,.inl ⟨SqL.of h2,fun q hq=>k q _ (s4.trans (zaa hq _)) zab⟩⟩
end
abbrev zgC:Stmt:=top 12
def zek:Sp:=fun vs H Q _=>∃ r fr er ps N,vs=[.ref r]∧Nt.Ok N∧N.forks.length≤63∧NetAt H r fr er ps N∧∀ r' fr' ps' H',Same H H'→NetAt H' r' fr' er ps' (zal N)→Q (.ref r') H'
section
variable {P:Program}{w:World}{K:PySem.W.Frag}{mg:Str→Option Value}{base:Heap}
theorem scPq:FnScope ["net","lanes","forks","ends"] ["net"] (zad zgC):=⟨rfl,rfl,rfl,by decide +kernel,rfl,by decide +kernel,by decide +kernel⟩
theorem zie {f fY:Addr}{fd dY:FuncData}(F:Fun K "plain" "plain" zgC f fd) (G:Mgs mg) (UY:Use P w K mg base "layers" ["net"] 1 zdi fY dY):FnOk P w K mg base CX0 2 f fd ["net"] zek:=by
 refine F.ok scPq (fun vs H Q E h=>?_) (fun cdv A outer s H vs Q E hr h=>?_)
 ·obtain⟨r,fr,er,ps,N,rfl,_⟩:=h
  rfl
 obtain⟨r,fr,er,ps,N,rfl,ok,few,na,k⟩:=h
 refine⟨_,(@pss_cons _ _ _ _ _ (@ps_asg _ _ _ _ _ _ (@pv _ 0 _ _ (by rfl) (by first|exact Or.inl rfl|exact Or.inr (.inl rfl)|exact Or.inr (.inr rfl)) (by decide) (by decide)) (@pg_tup _ _ _ _ _ _ rfl (@pgs_cons _ _ _ _ _ (@pg_name _ _ 1 _ scPq.nd rfl (.inl rfl) (by first|exact .inl rfl|exact .inr rfl|assumption)) (@pgs_cons _ _ _ _ _ (@pg_name _ _ 2 _ scPq.nd rfl (.inl rfl) (by first|exact .inl rfl|exact .inr rfl|assumption)) (@pgs_cons _ _ _ _ _ (@pg_name _ _ 3 _ scPq.nd rfl (.inl rfl) (by first|exact .inl rfl|exact .inr rfl|assumption)) pgs_nil (by rfl)) (by rfl)) (by rfl)) (by rfl) (by rfl)) (by rfl) (by rfl) (by rfl)) (@pss_one _ _ _ (@ps_ret _ _ _ _ (@pe_tup _ _ _ _ _ (@pa_cons _ _ _ _ _ (@pv _ 1 _ _ (by rfl) (by first|exact Or.inl rfl|exact Or.inr (.inl rfl)|exact Or.inr (.inr rfl)) (by decide) (by decide)) (@pa_cons _ _ _ _ _ (@pe_callTy _ _ _ _ _ _ _ _ _ call_tuple_of (by rfl) G.tuple (by rfl) (@pa_cons _ _ _ _ _ (@pe_lc _ _ _ _ none _ _ _ (gTup K 2 (zhs (zdw 0) (zhs (zdw 1) gNil))) _ _ ["layer","fork"] [none,none] rfl (@pi_list _ _ _ _ (@zfJ _ _ _ _ _ _ _ _ false false (by rfl) G.sorted (by rfl) G.zip rfl hr.units (@pa_cons _ _ _ _ _ (@pe_call _ _ _ _ _ _ _ _ _ _ _ _ _ _ _ _ UY.ok hr (by rfl) UY.m UY.kp UY.b .nil pass0 (@pa_cons _ _ _ _ _ (@pv _ 0 _ _ (by rfl) (by first|exact Or.inl rfl|exact Or.inr (.inl rfl)|exact Or.inr (.inr rfl)) (by decide) (by decide)) pa_nil (by rfl)) (by decide) (by rfl) (by rfl)) (@pa_cons _ _ _ _ _ (@pv _ 2 _ _ (by rfl) (by first|exact Or.inl rfl|exact Or.inr (.inl rfl)|exact Or.inr (.inr rfl)) (by decide) (by decide)) pa_nil (by rfl)) (by rfl)) (by rfl) (by rfl) (by rfl))) (CapOk.of (by kernel_rfl)) (fun _ _ _ _ _=>(@pg_tup _ _ _ _ _ _ rfl (@pgs_cons _ _ _ _ _ (@pg_name _ _ 0 _ (show (["layer","fork"]:List Str).Nodup from by decide +kernel) rfl (.inl rfl) (.inr rfl)) (@pgs_cons _ _ _ _ _ (@pg_name _ _ 1 _ (show (["layer","fork"]:List Str).Nodup from by decide +kernel) rfl (.inl rfl) (.inr rfl)) pgs_nil (by rfl)) (by rfl)) (by rfl) (by rfl))) (fun _ _ _ _ _=>zbx) (fun _ _ _ _ _=>(@pv _ 1 _ _ (by rfl) (by first|exact Or.inl rfl|exact Or.inr (.inl rfl)|exact Or.inr (.inr rfl)) (by decide) (by decide))) (by intro _;rfl)) pa_nil (by rfl)) (by decide) (by decide) (by rfl) (by rfl)) (@pa_cons _ _ _ _ _ (@pv _ 3 _ _ (by rfl) (by first|exact Or.inl rfl|exact Or.inr (.inl rfl)|exact Or.inr (.inr rfl)) (by decide) (by decide)) pa_nil (by rfl)) (by rfl)) (by rfl)))))),?_⟩
 have fm:=ok.fm
 have pl:=na.prs.len
 have ll:=zfU N
 refine⟨_,rfl,r,_,rfl,SqT.of na.net,rfl,_,_,rfl,_,_,rfl,_,_,rfl,rfl,?_⟩
 refine⟨_,rfl,_,rfl,r,fr,er,ps,N,rfl,ok,na,fun p H1 s1 hp=>?_⟩
 have na1:=na.tups (Tups.of s1)
 refine⟨_,rfl,p,fr,_,ps,rfl,SqT.of hp,SqT.of na1.forks,by rw[List.length_map];lia,by rw[List.length_map];lia,fun ts H2 s2 z2=>?_⟩
 have na2:=na1.tups (Tups.of s2)
 obtain⟨te,tr⟩:=zi0 z2 na2.prs
 rw[← zkt]at te
 have low:∀ x∈ts,(dec H2 x).2.1<32∧(dec H2 x).2.2<32:=fun x hx=>zfd ok _ (by rw[← te];exact List.mem_map.mpr ⟨x,hx,rfl⟩)
 refine⟨fun x=>rnk (dec H2 x),.inr ⟨2,by decide,fun x hx=>⟨?_,fun y hy=>zkJ (tr x hx) (tr y hy) (low x hx) (low y hy)⟩⟩,fun l zs hl pm so=>?_⟩
 ·obtain⟨t,g,rfl,h1,_⟩:=tr x hx
  exact⟨t,_,_,rfl,h1⟩
 have s3:=zaa hl (.lst zs)
 have zl:zs.length=N.forks.length:=by rw[pm.length_eq,z2.1,List.length_map];exact ll
 have ze:zs.map (dec H2)=zd1 (pz N):=zcy ok (by rw[← te];exact pm.map _) (List.pairwise_map.mpr so)
 have trz:∀ x∈zs,Trp H2 x (dec H2 x):=fun x hx=>tr x (pm.mem_iff.mp hx)
 refine⟨l,rfl,⟨_,SqL.of (atNew hl (.lst zs))⟩,fun lq hlq=>?_⟩
 refine zjX (K:=K) (a:=l) (xs:=zs) (fun j acc σ H4=>(∃ v0 v1,σ=[v0,v1])∧Same H2 H4∧H4 l=some (.lst zs)∧H4 lq=some (.lst acc)∧acc.length=j∧Prs H4 acc ((zs.take j).map fun x=>(dec H2 x).2)) ⟨⟨_,_,rfl⟩,s3.trans (zaa hlq _),zaa hlq _ _ _ (atNew hl (.lst zs)),zab,rfl,trivial⟩ (fun j acc σ H4 q=>⟨q.2.2.2.1,SqL.of q.2.2.1⟩) ?_ ?_
 ·rintro j x acc σ H4 hx ⟨⟨v0,v1,rfl⟩,s4,l4,h4,al,pr⟩
  have jl:=(List.getElem?_eq_some_iff.mp hx).1
  obtain⟨t,g,e,h1,h2⟩:=trz x (List.mem_of_getElem? hx)
  have ne:lq≠l:=by rintro rfl;rw[atNew hl (.lst zs)]at hlq;cases hlq
  have keep:Same H2 (upd H4 lq (.lst (acc++[.ref g]))):=fun b o e=>by rw[zae (zac (s3 b o e) hlq)];exact s4 b o e
  refine⟨t,_,e,SqT.of (s4 _ _ h1),rfl,_,_,rfl,_,_,rfl,rfl,_,rfl,h4,Nat.lt_of_lt_of_le (show _<1000 by lia) (by decide),nx jl ⟨⟨_,_,rfl⟩,keep,by rw[zae ne.symm];exact l4,zab,by simp[al],?_⟩⟩
  have xe:zs[j]=x:=(List.getElem?_eq_some_iff.mp hx).2
  rw[List.take_succ_eq_append_getElem jl,List.map_append,xe]
  exact Prs.add (f:=(dec H2 x).2) (keep _ _ h2) (pr.tups (Tups.lst h4))
 ·rintro acc σ H4 ⟨⟨v0,v1,rfl⟩,s4,l4,h4,al,pr⟩
  rw[List.take_length]at pr
  have pe:(zs.map fun x=>(dec H2 x).2)=za2 N:=by
   unfold za2
   rw[← ze,List.map_map];rfl
  rw[pe]at pr
  refine⟨lq,_,rfl,.inl ⟨SqL.of h4,fun q hq=>?_⟩⟩
  have s5:=zaa hq (.tup acc)
  refine⟨_,rfl,(by show 3≤sizeLine;decide),fun r' hr'=>?_⟩
  have s6:=zaa hr' (.tup [.int N.lanes,.ref q,.ref er])
  refine k r' q acc _ ((((s1.trans s2).trans s4).trans s5).trans s6) ⟨atNew hr' _,s6 _ _ (atNew hq _),pr.tups (Tups.of (s5.trans s6)),?_⟩
  exact s6 _ _ (s5 _ _ (s4 _ _ na2.ends))
end
end K83
namespace L2
open PySem PySem.Spec PyProof.Rows
abbrev e2 (elt tg iter tg1 iter1:Expr) (ifs:List Expr) (scope:Scope) (pos:Pos):Expr:=.ListComp elt [⟨tg,iter,[],0⟩,⟨tg1,iter1,ifs,0⟩] scope pos
theorem zgd (elt tg iter tg1 iter1:Expr) (ifs:List Expr) (scope:Scope) (pos:Pos) (it acc:Value) (env:Env) :
  compTurn (e2 elt tg iter tg1 iter1 ifs scope pos) 0 it acc env=(standAt iter.pos >>= fun _=>pyNext it >>= fun r=>match r with
   | none=>pure (.done .next)
   | some v=>letOwnedTupleGo tg it v >>= fun _=>assign tg env v >>= fun _ =>
    (eval iter1 env >>= fun x=>standAt iter1.pos >>= fun _=>foldedSetIterable iter1 env x >>= fun x=>holding [x] (pyIter x) >>= fun i1=>runOwn (.compStart (e2 elt tg iter tg1 iter1 ifs scope pos) 1 i1 acc env) env >>= fun _ =>
     again (.compLoop (e2 elt tg iter tg1 iter1 ifs scope pos) 0 it acc env))):=by rfl
theorem zgc (elt tg iter tg1 iter1:Expr) (scope:Scope) (pos:Pos) (it acc:Value) (env:Env) :
  compTurn (e2 elt tg iter tg1 iter1 [] scope pos) 1 it acc env=(standAt iter1.pos >>= fun _=>pyNext it >>= fun r=>match r with
   | none=>pure (.done .next)
   | some v=>letOwnedTupleGo tg1 it v >>= fun _=>assign tg1 env v >>= fun _ =>
    ((eval elt env >>= fun x=>call (.builtin "list.append") [acc,x] >>= fun _=>pure ()) >>= fun _ =>
     again (.compLoop (e2 elt tg iter tg1 iter1 [] scope pos) 1 it acc env))):=by rfl
theorem zfA (elt tg iter tg1 iter1 c:Expr) (scope:Scope) (pos:Pos) (it acc:Value) (env:Env) :
  compTurn (e2 elt tg iter tg1 iter1 [c] scope pos) 1 it acc env=(standAt iter1.pos >>= fun _=>pyNext it >>= fun r=>match r with
   | none=>pure (.done .next)
   | some v=>letOwnedTupleGo tg1 it v >>= fun _=>assign tg1 env v >>= fun _=>(forIn [c] true fun c r=>if r=true then (isTrue c env (eval c env) >>= fun ok=>pure (ForInStep.yield ok)) else pure (ForInStep.yield r)) >>= fun ok =>
    if ok=true then
    ((eval elt env >>= fun x=>call (.builtin "list.append") [acc,x] >>= fun _=>pure ()) >>= fun _ =>
     again (.compLoop (e2 elt tg iter tg1 iter1 [c] scope pos) 1 it acc env)) else again (.compLoop (e2 elt tg iter tg1 iter1 [c] scope pos) 1 it acc env)):=by rfl
section
variable {prog:Program}{w:World}{A:Around}{R:Result→Shared→Prop}{s:Shared}{elt tg iter tg1 iter1:Expr}{scope:Scope}{pos:Pos}{it acc:Value}{env:Env}
theorem zeW {ifs:List Expr}
  (h0:codeAny (model prog w) A (.compLoop (e2 elt tg iter tg1 iter1 ifs scope pos) 1 it acc env) R s)
  (h:wpAny (model prog w) A (pyIter it) (fun i2 z=>codeAny (model prog w) A (.compLoop (e2 elt tg iter tg1 iter1 ifs scope pos) 1 i2 acc env) R z) NoX s) :
  codeAny (model prog w) A (.compStart (e2 elt tg iter tg1 iter1 ifs scope pos) 1 it acc env) R s:=by
 refine codeAny_of_tree ?_
 show wpAny _ A ((compStart (e2 elt tg iter tg1 iter1 ifs scope pos) 1 it acc env).onRaise (fun x=>do noteFrame x env;standAt theWindowsPlace)) _ _ s
 refine wpAny_notedAt ?_
 unfold compStart
 refine(show wpAny _ _ (ask >>= _) _ _ s from wpAny_bind (wpAny_askSetting (wpAny_ite ?_)))
 split
 ·first
   | exact wpAny_bind (wpAny_pure (wpAny_pure ⟨rfl,h0⟩))
   | exact wpAny_pure ⟨rfl,h0⟩
 ·apply wpAny_bind;refine wpAny_rule ?_
  first
   | exact wpAny_bind (wpAny_standAt (wpAny_bind (wpAny_mono h (fun it' s' h'=>wpAny_pure ⟨rfl,h'⟩) fun _ _ z=>z.elim)))
   | (show wpAny _ _ (standAt iter1.pos >>= _) _ _ s;exact wpAny_bind (wpAny_standAt (wpAny_bind (wpAny_mono h (fun it' s' h'=>wpAny_pure ⟨rfl,h'⟩) fun _ _ z=>z.elim))))
theorem zf9 {o:Option Expr}(J:Nat→Shared→Prop)
  (turn:∀ n s,J n s→Go (model prog w) A tg1 elt o it acc env R (fun z=>∃ m,m<n∧J m z) s) (n:Nat) (h:J n s) :
  codeAny (model prog w) A (.compLoop (.ListComp elt [⟨tg,iter,[],0⟩,⟨tg1,iter1,o.toList,0⟩] scope pos) 1 it acc env) R s:=by
 cases o with
 | none =>
  refine codeAny_loop rfl J (fun n s hI=>?_) n h
  show wpAny _ A ((compTurn (e2 elt tg iter tg1 iter1 [] scope pos) 1 it acc env).onRaise (fun x=>do noteFrame x env;theTreesLotGoes x)) _ _ s
  refine wpAny_noted ?_
  rw[zgc]
  refine wpAny_bind (wpAny_standAt (wpAny_bind (wpAny_mono (turn n s hI) (fun r a h1=>?_) fun _ _ z=>z.elim)))
  cases r with
  | none=>exact wpAny_pure h1
  | some v =>
   refine wpAny_bind (wpAny_mono h1 (fun _ b h2=>?_) fun _ _ z=>z.elim)
   refine wpAny_bind (wpAny_mono h2 (fun _ c h3=>?_) fun _ _ z=>z.elim)
   have h3':wpAny (model prog w) A (eval elt env) (fun x e=>wpAny (model prog w) A (call (.builtin "list.append") [acc,x]) (fun _ f=>∃ m,m<n∧J m f) NoX e) NoX c:=h3
   exact wpAny_bind (wpAny_bind (wpAny_mono h3' (fun x d h4=>wpAny_bind (wpAny_mono h4 (fun _ e h5=>wpAny_pure (wpAny_pure ⟨rfl,h5⟩)) fun _ _ z=>z.elim)) fun _ _ z=>z.elim))
 | some t =>
  refine codeAny_loop rfl J (fun n s hI=>?_) n h
  show wpAny _ A ((compTurn (e2 elt tg iter tg1 iter1 [t] scope pos) 1 it acc env).onRaise (fun x=>do noteFrame x env;theTreesLotGoes x)) _ _ s
  refine wpAny_noted ?_
  rw[zfA]
  refine wpAny_bind (wpAny_standAt (wpAny_bind (wpAny_mono (turn n s hI) (fun r a h1=>?_) fun _ _ z=>z.elim)))
  cases r with
  | none=>exact wpAny_pure h1
  | some v =>
   refine wpAny_bind (wpAny_mono h1 (fun _ b h2=>?_) fun _ _ z=>z.elim)
   refine wpAny_bind (wpAny_mono h2 (fun _ c h3=>?_) fun _ _ z=>z.elim)
   have h3':wpAny (model prog w) A (isTrue t env (eval t env)) (fun yes d=>if yes=true then wpAny (model prog w) A (eval elt env) (fun x e=>wpAny (model prog w) A (call (.builtin "list.append") [acc,x]) (fun _ f=>∃ m,m<n∧J m f) NoX e) NoX d else ∃ m,m<n∧J m d) NoX c:=h3
   refine wpAny_bind (wpAny_tests_one (wpAny_mono h3' (fun yes d h4=>?_) fun _ _ z=>z.elim))
   cases yes with
   | false=>exact wpAny_pure ⟨rfl,h4⟩
   | true=>exact wpAny_bind (wpAny_bind (wpAny_mono h4 (fun x e h5=>wpAny_bind (wpAny_mono h5 (fun _ f h6=>wpAny_pure (wpAny_pure ⟨rfl,h6⟩)) fun _ _ z=>z.elim)) fun _ _ z=>z.elim))
theorem zga {ifs:List Expr}(J:Nat→Shared→Prop)
  (turn:∀ n s,J n s→wpAny (model prog w) A (pyNext it) (fun r a=>match r with
   | none=>R (.ok .next) a
   | some v=>wpAny (model prog w) A (letOwnedTupleGo tg it v) (fun _ b=>wpAny (model prog w) A (assign tg env v) (fun _ c=>wpAny (model prog w) A (eval iter1 env) (fun x d=>wpAny (model prog w) A (pyIter x) (fun i1 e =>
     codeAny (model prog w) A (.compStart (e2 elt tg iter tg1 iter1 ifs scope pos) 1 i1 acc env) (fun r f=>match r with|.ok _=>∃ m,m<n∧J m f|.error _=>False) e) NoX d) NoX c) NoX b) NoX a) NoX s) (n:Nat) (h:J n s)
  (hs:∀ x,foldedSetIterable iter1 env x=pure x) :
  codeAny (model prog w) A (.compLoop (e2 elt tg iter tg1 iter1 ifs scope pos) 0 it acc env) R s:=by
 refine codeAny_loop rfl J (fun n s hI=>?_) n h
 show wpAny _ A ((compTurn (e2 elt tg iter tg1 iter1 ifs scope pos) 0 it acc env).onRaise (fun x=>do noteFrame x env;theTreesLotGoes x)) _ _ s
 refine wpAny_noted ?_
 rw[zgd]
 refine wpAny_bind (wpAny_standAt (wpAny_bind (wpAny_mono (turn n s hI) (fun r a h1=>?_) fun _ _ z=>z.elim)))
 cases r with
 | none=>exact wpAny_pure h1
 | some v =>
  refine wpAny_bind (wpAny_mono h1 (fun _ b h2=>?_) fun _ _ z=>z.elim)
  refine wpAny_bind (wpAny_mono h2 (fun _ c h3=>?_) fun _ _ z=>z.elim)
  refine wpAny_bind (wpAny_mono h3 (fun x d h4=>?_) fun _ _ z=>z.elim)
  refine wpAny_bind (wpAny_standAt (wpAny_bind (wpAny_of_eq (hs x) (wpAny_bind (wpAny_holding (wpAny_mono h4 (fun i1 e h5=>?_) fun _ _ z=>z.elim))))))
  refine wpAny_bind (wpAny_runOwn (codeAny_mono h5 (fun r f h6=>?_)))
  cases r with
  | ok fl=>exact wpAny_pure ⟨rfl,h6⟩
  | error x=>exact h6.elim
end
def LCW1 (J:It) (g:TG) (tt:TT) (te:TE) (l:Addr) (Q:List V→St→Hp→Prop) (W:Nat→Nat→List V→St→Hp→Prop):Prop :=
 ∀ i m acc σ' H',W i m acc σ' H'→H' l=some (.lst acc) ∧
  ((J.stop i H'∧Q acc σ' H')∨(J.go i H'∧∀ x H2,J.yld i H' x H2→g x σ' H2 fun σ3 H3=>tt σ3 H3 fun b H4 =>
   if b=true then te σ3 H4 fun y H5=>H5 l=some (.lst acc)∧acc.length<sizeLine∧∃ m',m'<m∧W (i+1) m' (acc++[y]) σ3 (upd H5 l (.lst (acc++[y])))
   else ∃ m',m'<m∧W (i+1) m' acc σ3 H4))
def tLC2 (cap:List (Option Nat)) (wi:TI) (g:TG) (wi1:TI) (g1:TG) (tt:TT) (te:TE):TE:=fun σ H Q=>wi σ H fun J H1=>∀ l,H1 l=none →
 ∃ W:Nat→Nat→List V→St→Hp→Prop,(∃ m,W 0 m [] (capσ cap σ) (upd H1 l (.lst []))) ∧
  ∀ i m acc σ' H',W i m acc σ' H'→H' l=some (.lst acc)∧((J.stop i H'∧Q (.ref l) H')∨(J.go i H'∧∀ x H2,J.yld i H' x H2→g x σ' H2 fun σ3 H3=>wi1 σ3 H3 fun J1 H4 =>
   ∃ W1:Nat→Nat→List V→St→Hp→Prop,(∃ m1,W1 0 m1 acc σ3 H4)∧LCW1 J1 g1 tt te l (fun ac τ G=>∃ m',m'<m∧W (i+1) m' ac τ G) W1))
theorem ziv {X:Cx}{elt tg iter tg1 iter1:Expr}{o:Option Expr}{scope:Scope}{pos ppos:Pos}{wi wi1:TI}{g g1:TG}{tt:TT}{te:TE}{N':List Str}{cap:List (Option Nat)}{use:Option (Value→Sem Unit)}{Q0:Value→Shared→Prop}
  (hc:X.calm=true) (hi:PI X tg iter wi) (ck:CapOk X.N N' X.env.scope scope cap)
  (hg:∀ C s₀ H₀ fp pins,PG (zaC X N' scope C s₀ H₀ fp pins) tg g)
  (hi1:∀ C s₀ H₀ fp pins,PI (zaC X N' scope C s₀ H₀ fp pins) tg1 iter1 wi1)
  (hg1:∀ C s₀ H₀ fp pins,PG (zaC X N' scope C s₀ H₀ fp pins) tg1 g1)
  (ht:∀ C s₀ H₀ fp pins,PTo (zaC X N' scope C s₀ H₀ fp pins) o tt)
  (he:∀ C s₀ H₀ fp pins,PE (zaC X N' scope C s₀ H₀ fp pins) elt te)
  (hs:∀ x,foldedSetIterable iter X.env x=pure x) (hs1:∀ C x,foldedSetIterable iter1 (compEnvC scope (clOf X.env.cells scope.names []) C X.env) x=pure x) {pins:List (Addr × Obj)}{s:Shared}{σ:St}{H:Hp}{Q:VK}(I:Inv X pins σ H s) (h:tLC2 cap wi g wi1 g1 tt te σ H Q)
  (fin:∀ (l C:Addr) (H4:Hp) (s5:Shared) (m:Str→Option Value),Inv X pins σ H4 s5→Q (.ref l) H4→s5.heap.Ns C m→FpOk X pins H4 C→compPost (model X.prog X.w) X.A X.xe use Q0 (.ref l) C (.ok .next) s5) :
  wpAny (model X.prog X.w) X.A (comprehension (.ListComp elt [⟨tg,iter,[],0⟩,⟨tg1,iter1,o.toList,0⟩] scope pos) scope X.env ppos (newList []) false (eval iter X.env) use) Q0 X.xe s:=by
 have hcells:∀ y∈scope.names,y.2=.free→∃ c,X.env.cells.lookup y.1=some c:=fun y hy hf=>I.ok.has y.1 (ck.free y hy hf)
 refine wpAny_comprehension_free (use:=use) rfl hs (zc5 hcells) ck.kind ck.names (thn (hi pins s σ H _ I h) fun v s1 h1=>thn h1 fun itv s2 h2=>?_)
 obtain⟨it,fp,tn,J,H2,e,I2,T,st2,f2,body⟩:=h2
 subst e
 have hfr2:H2 s2.heap.objs.size=none:=I2.hok.fresh (Nat.le_refl _)
 obtain⟨W,⟨m0,w0⟩,turn⟩:=body s2.heap.objs.size hfr2
 have I3:Inv X pins σ (upd H2 s2.heap.objs.size (.lst [])) { s2 with heap:=s2.heap.push { cls:=.type "list",data:=.seq ([]:List Value).toArray },toks:=s2.toks }:=I2.lnew (its:=[]) (t':=s2.toks) .nil (Nat.zero_le _)
 refine wpAny_newObj_type (wpAny_newFunctionEnv ck.nocell (by intro y hy;simp at hy) (fun h₁ hns₁ hsb₁=>?_) ck.kind)
 dsimp only at hns₁ hsb₁ ⊢
 generalize hl:s2.heap.objs.size=l at *
 generalize hP:s2.heap.push { cls:=.type "list",dict:=none,data:=.seq ([]:List Value).toArray }=P2 at *
 generalize hH3:upd H2 l (.lst [])=H3 at *
 have old:∀ b o,P2.get? b=some o→h₁.get? b=some o:=fun b o e=>hsb₁.extBut b o (Nat.ne_of_lt (Heap.lt_size e)) (Heap.get?_push_of_some _ e)
 have old2:∀ b o,s2.heap.get? b=some o→P2.get? b=some o:=fun b o e=>hP ▸ Heap.get?_push_of_some _ e
 have fpl:∀ b∈fp,b<l:=fun b hb=>by
  obtain⟨o,e,_⟩:=T.obj _ _ st2 b hb
  rw[← hl];exact Heap.lt_size e
 have fp3:∀ b∈fp,H3 b=none:=fun b hb=>by
  rw[← hH3,zae (Nat.ne_of_lt (fpl b hb))];exact(f2 b hb).1
 have hPs:P2.objs.size=l+1:=by rw[← hP,Heap.size_push,hl]
 have subc:∀ x c,(clOf X.env.cells scope.names []).lookup x=some c→X.env.cells.lookup x=some c:=fun x c e=>zcn _ _ x c hcells (fun _ _ z=>by simp at z) e
 generalize hs3:({ s2 with heap:=P2,toks:=s2.toks }:Shared)=s3 at *
 have hs3h:s3.heap=P2:=by rw[← hs3]
 let Y:=zaC X N' scope P2.objs.size s3 H3 fp pins
 have hYok:Y.Ok:=by
  refine⟨I3.ok.mod,ck.kind,I3.ok.glob,I3.ok.blt,by show s3.heap.objs.size≤P2.objs.size;rw[hs3h];exact Nat.le_refl _,fun x y c e1 e2=>I3.ok.inj x y c (subc x c e1) (subc y c e2),fun x hx=>?_,fun x c hx=>absurd (show false=true from hx) Bool.false_ne_true,I3.ok.hd,I3.ok.frames,.inl rfl,fun b hb=>⟨?_,fun x c e=>?_⟩,I3.bs,
   Nat.le_trans I3.ok.bsz I3.sz,fun b o e hb=>?_,fun b hb hz=>?_,I3.stack,I3.stkFree⟩
  ·have hx':scope.names.lookup x=some .free:=by
    rcases hx with hx|hx
    ·rcases zaW hx with z|z
     ·exact absurd rfl (ck.nocell _ (zb2 z))
     ·exact z.2
    ·rcases zaW hx with z|z
     ·exact z
     ·exact z.2
   exact zbq _ _ x hx'
  ·exact Nat.ne_of_lt (by show b<P2.objs.size;rw[hPs];exact Nat.lt_succ_of_lt (fpl b hb))
  ·exact(f2 b hb).2.2.2.2.1 x c (subc x c e)
  ·rcases (f2 b hb).2.2.2.1 with z|z
   ·exact I3.ok.noex b o e z
   ·exact absurd (Nat.lt_of_lt_of_le (Heap.lt_size e) (Nat.le_trans I3.ok.bsz z)) (Nat.lt_irrefl _)
  ·rcases List.mem_cons.mp (I3.stkSub b hz) with z|z
   ·exact(f2 b hb).2.1 z
   ·exact(f2 b hb).2.2.1 z
 have hYi:Inv Y [] (capσ cap σ) H3 { s2 with heap:=h₁,toks:=s2.toks }:=by
  refine⟨hYok,by show s2.os=s3.os;rw[← hs3],I2.bare,by show Un _ _ _ _ s3.heap h₁;rw[hs3h];exact Un.kept old,⟨_,hns₁,fun j x v e1 e2 e3=>?_⟩,fun x c e=>?_,?_,fun x c e=>I3.freeC x c (subc x c e),fun p hp=>?_,fun b o e=>?_,?_⟩
  ·have e1':N'[j]?=some x:=e1
   unfold capσ at e2
   rw[List.getElem?_map]at e2
   cases ec:cap[j]? with
   | none=>rw[ec]at e2;cases e2
   | some oc =>
    rw[ec]at e2
    cases oc with
    | none=>cases e2
    | some i =>
     have e2':σ[i]?=some (some v):=by
      cases ei:σ[i]? with
      | none=>simp[ei]at e2
      | some v' =>
       simp[ei]at e2
       rw[e2]
     have hz:(x,some i)∈N'.zip cap:=by
      refine List.mem_of_getElem? (i:=j) ?_
      rw[List.getElem?_zip_eq_some]
      exact⟨e1',ec⟩
     obtain⟨hN,hf,hk⟩:=ck.cap _ hz i rfl
     obtain⟨m,hn,hlo⟩:=I3.loc
     obtain⟨u,r,lk⟩:=hlo i x v hN e2' (by rcases hk with z|z;exact .inr (.inl z);exact .inr (.inr z))
     refine⟨u,r,.inr ⟨?_,?_⟩⟩
     ·exact zb7 hf
     ·rcases lk with ⟨z,_⟩|⟨_,c,hcx,hcell⟩
      ·have z':X.env.scope.names.lookup x=some .local:=z
       rcases hk with q|q
       ·rw[q]at z';cases z'
       ·rw[q]at z';cases z'
      ·obtain⟨c',hc'⟩:=zbq (cells:=X.env.cells) scope.names [] x hf
       have:=subc x c' hc'
       rw[hcx]at this;cases this
       obtain⟨ob,e,d⟩:=hcell
       rw[hs3h]at e
       exact⟨c,hc',ob,old c ob e,d⟩
  ·obtain⟨v,ob,e',d⟩:=I3.cell x c (subc x c e)
   rw[hs3h]at e'
   exact⟨v,ob,old c ob e',d⟩
  ·refine I3.hok.fresh ?_
   rw[hs3h];exact Nat.le_refl _
  ·have hp':p∈X.pn++pins:=(List.mem_append.mp hp).elim (fun z=>z) (fun z=>nomatch z)
   obtain⟨e,n,ne,nf,d⟩:=I3.pin p hp'
   rw[hs3h]at e
   refine⟨old _ _ e,n,Nat.ne_of_lt (Heap.lt_size e),fun z=>?_,d⟩
   rcases List.mem_cons.mp (I3.stkSub _ z) with q|q
   ·exact ne q
   ·exact nf q
  ·have:=I3.hok.kept (h':=h₁) (fun b u q=>old b u (by rw[← hs3h];exact q))
   exact this b o e
  ·show (cap.map _).length=N'.length
   rw[List.length_map,ck.len]
 have stat:∀ {H':Hp},(∀ b∈fp,H' b=none)→∀ b∈fp,FpOk Y [] H' b:=fun {H'} hn b hb=>by
  refine⟨hn b hb,(hYok.exf b hb).1,hYok.exfs b hb,.inl hb,(hYok.exf b hb).2,fun p hp=>?_⟩
  have hp':p∈X.pn++pins:=(List.mem_append.mp hp).elim (fun z=>z) (fun z=>nomatch z)
  exact(f2 b hb).2.2.2.2.2 p hp'
 have st1:tn 0 h₁:=T.keep 0 _ _ st2 fun b hb o e=>old b o (old2 b o e)
 have loop:codeAny (model X.prog X.w) X.A (.compLoop (.ListComp elt [⟨tg,iter,[],0⟩,⟨tg1,iter1,o.toList,0⟩] scope pos) 0 (.ref it) (.ref l) Y.env) (compPost (model X.prog X.w) X.A X.xe use Q0 (.ref l) P2.objs.size) { s2 with heap:=h₁,toks:=s2.toks }:=by
  refine zga (fun n s'=>∃ i acc σ' H',Inv Y [] σ' H' s'∧tn i s'.heap∧(∀ b∈fp,H' b=none)∧W i n acc σ' H') ?_ m0 ⟨0,[],_,H3,hYi,st1,fp3,w0⟩ (hs1 _)
  rintro n s4 ⟨i,acc,σ4,H4,I4,st4,fr4,w4⟩
  obtain⟨hlst,q4⟩:=turn i n acc σ4 H4 w4
  rcases q4 with ⟨stop,qn⟩|⟨go,step⟩
  ·refine thn (T.done Y rfl rfl rfl hc i [] s4 σ4 H4 Y.xe I4 (stat fr4) st4 stop) fun r s5 ⟨hr,I5⟩=>?_
   subst hr
   obtain⟨m,hn,_⟩:=id I5.loc
   have un:Un (frs X.stack) fp H3 H4 s3.heap s5.heap:=I5.base
   have sz3:s3.heap.objs.size≤P2.objs.size:=by rw[hs3h];exact Nat.le_refl _
   have IX:Inv X pins σ H4 s5:=I3.call' (ch:=fp) I5.os un I5.hok I5.bare fun b hb=>⟨(f2 b hb).2.2.2.1,(f2 b hb).2.1,(f2 b hb).2.2.2.2.1,(f2 b hb).2.2.2.2.2⟩
   exact fin l P2.objs.size H4 s5 m IX qn hn (I3.fpOk sz3 I5.free)
  ·refine thn (T.item Y rfl rfl rfl hc i [] s4 σ4 H4 Y.xe I4 (stat fr4) st4 go) fun r s5 ⟨u,hr,h5⟩=>?_
   subst hr
   refine thn h5 fun _ s6 ⟨x,H6,I6,r6,y6,st6,fr6⟩=>?_
   have I6':=I6.pinned (stat fr6) (T.obj _ _ st6)
   refine thn (hg _ _ _ _ _ _ s6 σ4 H6 x u _ I6' r6 (step x H6 y6)) fun _ s7 ⟨σ7,H7,I7,q7⟩=>?_
   have again:∀ {σ9:St}{H9:Hp}{s9:Shared}{acc9:List V},Inv Y ([]++zb8 fp s6.heap) σ9 H9 s9→(∃ m',m'<n∧W (i+1) m' acc9 σ9 H9)→∃ m,m<n∧∃ i acc σ' H',Inv Y [] σ' H' s9∧tn i s9.heap∧(∀ b∈fp,H' b=none)∧W i m acc σ' H':=fun {σ9 H9 s9 acc9} I9 ⟨m',hm,w9⟩=>by
    refine⟨m',hm,i+1,acc9,σ9,H9,I9.unpinned,T.keep _ _ _ st6 fun b hb o e=>(I9.pin (b,o) (List.mem_append_right _ (List.mem_append_right _ (zaD hb e)))).1,fun b hb=>?_,w9⟩
    obtain⟨o,e,d⟩:=T.obj _ _ st6 b hb
    exact(I9.pin (b,o) (List.mem_append_right _ (List.mem_append_right _ (zaD hb e)))).2.1
   generalize ([]++zb8 fp s6.heap:List (Addr × Obj))=pz at again I7
   refine thn (hi1 _ _ _ _ _ _ s7 σ7 H7 _ I7 q7) fun v1 s8 h8=>thn h8 fun itv1 s9 h9=>?_
   obtain⟨it1,fp1,tn1,J1,H9,e1,I9,T1,st9,f9,W1,⟨m1,w1⟩,turn1⟩:=h9
   subst e1
   have stat1:∀ {H':Hp},(∀ b∈fp1,H' b=none)→∀ b∈fp1,FpOk Y pz H' b:=fun hn b hb=>⟨hn b hb,(f9 b hb).2⟩
   have loop1:codeAny (model X.prog X.w) X.A (.compLoop (.ListComp elt [⟨tg,iter,[],0⟩,⟨tg1,iter1,o.toList,0⟩] scope pos) 1 (.ref it1) (.ref l) Y.env) (fun r z=>match r with|.ok _=>∃ m,m<n∧∃ i acc σ' H',Inv Y [] σ' H' z∧tn i z.heap∧(∀ b∈fp,H' b=none)∧W i m acc σ' H'|.error _=>False) s9:=by
    refine zf9 (fun n s'=>∃ i acc σ' H',Inv Y pz σ' H' s'∧tn1 i s'.heap∧(∀ b∈fp1,H' b=none)∧W1 i n acc σ' H') ?_ m1 ⟨0,acc,σ7,H9,I9,st9,fun b hb=>(f9 b hb).1,w1⟩
    rintro k t4 ⟨j,ac,τ4,G4,K4,u4,v4,z4⟩
    obtain⟨glst,p4⟩:=turn1 j k ac τ4 G4 z4
    rcases p4 with ⟨stop1,pn⟩|⟨go1,step1⟩
    ·refine thn (T1.done Y rfl rfl rfl hc j pz t4 τ4 G4 Y.xe K4 (stat1 v4) u4 stop1) fun r t5 ⟨hr,K5⟩=>?_
     subst hr
     exact again K5 pn
    ·refine thn (T1.item Y rfl rfl rfl hc j pz t4 τ4 G4 Y.xe K4 (stat1 v4) u4 go1) fun r t5 ⟨u,hr,h5⟩=>?_
     subst hr
     refine thn h5 fun _ t6 ⟨y,G6,K6,e6,d6,u6,v6⟩=>?_
     have K6':=K6.pinned (stat1 v6) (T1.obj _ _ u6)
     refine thn (hg1 _ _ _ _ _ _ t6 τ4 G6 y u _ K6' e6 (step1 y G6 d6)) fun _ t7 ⟨τ7,G7,K7,p7⟩=>?_
     refine ze5 (ht _ _ _ _ _ _ t7 τ7 G7 _ K7 p7) fun b t8 ⟨G8,K8,p8⟩=>?_
     have again1:∀ {τ9:St}{G9:Hp}{t9:Shared}{ac9:List V},Inv Y (pz++zb8 fp1 t6.heap) τ9 G9 t9→(∃ m',m'<k∧W1 (j+1) m' ac9 τ9 G9)→∃ m,m<k∧∃ i acc σ' H',Inv Y pz σ' H' t9∧tn1 i t9.heap∧(∀ b∈fp1,H' b=none)∧W1 i m acc σ' H':=fun {τ9 G9 t9 ac9} K9 ⟨m',hm,z9⟩=>by
      refine⟨m',hm,j+1,ac9,τ9,G9,K9.unpinned,T1.keep _ _ _ u6 fun b hb o e=>(K9.pin (b,o) (List.mem_append_right _ (List.mem_append_right _ (zaD hb e)))).1,fun b hb=>?_,z9⟩
      obtain⟨o,e,d⟩:=T1.obj _ _ u6 b hb
      exact(K9.pin (b,o) (List.mem_append_right _ (List.mem_append_right _ (zaD hb e)))).2.1
     cases b with
     | false =>
      rw[if_neg Bool.false_ne_true]at p8 ⊢
      exact again1 K8 p8
     | true =>
      rw[if_pos rfl]at p8 ⊢
      refine thn (he _ _ _ _ _ _ t8 τ7 G8 _ K8 p8) fun yv t9 ⟨yy,G9,K9,e9,hl9,hz9,p9⟩=>?_
      refine thn (mt_append (X:=Y) _ t9 τ7 G9 (.ref l) [yy] (.ref l) [yv] (fun _ H'=>H'=upd G9 l (.lst (ac++[yy]))) K9 rfl (.cons e9 .nil) ⟨l,ac,yy,rfl,rfl,hl9,hz9,rfl⟩) fun _ t10 ⟨_,G10,K10,_,e10⟩=>?_
      subst e10
      exact again1 K10 p9
   exact zeW loop1 (T1.self X.A 0 _ _ _ st9 loop1)
 exact codeAny_compStart_list loop (T.self X.A 0 _ _ _ st1 loop)
theorem zkA {X:Cx}{elt tg iter tg1 iter1:Expr}{o:Option Expr}{scope:Scope}{pos:Pos}{wi wi1:TI}{g g1:TG}{tt:TT}{te:TE}{N':List Str}{cap:List (Option Nat)}
  (hc:X.calm=true) (hi:PI X tg iter wi) (ck:CapOk X.N N' X.env.scope scope cap)
  (hg:∀ C s₀ H₀ fp pins,PG (zaC X N' scope C s₀ H₀ fp pins) tg g)
  (hi1:∀ C s₀ H₀ fp pins,PI (zaC X N' scope C s₀ H₀ fp pins) tg1 iter1 wi1)
  (hg1:∀ C s₀ H₀ fp pins,PG (zaC X N' scope C s₀ H₀ fp pins) tg1 g1)
  (ht:∀ C s₀ H₀ fp pins,PTo (zaC X N' scope C s₀ H₀ fp pins) o tt)
  (he:∀ C s₀ H₀ fp pins,PE (zaC X N' scope C s₀ H₀ fp pins) elt te)
  (hs:∀ x,foldedSetIterable iter X.env x=pure x:=by intro _;rfl)
  (hs1:∀ C x,foldedSetIterable iter1 (compEnvC scope (clOf X.env.cells scope.names []) C X.env) x=pure x:=by intro _ _;rfl) :
  PE X (.ListComp elt [⟨tg,iter,[],0⟩,⟨tg1,iter1,o.toList,0⟩] scope pos) (tLC2 cap wi g wi1 g1 tt te):=by
 intro pins s σ H Q I h
 rw[eval_ListComp]
 exact ziv (use:=none) hc hi ck hg hi1 hg1 ht he hs hs1 I h fun l C H4 s5 m I5 q hn f=>⟨m,hn,fun h' sb=>⟨.ref l,H4,I5.gone f sb,rfl,q⟩⟩
end L2
namespace Own
open PySem PySem.Spec PyProof.Rows
abbrev IsZipC (h:Heap) (z TI TO:Addr) (own:Value) (c:Bool):Prop:=h.get? z=some { cls:=.type "zip",dict:=none,data:=.fields #[own,.bool c,.bool false,.ref TI,.ref TO],slots:=#[] }
section
variable {prog:Program}{w:World}{A:Around}{E:Value→Shared→Prop}{s:Shared}{z TI TO i1 i2:Addr}{f1 f2:List Addr}{n1 n2 k:Nat}{P1 P2:Nat→Value→Prop}{S1 S2:Nat→Heap→Prop}{a b:Value}
theorem zhE {a:Addr}{Q:Option Obj→Shared→Prop}(ho:s.heap.get? a=none) (h:Q none s):wpAny (model prog w) A (loadIfAlive a) Q E s:=by
 have h':Q (s.heap.get? a) s:=ho.symm ▸ h
 exact fun _ _ _=>h'
theorem ze2 {α:Type}{t:Addr}{c:Bool}{f:Bool→Sem α}{Q:α→Shared→Prop}(hz:IsZipN s.heap z TI TO t c) (ho:s.heap.get? t=none) (h:wpAny (model prog w) A (f true) Q E s) :
  wpAny (model prog w) A (Builtin.SmallTypes.ownedTupleIsFree (.ref z) >>= f) Q E s:=by
 refine wpAny_bind ?_;unfold Builtin.SmallTypes.ownedTupleIsFree
 refine rf 0 hz rfl rfl ?_
 show wpAny _ _ (loadIfAlive ((t:Int).toNat) >>= _) _ _ _
 rw[Int.toNat_natCast]
 refine wpAny_bind (zhE ho ?_)
 simp only[Option.isNone_none,if_true]
 exact wpAny_pure h
theorem zf4 (S:Sep z TI TO i1 i2 f1 f2) (D1:Draws prog w A i1 f1 n1 P1 S1) (D2:Draws prog w A i2 f2 n2 P2 S2) {Q:Value→Shared→Prop}
  {t:Addr}{c1:Bool}(hz:IsZipN s.heap z TI TO t c1) (hn:s.heap.get? t=none) (hI:IsPair s.heap TI (.ref i1) (.ref i2)) (hO:IsPair s.heap TO a b) (d1:S1 k s.heap) (d2:S2 k s.heap) (l1:k<n1) (l2:k<n2)
  (h:∀ x y h' tk,P1 k x→P2 k y→IsZip h' z TI TO (rawInt s.heap.objs.size)→IsPair h' TO x y→S1 (k+1) h'→S2 (k+1) h'→IsPair h' s.heap.objs.size x y →
   (∀ c o,c∉[z,TO,i1,i2]→s.heap.get? c=some o→h'.get? c=some o)→Q (.ref s.heap.objs.size) { s with heap:=h',toks:=tk }) :
  wpAny (model prog w) A (Builtin.«zip.__next__» ⟨[.ref z],[]⟩) (fun r s'=>∃ v,r=.done (.ret v)∧Q v s') E s:=by
 have nd:=S.all
 simp only[List.nodup_cons,List.mem_cons,List.not_mem_nil,or_false,not_or]at nd
 obtain⟨⟨zI,zO,z1,z2⟩,⟨IO,I1,I2⟩,⟨O1,O2⟩,n12,_⟩:=nd
 refine rf 2 hz rfl rfl (rf 3 hz rfl rfl (wpAny_bind (wpAny_seqItems hI rfl (ze2 hz hn ?_))))
 rw[if_pos rfl]
 refine wpAny_bind (wpAny_rule (rf 4 hz rfl rfl (wpAny_bind (wpAny_setField_rec hz (show 0<5 by decide) fun ha za sa=>wpAny_bind ?_))))
 have za':IsZipC ha z TI TO .ellipsis c1:=za;simp only[List.zipIdx_cons,List.zipIdx_nil,List.forIn_cons,List.forIn_nil]
 refine wpAny_bind (wpAny_bind (wpAny_onRaise (wpAny_bind (D1.item k _ _ _ l1 (D1.frame _ _ _ d1 fun c hc o e=>(sa.2 c fun q=>S.z1 (q ▸ hc)).trans e) fun x hb tb px db sb=>wpAny_pure ?_))))
 have Ob:IsPair hb TO a b:=(sb.2 TO O1).trans ((sa.2 TO (Ne.symm zO)).trans hO)
 refine wpAny_bind (wpAny_seqItems Ob rfl (wpAny_bind (wpAny_updateSeq_pair Ob fun hc Oc sc=>wpAny_bind (wpAny_letGo (wpAny_pure ?_)))))
 have Oc':IsPair hc TO x b:=Oc
 have st2:S2 k hc:=D2.frame _ _ _ d2 fun c hm o e=>(sc.2 c fun q=>S.t2 (q ▸ hm)).trans ((sb.2 c fun q=>S.o2 (q ▸ hm)).trans ((sa.2 c fun q=>S.z2 (q ▸ hm)).trans e))
 refine wpAny_bind (wpAny_bind (wpAny_onRaise (wpAny_bind (D2.item k _ _ _ l2 st2 fun y hd td py dd sd=>wpAny_pure ?_))))
 have Od:IsPair hd TO x b:=(sd.2 TO O2).trans Oc'
 refine wpAny_bind (wpAny_seqItems Od rfl (wpAny_bind (wpAny_updateSeq_pair Od fun he Oe se=>wpAny_bind (wpAny_letGo (wpAny_pure (wpAny_pure ?_))))))
 have Oe':IsPair he TO x y:=Oe
 refine wpAny_bind (wpAny_seqItems Oe' rfl (wpAny_bind (wpAny_newTuple (wpAny_bind ?_))))
 have sz:he.objs.size=s.heap.objs.size:=by rw[se.1,sd.1,sc.1,sb.1,sa.1]
 have ze:IsZipC he z TI TO .ellipsis c1:=(se.2 z zO).trans ((sd.2 z z2).trans ((sc.2 z zO).trans ((sb.2 z z1).trans za')))
 have zn:he.objs.size≠z:=Nat.ne_of_gt (Heap.lt_size ze)
 unfold Builtin.SmallTypes.ownedTupleHandOut;refine wpAny_bind (wpAny_setField_rec (Heap.get?_push_of_some _ ze) (show 0<5 by decide) fun hf zf sf=>wpAny_setField_rec zf (show 1<5 by decide) fun hg zg sg=>wpAny_pure ⟨_,rfl,?_⟩)
 have up:∀ c o,c≠z→he.get? c=some o→hg.get? c=some o:=fun c o q e=>(sg.2 c q).trans ((sf.2 c q).trans (Heap.get?_push_of_some _ e))
 have new:IsPair hg he.objs.size x y:=(sg.2 _ zn).trans ((sf.2 _ zn).trans (Heap.get?_push_size _ rfl))
 have zg':IsZip hg z TI TO (rawInt he.objs.size):=zg
 rw[sz]at new zg'
 show Q (.ref he.objs.size) _
 rw[sz]
 refine h x y hg td px py zg' (up _ _ (Ne.symm zO) Oe') ?_ ?_ new fun c o hc e=>?_
 ·exact D1.frame _ _ _ db fun c hm o e=>up c o (fun q=>S.z1 (q ▸ hm)) ((se.2 c fun q=>S.t1 (q ▸ hm)).trans ((sd.2 c fun q=>S.o1 (q ▸ hm)).trans ((sc.2 c fun q=>S.t1 (q ▸ hm)).trans e)))
 ·exact D2.frame _ _ _ dd fun c hm o e=>up c o (fun q=>S.z2 (q ▸ hm)) ((se.2 c fun q=>S.t2 (q ▸ hm)).trans e)
 ·simp only[List.mem_cons,List.not_mem_nil,or_false,not_or]at hc
  obtain⟨c1,c2,c3,c4⟩:=hc
  exact up c o c1 ((se.2 c c2).trans ((sd.2 c c4).trans ((sc.2 c c2).trans ((sb.2 c c3).trans ((sa.2 c c1).trans e)))))
theorem zf0 (S:Sep z TI TO i1 i2 f1 f2) (D1:Draws prog w A i1 f1 n1 P1 S1) {Q:Fin→Shared→Prop}{t:Addr}{c1:Bool}(hz:IsZipN s.heap z TI TO t c1) (hn:s.heap.get? t=none) (hI:IsPair s.heap TI (.ref i1) (.ref i2)) (d1:S1 n1 s.heap)
  (h:∀ h' x,(∀ c o,c∉[z,TO,i1,i2]→s.heap.get? c=some o→h'.get? c=some o)→(∃ o,h'.get? x=some o∧o.cls=.type "StopIteration")→E (.ref x) { s with heap:=h' }):wpAny (model prog w) A (Builtin.«zip.__next__» ⟨[.ref z],[]⟩) Q E s:=by
 have nd:=S.all
 simp only[List.nodup_cons,List.mem_cons,List.not_mem_nil,or_false,not_or]at nd
 obtain⟨⟨zI,zO,z1,z2⟩,⟨IO,I1,I2⟩,⟨O1,O2⟩,n12,_⟩:=nd
 refine rf 2 hz rfl rfl (rf 3 hz rfl rfl (wpAny_bind (wpAny_seqItems hI rfl (ze2 hz hn ?_))))
 rw[if_pos rfl]
 refine wpAny_bind (wpAny_rule (rf 4 hz rfl rfl (wpAny_bind (wpAny_setField_rec hz (show 0<5 by decide) fun ha za sa=>wpAny_bind ?_))))
 have za':IsZipC ha z TI TO .ellipsis c1:=za;simp only[List.zipIdx_cons,List.zipIdx_nil,List.forIn_cons,List.forIn_nil]
 refine wpAny_bind (wpAny_bind (wpAny_onRaise (wpAny_bind (D1.done _ _ _ (D1.frame _ _ _ d1 fun c hc o e=>(sa.2 c fun q=>S.z1 (q ▸ hc)).trans e) fun hb x kb ⟨ox,ex,cx⟩=>?_))))
 have zb:IsZipC hb z TI TO .ellipsis c1:=kb z _ z1 za'
 have xz:x≠z:=fun q=>by rw[q,zb]at ex;cases ex;exact absurd (show Value.type "zip" = Value.type "StopIteration" from cx) (by decide)
 refine wpAny_setField_rec zb (show 0<5 by decide) fun hc _ sc=>h hc x (fun c o hm e=>?_) ⟨ox,(sc.2 x xz).trans ex,cx⟩
 simp only[List.mem_cons,List.not_mem_nil,or_false,not_or]at hm
 exact(sc.2 c hm.1).trans (kb c o hm.2.2.1 ((sa.2 c hm.1).trans e))
theorem zf3 {t:Addr}{c:Bool}{o:Obj}(S:Sep z TI TO i1 i2 f1 f2) (D1:Draws prog w A i1 f1 n1 P1 S1) (D2:Draws prog w A i2 f2 n2 P2 S2) {Q:Value→Shared→Prop}
  (hz:IsZipN s.heap z TI TO t c) (ho:s.heap.get? t=some o) (hI:IsPair s.heap TI (.ref i1) (.ref i2)) (d1:S1 k s.heap) (d2:S2 k s.heap) (l1:k<n1) (l2:k<n2)
  (h:∀ x y h' tk,P1 k x→P2 k y→IsZipN h' z TI TO t true→S1 (k+1) h'→S2 (k+1) h'→IsPair h' s.heap.objs.size x y →
   (∀ c o,c∉[z,i1,i2]→s.heap.get? c=some o→h'.get? c=some o)→Q (.ref s.heap.objs.size) { s with heap:=h',toks:=tk }) :
  wpAny (model prog w) A (Builtin.«zip.__next__» ⟨[.ref z],[]⟩) (fun r s'=>∃ v,r=.done (.ret v)∧Q v s') E s:=by
 have nd:=S.all
 simp only[List.nodup_cons,List.mem_cons,List.not_mem_nil,or_false,not_or]at nd
 obtain⟨⟨zI,zO,z1,z2⟩,⟨IO,I1,I2⟩,⟨O1,O2⟩,n12,_⟩:=nd
 refine rf 2 hz rfl rfl (rf 3 hz rfl rfl (wpAny_bind (wpAny_seqItems hI rfl (zc8 hz ho fun ha za sa=>?_))))
 rw[if_neg Bool.false_ne_true]
 refine wpAny_bind ?_
 simp only[List.forIn_toArray,List.forIn_cons,List.forIn_nil]
 refine wpAny_bind (wpAny_bind (wpAny_holding (wpAny_bind (D1.item k _ _ _ l1 (D1.frame _ _ _ d1 fun c hc o e=>(sa.2 c fun q=>S.z1 (q ▸ hc)).trans e) fun x hb tb px db sb=>wpAny_pure (wpAny_pure ?_)))))
 have st2:S2 k hb:=D2.frame _ _ _ d2 fun c hm o e=>(sb.2 c fun q=>S.o2 (q ▸ hm)).trans ((sa.2 c fun q=>S.z2 (q ▸ hm)).trans e)
 refine wpAny_bind (wpAny_bind (wpAny_holding (wpAny_bind (D2.item k _ _ _ l2 st2 fun y hd td py dd sd=>wpAny_pure (wpAny_pure (wpAny_pure ?_))))))
 refine wpAny_bind (wpAny_newTuple (wpAny_pure ⟨_,rfl,?_⟩) (hsz:=by show 2≤sizeLine;decide))
 have sz:hd.objs.size=s.heap.objs.size:=by rw[sd.1,sb.1,sa.1]
 show Q (.ref hd.objs.size) _
 rw[sz]
 have zd:IsZipN hd z TI TO t true:=(sd.2 z z2).trans ((sb.2 z z1).trans za)
 have new:(hd.push { cls:=.type "tuple",data:=.seq #[x,y] }).get? s.heap.objs.size=some { cls:=.type "tuple",data:=.seq #[x,y] }:=by rw[← sz];exact Heap.get?_push_size _ rfl
 refine h x y _ td px py (Heap.get?_push_of_some _ zd) ?_ ?_ new fun c o hc e=>?_
 ·exact D1.frame _ _ _ db fun c hm o e=>Heap.get?_push_of_some _ ((sd.2 c fun q=>S.o1 (q ▸ hm)).trans e)
 ·exact D2.frame _ _ _ dd fun c hm o e=>Heap.get?_push_of_some _ e
 ·simp only[List.mem_cons,List.not_mem_nil,or_false,not_or]at hc
  exact Heap.get?_push_of_some _ ((sd.2 c hc.2.2).trans ((sb.2 c hc.2.1).trans ((sa.2 c hc.1).trans e)))
def AnyZip (h:Heap) (z TI TO:Addr):Prop:=IsZip h z TI TO .none∨∃ t c,IsZipN h z TI TO t c
theorem AnyZip.obj {h:Heap}(x:AnyZip h z TI TO):∃ o,h.get? z=some o∧o.cls=.type "zip"∧∀ v,o.data≠.cell v:=by
 rcases x with x|⟨t,c,x⟩
 ·exact⟨_,x,rfl,fun v q=>by cases q⟩
 ·exact⟨_,x,rfl,fun v q=>by cases q⟩
theorem zf5 (S:Sep z TI TO i1 i2 f1 f2) (D1:Draws prog w A i1 f1 n1 P1 S1) (D2:Draws prog w A i2 f2 n2 P2 S2) {Q:Value→Shared→Prop}
  (hz:AnyZip s.heap z TI TO) (hI:IsPair s.heap TI (.ref i1) (.ref i2)) (hO:IsPair s.heap TO a b) (d1:S1 k s.heap) (d2:S2 k s.heap) (l1:k<n1) (l2:k<n2)
  (h:∀ x y h' tk,P1 k x→P2 k y→AnyZip h' z TI TO→(∃ a b,IsPair h' TO a b)→S1 (k+1) h'→S2 (k+1) h'→IsPair h' s.heap.objs.size x y →
   (∀ c o,c∉[z,TO,i1,i2]→s.heap.get? c=some o→h'.get? c=some o)→Q (.ref s.heap.objs.size) { s with heap:=h',toks:=tk }) :
  wpAny (model prog w) A (Builtin.«zip.__next__» ⟨[.ref z],[]⟩) (fun r s'=>∃ v,r=.done (.ret v)∧Q v s') E s:=by
 rcases hz with hz|⟨t,c,hz⟩
 ·exact ze1 S D1 D2 hz hI hO d1 d2 l1 l2 fun x y h' tk px py zz zo q1 q2 nw kk=>h x y h' tk px py (.inr ⟨_,_,zz⟩) ⟨_,_,zo⟩ q1 q2 nw kk
 ·cases et:s.heap.get? t with
  | none=>exact zf4 S D1 D2 hz et hI hO d1 d2 l1 l2 fun x y h' tk px py zz zo q1 q2 nw kk=>h x y h' tk px py (.inr ⟨_,_,zz⟩) ⟨_,_,zo⟩ q1 q2 nw kk
  | some o =>
   have nd:=S.all
   simp only[List.nodup_cons,List.mem_cons,List.not_mem_nil,or_false,not_or]at nd
   obtain⟨⟨zI,zO,z1,z2⟩,⟨IO,I1,I2⟩,⟨O1,O2⟩,n12,_⟩:=nd
   refine zf3 S D1 D2 hz et hI d1 d2 l1 l2 fun x y h' tk px py zz q1 q2 nw kk=>h x y h' tk px py (.inr ⟨_,_,zz⟩) ⟨_,_,kk TO _ (by simp[Ne.symm zO,O1,O2]) hO⟩ q1 q2 nw fun c o hc e=>kk c o (fun m=>hc ?_) e
   simp only[List.mem_cons,List.not_mem_nil,or_false]at m ⊢
   rcases m with m|m|m
   ·exact .inl m
   ·exact .inr (.inr (.inl m))
   ·exact .inr (.inr (.inr m))
theorem zf1 (S:Sep z TI TO i1 i2 f1 f2) (D1:Draws prog w A i1 f1 n1 P1 S1) {Q:Fin→Shared→Prop}(hz:AnyZip s.heap z TI TO) (hI:IsPair s.heap TI (.ref i1) (.ref i2)) (d1:S1 n1 s.heap)
  (h:∀ h' x,(∀ c o,c∉[z,TO,i1,i2]→s.heap.get? c=some o→h'.get? c=some o)→(∃ o,h'.get? x=some o∧o.cls=.type "StopIteration")→E (.ref x) { s with heap:=h' }):wpAny (model prog w) A (Builtin.«zip.__next__» ⟨[.ref z],[]⟩) Q E s:=by
 rcases hz with hz|⟨t,c,hz⟩
 ·exact ze0 S D1 hz hI d1 h
 ·cases et:s.heap.get? t with
  | none=>exact zf0 S D1 hz et hI d1 h
  | some o=>exact zdE S D1 hz et hI d1 h
theorem zhm {s:Shared}{E:Value→Shared→Prop}{Q:Value→Shared→Prop}(hz:AnyZip s.heap z TI TO) (h:Q (.ref z) s):wpAny (model prog w) A (pyIter (.ref z)) Q E s:=by
 obtain⟨oz,ez,cz,_⟩:=hz.obj
 have ty:s.TypeIs (.ref z) "zip":=⟨oz,ez,cz⟩
 exact wpAny_pyIter_slot ty F.slot_zip_iter (wpAny_call_entry F.slot_zip_iter ty F.entry_zip_iter (show wpAny _ _ (ret (.ref z)) _ _ s from wpAny_pure ⟨_,rfl,"zip",_,ty,F.slot_zip_next.lookup,h⟩) (F.args_zip_iter_1 _))
end
end Own
namespace L2
open PySem PySem.Spec PyProof.Rows Own
theorem zgb {P:Program}{w:World}{K:PySem.W.Frag}{y1:Str}{p1:Pos}(b1 b2:Bool) (a1 a2 z TI TO i1 i2:Addr) (nd:[z,TI,TO,i1,i2].Nodup) :
  Turn P w K (.Name y1 p1) (Itz K b1 b2 a1 a2) [z,TI,TO,i1,i2] z (fun i h=>AnyZip h z TI TO∧IsPair h TI (.ref i1) (.ref i2)∧(∃ a b,IsPair h TO a b)∧RIt b1 h i1 a1 i∧RIt b2 h i2 a2 i) where
 mem:=List.mem_cons_self
 obj:=fun i h ⟨hz,hI,⟨a,b,hO⟩,h1,h2⟩ c hc=>by
  simp only[List.mem_cons,List.not_mem_nil,or_false]at hc
  rcases hc with rfl|rfl|rfl|rfl|rfl
  ·obtain⟨o,e,_,d⟩:=hz.obj;exact⟨o,e,d⟩
  ·exact⟨_,hI,fun v q=>by cases q⟩
  ·exact⟨_,hO,fun v q=>by cases q⟩
  ·exact⟨_,h1,fun v q=>by cases q⟩
  ·exact⟨_,h2,fun v q=>by cases q⟩
 keep:=fun i h h' ⟨hz,hI,⟨a,b,hO⟩,h1,h2⟩ kk=>⟨hz.imp (fun q=>kk z (by simp) _ q) (fun ⟨t,c,q⟩=>⟨t,c,kk z (by simp) _ q⟩),kk TI (by simp) _ hI,⟨a,b,kk TO (by simp) _ hO⟩,kk i1 (by simp) _ h1,kk i2 (by simp) _ h2⟩
 item:=by
  intro X hP hw hK hc i pins s σ H E I hf ⟨hz,hI,⟨a,b,hO⟩,h1,h2⟩ ⟨xs,ys,x,y,q1,q2,hx,hy⟩
  subst hP hw hK
  obtain⟨u1,r1,p1⟩:=I.sq q1
  obtain⟨u2,r2,p2⟩:=I.sq q2
  obtain⟨v1,e1,rx⟩:=r1.get hx
  obtain⟨v2,e2,ry⟩:=r2.get hy
  have nd':=nd
  simp only[List.nodup_cons,List.mem_cons,List.not_mem_nil,or_false,not_or]at nd'
  obtain⟨⟨zI,zO,z1,z2⟩,⟨IO,I1,I2⟩,⟨O1,O2⟩,n12,_⟩:=nd'
  have na1:∀ c∈[z,TI,TO,i1,i2],c≠a1:=fun c hm=>I.sq_ne q1 (hf c hm)
  have na2:∀ c∈[z,TI,TO,i1,i2],c≠a2:=fun c hm=>I.sq_ne q2 (hf c hm)
  have S:Sep z TI TO i1 i2 [i1,a1] [i2,a2]:=⟨nd,by simp[z1,na1 z (by simp)],by simp[O1,na1 TO (by simp)],by simp[Ne.symm n12,na1 i2 (by simp)],by simp[z2,na2 z (by simp)],by simp[O2,na2 TO (by simp)],by simp[n12,na2 i1 (by simp)]⟩
  have hd:=I.ok.hd hc
  have D1:=zdy (prog:=X.prog) (w:=X.w) (A:=X.A.in1) hd b1 i1 a1 u1.toArray (p1.ne h1)
  have D2:=zdy (prog:=X.prog) (w:=X.w) (A:=X.A.in1) hd b2 i2 a2 u2.toArray (p2.ne h2)
  obtain⟨oz,ez,cz,dz⟩:=hz.obj
  have tyz:s.TypeIs (.ref z) "zip":=⟨oz,ez,cz⟩
  unfold pyNext
  refine wpAny_bind (wpAny_attempt (wpAny_callSpecial?_slot (name:="__next__") tyz F.slot_zip_next (wpAny_call_entry F.slot_zip_next tyz F.entry_zip_next (zf5 S D1 D2 hz hI hO ⟨h1,p1⟩ ⟨h2,p2⟩ (by simpa using (List.getElem?_eq_some_iff.mp e1).1) (by simpa using (List.getElem?_eq_some_iff.mp e2).1)
   fun w1 w2 h' tk hw1 hw2 zh ⟨oa,ob,Oh⟩ d1 d2 new hk=>wpAny_pure ?_) (F.args_zip_next_1 _))))
  obtain rfl:v1=w1:=Option.some.inj (e1.symm.trans (by simpa using hw1))
  obtain rfl:v2=w2:=Option.some.inj (e2.symm.trans (by simpa using hw2))
  refine⟨_,rfl,wpAny_pure ?_⟩
  have nz:s.heap.objs.size≠z:=Nat.ne_of_gt (Heap.lt_size ez)
  have far:∀ c∈[z,TI,TO,i1,i2],c≠s.heap.objs.size:=fun c hm=>by
   simp only[List.mem_cons,or_false,List.not_mem_nil]at hm
   rcases hm with rfl|rfl|rfl|rfl|rfl
   ·exact Nat.ne_of_lt (Heap.lt_size ez)
   ·exact Nat.ne_of_lt (Heap.lt_size hI)
   ·exact Nat.ne_of_lt (Heap.lt_size hO)
   ·exact Nat.ne_of_lt (Heap.lt_size h1)
   ·exact Nat.ne_of_lt (Heap.lt_size h2)
  refine⟨.ref s.heap.objs.size,_,I.spunN (fp:=[z,TI,TO,i1,i2]) (fun c o hm q=>?_) hf (Nat.le_refl _) (zds new rx ry),rfl,⟨x,y,fun l hl=>by rw[I.sq_inj hl q1];exact hx,fun l hl=>by rw[I.sq_inj hl q2];exact hy,_,I.fresh,rfl,rfl⟩,
   ⟨zh,hk TI _ (by simp[Ne.symm zI,IO,I1,I2]) hI,⟨_,_,Oh⟩,d1.1,d2.1⟩,fun c hm=>by rw[zae (far c hm),(hf c hm).1]⟩
  simp only[List.mem_cons,List.not_mem_nil,or_false,not_or]at hm
  exact hk c o (by simp[hm]) q
 done:=by
  intro X hP hw hK hc i pins s σ H E I hf ⟨hz,hI,⟨a,b,hO⟩,h1,h2⟩ ⟨xs,q1,hx⟩
  subst hP hw hK
  obtain⟨u1,r1,p1⟩:=I.sq q1
  have nd':=nd
  simp only[List.nodup_cons,List.mem_cons,List.not_mem_nil,or_false,not_or]at nd'
  obtain⟨⟨zI,zO,z1,z2⟩,⟨IO,I1,I2⟩,⟨O1,O2⟩,n12,_⟩:=nd'
  have na1:∀ c∈[z,TI,TO,i1,i2],c≠a1:=fun c hm=>I.sq_ne q1 (hf c hm)
  have S:Sep z TI TO i1 i2 [i1,a1] [i2]:=⟨nd,by simp[z1,na1 z (by simp)],by simp[O1,na1 TO (by simp)],by simp[Ne.symm n12,na1 i2 (by simp)],by simp[z2],by simp[O2],by simp[n12]⟩
  have hsz:i=u1.toArray.size:=by rw[List.size_toArray,← r1.length,hx]
  obtain⟨oz,ez,cz,dz⟩:=hz.obj
  have tyz:s.TypeIs (.ref z) "zip":=⟨oz,ez,cz⟩
  unfold pyNext
  refine wpAny_bind (wpAny_attempt (wpAny_callSpecial?_slot (name:="__next__") tyz F.slot_zip_next (wpAny_call_entry F.slot_zip_next tyz F.entry_zip_next
   (zf1 S (zdy (prog:=X.prog) (w:=X.w) (A:=X.A.in1) (I.ok.hd hc) b1 i1 a1 u1.toArray (p1.ne h1)) hz hI ⟨by rw[← hsz];exact h1,p1⟩ fun h' x hk ⟨o,eo,co⟩=>?_) (F.args_zip_next_1 _))))
  refine wpAny_bind (wpAny_isInstance (T:="StopIteration") (b:=true) ⟨o,eo,co⟩ isSubtype_stop (wpAny_pure ⟨rfl,I.spun (t':=s.toks) (fp:=[z,TI,TO,i1,i2]) (fun c o hm q=>hk c o ?_ q) hf⟩))
  simp only[List.mem_cons,List.not_mem_nil,or_false,not_or]at hm ⊢
  exact⟨hm.1,hm.2.2.1,hm.2.2.2.1,hm.2.2.2.2⟩
 self:=fun _ _ _ _ _ st h=>zhm st.1 h
theorem zjw {X:Cx}{a b:Expr}{ta:TA}{p pos p1:Pos}{y1:Str}(b1 b2:Bool) (hg:Gl X "zip") (hm:X.mg "zip" = none) (ha:PA X [a,b] ta) (hs:starEach [a,b] X.env=[(false,eval a X.env),(false,eval b X.env)]:=by rfl) (hs2:starEach [b] X.env=[(false,eval b X.env)]:=by rfl) :
  PI X (.Name y1 p1) (.Call (.Name "zip" p) [a,b] [] pos) (iZip X.K b1 b2 ta):=by
 intro pins s σ H R I h
 refine Call_ (zbd I hg hm (u:=.type "zip") (by rfl) (PyProof.Rows.callWith_type1 (thn (ha pos pins s σ H _ I h) fun us s1 ⟨vs,H1,I1,r1,q1⟩=>?_) (by rw[hs,hs2]) (by rw[hs2];rfl)))
 obtain⟨a1,a2,xs,ys,rfl,hq1,hq2,q⟩:=q1
 obtain⟨u,v,rfl,ru,rv⟩:=r1.two
 cases ru
 cases rv
 obtain⟨its,_,pl1⟩:=I1.sq hq1
 obtain⟨jts,_,pl2⟩:=I1.sq hq2
 refine callType_new F.called_zip (by decide) (F.typeCall_zip_2 _ _) (F.newCall_zip_2 _ _) (fun obj=>F.args_object_init_3 obj _ _) F.entry_zip_new (zec b1 b2 a1 a2 its.toArray jts.toArray) ⟨pl1,pl2,fun h' z ⟨TI,TO,i1,i2,nd,far,hz,hI,hO,h1,h2⟩ hk=>⟨⟨_,hz,rfl⟩,?_⟩⟩
 exact wpAny_pyIter_zip hz ⟨_,[z,TI,TO,i1,i2],_,_,H1,rfl,I1.kept (t':=s1.toks) hk,zgb b1 b2 a1 a2 z TI TO i1 i2 nd,⟨.inl hz,hI,⟨_,_,hO⟩,h1,h2⟩,fun c hc=>I1.fpOk (far c hc) (I1.hok.fresh (far c hc)),q⟩
end L2
namespace L2
open PySem PySem.Spec PyProof.Rows Own Ts
section
variable {X:Cx}{pins:List (Addr × Obj)}{σ:St}{H:Hp}{s:Shared}
theorem Inv.adopt {T:Addr}{o:HO}(I:Inv X pins σ H s) (hf:FpOk X pins H T) (new:ObjOk X.prog X.w (upd H T o) s.heap T o):Inv X pins σ (upd H T o) s:=by
 have hn:=hf.1
 have J:Inv X pins σ (upd H T o) { s with heap:=s.heap,gens:=s.gens,drawn:=s.drawn,toks:=s.toks }:=by
  refine I.step (ch:=[T]) (fun b hb=>?_) (fun b u _ _ _ e _=>e) (fun b u _ _ _ e _=>⟨u.slots,e⟩) (fun b u hc _ n=>by rw[zae fun q=>hc (List.mem_singleton.mpr q)];exact n)
   (fun b u _ e=>⟨u,e⟩) (fun b xs e=>by rw[zae (zac e hn)];exact e) (fun b u x e=>by rw[zae (zac e hn)];exact e) (fun b ps e=>⟨#[],by rw[zae (zac e hn),e];simp⟩) (fun m hm=>hm) (fun b u e=>?_) I.bare
  ·have only:=List.mem_singleton.mp hb
   subst only
   exact⟨hf.2.2.2.1,hf.2.1,hf.2.2.2.2.1,hf.2.2.2.2.2⟩
  ·by_cases hb:b=T
   ·subst hb;rw[zab]at e;cases e;exact new
   ·rw[zae hb]at e
    exact(I.hok b u e).stay (fun c v _ q=>q) (fun c q=>by rw[zae (zac q hn)];exact q) fun c xs q=>by rw[zae (zac q hn)];exact q
 exact J
end
def zi5 (K:PySem.W.Frag) (b1 b2:Bool) (ta:TA):TE:=fun σ H Q=>ta σ H fun vs H1=>∃ a1 a2 xs ys,vs=[.ref a1,.ref a2]∧SqB b1 K H1 a1 xs∧SqB b2 K H1 a2 ys∧xs.length≤ys.length∧xs.length≤10000 ∧
 ∀ l ts H2,Same H1 H2→H1 l=none→H2 l=none→Zip2 H2 ts xs ys→Q (.ref l) (upd H2 l (.lst ts))
theorem zcz {X:Cx}{a b:Expr}{ta:TA}{p p2 pos pos2:Pos}(b1 b2:Bool) (hg:Gl X "list") (hm:X.mg "list" = none) (hg2:Gl X "zip") (hm2:X.mg "zip" = none) (hc:X.calm=true) (ha:PA X [a,b] ta)
  (he:starEach [Expr.Call (.Name "zip" p2) [a,b] [] pos2] X.env=[(false,eval (Expr.Call (.Name "zip" p2) [a,b] [] pos2) X.env)]:=by rfl)
  (hs:starEach [a,b] X.env=[(false,eval a X.env),(false,eval b X.env)]:=by rfl) (hs2:starEach [b] X.env=[(false,eval b X.env)]:=by rfl) :
  PE X (.Call (.Name "list" p) [.Call (.Name "zip" p2) [a,b] [] pos2] [] pos) (zi5 X.K b1 b2 ta):=by
 intro pins s σ H Q I h
 refine wpAny_Call_Name_kw (zbd I hg hm (u:=.type "list") (by rfl) (PyProof.Rows.callWith_type1 ?_ he rfl))
 rw[he]
 refine Calls.spliced_cons ?_
 refine Call_ (zbd I hg2 hm2 (u:=.type "zip") (by rfl) (PyProof.Rows.callWith_type1 (thn (ha pos2 pins s σ H _ I h) fun us s1 ⟨vs,H1,I1,r1,q1⟩=>?_) (by rw[hs,hs2]) (by rw[hs2];rfl)))
 obtain⟨a1,a2,xs,ys,rfl,hq1,hq2,hl,hz,q⟩:=q1
 obtain⟨u,v,rfl,ru,rv⟩:=r1.two
 cases ru
 cases rv
 obtain⟨its,rx,pl1⟩:=I1.sq hq1
 obtain⟨jts,ry,pl2⟩:=I1.sq hq2
 have lx:=rx.length
 have ly:=ry.length
 refine callType_new F.called_zip (by decide) (F.typeCall_zip_2 _ _) (F.newCall_zip_2 _ _) (fun obj=>F.args_object_init_3 obj _ _) F.entry_zip_new (zec b1 b2 a1 a2 its.toArray jts.toArray) ⟨pl1,pl2,fun h' z ⟨TI,TO,i1,i2,nd,far,hzz,hI,hO,h1,h2⟩ hk=>⟨⟨_,hzz,rfl⟩,?_⟩⟩
 refine Calls.spliced_nil ?_
 have I2:Inv X pins σ H1 { s1 with heap:=h',toks:=s1.toks }:=I1.kept hk
 have fp:∀ c∈[z,TI,TO,i1,i2],FpOk X pins H1 c:=fun c hc=>I1.fpOk (far c hc) (I1.hok.fresh (far c hc))
 have na1:∀ c∈[z,TI,TO,i1,i2],c≠a1:=fun c hm=>I1.sq_ne hq1 (fp c hm)
 have na2:∀ c∈[z,TI,TO,i1,i2],c≠a2:=fun c hm=>I1.sq_ne hq2 (fp c hm)
 have nd':=nd
 simp only[List.nodup_cons,List.mem_cons,List.not_mem_nil,or_false,not_or]at nd'
 obtain⟨⟨zI,zO,z1,z2⟩,⟨IO,iI1,iI2⟩,⟨O1,O2⟩,n12,_⟩:=nd'
 have S:Sep z TI TO i1 i2 [i1,a1] [i2,a2]:=⟨nd,by simp[z1,na1 z (by simp)],by simp[O1,na1 TO (by simp)],by simp[Ne.symm n12,na1 i2 (by simp)],by simp[z2,na2 z (by simp)],by simp[O2,na2 TO (by simp)],by simp[n12,na2 i1 (by simp)]⟩
 have hd:=I1.ok.hd hc
 have q1':SqO b1 h' a1 its.toArray:=pl1.mv fun o e=>hk _ _ e
 have q2':SqO b2 h' a2 jts.toArray:=pl2.mv fun o e=>hk _ _ e
 have D1:=zdy (prog:=X.prog) (w:=X.w) (A:=X.A.in1.in1.in1) hd b1 i1 a1 its.toArray (q1'.ne h1)
 have D2:=zdy (prog:=X.prog) (w:=X.w) (A:=X.A.in1.in1.in1) hd b2 i2 a2 jts.toArray (q2'.ne h2)
 have low:∀ c∈[i1,a1]++[i2,a2],c<h'.objs.size:=fun c hc=>by
  obtain⟨o1,n1,e1,_⟩:=q1'.ob
  obtain⟨o2,n2,e2,_⟩:=q2'.ob
  simp only[List.cons_append,List.nil_append,List.mem_cons,List.not_mem_nil,or_false]at hc
  rcases hc with rfl|rfl|rfl|rfl
  ·exact Heap.lt_size h1
  ·exact Heap.lt_size e1
  ·exact Heap.lt_size h2
  ·exact Heap.lt_size e2
 have fpL:FpOk X pins H1 h'.objs.size:=I2.fpOk (Nat.le_refl _) (I2.hok.fresh (Nat.le_refl _))
 refine ziu (J:=fun acc s'=>∃ (ts:List Addr) (Hk:Hp),Inv X pins σ Hk s'∧Same H1 Hk∧acc.toList=ts.map Value.ref∧(∀ (i:Nat) t,ts[i]?=some t→∃ x y,xs[i]?=some x∧ys[i]?=some y∧Hk t=some (.tup [x,y]))∧(∀ c∈[z,TO,i1,i2,h'.objs.size],FpOk X pins Hk c)) S D1 D2 (by rw[List.size_toArray,List.size_toArray];lia) hzz hI hO ⟨h1,q1'⟩ ⟨h2,q2'⟩ low ?_ ?_ ?_ ?_ ?_
 ·rw[List.size_toArray];exact Nat.le_trans (show _≤10000 by lia) (by decide)
 ·rintro acc s' h2' tk x y ⟨ts,Hk,Ik,sm,ea,ht,fk⟩ lt px py new kk
  have il:acc.size<xs.length:=by
   have b:acc.size<its.toArray.size:=(Array.getElem?_eq_some_iff.mp px).1
   have b2:its.toArray.size=its.length:=List.size_toArray ..
   lia
  obtain⟨u,e1,r1⟩:=rx.get (List.getElem?_eq_getElem il)
  obtain⟨v,e2,r2⟩:=ry.get (List.getElem?_eq_getElem (show acc.size<ys.length by lia))
  have px':its[acc.size]?=some x:=by simpa using px
  have py':jts[acc.size]?=some y:=by simpa using py
  rw[px']at e1;obtain rfl:=Option.some.inj e1
  rw[py']at e2;obtain rfl:=Option.some.inj e2
  have nT:∀ c∈[z,TO,i1,i2,h'.objs.size],c≠s'.heap.objs.size:=fun c hc=>by
   simp only[List.mem_cons,List.not_mem_nil,or_false]at hc
   rcases hc with rfl|rfl|rfl|rfl|rfl
   ·exact Nat.ne_of_lt (Nat.lt_trans (Heap.lt_size hzz) lt)
   ·exact Nat.ne_of_lt (Nat.lt_trans (Heap.lt_size hO) lt)
   ·exact Nat.ne_of_lt (Nat.lt_trans (Heap.lt_size h1) lt)
   ·exact Nat.ne_of_lt (Nat.lt_trans (Heap.lt_size h2) lt)
   ·exact Nat.ne_of_lt lt
  have fk4:∀ c∈[z,TO,i1,i2],FpOk X pins Hk c:=fun c hc=>fk c (by simp only[List.mem_cons,List.not_mem_nil,or_false]at hc ⊢;rcases hc with m|m|m|m<;>simp[m])
  have fr:Hk s'.heap.objs.size=none:=Ik.fresh
  have al:acc.size=ts.length:=by rw[← Array.length_toList,ea,List.length_map]
  refine⟨ts++[s'.heap.objs.size],_,Ik.spunN (fp:=[z,TO,i1,i2]) kk fk4 (Nat.le_refl _) (zds new r1 r2),sm.trans (zaa fr _),by rw[Array.toList_push,ea,List.map_append];rfl,fun i t hi=>?_,fun c hc=>⟨by rw[zae (nT c hc)];exact(fk c hc).1,(fk c hc).2⟩⟩
  by_cases q:i<ts.length
  ·rw[List.getElem?_append_left q]at hi
   obtain⟨x',y',a1',a2',a3'⟩:=ht i t hi
   exact⟨x',y',a1',a2',zaa fr _ _ _ a3'⟩
  ·have il2:=(List.getElem?_eq_some_iff.mp hi).1
   rw[List.length_append]at il2
   have il3:i=ts.length:=by simp at il2;lia
   subst il3
   rw[List.getElem?_append_right (Nat.le_refl _),Nat.sub_self]at hi
   obtain rfl:s'.heap.objs.size=t:=by simpa using hi
   rw[← al]
   exact⟨_,_,List.getElem?_eq_getElem il,List.getElem?_eq_getElem (show acc.size<ys.length by lia),zab⟩
 ·rintro acc s' h2' tk ⟨ts,Hk,Ik,sm,ea,ht,fk⟩ kk
  exact⟨ts,Hk,Ik.spun (fp:=[z,TO,i1,i2,h'.objs.size]) kk fk,sm,ea,ht,fk⟩
 ·refine⟨[],H1,I2,Same.refl _,rfl,fun i t hi=>by simp at hi,fun c hc=>?_⟩
  simp only[List.mem_cons,List.not_mem_nil,or_false]at hc
  rcases hc with rfl|rfl|rfl|rfl|rfl
  ·exact fp _ (by simp)
  ·exact fp _ (by simp)
  ·exact fp _ (by simp)
  ·exact fp _ (by simp)
  ·exact fpL
 ·rintro h2' tk acc c' an ⟨ts,Hk,Ik,sm,ea,ht,fk⟩ K a3
  have fL:=fk h'.objs.size (by simp)
  have tl:ts.length=xs.length:=by
   have:acc.size=ts.length:=by rw[← Array.length_toList,ea,List.length_map]
   have b2:its.toArray.size=its.length:=List.size_toArray ..
   lia
  have vals:∀ l:List Addr,Vals (l.map V.ref) (l.map Value.ref):=fun l=>by
   induction l with
   | nil=>exact .nil
   | cons x l ih=>exact .cons rfl ih
  have new:ObjOk X.prog X.w (upd Hk h'.objs.size (.lst (ts.map V.ref))) h2' h'.objs.size (.lst (ts.map V.ref)):=⟨by rw[List.length_map,tl];exact Nat.le_trans hz (by decide),ts.map Value.ref,c',vals ts,by rw[a3,← ea]⟩
  refine⟨.ref _,_,Ik.adopt fL new,rfl,q h'.objs.size (ts.map V.ref) Hk sm fpL.1 fL.1 ⟨by rw[List.length_map];exact tl,fun i t hi=>?_⟩⟩
  rw[List.getElem?_map]at hi
  obtain⟨t',et,rfl⟩:=Option.map_eq_some_iff.mp hi
  obtain⟨x,y,e1,e2,e3⟩:=ht i t' et
  exact⟨t',x,y,rfl,e1,e2,e3⟩
end L2
namespace L2
open PySem PySem.Spec PyProof.Rows Own
section
variable {X:Cx}{tg:Expr}
end
end L2
namespace Bn
open PySem L2 Own
def pw (e:Nat):Int:=((2 ^ e:Nat):Int)
def more (cs xs:List Int) (k:Int):List Int:=(List.range cs.length).map fun i=>cs.getD i 0+k*xs.getD i 0
def zaU:Nat→List Nat→List Fk
 | 0,_=>[]
 | m+1,row=>if row.length<2 then [] else (row.take (row.length / 2)).zip row.reverse++zaU m (row.take (row.length / 2))++zaU m (row.drop (row.length / 2))
def zaR (k:Nat):Nt:=⟨2 ^ k,(List.replicate k (zaU k (List.range (2 ^ k)))).flatten,List.range (2 ^ k)⟩
def rowF (size b:Nat):List Fk:=(List.range (size / 2)).map fun i=>(b*size+i,b*size+size-1-i)
def zkK (k j:Nat):List Fk:=(List.range (2 ^ j)).flatMap (rowF (2 ^ (k-j)))
def zk6 (k:Nat):List Fk:=(List.range k).flatMap (zkK k)
def dueN (k:Nat):Nt:=⟨2 ^ k,(List.replicate k (zk6 k)).flatten,List.range (2 ^ k)⟩
theorem zfG:∀ k,k<5→(zaR k).forks.length≤128∧∀ f∈(zaR k).forks,f.1<2 ^ k∧f.2<2 ^ k∧f.1≠f.2:=by decide +kernel
theorem zdQ {k:Nat}(h:k<5):(zaR k).Ok:=by
 obtain⟨a,b⟩:=zfG k h
 refine⟨Nat.one_le_two_pow,?_,a,b,.refl _⟩
 show 2 ^ k≤2 ^ 4
 exact Nat.pow_le_pow_right (show 0<2 by decide) (show k≤4 by lia)
theorem zdR:∀ k,k<5→za2 (zaR k)=(dueN k).forks:=by decide +kernel
theorem zcV {k:Nat}(h:k<5):zal (zaR k)=dueN k:=by
 unfold zal
 rw[zdR k h];rfl
theorem zbl:∀ (m:Nat) (row:List Nat),(zaU m row).length≤m*row.length
 | 0,_=>Nat.zero_le _
 | m+1,row=>by
  unfold zaU
  split
  ·exact Nat.zero_le _
  ·rw[List.length_append,List.length_append,List.length_zip,List.length_take]
   have a:=zbl m (row.take (row.length / 2))
   have b:=zbl m (row.drop (row.length / 2))
   rw[List.length_take]at a
   rw[List.length_drop]at b
   have c:m*min (row.length / 2) row.length+m*(row.length-row.length / 2)=m*row.length:=by
    rw[← Nat.mul_add];congr 1;lia
   rw[Nat.succ_mul]
   lia
theorem zeE {H:Hp}{ts:List V}{a b:List Nat}(z:Zip2 H ts (nums a) (nums b)) (hl:a.length≤b.length):Prs H ts (a.zip b):=by
 have tl:=z.1
 rw[zag]at tl
 have all:∀ (i:Nat) t,ts[i]?=some t→IsFk H t ((a.zip b).getD i (0,0)):=fun i t ht=>by
  obtain⟨c,x,y,rfl,hx,hy,hc⟩:=z.2 i t ht
  unfold nums at hx hy
  rw[List.getElem?_map]at hx hy
  obtain⟨x',ex,rfl⟩:=Option.map_eq_some_iff.mp hx
  obtain⟨y',ey,rfl⟩:=Option.map_eq_some_iff.mp hy
  have both:(a.zip b)[i]?=some (x',y'):=List.getElem?_zip_eq_some.mpr ⟨ex,ey⟩
  rw[List.getD_eq_getElem?_getD,both]
  exact⟨c,rfl,hc⟩
 have mp:ts.map (decF H)=a.zip b:=by
  refine List.ext_getElem? fun i=>?_
  rw[List.getElem?_map]
  cases e:ts[i]? with
  | none =>
   have il:=List.getElem?_eq_none_iff.mp e
   exact(List.getElem?_eq_none_iff.mpr (by rw[List.length_zip];lia)).symm
  | some t =>
   have il:=(List.getElem?_eq_some_iff.mp e).1
   rw[Option.map_some,(all i t e).dec,List.getD_eq_getElem?_getD,List.getElem?_eq_getElem (by rw[List.length_zip];lia)];rfl
 rw[← mp]
 refine ziM fun x hx=>?_
 obtain⟨i,hi⟩:=List.mem_iff_getElem?.mp hx
 rw[(all i x hi).dec]
 exact all i x hi
end Bn
namespace L2
open PySem PySem.Spec PyProof.Rows Own
theorem zjY {K:PySem.W.Frag}{b1 b2:Bool}{a1 a2:Addr}{xs ys:List V}(hxy:xs.length=ys.length) {g g1:TG}{wi1:TI}{tt:TT}{te:TE}{l:Addr}{σ:St}{H:Hp}{Q:VK}(Pv:Nat→List V→St→Hp→Prop) (h0:Pv 0 [] σ H)
  (hl:∀ i acc σ H,Pv i acc σ H→H l=some (.lst acc)∧SqB b1 K H a1 xs∧SqB b2 K H a2 ys)
  (hs:∀ i acc σ H x y T,xs[i]?=some x→ys[i]?=some y→H T=none→Pv i acc σ H→g (.ref T) σ (upd H T (.tup [x,y])) fun σ3 H3=>wi1 σ3 H3 fun J1 H4 =>
   ∃ W1:Nat→Nat→List V→St→Hp→Prop,(∃ m1,W1 0 m1 acc σ3 H4)∧LCW1 J1 g1 tt te l (fun ac τ G=>Nx xs.length i (Pv (i+1) ac τ G)) W1)
  (hd:∀ acc σ H,Pv xs.length acc σ H→Q (.ref l) H):∃ W:Nat→Nat→List V→St→Hp→Prop,(∃ m,W 0 m [] σ H) ∧
   ∀ i m acc σ' H',W i m acc σ' H'→H' l=some (.lst acc)∧(((Itz K b1 b2 a1 a2).stop i H'∧Q (.ref l) H')∨((Itz K b1 b2 a1 a2).go i H'∧∀ x H2,(Itz K b1 b2 a1 a2).yld i H' x H2→g x σ' H2 fun σ3 H3=>wi1 σ3 H3 fun J1 H4 =>
    ∃ W1:Nat→Nat→List V→St→Hp→Prop,(∃ m1,W1 0 m1 acc σ3 H4)∧LCW1 J1 g1 tt te l (fun ac τ G=>∃ m',m'<m∧W (i+1) m' ac τ G) W1)):=by
 refine⟨fun i m acc σ H=>m=xs.length-i∧i≤xs.length∧Pv i acc σ H,⟨xs.length,by simp,Nat.zero_le _,h0⟩,?_⟩
 rintro i m acc σ H ⟨rfl,hi,p⟩
 obtain⟨q0,q1,q2⟩:=hl i acc σ H p
 refine⟨q0,?_⟩
 by_cases hlt:i<xs.length
 ·refine .inr ⟨⟨xs,ys,_,_,q1,q2,List.getElem?_eq_getElem hlt,List.getElem?_eq_getElem (by lia)⟩,fun v H2 ⟨x,y,ex,ey,T,hT,e1,e2⟩=>?_⟩
  subst e1 e2
  exact hs i acc σ H x y T (ex xs q1) (ey ys q2) hT p
 ·have e:i=xs.length:=by lia
  subst e
  exact .inl ⟨⟨xs,q1,rfl⟩,hd acc σ H p⟩
theorem zjZ {K:PySem.W.Frag}{a:Addr}{zs:List V}{g:TG}{te:TE}{l:Addr}{ac:List V}{σ:St}{H:Hp}{Q:List V→St→Hp→Prop}(Pv:Nat→List V→St→Hp→Prop) (h0:Pv 0 ac σ H) (hl:∀ i acc σ H,Pv i acc σ H→H l=some (.lst acc)∧SqT K H a zs)
  (hs:∀ i x acc σ H,zs[i]?=some x→Pv i acc σ H→g x σ H fun σ3 H3=>te σ3 H3 fun y H5=>H5 l=some (.lst acc)∧acc.length<sizeLine∧Nx zs.length i (Pv (i+1) (acc++[y]) σ3 (upd H5 l (.lst (acc++[y])))))
  (hd:∀ acc σ H,Pv zs.length acc σ H→Q acc σ H):∃ W:Nat→Nat→List V→St→Hp→Prop,(∃ m,W 0 m ac σ H)∧LCW1 (Itt K a) g tYes te l Q W:=by
 refine⟨fun i m acc σ H=>m=zs.length-i∧i≤zs.length∧Pv i acc σ H,⟨_,rfl,Nat.zero_le _,h0⟩,?_⟩
 rintro i m acc σ H ⟨rfl,hi,p⟩
 obtain⟨q0,q1⟩:=hl i acc σ H p
 refine⟨q0,?_⟩
 by_cases hlt:i<zs.length
 ·refine .inr ⟨⟨zs,zs[i],q1,List.getElem?_eq_getElem hlt⟩,fun x H2 ⟨e,y⟩=>?_⟩
  subst e
  exact hs i x acc σ _ (y zs q1) p
 ·obtain rfl:i=zs.length:=by lia
  exact .inl ⟨⟨zs,q1,Nat.le_refl _⟩,hd acc σ H p⟩
def zaE {α:Type}(xs ys:List α):List α:=(xs.zip ys).flatMap fun p=>[p.1,p.2]
theorem zbm {α:Type}:∀ (xs ys:List α),xs.length=ys.length→(zaE xs ys).length=2*xs.length
 | [],[],_=>rfl
 | x::xs,y::ys,h=>by
  have h':xs.length=ys.length:=by simpa using h
  have:=zbm xs ys h'
  show (zaE xs ys).length+2=2*(xs.length+1)
  rw[this];lia
theorem zcP {α β:Type}(f:α→β) (xs ys:List α):zaE (xs.map f) (ys.map f)=(zaE xs ys).map f:=by
 induction xs generalizing ys with
 | nil=>rfl
 | cons x xs ih =>
  cases ys with
  | nil=>rfl
  | cons y ys =>
   show f x::f y::zaE (xs.map f) (ys.map f)=f x::f y::(zaE xs ys).map f
   rw[ih ys]
theorem zbN {α β:Type}{f g:α→Option β}:∀ (l:List α),(∀ x∈l,f x=g x)→l.filterMap f=l.filterMap g
 | [],_=>rfl
 | x::l,h=>by
  have e:=zbN l fun y hy=>h y (List.mem_cons_of_mem _ hy)
  simp only[List.filterMap_cons,h x List.mem_cons_self,e]
def by2 {α:Type}(off:Nat) (xs:List α):List α:=(List.range ((xs.length+1-off) / 2)).filterMap fun k=>xs[off+2*k]?
theorem zeX {α:Type}(off:Nat) (ho:off≤1) (xs:List α):(by2 off xs).length=(xs.length+1-off) / 2:=by
 unfold by2
 have e:(List.range ((xs.length+1-off) / 2)).filterMap (fun k=>xs[off+2*k]?)=(List.range ((xs.length+1-off) / 2)).pmap (fun k (h:k<(xs.length+1-off) / 2)=>xs[off+2*k]'(by lia)) (fun k h=>List.mem_range.mp h):=by
  rw[List.pmap_eq_map_attach,← List.filterMap_eq_map]
  conv=>lhs;rw[← List.attach_map_subtype_val (List.range ((xs.length+1-off) / 2)),List.filterMap_map]
  refine zbN _ fun k hk=>?_
  have:=List.mem_range.mp k.2
  show xs[off+2*k.1]?=some _
  rw[List.getElem?_eq_getElem (by lia)]
 rw[e,List.length_pmap,List.length_range]
theorem zj8 {α β:Type}(f:α→β) (off:Nat) (xs:List α):by2 off (xs.map f)=(by2 off xs).map f:=by
 unfold by2
 rw[List.length_map,List.map_filterMap]
 refine zbN _ fun k _=>?_
 rw[List.getElem?_map]
theorem zf7 {xs:List V}{us:List Value}(r:Vals xs us) (ix:List Nat):Vals (ix.filterMap fun k=>xs[k]?) (ix.filterMap fun k=>us[k]?):=by
 induction ix with
 | nil=>exact .nil
 | cons i ix ih =>
  cases e:xs[i]? with
  | none =>
   have e2:us[i]?=none:=List.getElem?_eq_none_iff.mpr (by rw[← r.length];exact List.getElem?_eq_none_iff.mp e)
   rw[List.filterMap_cons_none e,List.filterMap_cons_none e2];exact ih
  | some x =>
   obtain⟨u,e2,ru⟩:=r.get e
   rw[List.filterMap_cons_some e,List.filterMap_cons_some e2];exact .cons ru ih
theorem zh0 (items:Array Value):slicePick items none none (some 2)=((List.range ((items.size+1) / 2)).filterMap fun k=>items.toList[2*k]?).toArray:=by
 have b:sliceBounds none none (some 2) items.size=(0,(items.size:Int),2):=rfl
 have c:sliceRange 0 (items.size:Int) 2=(List.range ((items.size+1) / 2)).map fun k=>2*k:=by
  unfold sliceRange
  have h2:(2:Int) > 0:=by decide
  by_cases h:(0:Int)<items.size
  ·have e:(((items.size:Int)-0+2-1) / 2).toNat=(items.size+1) / 2:=by lia
   simp only[h2,if_true,h,e]
   apply List.map_congr_left;intro k _;lia
  ·have e:items.size=0:=by lia
   rw[e];rfl
 unfold slicePick
 rw[b]
 show ((sliceRange 0 (items.size:Int) 2).filterMap (items[·]?)).toArray=_
 rw[c,List.filterMap_map]
 refine congrArg List.toArray (zbN _ fun k _=>?_)
 simp
theorem zgT (items:Array Value):slicePick items (some 1) none (some 2)=((List.range (items.size / 2)).filterMap fun k=>items.toList[1+2*k]?).toArray:=by
 have b:sliceBounds (some 1) none (some 2) items.size=(max 0 (min 1 (items.size:Int)),(items.size:Int),2):=rfl
 have c:sliceRange (max 0 (min 1 (items.size:Int))) (items.size:Int) 2=(List.range (items.size / 2)).map fun k=>1+2*k:=by
  unfold sliceRange
  have h2:(2:Int) > 0:=by decide
  by_cases h:(1:Int)<items.size
  ·have m:max 0 (min 1 (items.size:Int))=1:=by lia
   rw[m]
   have e:(((items.size:Int)-1+2-1) / 2).toNat=items.size / 2:=by lia
   simp only[h2,if_true,h,e]
   apply List.map_congr_left;intro k _;lia
  ·have e:items.size=0∨items.size=1:=by lia
   rcases e with e|e<;>rw[e]<;>rfl
 unfold slicePick
 rw[b]
 show ((sliceRange (max 0 (min 1 (items.size:Int))) (items.size:Int) 2).filterMap (items[·]?)).toArray=_
 rw[c,List.filterMap_map]
 refine congrArg List.toArray (zbN _ fun k _=>?_)
 simp
def tBy2 (K:PySem.W.Frag) (te:TE) (tl ts:TO):TE:=fun σ H Q=>te σ H fun x H1=>tl σ H1 fun lo H2=>ts σ H2 fun o H3=>o=some 2∧∃ off a xs,((lo=none∧off=0)∨(lo=some 1∧off=1))∧x=.ref a∧SqL K H3 a xs∧∀ p,H3 p=none→Q (.ref p) (upd H3 p (.lst (by2 off xs)))
theorem zfg {X:Cx}{e st:Expr}{lo:Option Expr}{te:TE}{tl ts:TO}{p2 pos:Pos}(he:PE X e te) (hl:PO X lo tl) (hs:PO X (some st) ts):PE X (.Subscript e (.Slice lo none (some st) p2) pos) (tBy2 X.K te tl ts):=by
 intro pins s σ H Q I h
 refine Subscript_ (thn (he pins s σ H _ I h) fun v s1 ⟨x,H1,I1,r1,q1⟩=>wpAny_Slice (thn (hl pins s1 σ H1 _ I1 q1) fun vl s0 ⟨ol,H0,I0,pl,q0⟩=>?_))
 rw[evalPart_none]
 refine wpAny_pure (thn (hs pins s0 σ H0 _ I0 q0) fun vst s2 ⟨o,H2,I2,po,q2⟩=>?_)
 obtain⟨rfl,off,a,xs,hoff,rfl,hq,k⟩:=q2
 cases r1
 have I3:Inv X pins σ H2 { s2 with heap:=s2.heap.push { cls:=.type "slice",data:=.fields #[vl,.none,vst] } }:=I2.kept (t':=s2.toks) fun b ob q=>Heap.get?_push_of_some _ q
 obtain⟨its,r,ht,hz⟩:=I3.list hq
 have hlen:=r.length
 show wpAny (model X.prog X.w) X.A (subscriptTail e (.Slice lo none (some st) p2) (.ref a) (.ref s2.heap.objs.size)) (EP X pins σ Q) X.xe { s2 with heap:=s2.heap.push { cls:=.type "slice",data:=.fields #[vl,.none,vst] } }
 refine tail_any (ops:=[.ref a,.ref s2.heap.objs.size]) ht.isList.typeIs slot_list_getitem.lookup (wpAny_getItem_list_slice ht.isList (Heap.IsSliceOf.new ..) pl .none po (by simp) ?_ (by rw[List.size_toArray]<;>lia)) (by with_unfolding_all rfl)
 have pk:slicePick its.toArray ol none (some 2)=((List.range ((its.length+1-off) / 2)).filterMap fun k=>its[off+2*k]?).toArray:=by
  rcases hoff with ⟨rfl,rfl⟩|⟨rfl,rfl⟩
  ·rw[zh0];simp only[List.size_toArray,Nat.sub_zero,Nat.zero_add]
  ·rw[zgT];simp only[List.size_toArray,Nat.add_sub_cancel]
 rw[pk]
 have ho1:off≤1:=by rcases hoff with ⟨_,rfl⟩|⟨_,rfl⟩<;>decide
 have vv:Vals (by2 off xs) ((List.range ((its.length+1-off) / 2)).filterMap fun k=>its[off+2*k]?):=by
  have:=zf7 r ((List.range ((its.length+1-off) / 2)).map fun k=>off+2*k)
  rw[List.filterMap_map,List.filterMap_map]at this
  unfold by2
  rw[hlen];exact this
 refine⟨.ref _,_,I3.laid (t':=s2.toks) (o:=.lst (by2 off xs)) (fun b ob q=>Heap.get?_push_of_some _ q) (Nat.le_refl _) ⟨by rw[zeX off ho1];lia,_,0,vv,?_⟩,rfl,k _ (I3.hok.fresh (Nat.le_refl _))⟩
 exact Heap.get?_push_size _ rfl
theorem FnOk.any {P:Program}{w:World}{K:PySem.W.Frag}{mg:Str→Option Value}{base:Heap}{CX:CXT}{k:Nat}{f:Addr}{fd:FuncData}{ps:List Str}{sp:Nat→Sp}(M:Nat) (F:∀ m,m≤M→FnOk P w K mg base CX k f fd ps (sp m)) :
  FnOk P w K mg base CX k f fd ps (fun vs H Q E=>∃ m,m≤M∧sp m vs H Q E) :=
 ⟨fun vs H Q E ⟨m,hm,q⟩=>(F m hm).len vs H Q E q,fun A outer s H args us vs Q E hr he hb hv ⟨m,hm,q⟩=>(F m hm).run A outer s H args us vs Q E hr he hb hv q⟩
end L2
namespace Bn
open PySem L2 Own
def zcc:Nat→List Nat→List Fk × List Nat
 | 0,row=>([],row)
 | m+1,row=>((row.getD 0 0,row.getD (row.length / 2) 0)::((zcc m (row.take (row.length / 2))).1++(zcc m (row.drop (row.length / 2))).1),zaE (zcc m (row.take (row.length / 2))).2 (zcc m (row.drop (row.length / 2))).2)
def zaJ:Nat→List Nat→List Nat→List Fk × List Nat
 | 0,a,b=>(a.zip b,a++b)
 | m+1,a,b=>((zaJ m (by2 0 a) (by2 1 b)).1++(zaJ m (by2 1 a) (by2 0 b)).1++(zaJ m (by2 0 a) (by2 1 b)).2.zip (zaJ m (by2 1 a) (by2 0 b)).2,zaE (zaJ m (by2 0 a) (by2 1 b)).2 (zaJ m (by2 1 a) (by2 0 b)).2)
def zaV:Nat→List Nat→List Fk × List Nat
 | 0,row=>([],row)
 | m+1,row=>((zaV m (row.take (row.length / 2))).1++(zaV m (row.drop (row.length / 2))).1++(zaJ m (zaV m (row.take (row.length / 2))).2 (zaV m (row.drop (row.length / 2))).2).1,(zaJ m (zaV m (row.take (row.length / 2))).2 (zaV m (row.drop (row.length / 2))).2).2)
theorem zcf {m n:Nat}(h:n=2 ^ (m+1)):n / 2=2 ^ m∧n-n / 2=2 ^ m∧n / 2≤n:=by
 rw[Nat.pow_succ]at h;lia
theorem zcj {m:Nat}{row:List Nat}(h:row.length=2 ^ (m+1)):(row.take (row.length / 2)).length=2 ^ m∧(row.drop (row.length / 2)).length=2 ^ m:=by
 obtain⟨a,b,c⟩:=zcf h
 rw[List.length_take,List.length_drop]
 exact⟨by rw[Nat.min_eq_left c];exact a,b⟩
theorem zcq {α:Type}{m:Nat}{a:List α}(h:a.length=2 ^ (m+1)):(by2 0 a).length=2 ^ m∧(by2 1 a).length=2 ^ m:=by
 rw[zeX 0 (by decide),zeX 1 (by decide),h,Nat.pow_succ]
 lia
theorem zcg:∀ (m:Nat) (row:List Nat),row.length=2 ^ m→(zcc m row).2.length=2 ^ m∧(zcc m row).1.length+1=2 ^ m
 | 0,row,h=>⟨h,rfl⟩
 | m+1,row,h=>by
  obtain⟨a,b⟩:=zcj h
  obtain⟨x1,x2⟩:=zcg m _ a
  obtain⟨y1,y2⟩:=zcg m _ b
  show (zaE _ _).length=_∧(_::(_++_)).length+1=_
  rw[zbm _ _ (x1.trans y1.symm),List.length_cons,List.length_append,x1,Nat.pow_succ]
  exact⟨by lia,by lia⟩
theorem za3:∀ (m:Nat) (a b:List Nat),a.length=2 ^ m→b.length=2 ^ m→(zaJ m a b).2.length=2 ^ (m+1)∧(zaJ m a b).1.length=(m+1)*2 ^ m
 | 0,a,b,ha,hb=>by
  show (a++b).length=_∧(a.zip b).length=_
  rw[List.length_append,List.length_zip,ha,hb];exact⟨rfl,rfl⟩
 | m+1,a,b,ha,hb=>by
  obtain⟨a0,a1⟩:=zcq ha
  obtain⟨b0,b1⟩:=zcq hb
  obtain⟨x1,x2⟩:=za3 m _ _ a0 b1
  obtain⟨y1,y2⟩:=za3 m _ _ a1 b0
  show (zaE _ _).length=_∧(_++_++List.zip _ _).length=_
  rw[zbm _ _ (x1.trans y1.symm),List.length_append,List.length_append,List.length_zip,x1,y1,x2,y2,Nat.min_self]
  have e:(m+1)*2 ^ m+(m+1)*2 ^ m=(m+1)*2 ^ (m+1):=by rw[← Nat.two_mul,Nat.pow_succ,Nat.mul_left_comm,Nat.mul_comm 2 (2 ^ m)]
  refine⟨by rw[Nat.pow_succ 2 (m+1),Nat.mul_comm],?_⟩
  rw[e,← Nat.succ_mul]
def zcQ:Nat→Nat
 | 0=>0
 | m+1=>zcQ m+zcQ m+(m+1)*2 ^ m
theorem zb5:∀ m,m≤10→zcQ m≤100000∧(m+1)*2 ^ m≤20000:=by decide +kernel
theorem zbE:∀ (m:Nat) (row:List Nat),row.length=2 ^ m→(zaV m row).2.length=2 ^ m∧(zaV m row).1.length=zcQ m
 | 0,row,h=>⟨h,rfl⟩
 | m+1,row,h=>by
  obtain⟨a,b⟩:=zcj h
  obtain⟨x1,x2⟩:=zbE m _ a
  obtain⟨y1,y2⟩:=zbE m _ b
  obtain⟨z1,z2⟩:=za3 m _ _ x1 y1
  refine⟨z1,?_⟩
  show (List.append (List.append _ _) _).length=zcQ m+zcQ m+(m+1)*2 ^ m
  rw[List.append_eq,List.append_eq,List.length_append,List.length_append,z2,x2,y2]
def zcs (k:Nat):Nt:=⟨2 ^ k,(zcc k (List.range (2 ^ k))).1,(zcc k (List.range (2 ^ k))).2⟩
def zba (k:Nat):Nt:=⟨2 ^ k,(zaV k (List.range (2 ^ k))).1,(zaV k (List.range (2 ^ k))).2⟩
def zbc (m:Nat):Nt:=⟨2 ^ (m+1),(zaJ m ((List.range (2 ^ (m+1))).take (2 ^ m)) ((List.range (2 ^ (m+1))).drop (2 ^ m))).1,(zaJ m ((List.range (2 ^ (m+1))).take (2 ^ m)) ((List.range (2 ^ (m+1))).drop (2 ^ m))).2⟩
theorem zhO:∀ k,k<5→(zcs k).forks.length≤128∧(∀ f∈(zcs k).forks,f.1<2 ^ k∧f.2<2 ^ k∧f.1≠f.2)∧(zcs k).ends.Perm (List.range (2 ^ k)):=by decide +kernel
theorem zgk:∀ k,k<5→(zba k).forks.length≤128∧(∀ f∈(zba k).forks,f.1<2 ^ k∧f.2<2 ^ k∧f.1≠f.2)∧(zba k).ends.Perm (List.range (2 ^ k)):=by decide +kernel
theorem zhg:∀ m,m<4→(zbc m).forks.length≤128∧(∀ f∈(zbc m).forks,f.1<2 ^ (m+1)∧f.2<2 ^ (m+1)∧f.1≠f.2)∧(zbc m).ends.Perm (List.range (2 ^ (m+1))):=by decide +kernel
theorem za4 {k:Nat}(h:k<5):1≤2 ^ k∧2 ^ k≤16:=⟨Nat.one_le_two_pow,Nat.pow_le_pow_right (show 0<2 by decide) (show k≤4 by lia)⟩
theorem zgh {k:Nat}(h:k<5):(zcs k).Ok:=let ⟨a,b,c⟩:=zhO k h;⟨(za4 h).1,(za4 h).2,a,b,c⟩
theorem ze6 {k:Nat}(h:k<5):(zba k).Ok:=let ⟨a,b,c⟩:=zgk k h;⟨(za4 h).1,(za4 h).2,a,b,c⟩
theorem zfk {m:Nat}(h:m<4):(zbc m).Ok:=let ⟨a,b,c⟩:=zhg m h;⟨(za4 (k:=m+1) (by lia)).1,(za4 (k:=m+1) (by lia)).2,a,b,c⟩
end Bn
namespace K83
open PySem L2 Own Bn
abbrev sPow:Stmt:=top 36
abbrev zgA:Stmt:=top 42
abbrev zdn:Stmt:=top 43
def zi8:Sp:=fun vs H Q _=>∃ m:Nat,vs=[.int m]∧m≤20∧Q (.int ((2 ^ m:Nat):Int)) H
def zbY:Sp:=fun vs H Q _=>∃ m:Nat,vs=[.int m]∧m≤10∧∀ l,H l=none→Q (.ref l) (upd H l (.lst (nums (List.range (2 ^ m)))))
def za1:Sp:=fun vs H Q _=>∃ (p c lf le:Addr) (ps:List V) (fs:List Fk) (row es:List Nat),vs=[.ref p,.ref c]∧H p=some (.lst (nums row))∧H c=some (.tup [.ref lf,.ref le])∧H lf=some (.lst ps)∧Prs H ps fs∧H le=some (.lst (nums es))∧(Nt.Ok ⟨row.length,fs,es⟩∧fs.length≤63) ∧
 ∀ r' fr' er' ps' H',Same H H'→NetAt H' r' fr' er' ps' (zal ⟨row.length,fs,es⟩)→Q (.ref r') H'
theorem zcl:∀ k,k<4→(zcs k).forks.length≤63∧(zba k).forks.length≤63∧(zaR k).forks.length≤63∧(zbc k).forks.length≤63:=by decide +kernel
section
variable {P:Program}{w:World}{K:PySem.W.Frag}{mg:Str→Option Value}{base:Heap}
theorem scP2:FnScope ["many","power","doubling"] ["many"] (zad sPow):=⟨rfl,rfl,rfl,by decide +kernel,rfl,by decide +kernel,by decide +kernel⟩
theorem zkE {f:Addr}{fd:FuncData}(F:Fun K "power_of_two" "power_of_two" sPow f fd) (G:Mgs mg):FnOk P w K mg base CX0 1 f fd ["many"] zi8:=by
 refine F.ok scP2 (fun vs H Q E h=>?_) (fun cdv A outer s H vs Q E hr h=>?_)
 ·obtain⟨m,rfl,_⟩:=h
  rfl
 obtain⟨m,rfl,hm,k⟩:=h
 refine⟨_,(@pss_cons _ _ _ _ _ (@ps_set _ _ 1 _ _ _ _ scP2.nd rfl (.inl rfl) pe_int (by rfl) (by first|exact .inl rfl|exact .inr rfl|assumption)) (@pss_cons _ _ _ _ _ (@ps_for _ _ _ _ _ _ _ _ PassesOwn.never rfl (@pi_range1 _ _ _ _ _ _ rfl G.range (@pa_cons _ _ _ _ _ (@pv _ 0 _ _ (by rfl) (by first|exact Or.inl rfl|exact Or.inr (.inl rfl)|exact Or.inr (.inr rfl)) (by decide) (by decide)) pa_nil (by rfl)) (by rfl)) (@pg_name _ _ 2 _ scP2.nd rfl (.inl rfl) (by first|exact .inl rfl|exact .inr rfl|assumption)) (@pss_one _ _ _ (@ziL _ _ 1 _ _ _ _ _ _ scP2.nd rfl (.inl rfl) pe_int zj2 (by first|exact .inl rfl|exact .inr rfl|assumption))) (by intro _;rfl)) (@pss_one _ _ _ (@ps_ret _ _ _ _ (@pv _ 1 _ _ (by rfl) (by first|exact Or.inl rfl|exact Or.inr (.inl rfl)|exact Or.inr (.inr rfl)) (by decide) (by decide)))))),?_⟩
 refine⟨_,rfl,m,rfl,by lia,by lia,zaT (lo:=0) (n:=((m:Nat):Int).toNat) (fun i σ H2=>H2=H∧∃ v2,σ=[some (.int m),some (.int ((2 ^ i:Nat):Int)),v2]) ⟨rfl,_,rfl⟩ ?_ ?_⟩
 ·rintro i σ H2 hi ⟨rfl,v2,rfl⟩
  refine⟨_,rfl,_,_,rfl,rfl,.inr ⟨by decide,by decide⟩,rfl,some (.int (0+(i:Nat))),?_⟩
  rw[← show ((2 ^ i:Nat):Int)*2=((2 ^ (i+1):Nat):Int) from by rw[Nat.pow_succ,Int.natCast_mul];rfl];rfl
 ·rintro σ H2 ⟨rfl,v2,rfl⟩
  refine⟨_,rfl,?_⟩
  rw[show ((m:Nat):Int).toNat=m from by lia]
  exact k
theorem scRo:FnScope ["k"] ["k"] (zad zgA):=⟨rfl,rfl,rfl,by decide +kernel,rfl,by decide +kernel,by decide +kernel⟩
theorem zic {f fP:Addr}{fd dP:FuncData}(F:Fun K "row_of" "row_of" zgA f fd) (G:Mgs mg) (UP:Use P w K mg base "power_of_two" ["many"] 1 zi8 fP dP):FnOk P w K mg base CX0 2 f fd ["k"] zbY:=by
 refine F.ok scRo (fun vs H Q E h=>?_) (fun cdv A outer s H vs Q E hr h=>?_)
 ·obtain⟨m,rfl,_⟩:=h
  rfl
 obtain⟨m,rfl,hm,k⟩:=h
 refine⟨_,(@pss_one _ _ _ (@ps_ret _ _ _ _ (@pe_lstRng _ _ _ _ _ _ _ rfl (by rfl) G.list (by rfl) G.range (@pa_cons _ _ _ _ _ (@pe_call _ _ _ _ _ _ _ _ _ _ _ _ _ _ _ _ UP.ok hr (by rfl) UP.m UP.kp UP.b .nil pass0 (@pa_cons _ _ _ _ _ (@pv _ 0 _ _ (by rfl) (by first|exact Or.inl rfl|exact Or.inr (.inl rfl)|exact Or.inr (.inr rfl)) (by decide) (by decide)) pa_nil (by rfl)) (by decide) (by rfl) (by rfl)) pa_nil (by rfl)) (by rfl) (by rfl)))),?_⟩
 have b:2 ^ m≤2 ^ 10:=Nat.pow_le_pow_right (by decide) hm
 exact⟨_,rfl,m,rfl,by lia,2 ^ m,rfl,Nat.le_trans b (by decide),fun l hl=>k l hl⟩
theorem scMn:FnScope ["row","made","forks","ends"] ["row","made"] (zad zdn):=⟨rfl,rfl,rfl,by decide +kernel,rfl,by decide +kernel,by decide +kernel⟩
theorem zfM {f fP:Addr}{fd dP:FuncData}(F:Fun K "net_of" "net_of" zdn f fd) (G:Mgs mg) (UP:Use P w K mg base "plain" ["net"] 2 zek fP dP):FnOk P w K mg base CX0 3 f fd ["row","made"] za1:=by
 refine F.ok scMn (fun vs H Q E h=>?_) (fun cdv A outer s H vs Q E hr h=>?_)
 ·obtain⟨p,c,lf,le,ps,fs,row,es,rfl,_⟩:=h
  rfl
 obtain⟨p,c,lf,le,ps,fs,row,es,rfl,hp,hc,hlf,pr,hle,⟨ok,few⟩,k⟩:=h
 refine⟨_,(@pss_cons _ _ _ _ _ (@ps_asg _ _ _ _ _ _ (@pv _ 1 _ _ (by rfl) (by first|exact Or.inl rfl|exact Or.inr (.inl rfl)|exact Or.inr (.inr rfl)) (by decide) (by decide)) (@pg_tup _ _ _ _ _ _ rfl (@pgs_cons _ _ _ _ _ (@pg_name _ _ 2 _ scMn.nd rfl (.inl rfl) (by first|exact .inl rfl|exact .inr rfl|assumption)) (@pgs_cons _ _ _ _ _ (@pg_name _ _ 3 _ scMn.nd rfl (.inl rfl) (by first|exact .inl rfl|exact .inr rfl|assumption)) pgs_nil (by rfl)) (by rfl)) (by rfl) (by rfl)) (by rfl) (by rfl) (by rfl)) (@pss_one _ _ _ (@ps_ret _ _ _ _ (@pe_call _ _ _ _ _ _ _ _ _ _ _ _ _ _ _ _ UP.ok hr (by rfl) UP.m UP.kp UP.b .nil pass0 (@pa_cons _ _ _ _ _ (@pe_tup _ _ _ _ _ (@pa_cons _ _ _ _ _ (@pe_callB _ _ _ _ _ _ _ _ _ call_len_seq (by rfl) G.len PySem.boot_len (@pa_cons _ _ _ _ _ (@pv _ 0 _ _ (by rfl) (by first|exact Or.inl rfl|exact Or.inr (.inl rfl)|exact Or.inr (.inr rfl)) (by decide) (by decide)) pa_nil (by rfl)) (by decide) (by decide) (by rfl) (by rfl)) (@pa_cons _ _ _ _ _ (@pe_callTy _ _ _ _ _ _ _ _ _ call_tuple_of (by rfl) G.tuple (by rfl) (@pa_cons _ _ _ _ _ (@pv _ 2 _ _ (by rfl) (by first|exact Or.inl rfl|exact Or.inr (.inl rfl)|exact Or.inr (.inr rfl)) (by decide) (by decide)) pa_nil (by rfl)) (by decide) (by decide) (by rfl) (by rfl)) (@pa_cons _ _ _ _ _ (@pe_callTy _ _ _ _ _ _ _ _ _ call_tuple_of (by rfl) G.tuple (by rfl) (@pa_cons _ _ _ _ _ (@pv _ 3 _ _ (by rfl) (by first|exact Or.inl rfl|exact Or.inr (.inl rfl)|exact Or.inr (.inr rfl)) (by decide) (by decide)) pa_nil (by rfl)) (by decide) (by decide) (by rfl) (by rfl)) pa_nil (by rfl)) (by rfl)) (by rfl))) pa_nil (by rfl)) (by decide) (by rfl) (by rfl))))),?_⟩
 refine⟨_,rfl,c,_,rfl,SqT.of hc,rfl,_,_,rfl,_,_,rfl,rfl,?_⟩
 refine⟨_,rfl,p,_,rfl,.inl (SqL.of hp),_,rfl,lf,_,rfl,.inl ⟨SqL.of hlf,fun fr hfr=>?_⟩⟩
 have s1:=zaa hfr (.tup ps)
 refine⟨_,rfl,le,_,rfl,.inl ⟨SqL.of (s1 _ _ hle),fun er her=>?_⟩⟩
 have s2:=zaa her (.tup (nums es))
 refine⟨(by show 3≤sizeLine;decide),fun r hr'=>?_⟩
 have s3:=zaa hr' (.tup [.int ((nums row).length:Nat),.ref fr,.ref er])
 have n3:L2.upd (L2.upd (L2.upd H fr (.tup ps)) er (.tup (nums es))) r (.tup [.int ((nums row).length:Nat),.ref fr,.ref er]) r=some (.tup [.int (row.length:Nat),.ref fr,.ref er]):=by rw[zab,zag]
 refine⟨r,fr,er,ps,⟨row.length,fs,es⟩,rfl,ok,few,⟨n3,s3 _ _ (s2 _ _ (atNew hfr _)),pr.tups (Tups.of ((s1.trans s2).trans s3)),s3 _ _ (atNew her _)⟩,fun r' fr' ps' H' s' n'=>k r' fr' er ps' H' (((s1.trans s2).trans s3).trans s') n'⟩
end
abbrev zfb:Stmt:=top 46
abbrev zeu:Stmt:=top 40
def zbZ (m:Nat):Sp:=fun vs H Q _=>∃ p row,vs=[.ref p]∧H p=some (.lst (nums row))∧row.length≤2 ^ m∧row.length≤1000∧m≤20∧∀ l ps H',Same H H'→H' l=some (.lst ps)→Prs H' ps (zaU m row)→Q (.ref l) H'
def zde:Sp:=fun vs H Q _=>∃ k:Nat,vs=[.int k]∧k<4∧∀ r' fr' er' ps' H',Same H H'→NetAt H' r' fr' er' ps' (dueN k)→Q (.ref r') H'
theorem zfv (row:List Nat) (i:Nat) (h:i≤row.length):cutV (nums row) none (some (i:Int))=nums (row.take i):=by
 rw[zaY _ _ (by rw[zag];exact h)]
 unfold nums
 rw[List.map_take]
theorem ziF (row:List Nat) (i:Nat) (h:i≤row.length):cutV (nums row) (some (i:Int)) none=nums (row.drop i):=by
 rw[zaZ _ _ (by rw[zag];exact h)]
 unfold nums
 rw[List.map_drop]
section
variable {P:Program}{w:World}{K:PySem.W.Frag}{mg:Str→Option Value}{base:Heap}
theorem scBk:FnScope ["row","half"] ["row"] (zad zfb):=⟨rfl,rfl,rfl,by decide +kernel,rfl,by decide +kernel,by decide +kernel⟩
theorem zdX {f:Addr}{fd:FuncData}(F:Fun K "block_of" "block_of" zfb f fd) (G:Mgs mg) (bS:Binds K fd ["row"] []) (mS:mg "block_of" = some (.ref f)) (n:Nat)
  (GS:FnOk P w K mg base CX0 n f fd ["row"] (fun vs H Q E=>∃ m,n=m+1∧zbZ m vs H Q E)):FnOk P w K mg base CX0 (n+1) f fd ["row"] (zbZ n):=by
 have UB:Use P w K mg base "block_of" ["row"] n (fun vs H Q E=>∃ m,n=m+1∧zbZ m vs H Q E) f fd:=⟨GS,bS,F.kp,mS⟩
 refine F.ok scBk (fun vs H Q E h=>?_) (fun cdv A outer s H vs Q E hr h=>?_)
 ·obtain⟨p,row,rfl,_⟩:=h
  rfl
 obtain⟨p,row,rfl,hp,rl,r1000,n20,k⟩:=h
 refine⟨_,(@pss_cons _ _ _ _ _ (@ps_if _ _ _ _ _ _ _ _ (@pt_cmpR _ _ _ _ _ _ _ _ zcN (@pe_callB _ _ _ _ _ _ _ _ _ call_len_seq (by rfl) G.len PySem.boot_len (@pa_cons _ _ _ _ _ (@pv _ 0 _ _ (by rfl) (by first|exact Or.inl rfl|exact Or.inr (.inl rfl)|exact Or.inr (.inr rfl)) (by decide) (by decide)) pa_nil (by rfl)) (by decide) (by decide) (by rfl) (by rfl)) pe_int (nomark _)) (@pss_one _ _ _ (@ps_ret _ _ _ _ (@zaz _ _ _ _ pa_nil))) pss_nil) (@pss_cons _ _ _ _ _ (@ps_set _ _ 1 _ _ _ _ scBk.nd rfl (.inl rfl) (@pe_op _ _ _ _ _ _ _ _ op_fdiv (@pe_callB _ _ _ _ _ _ _ _ _ call_len_seq (by rfl) G.len PySem.boot_len (@pa_cons _ _ _ _ _ (@pv _ 0 _ _ (by rfl) (by first|exact Or.inl rfl|exact Or.inr (.inl rfl)|exact Or.inr (.inr rfl)) (by decide) (by decide)) pa_nil (by rfl)) (by decide) (by decide) (by rfl) (by rfl)) pe_int) (by rfl) (by first|exact .inl rfl|exact .inr rfl|assumption)) (@pss_one _ _ _ (@ps_ret _ _ _ _ (@pe_op _ _ _ _ _ _ _ _ zbL (@pe_op _ _ _ _ _ _ _ _ zbL (@zcz _ _ _ _ _ _ _ _ true true (by rfl) G.list (by rfl) G.zip rfl (@pa_cons _ _ _ _ _ (@zan _ _ _ _ _ _ _ _ _ _ za6 (@pv _ 0 _ _ (by rfl) (by first|exact Or.inl rfl|exact Or.inr (.inl rfl)|exact Or.inr (.inr rfl)) (by decide) (by decide)) zas (@zak _ _ _ (@pv _ 1 _ _ (by rfl) (by first|exact Or.inl rfl|exact Or.inr (.inl rfl)|exact Or.inr (.inr rfl)) (by decide) (by decide)))) (@pa_cons _ _ _ _ _ (@zky _ _ _ _ _ _ _ (@pv _ 0 _ _ (by rfl) (by first|exact Or.inl rfl|exact Or.inr (.inl rfl)|exact Or.inr (.inr rfl)) (by decide) (by decide)) (@zak _ _ _ (@zgV _ _ _ _ _ _ zdK pe_int))) pa_nil (by rfl)) (by rfl)) (by rfl) (by rfl) (by rfl)) (@pe_call _ _ _ _ _ _ _ _ _ _ _ _ _ _ _ _ UB.ok hr (by rfl) UB.m UB.kp UB.b .nil pass0 (@pa_cons _ _ _ _ _ (@zan _ _ _ _ _ _ _ _ _ _ za6 (@pv _ 0 _ _ (by rfl) (by first|exact Or.inl rfl|exact Or.inr (.inl rfl)|exact Or.inr (.inr rfl)) (by decide) (by decide)) zas (@zak _ _ _ (@pv _ 1 _ _ (by rfl) (by first|exact Or.inl rfl|exact Or.inr (.inl rfl)|exact Or.inr (.inr rfl)) (by decide) (by decide)))) pa_nil (by rfl)) (by decide) (by rfl) (by rfl))) (@pe_call _ _ _ _ _ _ _ _ _ _ _ _ _ _ _ _ UB.ok hr (by rfl) UB.m UB.kp UB.b .nil pass0 (@pa_cons _ _ _ _ _ (@zan _ _ _ _ _ _ _ _ _ _ za6 (@pv _ 0 _ _ (by rfl) (by first|exact Or.inl rfl|exact Or.inr (.inl rfl)|exact Or.inr (.inr rfl)) (by decide) (by decide)) (@zak _ _ _ (@pv _ 1 _ _ (by rfl) (by first|exact Or.inl rfl|exact Or.inr (.inl rfl)|exact Or.inr (.inr rfl)) (by decide) (by decide))) zas) pa_nil (by rfl)) (by decide) (by rfl) (by rfl))))))),?_⟩
 have nl:=zag row
 refine⟨_,rfl,p,_,rfl,.inl (SqL.of hp),_,_,rfl,rfl,_,rfl,?_⟩
 by_cases c:row.length<2
 ·rw[decide_eq_true (show (((nums row).length:Nat):Int)<2 by lia)]
  refine iteT ⟨(by show 0≤sizeLine;decide),fun l hl=>k l [] _ (zaa hl _) (atNew hl _) ?_⟩
  have e:zaU n row=[]:=by
   cases n with
   | zero=>rfl
   | succ m=>unfold zaU;rw[if_pos c]
  rw[e];trivial
 rw[decide_eq_false (show ¬(((nums row).length:Nat):Int)<2 by lia)]
 obtain⟨m,rfl⟩:∃ m,n=m+1:=by
  cases n with
  | zero=>rw[show 2 ^ 0=1 from rfl]at rl;lia
  | succ m=>exact⟨m,rfl⟩
 rw[Nat.pow_succ]at rl
 refine iteF ⟨_,rfl,p,_,rfl,.inl (SqL.of hp),_,_,rfl,rfl,⟨by decide,by decide⟩,?_⟩
 have eh:(((nums row).length:Nat):Int) / 2=((row.length / 2:Nat):Int):=by rw[nl];lia
 simp only[eh]
 have hh:row.length / 2≤row.length:=by lia
 refine⟨_,rfl,_,rfl,_,rfl,p,_,rfl,SqL.of hp,fun p1 hp1=>?_⟩
 rw[zfv row _ hh]
 have s1:=zaa hp1 (.lst (nums (row.take (row.length / 2))))
 refine⟨_,rfl,_,rfl,_,rfl,rfl,p,_,rfl,SqL.of (s1 _ _ hp),fun p2 hp2=>?_⟩
 have er:(nums row).reverse=nums row.reverse:=by unfold nums;rw[List.map_reverse]
 rw[er]
 have s2:=zaa hp2 (.lst (nums row.reverse))
 refine⟨p1,p2,_,_,rfl,SqL.of (s2 _ _ (atNew hp1 _)),SqL.of (atNew hp2 _),by rw[zag,zag,List.length_take,List.length_reverse];lia,by rw[zag,List.length_take];lia,fun lz ts H2 s3 n1 n2 z=>?_⟩
 have pz:=zeE z (by rw[List.length_take,List.length_reverse];lia)
 have s4:=zaa n2 (.lst ts)
 have u4:=((s1.trans s2).trans s3).trans s4
 have pz4:=pz.tups (Tups.of s4)
 have hz4:=atNew n2 (.lst ts)
 have tl:=pz.len
 rw[List.length_zip,List.length_take,List.length_reverse]at tl
 generalize upd H2 lz (.lst ts)=H4 at s4 u4 pz4 hz4
 have hp4:=u4 _ _ hp
 refine⟨_,rfl,_,rfl,_,rfl,p,_,rfl,SqL.of hp4,fun p5 hp5=>?_⟩
 rw[zfv row _ hh]
 have s5:=zaa hp5 (.lst (nums (row.take (row.length / 2))))
 refine⟨m,rfl,p5,row.take (row.length / 2),rfl,atNew hp5 _,by rw[List.length_take];lia,by rw[List.length_take];lia,by lia,fun l6 ps6 H6 s6 h6 pr6=>?_⟩
 have u6:=s5.trans s6
 have b6:=zbl m (row.take (row.length / 2))
 rw[List.length_take]at b6
 have b6':m*min (row.length / 2) row.length≤20*1000:=Nat.mul_le_mul (by lia) (by lia)
 have pl6:=pr6.len
 refine⟨lz,l6,_,_,rfl,rfl,u6 _ _ hz4,h6,by rw[sizeLine_eq];lia,fun l7 hl7=>?_⟩
 have s7:=zaa hl7 (.lst (ts++ps6))
 have pr7:=(Prs.app (pz4.tups (Tups.of u6)) pr6).tups (Tups.of s7)
 have h7:=atNew hl7 (.lst (ts++ps6))
 have u7:=u4.trans (u6.trans s7)
 generalize upd H6 l7 _=H7 at s7 pr7 h7 u7
 have hp7:=u7 _ _ hp
 refine⟨_,rfl,_,rfl,_,rfl,p,_,rfl,SqL.of hp7,fun p8 hp8=>?_⟩
 rw[ziF row _ hh]
 have s8:=zaa hp8 (.lst (nums (row.drop (row.length / 2))))
 refine⟨m,rfl,p8,row.drop (row.length / 2),rfl,atNew hp8 _,by rw[List.length_drop];lia,by rw[List.length_drop];lia,by lia,fun l9 ps9 H9 s9 h9 pr9=>?_⟩
 have u9:=s8.trans s9
 have b9:=zbl m (row.drop (row.length / 2))
 rw[List.length_drop]at b9
 have b9':m*(row.length-row.length / 2)≤20*1000:=Nat.mul_le_mul (by lia) (by lia)
 have pl9:=pr9.len
 refine⟨l7,l9,_,_,rfl,rfl,u9 _ _ h7,h9,by rw[List.length_append,sizeLine_eq];lia,fun l10 hl10=>?_⟩
 have s10:=zaa hl10 (.lst ((ts++ps6)++ps9))
 have pr10:=(Prs.app (pr7.tups (Tups.of u9)) pr9).tups (Tups.of s10)
 refine k l10 _ _ (u7.trans (u9.trans s10)) (atNew hl10 _) ?_
 have e:zaU (m+1) row=(row.take (row.length / 2)).zip row.reverse++zaU m (row.take (row.length / 2))++zaU m (row.drop (row.length / 2)):=by
  conv=>lhs;unfold zaU
  rw[if_neg c]
 rw[e];exact pr10
theorem zfh {f:Addr}{fd:FuncData}(F:Fun K "block_of" "block_of" zfb f fd) (G:Mgs mg) (bS:Binds K fd ["row"] []) (mS:mg "block_of" = some (.ref f)):∀ n:Nat,FnOk P w K mg base CX0 (n+1) f fd ["row"] (zbZ n)
 | 0=>zdX F G bS mS 0 ⟨fun vs H Q E ⟨m,h,_⟩=>by lia,fun A outer s H args us vs Q E _ _ _ _ ⟨m,h,_⟩=>by lia⟩
 | m+1=>zdX F G bS mS (m+1) ((zfh F G bS mS m).imp fun vs H Q E ⟨m',h,q⟩=>by cases h;exact q)
theorem zfY:∀ k,k<5→zaU 4 (List.range (2 ^ k))=zaU k (List.range (2 ^ k)):=by decide +kernel
theorem zgR {H:Hp}{ps:List V}{fs:List Fk}(h:Prs H ps fs):∀ n:Nat,Prs H (List.replicate n ps).flatten (List.replicate n fs).flatten
 | 0=>trivial
 | n+1=>by
  rw[List.replicate_succ,List.replicate_succ,List.flatten_cons,List.flatten_cons]
  exact Prs.app h (zgR h n)
theorem scRd:FnScope ["k","row"] ["k"] (zad zeu):=⟨rfl,rfl,rfl,by decide +kernel,rfl,by decide +kernel,by decide +kernel⟩
theorem zg2 {f fR fB fM:Addr}{fd dR dB dM:FuncData}(F:Fun K "rounds" "rounds" zeu f fd) (UR:Use P w K mg base "row_of" ["k"] 2 zbY fR dR) (UB:Use P w K mg base "block_of" ["row"] 5 (zbZ 4) fB dB) (UM:Use P w K mg base "net_of" ["row","made"] 3 za1 fM dM):FnOk P w K mg base CX0 6 f fd ["k"] zde:=by
 refine F.ok scRd (fun vs H Q E h=>?_) (fun cdv A outer s H vs Q E hr h=>?_)
 ·obtain⟨k,rfl,_⟩:=h
  rfl
 obtain⟨k,rfl,k5,q⟩:=h
 have hr2:Room 2 _:=hr.mono (by decide)
 have hr3:Room 3 _:=hr.mono (by decide)
 refine⟨_,(@pss_cons _ _ _ _ _ (@ps_set _ _ 1 _ _ _ _ scRd.nd rfl (.inl rfl) (@pe_call _ _ _ _ _ _ _ _ _ _ _ _ _ _ _ _ UR.ok hr2 (by rfl) UR.m UR.kp UR.b .nil pass0 (@pa_cons _ _ _ _ _ (@pv _ 0 _ _ (by rfl) (by first|exact Or.inl rfl|exact Or.inr (.inl rfl)|exact Or.inr (.inr rfl)) (by decide) (by decide)) pa_nil (by rfl)) (by decide) (by rfl) (by rfl)) (by rfl) (by first|exact .inl rfl|exact .inr rfl|assumption)) (@pss_one _ _ _ (@ps_ret _ _ _ _ (@pe_call _ _ _ _ _ _ _ _ _ _ _ _ _ _ _ _ UM.ok hr3 (by rfl) UM.m UM.kp UM.b .nil pass0 (@pa_cons _ _ _ _ _ (@pv _ 1 _ _ (by rfl) (by first|exact Or.inl rfl|exact Or.inr (.inl rfl)|exact Or.inr (.inr rfl)) (by decide) (by decide)) (@pa_cons _ _ _ _ _ (@pe_tup _ _ _ _ _ (@pa_cons _ _ _ _ _ (@pe_op _ _ _ _ _ _ _ _ zdU (@pe_call _ _ _ _ _ _ _ _ _ _ _ _ _ _ _ _ UB.ok hr (by rfl) UB.m UB.kp UB.b .nil pass0 (@pa_cons _ _ _ _ _ (@pv _ 1 _ _ (by rfl) (by first|exact Or.inl rfl|exact Or.inr (.inl rfl)|exact Or.inr (.inr rfl)) (by decide) (by decide)) pa_nil (by rfl)) (by decide) (by rfl) (by rfl)) (@pv _ 0 _ _ (by rfl) (by first|exact Or.inl rfl|exact Or.inr (.inl rfl)|exact Or.inr (.inr rfl)) (by decide) (by decide))) (@pa_cons _ _ _ _ _ (@pv _ 1 _ _ (by rfl) (by first|exact Or.inl rfl|exact Or.inr (.inl rfl)|exact Or.inr (.inr rfl)) (by decide) (by decide)) pa_nil (by rfl)) (by rfl))) pa_nil (by rfl)) (by rfl)) (by decide) (by rfl) (by rfl))))),?_⟩
 have p16:2 ^ k≤2 ^ 4:=Nat.pow_le_pow_right (by decide) (by lia)
 refine⟨_,rfl,k,rfl,by lia,fun p hp=>?_⟩
 have s1:=zaa hp (.lst (nums (List.range (2 ^ k))))
 refine⟨_,rfl,_,rfl,p,List.range (2 ^ k),rfl,atNew hp _,by rw[List.length_range];exact p16,by rw[List.length_range];exact Nat.le_trans p16 (by decide),by decide,fun l ps H2 s2 hl pr=>?_⟩
 rw[zfY k (by lia)]at pr
 have pl:=pr.len
 have bl:=zbl k (List.range (2 ^ k))
 rw[List.length_range]at bl
 have b2:k*2 ^ k≤4*2 ^ 4:=Nat.mul_le_mul (by lia) p16
 have b3:ps.length*k≤(4*2 ^ 4)*4:=Nat.mul_le_mul (by lia) (by lia)
 refine⟨_,rfl,l,k,ps,rfl,rfl,hl,by lia,by lia,by rw[Int.toNat_natCast,sizeLine_eq];lia,fun l2 hl2=>?_⟩
 rw[Int.toNat_natCast]
 have s3:=zaa hl2 (.lst (List.replicate k ps).flatten)
 refine⟨_,rfl,(by show 2≤sizeLine;decide),fun c hc=>?_⟩
 have s4:=zaa hc (.tup [.ref l2,.ref p])
 have hp4:=s4 _ _ (s3 _ _ (s2 _ _ (atNew hp (.lst (nums (List.range (2 ^ k)))))))
 have okr:=zdQ (k:=k) (by lia)
 have eN:(⟨(List.range (2 ^ k)).length,(List.replicate k (zaU k (List.range (2 ^ k)))).flatten,List.range (2 ^ k)⟩:Nt)=zaR k:=by rw[List.length_range];rfl
 refine⟨p,c,l2,p,_,_,List.range (2 ^ k),List.range (2 ^ k),rfl,hp4,atNew hc _,s4 _ _ (atNew hl2 _),(zgR pr k).tups (Tups.of (s3.trans s4)),hp4,⟨by rw[eN];exact okr,(zcl k k5).2.2.1⟩,fun r' fr' er' ps' H' s' n'=>?_⟩
 rw[eN,zcV (k:=k) (by lia)]at n'
 exact q r' fr' er' ps' H' ((((s1.trans s2).trans s3).trans s4).trans s') n'
end
abbrev sBy:Stmt:=top 48
def spBy:Sp:=fun vs H Q _=>∃ p1 p2 xs ys,vs=[.ref p1,.ref p2]∧H p1=some (.lst xs)∧H p2=some (.lst ys)∧xs.length=ys.length∧xs.length≤1000∧∀ l H',Same H H'→H' l=some (.lst (zaE xs ys))→Q (.ref l) H'
theorem zfz {α:Type}(xs ys:List α) (i:Nat) (x y:α) (hx:xs[i]?=some x) (hy:ys[i]?=some y):zaE (xs.take (i+1)) (ys.take (i+1))=zaE (xs.take i) (ys.take i)++[x,y]:=by
 obtain⟨ix,ex⟩:=List.getElem?_eq_some_iff.mp hx
 obtain⟨iy,ey⟩:=List.getElem?_eq_some_iff.mp hy
 rw[List.take_succ_eq_append_getElem ix,List.take_succ_eq_append_getElem iy,ex,ey]
 unfold zaE
 rw[List.zip_append (by rw[List.length_take,List.length_take];lia),List.flatMap_append]
 rfl
section
variable {P:Program}{w:World}{K:PySem.W.Frag}{mg:Str→Option Value}{base:Heap}
theorem scBt:FnScope ["one","other"] ["one","other"] (zad sBy):=⟨rfl,rfl,rfl,by decide +kernel,rfl,by decide +kernel,by decide +kernel⟩
theorem zlp {f:Addr}{fd:FuncData}(F:Fun K "by_turns" "by_turns" sBy f fd) (G:Mgs mg):FnOk P w K mg base CX0 1 f fd ["one","other"] spBy:=by
 refine F.ok scBt (fun vs H Q E h=>?_) (fun cdv A outer s H vs Q E hr h=>?_)
 ·obtain⟨p1,p2,xs,ys,rfl,_⟩:=h
  rfl
 obtain⟨p1,p2,xs,ys,rfl,h1,h2,hxy,hz,k⟩:=h
 refine⟨_,(@pss_one _ _ _ (@ps_ret _ _ _ _ (@zkA _ _ _ _ _ _ none _ _ _ (iTup K (tVar 0)) _ _ _ _ ["pair","thing"] [none,none] rfl (@zjw _ _ _ _ _ _ _ _ true true rfl G.zip (@pa_cons _ _ _ _ _ (@pv _ 0 _ _ (by rfl) (by first|exact Or.inl rfl|exact Or.inr (.inl rfl)|exact Or.inr (.inr rfl)) (by decide) (by decide)) (@pa_cons _ _ _ _ _ (@pv _ 1 _ _ (by rfl) (by first|exact Or.inl rfl|exact Or.inr (.inl rfl)|exact Or.inr (.inr rfl)) (by decide) (by decide)) pa_nil (by rfl)) (by rfl)) (by rfl) (by rfl)) (CapOk.of (by kernel_rfl)) (fun _ _ _ _ _=>(@pg_name _ _ 0 _ (show (["pair","thing"]:List Str).Nodup from by decide +kernel) rfl (.inl rfl) (.inr rfl))) (fun _ _ _ _ _=>(@zb9 _ _ _ _ (@pv _ 0 _ _ (by rfl) (by first|exact Or.inl rfl|exact Or.inr (.inl rfl)|exact Or.inr (.inr rfl)) (by decide) (by decide)))) (fun _ _ _ _ _=>(@pg_name _ _ 1 _ (show (["pair","thing"]:List Str).Nodup from by decide +kernel) rfl (.inl rfl) (.inr rfl))) (fun _ _ _ _ _=>zbx) (fun _ _ _ _ _=>(@pv _ 1 _ _ (by rfl) (by first|exact Or.inl rfl|exact Or.inr (.inl rfl)|exact Or.inr (.inr rfl)) (by decide) (by decide))) (by intro _;rfl) (by intro _ _;rfl)))),?_⟩
 refine⟨_,rfl,_,rfl,p1,p2,xs,ys,rfl,SqL.of h1,SqL.of h2,fun l hl=>?_⟩
 refine zjY hxy (fun i acc σ H2=>(∃ v0 v1,σ=[v0,v1])∧Same H H2∧H2 l=some (.lst acc)∧acc=zaE (xs.take i) (ys.take i)) ⟨⟨_,_,rfl⟩,zaa hl _,zab,rfl⟩ (fun i acc σ H2 z=>⟨z.2.2.1,SqL.of (z.2.1 _ _ h1),SqL.of (z.2.1 _ _ h2)⟩) ?_ ?_
 ·rintro i acc σ H2 x y T hx hy hT ⟨⟨v0,v1,rfl⟩,s2,hl2,e2⟩
  have ix:=(List.getElem?_eq_some_iff.mp hx).1
  have al:acc.length≤2000:=by
   rw[e2,zbm _ _ (by rw[List.length_take,List.length_take,hxy]),List.length_take];lia
  refine⟨_,rfl,T,rfl,⟨_,.inl (.inl (atNew hT _))⟩,?_⟩
  have lT:l≠T:=zac hl2 hT
  refine zjZ (zs:=[x,y]) (fun j ac τ G=>(∃ v1,τ=[some (.ref T),v1])∧Same H G∧G T=some (.tup [x,y])∧G l=some (.lst ac)∧ac=acc++[x,y].take j) ⟨⟨_,rfl⟩,s2.trans (zaa hT _),atNew hT _,zaa hT _ _ _ hl2,(List.append_nil _).symm⟩ (fun j ac τ G z=>⟨z.2.2.2.1,.inl (.inl z.2.2.1)⟩) ?_ ?_
  ·rintro j u ac τ G hu ⟨⟨v1,rfl⟩,s3,hT3,hl3,e3⟩
   have jl:=(List.getElem?_eq_some_iff.mp hu).1
   refine⟨_,rfl,hl3,?_,nx jl ⟨⟨_,rfl⟩,fun c o e=>?_,?_,zab,?_⟩⟩
   ·rw[e3,List.length_append,List.length_take,sizeLine_eq]
    simp only[List.length_cons,List.length_nil]at jl ⊢
    lia
   ·rw[zae (zac e hl)];exact s3 c o e
   ·rw[zae (Ne.symm lT)];exact hT3
   ·obtain⟨_,eu⟩:=List.getElem?_eq_some_iff.mp hu
    rw[e3,List.append_assoc,List.take_succ_eq_append_getElem jl,eu]
  ·rintro ac τ G ⟨⟨v1,rfl⟩,s3,hT3,hl3,e3⟩
   refine nx ix ⟨⟨_,_,rfl⟩,s3,hl3,?_⟩
   rw[e3,e2,zfz xs ys i x y hx hy];rfl
 ·rintro acc σ H2 ⟨_,s2,hl2,e2⟩
  refine k l H2 s2 ?_
  rw[hl2,e2,List.take_length,hxy,List.take_length]
end
abbrev zbJ:Stmt:=top 44
def zbg (m:Nat):Sp:=fun vs H Q _=>∃ p1 p2 a b,vs=[.ref p1,.ref p2]∧H p1=some (.lst (nums a))∧H p2=some (.lst (nums b))∧a.length=2 ^ m∧b.length=2 ^ m∧m≤8∧∀ c lf le ps H',Same H H'→H' c=some (.tup [.ref lf,.ref le])→H' lf=some (.lst ps)→Prs H' ps (zaJ m a b).1→H' le=some (.lst (nums (zaJ m a b).2))→Q (.ref c) H'
theorem ziQ (row:List Nat) (i:Nat) (h:i≤row.length):cutV (nums row) none (some (i:Int))=nums (row.take i):=by
 rw[zaY _ _ (by rw[zag];exact h)]
 unfold nums
 rw[List.map_take]
theorem ziR (row:List Nat) (i:Nat) (h:i≤row.length):cutV (nums row) (some (i:Int)) none=nums (row.drop i):=by
 rw[zaZ _ _ (by rw[zag];exact h)]
 unfold nums
 rw[List.map_drop]
theorem zjR (a b:List Nat):zaE (nums a) (nums b)=nums (zaE a b):=by unfold nums;exact zcP _ a b
theorem zit (off:Nat) (a:List Nat):by2 off (nums a)=nums (by2 off a):=by unfold nums;exact zj8 _ off a
theorem zlq (a b:List Nat):nums a++nums b=nums (a++b):=by unfold nums;exact(List.map_append ..).symm
section
variable {P:Program}{w:World}{K:PySem.W.Frag}{mg:Str→Option Value}{base:Heap}
theorem scMo:FnScope ["one","other","first_forks","first_ends","second_forks","second_ends","last_forks"] ["one","other"] (zad zbJ):=⟨rfl,rfl,rfl,by decide +kernel,rfl,by decide +kernel,by decide +kernel⟩
theorem zcC {f fB:Addr}{fd dB:FuncData}(F:Fun K "merger_of" "merger_of" zbJ f fd) (G:Mgs mg) (UB:Use P w K mg base "by_turns" ["one","other"] 1 spBy fB dB) (bS:Binds K fd ["one","other"] []) (mS:mg "merger_of" = some (.ref f)) (n:Nat)
  (GS:FnOk P w K mg base CX0 (n+1) f fd ["one","other"] (fun vs H Q E=>∃ m,n=m+1∧zbg m vs H Q E)):FnOk P w K mg base CX0 (n+2) f fd ["one","other"] (zbg n):=by
 have UT:Use P w K mg base "merger_of" ["one","other"] (n+1) (fun vs H Q E=>∃ m,n=m+1∧zbg m vs H Q E) f fd:=⟨GS,bS,F.kp,mS⟩
 refine F.ok scMo (fun vs H Q E h=>?_) (fun cdv A outer s H vs Q E hr h=>?_)
 ·obtain⟨p1,p2,a,b,rfl,_⟩:=h
  rfl
 obtain⟨p1,p2,a,b,rfl,h1,h2,al,bl,n20,k⟩:=h
 have hr1:Room 1 _:=hr.mono (by lia)
 refine⟨_,(@pss_cons _ _ _ _ _ (@ps_if _ _ _ _ _ _ _ _ (@pt_cmpR _ _ _ _ _ _ _ _ zcN (@pe_callB _ _ _ _ _ _ _ _ _ call_len_seq (by rfl) G.len PySem.boot_len (@pa_cons _ _ _ _ _ (@pv _ 0 _ _ (by rfl) (by first|exact Or.inl rfl|exact Or.inr (.inl rfl)|exact Or.inr (.inr rfl)) (by decide) (by decide)) pa_nil (by rfl)) (by decide) (by decide) (by rfl) (by rfl)) pe_int (nomark _)) (@pss_one _ _ _ (@ps_ret _ _ _ _ (@pe_tup _ _ _ _ _ (@pa_cons _ _ _ _ _ (@zcz _ _ _ _ _ _ _ _ true true (by rfl) G.list (by rfl) G.zip rfl (@pa_cons _ _ _ _ _ (@pv _ 0 _ _ (by rfl) (by first|exact Or.inl rfl|exact Or.inr (.inl rfl)|exact Or.inr (.inr rfl)) (by decide) (by decide)) (@pa_cons _ _ _ _ _ (@pv _ 1 _ _ (by rfl) (by first|exact Or.inl rfl|exact Or.inr (.inl rfl)|exact Or.inr (.inr rfl)) (by decide) (by decide)) pa_nil (by rfl)) (by rfl)) (by rfl) (by rfl) (by rfl)) (@pa_cons _ _ _ _ _ (@pe_op _ _ _ _ _ _ _ _ zbL (@pv _ 0 _ _ (by rfl) (by first|exact Or.inl rfl|exact Or.inr (.inl rfl)|exact Or.inr (.inr rfl)) (by decide) (by decide)) (@pv _ 1 _ _ (by rfl) (by first|exact Or.inl rfl|exact Or.inr (.inl rfl)|exact Or.inr (.inr rfl)) (by decide) (by decide))) pa_nil (by rfl)) (by rfl))))) pss_nil) (@pss_cons _ _ _ _ _ (@ps_asg _ _ _ _ _ _ (@pe_call _ _ _ _ _ _ _ _ _ _ _ _ _ _ _ _ UT.ok hr (by rfl) UT.m UT.kp UT.b .nil pass0 (@pa_cons _ _ _ _ _ (@zfg _ _ _ _ _ _ _ _ _ (@pv _ 0 _ _ (by rfl) (by first|exact Or.inl rfl|exact Or.inr (.inl rfl)|exact Or.inr (.inr rfl)) (by decide) (by decide)) zas (@zak _ _ _ pe_int)) (@pa_cons _ _ _ _ _ (@zfg _ _ _ _ _ _ _ _ _ (@pv _ 1 _ _ (by rfl) (by first|exact Or.inl rfl|exact Or.inr (.inl rfl)|exact Or.inr (.inr rfl)) (by decide) (by decide)) (@zak _ _ _ pe_int) (@zak _ _ _ pe_int)) pa_nil (by rfl)) (by rfl)) (by decide) (by rfl) (by rfl)) (@pg_tup _ _ _ _ _ _ rfl (@pgs_cons _ _ _ _ _ (@pg_name _ _ 2 _ scMo.nd rfl (.inl rfl) (by first|exact .inl rfl|exact .inr rfl|assumption)) (@pgs_cons _ _ _ _ _ (@pg_name _ _ 3 _ scMo.nd rfl (.inl rfl) (by first|exact .inl rfl|exact .inr rfl|assumption)) pgs_nil (by rfl)) (by rfl)) (by rfl) (by rfl)) (by rfl) (by rfl) (by rfl)) (@pss_cons _ _ _ _ _ (@ps_asg _ _ _ _ _ _ (@pe_call _ _ _ _ _ _ _ _ _ _ _ _ _ _ _ _ UT.ok hr (by rfl) UT.m UT.kp UT.b .nil pass0 (@pa_cons _ _ _ _ _ (@zfg _ _ _ _ _ _ _ _ _ (@pv _ 0 _ _ (by rfl) (by first|exact Or.inl rfl|exact Or.inr (.inl rfl)|exact Or.inr (.inr rfl)) (by decide) (by decide)) (@zak _ _ _ pe_int) (@zak _ _ _ pe_int)) (@pa_cons _ _ _ _ _ (@zfg _ _ _ _ _ _ _ _ _ (@pv _ 1 _ _ (by rfl) (by first|exact Or.inl rfl|exact Or.inr (.inl rfl)|exact Or.inr (.inr rfl)) (by decide) (by decide)) zas (@zak _ _ _ pe_int)) pa_nil (by rfl)) (by rfl)) (by decide) (by rfl) (by rfl)) (@pg_tup _ _ _ _ _ _ rfl (@pgs_cons _ _ _ _ _ (@pg_name _ _ 4 _ scMo.nd rfl (.inl rfl) (by first|exact .inl rfl|exact .inr rfl|assumption)) (@pgs_cons _ _ _ _ _ (@pg_name _ _ 5 _ scMo.nd rfl (.inl rfl) (by first|exact .inl rfl|exact .inr rfl|assumption)) pgs_nil (by rfl)) (by rfl)) (by rfl) (by rfl)) (by rfl) (by rfl) (by rfl)) (@pss_cons _ _ _ _ _ (@ps_set _ _ 6 _ _ _ _ scMo.nd rfl (.inl rfl) (@zcz _ _ _ _ _ _ _ _ true true (by rfl) G.list (by rfl) G.zip rfl (@pa_cons _ _ _ _ _ (@pv _ 3 _ _ (by rfl) (by first|exact Or.inl rfl|exact Or.inr (.inl rfl)|exact Or.inr (.inr rfl)) (by decide) (by decide)) (@pa_cons _ _ _ _ _ (@pv _ 5 _ _ (by rfl) (by first|exact Or.inl rfl|exact Or.inr (.inl rfl)|exact Or.inr (.inr rfl)) (by decide) (by decide)) pa_nil (by rfl)) (by rfl)) (by rfl) (by rfl) (by rfl)) (by rfl) (by first|exact .inl rfl|exact .inr rfl|assumption)) (@pss_one _ _ _ (@ps_ret _ _ _ _ (@pe_tup _ _ _ _ _ (@pa_cons _ _ _ _ _ (@pe_op _ _ _ _ _ _ _ _ zbL (@pe_op _ _ _ _ _ _ _ _ zbL (@pv _ 2 _ _ (by rfl) (by first|exact Or.inl rfl|exact Or.inr (.inl rfl)|exact Or.inr (.inr rfl)) (by decide) (by decide)) (@pv _ 4 _ _ (by rfl) (by first|exact Or.inl rfl|exact Or.inr (.inl rfl)|exact Or.inr (.inr rfl)) (by decide) (by decide))) (@pv _ 6 _ _ (by rfl) (by first|exact Or.inl rfl|exact Or.inr (.inl rfl)|exact Or.inr (.inr rfl)) (by decide) (by decide))) (@pa_cons _ _ _ _ _ (@pe_call _ _ _ _ _ _ _ _ _ _ _ _ _ _ _ _ UB.ok hr1 (by rfl) UB.m UB.kp UB.b .nil pass0 (@pa_cons _ _ _ _ _ (@pv _ 3 _ _ (by rfl) (by first|exact Or.inl rfl|exact Or.inr (.inl rfl)|exact Or.inr (.inr rfl)) (by decide) (by decide)) (@pa_cons _ _ _ _ _ (@pv _ 5 _ _ (by rfl) (by first|exact Or.inl rfl|exact Or.inr (.inl rfl)|exact Or.inr (.inr rfl)) (by decide) (by decide)) pa_nil (by rfl)) (by rfl)) (by decide) (by rfl) (by rfl)) pa_nil (by rfl)) (by rfl))))))))),?_⟩
 have na:=zag a
 have nb:=zag b
 have p8:2 ^ n≤2 ^ 8:=Nat.pow_le_pow_right (by decide) n20
 have e8:2 ^ 8=256:=rfl
 refine⟨_,rfl,p1,_,rfl,.inl (SqL.of h1),_,_,rfl,rfl,_,rfl,?_⟩
 cases n with
 | zero =>
  have al1:a.length=1:=al
  have bl1:b.length=1:=bl
  rw[decide_eq_true (show (((nums a).length:Nat):Int)<2 by lia)]
  refine iteT ⟨_,rfl,_,rfl,p1,p2,_,_,rfl,SqL.of h1,SqL.of h2,by lia,by lia,fun lz ts H2 s3 n1 n2 z=>?_⟩
  have pz:=zeE z (by lia)
  have s4:=zaa n2 (.lst ts)
  have u4:=s3.trans s4
  refine⟨_,rfl,_,rfl,p1,p2,_,_,rfl,rfl,u4 _ _ h1,u4 _ _ h2,by rw[sizeLine_eq];lia,fun l5 hl5=>⟨(by show 2≤sizeLine;decide),fun c hc=>?_⟩⟩
  have s5:=zaa hl5 (.lst (nums a++nums b))
  have s6:=zaa hc (.tup [.ref lz,.ref l5])
  refine k c lz l5 ts _ ((u4.trans s5).trans s6) (atNew hc _) (s6 _ _ (s5 _ _ (atNew n2 _))) (((pz.tups (Tups.of s4)).tups (Tups.of s5)).tups (Tups.of s6)) ?_
  rw[s6 _ _ (atNew hl5 _),zlq];rfl
 | succ m =>
  obtain⟨a0,a1⟩:=zcq al
  obtain⟨b0,b1⟩:=zcq bl
  have pw:2 ^ (m+1)=2 ^ m*2:=Nat.pow_succ ..
  have p0:=Nat.one_le_two_pow (n:=m)
  rw[decide_eq_false (show ¬(((nums a).length:Nat):Int)<2 by lia)]
  refine iteF ⟨_,rfl,2,rfl,rfl,0,p1,_,.inl ⟨rfl,rfl⟩,rfl,SqL.of h1,fun q1 hq1=>?_⟩
  rw[zit]
  have s1:=zaa hq1 (.lst (nums (by2 0 a)))
  refine⟨_,rfl,1,rfl,2,rfl,rfl,1,p2,_,.inr ⟨rfl,rfl⟩,rfl,SqL.of (s1 _ _ h2),fun q2 hq2=>?_⟩
  rw[zit]
  have s2:=zaa hq2 (.lst (nums (by2 1 b)))
  refine⟨m,rfl,q1,q2,by2 0 a,by2 1 b,rfl,s2 _ _ (atNew hq1 _),atNew hq2 _,a0,b1,by lia,fun c3 lf3 le3 ps3 H3 s3 hc3 hf3 pr3 he3=>?_⟩
  have u3:=(s1.trans s2).trans s3
  refine⟨c3,_,rfl,SqT.of hc3,rfl,_,_,rfl,_,_,rfl,rfl,?_⟩
  refine⟨_,rfl,1,rfl,2,rfl,rfl,1,p1,_,.inr ⟨rfl,rfl⟩,rfl,SqL.of (u3 _ _ h1),fun q4 hq4=>?_⟩
  rw[zit]
  have s4:=zaa hq4 (.lst (nums (by2 1 a)))
  refine⟨_,rfl,2,rfl,rfl,0,p2,_,.inl ⟨rfl,rfl⟩,rfl,SqL.of (s4 _ _ (u3 _ _ h2)),fun q5 hq5=>?_⟩
  rw[zit]
  have s5:=zaa hq5 (.lst (nums (by2 0 b)))
  refine⟨m,rfl,q4,q5,by2 1 a,by2 0 b,rfl,s5 _ _ (atNew hq4 _),atNew hq5 _,a1,b0,by lia,fun c6 lf6 le6 ps6 H6 s6 hc6 hf6 pr6 he6=>?_⟩
  have u6:=(s4.trans s5).trans s6
  refine⟨c6,_,rfl,SqT.of hc6,rfl,_,_,rfl,_,_,rfl,rfl,?_⟩
  obtain⟨xl,xf⟩:=za3 m _ _ a0 b1
  obtain⟨yl,yf⟩:=za3 m _ _ a1 b0
  have bd:=(zb5 m (by lia)).2
  have pl3:=pr3.len
  have pl6:=pr6.len
  refine⟨_,rfl,_,rfl,le3,le6,_,_,rfl,SqL.of (u6 _ _ he3),SqL.of he6,by rw[zag,zag,xl,yl];exact Nat.le_refl _,by rw[zag,xl];lia,fun lz ts H7 s7 n1 n2 z=>?_⟩
  have pz:=zeE z (by rw[xl,yl];exact Nat.le_refl _)
  have s8:=zaa n2 (.lst ts)
  have u8:=s7.trans s8
  have tl:=pz.len
  rw[List.length_zip,xl,yl,Nat.min_self]at tl
  refine⟨_,rfl,_,rfl,lf3,lf6,_,_,rfl,rfl,u8 _ _ (u6 _ _ hf3),u8 _ _ hf6,by rw[sizeLine_eq];lia,fun l9 hl9=>?_⟩
  have s9:=zaa hl9 (.lst (ps3++ps6))
  refine⟨_,rfl,l9,lz,_,_,rfl,rfl,atNew hl9 _,s9 _ _ (atNew n2 _),by rw[sizeLine_eq,List.length_append];lia,fun l10 hl10=>?_⟩
  have s10:=zaa hl10 (.lst ((ps3++ps6)++ts))
  have u10:=(u8.trans s9).trans s10
  refine⟨_,rfl,_,rfl,le3,le6,_,_,rfl,u10 _ _ (u6 _ _ he3),u10 _ _ he6,by rw[zag,zag,xl,yl],by rw[zag,xl];lia,fun l11 H11 s11 h11=>?_⟩
  rw[zjR]at h11
  refine⟨(by show 2≤sizeLine;decide),fun c hc=>?_⟩
  have s12:=zaa hc (.tup [.ref l10,.ref l11])
  refine k c l10 l11 _ _ ((u3.trans u6).trans ((u10.trans s11).trans s12)) (atNew hc _) (s12 _ _ (s11 _ _ (atNew hl10 _))) ?_ (s12 _ _ h11)
  refine Prs.tups (Tups.of ((s9.trans s10).trans (s11.trans s12))) ?_
  exact Prs.app (Prs.app ((pr3.tups (Tups.of u6)).tups (Tups.of u8)) (pr6.tups (Tups.of u8))) (pz.tups (Tups.of s8))
theorem zc0 {f fB:Addr}{fd dB:FuncData}(F:Fun K "merger_of" "merger_of" zbJ f fd) (G:Mgs mg) (UB:Use P w K mg base "by_turns" ["one","other"] 1 spBy fB dB) (bS:Binds K fd ["one","other"] []) (mS:mg "merger_of" = some (.ref f)):∀ n:Nat,FnOk P w K mg base CX0 (n+2) f fd ["one","other"] (zbg n)
 | 0=>zcC F G UB bS mS 0 ⟨fun vs H Q E ⟨m,h,_⟩=>by lia,fun A outer s H args us vs Q E _ _ _ _ ⟨m,h,_⟩=>by lia⟩
 | m+1=>zcC F G UB bS mS (m+1) ((zc0 F G UB bS mS m).imp fun vs H Q E ⟨m',h,q⟩=>by cases h;exact q)
abbrev zaO:Sp:=fun vs H Q E=>∃ m,m≤4∧zbg m vs H Q E
theorem zeL {f fB:Addr}{fd dB:FuncData}(F:Fun K "merger_of" "merger_of" zbJ f fd) (G:Mgs mg) (UB:Use P w K mg base "by_turns" ["one","other"] 1 spBy fB dB) (bS:Binds K fd ["one","other"] []) (mS:mg "merger_of" = some (.ref f)):FnOk P w K mg base CX0 6 f fd ["one","other"] zaO :=
 FnOk.any 4 fun m hm=>(zc0 F G UB bS mS m).mono (by lia)
end
abbrev zey:Stmt:=top 38
def zdh:Sp:=fun vs H Q _=>∃ k:Nat,vs=[.int ((k+1:Nat):Int)]∧k<4∧∀ r' fr' er' ps' H',Same H H'→NetAt H' r' fr' er' ps' (zal (zbc k))→Q (.ref r') H'
section
variable {P:Program}{w:World}{K:PySem.W.Frag}{mg:Str→Option Value}{base:Heap}
theorem scMr:FnScope ["k","row","half"] ["k"] (zad zey):=⟨rfl,rfl,rfl,by decide +kernel,rfl,by decide +kernel,by decide +kernel⟩
theorem zg6 {f fR fT fM:Addr}{fd dR dT dM:FuncData}(F:Fun K "merger" "merger" zey f fd) (G:Mgs mg) (UR:Use P w K mg base "row_of" ["k"] 2 zbY fR dR) (UT:Use P w K mg base "merger_of" ["one","other"] 6 zaO fT dT) (UM:Use P w K mg base "net_of" ["row","made"] 3 za1 fM dM):FnOk P w K mg base CX0 7 f fd ["k"] zdh:=by
 refine F.ok scMr (fun vs H Q E h=>?_) (fun cdv A outer s H vs Q E hr h=>?_)
 ·obtain⟨k,rfl,_⟩:=h
  rfl
 obtain⟨k,rfl,k4,q⟩:=h
 have hr2:Room 2 _:=hr.mono (by decide)
 have hr3:Room 3 _:=hr.mono (by decide)
 refine⟨_,(@pss_cons _ _ _ _ _ (@ps_set _ _ 1 _ _ _ _ scMr.nd rfl (.inl rfl) (@pe_call _ _ _ _ _ _ _ _ _ _ _ _ _ _ _ _ UR.ok hr2 (by rfl) UR.m UR.kp UR.b .nil pass0 (@pa_cons _ _ _ _ _ (@pv _ 0 _ _ (by rfl) (by first|exact Or.inl rfl|exact Or.inr (.inl rfl)|exact Or.inr (.inr rfl)) (by decide) (by decide)) pa_nil (by rfl)) (by decide) (by rfl) (by rfl)) (by rfl) (by first|exact .inl rfl|exact .inr rfl|assumption)) (@pss_cons _ _ _ _ _ (@ps_set _ _ 2 _ _ _ _ scMr.nd rfl (.inl rfl) (@pe_op _ _ _ _ _ _ _ _ op_fdiv (@pe_callB _ _ _ _ _ _ _ _ _ call_len_seq (by rfl) G.len PySem.boot_len (@pa_cons _ _ _ _ _ (@pv _ 1 _ _ (by rfl) (by first|exact Or.inl rfl|exact Or.inr (.inl rfl)|exact Or.inr (.inr rfl)) (by decide) (by decide)) pa_nil (by rfl)) (by decide) (by decide) (by rfl) (by rfl)) pe_int) (by rfl) (by first|exact .inl rfl|exact .inr rfl|assumption)) (@pss_one _ _ _ (@ps_ret _ _ _ _ (@pe_call _ _ _ _ _ _ _ _ _ _ _ _ _ _ _ _ UM.ok hr3 (by rfl) UM.m UM.kp UM.b .nil pass0 (@pa_cons _ _ _ _ _ (@pv _ 1 _ _ (by rfl) (by first|exact Or.inl rfl|exact Or.inr (.inl rfl)|exact Or.inr (.inr rfl)) (by decide) (by decide)) (@pa_cons _ _ _ _ _ (@pe_call _ _ _ _ _ _ _ _ _ _ _ _ _ _ _ _ UT.ok hr (by rfl) UT.m UT.kp UT.b .nil pass0 (@pa_cons _ _ _ _ _ (@zan _ _ _ _ _ _ _ _ _ _ za6 (@pv _ 1 _ _ (by rfl) (by first|exact Or.inl rfl|exact Or.inr (.inl rfl)|exact Or.inr (.inr rfl)) (by decide) (by decide)) zas (@zak _ _ _ (@pv _ 2 _ _ (by rfl) (by first|exact Or.inl rfl|exact Or.inr (.inl rfl)|exact Or.inr (.inr rfl)) (by decide) (by decide)))) (@pa_cons _ _ _ _ _ (@zan _ _ _ _ _ _ _ _ _ _ za6 (@pv _ 1 _ _ (by rfl) (by first|exact Or.inl rfl|exact Or.inr (.inl rfl)|exact Or.inr (.inr rfl)) (by decide) (by decide)) (@zak _ _ _ (@pv _ 2 _ _ (by rfl) (by first|exact Or.inl rfl|exact Or.inr (.inl rfl)|exact Or.inr (.inr rfl)) (by decide) (by decide))) zas) pa_nil (by rfl)) (by rfl)) (by decide) (by rfl) (by rfl)) pa_nil (by rfl)) (by rfl)) (by decide) (by rfl) (by rfl)))))),?_⟩
 refine⟨_,rfl,k+1,rfl,by lia,fun p hp=>?_⟩
 have s1:=zaa hp (.lst (nums (List.range (2 ^ (k+1)))))
 have h1:=atNew hp (.lst (nums (List.range (2 ^ (k+1)))))
 have rl:(List.range (2 ^ (k+1))).length=2 ^ (k+1):=List.length_range
 obtain⟨t1,t2,t3⟩:=zcf rl
 have nl:=zag (List.range (2 ^ (k+1)))
 refine⟨_,rfl,p,_,rfl,.inl (SqL.of h1),_,_,rfl,rfl,⟨by decide,by decide⟩,?_⟩
 have eh:(((nums (List.range (2 ^ (k+1)))).length:Nat):Int) / 2=((2 ^ k:Nat):Int):=by rw[nl,← t1];lia
 simp only[eh]
 have kl:2 ^ k≤(List.range (2 ^ (k+1))).length:=by rw[← t1];exact t3
 refine⟨_,rfl,_,rfl,_,rfl,_,rfl,p,_,rfl,SqL.of h1,fun p2 hp2=>?_⟩
 rw[ziQ _ _ kl]
 have s2:=zaa hp2 (.lst (nums ((List.range (2 ^ (k+1))).take (2 ^ k))))
 refine⟨_,rfl,_,rfl,_,rfl,p,_,rfl,SqL.of (s2 _ _ h1),fun p3 hp3=>?_⟩
 rw[ziR _ _ kl]
 have s3:=zaa hp3 (.lst (nums ((List.range (2 ^ (k+1))).drop (2 ^ k))))
 have l2:((List.range (2 ^ (k+1))).take (2 ^ k)).length=2 ^ k:=by rw[List.length_take];lia
 have l3:((List.range (2 ^ (k+1))).drop (2 ^ k)).length=2 ^ k:=by rw[List.length_drop];lia
 refine⟨k,by lia,p2,p3,_,_,rfl,s3 _ _ (atNew hp2 _),atNew hp3 _,l2,l3,by lia,fun c lf le ps H4 s4 hc hf pr he=>?_⟩
 have u4:=(s2.trans s3).trans s4
 have eN:(⟨(List.range (2 ^ (k+1))).length,(zaJ k ((List.range (2 ^ (k+1))).take (2 ^ k)) ((List.range (2 ^ (k+1))).drop (2 ^ k))).1,(zaJ k ((List.range (2 ^ (k+1))).take (2 ^ k)) ((List.range (2 ^ (k+1))).drop (2 ^ k))).2⟩:Nt)=zbc k:=by rw[List.length_range];rfl
 refine⟨p,c,lf,le,ps,_,List.range (2 ^ (k+1)),_,rfl,u4 _ _ h1,hc,hf,pr,he,⟨by rw[eN];exact zfk k4,(zcl k k4).2.2.2⟩,fun r' fr' er' ps' H' s' n'=>?_⟩
 rw[eN]at n'
 exact q r' fr' er' ps' H' ((s1.trans u4).trans s') n'
end
abbrev zbI:Stmt:=top 45
abbrev zcx:Stmt:=top 39
def zbf (m:Nat):Sp:=fun vs H Q _=>∃ p row,vs=[.ref p]∧H p=some (.lst (nums row))∧row.length=2 ^ m∧m≤4∧∀ c lf le ps H',Same H H'→H' c=some (.tup [.ref lf,.ref le])→H' lf=some (.lst ps)→Prs H' ps (zaV m row).1→H' le=some (.lst (nums (zaV m row).2))→Q (.ref c) H'
def zbW:Sp:=fun vs H Q _=>∃ k:Nat,vs=[.int k]∧k<4∧∀ r' fr' er' ps' H',Same H H'→NetAt H' r' fr' er' ps' (zal (zba k))→Q (.ref r') H'
section
variable {P:Program}{w:World}{K:PySem.W.Frag}{mg:Str→Option Value}{base:Heap}
theorem scSo:FnScope ["row","half","first_forks","first_ends","second_forks","second_ends","last_forks","ends"] ["row"] (zad zbI):=⟨rfl,rfl,rfl,by decide +kernel,rfl,by decide +kernel,by decide +kernel⟩
theorem zcB {f fB:Addr}{fd dB:FuncData}(F:Fun K "stairway_of" "stairway_of" zbI f fd) (G:Mgs mg) (UM:Use P w K mg base "merger_of" ["one","other"] 6 zaO fB dB) (bS:Binds K fd ["row"] []) (mS:mg "stairway_of" = some (.ref f)) (n:Nat)
  (GS:FnOk P w K mg base CX0 (n+6) f fd ["row"] (fun vs H Q E=>∃ m,n=m+1∧zbf m vs H Q E)):FnOk P w K mg base CX0 (n+7) f fd ["row"] (zbf n):=by
 have UT:Use P w K mg base "stairway_of" ["row"] (n+6) (fun vs H Q E=>∃ m,n=m+1∧zbf m vs H Q E) f fd:=⟨GS,bS,F.kp,mS⟩
 refine F.ok scSo (fun vs H Q E h=>?_) (fun cdv A outer s H vs Q E hr h=>?_)
 ·obtain⟨p,row,rfl,_⟩:=h
  rfl
 obtain⟨p,row,rfl,hp,rl,n20,k⟩:=h
 have hr6:Room 6 _:=hr.mono (by lia)
 refine⟨_,(@pss_cons _ _ _ _ _ (@ps_if _ _ _ _ _ _ _ _ (@pt_cmpR _ _ _ _ _ _ _ _ zcN (@pe_callB _ _ _ _ _ _ _ _ _ call_len_seq (by rfl) G.len PySem.boot_len (@pa_cons _ _ _ _ _ (@pv _ 0 _ _ (by rfl) (by first|exact Or.inl rfl|exact Or.inr (.inl rfl)|exact Or.inr (.inr rfl)) (by decide) (by decide)) pa_nil (by rfl)) (by decide) (by decide) (by rfl) (by rfl)) pe_int (nomark _)) (@pss_one _ _ _ (@ps_ret _ _ _ _ (@pe_tup _ _ _ _ _ (@pa_cons _ _ _ _ _ (@zaz _ _ _ _ pa_nil) (@pa_cons _ _ _ _ _ (@pv _ 0 _ _ (by rfl) (by first|exact Or.inl rfl|exact Or.inr (.inl rfl)|exact Or.inr (.inr rfl)) (by decide) (by decide)) pa_nil (by rfl)) (by rfl))))) pss_nil) (@pss_cons _ _ _ _ _ (@ps_set _ _ 1 _ _ _ _ scSo.nd rfl (.inl rfl) (@pe_op _ _ _ _ _ _ _ _ op_fdiv (@pe_callB _ _ _ _ _ _ _ _ _ call_len_seq (by rfl) G.len PySem.boot_len (@pa_cons _ _ _ _ _ (@pv _ 0 _ _ (by rfl) (by first|exact Or.inl rfl|exact Or.inr (.inl rfl)|exact Or.inr (.inr rfl)) (by decide) (by decide)) pa_nil (by rfl)) (by decide) (by decide) (by rfl) (by rfl)) pe_int) (by rfl) (by first|exact .inl rfl|exact .inr rfl|assumption)) (@pss_cons _ _ _ _ _ (@ps_asg _ _ _ _ _ _ (@pe_call _ _ _ _ _ _ _ _ _ _ _ _ _ _ _ _ UT.ok hr (by rfl) UT.m UT.kp UT.b .nil pass0 (@pa_cons _ _ _ _ _ (@zan _ _ _ _ _ _ _ _ _ _ za6 (@pv _ 0 _ _ (by rfl) (by first|exact Or.inl rfl|exact Or.inr (.inl rfl)|exact Or.inr (.inr rfl)) (by decide) (by decide)) zas (@zak _ _ _ (@pv _ 1 _ _ (by rfl) (by first|exact Or.inl rfl|exact Or.inr (.inl rfl)|exact Or.inr (.inr rfl)) (by decide) (by decide)))) pa_nil (by rfl)) (by decide) (by rfl) (by rfl)) (@pg_tup _ _ _ _ _ _ rfl (@pgs_cons _ _ _ _ _ (@pg_name _ _ 2 _ scSo.nd rfl (.inl rfl) (by first|exact .inl rfl|exact .inr rfl|assumption)) (@pgs_cons _ _ _ _ _ (@pg_name _ _ 3 _ scSo.nd rfl (.inl rfl) (by first|exact .inl rfl|exact .inr rfl|assumption)) pgs_nil (by rfl)) (by rfl)) (by rfl) (by rfl)) (by rfl) (by rfl) (by rfl)) (@pss_cons _ _ _ _ _ (@ps_asg _ _ _ _ _ _ (@pe_call _ _ _ _ _ _ _ _ _ _ _ _ _ _ _ _ UT.ok hr (by rfl) UT.m UT.kp UT.b .nil pass0 (@pa_cons _ _ _ _ _ (@zan _ _ _ _ _ _ _ _ _ _ za6 (@pv _ 0 _ _ (by rfl) (by first|exact Or.inl rfl|exact Or.inr (.inl rfl)|exact Or.inr (.inr rfl)) (by decide) (by decide)) (@zak _ _ _ (@pv _ 1 _ _ (by rfl) (by first|exact Or.inl rfl|exact Or.inr (.inl rfl)|exact Or.inr (.inr rfl)) (by decide) (by decide))) zas) pa_nil (by rfl)) (by decide) (by rfl) (by rfl)) (@pg_tup _ _ _ _ _ _ rfl (@pgs_cons _ _ _ _ _ (@pg_name _ _ 4 _ scSo.nd rfl (.inl rfl) (by first|exact .inl rfl|exact .inr rfl|assumption)) (@pgs_cons _ _ _ _ _ (@pg_name _ _ 5 _ scSo.nd rfl (.inl rfl) (by first|exact .inl rfl|exact .inr rfl|assumption)) pgs_nil (by rfl)) (by rfl)) (by rfl) (by rfl)) (by rfl) (by rfl) (by rfl)) (@pss_cons _ _ _ _ _ (@ps_asg _ _ _ _ _ _ (@pe_call _ _ _ _ _ _ _ _ _ _ _ _ _ _ _ _ UM.ok hr6 (by rfl) UM.m UM.kp UM.b .nil pass0 (@pa_cons _ _ _ _ _ (@pv _ 3 _ _ (by rfl) (by first|exact Or.inl rfl|exact Or.inr (.inl rfl)|exact Or.inr (.inr rfl)) (by decide) (by decide)) (@pa_cons _ _ _ _ _ (@pv _ 5 _ _ (by rfl) (by first|exact Or.inl rfl|exact Or.inr (.inl rfl)|exact Or.inr (.inr rfl)) (by decide) (by decide)) pa_nil (by rfl)) (by rfl)) (by decide) (by rfl) (by rfl)) (@pg_tup _ _ _ _ _ _ rfl (@pgs_cons _ _ _ _ _ (@pg_name _ _ 6 _ scSo.nd rfl (.inl rfl) (by first|exact .inl rfl|exact .inr rfl|assumption)) (@pgs_cons _ _ _ _ _ (@pg_name _ _ 7 _ scSo.nd rfl (.inl rfl) (by first|exact .inl rfl|exact .inr rfl|assumption)) pgs_nil (by rfl)) (by rfl)) (by rfl) (by rfl)) (by rfl) (by rfl) (by rfl)) (@pss_one _ _ _ (@ps_ret _ _ _ _ (@pe_tup _ _ _ _ _ (@pa_cons _ _ _ _ _ (@pe_op _ _ _ _ _ _ _ _ zbL (@pe_op _ _ _ _ _ _ _ _ zbL (@pv _ 2 _ _ (by rfl) (by first|exact Or.inl rfl|exact Or.inr (.inl rfl)|exact Or.inr (.inr rfl)) (by decide) (by decide)) (@pv _ 4 _ _ (by rfl) (by first|exact Or.inl rfl|exact Or.inr (.inl rfl)|exact Or.inr (.inr rfl)) (by decide) (by decide))) (@pv _ 6 _ _ (by rfl) (by first|exact Or.inl rfl|exact Or.inr (.inl rfl)|exact Or.inr (.inr rfl)) (by decide) (by decide))) (@pa_cons _ _ _ _ _ (@pv _ 7 _ _ (by rfl) (by first|exact Or.inl rfl|exact Or.inr (.inl rfl)|exact Or.inr (.inr rfl)) (by decide) (by decide)) pa_nil (by rfl)) (by rfl)))))))))),?_⟩
 have nl:=zag row
 have p8:2 ^ n≤2 ^ 4:=Nat.pow_le_pow_right (by decide) n20
 have e8:2 ^ 4=16:=rfl
 refine⟨_,rfl,p,_,rfl,.inl (SqL.of hp),_,_,rfl,rfl,_,rfl,?_⟩
 cases n with
 | zero =>
  have rl1:row.length=1:=rl
  rw[decide_eq_true (show (((nums row).length:Nat):Int)<2 by lia)]
  refine iteT ⟨(by show 0≤sizeLine;decide),fun l hl=>⟨_,rfl,(by show 2≤sizeLine;decide),fun c hc=>?_⟩⟩
  have s1:=zaa hl (.lst [])
  have s2:=zaa hc (.tup [.ref l,.ref p])
  exact k c l p [] _ (s1.trans s2) (atNew hc _) (s2 _ _ (atNew hl _)) trivial (s2 _ _ (s1 _ _ hp))
 | succ m =>
  obtain⟨t1,t2,t3⟩:=zcf rl
  obtain⟨la,lb⟩:=zcj rl
  have pw:2 ^ (m+1)=2 ^ m*2:=Nat.pow_succ ..
  have p0:=Nat.one_le_two_pow (n:=m)
  rw[decide_eq_false (show ¬(((nums row).length:Nat):Int)<2 by lia)]
  refine iteF ⟨_,rfl,p,_,rfl,.inl (SqL.of hp),_,_,rfl,rfl,⟨by decide,by decide⟩,?_⟩
  have eh:(((nums row).length:Nat):Int) / 2=((row.length / 2:Nat):Int):=by rw[nl];lia
  simp only[eh]
  refine⟨_,rfl,_,rfl,_,rfl,p,_,rfl,SqL.of hp,fun p1 hp1=>?_⟩
  rw[ziQ row _ t3]
  have s1:=zaa hp1 (.lst (nums (row.take (row.length / 2))))
  refine⟨m,rfl,p1,row.take (row.length / 2),rfl,atNew hp1 _,la,by lia,fun c2 lf2 le2 ps2 H2 s2 hc2 hf2 pr2 he2=>?_⟩
  have u2:=s1.trans s2
  refine⟨c2,_,rfl,SqT.of hc2,rfl,_,_,rfl,_,_,rfl,rfl,?_⟩
  refine⟨_,rfl,_,rfl,_,rfl,p,_,rfl,SqL.of (u2 _ _ hp),fun p3 hp3=>?_⟩
  rw[ziR row _ t3]
  have s3:=zaa hp3 (.lst (nums (row.drop (row.length / 2))))
  refine⟨m,rfl,p3,row.drop (row.length / 2),rfl,atNew hp3 _,lb,by lia,fun c4 lf4 le4 ps4 H4 s4 hc4 hf4 pr4 he4=>?_⟩
  have u4:=s3.trans s4
  refine⟨c4,_,rfl,SqT.of hc4,rfl,_,_,rfl,_,_,rfl,rfl,?_⟩
  obtain⟨xl,xf⟩:=zbE m _ la
  obtain⟨yl,yf⟩:=zbE m _ lb
  obtain⟨zl,zf⟩:=za3 m _ _ xl yl
  have pl2:=pr2.len
  have pl4:=pr4.len
  obtain⟨bd1,bd2⟩:=zb5 m (by lia)
  refine⟨_,rfl,_,rfl,m,by lia,le2,le4,_,_,rfl,u4 _ _ he2,he4,xl,yl,by lia,fun c6 lf6 le6 ps6 H6 s6 hc6 hf6 pr6 he6=>?_⟩
  refine⟨c6,_,rfl,SqT.of hc6,rfl,_,_,rfl,_,_,rfl,rfl,?_⟩
  have pl6:=pr6.len
  refine⟨_,rfl,_,rfl,lf2,lf4,_,_,rfl,rfl,s6 _ _ (u4 _ _ hf2),s6 _ _ hf4,by rw[sizeLine_eq];lia,fun l7 hl7=>?_⟩
  have s7:=zaa hl7 (.lst (ps2++ps4))
  refine⟨_,rfl,l7,lf6,_,_,rfl,rfl,atNew hl7 _,s7 _ _ hf6,by rw[sizeLine_eq,List.length_append];lia,fun l8 hl8=>?_⟩
  have s8:=zaa hl8 (.lst ((ps2++ps4)++ps6))
  refine⟨_,rfl,(by show 2≤sizeLine;decide),fun c hc=>?_⟩
  have s9:=zaa hc (.tup [.ref l8,.ref le6])
  have u9:=(s7.trans s8).trans s9
  refine k c l8 le6 _ _ ((u2.trans u4).trans (s6.trans u9)) (atNew hc _) (s9 _ _ (atNew hl8 _)) ?_ (u9 _ _ he6)
  refine Prs.tups (Tups.of u9) ?_
  exact Prs.app (Prs.app ((pr2.tups (Tups.of u4)).tups (Tups.of s6)) (pr4.tups (Tups.of s6))) pr6
theorem zcZ {f fB:Addr}{fd dB:FuncData}(F:Fun K "stairway_of" "stairway_of" zbI f fd) (G:Mgs mg) (UM:Use P w K mg base "merger_of" ["one","other"] 6 zaO fB dB) (bS:Binds K fd ["row"] []) (mS:mg "stairway_of" = some (.ref f)):∀ n:Nat,FnOk P w K mg base CX0 (n+7) f fd ["row"] (zbf n)
 | 0=>zcB F G UM bS mS 0 ⟨fun vs H Q E ⟨m,h,_⟩=>by lia,fun A outer s H args us vs Q E _ _ _ _ ⟨m,h,_⟩=>by lia⟩
 | m+1=>zcB F G UM bS mS (m+1) ((zcZ F G UM bS mS m).imp fun vs H Q E ⟨m',h,q⟩=>by cases h;exact q)
abbrev zbX:Sp:=fun vs H Q E=>∃ m,m≤4∧zbf m vs H Q E
theorem zeK {f fB:Addr}{fd dB:FuncData}(F:Fun K "stairway_of" "stairway_of" zbI f fd) (G:Mgs mg) (UM:Use P w K mg base "merger_of" ["one","other"] 6 zaO fB dB) (bS:Binds K fd ["row"] []) (mS:mg "stairway_of" = some (.ref f)):FnOk P w K mg base CX0 11 f fd ["row"] zbX :=
 FnOk.any 4 fun m hm=>(zcZ F G UM bS mS m).mono (by lia)
theorem scSw:FnScope ["k","row"] ["k"] (zad zcx):=⟨rfl,rfl,rfl,by decide +kernel,rfl,by decide +kernel,by decide +kernel⟩
theorem zeJ {f fR fT fM:Addr}{fd dR dT dM:FuncData}(F:Fun K "stairway" "stairway" zcx f fd) (UR:Use P w K mg base "row_of" ["k"] 2 zbY fR dR) (UT:Use P w K mg base "stairway_of" ["row"] 11 zbX fT dT) (UM:Use P w K mg base "net_of" ["row","made"] 3 za1 fM dM):FnOk P w K mg base CX0 12 f fd ["k"] zbW:=by
 refine F.ok scSw (fun vs H Q E h=>?_) (fun cdv A outer s H vs Q E hr h=>?_)
 ·obtain⟨k,rfl,_⟩:=h
  rfl
 obtain⟨k,rfl,k5,q⟩:=h
 have hr2:Room 2 _:=hr.mono (by decide)
 have hr3:Room 3 _:=hr.mono (by decide)
 refine⟨_,(@pss_cons _ _ _ _ _ (@ps_set _ _ 1 _ _ _ _ scSw.nd rfl (.inl rfl) (@pe_call _ _ _ _ _ _ _ _ _ _ _ _ _ _ _ _ UR.ok hr2 (by rfl) UR.m UR.kp UR.b .nil pass0 (@pa_cons _ _ _ _ _ (@pv _ 0 _ _ (by rfl) (by first|exact Or.inl rfl|exact Or.inr (.inl rfl)|exact Or.inr (.inr rfl)) (by decide) (by decide)) pa_nil (by rfl)) (by decide) (by rfl) (by rfl)) (by rfl) (by first|exact .inl rfl|exact .inr rfl|assumption)) (@pss_one _ _ _ (@ps_ret _ _ _ _ (@pe_call _ _ _ _ _ _ _ _ _ _ _ _ _ _ _ _ UM.ok hr3 (by rfl) UM.m UM.kp UM.b .nil pass0 (@pa_cons _ _ _ _ _ (@pv _ 1 _ _ (by rfl) (by first|exact Or.inl rfl|exact Or.inr (.inl rfl)|exact Or.inr (.inr rfl)) (by decide) (by decide)) (@pa_cons _ _ _ _ _ (@pe_call _ _ _ _ _ _ _ _ _ _ _ _ _ _ _ _ UT.ok hr (by rfl) UT.m UT.kp UT.b .nil pass0 (@pa_cons _ _ _ _ _ (@pv _ 1 _ _ (by rfl) (by first|exact Or.inl rfl|exact Or.inr (.inl rfl)|exact Or.inr (.inr rfl)) (by decide) (by decide)) pa_nil (by rfl)) (by decide) (by rfl) (by rfl)) pa_nil (by rfl)) (by rfl)) (by decide) (by rfl) (by rfl))))),?_⟩
 refine⟨_,rfl,k,rfl,by lia,fun p hp=>?_⟩
 have s1:=zaa hp (.lst (nums (List.range (2 ^ k))))
 refine⟨_,rfl,_,rfl,k,by lia,p,List.range (2 ^ k),rfl,atNew hp _,List.length_range,by lia,fun c lf le ps H2 s2 hc hf pr he=>?_⟩
 have eN:(⟨(List.range (2 ^ k)).length,(zaV k (List.range (2 ^ k))).1,(zaV k (List.range (2 ^ k))).2⟩:Nt)=zba k:=by rw[List.length_range];rfl
 refine⟨p,c,lf,le,ps,_,List.range (2 ^ k),_,rfl,s2 _ _ (atNew hp _),hc,hf,pr,he,⟨by rw[eN];exact ze6 (by lia),(zcl k k5).2.1⟩,fun r' fr' er' ps' H' s' n'=>?_⟩
 rw[eN]at n'
 exact q r' fr' er' ps' H' ((s1.trans s2).trans s') n'
end
abbrev zcw:Stmt:=top 47
abbrev zjf:Stmt:=top 41
def zbF (m:Nat):Sp:=fun vs H Q _=>∃ p row,vs=[.ref p]∧H p=some (.lst (nums row))∧row.length=2 ^ m∧m≤8∧∀ c lf le ps H',Same H H'→H' c=some (.tup [.ref lf,.ref le])→H' lf=some (.lst ps)→Prs H' ps (zcc m row).1→H' le=some (.lst (nums (zcc m row).2))→Q (.ref c) H'
def zgm:Sp:=fun vs H Q _=>∃ k:Nat,vs=[.int k]∧k<4∧∀ r' fr' er' ps' H',Same H H'→NetAt H' r' fr' er' ps' (zal (zcs k))→Q (.ref r') H'
theorem zkh (row:List Nat) (i:Nat) (h:i≤row.length):cutV (nums row) none (some (i:Int))=nums (row.take i):=by
 rw[zaY _ _ (by rw[zag];exact h)]
 unfold nums
 rw[List.map_take]
theorem zki (row:List Nat) (i:Nat) (h:i≤row.length):cutV (nums row) (some (i:Int)) none=nums (row.drop i):=by
 rw[zaZ _ _ (by rw[zag];exact h)]
 unfold nums
 rw[List.map_drop]
theorem zfN (a b:List Nat):zaE (nums a) (nums b)=nums (zaE a b):=by unfold nums;exact zcP _ a b
theorem zhc (row:List Nat) (i:Nat) (h:i<row.length):(nums row)[i]?=some (.int ((row.getD i 0:Nat):Int)):=by
 unfold nums
 rw[List.getElem?_map,List.getElem?_eq_getElem h,List.getD_eq_getElem?_getD,List.getElem?_eq_getElem h];rfl
section
variable {P:Program}{w:World}{K:PySem.W.Frag}{mg:Str→Option Value}{base:Heap}
theorem scTo:FnScope ["row","half","first_forks","first_ends","second_forks","second_ends"] ["row"] (zad zcw):=⟨rfl,rfl,rfl,by decide +kernel,rfl,by decide +kernel,by decide +kernel⟩
theorem zcY {f fB:Addr}{fd dB:FuncData}(F:Fun K "tree_of" "tree_of" zcw f fd) (G:Mgs mg) (UB:Use P w K mg base "by_turns" ["one","other"] 1 spBy fB dB) (bS:Binds K fd ["row"] []) (mS:mg "tree_of" = some (.ref f)) (n:Nat)
  (GS:FnOk P w K mg base CX0 (n+1) f fd ["row"] (fun vs H Q E=>∃ m,n=m+1∧zbF m vs H Q E)):FnOk P w K mg base CX0 (n+2) f fd ["row"] (zbF n):=by
 have UT:Use P w K mg base "tree_of" ["row"] (n+1) (fun vs H Q E=>∃ m,n=m+1∧zbF m vs H Q E) f fd:=⟨GS,bS,F.kp,mS⟩
 refine F.ok scTo (fun vs H Q E h=>?_) (fun cdv A outer s H vs Q E hr h=>?_)
 ·obtain⟨p,row,rfl,_⟩:=h
  rfl
 obtain⟨p,row,rfl,hp,rl,n20,k⟩:=h
 have hr1:Room 1 _:=hr.mono (by lia)
 refine⟨_,(@pss_cons _ _ _ _ _ (@ps_if _ _ _ _ _ _ _ _ (@pt_cmpR _ _ _ _ _ _ _ _ zcN (@pe_callB _ _ _ _ _ _ _ _ _ call_len_seq (by rfl) G.len PySem.boot_len (@pa_cons _ _ _ _ _ (@pv _ 0 _ _ (by rfl) (by first|exact Or.inl rfl|exact Or.inr (.inl rfl)|exact Or.inr (.inr rfl)) (by decide) (by decide)) pa_nil (by rfl)) (by decide) (by decide) (by rfl) (by rfl)) pe_int (nomark _)) (@pss_one _ _ _ (@ps_ret _ _ _ _ (@pe_tup _ _ _ _ _ (@pa_cons _ _ _ _ _ (@zaz _ _ _ _ pa_nil) (@pa_cons _ _ _ _ _ (@pv _ 0 _ _ (by rfl) (by first|exact Or.inl rfl|exact Or.inr (.inl rfl)|exact Or.inr (.inr rfl)) (by decide) (by decide)) pa_nil (by rfl)) (by rfl))))) pss_nil) (@pss_cons _ _ _ _ _ (@ps_set _ _ 1 _ _ _ _ scTo.nd rfl (.inl rfl) (@pe_op _ _ _ _ _ _ _ _ op_fdiv (@pe_callB _ _ _ _ _ _ _ _ _ call_len_seq (by rfl) G.len PySem.boot_len (@pa_cons _ _ _ _ _ (@pv _ 0 _ _ (by rfl) (by first|exact Or.inl rfl|exact Or.inr (.inl rfl)|exact Or.inr (.inr rfl)) (by decide) (by decide)) pa_nil (by rfl)) (by decide) (by decide) (by rfl) (by rfl)) pe_int) (by rfl) (by first|exact .inl rfl|exact .inr rfl|assumption)) (@pss_cons _ _ _ _ _ (@ps_asg _ _ _ _ _ _ (@pe_call _ _ _ _ _ _ _ _ _ _ _ _ _ _ _ _ UT.ok hr (by rfl) UT.m UT.kp UT.b .nil pass0 (@pa_cons _ _ _ _ _ (@zan _ _ _ _ _ _ _ _ _ _ za6 (@pv _ 0 _ _ (by rfl) (by first|exact Or.inl rfl|exact Or.inr (.inl rfl)|exact Or.inr (.inr rfl)) (by decide) (by decide)) zas (@zak _ _ _ (@pv _ 1 _ _ (by rfl) (by first|exact Or.inl rfl|exact Or.inr (.inl rfl)|exact Or.inr (.inr rfl)) (by decide) (by decide)))) pa_nil (by rfl)) (by decide) (by rfl) (by rfl)) (@pg_tup _ _ _ _ _ _ rfl (@pgs_cons _ _ _ _ _ (@pg_name _ _ 2 _ scTo.nd rfl (.inl rfl) (by first|exact .inl rfl|exact .inr rfl|assumption)) (@pgs_cons _ _ _ _ _ (@pg_name _ _ 3 _ scTo.nd rfl (.inl rfl) (by first|exact .inl rfl|exact .inr rfl|assumption)) pgs_nil (by rfl)) (by rfl)) (by rfl) (by rfl)) (by rfl) (by rfl) (by rfl)) (@pss_cons _ _ _ _ _ (@ps_asg _ _ _ _ _ _ (@pe_call _ _ _ _ _ _ _ _ _ _ _ _ _ _ _ _ UT.ok hr (by rfl) UT.m UT.kp UT.b .nil pass0 (@pa_cons _ _ _ _ _ (@zan _ _ _ _ _ _ _ _ _ _ za6 (@pv _ 0 _ _ (by rfl) (by first|exact Or.inl rfl|exact Or.inr (.inl rfl)|exact Or.inr (.inr rfl)) (by decide) (by decide)) (@zak _ _ _ (@pv _ 1 _ _ (by rfl) (by first|exact Or.inl rfl|exact Or.inr (.inl rfl)|exact Or.inr (.inr rfl)) (by decide) (by decide))) zas) pa_nil (by rfl)) (by decide) (by rfl) (by rfl)) (@pg_tup _ _ _ _ _ _ rfl (@pgs_cons _ _ _ _ _ (@pg_name _ _ 4 _ scTo.nd rfl (.inl rfl) (by first|exact .inl rfl|exact .inr rfl|assumption)) (@pgs_cons _ _ _ _ _ (@pg_name _ _ 5 _ scTo.nd rfl (.inl rfl) (by first|exact .inl rfl|exact .inr rfl|assumption)) pgs_nil (by rfl)) (by rfl)) (by rfl) (by rfl)) (by rfl) (by rfl) (by rfl)) (@pss_one _ _ _ (@ps_ret _ _ _ _ (@pe_tup _ _ _ _ _ (@pa_cons _ _ _ _ _ (@pe_op _ _ _ _ _ _ _ _ zbL (@pe_op _ _ _ _ _ _ _ _ zbL (@zaz _ _ _ _ (@pa_cons _ _ _ _ _ (@pe_tup _ _ _ _ _ (@pa_cons _ _ _ _ _ (@pe_ix _ _ _ _ _ _ _ ix_list (@pv _ 0 _ _ (by rfl) (by first|exact Or.inl rfl|exact Or.inr (.inl rfl)|exact Or.inr (.inr rfl)) (by decide) (by decide)) pe_int (fun _ _=>rfl)) (@pa_cons _ _ _ _ _ (@pe_ix _ _ _ _ _ _ _ ix_list (@pv _ 0 _ _ (by rfl) (by first|exact Or.inl rfl|exact Or.inr (.inl rfl)|exact Or.inr (.inr rfl)) (by decide) (by decide)) (@pv _ 1 _ _ (by rfl) (by first|exact Or.inl rfl|exact Or.inr (.inl rfl)|exact Or.inr (.inr rfl)) (by decide) (by decide)) (fun _ _=>rfl)) pa_nil (by rfl)) (by rfl))) pa_nil (by rfl))) (@pv _ 2 _ _ (by rfl) (by first|exact Or.inl rfl|exact Or.inr (.inl rfl)|exact Or.inr (.inr rfl)) (by decide) (by decide))) (@pv _ 4 _ _ (by rfl) (by first|exact Or.inl rfl|exact Or.inr (.inl rfl)|exact Or.inr (.inr rfl)) (by decide) (by decide))) (@pa_cons _ _ _ _ _ (@pe_call _ _ _ _ _ _ _ _ _ _ _ _ _ _ _ _ UB.ok hr1 (by rfl) UB.m UB.kp UB.b .nil pass0 (@pa_cons _ _ _ _ _ (@pv _ 3 _ _ (by rfl) (by first|exact Or.inl rfl|exact Or.inr (.inl rfl)|exact Or.inr (.inr rfl)) (by decide) (by decide)) (@pa_cons _ _ _ _ _ (@pv _ 5 _ _ (by rfl) (by first|exact Or.inl rfl|exact Or.inr (.inl rfl)|exact Or.inr (.inr rfl)) (by decide) (by decide)) pa_nil (by rfl)) (by rfl)) (by decide) (by rfl) (by rfl)) pa_nil (by rfl)) (by rfl))))))))),?_⟩
 have nl:=zag row
 have p8:2 ^ n≤2 ^ 8:=Nat.pow_le_pow_right (by decide) n20
 have e8:2 ^ 8=256:=rfl
 refine⟨_,rfl,p,_,rfl,.inl (SqL.of hp),_,_,rfl,rfl,_,rfl,?_⟩
 cases n with
 | zero =>
  have rl1:row.length=1:=rl
  rw[decide_eq_true (show (((nums row).length:Nat):Int)<2 by lia)]
  refine iteT ⟨(by show 0≤sizeLine;decide),fun l hl=>⟨_,rfl,(by show 2≤sizeLine;decide),fun c hc=>?_⟩⟩
  have s1:=zaa hl (.lst [])
  have s2:=zaa hc (.tup [.ref l,.ref p])
  exact k c l p [] _ (s1.trans s2) (atNew hc _) (s2 _ _ (atNew hl _)) trivial (s2 _ _ (s1 _ _ hp))
 | succ m =>
  obtain⟨t1,t2,t3⟩:=zcf rl
  obtain⟨la,lb⟩:=zcj rl
  have pw:2 ^ (m+1)=2 ^ m*2:=Nat.pow_succ ..
  have p0:=Nat.one_le_two_pow (n:=m)
  rw[decide_eq_false (show ¬(((nums row).length:Nat):Int)<2 by lia)]
  refine iteF ⟨_,rfl,p,_,rfl,.inl (SqL.of hp),_,_,rfl,rfl,⟨by decide,by decide⟩,?_⟩
  have eh:(((nums row).length:Nat):Int) / 2=((row.length / 2:Nat):Int):=by rw[nl];lia
  simp only[eh]
  refine⟨_,rfl,_,rfl,_,rfl,p,_,rfl,SqL.of hp,fun p1 hp1=>?_⟩
  rw[zkh row _ t3]
  have s1:=zaa hp1 (.lst (nums (row.take (row.length / 2))))
  refine⟨m,rfl,p1,row.take (row.length / 2),rfl,atNew hp1 _,la,by lia,fun c2 lf2 le2 ps2 H2 s2 hc2 hf2 pr2 he2=>?_⟩
  have u2:=s1.trans s2
  refine⟨c2,_,rfl,SqT.of hc2,rfl,_,_,rfl,_,_,rfl,rfl,?_⟩
  refine⟨_,rfl,_,rfl,_,rfl,p,_,rfl,SqL.of (u2 _ _ hp),fun p3 hp3=>?_⟩
  rw[zki row _ t3]
  have s3:=zaa hp3 (.lst (nums (row.drop (row.length / 2))))
  refine⟨m,rfl,p3,row.drop (row.length / 2),rfl,atNew hp3 _,lb,by lia,fun c4 lf4 le4 ps4 H4 s4 hc4 hf4 pr4 he4=>?_⟩
  have u4:=s3.trans s4
  refine⟨c4,_,rfl,SqT.of hc4,rfl,_,_,rfl,_,_,rfl,rfl,?_⟩
  have hp4:=u4 _ _ (u2 _ _ hp)
  obtain⟨xl,xf⟩:=zcg m _ la
  obtain⟨yl,yf⟩:=zcg m _ lb
  have pl2:=pr2.len
  have pl4:=pr4.len
  refine⟨_,rfl,p,_,0,_,rfl,rfl,SqL.of hp4,zaB (j:=0) (zhc row 0 (by lia)),?_⟩
  refine⟨_,rfl,_,rfl,p,_,_,_,rfl,rfl,SqL.of hp4,zaB (zhc row (row.length / 2) (by lia)),(by show 2≤sizeLine;decide),fun t ht=>?_⟩
  have s5:=zaa ht (.tup [.int ((row.getD 0 0:Nat):Int),.int ((row.getD (row.length / 2) 0:Nat):Int)])
  refine⟨(by show 1≤sizeLine;decide),fun l6 hl6=>?_⟩
  have s6:=zaa hl6 (.lst [.ref t])
  refine⟨_,rfl,l6,lf2,_,_,rfl,rfl,atNew hl6 _,s6 _ _ (s5 _ _ (u4 _ _ hf2)),by rw[sizeLine_eq];simp only[List.length_cons,List.length_nil];lia,fun l7 hl7=>?_⟩
  have s7:=zaa hl7 (.lst ([.ref t]++ps2))
  refine⟨_,rfl,l7,lf4,_,_,rfl,rfl,atNew hl7 _,s7 _ _ (s6 _ _ (s5 _ _ hf4)),by rw[sizeLine_eq,List.length_append];simp only[List.length_cons,List.length_nil];lia,fun l8 hl8=>?_⟩
  have s8:=zaa hl8 (.lst (([.ref t]++ps2)++ps4))
  have u8:=((s5.trans s6).trans s7).trans s8
  refine⟨_,rfl,_,rfl,le2,le4,_,_,rfl,u8 _ _ (u4 _ _ he2),u8 _ _ he4,by rw[zag,zag,xl,yl],by rw[zag,xl];lia,fun l9 H9 s9 h9=>?_⟩
  rw[zfN]at h9
  refine⟨(by show 2≤sizeLine;decide),fun c hc=>?_⟩
  have s10:=zaa hc (.tup [.ref l8,.ref l9])
  have t8:=s8 _ _ (s7 _ _ (s6 _ _ (atNew ht (.tup [.int ((row.getD 0 0:Nat):Int),.int ((row.getD (row.length / 2) 0:Nat):Int)]))))
  refine k c l8 l9 _ _ ((u2.trans u4).trans ((u8.trans s9).trans s10)) (atNew hc _) (s10 _ _ (s9 _ _ (atNew hl8 _))) ?_ (s10 _ _ h9)
  refine Prs.tups (Tups.of (s9.trans s10)) ?_
  rw[List.append_assoc]
  exact Prs.app (ps:=[.ref t]) (fs:=[(row.getD 0 0,row.getD (row.length / 2) 0)]) (show Prs _ [.ref t] [(row.getD 0 0,row.getD (row.length / 2) 0)] from⟨⟨t,rfl,t8⟩,trivial⟩) (Prs.app ((pr2.tups (Tups.of u4)).tups (Tups.of u8)) (pr4.tups (Tups.of u8)))
theorem zdW {f fB:Addr}{fd dB:FuncData}(F:Fun K "tree_of" "tree_of" zcw f fd) (G:Mgs mg) (UB:Use P w K mg base "by_turns" ["one","other"] 1 spBy fB dB) (bS:Binds K fd ["row"] []) (mS:mg "tree_of" = some (.ref f)):∀ n:Nat,FnOk P w K mg base CX0 (n+2) f fd ["row"] (zbF n)
 | 0=>zcY F G UB bS mS 0 ⟨fun vs H Q E ⟨m,h,_⟩=>by lia,fun A outer s H args us vs Q E _ _ _ _ ⟨m,h,_⟩=>by lia⟩
 | m+1=>zcY F G UB bS mS (m+1) ((zdW F G UB bS mS m).imp fun vs H Q E ⟨m',h,q⟩=>by cases h;exact q)
abbrev zcu:Sp:=fun vs H Q E=>∃ m,m≤4∧zbF m vs H Q E
theorem zfK {f fB:Addr}{fd dB:FuncData}(F:Fun K "tree_of" "tree_of" zcw f fd) (G:Mgs mg) (UB:Use P w K mg base "by_turns" ["one","other"] 1 spBy fB dB) (bS:Binds K fd ["row"] []) (mS:mg "tree_of" = some (.ref f)):FnOk P w K mg base CX0 6 f fd ["row"] zcu :=
 FnOk.any 4 fun m hm=>(zdW F G UB bS mS m).mono (by lia)
theorem ziI:FnScope ["k","row"] ["k"] (zad zjf):=⟨rfl,rfl,rfl,by decide +kernel,rfl,by decide +kernel,by decide +kernel⟩
theorem zjB {f fR fT fM:Addr}{fd dR dT dM:FuncData}(F:Fun K "tree" "tree" zjf f fd) (UR:Use P w K mg base "row_of" ["k"] 2 zbY fR dR) (UT:Use P w K mg base "tree_of" ["row"] 6 zcu fT dT) (UM:Use P w K mg base "net_of" ["row","made"] 3 za1 fM dM):FnOk P w K mg base CX0 7 f fd ["k"] zgm:=by
 refine F.ok ziI (fun vs H Q E h=>?_) (fun cdv A outer s H vs Q E hr h=>?_)
 ·obtain⟨k,rfl,_⟩:=h
  rfl
 obtain⟨k,rfl,k5,q⟩:=h
 have hr2:Room 2 _:=hr.mono (by decide)
 have hr3:Room 3 _:=hr.mono (by decide)
 refine⟨_,(@pss_cons _ _ _ _ _ (@ps_set _ _ 1 _ _ _ _ ziI.nd rfl (.inl rfl) (@pe_call _ _ _ _ _ _ _ _ _ _ _ _ _ _ _ _ UR.ok hr2 (by rfl) UR.m UR.kp UR.b .nil pass0 (@pa_cons _ _ _ _ _ (@pv _ 0 _ _ (by rfl) (by first|exact Or.inl rfl|exact Or.inr (.inl rfl)|exact Or.inr (.inr rfl)) (by decide) (by decide)) pa_nil (by rfl)) (by decide) (by rfl) (by rfl)) (by rfl) (by first|exact .inl rfl|exact .inr rfl|assumption)) (@pss_one _ _ _ (@ps_ret _ _ _ _ (@pe_call _ _ _ _ _ _ _ _ _ _ _ _ _ _ _ _ UM.ok hr3 (by rfl) UM.m UM.kp UM.b .nil pass0 (@pa_cons _ _ _ _ _ (@pv _ 1 _ _ (by rfl) (by first|exact Or.inl rfl|exact Or.inr (.inl rfl)|exact Or.inr (.inr rfl)) (by decide) (by decide)) (@pa_cons _ _ _ _ _ (@pe_call _ _ _ _ _ _ _ _ _ _ _ _ _ _ _ _ UT.ok hr (by rfl) UT.m UT.kp UT.b .nil pass0 (@pa_cons _ _ _ _ _ (@pv _ 1 _ _ (by rfl) (by first|exact Or.inl rfl|exact Or.inr (.inl rfl)|exact Or.inr (.inr rfl)) (by decide) (by decide)) pa_nil (by rfl)) (by decide) (by rfl) (by rfl)) pa_nil (by rfl)) (by rfl)) (by decide) (by rfl) (by rfl))))),?_⟩
 refine⟨_,rfl,k,rfl,by lia,fun p hp=>?_⟩
 have s1:=zaa hp (.lst (nums (List.range (2 ^ k))))
 refine⟨_,rfl,_,rfl,k,by lia,p,List.range (2 ^ k),rfl,atNew hp _,List.length_range,by lia,fun c lf le ps H2 s2 hc hf pr he=>?_⟩
 have eN:(⟨(List.range (2 ^ k)).length,(zcc k (List.range (2 ^ k))).1,(zcc k (List.range (2 ^ k))).2⟩:Nt)=zcs k:=by rw[List.length_range];rfl
 refine⟨p,c,lf,le,ps,_,List.range (2 ^ k),_,rfl,s2 _ _ (atNew hp _),hc,hf,pr,he,⟨by rw[eN];exact zgh (by lia),(zcl k k5).1⟩,fun r' fr' er' ps' H' s' n'=>?_⟩
 rw[eN]at n'
 exact q r' fr' er' ps' H' ((s1.trans s2).trans s') n'
end
end K83
namespace Bn
open PySem L2 Own
end Bn
namespace L2
open PySem PySem.Spec PyProof.Rows Own
end L2
namespace Bn
open PySem L2 Own
def metN (N:Nt) (j:Int):List Nat:=(N.forks.zip (zbt N)).flatMap fun p=>if p.2=j then [p.1.1,p.1.2] else []
structure Told (N:Nt) (k due:Nat):Prop where
 ok:N.Ok
 lanes:N.lanes=2 ^ k
 pl:zal N=N
 dle:∀ z∈zbt N,0≤z∧z≤(due:Int)
 din:(due:Int)∈0::zbt N
def Full (N:Nt) (d:Nat):Prop:=∀ j,j<d→(metN N ((j+1:Nat):Int)).Perm (List.range N.lanes)
theorem zeF {N:Nt}(ok:N.Ok):zal (zal N)=zal N:=by
 show (⟨N.lanes,za2 (zal N),N.ends⟩:Nt)=⟨N.lanes,za2 N,N.ends⟩
 rw[zeG ok]
def zfE (N:Nt) (due many:Nat):Bool:=(zbt N).all (fun z=>decide (0≤z∧z≤(due:Int))) && decide ((due:Int)∈0::zbt N) && decide (N.forks.length=many)
theorem zda {N:Nt}{k due many:Nat}(ok:N.Ok) (hl:N.lanes=2 ^ k) (h:zfE (zal N) due many=true):Told (zal N) k due∧(zal N).forks.length=many:=by
 unfold zfE at h
 simp only[Bool.and_eq_true,List.all_eq_true,decide_eq_true_eq]at h
 exact⟨⟨zhZ ok,hl,zeF ok,h.1.1,h.1.2⟩,h.2⟩
theorem zeg:∀ k,k<5→zfE (zal (zba k)) (k*(k+1) / 2) (2 ^ k / 2*(k*(k+1) / 2))=true∧Full (zal (zba k)) (k*(k+1) / 2):=by unfold Full;decide +kernel
theorem zdP:∀ k,k<5→zfE (zal (zaR k)) (k*k) (2 ^ k / 2*(k*k))=true∧Full (zal (zaR k)) (k*k):=by unfold Full;decide +kernel
theorem zeO:∀ m,m<4→zfE (zal (zbc m)) (m+1) (2 ^ (m+1) / 2*(m+1))=true∧Full (zal (zbc m)) (m+1):=by unfold Full;decide +kernel
theorem zfD:∀ k,k<5→zfE (zal (zcs k)) k (2 ^ k-1)=true:=by decide +kernel
theorem zfF {k:Nat}(h:k<5):Told (zal (zba k)) k (k*(k+1) / 2)∧(zal (zba k)).forks.length=2 ^ k / 2*(k*(k+1) / 2):=zda (ze6 h) rfl (zeg k h).1
theorem zeC {k:Nat}(h:k<5):Told (zal (zaR k)) k (k*k)∧(zal (zaR k)).forks.length=2 ^ k / 2*(k*k):=zda (zdQ h) rfl (zdP k h).1
theorem zfP {m:Nat}(h:m<4):Told (zal (zbc m)) (m+1) (m+1)∧(zal (zbc m)).forks.length=2 ^ (m+1) / 2*(m+1):=zda (zfk h) rfl (zeO m h).1
theorem zgg {k:Nat}(h:k<5):Told (zal (zcs k)) k k∧(zal (zcs k)).forks.length=2 ^ k-1:=zda (zgh h) rfl (zfD k h)
end Bn
namespace K83
open PySem L2 Own Bn
abbrev sLaw:Stmt:=top 65
theorem zi7 {K:PySem.W.Frag}{H H1 H2:Hp}{a l:Addr}{xs:List V}(h:SqL K H a xs) (hl:H l=none) (s:Same H H1) (B:But l H1 H2):SqL K H2 a xs:=by
 rcases h with (h|⟨o,h⟩)|h
 ·exact .inl (.inl (B _ _ (s _ _ h) (zac h hl)))
 ·exact .inl (.inr ⟨o,B _ _ (s _ _ h) (zac h hl)⟩)
 ·exact .inr h
def zhS (K:PySem.W.Frag):Sp:=fun vs H Q _=>∃ (a:Addr) (ns:List Int),vs=[.ref a]∧SqL K H a (ns.map V.int)∧ns.length≤63∧∀ H',Q (.bl true) H'
structure Fit (N:Nt):Prop where
 ok:N.Ok
 l8:N.lanes≤8
 f36:N.forks.length≤36
theorem zfs {N:Nt}{due m:Nat}(t:Told N 3 due∧N.forks.length=m) (h:m≤36):Fit N:=⟨t.1.ok,by rw[t.1.lanes];decide,by rw[t.2];exact h⟩
theorem zlz:Fit (zal (zba 3)):=zfs (zfF (by decide)) (by decide)
theorem zlA:Fit (dueN 3):=by rw[← zcV (by decide)];exact zfs (zeC (by decide)) (by decide)
theorem zlB:Fit (zal (zbc 2)):=zfs (zfP (by decide)) (by decide)
theorem zly:Fit (zal (zcs 3)):=zfs (zgg (by decide)) (by decide)
section
variable {P:Program}{w:World}{K:PySem.W.Frag}{mg:Str→Option Value}{base:Heap}
theorem scW:FnScope ["_law_script","_law_k","_law_left_here","_law_net_here","_law_puts","_law_counts","_law_turn","_law_scene","_law_few","_law_told"] ["_law_script"] (zad sLaw):=⟨rfl,rfl,rfl,by decide +kernel,rfl,by decide +kernel,by decide +kernel⟩
theorem zkG {f fL fN fO fK fM fSt fPl fPi fWo fT fE fOb fUn fSw fRo fMe fTr:Addr}{fd dL dN dO dK dM dSt dPl dPi dWo dT dE dOb dUn dSw dRo dMe dTr:FuncData}(F:Fun K "law" "law" sLaw f fd) (G:Mgs mg) (UL:Use P w K mg base "_law_left" ["_law_script","_law_k"] 2 (zgr K) fL dL) (UN:Use P w K mg base "_law_net" ["_law_left_here","_law_lanes","_law_most"] 3 (zgp 12) fN dN)
  (UO:Use P w K mg base "_law_of" ["_law_left_here","_law_some"] 2 spOf fO dO) (UK:Use P w K mg base "_law_pick" ["_law_left_here","_law_many_here"] 1 zbs fK dK) (UM:Use P w K mg base "_law_many" ["_law_left_here"] 3 zen fM dM) (USt:Use P w K mg base "is_still" ["scene"] 1 zei fSt dSt) (UPl:Use P w K mg base "_law_placed" ["_law_left_here","_law_some"] 2 zbG fPl dPl) (UPi:Use P w K mg base "put_in" ["net","deeds"] 5 zej fPi dPi)
  (UWo:Use P w K mg base "_law_woven" ["_law_left_here","_law_net_here","_law_puts"] 7 zdc fWo dWo) (UT:Use P w K mg base "turns_of" ["net","counts"] 2 zeh fT dT) (UE:Use P w K mg base "ends_of" ["net","counts"] 2 zgs fE dE) (UOb:Use P w K mg base "_law_one_by_one" ["_law_left_here","_law_net_here","_law_counts"] 4 zem fOb dOb) (UUn:Use P w K mg base "_law_undone" ["_law_left_here","_law_net_here","_law_turns"] 4 zdd fUn dUn)
  (USw:Use P w K mg base "stairway" ["k"] 12 zbW fSw dSw) (URo:Use P w K mg base "rounds" ["k"] 6 zde fRo dRo) (UMe:Use P w K mg base "merger" ["k"] 7 zdh fMe dMe) (UTr:Use P w K mg base "tree" ["k"] 7 zgm fTr dTr):FnOk P w K mg base CX0 13 f fd ["_law_script"] (zhS K):=by
 refine F.ok scW (fun vs H Q E h=>?_) (fun cdv A outer s H vs Q E hr h=>?_)
 ·obtain⟨a,ns,rfl,_⟩:=h
  rfl
 obtain⟨a,ns,rfl,hS,h63,k⟩:=h
 have hr1:Room 1 _:=hr.mono (by decide)
 have hr2:Room 2 _:=hr.mono (by decide)
 have hr3:Room 3 _:=hr.mono (by decide)
 have hr4:Room 4 _:=hr.mono (by decide)
 have hr5:Room 5 _:=hr.mono (by decide)
 have hr6:Room 6 _:=hr.mono (by decide)
 have hr7:Room 7 _:=hr.mono (by decide)
 have hr12:Room 12 _:=hr.mono (by decide)
 refine⟨_,(@pss_cons _ _ _ _ _ (@ps_for _ _ _ _ _ _ _ _ PassesOwn.never rfl (@pi_range1 _ _ _ _ _ _ rfl G.range (@pa_cons _ _ _ _ _ (@pe_callB _ _ _ _ _ _ _ _ _ (zcK rfl) (by rfl) G.max (by rfl) (@pa_cons _ _ _ _ _ pe_int (@pa_cons _ _ _ _ _ (@pe_callB _ _ _ _ _ _ _ _ _ (zhI rfl) (by rfl) G.min (by rfl) (@pa_cons _ _ _ _ _ pe_int (@pa_cons _ _ _ _ _ (@pe_callB _ _ _ _ _ _ _ _ _ call_len_seq (by rfl) G.len PySem.boot_len (@pa_cons _ _ _ _ _ (@pv _ 0 _ _ (by rfl) (by first|exact Or.inl rfl|exact Or.inr (.inl rfl)|exact Or.inr (.inr rfl)) (by decide) (by decide)) pa_nil (by rfl)) (by decide) (by decide) (by rfl) (by rfl)) pa_nil (by rfl)) (by rfl)) (by decide) (by decide) (by rfl) (by rfl)) pa_nil (by rfl)) (by rfl)) (by decide) (by decide) (by rfl) (by rfl)) pa_nil (by rfl)) (by rfl)) (@pg_name _ _ 1 _ scW.nd rfl (.inl rfl) (by first|exact .inl rfl|exact .inr rfl|assumption)) (@pss_cons _ _ _ _ _ (@ps_set _ _ 2 _ _ _ _ scW.nd rfl (.inr rfl) (@pe_call _ _ _ _ _ _ _ _ _ _ _ _ _ _ _ _ UL.ok hr2 (by rfl) UL.m UL.kp UL.b .nil pass0 (@pa_cons _ _ _ _ _ (@pv _ 0 _ _ (by rfl) (by first|exact Or.inl rfl|exact Or.inr (.inl rfl)|exact Or.inr (.inr rfl)) (by decide) (by decide)) (@pa_cons _ _ _ _ _ (@pv _ 1 _ _ (by rfl) (by first|exact Or.inl rfl|exact Or.inr (.inl rfl)|exact Or.inr (.inr rfl)) (by decide) (by decide)) pa_nil (by rfl)) (by rfl)) (by decide) (by rfl) (by rfl)) (by rfl) (by first|exact .inl rfl|exact .inr rfl|assumption)) (@pss_cons _ _ _ _ _ (@ps_set _ _ 3 _ _ _ _ scW.nd rfl (.inr rfl) (@pe_call _ _ _ _ _ _ _ _ _ _ _ _ _ _ _ _ UN.ok hr3 (by rfl) UN.m UN.kp UN.b .nil pass0 (@pa_cons _ _ _ _ _ (@pv _ 2 _ _ (by rfl) (by first|exact Or.inl rfl|exact Or.inr (.inl rfl)|exact Or.inr (.inr rfl)) (by decide) (by decide)) (@pa_cons _ _ _ _ _ (@pe_call _ _ _ _ _ _ _ _ _ _ _ _ _ _ _ _ UO.ok hr2 (by rfl) UO.m UO.kp UO.b .nil pass0 (@pa_cons _ _ _ _ _ (@pv _ 2 _ _ (by rfl) (by first|exact Or.inl rfl|exact Or.inr (.inl rfl)|exact Or.inr (.inr rfl)) (by decide) (by decide)) (@pa_cons _ _ _ _ _ (@zaz _ _ _ _ (@pa_cons _ _ _ _ _ pe_int (@pa_cons _ _ _ _ _ pe_int (@pa_cons _ _ _ _ _ pe_int (@pa_cons _ _ _ _ _ pe_int (@pa_cons _ _ _ _ _ pe_int (@pa_cons _ _ _ _ _ pe_int pa_nil (by rfl)) (by rfl)) (by rfl)) (by rfl)) (by rfl)) (by rfl))) pa_nil (by rfl)) (by rfl)) (by decide) (by rfl) (by rfl)) (@pa_cons _ _ _ _ _ pe_int pa_nil (by rfl)) (by rfl)) (by rfl)) (by decide) (by rfl) (by rfl)) (by rfl) (by first|exact .inl rfl|exact .inr rfl|assumption)) (@pss_cons _ _ _ _ _ (@ps_if _ _ _ _ _ _ _ _ (@pt_cmpR _ _ _ _ _ _ _ _ op_eq (@pe_call _ _ _ _ _ _ _ _ _ _ _ _ _ _ _ _ UK.ok hr1 (by rfl) UK.m UK.kp UK.b .nil pass0 (@pa_cons _ _ _ _ _ (@pv _ 2 _ _ (by rfl) (by first|exact Or.inl rfl|exact Or.inr (.inl rfl)|exact Or.inr (.inr rfl)) (by decide) (by decide)) (@pa_cons _ _ _ _ _ pe_int pa_nil (by rfl)) (by rfl)) (by decide) (by rfl) (by rfl)) pe_int (nomark _)) (@pss_one _ _ _ (@ps_set _ _ 3 _ _ _ _ scW.nd rfl (.inr rfl) (@pe_call _ _ _ _ _ _ _ _ _ _ _ _ _ _ _ _ UO.ok hr2 (by rfl) UO.m UO.kp UO.b .nil pass0 (@pa_cons _ _ _ _ _ (@pv _ 2 _ _ (by rfl) (by first|exact Or.inl rfl|exact Or.inr (.inl rfl)|exact Or.inr (.inr rfl)) (by decide) (by decide)) (@pa_cons _ _ _ _ _ (@zaz _ _ _ _ (@pa_cons _ _ _ _ _ (@pe_call _ _ _ _ _ _ _ _ _ _ _ _ _ _ _ _ USw.ok hr12 (by rfl) USw.m USw.kp USw.b .nil pass0 (@pa_cons _ _ _ _ _ pe_int pa_nil (by rfl)) (by decide) (by rfl) (by rfl)) (@pa_cons _ _ _ _ _ (@pe_call _ _ _ _ _ _ _ _ _ _ _ _ _ _ _ _ URo.ok hr6 (by rfl) URo.m URo.kp URo.b .nil pass0 (@pa_cons _ _ _ _ _ pe_int pa_nil (by rfl)) (by decide) (by rfl) (by rfl)) (@pa_cons _ _ _ _ _ (@pe_call _ _ _ _ _ _ _ _ _ _ _ _ _ _ _ _ UMe.ok hr7 (by rfl) UMe.m UMe.kp UMe.b .nil pass0 (@pa_cons _ _ _ _ _ pe_int pa_nil (by rfl)) (by decide) (by rfl) (by rfl)) (@pa_cons _ _ _ _ _ (@pe_call _ _ _ _ _ _ _ _ _ _ _ _ _ _ _ _ UTr.ok hr7 (by rfl) UTr.m UTr.kp UTr.b .nil pass0 (@pa_cons _ _ _ _ _ pe_int pa_nil (by rfl)) (by decide) (by rfl) (by rfl)) pa_nil (by rfl)) (by rfl)) (by rfl)) (by rfl))) pa_nil (by rfl)) (by rfl)) (by decide) (by rfl) (by rfl)) (by rfl) (by first|exact .inl rfl|exact .inr rfl|assumption))) pss_nil) (@pss_cons _ _ _ _ _ (@zhX _ 4 _ _ _ _ none _ _ _ _ _ _ _ _ ["_law_turn","_law_left_here","_law_net_here"] [none,some 2,some 3] scW.nd rfl rfl rfl (@pi_range1 _ _ _ _ _ _ rfl G.range (@pa_cons _ _ _ _ _ (@pe_call _ _ _ _ _ _ _ _ _ _ _ _ _ _ _ _ UK.ok hr1 (by rfl) UK.m UK.kp UK.b .nil pass0 (@pa_cons _ _ _ _ _ (@pv _ 2 _ _ (by rfl) (by first|exact Or.inl rfl|exact Or.inr (.inl rfl)|exact Or.inr (.inr rfl)) (by decide) (by decide)) (@pa_cons _ _ _ _ _ pe_int pa_nil (by rfl)) (by rfl)) (by decide) (by rfl) (by rfl)) pa_nil (by rfl)) (by rfl)) (CapOk.of (by kernel_rfl)) (fun _ _ _ _ _=>(@pg_name _ _ 0 _ (show (["_law_turn","_law_left_here","_law_net_here"]:List Str).Nodup from by decide +kernel) rfl (.inl rfl) (.inr rfl))) (fun _ _ _ _ _=>zbx) (fun _ _ _ _ _=>(@pe_tup _ _ _ _ _ (@pa_cons _ _ _ _ _ pe_str (@pa_cons _ _ _ _ _ (@pe_call _ _ _ _ _ _ _ _ _ _ _ _ _ _ _ _ UK.ok hr1 (by rfl) UK.m UK.kp UK.b .nil pass0 (@pa_cons _ _ _ _ _ (@pv _ 1 _ _ (by rfl) (by first|exact Or.inl rfl|exact Or.inr (.inl rfl)|exact Or.inr (.inr rfl)) (by decide) (by decide)) (@pa_cons _ _ _ _ _ (@pe_ix _ _ _ _ _ _ (rIxT K) ix_tup (@pv _ 2 _ _ (by rfl) (by first|exact Or.inl rfl|exact Or.inr (.inl rfl)|exact Or.inr (.inr rfl)) (by decide) (by decide)) pe_int (fun _ _=>rfl)) pa_nil (by rfl)) (by rfl)) (by decide) (by rfl) (by rfl)) (@pa_cons _ _ _ _ _ (@pe_call _ _ _ _ _ _ _ _ _ _ _ _ _ _ _ _ UM.ok hr3 (by rfl) UM.m UM.kp UM.b .nil pass0 (@pa_cons _ _ _ _ _ (@pv _ 1 _ _ (by rfl) (by first|exact Or.inl rfl|exact Or.inr (.inl rfl)|exact Or.inr (.inr rfl)) (by decide) (by decide)) pa_nil (by rfl)) (by decide) (by rfl) (by rfl)) pa_nil (by rfl)) (by rfl)) (by rfl)))) (by intro _;rfl) (by with_unfolding_all rfl)) (@pss_cons _ _ _ _ _ (@ps_set _ _ 5 _ _ _ _ scW.nd rfl (.inl rfl) (@pe_call _ _ _ _ _ _ _ _ _ _ _ _ _ _ _ _ UPi.ok hr5 (by rfl) UPi.m UPi.kp UPi.b .nil pass0 (@pa_cons _ _ _ _ _ (@pv _ 3 _ _ (by rfl) (by first|exact Or.inl rfl|exact Or.inr (.inl rfl)|exact Or.inr (.inr rfl)) (by decide) (by decide)) (@pa_cons _ _ _ _ _ (@pe_callTy _ _ _ _ _ _ _ _ _ call_tuple_of (by rfl) G.tuple (by rfl) (@pa_cons _ _ _ _ _ (@pv _ 4 _ _ (by rfl) (by first|exact Or.inl rfl|exact Or.inr (.inl rfl)|exact Or.inr (.inr rfl)) (by decide) (by decide)) pa_nil (by rfl)) (by decide) (by decide) (by rfl) (by rfl)) pa_nil (by rfl)) (by rfl)) (by decide) (by rfl) (by rfl)) (by rfl) (by first|exact .inl rfl|exact .inr rfl|assumption)) (@pss_cons _ _ _ _ _ (@ps_for _ _ _ _ _ _ _ _ PassesOwn.never rfl (@pi_range1 _ _ _ _ _ _ rfl G.range (@pa_cons _ _ _ _ _ pe_int pa_nil (by rfl)) (by rfl)) (@pg_name _ _ 6 _ scW.nd rfl (.inl rfl) (by first|exact .inl rfl|exact .inr rfl|assumption)) (@pss_cons _ _ _ _ _ (@ps_set _ _ 7 _ _ _ _ scW.nd rfl (.inl rfl) (@pe_call _ _ _ _ _ _ _ _ _ _ _ _ _ _ _ _ UWo.ok hr7 (by rfl) UWo.m UWo.kp UWo.b .nil pass0 (@pa_cons _ _ _ _ _ (@pv _ 2 _ _ (by rfl) (by first|exact Or.inl rfl|exact Or.inr (.inl rfl)|exact Or.inr (.inr rfl)) (by decide) (by decide)) (@pa_cons _ _ _ _ _ (@pv _ 3 _ _ (by rfl) (by first|exact Or.inl rfl|exact Or.inr (.inl rfl)|exact Or.inr (.inr rfl)) (by decide) (by decide)) (@pa_cons _ _ _ _ _ (@pe_call _ _ _ _ _ _ _ _ _ _ _ _ _ _ _ _ UPl.ok hr2 (by rfl) UPl.m UPl.kp UPl.b .nil pass0 (@pa_cons _ _ _ _ _ (@pv _ 2 _ _ (by rfl) (by first|exact Or.inl rfl|exact Or.inr (.inl rfl)|exact Or.inr (.inr rfl)) (by decide) (by decide)) (@pa_cons _ _ _ _ _ (@pv _ 4 _ _ (by rfl) (by first|exact Or.inl rfl|exact Or.inr (.inl rfl)|exact Or.inr (.inr rfl)) (by decide) (by decide)) pa_nil (by rfl)) (by rfl)) (by decide) (by rfl) (by rfl)) pa_nil (by rfl)) (by rfl)) (by rfl)) (by decide) (by rfl) (by rfl)) (by rfl) (by first|exact .inl rfl|exact .inr rfl|assumption)) (@pss_one _ _ _ (@ps_if _ _ _ _ _ _ _ _ (@pw_or _ _ _ _ _ _ _ (@pt_cmpR _ _ _ _ _ _ _ _ op_notB (@pe_call _ _ _ _ _ _ _ _ _ _ _ _ _ _ _ _ USt.ok hr1 (by rfl) USt.m USt.kp USt.b .nil pass0 (@pa_cons _ _ _ _ _ (@pv _ 7 _ _ (by rfl) (by first|exact Or.inl rfl|exact Or.inr (.inl rfl)|exact Or.inr (.inr rfl)) (by decide) (by decide)) pa_nil (by rfl)) (by decide) (by rfl) (by rfl)) pe_bl (by rfl)) (@pw_or1 _ _ _ _ (@pt_cmpR _ _ _ _ _ _ _ _ (op_neD hr.units) (@pv _ 7 _ _ (by rfl) (by first|exact Or.inl rfl|exact Or.inr (.inl rfl)|exact Or.inr (.inr rfl)) (by decide) (by decide)) (@pe_tup _ _ _ _ _ (@pa_cons _ _ _ _ _ (@pe_call _ _ _ _ _ _ _ _ _ _ _ _ _ _ _ _ UT.ok hr2 (by rfl) UT.m UT.kp UT.b .nil pass0 (@pa_cons _ _ _ _ _ (@pv _ 3 _ _ (by rfl) (by first|exact Or.inl rfl|exact Or.inr (.inl rfl)|exact Or.inr (.inr rfl)) (by decide) (by decide)) (@pa_cons _ _ _ _ _ (@pv _ 5 _ _ (by rfl) (by first|exact Or.inl rfl|exact Or.inr (.inl rfl)|exact Or.inr (.inr rfl)) (by decide) (by decide)) pa_nil (by rfl)) (by rfl)) (by decide) (by rfl) (by rfl)) (@pa_cons _ _ _ _ _ (@pe_tup _ _ _ _ _ pa_nil) (@pa_cons _ _ _ _ _ (@pe_call _ _ _ _ _ _ _ _ _ _ _ _ _ _ _ _ UE.ok hr2 (by rfl) UE.m UE.kp UE.b .nil pass0 (@pa_cons _ _ _ _ _ (@pv _ 3 _ _ (by rfl) (by first|exact Or.inl rfl|exact Or.inr (.inl rfl)|exact Or.inr (.inr rfl)) (by decide) (by decide)) (@pa_cons _ _ _ _ _ (@pv _ 5 _ _ (by rfl) (by first|exact Or.inl rfl|exact Or.inr (.inl rfl)|exact Or.inr (.inr rfl)) (by decide) (by decide)) pa_nil (by rfl)) (by rfl)) (by decide) (by rfl) (by rfl)) pa_nil (by rfl)) (by rfl)) (by rfl))) (nomark _)))).pt (@pss_one _ _ _ (@ps_ret _ _ _ _ pe_bl)) pss_nil))) (by intro _;rfl)) (@pss_cons _ _ _ _ _ (@ps_set _ _ 8 _ _ _ _ scW.nd rfl (.inl rfl) (@pe_callTy _ _ _ _ _ _ _ _ _ call_tuple_of (by rfl) G.tuple (by rfl) (@pa_cons _ _ _ _ _ (@pe_lc _ _ _ _ none _ _ _ _ _ _ ["_law_lane","_law_left_here"] [none,some 2] rfl (@pi_range1 _ _ _ _ _ _ rfl G.range (@pa_cons _ _ _ _ _ (@pe_ix _ _ _ _ _ _ _ ix_tup (@pv _ 3 _ _ (by rfl) (by first|exact Or.inl rfl|exact Or.inr (.inl rfl)|exact Or.inr (.inr rfl)) (by decide) (by decide)) pe_int (fun _ _=>rfl)) pa_nil (by rfl)) (by rfl)) (CapOk.of (by kernel_rfl)) (fun _ _ _ _ _=>(@pg_name _ _ 0 _ (show (["_law_lane","_law_left_here"]:List Str).Nodup from by decide +kernel) rfl (.inl rfl) (.inr rfl))) (fun _ _ _ _ _=>zbx) (fun _ _ _ _ _=>(@pe_op _ _ _ _ _ _ _ _ op_sub (@pe_call _ _ _ _ _ _ _ _ _ _ _ _ _ _ _ _ UK.ok hr1 (by rfl) UK.m UK.kp UK.b .nil pass0 (@pa_cons _ _ _ _ _ (@pv _ 1 _ _ (by rfl) (by first|exact Or.inl rfl|exact Or.inr (.inl rfl)|exact Or.inr (.inr rfl)) (by decide) (by decide)) (@pa_cons _ _ _ _ _ pe_int pa_nil (by rfl)) (by rfl)) (by decide) (by rfl) (by rfl)) pe_int)) (by intro _;rfl)) pa_nil (by rfl)) (by decide) (by decide) (by rfl) (by rfl)) (by rfl) (by first|exact .inl rfl|exact .inr rfl|assumption)) (@pss_cons _ _ _ _ _ (@ps_set _ _ 9 _ _ _ _ scW.nd rfl (.inl rfl) (@pe_call _ _ _ _ _ _ _ _ _ _ _ _ _ _ _ _ UOb.ok hr4 (by rfl) UOb.m UOb.kp UOb.b .nil pass0 (@pa_cons _ _ _ _ _ (@pv _ 2 _ _ (by rfl) (by first|exact Or.inl rfl|exact Or.inr (.inl rfl)|exact Or.inr (.inr rfl)) (by decide) (by decide)) (@pa_cons _ _ _ _ _ (@pv _ 3 _ _ (by rfl) (by first|exact Or.inl rfl|exact Or.inr (.inl rfl)|exact Or.inr (.inr rfl)) (by decide) (by decide)) (@pa_cons _ _ _ _ _ (@pv _ 8 _ _ (by rfl) (by first|exact Or.inl rfl|exact Or.inr (.inl rfl)|exact Or.inr (.inr rfl)) (by decide) (by decide)) pa_nil (by rfl)) (by rfl)) (by rfl)) (by decide) (by rfl) (by rfl)) (by rfl) (by first|exact .inl rfl|exact .inr rfl|assumption)) (@pss_one _ _ _ (@ps_if _ _ _ _ _ _ _ _ (@pw_or _ _ _ _ _ _ _ (@pt_cmpR _ _ _ _ _ _ _ _ (op_neD hr.units) (@pv _ 9 _ _ (by rfl) (by first|exact Or.inl rfl|exact Or.inr (.inl rfl)|exact Or.inr (.inr rfl)) (by decide) (by decide)) (@pe_tup _ _ _ _ _ (@pa_cons _ _ _ _ _ (@pe_call _ _ _ _ _ _ _ _ _ _ _ _ _ _ _ _ UT.ok hr2 (by rfl) UT.m UT.kp UT.b .nil pass0 (@pa_cons _ _ _ _ _ (@pv _ 3 _ _ (by rfl) (by first|exact Or.inl rfl|exact Or.inr (.inl rfl)|exact Or.inr (.inr rfl)) (by decide) (by decide)) (@pa_cons _ _ _ _ _ (@pv _ 8 _ _ (by rfl) (by first|exact Or.inl rfl|exact Or.inr (.inl rfl)|exact Or.inr (.inr rfl)) (by decide) (by decide)) pa_nil (by rfl)) (by rfl)) (by decide) (by rfl) (by rfl)) (@pa_cons _ _ _ _ _ (@pe_call _ _ _ _ _ _ _ _ _ _ _ _ _ _ _ _ UE.ok hr2 (by rfl) UE.m UE.kp UE.b .nil pass0 (@pa_cons _ _ _ _ _ (@pv _ 3 _ _ (by rfl) (by first|exact Or.inl rfl|exact Or.inr (.inl rfl)|exact Or.inr (.inr rfl)) (by decide) (by decide)) (@pa_cons _ _ _ _ _ (@pv _ 8 _ _ (by rfl) (by first|exact Or.inl rfl|exact Or.inr (.inl rfl)|exact Or.inr (.inr rfl)) (by decide) (by decide)) pa_nil (by rfl)) (by rfl)) (by decide) (by rfl) (by rfl)) pa_nil (by rfl)) (by rfl))) (nomark _)) (@pw_or1 _ _ _ _ (@pt_not _ _ _ _ (@pt_truth _ _ _ (@pe_call _ _ _ _ _ _ _ _ _ _ _ _ _ _ _ _ UUn.ok hr4 (by rfl) UUn.m UUn.kp UUn.b .nil pass0 (@pa_cons _ _ _ _ _ (@pv _ 2 _ _ (by rfl) (by first|exact Or.inl rfl|exact Or.inr (.inl rfl)|exact Or.inr (.inr rfl)) (by decide) (by decide)) (@pa_cons _ _ _ _ _ (@pv _ 3 _ _ (by rfl) (by first|exact Or.inl rfl|exact Or.inr (.inl rfl)|exact Or.inr (.inr rfl)) (by decide) (by decide)) (@pa_cons _ _ _ _ _ (@pe_ix _ _ _ _ _ _ _ ix_tup (@pv _ 9 _ _ (by rfl) (by first|exact Or.inl rfl|exact Or.inr (.inl rfl)|exact Or.inr (.inr rfl)) (by decide) (by decide)) pe_int (fun _ _=>rfl)) pa_nil (by rfl)) (by rfl)) (by rfl)) (by decide) (by rfl) (by rfl)) (fun _=>rfl))))).pt (@pss_one _ _ _ (@ps_ret _ _ _ _ pe_bl)) pss_nil)))))))))) (by intro _;rfl)) (@pss_one _ _ _ (@ps_ret _ _ _ _ pe_bl))),?_⟩
 refine⟨_,rfl,a,_,rfl,.inl hS,_,_,rfl,_,_,rfl,_,rfl,?_,?_,?_⟩
 ·split<;>split<;>lia
 ·rw[List.length_map];split<;>split<;>lia
 refine zaT (lo:=0) (fun i σ H2=>(∃ v1 v2 v3 v4 v5 v6 v7 v8 v9,σ=[some (.ref a),v1,v2,v3,v4,v5,v6,v7,v8,v9])∧SqL K H2 a (ns.map V.int)) ⟨⟨_,_,_,_,_,_,_,_,_,rfl⟩,hS⟩ ?_ (fun σ H2 _=>k H2)
 rintro i σ H2 hi ⟨⟨v1,v2,v3,v4,v5,v6,v7,v8,v9,rfl⟩,hS2⟩
 refine zk4 (fun D1 hD1=>?_)
 have ib:i<31:=by
  have:(if (if ((ns.map V.int).length:Int)<4 then ((ns.map V.int).length:Int) else 4) > 1 then (if ((ns.map V.int).length:Int)<4 then ((ns.map V.int).length:Int) else 4) else 1)≤30:=by split<;>split<;>lia
  lia
 clear hi
 refine zaM (fun Da hDa=>?_)
 refine⟨_,rfl,_,rfl,a,ns,_,rfl,hS2,h63,by lia,by lia,fun l H3 hl s3 S3=>hDa _ _ ?_⟩
 clear hDa
 refine zaM (fun Db hDb=>?_)
 refine⟨_,rfl,_,rfl,(by show 6≤sizeLine;decide),fun q hq=>?_⟩
 have s3':=zaa hq (.lst [.int 1,.int 2,.int 3,.int 4,.int 6,.int 8])
 refine⟨l,q,_,rfl,S3.keep s3',(S3.ne hq).symm,zab,by show 0<6;decide,by show 6≤100000;decide,fun n x H4 hx S4 B4=>?_⟩
 obtain⟨lanes,rfl,la1,la6⟩:∃ m:Nat,x=.int m∧1≤m∧m≤8:=by
  have il:n<6:=(List.getElem?_eq_some_iff.mp hx).1
  rcases n with _|_|_|_|_|_|n
  ·exact⟨1,(Option.some.inj hx).symm,by decide,by decide⟩
  ·exact⟨2,(Option.some.inj hx).symm,by decide,by decide⟩
  ·exact⟨3,(Option.some.inj hx).symm,by decide,by decide⟩
  ·exact⟨4,(Option.some.inj hx).symm,by decide,by decide⟩
  ·exact⟨6,(Option.some.inj hx).symm,by decide,by decide⟩
  ·exact⟨8,(Option.some.inj hx).symm,by decide,by decide⟩
  ·lia
 refine⟨l,lanes,rfl,S4,la1,by lia,fun r0 fr0 er0 ps0 N0 H5 ok0 eN0 fN0 na0 S5 B5=>hDb _ _ ?_⟩
 clear hDb
 have b35:But l H3 H5:=(But.of s3').trans (B4.trans B5)
 clear s3' B4 B5
 refine zaM (fun Dc hDc=>?_)
 have rest:∀ r fr er ps N H6,Fit N→NetAt H6 r fr er ps N→PkAt H6 l→But l H3 H6→Dc.nx [some (.ref a),some (.int (0+(i:Nat))),some (.ref l),some (.ref r),v4,v5,v6,v7,v8,v9] H6:=fun r fr er ps N H6 fit na6 S6 b36=>hDc _ _ ?_
 ·clear hDc
  refine⟨_,rfl,l,_,rfl,by decide,by decide,S5,fun v H6 hv S6 B6=>?_⟩
  have na6:=na0.tups (B6.tups S5)
  refine⟨rfl,_,rfl,?_⟩
  by_cases z:v=0
  ·rw[show decide (V.int (v:Int)=V.int 0)=true from decide_eq_true (by rw[z];rfl)]
   refine iteT ?_
   refine⟨_,rfl,3,rfl,by decide,fun r1 fr1 er1 ps1 H7 s7 na1=>⟨3,rfl,by decide,fun r2 fr2 er2 ps2 H8 s8 na2=>⟨2,rfl,by decide,fun r3 fr3 er3 ps3 H9 s9 na3=>⟨3,rfl,by decide,fun r4 fr4 er4 ps4 H10 s10 na4=>⟨(by show 4≤sizeLine;decide),fun q hq=>?_⟩⟩⟩⟩⟩
   have sq:=zaa hq (.lst [.ref r1,.ref r2,.ref r3,.ref r4])
   have s6q:=s7.trans (s8.trans (s9.trans s10))
   have Sq:=S6.keep s6q
   refine⟨l,q,_,rfl,Sq.keep sq,(Sq.ne hq).symm,zab,by show 0<4;decide,by show 4≤100000;decide,fun n x H11 hx S11 B11=>?_⟩
   have tp:=(Tups.of sq).trans (B11.tups (Sq.keep sq))
   have b11:=b35.trans (B6.trans ((But.of (s6q.trans sq)).trans B11))
   have il:n<4:=(List.getElem?_eq_some_iff.mp hx).1
   rcases n with _|_|_|_|n
   ·obtain rfl:=Option.some.inj hx
    exact rest r1 _ _ _ _ H11 zlz (na1.tups ((Tups.of (s8.trans (s9.trans s10))).trans tp)) S11 b11
   ·obtain rfl:=Option.some.inj hx
    exact rest r2 _ _ _ _ H11 zlA (na2.tups ((Tups.of (s9.trans s10)).trans tp)) S11 b11
   ·obtain rfl:=Option.some.inj hx
    exact rest r3 _ _ _ _ H11 zlB (na3.tups ((Tups.of s10).trans tp)) S11 b11
   ·obtain rfl:=Option.some.inj hx
    exact rest r4 _ _ _ _ H11 zly (na4.tups tp) S11 b11
   ·lia
  ·rw[show decide (V.int (v:Int)=V.int 0)=false from decide_eq_false (fun y=>z (by have:=V.int.inj y;lia))]
   exact iteF (rest r0 fr0 er0 ps0 N0 H6 ⟨ok0,by lia,by lia⟩ na6 S6 (b35.trans B6))
 clear hDc na0 S5 b35
 have ok:=fit.ok
 have l8:=fit.l8
 have f36:=fit.f36
 have lp1:=ok.l1
 refine zaM (fun Dd hDd=>?_)
 refine⟨_,rfl,l,_,rfl,by decide,by decide,S6,fun v H7 hv S7 B7=>⟨_,rfl,by lia,by lia,fun lp hlp=>?_⟩⟩
 have na7:=na6.tups (B7.tups S6)
 have b37:=b36.trans B7
 have lpl:lp≠l:=(S7.ne hlp).symm
 have frs:∀ b o,H3 b=some o→b≠l→b≠lp:=fun b o e n=>zac (b37 b o e n) hlp
 have sp7:=zaa hlp (.lst [])
 refine zfl (lo:=0) (n:=((v:Nat):Int).toNat) (fun j acc σ H8=>(∃ v0,σ=[v0,some (.ref l),some (.ref r)])∧PkAt H8 l∧But l H3 H8∧NetAt H8 r fr er ps N∧H8 lp=some (.lst acc)∧∃ ds,Dds H8 acc ds∧ds.length=j∧∀ d∈ds,∃ lane m,d=.put lane m∧lane<N.lanes∧m≠0∧-(10 ^ 29)<m∧m<10 ^ 29)
  ⟨⟨_,rfl⟩,S7.keep sp7,b37.trans (But.of sp7),na7.tups (Tups.of sp7),zab,[],trivial,rfl,fun d hd=>by simp at hd⟩ (fun j acc σ H8 z=>z.2.2.2.2.1) ?_ ?_
 ·rintro j acc σ H8 hj ⟨⟨v0,rfl⟩,S8,b38,na8,h8,ds,dx,dl,dp⟩
  have j10:j<10:=by lia
  have al:=dx.len
  refine⟨_,rfl,_,rfl,r,_,_,_,rfl,rfl,SqT.of na8.net,rfl,l,_,rfl,by lia,by lia,S8,fun lane H9 hl9 S9 B9=>?_⟩
  refine⟨_,rfl,l,rfl,S9,fun m H10 m0 m1 m2 S10 B10=>⟨(by show 3≤sizeLine;decide),fun t ht=>?_⟩⟩
  have st:=zaa ht (.tup [.str "put",.int lane,.int m])
  have h10:=st _ _ (B10 _ _ (B9 _ _ h8 lpl) lpl)
  have tp:=((B9.tups S8).trans (B10.tups S9)).trans (Tups.of st)
  have tq:=tp.trans (Tups.lst (ys:=acc++[.ref t]) h10)
  refine⟨h10,by rw[sizeLine_eq];lia,nx hj ⟨⟨_,rfl⟩,(S10.keep st).upd lpl.symm,?_,na8.tups tq,zab,ds++[.put lane m],(dx.tups tq).snoc (d:=.put lane m) (Tups.lst h10 _ _ (atNew ht _)),by rw[List.length_append,dl];rfl,fun d hd=>?_⟩⟩
  ·exact(b38.trans (B9.trans (B10.trans (But.of st)))).upd frs
  ·rcases List.mem_append.mp hd with z|z
   ·exact dp d z
   ·rw[List.mem_singleton.mp z]
    exact⟨lane,m,rfl,by lia,m0,m1,m2⟩
 rintro acc σ H8 ⟨⟨v0,rfl⟩,S8,b38,na8,h8,ds,dx,dl,dp⟩
 refine hDd _ _ ?_
 clear hDd sp7 frs hlp b37 na7 B7 S7
 have d9:ds.length≤9:=by lia
 have al:=dx.len
 refine zaM (fun De hDe=>?_)
 refine⟨_,rfl,_,rfl,lp,_,rfl,.inl ⟨SqL.of h8,fun tq htq=>?_⟩⟩
 have s9:=zaa htq (.tup acc)
 refine⟨r,fr,er,ps,N,tq,acc,ds,rfl,ok,na8.tups (Tups.of s9),zab,dx.tups (Tups.of s9),fun d hd=>by obtain⟨lane,m,rfl,z⟩:=dp d hd;exact z,fun c H10 s10 hc=>hDe _ _ ?_⟩
 clear hDe
 have s910:=s9.trans s10
 have S10:=S8.keep s910
 have b310:=b38.trans (But.of s910)
 have na10:=na8.tups (Tups.of s910)
 have h10:=s910 _ _ h8
 have dx10:=dx.tups (Tups.of s910)
 have pc:=zff N ds
 clear s9 s10 htq s910 b38 na8 h8 dx S8
 refine zaM (fun Df hDf=>?_)
 refine⟨_,rfl,by decide,by decide,?_⟩
 refine zaT (lo:=0) (fun j σ H11=>∃ w6 w7 w8 w9,σ=[some (.ref a),some (.int (0+(i:Nat))),some (.ref l),some (.ref r),some (.ref lp),some (.ref c),w6,w7,w8,w9]∧PkAt H11 l∧But l H3 H11∧NetAt H11 r fr er ps N∧H11 lp=some (.lst acc)∧Dds H11 acc ds∧H11 c=some (.tup ((putC N ds).map V.int)))
  ⟨_,_,_,_,rfl,S10,b310,na10,h10,dx10,hc⟩ ?_ ?_
 ·rintro j σ H11 hj ⟨w6,w7,w8,w9,rfl,S11,b11,na11,h11,dx11,hc11⟩
  refine zk4 (fun D2 hD2=>?_)
  refine zaM (fun Dg hDg=>?_)
  refine⟨_,rfl,_,rfl,_,rfl,_,rfl,l,lp,acc,rfl,S11,lpl,h11,by lia,fun lz ys H12 pm hz0 hz S12 B12=>?_⟩
  have t12:=B12.tups S11
  obtain⟨es,dy,pe⟩:=(dx11.tups t12).perm pm
  have ee:putC N es=putC N ds:=zgQ pe N
  refine⟨l,r,fr,er,ps,N,lz,ys,es,rfl,S12,(S11.ne hz0).symm,ok,na11.tups t12,hz,dy,fun d hd=>dp d (pe.mem_iff.mp hd),by rw[pe.length_eq];exact d9,f36,l8,fun sA tA gA oA H13 S13 B13 sa=>hDg _ _ ?_⟩
  clear hDg
  rw[ee]at sa
  have B23:=B12.trans B13
  have t13:=B23.tups S11
  have na13:=na11.tups t13
  have hc13:=t13 _ _ hc11
  have h13:=B23 _ _ h11 lpl
  refine⟨_,rfl,sA,tA,gA,oA,_,_,_,_,rfl,sa,_,_,rfl,rfl,_,rfl,iteF ?_⟩
  refine⟨_,rfl,_,rfl,_,rfl,r,fr,er,ps,N,c,_,rfl,ok,na13,hc13,pc,fun tB H14 s14 htB=>?_⟩
  refine⟨Nat.zero_le _,fun e he=>?_⟩
  have se:=zaa he (.tup [])
  have s1e:=s14.trans se
  refine⟨_,rfl,_,rfl,r,fr,er,ps,N,c,_,rfl,ok,na13.tups (Tups.of s1e),s1e _ _ hc13,pc,fun oB H15 s15 hoB=>⟨(by show 3≤sizeLine;decide),fun q hq=>?_⟩⟩
  have sq:=zaa hq (.tup [.ref tB,.ref e,.ref oB])
  have s1q:=s1e.trans (s15.trans sq)
  have saq:=sa.tups (Tups.of s1q)
  have sb:SceneAt _ q tB e oB [] (zai N (putC N ds)) [] (zau N (putC N ds)):=⟨zab,(se.trans (s15.trans sq)) _ _ htB,(s15.trans sq) _ _ zab,trivial,sq _ _ hoB⟩
  refine⟨2,sA,q,_,_,by decide,rfl,rfl,SqT.of saq.sc,SqT.of zab,rfl,deqS saq sb,_,rfl,iteF (hD2 _ _ ?_)⟩
  exact⟨_,_,_,_,rfl,S13.keep s1q,b11.trans (B23.trans (But.of s1q)),na13.tups (Tups.of s1q),s1q _ _ h13,dx11.tups (t13.trans (Tups.of s1q)),s1q _ _ hc13⟩
 rintro σ H11 ⟨w6,w7,w8,w9,rfl,S11,b11,na11,h11,dx11,hc11⟩
 refine hDf _ _ ?_
 clear hDf S10 b310 na10 h10 dx10 hc
 refine zaM (fun Dg hDg=>?_)
 refine⟨_,rfl,r,_,_,_,rfl,rfl,SqT.of na11.net,rfl,_,rfl,by lia,by lia,fun lf hlf=>?_⟩
 have lfl:lf≠l:=(S11.ne hlf).symm
 have frs:∀ b o,H3 b=some o→b≠l→b≠lf:=fun b o e n=>zac (b11 b o e n) hlf
 have sf:=zaa hlf (.lst [])
 refine zfl (lo:=0) (n:=((N.lanes:Nat):Int).toNat) (fun j acc σ H12=>(∃ v0,σ=[v0,some (.ref l)])∧PkAt H12 l∧But l H3 H12∧NetAt H12 r fr er ps N∧H12 lf=some (.lst acc)∧∃ cs:List Int,acc=cs.map V.int∧cs.length=j∧∀ x∈cs,x.natAbs≤4)
  ⟨⟨_,rfl⟩,S11.keep sf,b11.trans (But.of sf),na11.tups (Tups.of sf),zab,[],rfl,rfl,fun x hx=>by simp at hx⟩ (fun j acc σ H12 z=>z.2.2.2.2.1) ?_ ?_
 ·rintro j acc σ H12 hj ⟨⟨v0,rfl⟩,S12,b12,na12,h12,cs,rfl,cl,c4⟩
  refine⟨_,rfl,l,_,rfl,by decide,by decide,S12,fun v H13 hv S13 B13=>⟨_,_,rfl,rfl,?_⟩⟩
  have h13:=B13 _ _ h12 lfl
  have t13:=B13.tups S12
  refine⟨h13,by rw[List.length_map,sizeLine_eq];lia,nx hj ⟨⟨_,rfl⟩,S13.upd lfl.symm,(b12.trans B13).upd frs,na12.tups (t13.trans (Tups.lst h13)),zab,cs++[(v:Int)-2],by rw[List.map_append];rfl,by rw[List.length_append,cl];rfl,fun x hx=>?_⟩⟩
  rcases List.mem_append.mp hx with z|z
  ·exact c4 x z
  ·rw[List.mem_singleton.mp z];lia
 rintro acc σ H12 ⟨⟨v0,rfl⟩,S12,b12,na12,h12,cs,rfl,cl,c4⟩
 have cl':cs.length=N.lanes:=by lia
 refine⟨lf,_,rfl,.inl ⟨SqL.of h12,fun t ht=>hDg _ _ ?_⟩⟩
 clear hDg frs sf
 have st:=zaa ht (.tup (cs.map V.int))
 have S13:=S12.keep st
 have na13:=na12.tups (Tups.of st)
 have b13:=b12.trans (But.of st)
 have h13:=zab (H:=H12) (a:=t) (o:=.tup (cs.map V.int))
 generalize upd H12 t (.tup (cs.map V.int))=H13 at S13 na13 b13 h13 ⊢
 clear st ht S12 na12 b12 h12
 refine zaM (fun Dh hDh=>?_)
 refine⟨_,rfl,_,rfl,_,rfl,l,r,fr,er,ps,N,t,cs,rfl,S13,ok,na13,h13,cl',c4,fun p tA eA H14 S14 B14 hp htA heA=>hDh _ _ ?_⟩
 clear hDh
 have t14:=B14.tups S13
 have na14:=na13.tups t14
 have h14:=t14 _ _ h13
 refine⟨_,rfl,_,rfl,_,rfl,r,fr,er,ps,N,t,cs,rfl,ok,na14,h14,cl',fun tB H15 s15 htB=>?_⟩
 refine⟨_,rfl,_,rfl,r,fr,er,ps,N,t,cs,rfl,ok,na14.tups (Tups.of s15),s15 _ _ h14,cl',fun eB H16 s16 heB=>⟨(by show 2≤sizeLine;decide),fun q hq=>?_⟩⟩
 have sq:=zaa hq (.tup [.ref tB,.ref eB])
 have s4q:=s15.trans (s16.trans sq)
 refine⟨2,p,q,_,_,by decide,rfl,rfl,SqT.of (s4q _ _ hp),SqT.of zab,rfl,fun i u v hu hv=>?_,_,rfl,iteF ?_⟩
 ·have il:=(List.getElem?_eq_some_iff.mp hu).1
  simp only[List.length_cons,List.length_nil]at il
  rcases i with _|_|i
  ·obtain rfl:=Option.some.inj hu
   obtain rfl:=Option.some.inj hv
   exact deqT (s4q _ _ htA) ((s16.trans sq) _ _ htB)
  ·obtain rfl:=Option.some.inj hu
   obtain rfl:=Option.some.inj hv
   exact deqT (s4q _ _ heA) (sq _ _ heB)
  ·lia
 refine⟨_,rfl,_,rfl,_,rfl,p,_,_,_,rfl,rfl,SqT.of (s4q _ _ hp),rfl,l,r,fr,er,ps,N,tA,zai N cs,rfl,S14.keep s4q,ok,na14.tups (Tups.of s4q),s4q _ _ htA,by unfold zai;exact zav _ _,zbP _ _,fun H17 S17 B17=>?_⟩
 exact⟨_,rfl,iteF (hD1 _ _ ⟨⟨_,_,_,_,_,_,_,_,_,rfl⟩,zi7 hS2 hl s3 (b13.trans (B14.trans ((But.of s4q).trans B17)))⟩)⟩
end
structure FnAt (K:PySem.W.Frag) (x:Str) (st:Stmt) (f:Addr) (fd:FuncData):Prop where
 ns:PySem.W.nsIn K mainGlobals x=some (some (.ref f))
 fn:Fun K x x st f fd
theorem zam {K:PySem.W.Frag}{x:Str}{st:Stmt}{f:Addr}{oc:Value}{od an:Option Addr}{osl:Array (Option Value)}{kV doc pm cdv ct:Value}(a:PySem.W.nsIn K mainGlobals x=some (some (.ref f)))
  (l:K.lookup f=some ⟨oc,od,.func (PySem.W.fnOf x x (zb4 st) (zbz st) (zad st) .none kV doc pm an cdv ct),osl⟩) (c:PySem.W.codeIn K cdv x=true) (k:PySem.W.keepIn K (.ref f)=true):FnAt K x st f (PySem.W.fnOf x x (zb4 st) (zbz st) (zad st) .none kV doc pm an cdv ct):=⟨a,zkS l c k⟩
theorem us1 {us:List Value}(h:us.length=1):∃ u0,us=[u0]:=by
 match us,h with
 | [u0],_=>exact⟨u0,rfl⟩
theorem us2 {us:List Value}(h:us.length=2):∃ u0 u1,us=[u0,u1]:=by
 match us,h with
 | [u0,u1],_=>exact⟨u0,u1,rfl⟩
theorem us3 {us:List Value}(h:us.length=3):∃ u0 u1 u2,us=[u0,u1,u2]:=by
 match us,h with
 | [u0,u1,u2],_=>exact⟨u0,u1,u2,rfl⟩
theorem us4 {us:List Value}(h:us.length=4):∃ u0 u1 u2 u3,us=[u0,u1,u2,u3]:=by
 match us,h with
 | [u0,u1,u2,u3],_=>exact⟨u0,u1,u2,u3,rfl⟩
set_option maxHeartbeats 4000001 in
theorem zk3 {l:PySem.W.OpenLaw}{w:World}{K:PySem.W.Frag}{h:Heap}{mg:Str→Option Value}{fa f1 f2 f3 f4 f5 f6 f7 f8 f9 f10 f11 f12 f13 f14 f15 f16 f17 f18 f19 f20 f21 f22 f23 f24 f25 f26 f27 f28 f29 f30 f31 f32 f33 f34 f35 f36 f37 f38 f39 f40 f41 f42 f43 f44 f45 f46 f47 f48 f49 f50 f51 f52 f53:Addr}{d1 d2 d3 d4 d5 d6 d7 d8 d9 d10 d11 d12 d13 d14 d15 d16 d17 d18 d19 d20 d21 d22 d23 d24 d25 d26 d27 d28 d29 d30 d31 d32 d33 d34 d35 d36 d37 d38 d39 d40 d41 d42 d43 d44 d45 d46 d47 d48 d49 d50 d51 d52 d53:FuncData}(X:K.In h) (G:h.Ns mainGlobals mg) (hfa:mg "law" = some (.ref fa))
  (A1:FnAt K "_law_cell_at" zjp f1 d1)
  (A2:FnAt K "_law_left" zjl f2 d2)
  (A3:FnAt K "_law_pick" zjh f3 d3)
  (A4:FnAt K "_law_of" sOf f4 d4)
  (A5:FnAt K "_law_placed" zev f5 d5)
  (A6:FnAt K "_law_net" sNet f6 d6)
  (A7:FnAt K "_law_many" zgG f7 d7)
  (A8:FnAt K "is_whole" zgx f8 d8)
  (A9:FnAt K "is_below" zgJ f9 d9)
  (A10:FnAt K "has_few_figures" sFew f10 d10)
  (A11:FnAt K "is_row" zgH f11 d11)
  (A12:FnAt K "is_word" zje f12 d12)
  (A13:FnAt K "is_place" zgD f13 d13)
  (A14:FnAt K "is_many" zjk f14 d14)
  (A15:FnAt K "is_deed" zjo f15 d15)
  (A16:FnAt K "next_fork" zjj f16 d16)
  (A17:FnAt K "begun" zgK f17 d17)
  (A18:FnAt K "put_behind" zjg f18 d18)
  (A19:FnAt K "end_of" sEnd f19 d19)
  (A20:FnAt K "given_at" zgI f20 d20)
  (A21:FnAt K "added" zgL f21 d21)
  (A22:FnAt K "parted" zex f22 d22)
  (A23:FnAt K "stepped" zdm f23 d23)
  (A24:FnAt K "joined" zeA f24 d24)
  (A25:FnAt K "done" zjn f25 d25)
  (A26:FnAt K "layers" zez f26 d26)
  (A27:FnAt K "plain" zgC f27 d27)
  (A28:FnAt K "power_of_two" sPow f28 d28)
  (A29:FnAt K "row_of" zgA f29 d29)
  (A30:FnAt K "net_of" zdn f30 d30)
  (A31:FnAt K "flowed" zeB f31 d31)
  (A32:FnAt K "ends_of" zjm f32 d32)
  (A33:FnAt K "turns_of" zgy f33 d33)
  (A34:FnAt K "run_through" sRun f34 d34)
  (A35:FnAt K "passed" zew f35 d35)
  (A36:FnAt K "passed_back" zjq f36 d36)
  (A37:FnAt K "by_turns" sBy f37 d37)
  (A38:FnAt K "block_of" zfb f38 d38)
  (A39:FnAt K "rounds" zeu f39 d39)
  (A40:FnAt K "tree_of" zcw f40 d40)
  (A41:FnAt K "tree" zjf f41 d41)
  (A42:FnAt K "merger_of" zbJ f42 d42)
  (A43:FnAt K "merger" zey f43 d43)
  (A44:FnAt K "stairway_of" zbI f44 d44)
  (A45:FnAt K "stairway" zcx f45 d45)
  (A46:FnAt K "is_still" zgz f46 d46)
  (A47:FnAt K "put_in" zgB f47 d47)
  (A48:FnAt K "_law_next" zgF f48 d48)
  (A49:FnAt K "_law_out" zji f49 d49)
  (A50:FnAt K "_law_woven" zes f50 d50)
  (A51:FnAt K "_law_one_by_one" zgE f51 d51)
  (A52:FnAt K "_law_undone" zet f52 d52)
  (A53:FnAt K "law" sLaw f53 d53)
  (z1:PySem.W.nsIn K mainGlobals "len" = some none)
  (z2:PySem.W.nsIn K mainGlobals "range" = some none)
  (z3:PySem.W.nsIn K mainGlobals "tuple" = some none)
  (z4:PySem.W.nsIn K mainGlobals "enumerate" = some none)
  (z5:PySem.W.nsIn K mainGlobals "abs" = some none)
  (z6:PySem.W.nsIn K mainGlobals "zip" = some none)
  (z7:PySem.W.nsIn K mainGlobals "isinstance" = some none)
  (z8:PySem.W.nsIn K mainGlobals "all" = some none)
  (z9:PySem.W.nsIn K mainGlobals "sum" = some none)
  (z10:PySem.W.nsIn K mainGlobals "bool" = some none)
  (z11:PySem.W.nsIn K mainGlobals "int" = some none)
  (z12:PySem.W.nsIn K mainGlobals "str" = some none)
  (z13:PySem.W.nsIn K mainGlobals "max" = some none)
  (z14:PySem.W.nsIn K mainGlobals "min" = some none)
  (z15:PySem.W.nsIn K mainGlobals "sorted" = some none)
  (z16:PySem.W.nsIn K mainGlobals "list" = some none)
  (zd:PySem.W.nsIn K cStatics "sys.int_max_str_digits" = some none)
  : ∃ fd:FuncData,(∀ (s:Shared) (v:Value),BindsTo s fd ⟨[v],[]⟩ [("_law_script",v)])∧∀ base:Heap,K.In base→base.Ns mainGlobals mg→FnOk l.prog w K mg base CX0 13 fa fd ["_law_script"] (zhS K):=by
 have e:=hfa.symm.trans (PySem.W.mg_of X G A53.ns)
 cases e
 have M:Mgs mg:=⟨PySem.W.mg_none_of X G z1,PySem.W.mg_none_of X G z2,PySem.W.mg_none_of X G z3,PySem.W.mg_none_of X G z4,PySem.W.mg_none_of X G z5,PySem.W.mg_none_of X G z6,PySem.W.mg_none_of X G z7,PySem.W.mg_none_of X G z8,PySem.W.mg_none_of X G z9,PySem.W.mg_none_of X G z10,PySem.W.mg_none_of X G z11,PySem.W.mg_none_of X G z12,PySem.W.mg_none_of X G z13,PySem.W.mg_none_of X G z14,PySem.W.mg_none_of X G z15,PySem.W.mg_none_of X G z16⟩
 have b1:=A1.fn.binds (ps:=["_law_script","_law_k"]) fun _ _ _ _ _ _ us hl=>by obtain⟨u0,u1,rfl⟩:=us2 hl;rfl
 have m1:=PySem.W.mg_of X G A1.ns
 have b2:=A2.fn.binds (ps:=["_law_script","_law_k"]) fun _ _ _ _ _ _ us hl=>by obtain⟨u0,u1,rfl⟩:=us2 hl;rfl
 have m2:=PySem.W.mg_of X G A2.ns
 have b3:=A3.fn.binds (ps:=["_law_left_here","_law_many_here"]) fun _ _ _ _ _ _ us hl=>by obtain⟨u0,u1,rfl⟩:=us2 hl;rfl
 have m3:=PySem.W.mg_of X G A3.ns
 have b4:=A4.fn.binds (ps:=["_law_left_here","_law_some"]) fun _ _ _ _ _ _ us hl=>by obtain⟨u0,u1,rfl⟩:=us2 hl;rfl
 have m4:=PySem.W.mg_of X G A4.ns
 have b5:=A5.fn.binds (ps:=["_law_left_here","_law_some"]) fun _ _ _ _ _ _ us hl=>by obtain⟨u0,u1,rfl⟩:=us2 hl;rfl
 have m5:=PySem.W.mg_of X G A5.ns
 have b6:=A6.fn.binds (ps:=["_law_left_here","_law_lanes","_law_most"]) fun _ _ _ _ _ _ us hl=>by obtain⟨u0,u1,u2,rfl⟩:=us3 hl;rfl
 have m6:=PySem.W.mg_of X G A6.ns
 have b7:=A7.fn.binds (ps:=["_law_left_here"]) fun _ _ _ _ _ _ us hl=>by obtain⟨u0,rfl⟩:=us1 hl;rfl
 have m7:=PySem.W.mg_of X G A7.ns
 have b8:=A8.fn.binds (ps:=["thing"]) fun _ _ _ _ _ _ us hl=>by obtain⟨u0,rfl⟩:=us1 hl;rfl
 have m8:=PySem.W.mg_of X G A8.ns
 have b9:=A9.fn.binds (ps:=["thing","bound"]) fun _ _ _ _ _ _ us hl=>by obtain⟨u0,u1,rfl⟩:=us2 hl;rfl
 have m9:=PySem.W.mg_of X G A9.ns
 have b10:=A10.fn.binds (ps:=["thing"]) fun _ _ _ _ _ _ us hl=>by obtain⟨u0,rfl⟩:=us1 hl;rfl
 have m10:=PySem.W.mg_of X G A10.ns
 have b11:=A11.fn.binds (ps:=["thing","many"]) fun _ _ _ _ _ _ us hl=>by obtain⟨u0,u1,rfl⟩:=us2 hl;rfl
 have m11:=PySem.W.mg_of X G A11.ns
 have b12:=A12.fn.binds (ps:=["thing","word"]) fun _ _ _ _ _ _ us hl=>by obtain⟨u0,u1,rfl⟩:=us2 hl;rfl
 have m12:=PySem.W.mg_of X G A12.ns
 have b13:=A13.fn.binds (ps:=["thing"]) fun _ _ _ _ _ _ us hl=>by obtain⟨u0,rfl⟩:=us1 hl;rfl
 have m13:=PySem.W.mg_of X G A13.ns
 have b14:=A14.fn.binds (ps:=["thing"]) fun _ _ _ _ _ _ us hl=>by obtain⟨u0,rfl⟩:=us1 hl;rfl
 have m14:=PySem.W.mg_of X G A14.ns
 have b15:=A15.fn.binds (ps:=["net","thing"]) fun _ _ _ _ _ _ us hl=>by obtain⟨u0,u1,rfl⟩:=us2 hl;rfl
 have m15:=PySem.W.mg_of X G A15.ns
 have b16:=A16.fn.binds (ps:=["net","lane","number"]) fun _ _ _ _ _ _ us hl=>by obtain⟨u0,u1,u2,rfl⟩:=us3 hl;rfl
 have m16:=PySem.W.mg_of X G A16.ns
 have b17:=A17.fn.binds (ps:=["net"]) fun _ _ _ _ _ _ us hl=>by obtain⟨u0,rfl⟩:=us1 hl;rfl
 have m17:=PySem.W.mg_of X G A17.ns
 have b18:=A18.fn.binds (ps:=["net","scene","lane","many"]) fun _ _ _ _ _ _ us hl=>by obtain⟨u0,u1,u2,u3,rfl⟩:=us4 hl;rfl
 have m18:=PySem.W.mg_of X G A18.ns
 have b19:=A19.fn.binds (ps:=["net","lane"]) fun _ _ _ _ _ _ us hl=>by obtain⟨u0,u1,rfl⟩:=us2 hl;rfl
 have m19:=PySem.W.mg_of X G A19.ns
 have b20:=A20.fn.binds (ps:=["row","place","value"]) fun _ _ _ _ _ _ us hl=>by obtain⟨u0,u1,u2,rfl⟩:=us3 hl;rfl
 have m20:=PySem.W.mg_of X G A20.ns
 have b21:=A21.fn.binds (ps:=["counts","place","many"]) fun _ _ _ _ _ _ us hl=>by obtain⟨u0,u1,u2,rfl⟩:=us3 hl;rfl
 have m21:=PySem.W.mg_of X G A21.ns
 have b22:=A22.fn.binds (ps:=["net","turn","many","number"]) fun _ _ _ _ _ _ us hl=>by obtain⟨u0,u1,u2,u3,rfl⟩:=us4 hl;rfl
 have m22:=PySem.W.mg_of X G A22.ns
 have b23:=A23.fn.binds (ps:=["net","scene","place"]) fun _ _ _ _ _ _ us hl=>by obtain⟨u0,u1,u2,rfl⟩:=us3 hl;rfl
 have m23:=PySem.W.mg_of X G A23.ns
 have b24:=A24.fn.binds (ps:=["scene","first","second"]) fun _ _ _ _ _ _ us hl=>by obtain⟨u0,u1,u2,rfl⟩:=us3 hl;rfl
 have m24:=PySem.W.mg_of X G A24.ns
 have b25:=A25.fn.binds (ps:=["net","scene","deed"]) fun _ _ _ _ _ _ us hl=>by obtain⟨u0,u1,u2,rfl⟩:=us3 hl;rfl
 have m25:=PySem.W.mg_of X G A25.ns
 have b26:=A26.fn.binds (ps:=["net"]) fun _ _ _ _ _ _ us hl=>by obtain⟨u0,rfl⟩:=us1 hl;rfl
 have m26:=PySem.W.mg_of X G A26.ns
 have b27:=A27.fn.binds (ps:=["net"]) fun _ _ _ _ _ _ us hl=>by obtain⟨u0,rfl⟩:=us1 hl;rfl
 have m27:=PySem.W.mg_of X G A27.ns
 have b28:=A28.fn.binds (ps:=["many"]) fun _ _ _ _ _ _ us hl=>by obtain⟨u0,rfl⟩:=us1 hl;rfl
 have m28:=PySem.W.mg_of X G A28.ns
 have b29:=A29.fn.binds (ps:=["k"]) fun _ _ _ _ _ _ us hl=>by obtain⟨u0,rfl⟩:=us1 hl;rfl
 have m29:=PySem.W.mg_of X G A29.ns
 have b30:=A30.fn.binds (ps:=["row","made"]) fun _ _ _ _ _ _ us hl=>by obtain⟨u0,u1,rfl⟩:=us2 hl;rfl
 have m30:=PySem.W.mg_of X G A30.ns
 have b31:=A31.fn.binds (ps:=["net","counts"]) fun _ _ _ _ _ _ us hl=>by obtain⟨u0,u1,rfl⟩:=us2 hl;rfl
 have m31:=PySem.W.mg_of X G A31.ns
 have b32:=A32.fn.binds (ps:=["net","counts"]) fun _ _ _ _ _ _ us hl=>by obtain⟨u0,u1,rfl⟩:=us2 hl;rfl
 have m32:=PySem.W.mg_of X G A32.ns
 have b33:=A33.fn.binds (ps:=["net","counts"]) fun _ _ _ _ _ _ us hl=>by obtain⟨u0,u1,rfl⟩:=us2 hl;rfl
 have m33:=PySem.W.mg_of X G A33.ns
 have b34:=A34.fn.binds (ps:=["net","turns","lane","back"]) fun _ _ _ _ _ _ us hl=>by obtain⟨u0,u1,u2,u3,rfl⟩:=us4 hl;rfl
 have m34:=PySem.W.mg_of X G A34.ns
 have b35:=A35.fn.binds (ps:=["net","turns","lane"]) fun _ _ _ _ _ _ us hl=>by obtain⟨u0,u1,u2,rfl⟩:=us3 hl;rfl
 have m35:=PySem.W.mg_of X G A35.ns
 have b36:=A36.fn.binds (ps:=["net","turns","lane"]) fun _ _ _ _ _ _ us hl=>by obtain⟨u0,u1,u2,rfl⟩:=us3 hl;rfl
 have m36:=PySem.W.mg_of X G A36.ns
 have b37:=A37.fn.binds (ps:=["one","other"]) fun _ _ _ _ _ _ us hl=>by obtain⟨u0,u1,rfl⟩:=us2 hl;rfl
 have m37:=PySem.W.mg_of X G A37.ns
 have b38:=A38.fn.binds (ps:=["row"]) fun _ _ _ _ _ _ us hl=>by obtain⟨u0,rfl⟩:=us1 hl;rfl
 have m38:=PySem.W.mg_of X G A38.ns
 have b39:=A39.fn.binds (ps:=["k"]) fun _ _ _ _ _ _ us hl=>by obtain⟨u0,rfl⟩:=us1 hl;rfl
 have m39:=PySem.W.mg_of X G A39.ns
 have b40:=A40.fn.binds (ps:=["row"]) fun _ _ _ _ _ _ us hl=>by obtain⟨u0,rfl⟩:=us1 hl;rfl
 have m40:=PySem.W.mg_of X G A40.ns
 have b41:=A41.fn.binds (ps:=["k"]) fun _ _ _ _ _ _ us hl=>by obtain⟨u0,rfl⟩:=us1 hl;rfl
 have m41:=PySem.W.mg_of X G A41.ns
 have b42:=A42.fn.binds (ps:=["one","other"]) fun _ _ _ _ _ _ us hl=>by obtain⟨u0,u1,rfl⟩:=us2 hl;rfl
 have m42:=PySem.W.mg_of X G A42.ns
 have b43:=A43.fn.binds (ps:=["k"]) fun _ _ _ _ _ _ us hl=>by obtain⟨u0,rfl⟩:=us1 hl;rfl
 have m43:=PySem.W.mg_of X G A43.ns
 have b44:=A44.fn.binds (ps:=["row"]) fun _ _ _ _ _ _ us hl=>by obtain⟨u0,rfl⟩:=us1 hl;rfl
 have m44:=PySem.W.mg_of X G A44.ns
 have b45:=A45.fn.binds (ps:=["k"]) fun _ _ _ _ _ _ us hl=>by obtain⟨u0,rfl⟩:=us1 hl;rfl
 have m45:=PySem.W.mg_of X G A45.ns
 have b46:=A46.fn.binds (ps:=["scene"]) fun _ _ _ _ _ _ us hl=>by obtain⟨u0,rfl⟩:=us1 hl;rfl
 have m46:=PySem.W.mg_of X G A46.ns
 have b47:=A47.fn.binds (ps:=["net","deeds"]) fun _ _ _ _ _ _ us hl=>by obtain⟨u0,u1,rfl⟩:=us2 hl;rfl
 have m47:=PySem.W.mg_of X G A47.ns
 have b48:=A48.fn.binds (ps:=["_law_left_here","_law_scene","_law_turn"]) fun _ _ _ _ _ _ us hl=>by obtain⟨u0,u1,u2,rfl⟩:=us3 hl;rfl
 have m48:=PySem.W.mg_of X G A48.ns
 have b49:=A49.fn.binds (ps:=["_law_left_here","_law_net_here","_law_scene"]) fun _ _ _ _ _ _ us hl=>by obtain⟨u0,u1,u2,rfl⟩:=us3 hl;rfl
 have m49:=PySem.W.mg_of X G A49.ns
 have b50:=A50.fn.binds (ps:=["_law_left_here","_law_net_here","_law_puts"]) fun _ _ _ _ _ _ us hl=>by obtain⟨u0,u1,u2,rfl⟩:=us3 hl;rfl
 have m50:=PySem.W.mg_of X G A50.ns
 have b51:=A51.fn.binds (ps:=["_law_left_here","_law_net_here","_law_counts"]) fun _ _ _ _ _ _ us hl=>by obtain⟨u0,u1,u2,rfl⟩:=us3 hl;rfl
 have m51:=PySem.W.mg_of X G A51.ns
 have b52:=A52.fn.binds (ps:=["_law_left_here","_law_net_here","_law_turns"]) fun _ _ _ _ _ _ us hl=>by obtain⟨u0,u1,u2,rfl⟩:=us3 hl;rfl
 have m52:=PySem.W.mg_of X G A52.ns
 obtain⟨oc,od,kV,doc,pm,an,cdv,ct,osl,ed,_,_⟩:=id A53.fn.ex
 refine⟨d53,fun s v=>by rw[ed];exact .of_eq rfl,fun base _ _=>?_⟩
 have U1:Use l.prog w K mg base "_law_cell_at" ["_law_script","_law_k"] 1 (zgt K) f1 d1:=⟨zjL A1.fn M,b1,A1.fn.kp,m1⟩
 have U2:Use l.prog w K mg base "_law_left" ["_law_script","_law_k"] 2 (zgr K) f2 d2:=⟨zjH A2.fn M zd U1,b2,A2.fn.kp,m2⟩
 have U3:Use l.prog w K mg base "_law_pick" ["_law_left_here","_law_many_here"] 1 zbs f3 d3:=⟨zjD A3.fn,b3,A3.fn.kp,m3⟩
 have U4:Use l.prog w K mg base "_law_of" ["_law_left_here","_law_some"] 2 spOf f4 d4:=⟨zlo A4.fn M U3,b4,A4.fn.kp,m4⟩
 have U5:Use l.prog w K mg base "_law_placed" ["_law_left_here","_law_some"] 2 zbG f5 d5:=⟨zg3 A5.fn M U3,b5,A5.fn.kp,m5⟩
 have U6:Use l.prog w K mg base "_law_net" ["_law_left_here","_law_lanes","_law_most"] 3 (zgp 12) f6 d6:=⟨zkF 12 (by decide) A6.fn M U3 U4 U5,b6,A6.fn.kp,m6⟩
 have U7:Use l.prog w K mg base "_law_many" ["_law_left_here"] 3 zen f7 d7:=⟨zii A7.fn M U3 U4,b7,A7.fn.kp,m7⟩
 have U8:Use l.prog w K mg base "is_whole" ["thing"] 1 (zct K) f8 d8:=⟨zh9 A8.fn M,b8,A8.fn.kp,m8⟩
 have U9:Use l.prog w K mg base "is_below" ["thing","bound"] 2 (zep K) f9 d9:=⟨zil A9.fn M U8,b9,A9.fn.kp,m9⟩
 have U10:Use l.prog w K mg base "has_few_figures" ["thing"] 2 (zi9 K) f10 d10:=⟨zkH A10.fn M U8,b10,A10.fn.kp,m10⟩
 have U11:Use l.prog w K mg base "is_row" ["thing","many"] 1 (zeo K) f11 d11:=⟨zij A11.fn M,b11,A11.fn.kp,m11⟩
 have U12:Use l.prog w K mg base "is_word" ["thing","word"] 1 (zgl K) f12 d12:=⟨zjA A12.fn M,b12,A12.fn.kp,m12⟩
 have U13:Use l.prog w K mg base "is_place" ["thing"] 2 (zel K) f13 d13:=⟨zif A13.fn M U8,b13,A13.fn.kp,m13⟩
 have U14:Use l.prog w K mg base "is_many" ["thing"] 3 (zgq K) f14 d14:=⟨zjG A14.fn M U10,b14,A14.fn.kp,m14⟩
 have U15:Use l.prog w K mg base "is_deed" ["net","thing"] 4 (ze9 K) f15 d15:=⟨zjK A15.fn M U11 U12 U9 U14 U13,b15,A15.fn.kp,m15⟩
 have U16:Use l.prog w K mg base "next_fork" ["net","lane","number"] 1 ze7 f16 d16:=⟨zjF A16.fn M,b16,A16.fn.kp,m16⟩
 have U17:Use l.prog w K mg base "begun" ["net"] 1 zeq f17 d17:=⟨zim A17.fn M,b17,A17.fn.kp,m17⟩
 have U18:Use l.prog w K mg base "put_behind" ["net","scene","lane","many"] 2 zgn f18 d18:=⟨zjC A18.fn M U16,b18,A18.fn.kp,m18⟩
 have U19:Use l.prog w K mg base "end_of" ["net","lane"] 1 zhT f19 d19:=⟨zkI A19.fn,b19,A19.fn.kp,m19⟩
 have U20:Use l.prog w K mg base "given_at" ["row","place","value"] 1 zdk f20 d20:=⟨zik A20.fn M,b20,A20.fn.kp,m20⟩
 have U21:Use l.prog w K mg base "added" ["counts","place","many"] 2 zer f21 d21:=⟨zin A21.fn M U20,b21,A21.fn.kp,m21⟩
 have U22:Use l.prog w K mg base "parted" ["net","turn","many","number"] 2 zdf f22 d22:=⟨zg5 A22.fn M U16,b22,A22.fn.kp,m22⟩
 have U23:Use l.prog w K mg base "stepped" ["net","scene","place"] 3 zcv f23 d23:=⟨zfL A23.fn M U21 U19 U22 U20,b23,A23.fn.kp,m23⟩
 have U24:Use l.prog w K mg base "joined" ["scene","first","second"] 1 zdj f24 d24:=⟨zg8 A24.fn M,b24,A24.fn.kp,m24⟩
 have U25:Use l.prog w K mg base "done" ["net","scene","deed"] 5 ze8 f25 d25:=⟨zjJ A25.fn M U15 U18 U23 U24,b25,A25.fn.kp,m25⟩
 have U48:Use l.prog w K mg base "_law_next" ["_law_left_here","_law_scene","_law_turn"] 2 zdg f48 d48:=⟨zih A48.fn M U3,b48,A48.fn.kp,m48⟩
 have U49:Use l.prog w K mg base "_law_out" ["_law_left_here","_law_net_here","_law_scene"] 6 zgo f49 d49:=⟨zjE A49.fn M U25 U48,b49,A49.fn.kp,m49⟩
 have U50:Use l.prog w K mg base "_law_woven" ["_law_left_here","_law_net_here","_law_puts"] 7 zdc f50 d50:=⟨zg0 A50.fn M U25 U48 U17 U3 U49,b50,A50.fn.kp,m50⟩
 have U26:Use l.prog w K mg base "layers" ["net"] 1 zdi f26 d26:=⟨zg7 A26.fn M,b26,A26.fn.kp,m26⟩
 have U27:Use l.prog w K mg base "plain" ["net"] 2 zek f27 d27:=⟨zie A27.fn M U26,b27,A27.fn.kp,m27⟩
 have U28:Use l.prog w K mg base "power_of_two" ["many"] 1 zi8 f28 d28:=⟨zkE A28.fn M,b28,A28.fn.kp,m28⟩
 have U29:Use l.prog w K mg base "row_of" ["k"] 2 zbY f29 d29:=⟨zic A29.fn M U28,b29,A29.fn.kp,m29⟩
 have U30:Use l.prog w K mg base "net_of" ["row","made"] 3 za1 f30 d30:=⟨zfM A30.fn M U27,b30,A30.fn.kp,m30⟩
 have U38:Use l.prog w K mg base "block_of" ["row"] 5 (zbZ 4) f38 d38:=⟨zfh A38.fn M b38 m38 4,b38,A38.fn.kp,m38⟩
 have U39:Use l.prog w K mg base "rounds" ["k"] 6 zde f39 d39:=⟨zg2 A39.fn U29 U38 U30,b39,A39.fn.kp,m39⟩
 have U37:Use l.prog w K mg base "by_turns" ["one","other"] 1 spBy f37 d37:=⟨zlp A37.fn M,b37,A37.fn.kp,m37⟩
 have U40:Use l.prog w K mg base "tree_of" ["row"] 6 zcu f40 d40:=⟨zfK A40.fn M U37 b40 m40,b40,A40.fn.kp,m40⟩
 have U41:Use l.prog w K mg base "tree" ["k"] 7 zgm f41 d41:=⟨zjB A41.fn U29 U40 U30,b41,A41.fn.kp,m41⟩
 have U42:Use l.prog w K mg base "merger_of" ["one","other"] 6 zaO f42 d42:=⟨zeL A42.fn M U37 b42 m42,b42,A42.fn.kp,m42⟩
 have U43:Use l.prog w K mg base "merger" ["k"] 7 zdh f43 d43:=⟨zg6 A43.fn M U29 U42 U30,b43,A43.fn.kp,m43⟩
 have U44:Use l.prog w K mg base "stairway_of" ["row"] 11 zbX f44 d44:=⟨zeK A44.fn M U42 b44 m44,b44,A44.fn.kp,m44⟩
 have U45:Use l.prog w K mg base "stairway" ["k"] 12 zbW f45 d45:=⟨zeJ A45.fn U29 U44 U30,b45,A45.fn.kp,m45⟩
 have U31:Use l.prog w K mg base "flowed" ["net","counts"] 1 zch f31 d31:=⟨zg9 A31.fn M,b31,A31.fn.kp,m31⟩
 have U32:Use l.prog w K mg base "ends_of" ["net","counts"] 2 zgs f32 d32:=⟨zjI A32.fn M U31,b32,A32.fn.kp,m32⟩
 have U33:Use l.prog w K mg base "turns_of" ["net","counts"] 2 zeh f33 d33:=⟨zia A33.fn M U31,b33,A33.fn.kp,m33⟩
 have U34:Use l.prog w K mg base "run_through" ["net","turns","lane","back"] 2 zhR f34 d34:=⟨zkD A34.fn M U19,b34,A34.fn.kp,m34⟩
 have U35:Use l.prog w K mg base "passed" ["net","turns","lane"] 3 (zb6 false) f35 d35:=⟨zg4 A35.fn U34,b35,A35.fn.kp,m35⟩
 have U36:Use l.prog w K mg base "passed_back" ["net","turns","lane"] 3 (zb6 true) f36 d36:=⟨zjM A36.fn U34,b36,A36.fn.kp,m36⟩
 have U46:Use l.prog w K mg base "is_still" ["scene"] 1 zei f46 d46:=⟨zib A46.fn M,b46,A46.fn.kp,m46⟩
 have U47:Use l.prog w K mg base "put_in" ["net","deeds"] 5 zej f47 d47:=⟨zid A47.fn M U15,b47,A47.fn.kp,m47⟩
 have U51:Use l.prog w K mg base "_law_one_by_one" ["_law_left_here","_law_net_here","_law_counts"] 4 zem f51 d51:=⟨zig A51.fn M U5 U35 U36,b51,A51.fn.kp,m51⟩
 have U52:Use l.prog w K mg base "_law_undone" ["_law_left_here","_law_net_here","_law_turns"] 4 zdd f52 d52:=⟨zg1 A52.fn M U3 U35 U36,b52,A52.fn.kp,m52⟩
 exact zkG A53.fn M U2 U6 U4 U3 U7 U46 U5 U47 U50 U33 U32 U51 U52 U45 U39 U43 U41
theorem walk {l:PySem.W.OpenLaw}{q:Program}{loose:List Str}{XP:(Str→Option Value)→Heap→Prop}{YP:World→Heap→Prop}{d:DefRec}{K:Params→PySem.W.Frag}(hn:l.most=some 63) (hdf:d.params.defaults=[])
  (hY:∀ (w:World) (h:Heap),YP w h→(K w.params).In h)
  (F:∀ (w:World) (mg:Str→Option Value) (fa:Addr) (h:Heap),(K w.params).In h→h.Ns mainGlobals mg→mg d.name=some (.ref fa) →
   ∃ fd:FuncData,(∀ (s:Shared) (u:Value),BindsTo s fd ⟨[u],[]⟩ [("_law_script",u)])∧∀ base:Heap,(K w.params).In base→base.Ns mainGlobals mg→FnOk l.prog w (K w.params) mg base CX0 13 fa fd ["_law_script"] (zhS (K w.params))) :
  PySem.W.WalkO q loose XP YP l.row.toRowW d [] (fun f vs=>PySem.call f vs) :=
 L2.zhM (n:=63) (k:=13) (x:="_law_script") (CX:=CX0) (sp:=zhS) hn (by decide) hdf ⟨rfl,by decide,by decide,rfl⟩ hY F (fun _ _ a ns hl _ hS=>⟨a,ns,rfl,hS,hl,fun _=>rfl⟩) fun _ _ _ _ z=>z
end K83
theorem PySem.W.Fast.tw15015833847390114143:True:=trivial
theorem PySem.W.Fast.tw14679596024910865621:True:=trivial
theorem PySem.W.Fast.tw6781617863498982844:True:=trivial
theorem PySem.W.Fast.tw1760926939893756330:True:=trivial
theorem PySem.W.Fast.tw6412836637406412336:True:=trivial
theorem PySem.W.Fast.tw17969024962396486955:True:=trivial
theorem PySem.W.Fast.tw14230378381445992957:True:=trivial
theorem PySem.W.Fast.tw11418383601912225543:True:=trivial
theorem PySem.W.Fast.tw8014746497122243507:True:=trivial
theorem PySem.W.Fast.tw942108885972838191:True:=trivial
theorem PySem.W.Fast.tw3720261873498678368:True:=trivial
theorem PySem.W.Fast.tw5059518061164504437:True:=trivial
theorem PySem.W.Fast.tw12754618754052758351:True:=trivial
theorem PySem.W.Fast.tw4584095413722555929:True:=trivial
theorem PySem.W.Fast.tw14230753365448484714:True:=trivial
theorem PySem.W.Fast.tw18299462179317730625:True:=trivial
theorem PySem.W.Fast.tw1789518060320764119:True:=trivial
theorem PySem.W.Fast.tw1803261003398257772:True:=trivial
theorem PySem.W.Fast.tw5915876889414508848:True:=trivial
theorem PySem.W.Fast.tw12271980982929368873:True:=trivial
theorem PySem.W.Fast.tw10802094574277749938:True:=trivial
theorem PySem.W.Fast.tw2774182130101790541:True:=trivial
theorem PySem.W.Fast.tw7897938425562326383:True:=trivial
theorem PySem.W.Fast.tw10717461873299431998:True:=trivial
theorem PySem.W.Fast.tw16569244141296911744:True:=trivial
theorem PySem.W.Fast.tw5579140455823137331:True:=trivial
theorem PySem.W.Fast.tw10493975812423500754:True:=trivial
theorem PySem.W.Fast.tw14052037312790928212:True:=trivial
theorem PySem.W.Fast.tw3971537586044058528:True:=trivial
theorem PySem.W.Fast.tw9186077914373225143:True:=trivial
theorem PySem.W.Fast.tw11879925567455516154:True:=trivial
theorem PySem.W.Fast.tw3349452787720527362:True:=trivial
theorem PySem.W.Fast.tw18192996220750897331:True:=trivial
theorem PySem.W.Fast.tw16450189129187749312:True:=trivial
theorem PySem.W.Fast.tw14206042280955972436:True:=trivial
theorem PySem.W.Fast.tw15601269681146988889:True:=trivial
theorem PySem.W.Fast.tw5953669485467451657:True:=trivial
theorem PySem.W.Fast.tw4944351254276764111:True:=trivial
theorem PySem.W.Fast.tw4740563293544090132:True:=trivial
theorem PySem.W.Fast.tw17654562526872453460:True:=trivial
theorem PySem.W.Fast.tw9274481774814290641:True:=trivial
theorem PySem.W.Fast.tw16213578430259868347:True:=trivial
theorem PySem.W.Fast.tw4235511601056746456:True:=trivial
theorem PySem.W.Fast.tw3378726396415569007:True:=trivial
theorem PySem.W.Fast.tw14968586416480605539:True:=trivial
theorem PySem.W.Fast.tw9530042480708093543:True:=trivial
theorem PySem.W.Fast.tw10794154966928461221:True:=trivial
theorem PySem.W.Fast.tw10846085395119294533:True:=trivial
theorem PySem.W.Fast.tw4051209674218619440:True:=trivial
open PySem PySem.W PyProof.Rows
set_option maxRecDepth 100000 in
set_option maxHeartbeats 0 in
theorem PySem.Challenge.cw_stairlanes_k83_whole_weavings_holds : PySem.Challenge.rw_stairlanes_k83_whole_weavings.Holds := by
 w_on;o_law;k_head;(case hw=>w_witness2)
 k_fill
 refine K83.walk (l:=PySem.Challenge.rw_stairlanes_k83_whole_weavings) rfl rfl (fun w h Y=>PySem.W.kIn_of Y) ?F
 case F =>
  intro w mg fa h KX G hmg
  refine' K83.zk3 KX G hmg (K83.zam ?a1 ?l1 ?c1 ?k1) (K83.zam ?a2 ?l2 ?c2 ?k2) (K83.zam ?a3 ?l3 ?c3 ?k3) (K83.zam ?a4 ?l4 ?c4 ?k4) (K83.zam ?a5 ?l5 ?c5 ?k5) (K83.zam ?a6 ?l6 ?c6 ?k6) (K83.zam ?a7 ?l7 ?c7 ?k7) (K83.zam ?a8 ?l8 ?c8 ?k8) (K83.zam ?a9 ?l9 ?c9 ?k9) (K83.zam ?a10 ?l10 ?c10 ?k10) (K83.zam ?a11 ?l11 ?c11 ?k11) (K83.zam ?a12 ?l12 ?c12 ?k12) (K83.zam ?a13 ?l13 ?c13 ?k13) (K83.zam ?a14 ?l14 ?c14 ?k14) (K83.zam ?a15 ?l15 ?c15 ?k15) (K83.zam ?a16 ?l16 ?c16 ?k16) (K83.zam ?a17 ?l17 ?c17 ?k17) (K83.zam ?a18 ?l18 ?c18 ?k18) (K83.zam ?a19 ?l19 ?c19 ?k19) (K83.zam ?a20 ?l20 ?c20 ?k20) (K83.zam ?a21 ?l21 ?c21 ?k21) (K83.zam ?a22 ?l22 ?c22 ?k22) (K83.zam ?a23 ?l23 ?c23 ?k23) (K83.zam ?a24 ?l24 ?c24 ?k24) (K83.zam ?a25 ?l25 ?c25 ?k25) (K83.zam ?a26 ?l26 ?c26 ?k26) (K83.zam ?a27 ?l27 ?c27 ?k27) (K83.zam ?a28 ?l28 ?c28 ?k28) (K83.zam ?a29 ?l29 ?c29 ?k29) (K83.zam ?a30 ?l30 ?c30 ?k30) (K83.zam ?a31 ?l31 ?c31 ?k31) (K83.zam ?a32 ?l32 ?c32 ?k32) (K83.zam ?a33 ?l33 ?c33 ?k33) (K83.zam ?a34 ?l34 ?c34 ?k34) (K83.zam ?a35 ?l35 ?c35 ?k35) (K83.zam ?a36 ?l36 ?c36 ?k36) (K83.zam ?a37 ?l37 ?c37 ?k37) (K83.zam ?a38 ?l38 ?c38 ?k38) (K83.zam ?a39 ?l39 ?c39 ?k39) (K83.zam ?a40 ?l40 ?c40 ?k40) (K83.zam ?a41 ?l41 ?c41 ?k41) (K83.zam ?a42 ?l42 ?c42 ?k42) (K83.zam ?a43 ?l43 ?c43 ?k43) (K83.zam ?a44 ?l44 ?c44 ?k44) (K83.zam ?a45 ?l45 ?c45 ?k45) (K83.zam ?a46 ?l46 ?c46 ?k46) (K83.zam ?a47 ?l47 ?c47 ?k47) (K83.zam ?a48 ?l48 ?c48 ?k48) (K83.zam ?a49 ?l49 ?c49 ?k49) (K83.zam ?a50 ?l50 ?c50 ?k50) (K83.zam ?a51 ?l51 ?c51 ?k51) (K83.zam ?a52 ?l52 ?c52 ?k52) (K83.zam ?a53 ?l53 ?c53 ?k53) ?z1 ?z2 ?z3 ?z4 ?z5 ?z6 ?z7 ?z8 ?z9 ?z10 ?z11 ?z12 ?z13 ?z14 ?z15 ?z16 ?zd
  (case a1=>k_is);(case l1=>k_is);(case c1=>k_is);(case k1=>k_is)
  (case a2=>k_is);(case l2=>k_is);(case c2=>k_is);(case k2=>k_is)
  (case a3=>k_is);(case l3=>k_is);(case c3=>k_is);(case k3=>k_is)
  (case a4=>k_is);(case l4=>k_is);(case c4=>k_is);(case k4=>k_is)
  (case a5=>k_is);(case l5=>k_is);(case c5=>k_is);(case k5=>k_is)
  (case a6=>k_is);(case l6=>k_is);(case c6=>k_is);(case k6=>k_is)
  (case a7=>k_is);(case l7=>k_is);(case c7=>k_is);(case k7=>k_is)
  (case a8=>k_is);(case l8=>k_is);(case c8=>k_is);(case k8=>k_is)
  (case a9=>k_is);(case l9=>k_is);(case c9=>k_is);(case k9=>k_is)
  (case a10=>k_is);(case l10=>k_is);(case c10=>k_is);(case k10=>k_is)
  (case a11=>k_is);(case l11=>k_is);(case c11=>k_is);(case k11=>k_is)
  (case a12=>k_is);(case l12=>k_is);(case c12=>k_is);(case k12=>k_is)
  (case a13=>k_is);(case l13=>k_is);(case c13=>k_is);(case k13=>k_is)
  (case a14=>k_is);(case l14=>k_is);(case c14=>k_is);(case k14=>k_is)
  (case a15=>k_is);(case l15=>k_is);(case c15=>k_is);(case k15=>k_is)
  (case a16=>k_is);(case l16=>k_is);(case c16=>k_is);(case k16=>k_is)
  (case a17=>k_is);(case l17=>k_is);(case c17=>k_is);(case k17=>k_is)
  (case a18=>k_is);(case l18=>k_is);(case c18=>k_is);(case k18=>k_is)
  (case a19=>k_is);(case l19=>k_is);(case c19=>k_is);(case k19=>k_is)
  (case a20=>k_is);(case l20=>k_is);(case c20=>k_is);(case k20=>k_is)
  (case a21=>k_is);(case l21=>k_is);(case c21=>k_is);(case k21=>k_is)
  (case a22=>k_is);(case l22=>k_is);(case c22=>k_is);(case k22=>k_is)
  (case a23=>k_is);(case l23=>k_is);(case c23=>k_is);(case k23=>k_is)
  (case a24=>k_is);(case l24=>k_is);(case c24=>k_is);(case k24=>k_is)
  (case a25=>k_is);(case l25=>k_is);(case c25=>k_is);(case k25=>k_is)
  (case a26=>k_is);(case l26=>k_is);(case c26=>k_is);(case k26=>k_is)
  (case a27=>k_is);(case l27=>k_is);(case c27=>k_is);(case k27=>k_is)
  (case a28=>k_is);(case l28=>k_is);(case c28=>k_is);(case k28=>k_is)
  (case a29=>k_is);(case l29=>k_is);(case c29=>k_is);(case k29=>k_is)
  (case a30=>k_is);(case l30=>k_is);(case c30=>k_is);(case k30=>k_is)
  (case a31=>k_is);(case l31=>k_is);(case c31=>k_is);(case k31=>k_is)
  (case a32=>k_is);(case l32=>k_is);(case c32=>k_is);(case k32=>k_is)
  (case a33=>k_is);(case l33=>k_is);(case c33=>k_is);(case k33=>k_is)
  (case a34=>k_is);(case l34=>k_is);(case c34=>k_is);(case k34=>k_is)
  (case a35=>k_is);(case l35=>k_is);(case c35=>k_is);(case k35=>k_is)
  (case a36=>k_is);(case l36=>k_is);(case c36=>k_is);(case k36=>k_is)
  (case a37=>k_is);(case l37=>k_is);(case c37=>k_is);(case k37=>k_is)
  (case a38=>k_is);(case l38=>k_is);(case c38=>k_is);(case k38=>k_is)
  (case a39=>k_is);(case l39=>k_is);(case c39=>k_is);(case k39=>k_is)
  (case a40=>k_is);(case l40=>k_is);(case c40=>k_is);(case k40=>k_is)
  (case a41=>k_is);(case l41=>k_is);(case c41=>k_is);(case k41=>k_is)
  (case a42=>k_is);(case l42=>k_is);(case c42=>k_is);(case k42=>k_is)
  (case a43=>k_is);(case l43=>k_is);(case c43=>k_is);(case k43=>k_is)
  (case a44=>k_is);(case l44=>k_is);(case c44=>k_is);(case k44=>k_is)
  (case a45=>k_is);(case l45=>k_is);(case c45=>k_is);(case k45=>k_is)
  (case a46=>k_is);(case l46=>k_is);(case c46=>k_is);(case k46=>k_is)
  (case a47=>k_is);(case l47=>k_is);(case c47=>k_is);(case k47=>k_is)
  (case a48=>k_is);(case l48=>k_is);(case c48=>k_is);(case k48=>k_is)
  (case a49=>k_is);(case l49=>k_is);(case c49=>k_is);(case k49=>k_is)
  (case a50=>k_is);(case l50=>k_is);(case c50=>k_is);(case k50=>k_is)
  (case a51=>k_is);(case l51=>k_is);(case c51=>k_is);(case k51=>k_is)
  (case a52=>k_is);(case l52=>k_is);(case c52=>k_is);(case k52=>k_is)
  (case a53=>k_is);(case l53=>k_is);(case c53=>k_is);(case k53=>k_is)
  (case z1=>k_is)
  (case z2=>k_is)
  (case z3=>k_is)
  (case z4=>k_is)
  (case z5=>k_is)
  (case z6=>k_is)
  (case z7=>k_is)
  (case z8=>k_is)
  (case z9=>k_is)
  (case z10=>k_is)
  (case z11=>k_is)
  (case z12=>k_is)
  (case z13=>k_is)
  (case z14=>k_is)
  (case z15=>k_is)
  (case z16=>k_is)
  (case zd=>k_is)
