import PyProof.Rows.All
import Wide.All
import OpenK.AllK
import Wide.FinOn
import Lean
import PyProof.EqAt
import PyProof.EqKinds
import PyProof.TupleCall
import PyProof.NeKinds
import KE.KIntText
import PyProof.TupleOfStr
import PyProof.MeetsDict
import PyProof.DictKinds
import PyProof.ReprRoads
import PyProof.NeData
import PyProof.P3In
import PyProof.Rows.SortRev
import KE.KSortTup
import KE.KItemsList
import PyProof.Rows.Range3
import PyProof.AutoIntG2
import PySem.Challenge.RW_stairlanes_k70_bars_of_rows
set_option Elab.async false
set_option linter.all false
set_option maxRecDepth 100000
local macro_rules|`(tactic|trivial)=>`(tactic|first|exact⟨by rfl,by first|exact Or.inl rfl|exact Or.inr (.inl rfl)|exact Or.inr (.inr rfl),by decide,by decide⟩|exact⟨rfl,rfl,rfl,by decide +kernel,rfl,by decide +kernel,by decide +kernel⟩|exact True.intro|rfl|assumption)
namespace L2
open PySem PySem.Spec PyProof.Rows
abbrev Key:=Sum Int Str
def zlz:Key→Value→Bool
  | .inl k,v=>Value.isInt k v
  | .inr x,v=>Value.isStrOf x v
def keyH (w:World):Key→Int
  | .inl k=>hashInt k
  | .inr x=>hashStr w x
theorem zao:∀ {k:Key}{v:Value},zlz k v=true→(∃ i t,k=Sum.inl i∧v=Value.int i t)∨(∃ x t,k=Sum.inr x∧v=Value.str x t)
  | .inl i,v,h=>by
    obtain⟨t,e⟩:=Value.isInt_shape (k:=i) (v:=v) h
    exact .inl ⟨i,t,rfl,e⟩
  | .inr x,v,h=>by
    obtain⟨t,e⟩:=Value.isStrOf_shape (x:=x) (v:=v) h
    exact .inr ⟨x,t,rfl,e⟩
theorem zly (a b:Int):decide ((Sum.inl a:Key)=Sum.inl b)=(a == b):=by
  by_cases e:a=b
  · subst e;simp
  · have h:¬(Sum.inl a:Key)=Sum.inl b:=fun q=>e (Sum.inl.inj q)
    rw[decide_eq_false h]
    exact(beq_eq_false_iff_ne.mpr e).symm
theorem zlv (a b:Str):decide ((Sum.inr a:Key)=Sum.inr b)=decide (a=b):=by
  by_cases e:a=b
  · subst e;simp
  · have h:¬(Sum.inr a:Key)=Sum.inr b:=fun q=>e (Sum.inr.inj q)
    rw[decide_eq_false h,decide_eq_false e]
theorem zlx (a:Int) (b:Str):decide ((Sum.inl a:Key)=Sum.inr b)=false:=decide_eq_false (fun q=>nomatch q)
theorem zlw (a:Str) (b:Int):decide ((Sum.inr a:Key)=Sum.inl b)=false:=decide_eq_false (fun q=>nomatch q)
def zeE (prog:Program) (w:World):PySem.KeyKind prog w Key where
  is:=zlz
  hash:=keyH w
  inj:=fun v a b ha hb=>by
    rcases zao ha with ⟨i,t,rfl,rfl⟩|⟨x,t,rfl,rfl⟩
    · rcases zao hb with ⟨j,u,rfl,e⟩|⟨y,u,rfl,e⟩
      · injection e with e1 _;rw[e1]
      · exact nomatch e
    · rcases zao hb with ⟨j,u,rfl,e⟩|⟨y,u,rfl,e⟩
      · exact nomatch e
      · injection e with e1 _;rw[e1]
  byValue:=fun k v h=>by
    rcases zao h with ⟨i,t,rfl,rfl⟩|⟨x,t,rfl,rfl⟩<;>rfl
  pyHash:=fun hv h=>by
    rcases zao hv with ⟨i,t,rfl,rfl⟩|⟨x,t,rfl,rfl⟩
    · exact wpAny_pyHash_int h
    · exact wpAny_pyHash_str h
  eqBool:=fun hu hv h=>by
    rcases zao hu with ⟨i,t,rfl,rfl⟩|⟨x,t,rfl,rfl⟩
    · rcases zao hv with ⟨j,u,rfl,rfl⟩|⟨y,u,rfl,rfl⟩
      · rw[zly]at h;exact wpAny_eqBool_int h
      · rw[zlx]at h;exact SeqAt.EqAt.int_str i t y u _ _ _ _ h
    · rcases zao hv with ⟨j,u,rfl,rfl⟩|⟨y,u,rfl,rfl⟩
      · rw[zlw]at h;exact SeqAt.EqAt.str_int x t j u _ _ _ _ h
      · rw[zlv]at h;exact wpAny_eqBool_str h
  «strs»:=fun k x t v h=>by
    rcases zao h with ⟨i,u,rfl,e⟩|⟨y,u,rfl,e⟩
    · exact nomatch e
    · injection e with e1 _
      subst e1
      cases v<;>rfl
inductive V where
  | non|bl (b:Bool)|int (i:Int)|str (x:Str)|byt (b:Array UInt8)|flt (b:UInt64)|ref (a:Addr)|ty (n:String)
  deriving DecidableEq
def RelV:V→Value→Prop
  | .non,u=>u=Value.none
  | .bl b,u=>u=Value.bool b
  | .int i,u=>∃ t,u=Value.int i t
  | .str x,u=>∃ t,u=Value.str x t
  | .byt b,u=>∃ t,u=Value.bytes b t
  | .flt b,u=>∃ t,u=Value.float b t
  | .ref a,u=>u=Value.ref a
  | .ty n,u=>u=Value.type n
abbrev Vals:List V→List Value→Prop:=Paired RelV
theorem Vals.length {xs:List V}{us:List Value}(r:Vals xs us):xs.length=us.length:=Paired.length r
theorem Vals.get:∀ {xs:List V}{us:List Value}{i:Nat}{x:V},Vals xs us→xs[i]?=some x→∃ u,us[i]?=some u∧RelV x u
  | _,_,_,_,.nil,e=>by simp at e
  | _,_,0,_,.cons r _,e=>by simp at e;subst e;exact⟨_,rfl,r⟩
  | _,_,i+1,x,.cons _ t,e=>by
    obtain⟨u,h1,h2⟩:=Vals.get (i:=i) (x:=x) t (by simpa using e)
    exact⟨u,by simpa using h1,h2⟩
theorem Vals.set {x:V}{u:Value}(r:RelV x u):∀ {xs:List V}{us:List Value}(i:Nat),Vals xs us→Vals (xs.set i x) (us.set i u)
  | _,_,_,.nil=>.nil
  | _,_,0,.cons _ t=>.cons r t
  | _,_,i+1,.cons q t=>.cons q (Vals.set r i t)
theorem Vals.append:∀ {xs ys:List V}{us ws:List Value},Vals xs us→Vals ys ws→Vals (xs++ys) (us++ws)
  | _,_,_,_,.nil,s=>s
  | _,_,_,_,.cons r t,s=>.cons r (Vals.append t s)
theorem Vals.take:∀ {xs:List V}{us:List Value}(n:Nat),Vals xs us→Vals (xs.take n) (us.take n)
  | _,_,0,_=>.nil
  | _,_,_+1,.nil=>.nil
  | _,_,n+1,.cons r t=>.cons r (Vals.take n t)
theorem Vals.drop:∀ {xs:List V}{us:List Value}(n:Nat),Vals xs us→Vals (xs.drop n) (us.drop n)
  | _,_,0,r=>r
  | _,_,_+1,.nil=>.nil
  | _,_,n+1,.cons _ t=>Vals.drop n t
def RelO:Option V→Option Value→Prop
  | some v,some u=>RelV v u
  | none,none=>True
  | _,_=>False
def KV {κ:Type}:List (κ × V)→List (κ × Value)→Prop:=Paired fun (p:κ × V) (q:κ × Value)=>p.1=q.1∧RelV p.2 q.2
def kV:Key→V
  | .inl i=>.int i
  | .inr x=>.str x
inductive HO where
  | lst (xs:List V)
  | tup (xs:List V)
  | dK (kvs:List (Key × V))|dT (kvs:List (List Key × V))
  | set (S:Int→Bool) (n:Nat)
  | ins (C dx:Addr) (fs:List (Str × V))
  | own (x:Addr)
  | xd (fs:List (Str × V))
  | met (f x:Addr)
  | rng (lo hi:Int)
  | frz (o:Obj) (u:HO)
  | tbl (ps:Array Value)
  | ext (φ:Heap→Prop)
abbrev Hp:=Addr→Option HO
def upd (H:Hp) (a:Addr) (o:HO):Hp:=fun b=>if b=a then some o else H b
theorem zab {H:Hp}{a:Addr}{o:HO}:upd H a o a=some o:=by unfold upd;rw[if_pos rfl]
theorem zae {H:Hp}{a b:Addr}{o:HO}(h:b≠a):upd H a o b=H b:=by unfold upd;rw[if_neg h]
theorem zlX {H:Hp}{a b:Addr}{o u:HO}(h:H a=some o) (h':H b=some u) (d:o≠u):a≠b:=by
  intro e;subst e;rw[h]at h';exact d (Option.some.inj h')
theorem zac {H:Hp}{a b:Addr}{o:HO}(h:H a=some o) (h':H b=none):a≠b:=by
  intro e;subst e;rw[h]at h';cases h'
def TupX (h:Heap) (a:Addr) (items:Array Value):Prop:=∃ o,h.get? a=some o∧o.cls=.type "tuple"∧∃ n,o.data=.seq items n∧o.dict=none
theorem TupX.tup {h:Heap}{a:Addr}{items:Array Value}(x:TupX h a items):IsTup h a items:=let ⟨o,e,c,n,d,_⟩:=x;⟨o,e,c,n,d⟩
theorem TupX.new (h:Heap) (items:Array Value):TupX (h.push { cls:=.type "tuple",data:=.seq items }) h.objs.size items:=⟨_,Heap.get?_push_size _ rfl,rfl,0,rfl,rfl⟩
section
variable (P:Program) (w:World)
def ObjOk (H:Hp) (h:Heap) (a:Addr):HO→Prop
  | .lst xs=>xs.length≤sizeLine∧∃ (its:List Value) (n:Nat),Vals xs its∧h.get? a=some { cls:=.type "list",data:=.seq its.toArray n }
  | .tup xs=>xs.length≤sizeLine∧∃ its:List Value,Vals xs its∧TupX h a its.toArray
  | .dK kvs=>kvs.length≤sizeLine∧(a == sysModules)=false∧∃ vs,KV kvs vs∧h.DictOf (zeE P w) a vs
  | .dT kvs=>kvs.length≤sizeLine∧(a == sysModules)=false∧∃ xs:List (List Key × Addr × Value),
      Paired (fun (p:List Key × V) (q:List Key × Addr × Value)=>p.1=q.1∧H q.2.1=some (.tup (p.1.map kV))∧RelV p.2 q.2.2) kvs xs ∧
      ∃ o es ep,h.get? a=some o∧o.ExactDict∧o.data=.dict es ep∧es.toList=xs.map (entryOfKey (tupleKind (zeE P w)))∧(xs.map (·.1)).Nodup
  | .set S n=>h.SetOf (intKind P w) a S n
  | .ins C dx fs=>H dx=some (.own a)∧fs.length≤1000∧dx≠a∧h.get? a=some (PySem.W.instObj C dx) ∧
      ∃ mA,h.Ns1 dx mA∧(∀ f,RelO (fs.lookup f) (mA f))∧PySem.Within mA (fs.map (·.1))
  | .own _=>∃ o,h.get? a=some o
  | .xd fs=>∃ mA,h.Ns1 a mA∧∀ f,RelO (fs.lookup f) (mA f)
  | .rng lo hi=>∃ t u v,h.get? a=some { cls:=.type "range",data:=.fields #[.int lo t,.int hi u,.int 1 v] }
  | .frz o u=>h.get? a=some o∧ObjOk H h a u
  | .tbl ps=>h.get? a=some { cls:=.none,data:=.fields ps }
  | .met f x=>h.get? a=some (PySem.W.methodObj (.ref f) (.ref x))
  | .ext φ=>φ h∧(∃ o,h.get? a=some o)∧∀ h1 h2:Heap,φ h1→(∀ o,h1.get? a=some o→h2.get? a=some o)→φ h2
def HOk (H:Hp) (h:Heap):Prop:=∀ a o,H a=some o→ObjOk P w H h a o
end
section
variable {P:Program}{w:World}{H H':Hp}{h h':Heap}{a:Addr}{o:HO}
theorem ObjOk.lt (x:ObjOk P w H h a o):a<h.objs.size:=by
  cases o with
  | lst xs=>obtain⟨_,_,_,_,e⟩:=x;exact Heap.lt_size e
  | tup xs=>obtain⟨_,_,_,p⟩:=x;exact p.tup.lt
  | dK kvs=>obtain⟨_,_,_,_,o,_,_,e,_⟩:=x;exact Heap.lt_size e
  | dT kvs=>obtain⟨_,_,_,_,o,_,_,e,_⟩:=x;exact Heap.lt_size e
  | set S n=>obtain⟨o,_,_,_,e,_⟩:=x;exact Heap.lt_size e
  | ins C dx fs=>obtain⟨_,_,_,e,_⟩:=x;exact Heap.lt_size e
  | own y=>obtain⟨_,e⟩:=x;exact Heap.lt_size e
  | xd fs=>obtain⟨_,⟨_,_,_,e,_⟩,_⟩:=x;exact Heap.lt_size e
  | rng lo hi=>obtain⟨_,_,_,e⟩:=x;exact Heap.lt_size e
  | frz ob u=>obtain⟨e,_⟩:=x;exact Heap.lt_size e
  | tbl ps=>exact Heap.lt_size (show h.get? a=some _ from x)
  | met f y=>exact Heap.lt_size (show h.get? a=some _ from x)
  | ext φ=>obtain⟨_,⟨_,e⟩,_⟩:=x;exact Heap.lt_size e
theorem Paired.mapP {α β:Type}{F G:α→β→Prop}:∀ {l₁:List α}{l₂:List β},Paired F l₁ l₂→(∀ a b,F a b→G a b)→Paired G l₁ l₂
  | _,_,.nil,_=>.nil
  | _,_,.cons r t,f=>.cons (f _ _ r) (Paired.mapP t f)
theorem ObjOk.stay (x:ObjOk P w H h a o) (k:∀ b u,(b=a∨H b=some (.own a))→h.get? b=some u→h'.get? b=some u)
    (ho:∀ b,H b=some (.own a)→H' b=some (.own a)) (ht:∀ b xs,H b=some (.tup xs)→H' b=some (.tup xs)):ObjOk P w H' h' a o:=by
  induction o with
  | lst xs=>obtain⟨z,its,n,r,e⟩:=x;exact⟨z,its,n,r,k _ _ (.inl rfl) e⟩
  | tup xs=>obtain⟨z,its,r,ob,e,c⟩:=x;exact⟨z,its,r,ob,k _ _ (.inl rfl) e,c⟩
  | dK kvs=>obtain⟨z,y,vs,r,ob,es,ep,e,c⟩:=x;exact⟨z,y,vs,r,ob,es,ep,k _ _ (.inl rfl) e,c⟩
  | dT kvs =>
    obtain⟨z,y,xs,r,ob,es,ep,e,c⟩:=x
    exact⟨z,y,xs,Paired.mapP r fun p q z=>⟨z.1,ht _ _ z.2.1,z.2.2⟩,ob,es,ep,k _ _ (.inl rfl) e,c⟩
  | set S n=>obtain⟨ob,es,ep,t,e,c⟩:=x;exact⟨ob,es,ep,t,k _ _ (.inl rfl) e,c⟩
  | ins C dx fs =>
    obtain⟨d,z,ne,e,mA,⟨od,es,ep,e2,c⟩,r⟩:=x
    exact⟨ho _ d,z,ne,k _ _ (.inl rfl) e,mA,⟨od,es,ep,k _ _ (.inr d) e2,c⟩,r⟩
  | own y=>obtain⟨ob,e⟩:=x;exact⟨ob,k _ _ (.inl rfl) e⟩
  | xd fs=>obtain⟨mA,⟨od,es,ep,e,c⟩,r⟩:=x;exact⟨mA,⟨od,es,ep,k _ _ (.inl rfl) e,c⟩,r⟩
  | rng lo hi=>obtain⟨t,u,v,e⟩:=x;exact⟨t,u,v,k _ _ (.inl rfl) e⟩
  | frz ob u ih=>obtain⟨e,q⟩:=x;exact⟨k _ _ (.inl rfl) e,ih q⟩
  | tbl ps =>
    have e:h.get? a=some { cls:=.none,data:=.fields ps }:=x
    show h'.get? a=some { cls:=.none,data:=.fields ps }
    exact k a _ (.inl rfl) e
  | met f y =>
    have e:h.get? a=some (PySem.W.methodObj (.ref f) (.ref y)):=x
    show h'.get? a=some (PySem.W.methodObj (.ref f) (.ref y))
    exact k a _ (.inl rfl) e
  | ext φ=>obtain⟨p,⟨o,e⟩,st⟩:=x;exact⟨st _ _ p fun o q=>k _ _ (.inl rfl) q,⟨o,k _ _ (.inl rfl) e⟩,st⟩
theorem HOk.lt (x:HOk P w H h) (e:H a=some o):a<h.objs.size:=(x a o e).lt
theorem HOk.fresh (x:HOk P w H h) (e:h.objs.size≤a):H a=none:=by
  cases q:H a with
  | none=>rfl
  | some u=>exact absurd (Nat.lt_of_lt_of_le (x.lt q) e) (Nat.lt_irrefl _)
theorem HOk.kept (x:HOk P w H h) (k:∀ b u,h.get? b=some u→h'.get? b=some u):HOk P w H h':=fun a o e =>
  (x a o e).stay (fun b u _ q=>k b u q) (fun _ q=>q) fun _ _ q=>q
theorem HOk.laid (x:HOk P w H h) (k:∀ b u,h.get? b=some u→h'.get? b=some u) (hp:h.objs.size≤a) (new:ObjOk P w (upd H a o) h' a o):HOk P w (upd H a o) h':=fun b u e=>by
  have hn:=x.fresh hp
  by_cases hb:b=a
  · subst hb;rw[zab]at e;cases e;exact new
  · rw[zae hb]at e
    exact(x b u e).stay (fun c v _ q=>k c v q) (fun c q=>by rw[zae (zac q hn)];exact q) fun c xs q=>by rw[zae (zac q hn)];exact q
end
def Rd (H:Hp) (a:Addr) (u:HO):Prop:=H a=some u∨∃ o,H a=some (.frz o u)
theorem Rd.ok {P:Program}{w:World}{H:Hp}{h:Heap}{a:Addr}{u:HO}(r:Rd H a u) (x:HOk P w H h):ObjOk P w H h a u:=by
  rcases r with r|⟨o,r⟩
  · exact x a u r
  · obtain⟨_,q⟩:=x a _ r
    exact q
def Mut:Option HO→Prop
  | some (.lst _)=>True
  | some (.dK _)=>True
  | some (.dT _)=>True
  | some (.set _ _)=>True
  | some (.ins _ _ _)=>True
  | some (.ext _)=>True
  | _=>False
section
variable {P:Program}{w:World}{H:Hp}{h h':Heap}{x e:Addr}{o':HO}
theorem HOk.write (ok:HOk P w H h) (mu:Mut (H x)) (he:e=x∨H e=some (.own x)) (k:∀ b u,b≠e→h.get? b=some u→h'.get? b=some u) (heo:∃ u,h'.get? e=some u)
    (new:ObjOk P w (upd H x o') h' x o'):HOk P w (upd H x o') h':=fun b u q=>by
  have nown:∀ c y,H c=some (.own y)→c≠x:=fun c y r z=>by subst z;rw[r]at mu;exact mu
  have ntup:∀ c xs,H c=some (.tup xs)→c≠x:=fun c xs r z=>by subst z;rw[r]at mu;exact mu
  by_cases hb:b=x
  · subst hb;rw[zab]at q;cases q;exact new
  · rw[zae hb]at q
    by_cases hbe:b=e
    · have q':H b=some (.own x):=by
        rcases he with z|z
        · exact absurd (hbe.trans z) hb
        · rw[hbe];exact z
      rw[q]at q';cases q'
      obtain⟨v,hv⟩:=heo
      exact⟨v,by rw[hbe];exact hv⟩
    · refine(ok b u q).stay (fun c v hc r=>k c v ?_ r) (fun c r=>by rw[zae (nown c b r)];exact r) fun c xs r=>by rw[zae (ntup c xs r)];exact r
      rcases hc with rfl|hc
      · exact hbe
      · rintro rfl
        rcases he with z|z
        · exact nown c b hc z
        · rw[hc]at z;cases z;exact hb rfl
end
structure Un (fs ex:List Addr) (H H':Hp) (h h':Heap):Prop where
  keep:∀ b o,h.get? b=some o→H b=none→b∉fs→b∉ex→h'.get? b=some o
  slot:∀ b o,h.get? b=some o→H b=none→b∈fs→b∉ex→∃ sl,h'.get? b=some { o with slots:=sl }
  free:∀ b o,h.get? b=some o→H b=none→b∉ex→H' b=none
  there:∀ b o,h.get? b=some o→b∉ex→∃ o',h'.get? b=some o'
  tups:∀ b xs,H b=some (.tup xs)→H' b=some (.tup xs)
  frzs:∀ b o u,H b=some (.frz o u)→H' b=some (.frz o u)
  tbls:∀ b ps,H b=some (.tbl ps)→∃ more,H' b=some (.tbl (ps++more))
section
variable {fs fs' ex ex':List Addr}{H H1 H2:Hp}{h h1 h2 h':Heap}{a x e:Addr}{o:HO}
theorem Un.any (u:Un fs ex H H1 h h1) {b:Addr}{ob:Obj}(q:h.get? b=some ob) (n:H b=none) (hx:b∉ex):∃ sl,h1.get? b=some { ob with slots:=sl }:=by
  by_cases hb:b∈fs
  · exact u.slot b ob q n hb hx
  · exact⟨ob.slots,u.keep b ob q n hb hx⟩
theorem Un.kept (k:∀ b u,h.get? b=some u→h'.get? b=some u):Un fs ex H H h h' :=
  ⟨fun b ob q _ _ _=>k b ob q,fun b ob q _ _ _=>⟨ob.slots,k b ob q⟩,fun _ _ _ n _=>n,fun b ob q _=>⟨ob,k b ob q⟩,fun _ _ q=>q,fun _ _ _ q=>q,fun _ ps q=>⟨#[],by rw[q];simp⟩⟩
theorem Un.refl:Un fs ex H H h h:=Un.kept fun _ _ q=>q
theorem Un.laid (k:∀ b u,h.get? b=some u→h'.get? b=some u) (hp:h.objs.size≤a) (hn:H a=none):Un fs ex H (upd H a o) h h' where
  keep:=fun b u q _ _ _=>k b u q
  slot:=fun b u q _ _ _=>⟨u.slots,k b u q⟩
  free:=fun b u q n _=>by rw[zae (Nat.ne_of_lt (Nat.lt_of_lt_of_le (Heap.lt_size q) hp))];exact n
  there:=fun b u q _=>⟨u,k b u q⟩
  tups:=fun b xs q=>by rw[zae (zac q hn)];exact q
  frzs:=fun b u xs q=>by rw[zae (zac q hn)];exact q
  tbls:=fun b ps q=>⟨#[],by rw[zae (zac q hn),q];simp⟩
theorem Un.write (mu:Mut (H x)) (he:e=x∨H e=some (.own x)) (k:∀ b u,b≠e→h.get? b=some u→h'.get? b=some u) (heo:∃ u,h'.get? e=some u):Un fs ex H (upd H x o) h h':=by
  have hx:∀ b,H b=none→b≠x:=fun b n z=>by subst z;rw[n]at mu;exact mu
  have hb:∀ b,H b=none→b≠e:=fun b n z=>by
    subst z
    rcases he with r|r
    · exact hx b n r
    · rw[n]at r;cases r
  have hm:∀ b u,H b=some u→¬ Mut (some u)→b≠x:=fun b u q nm z=>by subst z;rw[q]at mu;exact nm mu
  refine⟨fun b u q n _ _=>k b u (hb b n) q,fun b u q n _ _=>⟨u.slots,k b u (hb b n) q⟩,fun b u q n _=>by rw[zae (hx b n)];exact n,fun b u q _=>?_,
    fun b xs q=>by rw[zae (hm b _ q fun z=>z)];exact q,fun b u xs q=>by rw[zae (hm b _ q fun z=>z)];exact q,fun b ps q=>⟨#[],by rw[zae (hm b _ q fun z=>z),q];simp⟩⟩
  by_cases hbe:b=e
  · subst hbe;exact heo
  · exact⟨u,k b u hbe q⟩
end
def trk (h:Heap) (H:Hp):List Addr:=(List.range h.objs.size).filter fun a=>(H a).isSome
def hidT (h:Heap) (H:Hp):Heap:=PySem.W.hideAll h (trk h H)
theorem zhK (h:Heap) (H:Hp):(hidT h H).objs.size=h.objs.size:=PySem.W.hideAll_size _ _
theorem ziY {h:Heap}{H:Hp}{b:Addr}{o:Obj}(e:h.get? b=some o) (n:H b=none):(hidT h H).get? b=some o :=
  PySem.W.hideAll_get _ e fun hm=>by
    have q:(H b).isSome=true:=(List.mem_filter.mp hm).2
    rw[n]at q;simp at q
theorem zkp {h:Heap}{H:Hp}{b:Addr}{o:Obj}(e:(hidT h H).get? b=some o):h.get? b=some o∧H b=none:=by
  have e':h.get? b=some o:=PySem.W.of_hideAll (trk h H) e
  refine⟨e',?_⟩
  cases q:H b with
  | none=>rfl
  | some x =>
    have hm:b∈trk h H:=List.mem_filter.mpr ⟨List.mem_range.mpr (Heap.lt_size e'),by simp[q]⟩
    have z:(hidT h H).get? b=none:=PySem.W.hideAll_none (trk h H) hm
    rw[z]at e;cases e
def zkU (g h:Heap) (L:Addr):List (Addr × Obj):=(List.range h.objs.size).filterMap fun a=>if a=L∨(g.get? a).isSome=true then none else (h.get? a).map fun o=>(a,o)
def rest (g h:Heap) (L d:Addr):List (Addr × Obj):=(zkU g h L).filter fun p=>decide (p.1≠d)
structure Mod (K:PySem.W.Frag) (mg:Str→Option Value) (base:Heap):Prop where
  kin:K.In base
  glob:base.Ns mainGlobals mg
  blt:∃ mb,base.Ns builtinsNs mb∧∀ x:Str,x≠"__name__"→mb x=bootBuiltins x
  nolimit:base.NoLimit
/-- the context: a def's body (or a comprehension's block) running. base: fixed through the whole law;s₀,H₀: the entry;outer: the frames whose slots others may change (a def's callers);stack: all frames that run;
   ex: iterators that were made zmb of the entry and are walked here (a comprehension's);fn: the names whose cells were made at the entry (a def: all;a comprehension's block: its own);calm: not within an except suite;pn: pins that every state bears;xe: what is wanted of an exception that leaves the code -/
structure Cx where
  prog:Program
  w:World
  K:PySem.W.Frag
  mg:Str→Option Value
  base:Heap
  A:Around
  N:List Str
  s₀:Shared
  H₀:Hp
  env:Env
  outer:List Env
  stack:List Env
  ex:List Addr
  fn:Str→Bool
  calm:Bool
  pn:List (Addr × Obj)
  xe:Value→Shared→Prop
def frs (l:List Env):List Addr:=l.filterMap (·.frame)
abbrev Cx.fs (X:Cx):List Addr:=frs X.outer
def Vis (sc:Scope) (x:Str):Prop:=sc.names.lookup x=some .local ∨ sc.names.lookup x=some .cell∨sc.names.lookup x=some .free
def Loc (sc:Scope) (x:Str):Prop:=sc.names.lookup x=some .local ∨ sc.names.lookup x=some .cell
def Look (env:Env) (h:Heap) (m:Str→Option Value) (x:Str) (u:Value):Prop :=
  (env.kindOf x=some .local ∧ m x=some u)∨((env.kindOf x=some .cell∨env.kindOf x=some .free)∧∃ c,env.cells.lookup x=some c∧h.IsCell c (some u))
structure Cx.Ok (X:Cx):Prop where
  mod:Mod X.K X.mg X.base
  kind:X.env.scope.kind=.function
  glob:X.env.globals=mainGlobals
  blt:X.env.builtins=builtinsNs
  above:X.s₀.heap.objs.size≤X.env.locals
  inj:∀ x y c,X.env.cells.lookup x=some c→X.env.cells.lookup y=some c→x=y
  has:∀ x,(X.env.kindOf x=some .cell∨X.env.kindOf x=some .free)→∃ c,X.env.cells.lookup x=some c
  cab:∀ x c,X.fn x=true→X.env.cells.lookup x=some c→X.s₀.heap.objs.size≤c
  hd:X.calm=true→X.A.handled=none
  frames:X.A.frames=some X.stack
  stk:X.stack=X.outer∨(X.stack=X.env::X.outer∧X.env.frame=some X.env.locals)
  exf:∀ b∈X.ex,b≠X.env.locals∧∀ x c,X.env.cells.lookup x=some c→c≠b
  bs:∀ b o,X.base.get? b=some o→X.s₀.heap.get? b=some o∧X.H₀ b=none
  bsz:X.base.objs.size≤X.s₀.heap.objs.size
  noex:∀ b o,X.base.get? b=some o→b∉X.ex
  exfs:∀ b∈X.ex,b∉X.fs
  funs:X.s₀.heap.FunFrames X.base X.outer
  frf:∀ b∈X.fs,X.H₀ b=none
structure Inv (X:Cx) (pins:List (Addr × Obj)) (σ:List (Option V)) (H:Hp) (s:Shared):Prop where
  ok:X.Ok
  os:s.os=X.s₀.os
  bare:AllBare s.gens
  base:Un X.fs X.ex X.H₀ H X.s₀.heap s.heap
  loc:∃ m,s.heap.Ns X.env.locals m∧∀ (i:Nat) (x:Str) (v:V),X.N[i]?=some x→σ[i]?=some (some v)→Vis X.env.scope x→∃ u,RelV v u∧Look X.env s.heap m x u
  cell:∀ x c,X.env.cells.lookup x=some c→∃ v,s.heap.IsCell c v
  free:H X.env.locals=none
  freeC:∀ x c,X.env.cells.lookup x=some c→H c=none
  pin:∀ p∈X.pn++pins,s.heap.get? p.1=some p.2∧H p.1=none∧p.1≠X.env.locals∧p.1∉X.fs∧∀ v,p.2.data≠.cell v
  hok:HOk X.prog X.w H s.heap
  len:σ.length=X.N.length
section
variable {X:Cx}{pins:List (Addr × Obj)}{σ:List (Option V)}{H H':Hp}{s:Shared}{h':Heap}
theorem Cx.Ok.nofr (ok:X.Ok) {b:Addr}{o:Obj}(e:X.base.get? b=some o):b∉X.fs:=fun hb=>by
  have:=(ok.funs.mem hb).1
  rw[e]at this;cases this
theorem Inv.bs (I:Inv X pins σ H s):∀ b o,X.base.get? b=some o→s.heap.get? b=some o∧H b=none:=fun b o e =>
  ⟨I.base.keep b o (I.ok.bs b o e).1 (I.ok.bs b o e).2 (I.ok.nofr e) (I.ok.noex b o e),I.base.free b o (I.ok.bs b o e).1 (I.ok.bs b o e).2 (I.ok.noex b o e)⟩
theorem Inv.bk (I:Inv X pins σ H s):∀ b o,X.base.get? b=some o→s.heap.get? b=some o:=fun b o e=>(I.bs b o e).1
theorem Inv.mod (I:Inv X pins σ H s):Mod X.K X.mg X.base:=I.ok.mod
theorem Inv.kIn (I:Inv X pins σ H s):X.K.In s.heap:=I.ok.mod.kin.keeps I.bk
theorem Inv.lt (I:Inv X pins σ H s):X.env.locals<s.heap.objs.size:=let ⟨_,hn,_⟩:=I.loc;hn.lt
theorem Inv.sz (I:Inv X pins σ H s):X.s₀.heap.objs.size≤s.heap.objs.size:=Nat.le_trans I.ok.above (Nat.le_of_lt I.lt)
theorem Inv.nofs (I:Inv X pins σ H s) {a:Addr}(h:s.heap.objs.size≤a):a∉X.fs:=fun hb=>by
  obtain⟨_,o,ho,_⟩:=I.ok.funs.mem hb
  exact absurd (Nat.lt_of_lt_of_le (Heap.lt_size ho) (Nat.le_trans I.sz h)) (Nat.lt_irrefl _)
theorem Inv.cne (I:Inv X pins σ H s):∀ x c,X.env.cells.lookup x=some c→c≠X.env.locals:=fun x c e z=>by
  obtain⟨v,o,ho,hd⟩:=I.cell x c e
  obtain⟨m,⟨o',es,ep,ho',hd',_⟩,_⟩:=I.loc
  rw[z,ho']at ho;cases ho;rw[hd']at hd;cases hd
theorem Inv.funs (I:Inv X pins σ H s):s.heap.FunFrames X.base X.outer:=by
  have all:∀ (l:List Env),(∀ b∈frs l,b∈X.fs)→X.s₀.heap.FunFrames X.base l→s.heap.FunFrames X.base l:=by
    intro l
    induction l with
    | nil=>intro _ _;trivial
    | cons env r ih =>
      intro hs hl
      obtain⟨hk,⟨L,o,hf,hn,ho,hd⟩,hr⟩:=hl
      have hL:L∈X.fs:=hs L (by unfold frs;rw[List.filterMap_cons,hf];exact List.mem_cons_self)
      obtain⟨sl,e⟩:=I.base.slot L o ho (I.ok.frf L hL) hL fun z=>I.ok.exfs L z hL
      exact⟨hk,⟨L,_,hf,hn,e,hd⟩,ih (fun b hb=>hs b (by unfold frs;rw[List.filterMap_cons,hf];exact List.mem_cons_of_mem _ hb)) hr⟩
  exact all X.outer (fun _ hb=>hb) I.ok.funs
theorem Inv.stack (I:Inv X pins σ H s):s.heap.FunFrames X.base X.stack:=by
  rcases I.ok.stk with e|⟨e,hf⟩
  · rw[e];exact I.funs
  · rw[e]
    obtain⟨m,hn,_⟩:=I.loc
    refine .cons (by rw[I.ok.kind];decide) hf hn ?_ I.funs
    exact Heap.get?_none_of_le (Nat.le_trans I.ok.bsz I.ok.above)
theorem Inv.stkSub (I:Inv X pins σ H s):∀ b∈frs X.stack,b∈X.env.locals::X.fs:=fun b hb=>by
  rcases I.ok.stk with e|⟨e,hf⟩
  · rw[e]at hb;exact List.mem_cons_of_mem _ hb
  · rw[e]at hb
    unfold frs at hb
    rw[List.filterMap_cons,hf]at hb
    exact hb
theorem Inv.stkFree (I:Inv X pins σ H s):∀ b∈frs X.stack,H b=none:=fun b hb=>by
  rcases List.mem_cons.mp (I.stkSub b hb) with e|hb
  · rw[e];exact I.free
  · obtain⟨_,o,ho,_⟩:=I.ok.funs.mem hb
    exact I.base.free b o ho (I.ok.frf b hb) fun z=>I.ok.exfs b z hb
theorem Inv.step {g':Array GenState}{t':Nat}{d':Drawn}{ch:List Addr}(I:Inv X pins σ H s)
    (hch:∀ b∈ch,(b∈X.ex∨X.s₀.heap.objs.size≤b)∧b≠X.env.locals∧(∀ x c,X.env.cells.lookup x=some c→c≠b)∧∀ p∈X.pn++pins,p.1≠b)
    (keep:∀ b o,b≠X.env.locals→b∉X.fs→b∉ch→s.heap.get? b=some o→H b=none→h'.get? b=some o)
    (slot:∀ b o,b≠X.env.locals→b∈X.fs→b∉ch→s.heap.get? b=some o→H b=none→∃ sl,h'.get? b=some { o with slots:=sl }) (free:∀ b o,b∉ch→s.heap.get? b=some o→H b=none→H' b=none)
    (there:∀ b o,b∉ch→s.heap.get? b=some o→∃ o',h'.get? b=some o')
    (tups:∀ b xs,H b=some (.tup xs)→H' b=some (.tup xs)) (frzs:∀ b o u,H b=some (.frz o u)→H' b=some (.frz o u)) (tbls:∀ b ps,H b=some (.tbl ps)→∃ more,H' b=some (.tbl (ps++more)))
    (ns:∀ m,s.heap.Ns X.env.locals m→h'.Ns X.env.locals m) (hok:HOk X.prog X.w H' h') (hg:AllBare g') :
    Inv X pins σ H' { s with heap:=h',gens:=g',drawn:=d',toks:=t' }:=by
  have neL:∀ b o,X.s₀.heap.get? b=some o→b≠X.env.locals:=fun b o e=>Nat.ne_of_lt (Nat.lt_of_lt_of_le (Heap.lt_size e) I.ok.above)
  have neC:∀ b o,X.s₀.heap.get? b=some o→b∉X.ex→b∉ch:=fun b o e hx hb=>by
    rcases (hch b hb).1 with z|z
    · exact hx z
    · exact absurd (Nat.lt_of_lt_of_le (Heap.lt_size e) z) (Nat.lt_irrefl _)
  have cellK:∀ x c,X.env.cells.lookup x=some c→∀ v,s.heap.IsCell c v→h'.IsCell c v:=fun x c e v ⟨o,ho,hd⟩=>by
    have nch:c∉ch:=fun z=>(hch c z).2.2.1 x c e rfl
    by_cases hc:c∈X.fs
    · obtain⟨sl,q⟩:=slot c o (I.cne x c e) hc nch ho (I.freeC x c e)
      exact⟨_,q,hd⟩
    · exact⟨o,keep c o (I.cne x c e) hc nch ho (I.freeC x c e),hd⟩
  refine⟨I.ok,I.os,hg,⟨fun b o e n hb hx=>?_,fun b o e n hb hx=>?_,fun b o e n hx=>?_,fun b o e hx=>?_,fun b xs e=>tups b xs (I.base.tups b xs e),fun b o xs e=>frzs b o xs (I.base.frzs b o xs e),fun b ps e=>?_⟩,?_,fun x c e=>?_,?_,fun x c e=>?_,fun p hp=>?_,hok,I.len⟩
  · exact keep b o (neL b o e) hb (neC b o e hx) (I.base.keep b o e n hb hx) (I.base.free b o e n hx)
  · obtain⟨sl,e1⟩:=I.base.slot b o e n hb hx
    obtain⟨sl',e2⟩:=slot b _ (neL b o e) hb (neC b o e hx) e1 (I.base.free b o e n hx)
    exact⟨sl',e2⟩
  · obtain⟨o',e1⟩:=I.base.there b o e hx
    exact free b o' (neC b o e hx) e1 (I.base.free b o e n hx)
  · obtain⟨o',e1⟩:=I.base.there b o e hx
    exact there b o' (neC b o e hx) e1
  · obtain⟨m1,e1⟩:=I.base.tbls b ps e
    obtain⟨m2,e2⟩:=tbls b _ e1
    exact⟨m1++m2,by rw[e2,Array.append_assoc]⟩
  · obtain⟨m,hn,hl⟩:=I.loc
    refine⟨m,ns m hn,fun i x v e1 e2 e3=>?_⟩
    obtain⟨u,r,l⟩:=hl i x v e1 e2 e3
    refine⟨u,r,?_⟩
    rcases l with l|⟨k,c,e,z⟩
    · exact .inl l
    · exact .inr ⟨k,c,e,cellK x c e _ z⟩
  · obtain⟨v,z⟩:=I.cell x c e
    exact⟨v,cellK x c e v z⟩
  · obtain⟨m,⟨o,_,_,ho,_⟩,_⟩:=I.loc
    exact free _ o (fun z=>(hch _ z).2.1 rfl) ho I.free
  · obtain⟨v,o,ho,hd⟩:=I.cell x c e
    exact free c o (fun z=>(hch c z).2.2.1 x c e rfl) ho (I.freeC x c e)
  · obtain⟨e,n,ne,nf,d⟩:=I.pin p hp
    have nch:p.1∉ch:=fun z=>(hch p.1 z).2.2.2 p hp rfl
    exact⟨keep p.1 p.2 ne nf nch e n,free p.1 p.2 nch e n,ne,nf,d⟩
theorem Inv.un {t':Nat}(I:Inv X pins σ H s) (u:Un X.fs [] H H' s.heap h') (hok:HOk X.prog X.w H' h'):Inv X pins σ H' { s with heap:=h',toks:=t' }:=by
  obtain⟨m,⟨o,es,ep,ho,r⟩,_⟩:=id I.loc
  obtain⟨sl,hL⟩:=u.any ho I.free (by simp)
  exact I.step (g':=s.gens) (d':=s.drawn) (ch:=[]) (fun _ z=>nomatch z) (fun b o _ hb _ e n=>u.keep b o e n hb (by simp)) (fun b o _ hb _ e n=>u.slot b o e n hb (by simp)) (fun b o _ e n=>u.free b o e n (by simp)) (fun b o _ e=>u.there b o e (by simp)) u.tups u.frzs u.tbls (fun m' hm=>by
    obtain⟨o',es',ep',ho',r'⟩:=hm
    rw[ho]at ho';cases ho'
    exact⟨_,es',ep',hL,r'⟩) hok I.bare
theorem Inv.call {g':Array GenState}{t':Nat}{d':Drawn}{ch:List Addr}(I:Inv X pins σ H s) (u:Un (frs X.stack) ch H H' s.heap h') (hok:HOk X.prog X.w H' h') (hg:AllBare g')
    (hch:∀ b∈ch,(b∈X.ex∨X.s₀.heap.objs.size≤b)∧b≠X.env.locals∧(∀ x c,X.env.cells.lookup x=some c→c≠b)∧∀ p∈X.pn++pins,p.1≠b) :
    Inv X pins σ H' { s with heap:=h',gens:=g',drawn:=d',toks:=t' }:=by
  obtain⟨m,⟨o,es,ep,ho,r⟩,_⟩:=id I.loc
  obtain⟨sl,hL⟩:=u.any ho I.free fun z=>(hch _ z).2.1 rfl
  exact I.step (ch:=ch) hch (fun b o hL hb hc e n=>u.keep b o e n (fun z=>(List.mem_cons.mp (I.stkSub b z)).elim hL hb) hc) (fun b o _ _ hc e n=>u.any e n hc) (fun b o hc e n=>u.free b o e n hc) (fun b o hc e=>u.there b o e hc) u.tups u.frzs u.tbls (fun m' hm=>by
    obtain⟨o',es',ep',ho',r'⟩:=hm
    rw[ho]at ho';cases ho'
    exact⟨_,es',ep',hL,r'⟩) hok hg
theorem Inv.turned {t':Nat}{it:Addr}(I:Inv X pins σ H s) (k:∀ b o,b≠it→s.heap.get? b=some o→h'.get? b=some o) (hn:H it=none) (hL:it≠X.env.locals)
    (h1:it∈X.ex∨X.s₀.heap.objs.size≤it) (h2:∀ x c,X.env.cells.lookup x=some c→c≠it) (h3:∀ p∈X.pn++pins,p.1≠it):Inv X pins σ H { s with heap:=h',toks:=t' }:=by
  have nit:∀ b u,H b=some u→b≠it:=fun b u e z=>by rw[z,hn]at e;cases e
  refine I.step (g':=s.gens) (d':=s.drawn) (ch:=[it]) (fun b hb=>?_) (fun b o _ _ hc e _=>k b o (fun z=>hc (by simp[z])) e) (fun b o _ _ hc e _=>⟨o.slots,k b o (fun z=>hc (by simp[z])) e⟩) (fun _ _ _ _ n=>n)
    (fun b o hc e=>⟨o,k b o (fun z=>hc (by simp[z])) e⟩) (fun _ _ e=>e) (fun _ _ _ e=>e) (fun b ps e=>⟨#[],by rw[e];simp⟩) (fun m hm=>?_) (fun b u e=>?_) I.bare
  · have e:b=it:=by simpa using hb
    subst e
    exact⟨h1,hL,h2,h3⟩
  · obtain⟨o,es,ep,ho,r⟩:=hm
    exact⟨o,es,ep,k _ o (Ne.symm hL) ho,r⟩
  · refine(I.hok b u e).stay (fun c v hc q=>k c v ?_ q) (fun _ q=>q) fun _ _ q=>q
    rcases hc with z|z
    · rw[z];exact nit b u e
    · exact nit c _ z
theorem Inv.tok (I:Inv X pins σ H s) (t:Nat):Inv X pins σ H { s with toks:=t }:=I.un (h':=s.heap) (t':=t) Un.refl I.hok
theorem Inv.kept {t':Nat}(I:Inv X pins σ H s) (k:∀ b u,s.heap.get? b=some u→h'.get? b=some u):Inv X pins σ H { s with heap:=h',toks:=t' }:=I.un (Un.kept k) (I.hok.kept k)
theorem Inv.laid {a:Addr}{o:HO}{t':Nat}(I:Inv X pins σ H s) (k:∀ b u,s.heap.get? b=some u→h'.get? b=some u) (hp:s.heap.objs.size≤a) (new:ObjOk X.prog X.w (upd H a o) h' a o) :
    Inv X pins σ (upd H a o) { s with heap:=h',toks:=t' }:=I.un (Un.laid k hp (I.hok.fresh hp)) (I.hok.laid k hp new)
theorem Inv.write {x e:Addr}{o:HO}{t':Nat}(I:Inv X pins σ H s) (mu:Mut (H x)) (he:e=x∨H e=some (.own x)) (k:∀ b u,b≠e→s.heap.get? b=some u→h'.get? b=some u) (heo:∃ u,h'.get? e=some u)
    (new:ObjOk X.prog X.w (upd H x o) h' x o):Inv X pins σ (upd H x o) { s with heap:=h',toks:=t' }:=I.un (Un.write mu he k heo) (I.hok.write mu he k heo new)
theorem Inv.pins_of {pins':List (Addr × Obj)}(I:Inv X pins σ H s) (h:∀ p∈pins',s.heap.get? p.1=some p.2∧H p.1=none∧p.1≠X.env.locals∧p.1∉X.fs∧∀ v,p.2.data≠.cell v):Inv X pins' σ H s :=
  ⟨I.ok,I.os,I.bare,I.base,I.loc,I.cell,I.free,I.freeC,fun p hp=>(List.mem_append.mp hp).elim (fun z=>I.pin p (List.mem_append_left _ z)) (h p),I.hok,I.len⟩
theorem zfl {N:List Str}(hN:N.Nodup) {i j:Nat}{x:Str}(a:N[i]?=some x) (b:N[j]?=some x):i=j:=by
  obtain⟨h1,e1⟩:=List.getElem?_eq_some_iff.mp a
  obtain⟨h2,e2⟩:=List.getElem?_eq_some_iff.mp b
  exact(List.getElem_inj hN).mp (e1.trans e2.symm)
theorem zdz {M:Model}{A:Around}{E:Value→Shared→Prop}{i:Nat}{x:Str}{v:V}{u:Value}{Q:Unit→Shared→Prop}(I:Inv X pins σ H s) (hN:X.N.Nodup) (hi:X.N[i]?=some x) (hx:Loc X.env.scope x) (r:RelV v u)
    (h:∀ s',Inv X pins (σ.set i (some v)) H s'→(∃ a,Heap.SameBut a s.heap s'.heap∧(a=X.env.locals∨X.env.cells.lookup x=some a))→Q () s') (hf:X.fn x=true∨X.env.scope.names.lookup x=some .local:=by first|exact .inl rfl|exact .inr rfl|assumption):wpAny M A (storeName X.env x u) Q E s:=by
  obtain⟨m,hn,hl⟩:=id I.loc
  have hcls:(X.env.scope.kind == .class || (X.env.scope.kind == .module && X.env.locals != X.env.globals))=false:=by rw[I.ok.kind];rfl
  have hiσ:i<σ.length:=by rw[I.len];exact(List.getElem?_eq_some_iff.mp hi).1
  have cne:=I.cne
  have tracked:∀ {a:Addr}{h':Heap},(∃ o,s.heap.get? a=some o∧H a=none)→Heap.SameBut a s.heap h'→HOk X.prog X.w H h':=fun {a h'} ha hs b ob e=>by
    obtain⟨_,_,hfree⟩:=ha
    refine(I.hok b ob e).stay (fun c w' hc q=>(hs.2 c ?_).trans q) (fun _ q=>q) fun _ _ q=>q
    rintro rfl
    rcases hc with rfl|hc
    · rw[hfree]at e;cases e
    · rw[hfree]at hc;cases hc
  rcases hx with hk|hk
  · refine wpAny_storeName_local hk hn (fun h' hn' hs=>?_) hcls
    obtain⟨oL,_,_,hoL,_⟩:=id hn
    refine h _ ⟨I.ok,I.os,I.bare,⟨fun b o e n hb hx=>?_,fun b o e n hb hx=>?_,I.base.free,fun b o e hx=>?_,I.base.tups,I.base.frzs,I.base.tbls⟩,⟨_,hn',fun j y v' e1 e2 e3=>?_⟩,fun y c e=>?_,I.free,I.freeC,fun p hp=>?_,tracked ⟨oL,hoL,I.free⟩ hs,by simpa using I.len⟩ ⟨_,hs,.inl rfl⟩
    · exact(hs.2 b (Nat.ne_of_lt (Nat.lt_of_lt_of_le (Heap.lt_size e) I.ok.above))).trans (I.base.keep b o e n hb hx)
    · obtain⟨sl,e1⟩:=I.base.slot b o e n hb hx
      exact⟨sl,(hs.2 b (Nat.ne_of_lt (Nat.lt_of_lt_of_le (Heap.lt_size e) I.ok.above))).trans e1⟩
    · obtain⟨o',e1⟩:=I.base.there b o e hx
      exact⟨o',(hs.2 b (Nat.ne_of_lt (Nat.lt_of_lt_of_le (Heap.lt_size e) I.ok.above))).trans e1⟩
    · by_cases hj:j=i
      · subst hj
        rw[hi]at e1;cases e1
        rw[List.getElem?_set_self hiσ]at e2
        cases e2
        exact⟨u,r,.inl ⟨hk,by simp⟩⟩
      · rw[List.getElem?_set_ne (Ne.symm hj)]at e2
        obtain⟨u',r',q⟩:=hl j y v' e1 e2 e3
        refine⟨u',r',?_⟩
        rcases q with ⟨k,e⟩|⟨k,c,e,z⟩
        · refine .inl ⟨k,?_⟩
          have:y≠x:=fun e=>hj (zfl hN e1 (e ▸ hi))
          simp[this,e]
        · exact .inr ⟨k,c,e,z.sameBut hs (cne y c e)⟩
    · obtain⟨w',z⟩:=I.cell y c e
      exact⟨w',z.sameBut hs (cne y c e)⟩
    · obtain⟨e,n,ne,nf,d⟩:=I.pin p hp
      exact⟨(hs.2 p.1 ne).trans e,n,ne,nf,d⟩
  · have hfn:X.fn x=true:=by
      rcases hf with z|z
      · exact z
      · rw[z]at hk;cases hk
    obtain⟨c,hc⟩:=I.ok.has x (.inl hk)
    obtain⟨w',z⟩:=I.cell x c hc
    refine wpAny_storeName_cell I.ok.kind hk hc z (fun h' hc' hs=>?_)
    obtain⟨oc,hoc,hocd⟩:=id z
    refine h { s with heap:=h' } ⟨I.ok,I.os,I.bare,⟨fun b o e n hb hx=>?_,fun b o e n hb hx=>?_,I.base.free,fun b o e hx=>?_,I.base.tups,I.base.frzs,I.base.tbls⟩,⟨m,hn.sameBut hs (Ne.symm (cne x c hc)),fun j y v' e1 e2 e3=>?_⟩,fun y c' e=>?_,I.free,I.freeC,fun p hp=>?_,tracked ⟨oc,hoc,I.freeC x c hc⟩ hs,by simpa using I.len⟩ ⟨c,hs,.inr hc⟩
    · exact(hs.2 b (Nat.ne_of_lt (Nat.lt_of_lt_of_le (Heap.lt_size e) (I.ok.cab x c hfn hc)))).trans (I.base.keep b o e n hb hx)
    · obtain⟨sl,e1⟩:=I.base.slot b o e n hb hx
      exact⟨sl,(hs.2 b (Nat.ne_of_lt (Nat.lt_of_lt_of_le (Heap.lt_size e) (I.ok.cab x c hfn hc)))).trans e1⟩
    · obtain⟨o',e1⟩:=I.base.there b o e hx
      exact⟨o',(hs.2 b (Nat.ne_of_lt (Nat.lt_of_lt_of_le (Heap.lt_size e) (I.ok.cab x c hfn hc)))).trans e1⟩
    · by_cases hj:j=i
      · subst hj
        rw[hi]at e1;cases e1
        rw[List.getElem?_set_self hiσ]at e2
        cases e2
        exact⟨u,r,.inr ⟨.inl hk,c,hc,hc'⟩⟩
      · rw[List.getElem?_set_ne (Ne.symm hj)]at e2
        obtain⟨u',r',q⟩:=hl j y v' e1 e2 e3
        refine⟨u',r',?_⟩
        rcases q with q|⟨k,c',e,z'⟩
        · exact .inl q
        · refine .inr ⟨k,c',e,z'.sameBut hs ?_⟩
          rintro rfl
          exact hj (zfl hN e1 (I.ok.inj _ _ _ e hc ▸ hi))
    · by_cases hcc:c'=c
      · subst hcc;exact⟨_,hc'⟩
      · obtain⟨w2,z2⟩:=I.cell y c' e
        exact⟨w2,z2.sameBut hs hcc⟩
    · obtain⟨e,n,ne,nf,d⟩:=I.pin p hp
      refine⟨(hs.2 p.1 ?_).trans e,n,ne,nf,d⟩
      intro q
      rw[q,hoc]at e
      have q':oc=p.2:=Option.some.inj e
      exact d w' (by rw[← q'];exact hocd)
theorem zcY {M:Model}{A:Around}{E:Value→Shared→Prop}{i:Nat}{x:Str}{v:V}{u:Value}{Q:Unit→Shared→Prop}(I:Inv X pins σ H s) (hN:X.N.Nodup) (hi:X.N[i]?=some x) (hx:Loc X.env.scope x) (r:RelV v u)
    (h:∀ s',Inv X pins (σ.set i (some v)) H s'→Q () s') (hf:X.fn x=true∨X.env.scope.names.lookup x=some .local:=by first|exact .inl rfl|exact .inr rfl|assumption):wpAny M A (storeName X.env x u) Q E s :=
  zdz I hN hi hx r (fun s' I' _=>h s' I') hf
theorem Inv.call' {s':Shared}{ch:List Addr}(I:Inv X pins σ H s) (ho:s'.os=s.os) (u:Un (frs X.stack) ch H H' s.heap s'.heap) (hok:HOk X.prog X.w H' s'.heap) (hg:AllBare s'.gens)
    (hch:∀ b∈ch,(b∈X.ex∨X.s₀.heap.objs.size≤b)∧b≠X.env.locals∧(∀ x c,X.env.cells.lookup x=some c→c≠b)∧∀ p∈X.pn++pins,p.1≠b):Inv X pins σ H' s':=by
  obtain⟨h',g',d',t',o'⟩:=s'
  have e:o'=s.os:=ho
  subst e
  exact I.call (g':=g') (t':=t') (d':=d') u hok hg hch
end
abbrev XK:=Value→Option Addr→Hp→Prop
abbrev St:=List (Option V)
abbrev VK:=V→Hp→Prop
abbrev TE:=St→Hp→VK→Prop
abbrev TT:=St→Hp→(Bool→Hp→Prop)→Prop
abbrev TA:=St→Hp→(List V→Hp→Prop)→Prop
structure Ends where
  nx:St→Hp→Prop
  rt:VK
  bk:St→Hp→Prop:=fun _ _=>False
  ct:St→Hp→Prop:=fun _ _=>False
abbrev TS:=Ends→St→Hp→Prop
def EP (X:Cx) (pins:List (Addr × Obj)) (σ:St) (Q:VK) (u:Value) (s':Shared):Prop:=∃ v H',Inv X pins σ H' s'∧RelV v u∧Q v H'
def TP (X:Cx) (pins:List (Addr × Obj)) (σ:St) (Q:Bool→Hp→Prop) (b:Bool) (s':Shared):Prop:=∃ H',Inv X pins σ H' s'∧Q b H'
def AP (X:Cx) (pins:List (Addr × Obj)) (σ:St) (Q:List V→Hp→Prop) (us:List Value) (s':Shared):Prop:=∃ vs H',Inv X pins σ H' s'∧Vals vs us∧Q vs H'
def SP (X:Cx) (pins:List (Addr × Obj)) (D:Ends) (f:Flow) (s':Shared):Prop :=
  match f with
  | .next=>∃ σ' H',Inv X pins σ' H' s'∧D.nx σ' H'
  | .brk=>∃ σ' H',Inv X pins σ' H' s'∧D.bk σ' H'
  | .cont=>∃ σ' H',Inv X pins σ' H' s'∧D.ct σ' H'
  | .ret u=>∃ v σ' H',Inv X pins σ' H' s'∧RelV v u∧D.rt v H'
def PE (X:Cx) (e:Expr) (t:TE):Prop :=
  ∀ (pins:List (Addr × Obj)) (s:Shared) (σ:St) (H:Hp) (Q:VK),Inv X pins σ H s→t σ H Q→wpAny (model X.prog X.w) X.A (eval e X.env) (EP X pins σ Q) X.xe s
def PT (X:Cx) (e:Expr) (t:TT):Prop :=
  ∀ (pins:List (Addr × Obj)) (s:Shared) (σ:St) (H:Hp) (Q:Bool→Hp→Prop),Inv X pins σ H s→t σ H Q→wpAny (model X.prog X.w) X.A (isTrue e X.env (eval e X.env)) (TP X pins σ Q) X.xe s
def PW (X:Cx) (e:Expr) (t:TT):Prop :=
  ∀ (whole:Sem Value) (pins:List (Addr × Obj)) (s:Shared) (σ:St) (H:Hp) (Q:Bool→Hp→Prop),Inv X pins σ H s→t σ H Q→wpAny (model X.prog X.w) X.A (isTrue e X.env whole) (TP X pins σ Q) X.xe s
theorem PW.pt {X:Cx}{e:Expr}{t:TT}(h:PW X e t):PT X e t:=h _
def PA (X:Cx) (es:List Expr) (t:TA):Prop :=
  ∀ (pos:Pos) (pins:List (Addr × Obj)) (s:Shared) (σ:St) (H:Hp) (Q:List V→Hp→Prop),Inv X pins σ H s→t σ H Q→wpAny (model X.prog X.w) X.A (spliced (backTo pos (starEach es X.env))) (AP X pins σ Q) X.xe s
def PS (X:Cx) (st:Stmt) (t:TS):Prop :=
  ∀ (pins:List (Addr × Obj)) (s:Shared) (σ:St) (H:Hp) (D:Ends),Inv X pins σ H s→t D σ H→wpAny (model X.prog X.w) X.A (exec st X.env) (SP X pins D) X.xe s
def PSs (X:Cx) (st:List Stmt) (t:TS):Prop :=
  ∀ (pins:List (Addr × Obj)) (s:Shared) (σ:St) (H:Hp) (D:Ends),Inv X pins σ H s→t D σ H→wpAny (model X.prog X.w) X.A (execs st X.env) (SP X pins D) X.xe s
theorem thn {α:Type}{t:Sem α}{Q Q':α→Shared→Prop}{M:Model}{A:Around}{E:Value→Shared→Prop}{s:Shared}(h:wpAny M A t Q E s) (hQ:∀ a s,Q a s→Q' a s):wpAny M A t Q' E s:=wpAny_mono h hQ fun _ _ x=>x
section
variable {X:Cx}
def tVar (i:Nat):TE:=fun σ H Q=>∃ v,σ[i]?=some (some v)∧Q v H
def tC (v:V):TE:=fun _ H Q=>Q v H
theorem zld {i:Nat}{x:Str}{pos:Pos}(hN:X.N[i]?=some x) (hv:Vis X.env.scope x) (hd:(x == ("__debug__":Str))=false:=by decide) (hcd:(x == ("__classdict__":Str))=false:=by decide):PE X (.Name x pos) (tVar i):=by
  intro pins s σ H Q I h
  obtain⟨v,e,h⟩:=h
  obtain⟨m,hn,hl⟩:=I.loc
  obtain⟨u,r,l⟩:=hl i x v hN e hv
  have fin:EP X pins σ Q u s:=⟨v,H,I,r,h⟩
  rcases l with ⟨hk,hm⟩|⟨hk,c,hc,hcell⟩
  · exact wpAny_Name (wpAny_loadName_local I.ok.kind hk hn hm fin) hd
  · rcases hk with hk|hk
    · exact wpAny_Name (wpAny_loadName_cell I.ok.kind hk hc hcell fin) hd
    · exact wpAny_Name (wpAny_loadName_free I.ok.kind hk hc hcell fin hcd) hd
theorem pe_int {i j pos}:PE X (.Constant (.int i) j pos) (tC (.int i)):=fun _ _ _ H _ I h=>wpAny_Constant_int ⟨.int i,H,I.tok _,⟨_,rfl⟩,h⟩
theorem pe_bl {b j pos}:PE X (.Constant (.bool b) j pos) (tC (.bl b)):=fun _ _ _ H _ I h=>Constant_bool ⟨.bl b,H,I,rfl,h⟩
theorem pe_non {j pos}:PE X (.Constant .none j pos) (tC .non):=fun _ _ _ H _ I h=>Constant_none ⟨.non,H,I,rfl,h⟩
theorem pe_str {x j pos}:PE X (.Constant (.str x) j pos) (tC (.str x)):=fun _ _ _ H _ I h=>Calls.Constant_str ⟨.str x,H,I.tok _,⟨_,rfl⟩,h⟩
def Gl (X:Cx) (x:Str):Prop:=X.env.kindOf x=some .globalImplicit
theorem zdm {E:Value→Shared→Prop}{pins:List (Addr × Obj)}{s:Shared}{σ:St}{H:Hp}{x:Str}{u:Value}{pos:Pos}{Q:Value→Shared→Prop}(I:Inv X pins σ H s) (hg:Gl X x) (hm:X.mg x=some u) (h:Q u s)
    (hd:(x == ("__debug__":Str))=false:=by decide):wpAny (model X.prog X.w) X.A (eval (.Name x pos) X.env) Q E s :=
  Calls.Name_function_global I.ok.kind hg (Calls.loadGlobal_global (by rw[I.ok.glob];exact I.mod.glob.keeps I.bk) hm h) hd
theorem zaA {E:Value→Shared→Prop}{pins:List (Addr × Obj)}{s:Shared}{σ:St}{H:Hp}{x:Str}{u:Value}{pos:Pos}{Q:Value→Shared→Prop}(I:Inv X pins σ H s) (hg:Gl X x) (hm:X.mg x=none) (hv:bootBuiltins x=some u) (h:Q u s)
    (hn:x≠"__name__":=by decide) (hd:(x == ("__debug__":Str))=false:=by decide):wpAny (model X.prog X.w) X.A (eval (.Name x pos) X.env) Q E s:=by
  obtain⟨mb,h1,h2⟩:=I.mod.blt
  exact Calls.Name_function_global I.ok.kind hg (Calls.loadGlobal_builtin (by rw[I.ok.glob];exact I.mod.glob.keeps I.bk) hm (by rw[I.ok.blt];exact h1.keeps I.bk) ((h2 x hn).trans hv) h) hd
theorem zex {x:Str}{v:V}{u:Value}{pos:Pos}(hg:Gl X x) (hm:X.mg x=some u) (r:RelV v u) (hd:(x == ("__debug__":Str))=false:=by decide):PE X (.Name x pos) (tC v) :=
  fun _ _ _ H _ I h=>zdm I hg hm ⟨v,H,I,r,h⟩ hd
theorem zaB {x:Str}{v:V}{u:Value}{pos:Pos}(hg:Gl X x) (hm:X.mg x=none) (hv:bootBuiltins x=some u) (r:RelV v u) (hn:x≠"__name__":=by decide) (hd:(x == ("__debug__":Str))=false:=by decide):PE X (.Name x pos) (tC v) :=
  fun _ _ _ H _ I h=>zaA I hg hm hv ⟨v,H,I,r,h⟩ hn hd
variable {a b:Expr}{ta tb:TE}{pos:Pos}
def tB (t:TE):TT:=fun σ H Q=>t σ H fun x H1=>∃ c,x=.bl c∧Q c H1
theorem pt_val {e:Expr}{t:TE}(h:PE X e t) (he:∀ whole,isTrue e X.env whole=(do let v ← whole;standAt e.pos;holding [v] (truthy v)):=by intro _;rfl):PT X e (tB t):=by
  intro pins s σ H Q I hw
  refine isTrue_plain (thn (h pins s σ H _ I hw) fun v s1 ⟨x,H1,I1,r1,q1⟩=>?_) (he _)
  obtain⟨d,rfl,q⟩:=q1
  cases r1
  exact wpAny_truthy_bool ⟨H1,I1,q⟩
variable {tA tB':TT}{rest:List Expr}
def tAnd (t u:TT):TT:=fun σ H Q=>t σ H fun c H1=>if c=true then u σ H1 Q else Q false H1
def tOr (t u:TT):TT:=fun σ H Q=>t σ H fun c H1=>if c=true then Q true H1 else u σ H1 Q
def tNot (t:TT):TT:=fun σ H Q=>t σ H fun c H1=>Q (!c) H1
theorem pw_and1 (ha:PT X a tA):PW X (.BoolOp .And [a] pos) tA:=by
  intro wh pins s σ H Q I h
  refine isTrue_and (thn (ha pins s σ H Q I h) fun c s1 e=>?_)
  cases c with
  | true=>exact isTrue_and_nil e
  | false=>exact e
theorem pw_or1 (ha:PT X a tA):PW X (.BoolOp .Or [a] pos) tA:=by
  intro wh pins s σ H Q I h
  refine isTrue_or (thn (ha pins s σ H Q I h) fun c s1 e=>?_)
  cases c with
  | false=>exact isTrue_or_nil e
  | true=>exact e
theorem pw_and (ha:PT X a tA) (hb:PW X (.BoolOp .And (b::rest) pos) tB'):PW X (.BoolOp .And (a::b::rest) pos) (tAnd tA tB'):=by
  intro wh pins s σ H Q I h
  refine isTrue_and (thn (ha pins s σ H _ I h) fun c s1 ⟨H1,I1,q1⟩=>?_)
  cases c with
  | true=>exact hb wh pins s1 σ H1 Q I1 q1
  | false=>exact⟨H1,I1,q1⟩
theorem zj3 (ha:PT X a tA) (hb:PW X (.BoolOp .Or (b::rest) pos) tB'):PW X (.BoolOp .Or (a::b::rest) pos) (tOr tA tB'):=by
  intro wh pins s σ H Q I h
  refine isTrue_or (thn (ha pins s σ H _ I h) fun c s1 ⟨H1,I1,q1⟩=>?_)
  cases c with
  | true=>exact⟨H1,I1,q1⟩
  | false=>exact hb wh pins s1 σ H1 Q I1 q1
theorem pt_not (ha:PT X a tA):PT X (.UnaryOp .Not a pos) (tNot tA):=by
  intro pins s σ H Q I h
  exact isTrue_not (ha pins s σ H (fun c H1=>Q (!c) H1) I h)
def zk5 (ta tb:TE):TE:=fun σ H Q=>ta σ H fun x H1=>∃ c,x=.bl c∧if c=true then tb σ H1 Q else Q (.bl false) H1
def tOrV (ta tb:TE):TE:=fun σ H Q=>ta σ H fun x H1=>∃ c,x=.bl c∧if c=true then Q (.bl true) H1 else tb σ H1 Q
def zlO (ta:TE):TE:=fun σ H Q=>ta σ H fun x H1=>∃ c,x=.bl c∧Q (.bl (!c)) H1
theorem pe_one {op} {t:TE}(h:PE X a t):PE X (.BoolOp op [a] pos) t:=fun pins s σ H Q I hw=>BoolOp_one (h pins s σ H Q I hw)
theorem pe_and (ha:PE X a ta) (hb:PE X (.BoolOp .And (b::rest) pos) tb):PE X (.BoolOp .And (a::b::rest) pos) (zk5 ta tb):=by
  intro pins s σ H Q I h
  refine BoolOp_and (thn (ha pins s σ H _ I h) fun v s1 ⟨x,H1,I1,r1,q1⟩=>?_)
  obtain⟨c,rfl,q1⟩:=q1
  cases r1
  refine wpAny_truthy_bool ?_
  cases c with
  | true=>exact hb pins s1 σ H1 Q I1 q1
  | false=>exact⟨.bl false,H1,I1,rfl,q1⟩
theorem pe_or (ha:PE X a ta) (hb:PE X (.BoolOp .Or (b::rest) pos) tb):PE X (.BoolOp .Or (a::b::rest) pos) (tOrV ta tb):=by
  intro pins s σ H Q I h
  refine BoolOp_or (thn (ha pins s σ H _ I h) fun v s1 ⟨x,H1,I1,r1,q1⟩=>?_)
  obtain⟨c,rfl,q1⟩:=q1
  cases r1
  refine wpAny_truthy_bool ?_
  cases c with
  | false=>exact hb pins s1 σ H1 Q I1 q1
  | true=>exact⟨.bl true,H1,I1,rfl,q1⟩
theorem zjk (ha:PE X a ta):PE X (.UnaryOp .Not a pos) (zlO ta):=by
  intro pins s σ H Q I h
  refine UnaryOp_ (thn (ha pins s σ H _ I h) fun v s1 ⟨x,H1,I1,r1,q1⟩=>?_)
  obtain⟨c,rfl,q1⟩:=q1
  cases r1
  exact not_of (wpAny_truthy_bool ⟨.bl (!c),H1,I1,rfl,q1⟩)
def tIf (t:TT) (ta tb:TE):TE:=fun σ H Q=>t σ H fun c H1=>if c=true then ta σ H1 Q else tb σ H1 Q
theorem zit {c:Expr}(hc:PT X c tA) (ha:PE X a ta) (hb:PE X b tb):PE X (.IfExp c a b pos) (tIf tA ta tb):=by
  intro pins s σ H Q I h
  refine wpAny_IfExp (thn (hc pins s σ H _ I h) fun d s1 ⟨H1,I1,q1⟩=>?_)
  cases d with
  | true=>exact ha pins s1 σ H1 Q I1 q1
  | false=>exact hb pins s1 σ H1 Q I1 q1
end
def SqL (K:PySem.W.Frag) (H:Hp) (a:Addr) (xs:List V):Prop :=
  Rd H a (.lst xs) ∨
    ∃ (o:Obj) (its:Array Value) (n:Nat),K.lookup a=some o∧o.cls=.type "list"∧o.dict=none∧o.data=.seq its n∧its.size≤sizeLine∧Vals xs its.toList
def SqT (K:PySem.W.Frag) (H:Hp) (a:Addr) (xs:List V):Prop :=
  Rd H a (.tup xs) ∨
    ∃ (o:Obj) (its:Array Value) (n:Nat),K.lookup a=some o∧o.cls=.type "tuple"∧o.data=.seq its n∧its.size≤sizeLine∧Vals xs its.toList
def absV:Value→Option V
  | .none=>some .non
  | .bool b=>some (.bl b)
  | .int i _=>some (.int i)
  | .str x _=>some (.str x)
  | .bytes b _=>some (.byt b)
  | .float b _=>some (.flt b)
  | .ref a=>some (.ref a)
  | .type n=>some (.ty n)
  | _=>none
theorem RelV.abs {x:V}{u:Value}(r:RelV x u):absV u=some x:=by
  cases x with
  | non=>cases r;rfl
  | bl _=>cases r;rfl
  | int _=>obtain⟨t,rfl⟩:=r;rfl
  | str _=>obtain⟨t,rfl⟩:=r;rfl
  | byt _=>obtain⟨t,rfl⟩:=r;rfl
  | flt _=>obtain⟨t,rfl⟩:=r;rfl
  | ref _=>cases r;rfl
  | ty _=>cases r;rfl
theorem RelV.inj {x y:V}{u:Value}(r:RelV x u) (q:RelV y u):x=y:=Option.some.inj (r.abs.symm.trans q.abs)
theorem Vals.inj:∀ {xs ys:List V}{us:List Value},Vals xs us→Vals ys us→xs=ys
  | _,_,_,.nil,.nil=>rfl
  | _,_,_,.cons r t,.cons r' t'=>by rw[r.inj r',Vals.inj t t']
section
variable {X:Cx}{pins:List (Addr × Obj)}{σ:St}{H:Hp}{s:Shared}{a:Addr}{xs ys:List V}
theorem SqL.of {K:PySem.W.Frag}(h:H a=some (.lst xs)):SqL K H a xs:=.inl (.inl h)
theorem SqT.of {K:PySem.W.Frag}(h:H a=some (.tup xs)):SqT K H a xs:=.inl (.inl h)
theorem Inv.list (I:Inv X pins σ H s) (h:SqL X.K H a xs):∃ its:List Value,Vals xs its∧PlainL s.heap a its.toArray∧xs.length≤sizeLine:=by
  rcases h with h|⟨o,its,n,hk,hc,hd,hs,hz,r⟩
  · obtain⟨z,its,n,r,e⟩:=h.ok I.hok
    exact⟨its,r,⟨_,n,e,rfl,rfl,rfl⟩,z⟩
  · refine⟨its.toList,r,⟨o,n,I.kIn a o hk,hc,hd,by simpa using hs⟩,?_⟩
    have e:=r.length
    simp only[Array.length_toList]at e
    omega
theorem Inv.tuple (I:Inv X pins σ H s) (h:SqT X.K H a xs):∃ its:List Value,Vals xs its∧IsTup s.heap a its.toArray∧xs.length≤sizeLine:=by
  rcases h with h|⟨o,its,n,hk,hc,hs,hz,r⟩
  · obtain⟨z,its,r,p⟩:=h.ok I.hok
    exact⟨its,r,p.tup,z⟩
  · refine⟨its.toList,r,⟨o,I.kIn a o hk,hc,n,by simpa using hs⟩,?_⟩
    have e:=r.length
    simp only[Array.length_toList]at e
    omega
theorem Inv.list_inj (I:Inv X pins σ H s) (h:SqL X.K H a xs) (h':SqL X.K H a ys):xs=ys:=by
  obtain⟨its,r,⟨o,n,e,_,_,d⟩,_⟩:=I.list h
  obtain⟨its',r',⟨o',n',e',_,_,d'⟩,_⟩:=I.list h'
  rw[e]at e';cases e'
  rw[d]at d'
  injection d' with d1 _
  have:its=its':=by simpa using congrArg Array.toList d1
  subst this
  exact r.inj r'
theorem Inv.tuple_inj (I:Inv X pins σ H s) (h:SqT X.K H a xs) (h':SqT X.K H a ys):xs=ys:=by
  obtain⟨its,r,⟨o,e,_,n,d⟩,_⟩:=I.tuple h
  obtain⟨its',r',⟨o',e',_,n',d'⟩,_⟩:=I.tuple h'
  rw[e]at e';cases e'
  rw[d]at d'
  injection d' with d1 _
  have:its=its':=by simpa using congrArg Array.toList d1
  subst this
  exact r.inj r'
end
abbrev Cx.wish (X:Cx) (E:Value→Shared→Prop):Cx:={ X with xe:=E }
abbrev Cx.nox (X:Cx):Cx:=X.wish fun _ _=>False
theorem Cx.Ok.wish {X:Cx}(ok:X.Ok) (E:Value→Shared→Prop):(X.wish E).Ok :=
  ⟨ok.mod,ok.kind,ok.glob,ok.blt,ok.above,ok.inj,ok.has,ok.cab,ok.hd,ok.frames,ok.stk,ok.exf,ok.bs,ok.bsz,ok.noex,ok.exfs,ok.funs,ok.frf⟩
theorem Cx.Ok.unwish {X:Cx}{E:Value→Shared→Prop}(ok:(X.wish E).Ok):X.Ok :=
  ⟨ok.mod,ok.kind,ok.glob,ok.blt,ok.above,ok.inj,ok.has,ok.cab,ok.hd,ok.frames,ok.stk,ok.exf,ok.bs,ok.bsz,ok.noex,ok.exfs,ok.funs,ok.frf⟩
section
variable {X:Cx}{pins:List (Addr × Obj)}{σ:St}{H:Hp}{s:Shared}{E:Value→Shared→Prop}
theorem Inv.wish (I:Inv X pins σ H s) (E:Value→Shared→Prop):Inv (X.wish E) pins σ H s:=⟨I.ok.wish E,I.os,I.bare,I.base,I.loc,I.cell,I.free,I.freeC,I.pin,I.hok,I.len⟩
theorem Inv.unwish (I:Inv (X.wish E) pins σ H s):Inv X pins σ H s:=⟨I.ok.unwish,I.os,I.bare,I.base,I.loc,I.cell,I.free,I.freeC,I.pin,I.hok,I.len⟩
theorem SP.unwish {D:Ends}{f:Flow}{s':Shared}(h:SP (X.wish E) pins D f s'):SP X pins D f s':=by
  cases f with
  | next=>obtain⟨σ',H',I,q⟩:=h;exact⟨σ',H',I.unwish,q⟩
  | brk=>obtain⟨σ',H',I,q⟩:=h;exact⟨σ',H',I.unwish,q⟩
  | cont=>obtain⟨σ',H',I,q⟩:=h;exact⟨σ',H',I.unwish,q⟩
  | ret u=>obtain⟨v,σ',H',I,r,q⟩:=h;exact⟨v,σ',H',I.unwish,r,q⟩
theorem PSs.nox {st:List Stmt}{t:TS}(h:PSs X.nox st t):PSs X st t:=fun pins s σ H D I hw =>
  wpAny_mono (h pins s σ H D (I.wish _) hw) (fun _ _ q=>q.unwish) fun _ _ z=>False.elim z
end
section
variable {X:Cx}{st:Stmt}{rest:List Stmt}{t u:TS}{e:Expr}{te:TE}{pos:Pos}
def zk3:TS:=fun D σ H=>D.nx σ H
def tSeq (t u:TS):TS:=fun D σ H=>t { D with nx:=u D } σ H
theorem pss_nil:PSs X [] zk3:=fun _ _ σ H _ I h=>wpAny_execs_nil ⟨σ,H,I,h⟩
theorem pss_cons (h1:PS X st t) (h2:PSs X rest u):PSs X (st::rest) (tSeq t u):=by
  intro pins s σ H D I h
  refine wpAny_execs_cons (thn (h1 pins s σ H { D with nx:=u D } I h) fun f s1 q=>?_)
  cases f with
  | next =>
    obtain⟨σ',H',I',q⟩:=q
    exact h2 pins s1 σ' H' D I' q
  | ret v=>exact q
  | brk=>exact q
  | cont=>exact q
theorem pss_one (h1:PS X st t):PSs X [st] t:=by
  intro pins s σ H D I h
  refine wpAny_execs_cons (thn (h1 pins s σ H D I h) fun f s1 q=>?_)
  cases f with
  | next=>exact wpAny_execs_nil q
  | ret v=>exact q
  | brk=>exact q
  | cont=>exact q
theorem Inv.quiet {pins:List (Addr × Obj)}{σ:St}{H:Hp}{s:Shared}(I:Inv X pins σ H s):interactive X.env=false:=by simp[interactive,I.ok.kind]
def zlQ (te:TE):TS:=fun D σ H=>te σ H fun _ H1=>D.nx σ H1
theorem ps_expr (he:PE X e te) (hs:swapsWith e none pos.line X.env=pure false:=by rfl):PS X (.Expr e pos) (zlQ te):=by
  intro pins s σ H D I h
  exact wpAny_Expr_any (thn (he pins s σ H _ I h) fun v s1 ⟨x,H1,I1,r1,q1⟩=>⟨σ,H1,I1,q1⟩) I.quiet hs
def tRet (te:TE):TS:=fun D σ H=>te σ H D.rt
theorem ps_ret (he:PE X e te):PS X (.Return (some e) pos) (tRet te):=by
  intro pins s σ H D I h
  exact wpAny_Return_some (thn (he pins s σ H _ I h) fun v s1 ⟨x,H1,I1,r1,q1⟩=>⟨x,σ,H1,I1,r1,q1⟩)
def tIfS (c:TT) (t u:TS):TS:=fun D σ H=>c σ H fun b H1=>if b=true then t D σ H1 else u D σ H1
theorem ps_if {c:Expr}{a b:List Stmt}{tc:TT}(hc:PT X c tc) (ha:PSs X a t) (hb:PSs X b u):PS X (.If c a b pos) (tIfS tc t u):=by
  intro pins s σ H D I h
  refine wpAny_If (thn (hc pins s σ H _ I h) fun d s1 ⟨H1,I1,q1⟩=>?_)
  cases d with
  | true=>exact ha pins s1 σ H1 D I1 q1
  | false=>exact hb pins s1 σ H1 D I1 q1
end
abbrev TG:=V→St→Hp→(St→Hp→Prop)→Prop
abbrev TGs:=List V→St→Hp→(St→Hp→Prop)→Prop
def PG (X:Cx) (target:Expr) (t:TG):Prop :=
  ∀ (pins:List (Addr × Obj)) (s:Shared) (σ:St) (H:Hp) (v:V) (u:Value) (Q:St→Hp→Prop),Inv X pins σ H s→RelV v u→t v σ H Q →
    wpAny (model X.prog X.w) X.A (assign target X.env u) (fun _ s'=>∃ σ' H',Inv X pins σ' H' s'∧Q σ' H') X.xe s
def PGs (X:Cx) (ts:List Expr) (t:TGs):Prop :=
  ∀ (pins:List (Addr × Obj)) (s:Shared) (σ:St) (H:Hp) (vs:List V) (us:List Value) (Q:St→Hp→Prop),Inv X pins σ H s→Vals vs us→t vs σ H Q →
    wpAny (model X.prog X.w) X.A (assignInOrder ((assignEach ts X.env).map (·.2)) us) (fun _ s'=>∃ σ' H',Inv X pins σ' H' s'∧Q σ' H') X.xe s
abbrev TSet:=V→V→V→Hp→(Hp→Prop)→Prop
def PSet (X:Cx) (t:TSet):Prop :=
  ∀ (pins:List (Addr × Obj)) (s:Shared) (σ:St) (H:Hp) (o i v:V) (ov iv u:Value) (Q:Hp→Prop),Inv X pins σ H s→RelV o ov→RelV i iv→RelV v u→t o i v H Q →
    wpAny (model X.prog X.w) X.A (setItem ov iv u) (fun _ s'=>∃ H',Inv X pins σ H' s'∧Q H') X.xe s
abbrev TIp:=V→V→Hp→VK→Prop
def PIp (X:Cx) (op:Operator) (t:TIp):Prop :=
  ∀ (pins:List (Addr × Obj)) (s:Shared) (σ:St) (H:Hp) (x y:V) (v u:Value) (Q:VK),Inv X pins σ H s→RelV x v→RelV y u→t x y H Q →
    wpAny (model X.prog X.w) X.A (inplaceOp op v u) (EP X pins σ Q) X.xe s
section
variable {X:Cx}{pos:Pos}
def zbG (i:Nat):TG:=fun v σ H Q=>Q (σ.set i (some v)) H
theorem pg_name {i:Nat}{x:Str}(hN:X.N.Nodup) (hi:X.N[i]?=some x) (hx:Loc X.env.scope x) (hf:X.fn x=true∨X.env.scope.names.lookup x=some .local:=by first|exact .inl rfl|exact .inr rfl|assumption):PG X (.Name x pos) (zbG i):=by
  intro pins s σ H v u Q I r h
  exact wpAny_assign_Name (zcY I hN hi hx r (fun s' I'=>⟨_,H,I',h⟩) hf)
def gNil:TGs:=fun vs σ H Q=>vs=[]∧Q σ H
def zcv (t:TG) (u:TGs):TGs:=fun vs σ H Q=>∃ v r,vs=v::r∧t v σ H fun σ' H'=>u r σ' H' Q
theorem pgs_nil:PGs X [] gNil:=by
  intro pins s σ H vs us Q I r h
  obtain⟨e,h⟩:=h
  subst e
  cases r
  exact assignInOrder_nil ⟨σ,H,I,h⟩
theorem pgs_cons {e:Expr}{es:List Expr}{t:TG}{u:TGs}(h1:PG X e t) (h2:PGs X es u)
    (hs:(assignEach (e::es) X.env).map (·.2)=assign e X.env::(assignEach es X.env).map (·.2):=by rfl):PGs X (e::es) (zcv t u):=by
  intro pins s σ H vs us Q I r h
  obtain⟨v,vr,e1,h⟩:=h
  subst e1
  cases r with
  | cons r rr =>
    rw[hs]
    refine assignInOrder_cons (thn (h1 pins s σ H _ _ _ I r h) fun _ s1 ⟨σ1,H1,I1,q1⟩=>?_)
    exact h2 pins s1 σ1 H1 _ _ Q I1 rr q1
def gTup (K:PySem.W.Frag) (n:Nat) (t:TGs):TG:=fun v σ H Q=>∃ a xs,v=.ref a∧SqT K H a xs∧xs.length=n∧t xs σ H Q
theorem zap {es:List Expr}{k:Nat}{t:TGs}{n:Nat}(hc:X.calm=true) (h:PGs X es t)
    (hn:(assignEach es X.env).length=n:=by rfl) (hst:(assignEach es X.env).findIdx? (·.1)=none:=by rfl):PG X (.Tuple es k pos) (gTup X.K n t):=by
  intro pins s σ H v u Q I r hw
  obtain⟨a,xs,e1,hq,hl,hw⟩:=hw
  subst e1
  cases r
  obtain⟨its,rv,ht,hz⟩:=I.tuple hq
  refine assign_Tuple_tuple (I.ok.hd hc) ht (by simp[hn,← hl,rv.length]) hst fun h' hx=>?_
  have I1:Inv X pins σ H { s with heap:=h' }:=I.kept (t':=s.toks) fun b o e=>hx b o (Nat.ne_of_lt (Heap.lt_size e)) e
  exact h pins _ σ H xs _ Q I1 (by simpa using rv) hw
def gSub (to ti:TE) (t:TSet):TG:=fun v σ H Q=>to σ H fun o H1=>ti σ H1 fun i H2=>t o i v H2 fun H3=>Q σ H3
theorem pg_sub {o i:Expr}{to ti:TE}{t:TSet}(ho:PE X o to) (hi:PE X i ti) (hs:PSet X t)
    (ha:∀ v,assign (.Subscript o i pos) X.env v=(do
      let ov ← holding [v] (eval o X.env)
      let iv ← holding [v,ov] (eval i X.env)
      standAt pos
      holding [v,ov,iv] (setItem ov iv v)
      release [v,ov,iv] []):=by intro _;rfl):PG X (.Subscript o i pos) (gSub to ti t):=by
  intro pins s σ H v u Q I r h
  rw[ha]
  refine wpAny_bind (wpAny_holding (thn (ho pins s σ H _ I h) fun ov s1 ⟨x,H1,I1,r1,q1⟩=>?_))
  refine wpAny_bind (wpAny_holding (thn (hi pins s1 σ H1 _ I1 q1) fun iv s2 ⟨y,H2,I2,r2,q2⟩=>?_))
  refine wpAny_bind (wpAny_standAt (wpAny_bind (wpAny_holding (thn (hs pins s2 σ H2 x y v ov iv u _ I2 r1 r2 r q2) fun _ s3 ⟨H3,I3,q3⟩=>?_))))
  exact wpAny_release ⟨σ,H3,I3,q3⟩
def tAsg (te:TE) (g:TG):TS:=fun D σ H=>te σ H fun x H1=>g x σ H1 D.nx
theorem ps_asg {tg e:Expr}{te:TE}{g:TG}(he:PE X e te) (hg:PG X tg g) (hs:swapsWithSole [tg] e pos.line X.env=pure false:=by rfl) (hw:swappedStores [tg] e X.env=pure none:=by rfl)
    (h1:(assignEach [tg] X.env).map (·.2)=[assign tg X.env]:=by rfl):PS X (.Assign [tg] e pos) (tAsg te g):=by
  intro pins s σ H D I h
  refine wpAny_Assign_stores (thn (he pins s σ H _ I h) fun v s1 ⟨x,H1,I1,r1,q1⟩=>?_) hs hw
  rw[h1]
  exact thn (hg pins s1 σ H1 x v _ I1 r1 q1) fun _ s2 q=>q
theorem ps_set {i:Nat}{x:Str}{e:Expr}{te:TE}{pos':Pos}(hN:X.N.Nodup) (hi:X.N[i]?=some x) (hx:Loc X.env.scope x) (he:PE X e te) (hs:swapsWith e (some (.Name x pos')) pos.line X.env=pure false:=by rfl) (hf:X.fn x=true∨X.env.scope.names.lookup x=some .local:=by first|exact .inl rfl|exact .inr rfl|assumption) :
    PS X (.Assign [.Name x pos'] e pos) (tAsg te (zbG i)):=by
  intro pins s σ H D I h
  refine wpAny_Assign_Name (thn (he pins s σ H _ I h) fun v s1 ⟨y,H1,I1,r1,q1⟩=>?_) hs
  exact zcY I1 hN hi hx r1 (fun s2 I2=>⟨_,H1,I2,q1⟩) hf
def tAug (i:Nat) (te:TE) (ti:TIp):TS:=fun D σ H=>∃ x,σ[i]?=some (some x)∧te σ H fun y H1=>ti x y H1 fun z H2=>D.nx (σ.set i (some z)) H2
theorem zjh {i:Nat}{x:Str}{e:Expr}{te:TE}{op:Operator}{ti:TIp}{pos':Pos}(hN:X.N.Nodup) (hi:X.N[i]?=some x) (hx:Loc X.env.scope x) (he:PE X e te) (ho:PIp X op ti) (hf:X.fn x=true∨X.env.scope.names.lookup x=some .local:=by first|exact .inl rfl|exact .inr rfl|assumption) :
    PS X (.AugAssign (.Name x pos') op e pos) (tAug i te ti):=by
  intro pins s σ H D I h
  obtain⟨v,e1,h⟩:=h
  obtain⟨m,hn,hl⟩:=I.loc
  have vis:Vis X.env.scope x:=by rcases hx with k|k;exact .inl k;exact .inr (.inl k)
  obtain⟨u,r,l⟩:=hl i x v hi e1 vis
  refine wpAny_AugAssign_Name ?_
  have go:wpAny (model X.prog X.w) X.A (eval e X.env) (fun w s₂=>wpAny (model X.prog X.w) X.A (inplaceOp op u w) (fun r s₃=>wpAny (model X.prog X.w) X.A (storeName X.env x r) (fun _=>SP X pins D .next) X.xe s₃) X.xe s₂) X.xe s:=by
    refine thn (he pins s σ H _ I h) fun w s1 ⟨y,H1,I1,r1,q1⟩=>?_
    refine thn (ho pins s1 σ H1 v y u w _ I1 r r1 q1) fun z s2 ⟨zv,H2,I2,r2,q2⟩=>?_
    exact zcY I2 hN hi hx r2 (fun s3 I3=>⟨_,H2,I3,q2⟩) hf
  rcases l with ⟨hk,hm⟩|⟨hk,c,hc,hcell⟩
  · exact wpAny_loadName_local I.ok.kind hk hn hm go
  · rcases hk with hk|hk
    · exact wpAny_loadName_cell I.ok.kind hk hc hcell go
    · rcases hx with k|k
      · have:X.env.scope.names.lookup x=some .free:=hk
        rw[k]at this;cases this
      · have:X.env.scope.names.lookup x=some .free:=hk
        rw[k]at this;cases this
end
section
variable {X:Cx}{pos:Pos}
def zk1 (c:TT) (tb:TS):TS:=fun D σ H=>∃ W:Nat→St→Hp→Prop,(∃ m,W m σ H)∧∀ m σ H,W m σ H →
  c σ H fun b H1=>if b=true then ∃ N:St→Hp→Prop,(∀ σ' H',N σ' H'→∃ m',m'<m∧W m' σ' H')∧tb { D with nx:=N,ct:=N,bk:=D.nx } σ H1 else D.nx σ H1
theorem ps_while {c:Expr}{body:List Stmt}{tc:TT}{tb:TS}(hp:PassesOwn (model X.prog X.w) X.A X.env X.xe) (hc:PT X c tc) (hb:PSs X body tb):PS X (.While c body [] pos) (zk1 tc tb):=by
  intro pins s σ H D I h
  obtain⟨W,⟨m0,w0⟩,turn⟩:=h
  refine wpAny_While (codeAny_whileLoop (fun n s'=>∃ σ' H',Inv X pins σ' H' s'∧W n σ' H') ?_ m0 ⟨σ,H,I,w0⟩)
  rintro n s1 ⟨σ1,H1,I1,w1⟩
  refine wpAny_passesOwn hp (thn (hc pins s1 σ1 H1 _ I1 (turn n σ1 H1 w1)) fun b s2 ⟨H2,I2,q2⟩=>?_)
  cases b with
  | true =>
    obtain⟨N,hN,q2⟩:=q2
    rw[if_pos rfl]
    refine wpAny_passesOwn hp (thn (hb pins s2 σ1 H2 _ I2 q2) fun f s3 q3=>?_)
    cases f with
    | next =>
      obtain⟨σ3,H3,I3,n3⟩:=q3
      obtain⟨m',hm,w3⟩:=hN σ3 H3 n3
      exact⟨m',hm,σ3,H3,I3,w3⟩
    | cont =>
      obtain⟨σ3,H3,I3,n3⟩:=q3
      obtain⟨m',hm,w3⟩:=hN σ3 H3 n3
      exact⟨m',hm,σ3,H3,I3,w3⟩
    | brk=>exact q3
    | ret v=>exact q3
  | false =>
    rw[if_neg Bool.false_ne_true]
    exact wpAny_execs_nil ⟨σ1,H2,I2,q2⟩
end
structure It where
  go:Nat→Hp→Prop
  yld:Nat→Hp→V→Hp→Prop
  stop:Nat→Hp→Prop
def FpOk (X:Cx) (pins:List (Addr × Obj)) (H:Hp) (b:Addr):Prop :=
  H b=none∧b≠X.env.locals∧b∉X.fs∧(b∈X.ex∨X.s₀.heap.objs.size≤b)∧(∀ x c,X.env.cells.lookup x=some c→c≠b)∧∀ p∈X.pn++pins,p.1≠b
theorem Inv.fpOk {X:Cx}{pins:List (Addr × Obj)}{σ:St}{H H':Hp}{s:Shared}{b:Addr}(I:Inv X pins σ H s) (hb:s.heap.objs.size≤b) (hn:H' b=none):FpOk X pins H' b:=by
  refine⟨hn,Nat.ne_of_gt (Nat.lt_of_lt_of_le I.lt hb),I.nofs hb,.inr (Nat.le_trans I.sz hb),fun x c e z=>?_,fun p hp z=>?_⟩
  · obtain⟨v,q⟩:=I.cell x c e
    exact absurd (Nat.lt_of_lt_of_le q.lt (by rw[z];exact hb)) (Nat.lt_irrefl _)
  · exact absurd (Nat.lt_of_lt_of_le (Heap.lt_size (I.pin p hp).1) (by rw[z];exact hb)) (Nat.lt_irrefl _)
structure Turn (P:Program) (w:World) (K:PySem.W.Frag) (tg:Expr) (J:It) (fp:List Addr) (it:Addr) (tn:Nat→Heap→Prop):Prop where
  mem:it∈fp
  obj:∀ i h,tn i h→∀ b∈fp,∃ o,h.get? b=some o∧∀ v,o.data≠.cell v
  keep:∀ i h h',tn i h→(∀ b∈fp,∀ o,h.get? b=some o→h'.get? b=some o)→tn i h'
  item:∀ (X:Cx),X.prog=P→X.w=w→X.K=K→X.calm=true→∀ (i:Nat) (pins:List (Addr × Obj)) (s:Shared) (σ:St) (H:Hp) (E:Value→Shared→Prop),Inv X pins σ H s→(∀ b∈fp,FpOk X pins H b)→tn i s.heap→J.go i H →
    wpAny (model P w) X.A (pyNext (.ref it)) (fun r s1=>∃ u,r=some u ∧
      wpAny (model P w) X.A (letOwnedTupleGo tg (.ref it) u) (fun _ s2=>∃ x H',Inv X pins σ H' s2∧RelV x u∧J.yld i H x H'∧tn (i+1) s2.heap∧∀ b∈fp,H' b=none) E s1) E s
  done:∀ (X:Cx),X.prog=P→X.w=w→X.K=K→X.calm=true→∀ (i:Nat) (pins:List (Addr × Obj)) (s:Shared) (σ:St) (H:Hp) (E:Value→Shared→Prop),Inv X pins σ H s→(∀ b∈fp,FpOk X pins H b)→tn i s.heap→J.stop i H →
    wpAny (model P w) X.A (pyNext (.ref it)) (fun r s1=>r=none∧Inv X pins σ H s1) E s
  self:∀ (A:Around) (i:Nat) (s:Shared) (Q:Value→Shared→Prop) (E:Value→Shared→Prop),tn i s.heap→Q (.ref it) s→wpAny (model P w) A (pyIter (.ref it)) Q E s
abbrev TI:=St→Hp→(It→Hp→Prop)→Prop
def PIE (X:Cx) (pins:List (Addr × Obj)) (σ:St) (tg:Expr) (R:It→Hp→Prop) (itv:Value) (s2:Shared):Prop :=
  ∃ (it:Addr) (fp:List Addr) (tn:Nat→Heap→Prop) (J:It) (H':Hp),itv=.ref it∧Inv X pins σ H' s2∧Turn X.prog X.w X.K tg J fp it tn∧tn 0 s2.heap∧(∀ b∈fp,FpOk X pins H' b)∧R J H'
def PI (X:Cx) (tg iter:Expr) (wi:TI):Prop :=
  ∀ (pins:List (Addr × Obj)) (s:Shared) (σ:St) (H:Hp) (R:It→Hp→Prop),Inv X pins σ H s→wi σ H R →
    wpAny (model X.prog X.w) X.A (eval iter X.env) (fun v s1=>wpAny (model X.prog X.w) X.A (pyIter v) (PIE X pins σ tg R) X.xe s1) X.xe s
theorem zkH {M:Model}{A:Around}{E:Value→Shared→Prop}{s:Shared}{tg:Expr}{it:Addr}{u:Value}{o:Obj}{n:String}{vs:Array Value}{Q:Unit→Shared→Prop}(ho:s.heap.get? it=some o) (hc:o.cls=.type n) (hd:o.data=.fields vs)
    (hn:["enumerate","zip","dict_itemiterator","dict_reverseitemiterator","odict_iterator","itertools.zip_longest","itertools.pairwise"].contains n=false) (hQ:Q () s):wpAny M A (letOwnedTupleGo tg (.ref it) u) Q E s:=by
  unfold letOwnedTupleGo
  cases tg<;>first
    | exact wpAny_pure hQ
    | (cases u<;>first
        | exact wpAny_pure hQ
        | (refine wpAny_bind (wpAny_load ho ?_)
           rw[hc,hd]
           show wpAny M A (if (["enumerate","zip","dict_itemiterator","dict_reverseitemiterator","odict_iterator","itertools.zip_longest","itertools.pairwise"].contains n && vs[0]? == some (rawInt _))=true then _ else _) Q E s
           rw[if_neg (by intro h;rw[hn,Bool.false_and]at h;cases h)]
           exact wpAny_pure hQ))
def Itl (K:PySem.W.Frag) (a:Addr):It :=
  ⟨fun i H=>∃ xs x,SqL K H a xs∧xs[i]?=some x,fun i H x H'=>H'=H∧∀ xs,SqL K H a xs→xs[i]?=some x,fun i H=>∃ xs,SqL K H a xs∧xs.length≤i⟩
def Itt (K:PySem.W.Frag) (a:Addr):It :=
  ⟨fun i H=>∃ xs x,SqT K H a xs∧xs[i]?=some x,fun i H x H'=>H'=H∧∀ xs,SqT K H a xs→xs[i]?=some x,fun i H=>∃ xs,SqT K H a xs∧xs.length≤i⟩
def Itr (lo:Int) (n:Nat):It:=⟨fun i _=>i<n,fun i H x H'=>H'=H∧x=.int (lo+i),fun i _=>n≤i⟩
theorem zgn {P:Program}{w:World}{K:PySem.W.Frag}{tg:Expr}(a it:Addr):Turn P w K tg (Itl K a) [it] it (fun i h=>h.IsListIter it a i) where
  mem:=by simp
  obj:=fun i h st b hb=>by
    have e:b=it:=by simpa using hb
    subst e
    obtain⟨o,e,c,d⟩:=st
    exact⟨o,e,fun v z=>by rw[d]at z;cases z⟩
  keep:=fun i h h' st k=>st.at fun o e=>k it (by simp) o e
  item:=by
    intro X hP hw hK hc i pins s σ H E I hf st hg
    subst hP hw hK
    obtain⟨xs,x,hq,hx⟩:=hg
    obtain⟨its,rv,p,hz⟩:=I.list hq
    obtain⟨u,hu,ru⟩:=rv.get hx
    obtain⟨f0,f1,f2,f3,f4,f5⟩:=hf it (by simp)
    refine wpAny_pyNext_list_item st p.isList (x:=u) (by simpa using hu) fun h' st' sb=>?_
    have I1:Inv X pins σ H { s with heap:=h' }:=I.turned (t':=s.toks) (fun b o hb e=>(sb.2 b hb).trans e) f0 f1 f3 f4 f5
    obtain⟨o,e,c,d⟩:=id st'
    exact⟨u,rfl,zkH (s:={ s with heap:=h' }) e c d (by decide) ⟨x,H,I1,ru,⟨rfl,fun ys hy=>by rw[I.list_inj hy hq];exact hx⟩,st',fun b hb=>(hf b hb).1⟩⟩
  done:=by
    intro X hP hw hK hc i pins s σ H E I hf st hg
    subst hP hw hK
    obtain⟨xs,hq,hx⟩:=hg
    obtain⟨its,rv,p,hz⟩:=I.list hq
    obtain⟨f0,f1,f2,f3,f4,f5⟩:=hf it (by simp)
    have hl:=rv.length
    exact wpAny_pyNext_list_end (I.ok.hd hc) st p.isList (by simp;omega) fun h' eb=>⟨rfl,I.turned (t':=s.toks) (fun b o hb e=>eb b o hb e) f0 f1 f3 f4 f5⟩
  self:=fun _ _ _ _ _ st h=>wpAny_pyIter_listiter st h
theorem zfC {P:Program}{w:World}{K:PySem.W.Frag}{tg:Expr}(a it:Addr):Turn P w K tg (Itt K a) [it] it (fun i h=>h.IsTupleIter it a i) where
  mem:=by simp
  obj:=fun i h st b hb=>by
    have e:b=it:=by simpa using hb
    subst e
    obtain⟨o,e,c,d⟩:=st
    exact⟨o,e,fun v z=>by rw[d]at z;cases z⟩
  keep:=fun i h h' st k=>st.at fun o e=>k it (by simp) o e
  item:=by
    intro X hP hw hK hc i pins s σ H E I hf st hg
    subst hP hw hK
    obtain⟨xs,x,hq,hx⟩:=hg
    obtain⟨its,rv,p,hz⟩:=I.tuple hq
    obtain⟨u,hu,ru⟩:=rv.get hx
    obtain⟨f0,f1,f2,f3,f4,f5⟩:=hf it (by simp)
    refine wpAny_pyNext_tuple_item st (show s.heap.IsTuple a its.toArray from p) (x:=u) (by simpa using hu) fun h' st' sb=>?_
    have I1:Inv X pins σ H { s with heap:=h' }:=I.turned (t':=s.toks) (fun b o hb e=>(sb.2 b hb).trans e) f0 f1 f3 f4 f5
    obtain⟨o,e,c,d⟩:=id st'
    exact⟨u,rfl,zkH (s:={ s with heap:=h' }) e c d (by decide) ⟨x,H,I1,ru,⟨rfl,fun ys hy=>by rw[I.tuple_inj hy hq];exact hx⟩,st',fun b hb=>(hf b hb).1⟩⟩
  done:=by
    intro X hP hw hK hc i pins s σ H E I hf st hg
    subst hP hw hK
    obtain⟨xs,hq,hx⟩:=hg
    obtain⟨its,rv,p,hz⟩:=I.tuple hq
    obtain⟨f0,f1,f2,f3,f4,f5⟩:=hf it (by simp)
    have hl:=rv.length
    exact wpAny_pyNext_tuple_end (I.ok.hd hc) st (show s.heap.IsTuple a its.toArray from p) (by simp;omega) fun h' eb=>⟨rfl,I.turned (t':=s.toks) (fun b o hb e=>eb b o hb e) f0 f1 f3 f4 f5⟩
  self:=fun _ _ _ _ _ st h=>wpAny_pyIter_tupleiter st h
theorem zfD {P:Program}{w:World}{K:PySem.W.Frag}{tg:Expr}(it:Addr) (lo:Int) (n:Nat):Turn P w K tg (Itr lo n) [it] it (fun i h=>IsRangeIter h it (lo+(i:Nat)*1) ((n:Int)-(i:Nat)) 1) where
  mem:=by simp
  obj:=fun i h st b hb=>by
    have e:b=it:=by simpa using hb
    subst e
    exact⟨_,st,fun v z=>by
      have z':Data.fields _=Data.cell v:=z
      cases z'⟩
  keep:=fun i h h' st k=>k it (by simp) _ st
  item:=by
    intro X hP hw hK hc i pins s σ H E I hf st hg
    subst hP hw hK
    obtain⟨f0,f1,f2,f3,f4,f5⟩:=hf it (by simp)
    have W:=Walks.range (prog:=X.prog) (w:=X.w) (I.ok.hd hc) it lo 1 n
    refine W.item i s _ _ hg st fun v h' tk hv st' kk=>?_
    obtain⟨t,rfl⟩:=hv
    have I1:Inv X pins σ H { s with heap:=h',toks:=tk }:=I.turned (fun b o hb e=>kk b o (by simpa using hb) e) f0 f1 f3 f4 f5
    refine⟨_,rfl,zkH (s:={ s with heap:=h',toks:=tk }) (n:="range_iterator") st' rfl rfl (by decide) ⟨.int (lo+i),H,I1,⟨t,?_⟩,⟨rfl,rfl⟩,st',fun b hb=>(hf b hb).1⟩⟩
    rw[Int.mul_one]
  done:=by
    intro X hP hw hK hc i pins s σ H E I hf st hg
    subst hP hw hK
    obtain⟨f0,f1,f2,f3,f4,f5⟩:=hf it (by simp)
    exact wpAny_pyNext_range_end (I.ok.hd hc) st (by have:n≤i:=hg;omega) fun h' eb=>⟨rfl,I.turned (t':=s.toks) (fun b o hb e=>eb b o hb e) f0 f1 f3 f4 f5⟩
  self:=fun _ _ _ _ _ st h=>wpAny_pyIter_rangeiter st h
section
variable {X:Cx}{tg:Expr}
def zl5 (K:PySem.W.Frag) (tl:TE):TI:=fun σ H R=>tl σ H fun x H1=>∃ a,x=.ref a∧(∃ xs,SqL K H1 a xs)∧R (Itl K a) H1
def iTup (K:PySem.W.Frag) (tl:TE):TI:=fun σ H R=>tl σ H fun x H1=>∃ a,x=.ref a∧(∃ xs,SqT K H1 a xs)∧R (Itt K a) H1
theorem zdh {l:Expr}{tl:TE}(hl:PE X l tl):PI X tg l (zl5 X.K tl):=by
  intro pins s σ H R I h
  refine thn (hl pins s σ H _ I h) fun v s1 ⟨x,H1,I1,r1,q1⟩=>?_
  obtain⟨a,e,⟨xs,hq⟩,q⟩:=q1
  subst e
  cases r1
  obtain⟨its,rv,p,hz⟩:=I1.list hq
  refine wpAny_pyIter_list p.isList ?_
  refine⟨s1.heap.objs.size,[s1.heap.objs.size],_,_,H1,rfl,I1.kept (t':=s1.toks) fun b o e=>Heap.get?_push_of_some _ e,zgn a _,⟨_,Heap.get?_push_size _ rfl,rfl,rfl⟩,fun b hb=>?_,q⟩
  have e:b=s1.heap.objs.size:=by simpa using hb
  subst e
  exact I1.fpOk (Nat.le_refl _) (I1.hok.fresh (Nat.le_refl _))
theorem za8 {l:Expr}{tl:TE}(hl:PE X l tl):PI X tg l (iTup X.K tl):=by
  intro pins s σ H R I h
  refine thn (hl pins s σ H _ I h) fun v s1 ⟨x,H1,I1,r1,q1⟩=>?_
  obtain⟨a,e,⟨xs,hq⟩,q⟩:=q1
  subst e
  cases r1
  obtain⟨its,rv,p,hz⟩:=I1.tuple hq
  refine wpAny_pyIter_tuple (show s1.heap.IsTuple a its.toArray from p) ?_
  refine⟨s1.heap.objs.size,[s1.heap.objs.size],_,_,H1,rfl,I1.kept (t':=s1.toks) fun b o e=>Heap.get?_push_of_some _ e,zfC a _,⟨_,Heap.get?_push_size _ rfl,rfl,rfl⟩,fun b hb=>?_,q⟩
  have e:b=s1.heap.objs.size:=by simpa using hb
  subst e
  exact I1.fpOk (Nat.le_refl _) (I1.hok.fresh (Nat.le_refl _))
theorem ziq {pins:List (Addr × Obj)}{σ:St}{H:Hp}{s:Shared}{R:It→Hp→Prop}{E:Value→Shared→Prop}{lo hi:Int}{t u v:Tok}{tk:Nat}(I:Inv X pins σ H s) (h1:-(2 ^ 62)≤lo) (h2:lo<2 ^ 62) (h3:-(2 ^ 62)≤hi) (h4:hi<2 ^ 62)
    (q:R (Itr lo (hi-lo).toNat) H):wpAny (model X.prog X.w) X.A (pyIter (.ref s.heap.objs.size)) (PIE X pins σ tg R) E { s with heap:=s.heap.push { cls:=.type "range",data:=.fields #[.int lo t,.int hi u,.int 1 v] },toks:=tk }:=by
  refine wpAny_pyIter_range (IsRange.new ..) (small_one h1 h2 h3 h4) ?_
  have I1:Inv X pins σ H { s with heap:=s.heap.push { cls:=.type "range",data:=.fields #[.int lo t,.int hi u,.int 1 v] },toks:=tk }:=I.kept fun b o e=>Heap.get?_push_of_some _ e
  refine⟨(s.heap.push { cls:=.type "range",data:=.fields #[.int lo t,.int hi u,.int 1 v] }).objs.size,[(s.heap.push { cls:=.type "range",data:=.fields #[.int lo t,.int hi u,.int 1 v] }).objs.size],_,_,H,rfl,
    I1.kept (t':=tk) fun b o e=>Heap.get?_push_of_some _ e,zfD _ lo (hi-lo).toNat,?_,fun b hb=>?_,q⟩
  · have e1:lo+((0:Nat):Int)*1=lo:=by simp
    have e2:(((hi-lo).toNat:Nat):Int)-((0:Nat):Int)=Builtin.Range.rangeSize lo hi 1:=by rw[rangeSize_one];split<;>omega
    show IsRangeIter _ _ (lo+((0:Nat):Int)*1) ((((hi-lo).toNat:Nat):Int)-((0:Nat):Int)) 1
    rw[e1,e2]
    exact Heap.get?_push_size _ rfl
  · have e:b=(s.heap.push { cls:=.type "range",data:=.fields #[.int lo t,.int hi u,.int 1 v] }).objs.size:=by simpa using hb
    subst e
    exact I1.fpOk (Nat.le_refl _) (I1.hok.fresh (Nat.le_refl _))
def zl4 (ta:TA):TI:=fun σ H R=>ta σ H fun vs H1=>∃ j:Int,vs=[.int j]∧-(2 ^ 62)≤j∧j<2 ^ 62∧R (Itr 0 j.toNat) H1
theorem pi_range1 {a:Expr}{ta:TA}{p pos:Pos}(hg:Gl X "range") (hm:X.mg "range" = none) (ha:PA X [a] ta) (hs:starEach [a] X.env=[(false,eval a X.env)]:=by rfl):PI X tg (.Call (.Name "range" p) [a] [] pos) (zl4 ta):=by
  intro pins s σ H R I h
  refine Call_ (zaA I hg hm boot_range (PyProof.Rows.callWith_type1 (thn (ha pos pins s σ H _ I h) fun us s1 ⟨vs,H1,I1,r1,q1⟩=>?_) hs rfl))
  obtain⟨j,e,q1,q2,q⟩:=q1
  subst e
  cases r1 with
  | cons r rr =>
    cases rr
    obtain⟨t,rfl⟩:=r
    exact call_range_1 (ziq I1 (by omega) (by omega) q1 q2 (by simpa using q))
def tFor (wi:TI) (g:TG) (tb:TS):TS:=fun D σ H=>wi σ H fun J H1=>∃ W:Nat→Nat→St→Hp→Prop,(∃ m,W 0 m σ H1)∧∀ i m σ H,W i m σ H →
  (J.stop i H∧D.nx σ H)∨(J.go i H∧∃ N:St→Hp→Prop,(∀ σ' H',N σ' H'→∃ m',m'<m∧W (i+1) m' σ' H')∧∀ x H',J.yld i H x H'→g x σ H' fun σ2 H2=>tb { D with nx:=N,ct:=N,bk:=D.nx } σ2 H2)
def zb0 (fp:List Addr) (h:Heap):List (Addr × Obj):=fp.filterMap fun b=>(h.get? b).map fun o=>(b,o)
theorem zax {fp:List Addr}{h:Heap}{b:Addr}{o:Obj}(hb:b∈fp) (e:h.get? b=some o):(b,o)∈zb0 fp h:=List.mem_filterMap.mpr ⟨b,hb,by rw[e];rfl⟩
theorem zhl {fp:List Addr}{h:Heap}{p:Addr × Obj}(hp:p∈zb0 fp h):p.1∈fp∧h.get? p.1=some p.2:=by
  obtain⟨b,hb,e⟩:=List.mem_filterMap.mp hp
  cases q:h.get? b with
  | none=>rw[q]at e;cases e
  | some o =>
    rw[q]at e
    have e':(b,o)=p:=Option.some.inj e
    subst e'
    exact⟨hb,q⟩
theorem Inv.pinned {pins:List (Addr × Obj)}{σ:St}{H:Hp}{s:Shared}{fp:List Addr}(I:Inv X pins σ H s) (hf:∀ b∈fp,FpOk X pins H b) (ho:∀ b∈fp,∃ o,s.heap.get? b=some o∧∀ v,o.data≠.cell v):Inv X (pins++zb0 fp s.heap) σ H s :=
  I.pins_of fun p hp=>(List.mem_append.mp hp).elim (fun z=>I.pin p (List.mem_append_right _ z)) fun z=>by
    obtain⟨hb,e⟩:=zhl z
    obtain⟨f0,f1,f2,_⟩:=hf p.1 hb
    obtain⟨o,e',d⟩:=ho p.1 hb
    rw[e]at e';cases e'
    exact⟨e,f0,f1,f2,d⟩
theorem Inv.unpinned {pins pl:List (Addr × Obj)}{σ:St}{H:Hp}{s:Shared}(I:Inv X (pins++pl) σ H s):Inv X pins σ H s:=I.pins_of fun p hp=>I.pin p (List.mem_append_right _ (List.mem_append_left _ hp))
theorem ps_for {iter:Expr}{body:List Stmt}{wi:TI}{g:TG}{tb:TS}{pos:Pos}(hp:PassesOwn (model X.prog X.w) X.A X.env X.xe) (hc:X.calm=true) (hi:PI X tg iter wi) (hg:PG X tg g) (hb:PSs X body tb)
    (hs:∀ x,foldedSetIterable iter X.env x=pure x:=by intro _;rfl):PS X (.For tg iter body [] pos) (tFor wi g tb):=by
  intro pins s σ H D I h
  refine wpAny_For (thn (hi pins s σ H _ I h) fun v s1 h1=>thn h1 fun itv s2 h2=>?_) hs
  obtain⟨it,fp,tn,J,H2,e,I2,T,st2,f2,W,⟨m0,w0⟩,turn⟩:=h2
  subst e
  have stat:∀ {H':Hp},(∀ b∈fp,H' b=none)→∀ b∈fp,FpOk X pins H' b:=fun hn b hb=>⟨hn b hb,(f2 b hb).2⟩
  refine codeAny_forLoop_any (fun n s'=>∃ i σ' H',Inv X pins σ' H' s'∧tn i s'.heap∧(∀ b∈fp,H' b=none)∧W i n σ' H') ?_ m0 ⟨0,σ,H2,I2,st2,fun b hb=>(f2 b hb).1,w0⟩
  rintro n s3 ⟨i,σ3,H3,I3,st3,fr3,w3⟩
  rcases turn i n σ3 H3 w3 with ⟨stop,qn⟩|⟨go,N,hN,step⟩
  · refine wpAny_passesOwn hp (thn (T.done X rfl rfl rfl hc i pins s3 σ3 H3 X.xe I3 (stat fr3) st3 stop) fun r s4 ⟨hr,I4⟩=>?_)
    subst hr
    exact wpAny_execs_nil ⟨σ3,H3,I4,qn⟩
  · refine wpAny_passesOwn hp (thn (T.item X rfl rfl rfl hc i pins s3 σ3 H3 X.xe I3 (stat fr3) st3 go) fun r s4 ⟨u,hr,h4⟩=>?_)
    subst hr
    refine wpAny_passesOwn hp (thn h4 fun _ s5 ⟨x,H5,I5,r5,y5,st5,fr5⟩=>?_)
    have I5':=I5.pinned (stat fr5) (T.obj _ _ st5)
    refine wpAny_passesOwn hp (thn (hg _ s5 σ3 H5 x u _ I5' r5 (step x H5 y5)) fun _ s6 ⟨σ6,H6,I6,q6⟩=>?_)
    refine wpAny_passesOwn hp (thn (hb _ s6 σ6 H6 _ I6 q6) fun f s7 q7=>?_)
    have again:∀ {σ7:St}{H7:Hp},Inv X (pins++zb0 fp s5.heap) σ7 H7 s7→N σ7 H7→∃ m,m<n∧∃ i σ' H',Inv X pins σ' H' s7∧tn i s7.heap∧(∀ b∈fp,H' b=none)∧W i m σ' H':=fun {σ7 H7} I7 n7=>by
      obtain⟨m',hm,w7⟩:=hN σ7 H7 n7
      refine⟨m',hm,i+1,σ7,H7,I7.unpinned,T.keep _ _ _ st5 fun b hb o e=>(I7.pin (b,o) (List.mem_append_right _ (List.mem_append_right _ (zax hb e)))).1,fun b hb=>?_,w7⟩
      obtain⟨o,e,d⟩:=T.obj _ _ st5 b hb
      exact(I7.pin (b,o) (List.mem_append_right _ (List.mem_append_right _ (zax hb e)))).2.1
    cases f with
    | next=>obtain⟨σ7,H7,I7,n7⟩:=q7;exact again I7 n7
    | cont=>obtain⟨σ7,H7,I7,n7⟩:=q7;exact again I7 n7
    | brk=>obtain⟨σ7,H7,I7,q7⟩:=q7;exact⟨σ7,H7,I7.unpinned,q7⟩
    | ret v=>obtain⟨x7,σ7,H7,I7,r7,q7⟩:=q7;exact⟨x7,σ7,H7,I7.unpinned,r7,q7⟩
end
theorem zfq {K:PySem.W.Frag}{a:Addr}{xs:List V}{g:TG}{tb:TS}{D:Ends}{σ:St}{H:Hp}(Pv:Nat→St→Hp→Prop) (h0:Pv 0 σ H) (hl:∀ i σ H,i≤xs.length→Pv i σ H→SqL K H a xs)
    (hs:∀ i x σ H,xs[i]?=some x→Pv i σ H→g x σ H fun σ2 H2=>tb { D with nx:=Pv (i+1),ct:=Pv (i+1),bk:=D.nx } σ2 H2) (hd:∀ σ H,Pv xs.length σ H→D.nx σ H) :
    ∃ W:Nat→Nat→St→Hp→Prop,(∃ m,W 0 m σ H)∧∀ i m σ H,W i m σ H →
      ((Itl K a).stop i H∧D.nx σ H)∨((Itl K a).go i H∧∃ N:St→Hp→Prop,(∀ σ' H',N σ' H'→∃ m',m'<m∧W (i+1) m' σ' H')∧∀ x H',(Itl K a).yld i H x H'→g x σ H' fun σ2 H2=>tb { D with nx:=N,ct:=N,bk:=D.nx } σ2 H2):=by
  refine⟨fun i m σ H=>m=xs.length-i∧i≤xs.length∧Pv i σ H,⟨xs.length,by simp,Nat.zero_le _,h0⟩,?_⟩
  rintro i m σ H ⟨rfl,hi,p⟩
  have q:=hl i σ H hi p
  by_cases hlt:i<xs.length
  · refine .inr ⟨⟨xs,xs[i],q,by simp[hlt]⟩,Pv (i+1),fun σ' H' p'=>⟨xs.length-(i+1),by omega,rfl,hlt,p'⟩,fun x H' y=>?_⟩
    obtain⟨e,y⟩:=y
    subst e
    exact hs i x σ _ (y xs q) p
  · have e:i=xs.length:=by omega
    subst e
    exact .inl ⟨⟨xs,q,Nat.le_refl _⟩,hd σ H p⟩
theorem zbV {K:PySem.W.Frag}{a:Addr}{xs:List V}{g:TG}{tb:TS}{D:Ends}{σ:St}{H:Hp}(Pv:Nat→St→Hp→Prop) (h0:Pv 0 σ H) (hl:∀ i σ H,i≤xs.length→Pv i σ H→SqT K H a xs)
    (hs:∀ i x σ H,xs[i]?=some x→Pv i σ H→g x σ H fun σ2 H2=>tb { D with nx:=Pv (i+1),ct:=Pv (i+1),bk:=D.nx } σ2 H2) (hd:∀ σ H,Pv xs.length σ H→D.nx σ H) :
    ∃ W:Nat→Nat→St→Hp→Prop,(∃ m,W 0 m σ H)∧∀ i m σ H,W i m σ H →
      ((Itt K a).stop i H∧D.nx σ H)∨((Itt K a).go i H∧∃ N:St→Hp→Prop,(∀ σ' H',N σ' H'→∃ m',m'<m∧W (i+1) m' σ' H')∧∀ x H',(Itt K a).yld i H x H'→g x σ H' fun σ2 H2=>tb { D with nx:=N,ct:=N,bk:=D.nx } σ2 H2):=by
  refine⟨fun i m σ H=>m=xs.length-i∧i≤xs.length∧Pv i σ H,⟨xs.length,by simp,Nat.zero_le _,h0⟩,?_⟩
  rintro i m σ H ⟨rfl,hi,p⟩
  have q:=hl i σ H hi p
  by_cases hlt:i<xs.length
  · refine .inr ⟨⟨xs,xs[i],q,by simp[hlt]⟩,Pv (i+1),fun σ' H' p'=>⟨xs.length-(i+1),by omega,rfl,hlt,p'⟩,fun x H' y=>?_⟩
    obtain⟨e,y⟩:=y
    subst e
    exact hs i x σ _ (y xs q) p
  · have e:i=xs.length:=by omega
    subst e
    exact .inl ⟨⟨xs,q,Nat.le_refl _⟩,hd σ H p⟩
theorem zav {lo:Int}{n:Nat}{g:TG}{tb:TS}{D:Ends}{σ:St}{H:Hp}(Pv:Nat→St→Hp→Prop) (h0:Pv 0 σ H)
    (hs:∀ i σ H,i<n→Pv i σ H→g (.int (lo+i)) σ H fun σ2 H2=>tb { D with nx:=Pv (i+1),ct:=Pv (i+1),bk:=D.nx } σ2 H2) (hd:∀ σ H,Pv n σ H→D.nx σ H) :
    ∃ W:Nat→Nat→St→Hp→Prop,(∃ m,W 0 m σ H)∧∀ i m σ H,W i m σ H →
      ((Itr lo n).stop i H∧D.nx σ H)∨((Itr lo n).go i H∧∃ N:St→Hp→Prop,(∀ σ' H',N σ' H'→∃ m',m'<m∧W (i+1) m' σ' H')∧∀ x H',(Itr lo n).yld i H x H'→g x σ H' fun σ2 H2=>tb { D with nx:=N,ct:=N,bk:=D.nx } σ2 H2):=by
  refine⟨fun i m σ H=>m=n-i∧i≤n∧Pv i σ H,⟨n,by simp,Nat.zero_le _,h0⟩,?_⟩
  rintro i m σ H ⟨rfl,hi,p⟩
  by_cases hlt:i<n
  · refine .inr ⟨hlt,Pv (i+1),fun σ' H' p'=>⟨n-(i+1),by omega,rfl,hlt,p'⟩,fun x H' y=>?_⟩
    obtain⟨e,y⟩:=y
    subst e y
    exact hs i σ _ hlt p
  · have e:i=n:=by omega
    subst e
    exact .inl ⟨Nat.le_refl _,hd σ H p⟩
abbrev R2:=V→V→Hp→VK→Prop
def OpR (X:Cx) (f:Value→Value→Sem Value) (r:R2):Prop :=
  ∀ (pins:List (Addr × Obj)) (s:Shared) (σ:St) (H:Hp) (x y:V) (v u:Value) (Q:VK),Inv X pins σ H s→RelV x v→RelV y u→r x y H Q →
    wpAny (model X.prog X.w) X.A (f v u) (EP X pins σ Q) X.xe s
def UnR (X:Cx) (f:Value→Sem Value) (r:V→Hp→VK→Prop):Prop :=
  ∀ (pins:List (Addr × Obj)) (s:Shared) (σ:St) (H:Hp) (x:V) (v:Value) (Q:VK),Inv X pins σ H s→RelV x v→r x H Q →
    wpAny (model X.prog X.w) X.A (f v) (EP X pins σ Q) X.xe s
def CallR (X:Cx) (f:Value) (r:List V→Hp→VK→Prop):Prop :=
  ∀ (pins:List (Addr × Obj)) (s:Shared) (σ:St) (H:Hp) (xs:List V) (us:List Value) (Q:VK),Inv X pins σ H s→Vals xs us→r xs H Q →
    wpAny (model X.prog X.w) X.A (call f us) (EP X pins σ Q) X.xe s
def TruR (X:Cx) (r:V→Hp→(Bool→Hp→Prop)→Prop):Prop :=
  ∀ (pins:List (Addr × Obj)) (s:Shared) (σ:St) (H:Hp) (x:V) (v:Value) (Q:Bool→Hp→Prop),Inv X pins σ H s→RelV x v→r x H Q →
    wpAny (model X.prog X.w) X.A (truthy v) (TP X pins σ Q) X.xe s
def tOp (r:R2) (ta tb:TE):TE:=fun σ H Q=>ta σ H fun x H1=>tb σ H1 fun y H2=>r x y H2 Q
def tUn (r:V→Hp→VK→Prop) (ta:TE):TE:=fun σ H Q=>ta σ H fun x H1=>r x H1 Q
def rI (C:Int→Int→Prop) (g:Int→Int→V):R2:=fun x y H Q=>∃ i j,x=.int i∧y=.int j∧C i j∧Q (g i j) H
def rI0 (g:Int→Int→V):R2:=fun x y H Q=>∃ i j,x=.int i∧y=.int j∧Q (g i j) H
def rU (g:Int→V):V→Hp→VK→Prop:=fun x H Q=>∃ i,x=.int i∧Q (g i) H
section
variable {X:Cx}{a b c:Expr}{ta tb tc:TE}{pos:Pos}
theorem binT (ha:PE X a ta) (hb:PE X b tb) {pins:List (Addr × Obj)}{s:Shared}{σ:St}{H:Hp}{R:V→V→Hp→Prop}(I:Inv X pins σ H s)
    (h:ta σ H fun x H1=>tb σ H1 fun y H2=>R x y H2) {Q:Value→Shared→Prop}{f:Value→Value→Sem Value}
    (hf:∀ v u s2 x y H2,Inv X pins σ H2 s2→RelV x v→RelV y u→R x y H2→wpAny (model X.prog X.w) X.A (f v u) Q X.xe s2) :
    wpAny (model X.prog X.w) X.A (eval a X.env) (fun v s₁=>wpAny (model X.prog X.w) X.A (eval b X.env) (fun u s₂=>wpAny (model X.prog X.w) X.A (f v u) Q X.xe s₂) X.xe s₁) X.xe s:=by
  refine thn (ha pins s σ H _ I h) fun v s1 ⟨x,H1,I1,r1,q1⟩=>?_
  refine thn (hb pins s1 σ H1 _ I1 q1) fun u s2 ⟨y,H2,I2,r2,q2⟩=>?_
  exact hf v u s2 x y H2 I2 r1 r2 q2
theorem pe_op {op:Operator}{r:R2}(ho:OpR X (binaryOp op) r) (ha:PE X a ta) (hb:PE X b tb):PE X (.BinOp a op b pos) (tOp r ta tb):=by
  intro pins s σ H Q I h
  exact wpAny_BinOp (binT ha hb I h fun v u s2 x y H2 I2 rx ry q=>ho pins s2 σ H2 x y v u Q I2 rx ry q)
theorem zle {op:UnaryOp}{r:V→Hp→VK→Prop}(ho:UnR X (unaryOp op) r) (ha:PE X a ta):PE X (.UnaryOp op a pos) (tUn r ta):=by
  intro pins s σ H Q I h
  exact UnaryOp_ (thn (ha pins s σ H _ I h) fun v s1 ⟨x,H1,I1,r1,q1⟩=>ho pins s1 σ H1 x v Q I1 r1 q1)
theorem opI {f:Value→Value→Sem Value}{C:Int→Int→Prop}{g:Int→Int→Int}
    (rule:∀ (i j:Int) (t u:Tok) (s:Shared) (Q:Value→Shared→Prop) (E:Value→Shared→Prop),C i j→Q (.int (g i j) s.toks) { s with toks:=s.toks+1 }→wpAny (model X.prog X.w) X.A (f (.int i t) (.int j u)) Q E s) :
    OpR X f (rI C fun i j=>.int (g i j)):=by
  intro pins s σ H x y v u Q I rx ry h
  obtain⟨i,j,rfl,rfl,hc,q⟩:=h
  obtain⟨t,rfl⟩:=rx
  obtain⟨t',rfl⟩:=ry
  exact rule i j t t' s _ _ hc ⟨.int (g i j),H,I.tok _,⟨_,rfl⟩,q⟩
theorem opI0 {f:Value→Value→Sem Value}{g:Int→Int→Int}
    (rule:∀ (i j:Int) (t u:Tok) (s:Shared) (Q:Value→Shared→Prop) (E:Value→Shared→Prop),Q (.int (g i j) s.toks) { s with toks:=s.toks+1 }→wpAny (model X.prog X.w) X.A (f (.int i t) (.int j u)) Q E s) :
    OpR X f (rI0 fun i j=>.int (g i j)):=by
  intro pins s σ H x y v u Q I rx ry h
  obtain⟨i,j,rfl,rfl,q⟩:=h
  obtain⟨t,rfl⟩:=rx
  obtain⟨t',rfl⟩:=ry
  exact rule i j t t' s _ _ ⟨.int (g i j),H,I.tok _,⟨_,rfl⟩,q⟩
theorem opB0 {f:Value→Value→Sem Value}{g:Int→Int→Bool}
    (rule:∀ (i j:Int) (t u:Tok) (s:Shared) (Q:Value→Shared→Prop) (E:Value→Shared→Prop),Q (.bool (g i j)) s→wpAny (model X.prog X.w) X.A (f (.int i t) (.int j u)) Q E s) :
    OpR X f (rI0 fun i j=>.bl (g i j)):=by
  intro pins s σ H x y v u Q I rx ry h
  obtain⟨i,j,rfl,rfl,q⟩:=h
  obtain⟨t,rfl⟩:=rx
  obtain⟨t',rfl⟩:=ry
  exact rule i j t t' s _ _ ⟨.bl (g i j),H,I,rfl,q⟩
def CDiv (i j:Int):Prop:=0<j∧j<1073741824
def CPow (i j:Int):Prop:=0≤j∧j≤1000000∧i.natAbs<2 ^ 64
def CMul (i j:Int):Prop:=(-(2 ^ 64)<i∧i<2 ^ 64)∨(-(2 ^ 64)<j∧j<2 ^ 64)
theorem CMul.ok {i j:Int}(h:CMul i j):IntMulOk i j:=by
  rcases h with ⟨h1,h2⟩|⟨h1,h2⟩
  · exact .of_left (intBits_le_64 h1 h2)
  · exact .of_right (intBits_le_64 h1 h2)
theorem op_add:OpR X (binaryOp .Add) (rI0 fun i j=>.int (i+j)):=opI0 fun _ _ _ _ _ _ _ q=>add_int q
theorem zhb:OpR X (binaryOp .Sub) (rI0 fun i j=>.int (i-j)):=opI0 fun _ _ _ _ _ _ _ q=>sub_int q
theorem op_mul:OpR X (binaryOp .Mult) (rI CMul fun i j=>.int (i*j)):=opI fun _ _ _ _ _ _ _ hc q=>mul_int q hc.ok
theorem op_fdiv:OpR X (binaryOp .FloorDiv) (rI CDiv fun i j=>.int (i / j)):=opI fun i j _ _ _ _ _ hc q=>by
  have h1:(0:Int)<j:=hc.1
  have h2:j<1073741824:=hc.2
  exact floordiv_int (by omega) (by rw[Int.fdiv_eq_ediv_of_nonneg i (by omega)];exact q) (.inl (PyProof.noPylong_small (by omega)))
theorem op_mod:OpR X (binaryOp .Mod) (rI (fun _ j=>0<j) fun i j=>.int (i%j)):=opI fun i j _ _ _ _ _ hc q=>by
  have h1:(0:Int)<j:=hc
  exact mod_int' (by omega) (by rw[Int.fmod_eq_emod_of_nonneg i (by omega)];exact q)
theorem zlh:OpR X (binaryOp .Pow) (rI CPow fun i j=>.int (i ^ j.toNat)):=opI fun _ _ _ _ _ _ _ hc q=>pow_int_small hc.1 hc.2.1 hc.2.2 q
theorem zjm:OpR X (binaryOp .LShift) (rI CPow fun i j=>.int (i*2 ^ j.toNat)):=opI fun _ _ _ _ _ _ _ hc q=>lshift_int_small hc.1 hc.2.1 hc.2.2 q
theorem zhG:OpR X (inplaceOp .Mult) (rI CMul fun i j=>.int (i*j)):=opI fun _ _ _ _ _ _ _ hc q=>imul_int q hc.ok
theorem unI {f:Value→Sem Value}{g:Int→Int}
    (rule:∀ (i:Int) (t:Tok) (s:Shared) (Q:Value→Shared→Prop) (E:Value→Shared→Prop),Q (.int (g i) s.toks) { s with toks:=s.toks+1 }→wpAny (model X.prog X.w) X.A (f (.int i t)) Q E s) :
    UnR X f (rU fun i=>.int (g i)):=by
  intro pins s σ H x v Q I rx h
  obtain⟨i,rfl,q⟩:=h
  obtain⟨t,rfl⟩:=rx
  exact rule i t s _ _ ⟨.int (g i),H,I.tok _,⟨_,rfl⟩,q⟩
theorem zjc:UnR X (unaryOp .USub) (rU fun i=>.int (-i)):=unI fun _ _ _ _ _ q=>neg_int q
end
def scal:V→V→Bool
  | .non,.non=>true|.non,.int _=>true|.int _,.non=>true|.non,.bl _=>true|.bl _,.non=>true|.non,.str _=>true|.str _,.non=>true
  | .int _,.int _=>true|.bl _,.bl _=>true|.str _,.str _=>true|.byt _,.byt _=>true
  | .int _,.str _=>true|.str _,.int _=>true|.bl _,.str _=>true|.str _,.bl _=>true
  | _,_=>false
def rEq:R2:=fun x y H Q=>scal x y=true∧Q (.bl (decide (x=y))) H
def rNe:R2:=fun x y H Q=>scal x y=true∧Q (.bl (!decide (x=y))) H
theorem zhT {i j:Int}:decide (V.int i=V.int j)=(i == j):=by
  rw[Bool.eq_iff_iff]
  simp
theorem zjs {i j:Bool}:decide (V.bl i=V.bl j)=(i == j):=by
  rw[Bool.eq_iff_iff]
  simp
theorem zhS {i j:Str}:decide (V.str i=V.str j)=(i == j):=by
  rw[Bool.eq_iff_iff]
  simp
theorem zhU {i j:Array UInt8}:decide (V.byt i=V.byt j)=(i.toList == j.toList):=by
  rw[Bool.eq_iff_iff]
  cases i
  cases j
  simp
section
variable {X:Cx}{a b c:Expr}{ta tb tc:TE}{pos:Pos}
theorem zah {pins:List (Addr × Obj)}{σ:St}{H:Hp}{s:Shared}{Q:VK}{k k':Bool}(I:Inv X pins σ H s) (q:Q (.bl k) H) (e:k=k'):EP X pins σ Q (.bool k') s:=by
  subst e
  exact⟨.bl k,H,I,rfl,q⟩
theorem op_eq:OpR X (compareOp .Eq) rEq:=by
  intro pins s σ H x y v u Q I rx ry h
  obtain⟨hs,q⟩:=h
  cases x with
  | non =>
    cases rx
    cases y with
    | non=>cases ry;exact PySem.EqNone.eq_none_none (zah I q (by simp))
    | bl j=>cases ry;exact PySem.EqNone.eq_none_bool (zah I q (by simp))
    | int j=>obtain⟨t',rfl⟩:=ry;exact PySem.EqNone.eq_none_int (zah I q (by simp))
    | str j=>obtain⟨t',rfl⟩:=ry;exact PySem.EqNone.eq_none_str (zah I q (by simp))
    | _=>exact absurd (show false=true from hs) Bool.false_ne_true
  | bl i =>
    cases rx
    cases y with
    | non=>cases ry;exact PySem.EqNone.eq_bool_none (zah I q (by simp))
    | bl j=>cases ry;exact eq_bool (zah I q zjs)
    | str j=>obtain⟨t',rfl⟩:=ry;exact PySem.EqMixed.eq_bool_str (zah I q (by simp))
    | _=>exact absurd (show false=true from hs) Bool.false_ne_true
  | int i =>
    obtain⟨t,rfl⟩:=rx
    cases y with
    | non=>cases ry;exact PySem.EqNone.eq_int_none (zah I q (by simp))
    | int j=>obtain⟨t',rfl⟩:=ry;exact eq_int (zah I q zhT)
    | str j=>obtain⟨t',rfl⟩:=ry;exact PySem.EqMixed.eq_int_str (zah I q (by simp))
    | _=>exact absurd (show false=true from hs) Bool.false_ne_true
  | str i =>
    obtain⟨t,rfl⟩:=rx
    cases y with
    | non=>cases ry;exact PySem.EqNone.eq_str_none (zah I q (by simp))
    | bl j=>cases ry;exact PySem.EqMixed.eq_str_bool (zah I q (by simp))
    | int j=>obtain⟨t',rfl⟩:=ry;exact PySem.EqMixed.eq_str_int (zah I q (by simp))
    | str j=>obtain⟨t',rfl⟩:=ry;exact eq_str (zah I q zhS)
    | _=>exact absurd (show false=true from hs) Bool.false_ne_true
  | byt i =>
    obtain⟨t,rfl⟩:=rx
    cases y with
    | byt j=>obtain⟨t',rfl⟩:=ry;exact PySem.W.eq_bytes (zah I q zhU)
    | _=>exact absurd (show false=true from hs) Bool.false_ne_true
  | _=>cases y<;>exact absurd (show false=true from hs) Bool.false_ne_true
theorem zli:OpR X (compareOp .NotEq) rNe:=by
  intro pins s σ H x y v u Q I rx ry h
  obtain⟨hs,q⟩:=h
  cases x with
  | non =>
    cases rx
    cases y with
    | non=>cases ry;exact PySem.EqNone.ne_none_none (zah I q (by simp))
    | bl j=>cases ry;exact PySem.EqNone.ne_none_bool (zah I q (by simp))
    | int j=>obtain⟨t',rfl⟩:=ry;exact PySem.EqNone.ne_none_int (zah I q (by simp))
    | str j=>obtain⟨t',rfl⟩:=ry;exact PySem.EqNone.ne_none_str (zah I q (by simp))
    | _=>exact absurd (show false=true from hs) Bool.false_ne_true
  | bl i =>
    cases rx
    cases y with
    | non=>cases ry;exact PySem.EqNone.ne_bool_none (zah I q (by simp))
    | bl j=>cases ry;exact ne_bool (zah I q (congrArg not zjs))
    | str j=>obtain⟨t',rfl⟩:=ry;exact PySem.EqMixed.ne_bool_str (zah I q (by simp))
    | _=>exact absurd (show false=true from hs) Bool.false_ne_true
  | int i =>
    obtain⟨t,rfl⟩:=rx
    cases y with
    | non=>cases ry;exact PySem.EqNone.ne_int_none (zah I q (by simp))
    | int j=>obtain⟨t',rfl⟩:=ry;exact ne_int (zah I q (congrArg not zhT))
    | str j=>obtain⟨t',rfl⟩:=ry;exact PySem.EqMixed.ne_int_str (zah I q (by simp))
    | _=>exact absurd (show false=true from hs) Bool.false_ne_true
  | str i =>
    obtain⟨t,rfl⟩:=rx
    cases y with
    | non=>cases ry;exact PySem.EqNone.ne_str_none (zah I q (by simp))
    | bl j=>cases ry;exact PySem.EqMixed.ne_str_bool (zah I q (by simp))
    | int j=>obtain⟨t',rfl⟩:=ry;exact PySem.EqMixed.ne_str_int (zah I q (by simp))
    | str j=>obtain⟨t',rfl⟩:=ry;exact ne_str (zah I q (congrArg not zhS))
    | _=>exact absurd (show false=true from hs) Bool.false_ne_true
  | byt i =>
    obtain⟨t,rfl⟩:=rx
    cases y with
    | byt j=>obtain⟨t',rfl⟩:=ry;exact PySem.W.ne_bytes (zah I q (congrArg not zhU))
    | _=>exact absurd (show false=true from hs) Bool.false_ne_true
  | _=>cases y<;>exact absurd (show false=true from hs) Bool.false_ne_true
theorem zdi:OpR X (compareOp .Lt) (rI0 fun i j=>.bl (decide (i<j))):=opB0 fun _ _ _ _ _ _ _ q=>lt_int q
theorem zlU:OpR X (compareOp .LtE) (rI0 fun i j=>.bl (decide (i≤j))):=opB0 fun _ _ _ _ _ _ _ q=>le_int q
theorem zkb:OpR X (compareOp .Gt) (rI0 fun i j=>.bl (decide (j<i))):=opB0 fun _ _ _ _ _ _ _ q=>gt_int q
theorem zlV:OpR X (compareOp .GtE) (rI0 fun i j=>.bl (decide (j≤i))):=opB0 fun _ _ _ _ _ _ _ q=>ge_int q
theorem op_isN:OpR X (compareOp .Is) (fun x y H Q=>y=.non∧Q (.bl (decide (x=.non))) H):=by
  intro pins s σ H x y v u Q I rx ry h
  obtain⟨rfl,q⟩:=h
  cases ry
  refine is_none_gen (zah I q ?_)
  cases x<;>first
    | (cases rx;rfl)
    | (obtain⟨t,rfl⟩:=rx;rfl)
theorem op_notN:OpR X (compareOp .IsNot) (fun x y H Q=>y=.non∧Q (.bl (!decide (x=.non))) H):=by
  intro pins s σ H x y v u Q I rx ry h
  obtain⟨rfl,q⟩:=h
  cases ry
  refine isnot_none_gen (zah I q ?_)
  cases x<;>first
    | (cases rx;rfl)
    | (obtain⟨t,rfl⟩:=rx;rfl)
theorem nomark (b:Expr) {op:CmpOp}(h:op≠.In:=by decide) (h2:op≠.NotIn:=by decide):behindInMarks op b=false:=by
  have e1:(op == CmpOp.In)=false:=by cases op<;>first|rfl|exact absurd rfl h
  have e2:(op == CmpOp.NotIn)=false:=by cases op<;>first|rfl|exact absurd rfl h2
  cases b<;>simp[behindInMarks,e1,e2]
theorem pe_cmpR {op:CmpOp}{r:R2}(ho:OpR X (compareOp op) r) (ha:PE X a ta) (hb:PE X b tb) (hm:behindInMarks op b=false):PE X (.Compare a [op] [b] pos) (tOp r ta tb):=by
  intro pins s σ H Q I h
  exact wpAny_Compare1 (binT ha hb I h fun v u s2 x y H2 I2 rx ry q=>ho pins s2 σ H2 x y v u Q I2 rx ry q) hm
def zlM (t:TE):TT:=fun σ H Q=>t σ H fun x H'=>∃ k,x=.bl k∧Q k H'
theorem pt_cmpR {op:CmpOp}{r:R2}(ho:OpR X (compareOp op) r) (ha:PE X a ta) (hb:PE X b tb) (hm:behindInMarks op b=false):PT X (.Compare a [op] [b] pos) (zlM (tOp r ta tb)):=by
  intro pins s σ H Q I h
  refine wpAny_isTrue_Compare1 (thn (ha pins s σ H _ I h) fun v s1 ⟨x,H1,I1,r1,q1⟩=>thn (hb pins s1 σ H1 _ I1 q1) fun u s2 ⟨y,H2,I2,r2,q2⟩ =>
    thn (ho pins s2 σ H2 x y v u _ I2 r1 r2 q2) fun c s3 ⟨z,H3,I3,r3,k,e,q3⟩=>?_) hm
  subst e
  cases r3
  exact wpAny_truthy_bool ⟨H3,I3,q3⟩
def zk4 (r r':R2) (ta tb tc:TE):TE:=fun σ H Q=>ta σ H fun x H1=>tb σ H1 fun y H2=>r x y H2 fun z H3=>∃ k,z=.bl k ∧
  (if k=true then tc σ H3 fun w' H4=>r' y w' H4 Q else Q (.bl false) H3)
theorem ziu {op op':CmpOp}{r r':R2}(ho:OpR X (compareOp op) r) (ho':OpR X (compareOp op') r') (ha:PE X a ta) (hb:PE X b tb) (hc:PE X c tc)
    (hm:lastMarks [op,op'] [b,c]=false:=by with_unfolding_all rfl):PE X (.Compare a [op,op'] [b,c] pos) (zk4 r r' ta tb tc):=by
  intro pins s σ H Q I h
  refine Compare_chain (thn (ha pins s σ H _ I h) fun v s1 ⟨x,H1,I1,r1,q1⟩=>chain_link (thn (hb pins s1 σ H1 _ I1 q1) fun u s2 ⟨y,H2,I2,r2,q2⟩ =>
    thn (ho pins s2 σ H2 x y v u _ I2 r1 r2 q2) fun d s3 ⟨z,H3,I3,r3,k,e,q3⟩=>?_)) hm
  subst e
  cases r3
  refine wpAny_truthy_bool ?_
  cases k with
  | false=>exact ite_ff ⟨.bl false,H3,I3,rfl,q3⟩
  | true=>exact ite_tt (chain_last (thn (hc pins s3 σ H3 _ I3 q3) fun w' s4 ⟨z',H4,I4,r4,q4⟩=>ho' pins s4 σ H4 y z' u w' Q I4 r2 r4 q4))
def TruV (K:PySem.W.Frag) (x:V) (H:Hp) (k:Bool):Prop :=
  match x with
  | .non=>k=false
  | .bl b=>k=b
  | .int i=>k=(i != 0)
  | .str y=>y.length≤sizeLine∧k=((y.length:Int) != 0)
  | .byt y=>y.size≤sizeLine∧k=((y.size:Int) != 0)
  | .ref p=>(∃ xs,SqL K H p xs∧k = !xs.isEmpty)∨(∃ xs,SqT K H p xs∧k = !xs.isEmpty)∨∃ kvs,H p=some (.dK kvs)∧k = !kvs.isEmpty
  | _=>False
theorem zfY {κ:Type}{kvs:List (κ × V)}{vs:List (κ × Value)}(r:KV kvs vs):(!vs.isEmpty) = !kvs.isEmpty:=by
  cases r<;>rfl
theorem zcO {xs:List V}{its:List Value}(r:Vals xs its):(!its.toArray.isEmpty) = !xs.isEmpty:=by
  cases r<;>simp
theorem zdP:(sizeLine:Nat)<2 ^ 63:=by rw[sizeLine_eq];decide
theorem zkZ:TruR X (fun x H Q=>∃ k,TruV X.K x H k∧Q k H):=by
  intro pins s σ H x v Q I rx h
  obtain⟨k,e,q⟩:=h
  have hl:=zdP
  have hs:sizeLine=16777216:=sizeLine_eq
  cases x with
  | non =>
    cases rx
    have e':k=false:=e
    subst e'
    exact truthy_none ⟨H,I,q⟩
  | bl b =>
    cases rx
    have e':k=b:=e
    subst e'
    exact wpAny_truthy_bool ⟨H,I,q⟩
  | int i =>
    obtain⟨t,rfl⟩:=rx
    have e':k=(i != 0):=e
    subst e'
    exact PySem.P.truthy_int ⟨H,I,q⟩
  | str y =>
    obtain⟨t,rfl⟩:=rx
    obtain⟨hy,e'⟩:y.length≤sizeLine∧k=((y.length:Int) != 0):=e
    subst e'
    exact PySem.P.truthy_str (by omega) ⟨H,I.tok _,q⟩
  | byt y =>
    obtain⟨t,rfl⟩:=rx
    obtain⟨hy,e'⟩:y.size≤sizeLine∧k=((y.size:Int) != 0):=e
    subst e'
    exact PySem.W.truthy_bytes (by omega) ⟨H,I.tok _,q⟩
  | ref p =>
    cases rx
    have e':(∃ xs,SqL X.K H p xs∧k = !xs.isEmpty)∨(∃ xs,SqT X.K H p xs∧k = !xs.isEmpty)∨∃ kvs,H p=some (.dK kvs)∧k = !kvs.isEmpty:=e
    rcases e' with ⟨xs,hx,e'⟩|⟨xs,hx,e'⟩|⟨kvs,hx,e'⟩
    · subst e'
      obtain⟨its,r,pl,hz⟩:=I.list hx
      have hlen:=r.length
      exact wpAny_truthy_list pl.isList (by simp only[List.size_toArray];omega) ⟨H,I.tok _,by rw[zcO r];exact q⟩
    · subst e'
      obtain⟨its,r,pl,hz⟩:=I.tuple hx
      have hlen:=r.length
      exact truthy_tuple pl (by simp only[List.size_toArray];omega) ⟨H,I.tok _,by rw[zcO r];exact q⟩
    · subst e'
      obtain⟨hz,hS,vs,r,m⟩:kvs.length≤sizeLine∧(p == sysModules)=false∧∃ vs,KV kvs vs∧s.heap.DictOf (zeE X.prog X.w) p vs:=I.hok p _ hx
      have hlen:kvs.length=vs.length:=Paired.length r
      exact wpAny_truthy_dict hS m (by omega) ⟨H,I.tok _,by rw[zfY r];exact q⟩
  | _=>exact(show False from e).elim
theorem pt_truth (ha:PE X a ta) (he:∀ whole,isTrue a X.env whole=(do let v ← whole;standAt a.pos;holding [v] (truthy v))) :
    PT X a (fun σ H Q=>ta σ H fun x H'=>∃ k,TruV X.K x H' k∧Q k H'):=by
  intro pins s σ H Q I h
  exact isTrue_plain (thn (ha pins s σ H _ I h) fun v s1 ⟨x,H1,I1,r1,q1⟩=>zkZ pins s1 σ H1 x v Q I1 r1 q1) (he _)
theorem zfM:OpR X (binaryOp .Add) (fun x y H Q=>∃ i j,x=.str i∧y=.str j∧i.length+j.length≤sizeLine∧Q (.str (i++j)) H):=by
  intro pins s σ H x y v u Q I rx ry h
  obtain⟨i,j,rfl,rfl,hz,q⟩:=h
  obtain⟨t,rfl⟩:=rx
  obtain⟨t',rfl⟩:=ry
  exact add_str (fun t' tk=>⟨.str (i++j),H,I.tok _,⟨_,rfl⟩,q⟩) hz
theorem zgg {x:V}{us:List Value}(r:Vals [x] us):∃ u,us=[u]∧RelV x u:=by
  cases r with
  | cons r1 r2=>cases r2;exact⟨_,rfl,r1⟩
theorem zkX {x y:V}{us:List Value}(r:Vals [x,y] us):∃ u w',us=[u,w']∧RelV x u∧RelV y w':=by
  cases r with
  | cons r1 r2 =>
    cases r2 with
    | cons r3 r4=>cases r4;exact⟨_,_,rfl,r1,r3⟩
theorem zbh (hc:X.calm=true):CallR X (.builtin "max") (fun xs H Q=>∃ i j,xs=[.int i,.int j]∧Q (.int (if j > i then j else i)) H):=by
  intro pins s σ H xs us Q I r h
  obtain⟨i,j,rfl,q⟩:=h
  obtain⟨u,w',rfl,⟨t,rfl⟩,⟨t',rfl⟩⟩:=zkX r
  refine max_two_ints (I.ok.hd hc) fun h' tk k=>⟨_,H,I.kept k,?_,q⟩
  by_cases hj:j > i
  · rw[if_pos hj,if_pos hj];exact⟨_,rfl⟩
  · rw[if_neg hj,if_neg hj];exact⟨_,rfl⟩
theorem zd4 (hc:X.calm=true):CallR X (.builtin "min") (fun xs H Q=>∃ i j,xs=[.int i,.int j]∧Q (.int (if j<i then j else i)) H):=by
  intro pins s σ H xs us Q I r h
  obtain⟨i,j,rfl,q⟩:=h
  obtain⟨u,w',rfl,⟨t,rfl⟩,⟨t',rfl⟩⟩:=zkX r
  refine min_two_ints (I.ok.hd hc) fun h' tk k=>⟨_,H,I.kept k,?_,q⟩
  by_cases hj:j<i
  · rw[if_pos hj,if_pos hj];exact⟨_,rfl⟩
  · rw[if_neg hj,if_neg hj];exact⟨_,rfl⟩
theorem zd6:CallR X (.type "int") (fun xs H Q=>(∃ i,xs=[.int i]∧Q (.int i) H)∨∃ k,xs=[.bl k]∧Q (.int (if k then 1 else 0)) H):=by
  intro pins s σ H xs us Q I r h
  rcases h with ⟨i,rfl,q⟩|⟨k,rfl,q⟩
  · obtain⟨u,rfl,t,rfl⟩:=zgg r
    exact call_int_int ⟨.int i,H,I,⟨_,rfl⟩,q⟩
  · obtain⟨u,rfl,r1⟩:=zgg r
    cases r1
    exact call_int_bool ⟨.int (if k then 1 else 0),H,I.tok _,⟨_,rfl⟩,q⟩
end
structure ObjM (h:Heap) (x dx C:Addr) (mA:Str→Option Value):Prop where
  obj:h.get? x=some (PySem.W.instObj C dx)
  ns:h.Ns1 dx mA
  ne:dx≠x
theorem zhw {h:Heap}{dx:Addr}{mA:Str→Option Value}(n:h.Ns1 dx mA):∃ od,h.get? dx=some od∧∀ name,PySem.W.lookIn name od=some (mA name):=by
  obtain⟨o,es,ep,ho,hd,hk,_,hm⟩:=n
  refine⟨o,ho,fun name=>?_⟩
  have e:=hm name
  unfold nsFind findBy at e
  rw[← Array.find?_toList]at e
  unfold PySem.W.lookIn
  rw[hd]
  dsimp only
  split
  · rename_i y q
    rw[q]at e
    exact congrArg some e
  · rename_i q
    rw[q]at e
    have a:es.toList.any (·.refKey)=false:=by
      rw[List.any_eq_false]
      intro y hy
      obtain⟨z,t,hkey⟩:=hk y (Array.mem_toList_iff.mp hy)
      simp[DictEntry.refKey,hkey]
    have a':¬ es.toList.any (·.refKey)=true:=by rw[a];exact Bool.false_ne_true
    rw[if_neg a']
    exact congrArg some e
theorem ObjM.look {h:Heap}{x dx C:Addr}{mA:Str→Option Value}(I:ObjM h x dx C mA):∃ od,PySem.W.InstAt h x (PySem.W.instObj C dx) C (some od)∧∀ name,PySem.W.lookIn name od=some (mA name) :=
  let ⟨od,ho,hl⟩:=zhw I.ns
  ⟨od,⟨I.obj,rfl,rfl,ho⟩,hl⟩
section
variable {prog:Program}{w:World}{A:Around}{E:Value→Shared→Prop}{s:Shared}{K:PySem.W.Frag}{x dx C f:Addr}{mA:Str→Option Value}{name:Str}{v:Value}
end
section
variable {P:Program}{w:World}{H H':Hp}{h h':Heap}{a C dx:Addr}{fs fs':List (Str × V)}
theorem zkF (hok:HOk P w H h) (e:H a=some (.ins C dx fs)):∃ mA,ObjM h a dx C mA∧(∀ f,RelO (fs.lookup f) (mA f))∧PySem.Within mA (fs.map (·.1))∧fs.length≤1000∧H dx=some (.own a):=by
  obtain⟨d,z,ne,ob,mA,n,r,q⟩:=(show ObjOk P w H h a (.ins C dx fs) from hok a _ e)
  exact⟨mA,⟨ob,n,ne⟩,r,q,z,d⟩
end
structure Cls (K:PySem.W.Frag) (C:Addr):Prop where
  pg:PySem.W.plainGet K C Str.empty=true
  hd:PySem.W.hasDictIn K C=true
  po:PySem.W.plainOver K C=true
  sa:PySem.W.findIn K (.ref C) "__setattr__" = some (some (.builtin "object.__setattr__"))
theorem Cls.get {K:PySem.W.Frag}{C:Addr}(c:Cls K C) (f:Str):PySem.W.plainGet K C f=true:=c.pg
section
variable {X:Cx}{pins:List (Addr × Obj)}{σ:St}{H:Hp}{s:Shared}{a C dx:Addr}{fs:List (Str × V)}{f:Str}{v:V}{A:Around}{E:Value→Shared→Prop}
end
section
variable {X:Cx}{o e value:Expr}{f:Str}{pos pos' tpos:Pos}{ta tv:TE}
end
section
variable {X:Cx}{pins:List (Addr × Obj)}{σ:St}{H:Hp}{s:Shared}{A:Around}{E:Value→Shared→Prop}{Q:Value→Shared→Prop}{c:Value}{b:Bool}
inductive TyOf (K:PySem.W.Frag) (H:Hp):V→Value→Prop where
  | non:TyOf K H .non (.type "NoneType")
  | bl (x:Bool):TyOf K H (.bl x) (.type "bool")
  | int (i:Int):TyOf K H (.int i) (.type "int")
  | str (x:Str):TyOf K H (.str x) (.type "str")
  | flt (x:UInt64):TyOf K H (.flt x) (.type "float")
  | lst {a:Addr}{xs:List V}(e:H a=some (.lst xs)):TyOf K H (.ref a) (.type "list")
  | frz {a:Addr}{o:Obj}{xs:List V}(e:H a=some (.frz o (.lst xs))):TyOf K H (.ref a) (.type "list")
  | tup {a:Addr}{xs:List V}(e:H a=some (.tup xs)):TyOf K H (.ref a) (.type "tuple")
  | dK {a:Addr}{kvs:List (Key × V)}(e:H a=some (.dK kvs)):TyOf K H (.ref a) (.type "dict")
  | dT {a:Addr}{kvs:List (List Key × V)}(e:H a=some (.dT kvs)):TyOf K H (.ref a) (.type "dict")
  | ins {a C dx:Addr}{fs:List (Str × V)}(e:H a=some (.ins C dx fs)) (cl:Cls K C) (ha:PySem.W.findIn K (.ref C) "__class__" = some (some (.builtin "object.__class__")))
      (hn:PySem.W.specialIn K (.builtin "object.__class__") "__get__" = some (some (.builtin "getset_descriptor.__get__"))) (htk:PySem.W.takesIn K (.builtin "object.__class__")=some true)
      (hm:PySem.W.mroIn K C (.type "object")=some true):TyOf K H (.ref a) (.ref C)
theorem zhF {x:V}{u t:Value}(I:Inv X pins σ H s) (rx:RelV x u) (ty:TyOf X.K H x t) (e:PySem.W.kitOne X.K t c=some b) (h:∀ tk,Q (.bool b) { s with toks:=tk }) :
    wpAny (model X.prog X.w) A (call (.builtin "isinstance") [u,c]) Q E s:=by
  cases ty with
  | non=>cases (show u=Value.none from rx);exact PySem.W.kia_one PySem.W.kitx_none I.kIn True.intro e (fun z=>nomatch z) h
  | bl y=>cases (show u=Value.bool y from rx);exact PySem.W.kia_one PySem.W.kitx_bool I.kIn True.intro e (fun z=>nomatch z) h
  | int i=>obtain⟨t,q⟩:=(show ∃ t,u=Value.int i t from rx);cases q;exact PySem.W.kia_one PySem.W.kitx_int I.kIn True.intro e (fun z=>nomatch z) h
  | str y=>obtain⟨t,q⟩:=(show ∃ t,u=Value.str y t from rx);cases q;exact PySem.W.kia_one PySem.W.kitx_str I.kIn True.intro e (fun z=>nomatch z) h
  | flt y=>obtain⟨t,q⟩:=(show ∃ t,u=Value.float y t from rx);cases q;exact PySem.W.kia_one PySem.W.kitx_float I.kIn True.intro e (fun z=>nomatch z) h
  | @lst a xs ea =>
    cases (show u=Value.ref a from rx)
    obtain⟨_,_,n,_,h1⟩:=(show ObjOk X.prog X.w H s.heap a (.lst xs) from I.hok a _ ea)
    exact PySem.W.kia_one PySem.W.kitx_list I.kIn ⟨_,h1,rfl⟩ e (fun z=>nomatch z) h
  | @frz a ob xs ea =>
    cases (show u=Value.ref a from rx)
    obtain⟨_,_,_,n,_,h1⟩:=(show ObjOk X.prog X.w H s.heap a (.frz ob (.lst xs)) from I.hok a _ ea)
    exact PySem.W.kia_one PySem.W.kitx_list I.kIn ⟨_,h1,rfl⟩ e (fun z=>nomatch z) h
  | @tup a xs ea =>
    cases (show u=Value.ref a from rx)
    obtain⟨_,_,_,p'⟩:=(show ObjOk X.prog X.w H s.heap a (.tup xs) from I.hok a _ ea)
    have p:=p'.tup
    obtain⟨o,h1,h2,_⟩:=p
    exact PySem.W.kia_one PySem.W.kitx_tuple I.kIn ⟨o,h1,h2⟩ e (fun z=>nomatch z) h
  | @dK a kvs ea =>
    cases (show u=Value.ref a from rx)
    obtain⟨_,_,vs,_,p⟩:=(show ObjOk X.prog X.w H s.heap a (.dK kvs) from I.hok a _ ea)
    obtain⟨o,es,ep,h1,h2,_⟩:=p
    exact PySem.W.kia_one PySem.W.kitx_dict I.kIn ⟨o,h1,h2.1⟩ e (fun z=>nomatch z) h
  | @dT a kvs ea =>
    cases (show u=Value.ref a from rx)
    obtain⟨_,_,xs,_,o,es,ep,h1,h2,_⟩:=(show ObjOk X.prog X.w H s.heap a (.dT kvs) from I.hok a _ ea)
    exact PySem.W.kia_one PySem.W.kitx_dict I.kIn ⟨o,h1,h2.1⟩ e (fun z=>nomatch z) h
  | @ins a C dx fs ea cl ha hn htk hm =>
    cases (show u=Value.ref a from rx)
    obtain⟨mA,O,_⟩:=zkF I.hok ea
    obtain⟨od,J,_⟩:=O.look
    exact PySem.W.kia_one (PySem.W.kitx_own (cl.get _) cl.hd ha hn htk hm) I.kIn J e (fun z=>nomatch z) h
end
structure Room (k:Nat) (A:Around):Prop where
  hd:A.handled=none
  dp:A.depth+3*k+5<recursionLimit
  un:A.units+16*k+200<cLine
  gd:A.guards=some []
theorem Room.mono {j k:Nat}{A:Around}(r:Room k A) (h:j≤k):Room j A:=⟨r.hd,by have:=r.dp;omega,by have:=r.un;omega,r.gd⟩
theorem Room.deeper {k:Nat}{A:Around}(r:Room (k+1) A) (env:Env):Room k (A.deeper env) :=
  ⟨r.hd,by have:=r.dp;show A.depth+1+3*k+5<_;omega,by have:=r.un;show A.units+3+16*k+200<_;omega,r.gd⟩
theorem Room.depth {k:Nat}{A:Around}(r:Room k A):A.depth<recursionLimit:=by have:=r.dp;omega
theorem Room.units {k:Nat}{A:Around}(r:Room k A):A.units+64<cLine:=by have:=r.un;omega
theorem Room.units0 {k:Nat}{A:Around}(r:Room k A):A.units<cLine:=by have:=r.un;omega
def tNil:TA:=fun _ H Q=>Q [] H
def zdy (ta:TE) (tr:TA):TA:=fun σ H Q=>ta σ H fun x H1=>tr σ H1 fun xs H2=>Q (x::xs) H2
section
variable {X:Cx}{e:Expr}{es:List Expr}{te:TE}{t:TA}{pos:Pos}
theorem pa_nil:PA X [] tNil:=fun _ _ _ _ H Q I h=>Calls.spliced_nil ⟨[],H,I,.nil,h⟩
theorem pa_cons (ha:PE X e te) (hr:PA X es t) (hs:starEach (e::es) X.env=(false,eval e X.env)::starEach es X.env:=by rfl):PA X (e::es) (zdy te t):=by
  intro pos pins s σ H Q I h
  rw[hs]
  show wpAny _ _ (spliced ((false,eval e X.env)::backTo pos (starEach es X.env))) _ _ s
  refine Calls.spliced_cons (thn (ha pins s σ H _ I h) fun u s1 ⟨x,H1,I1,r1,q1⟩=>?_)
  exact thn (hr pos pins s1 σ H1 _ I1 q1) fun us s2 ⟨xs,H2,I2,r2,q2⟩=>⟨x::xs,H2,I2,.cons r1 r2,q2⟩
def tTup (t:TA):TE:=fun σ H Q=>t σ H fun xs H1=>xs.length≤sizeLine∧∀ p,H1 p=none→Q (.ref p) (upd H1 p (.tup xs))
def tLst (t:TA):TE:=fun σ H Q=>t σ H fun xs H1=>xs.length≤sizeLine∧∀ p,H1 p=none→Q (.ref p) (upd H1 p (.lst xs))
theorem pe_tup {x1} (h:PA X es t):PE X (.Tuple es x1 pos) (tTup t):=by
  intro pins s σ H Q I hq
  refine wpAny_Tuple_spliced (thn (h pos pins s σ H _ I hq) fun us s1 ⟨xs,H1,I1,r,z,q⟩=>⟨by rw[← r.length];exact z,?_⟩)
  have hf:H1 s1.heap.objs.size=none:=I1.hok.fresh (Nat.le_refl _)
  refine⟨.ref s1.heap.objs.size,upd H1 s1.heap.objs.size (.tup xs),I1.laid (t':=s1.toks) (fun b u e=>Heap.get?_push_of_some _ e) (Nat.le_refl _) ?_,rfl,q _ hf⟩
  exact⟨z,us,r,TupX.new _ _⟩
theorem pe_lst (h:PA X es t):PE X (.List es pos) (tLst t):=by
  intro pins s σ H Q I hq
  refine wpAny_List_spliced (thn (h pos pins s σ H _ I hq) fun us s1 ⟨xs,H1,I1,r,z,q⟩=>⟨by rw[← r.length];exact z,?_⟩)
  have hf:H1 s1.heap.objs.size=none:=I1.hok.fresh (Nat.le_refl _)
  refine⟨.ref s1.heap.objs.size,upd H1 s1.heap.objs.size (.lst xs),I1.laid (t':=s1.toks) (fun b u e=>Heap.get?_push_of_some _ e) (Nat.le_refl _) ?_,rfl,q _ hf⟩
  exact⟨z,us,0,r,Heap.get?_push_size _ rfl⟩
end
abbrev Sp:=List V→Hp→VK→XK→Prop
abbrev CXT:=List Env→Hp→Shared→XK→Value→Shared→Prop
structure Env0 (P:Program) (w:World) (K:PySem.W.Frag) (mg:Str→Option Value) (base:Heap) (A:Around) (outer:List Env) (s:Shared) (H:Hp):Prop where
  frames:A.frames=some outer
  mod:Mod K mg base
  bs:∀ b o,base.get? b=some o→s.heap.get? b=some o∧H b=none
  bsz:base.objs.size≤s.heap.objs.size
  funs:s.heap.FunFrames base outer
  frf:∀ b∈frs outer,H b=none
  hok:HOk P w H s.heap
  bare:AllBare s.gens
def CE (outer:List Env) (P:Program) (w:World) (H:Hp) (s:Shared) (Q:VK) (u:Value) (s':Shared):Prop :=
  ∃ v H',s'.os=s.os∧AllBare s'.gens∧Un (frs outer) [] H H' s.heap s'.heap∧HOk P w H' s'.heap∧RelV v u∧Q v H'
def CR (CX:CXT) (outer:List Env) (P:Program) (w:World) (H:Hp) (s:Shared) (Q:VK) (E:XK) (r:Result) (s':Shared):Prop :=
  match r with
  | .ok (.ret u)=>CE outer P w H s Q u s'
  | .ok _=>False
  | .error e=>CX outer H s E e s'
structure FnOk (P:Program) (w:World) (K:PySem.W.Frag) (mg:Str→Option Value) (base:Heap) (CX:CXT) (k:Nat) (f:Addr) (fd:FuncData) (ps:List Str) (sp:Sp):Prop where
  len:∀ vs H Q E,sp vs H Q E→vs.length=ps.length
  run:∀ (A:Around) (outer:List Env) (s:Shared) (H:Hp) (args:Args) (us:List Value) (vs:List V) (Q:VK) (E:XK),Room k A→Env0 P w K mg base A outer s H→BindsTo s fd args (ps.zip us)→Vals vs us→sp vs H Q E →
    codeAny (model P w) A (.call (.ref f) args) (CR CX outer P w H s Q E) s
theorem FnOk.mono {P:Program}{w:World}{K:PySem.W.Frag}{mg:Str→Option Value}{base:Heap}{CX:CXT}{j k:Nat}{f:Addr}{fd:FuncData}{ps:List Str}{sp:Sp}(F:FnOk P w K mg base CX j f fd ps sp) (h:j≤k) :
    FnOk P w K mg base CX k f fd ps sp:=⟨F.len,fun A outer s H args us vs Q E hr=>F.run A outer s H args us vs Q E (hr.mono h)⟩
theorem FnOk.imp {P:Program}{w:World}{K:PySem.W.Frag}{mg:Str→Option Value}{base:Heap}{CX:CXT}{k:Nat}{f:Addr}{fd:FuncData}{ps:List Str}{sp sp':Sp}(F:FnOk P w K mg base CX k f fd ps sp)
    (h:∀ vs H Q E,sp' vs H Q E→sp vs H Q E):FnOk P w K mg base CX k f fd ps sp' :=
  ⟨fun vs H Q E q=>F.len vs H Q E (h _ _ _ _ q),fun A outer s H args us vs Q E hr he hb hv hs=>F.run A outer s H args us vs Q E hr he hb hv (h _ _ _ _ hs)⟩
section
variable {X:Cx}{pins:List (Addr × Obj)}{σ:St}{H:Hp}{s s':Shared}
theorem Inv.env0 (I:Inv X pins σ H s):Env0 X.prog X.w X.K X.mg X.base X.A X.stack s H :=
  ⟨I.ok.frames,I.ok.mod,I.bs,Nat.le_trans I.ok.bsz I.sz,I.stack,I.stkFree,I.hok,I.bare⟩
theorem Inv.after {Q:VK}{u:Value}(I:Inv X pins σ H s) (h:CE X.stack X.prog X.w H s Q u s'):EP X pins σ Q u s':=by
  obtain⟨v,H',os,bare,un,hok,r,q⟩:=h
  obtain⟨hh,g,d,t,os'⟩:=s'
  obtain rfl:os'=s.os:=os
  exact⟨v,H',I.call (h':=hh) (g':=g) (d':=d) (t':=t) (ch:=[]) un hok bare (fun b z=>absurd z (by simp)),r,q⟩
end
def zig (sp:Sp) (dvs:List V) (E:XK) (t:TA):TE:=fun σ H Q=>t σ H fun vs H1=>sp (vs++dvs) H1 Q E
def Binds (K:PySem.W.Frag) (fd:FuncData) (ps:List Str) (ds:List Value):Prop :=
  ∀ (s:Shared) (us:List Value),K.In s.heap→(us++ds).length=ps.length→BindsTo s fd ⟨us,[]⟩ (ps.zip (us++ds))
theorem Binds.all {K:PySem.W.Frag}{fd:FuncData}{ps:List Str}(h:∀ us:List Value,us.length=ps.length→bindArgs fd ⟨us,[]⟩=pure (ps.zip us)):Binds K fd ps []:=fun s us _ hl=>by
  rw[List.append_nil]at hl ⊢
  exact .of_eq (h us hl)
def Passes (CX:CXT) (X:Cx) (E:XK):Prop:=∀ (pins:List (Addr × Obj)) (σ:St) (H:Hp) (s:Shared) (e:Value) (s':Shared),Inv X pins σ H s→CX X.stack H s E e s'→X.xe e s'
section
variable {X:Cx}{CX:CXT}{k:Nat}{f C:Addr}{fd:FuncData}{ps:List Str}{sp:Sp}{dvs:List V}{ds:List Value}{E:XK}{x m:Str}{p pos apos:Pos}{e o:Expr}{es:List Expr}{ta:TE}{t:TA}
theorem ze6 {pins:List (Addr × Obj)}{σ:St}{H:Hp}{s:Shared}{Q:VK}{us:List Value}{vs:List V}(F:FnOk X.prog X.w X.K X.mg X.base CX k f fd ps sp) (hr:Room k X.A) (hb:Binds X.K fd ps ds) (hd:Vals dvs ds) (hx:Passes CX X E)
    (I:Inv X pins σ H s) (r:Vals vs us) (h:sp (vs++dvs) H Q E):wpAny (model X.prog X.w) X.A (call (.ref f) us) (EP X pins σ Q) X.xe s:=by
  have r2:Vals (vs++dvs) (us++ds):=r.append hd
  have hl:(us++ds).length=ps.length:=by rw[← r2.length];exact F.len _ _ _ _ h
  refine wpAny_call (codeAny_mono (F.run X.A X.stack s H ⟨us,[]⟩ (us++ds) (vs++dvs) Q E hr I.env0 (hb s us I.kIn hl) r2 h) fun r s' hq=>?_)
  cases r with
  | error e=>exact hx pins σ H s e s' I hq
  | ok fl =>
    cases fl with
    | ret u=>exact I.after hq
    | next=>exact False.elim hq
    | brk=>exact False.elim hq
    | cont=>exact False.elim hq
theorem pe_call (F:FnOk X.prog X.w X.K X.mg X.base CX k f fd ps sp) (hr:Room k X.A) (hg:Gl X x) (hm:X.mg x=some (.ref f)) (hk:PySem.W.keepIn X.K (.ref f)=true) (hb:Binds X.K fd ps ds) (hd:Vals dvs ds) (hx:Passes CX X E)
    (ha:PA X (e::es) t) (hdb:(x == ("__debug__":Str))=false:=by decide) (he:starEach (e::es) X.env=(false,eval e X.env)::starEach es X.env:=by rfl) (hpl:(backTo pos (starEach es X.env)).any (·.1)=false:=by rfl) :
    PE X (.Call (.Name x p) (e::es) [] pos) (zig sp dvs E t):=by
  intro pins s σ H Q I h
  refine wpAny_Call_Name_kw (zdm I hg hm ?_ hdb)
  refine PySem.W.callWith_K (h₀:=X.base) I.ok.mod.kin hk (thn (ha pos pins s σ H _ I h) fun us s1 ⟨vs,H1,I1,r,q⟩=>⟨I1.kIn,?_⟩) he hpl
  exact ze6 F hr hb hd hx I1 r q
theorem pe_call0 (F:FnOk X.prog X.w X.K X.mg X.base CX k f fd ps sp) (hr:Room k X.A) (hg:Gl X x) (hm:X.mg x=some (.ref f)) (hk:PySem.W.keepIn X.K (.ref f)=true) (hb:Binds X.K fd ps ds) (hd:Vals dvs ds) (hx:Passes CX X E)
    (hdb:(x == ("__debug__":Str))=false:=by decide):PE X (.Call (.Name x p) [] [] pos) (zig sp dvs E tNil):=by
  intro pins s σ H Q I h
  refine wpAny_Call_Name_kw (zdm I hg hm ?_ hdb)
  exact PySem.W.callWith_K0 I.kIn hk (ze6 (us:=[]) F hr hb hd hx I .nil h)
end
def PK (X:Cx) (kws:List Keyword) (t:TA):Prop :=
  ∀ (pos:Pos) (pins:List (Addr × Obj)) (s:Shared) (σ:St) (H:Hp) (Q:List V→Hp→Prop),Inv X pins σ H s→t σ H Q→wpAny (model X.prog X.w) X.A (evalAll ((backToKw pos (keywordEach kws X.env)).map (·.2))) (AP X pins σ Q) X.xe s
section
variable {X:Cx}{CX:CXT}{k:Nat}{f C:Addr}{fd:FuncData}{ps ks:List Str}{sp:Sp}{E:XK}{x m:Str}{p pos apos kpos:Pos}{e o:Expr}{es:List Expr}{kws:List Keyword}{te ta:TE}{t tk:TA}{nm:Option Str}
theorem zjj:PK X [] tNil:=fun _ _ _ _ H Q I h=>wpAny_evalAll_nil ⟨[],H,I,.nil,h⟩
theorem zg6 (ha:PE X e te) (hr:PK X kws t):PK X (⟨nm,e,kpos⟩::kws) (zdy te t):=by
  intro pos pins s σ H Q I h
  show wpAny _ _ (evalAll ((do let v ← eval e X.env;standAt pos;pure v)::(backToKw pos (keywordEach kws X.env)).map (·.2))) _ _ s
  refine wpAny_evalAll_cons (wpAny_bind (thn (ha pins s σ H _ I h) fun u s1 ⟨x,H1,I1,r1,q1⟩=>wpAny_bind (wpAny_standAt (wpAny_pure ?_))))
  exact thn (hr pos pins s1 σ H1 _ I1 q1) fun us s2 ⟨xs,H2,I2,r2,q2⟩=>⟨x::xs,H2,I2,.cons r1 r2,q2⟩
variable {g:List Value→List Value→List Value}{gV:List V→List V→List V}
end
structure FnScope (N P:List Str) (sc:Scope):Prop where
  kind:sc.kind=.function
  co:sc.isCoroutine=false
  gen:sc.isGenerator=false
  nd:N.Nodup
  pre:N.take P.length=P
  par:∀ x∈P,sc.names.lookup x=some .local ∨ sc.names.lookup x=some .cell
  nofree:∀ y∈sc.names,y.2≠.free
theorem zd8 {kindOf:Str→Option NameKind}{x:Str}:∀ {binds:List (Str × Value)}{m:Str→Option Value},(∀ v,(x,v)∉binds)→bindL kindOf binds m x=m x
  | [],_,_=>rfl
  | (n,v)::r,m,h=>by
    unfold bindL
    rw[zd8 fun w hw=>h w (List.mem_cons_of_mem _ hw)]
    split
    · have:x≠n:=by rintro rfl;exact h v List.mem_cons_self
      simp[this]
    · rfl
theorem zea {kindOf:Str→Option NameKind}{x:Str}:∀ {binds:List (Str × Value)}{m:Str→Option Value},(∀ v,(x,v)∉binds)→bindC kindOf binds m x=m x
  | [],_,_=>rfl
  | (n,v)::r,m,h=>by
    unfold bindC
    rw[zea fun w hw=>h w (List.mem_cons_of_mem _ hw)]
    split
    · rfl
    · have:x≠n:=by rintro rfl;exact h v List.mem_cons_self
      simp[this]
theorem zd9 {kindOf:Str→Option NameKind}{x:Str}{v:Value}:∀ {P:List Str}{vs:List Value}{i:Nat}{m:Str→Option Value},P.Nodup→P[i]?=some x→vs[i]?=some v→kindOf x=some .local →
    bindL kindOf (P.zip vs) m x=some v
  | [],_,_,_,_,h,_,_=>by simp at h
  | _::_,[],_,_,_,_,h,_=>by simp at h
  | p::P,w::vs,0,m,nd,h1,h2,hk=>by
    simp at h1 h2;subst h1;subst h2
    show bindL kindOf ((p,w)::P.zip vs) m p=_
    unfold bindL
    rw[zd8 fun v hv=>(List.nodup_cons.mp nd).1 (List.of_mem_zip hv).1,if_pos hk]
    simp
  | p::P,w::vs,i+1,m,nd,h1,h2,hk=>by
    show bindL kindOf ((p,w)::P.zip vs) m x=_
    unfold bindL
    exact zd9 (i:=i) (List.nodup_cons.mp nd).2 (by simpa using h1) (by simpa using h2) hk
theorem zeb {kindOf:Str→Option NameKind}{x:Str}{v:Value}:∀ {P:List Str}{vs:List Value}{i:Nat}{m:Str→Option Value},P.Nodup→P[i]?=some x→vs[i]?=some v→kindOf x≠some .local →
    bindC kindOf (P.zip vs) m x=some v
  | [],_,_,_,_,h,_,_=>by simp at h
  | _::_,[],_,_,_,_,h,_=>by simp at h
  | p::P,w::vs,0,m,nd,h1,h2,hk=>by
    simp at h1 h2;subst h1;subst h2
    show bindC kindOf ((p,w)::P.zip vs) m p=_
    unfold bindC
    rw[zea fun v hv=>(List.nodup_cons.mp nd).1 (List.of_mem_zip hv).1,if_neg hk]
    simp
  | p::P,w::vs,i+1,m,nd,h1,h2,hk=>by
    show bindC kindOf ((p,w)::P.zip vs) m x=_
    unfold bindC
    exact zeb (i:=i) (List.nodup_cons.mp nd).2 (by simpa using h1) (by simpa using h2) hk
def start (N:List Str) (vs:List V):St:=vs.map some++List.replicate (N.length-vs.length) none
def cxOf (CX:CXT) (P:Program) (w:World) (K:PySem.W.Frag) (mg:Str→Option Value) (base:Heap) (N:List Str) (qual:Str) (scope:Scope) (f:Addr) (cd:Value) (A:Around) (outer:List Env) (s:Shared) (H:Hp) (E:XK):Cx where
  prog:=P
  w:=w
  K:=K
  mg:=mg
  base:=base
  A:=A.deeper (envOfC qual scope s.heap.objs.size f cd)
  N:=N
  s₀:=s
  H₀:=H
  env:=envOfC qual scope s.heap.objs.size f cd
  outer:=outer
  stack:=envOfC qual scope s.heap.objs.size f cd::outer
  ex:=[]
  calm:=true
  fn:=fun _=>true
  pn:=[]
  xe:=fun e s'=>wpAny (model P w) (A.deeper (envOfC qual scope s.heap.objs.size f cd)) (leaving (envOfC qual scope s.heap.objs.size f cd) e) (fun _ s''=>CX outer H s E e s'') (fun e' s''=>CX outer H s E e' s'') s'
theorem zfy {sc:Scope}{n:Nat}{x:Str}(h:sc.names.lookup x=some .cell):∃ c,(cellsFrom n sc.names []).lookup x=some c:=by
  have q:=PySem.W.cellsFrom_some sc.names n [] (.inl h)
  exact Option.isSome_iff_exists.mp q
theorem zhH {CX:CXT}{P:Program}{w:World}{K:PySem.W.Frag}{mg:Str→Option Value}{base:Heap}{N ps:List Str}{qual:Str}{scope:Scope}{f:Addr}{cd:Value}{A:Around}{outer:List Env}{s s1:Shared}{H:Hp}{E:XK}{us:List Value}{vs:List V}
    (S:FnScope N ps scope) (hd:A.handled=none) (e0:Env0 P w K mg base A outer s H) (hl:vs.length=ps.length) (r:Vals vs us)
    (x:InCallC s s.heap.objs.size (bindL (envOfC qual scope s.heap.objs.size f cd).kindOf (ps.zip us) fun _=>none) (cellsFrom (s.heap.objs.size+1) scope.names []) (bindC (envOfC qual scope s.heap.objs.size f cd).kindOf (ps.zip us) fun _=>none) s1) :
    Inv (cxOf CX P w K mg base N qual scope f cd A outer s H E) [] (start N vs) H s1:=by
  have hpl:ps.length≤N.length:=by have:=congrArg List.length S.pre;rw[List.length_take]at this;omega
  obtain⟨h1,tk,rfl,hk⟩:=x.done
  have noA:∀ b:Addr,b∉(cxOf CX P w K mg base N qual scope f cd A outer s H E).ex:=fun b z=>absurd (show b∈([]:List Addr) from z) (by simp)
  refine⟨⟨e0.mod,S.kind,rfl,rfl,Nat.le_refl _,fun y z c h1 h2=>?_,fun y hy=>?_,fun y c _ h=>?_,fun _=>hd,Around.frames_deeper e0.frames,.inr ⟨rfl,rfl⟩,fun b z=>absurd z (noA b),e0.bs,e0.bsz,fun b _ _=>noA b,fun b z=>absurd z (noA b),e0.funs,e0.frf⟩,
    rfl,e0.bare,Un.kept hk,⟨_,x.toInCall.ns,fun i y v h1 h2 h3=>?_⟩,fun y c h=>⟨_,x.cell y c h⟩,e0.hok.fresh (Nat.le_refl _),fun y c h=>?_,fun p hp=>absurd (show p∈([]:List (Addr × Obj)) from hp) (by simp),e0.hok.kept hk,?_⟩
  · exact name_of_addr x.apart (PySem.mem_of_lookup h1) (PySem.mem_of_lookup h2)
  · have hy:scope.names.lookup y=some .cell∨scope.names.lookup y=some .free:=hy
    rcases hy with hy|hy
    · exact zfy hy
    · exact absurd rfl (S.nofree _ (PySem.mem_of_lookup hy))
  · exact Nat.le_of_lt (x.above y c (PySem.mem_of_lookup h))
  · have hi:i<vs.length:=by
      unfold start at h2
      by_cases hi:i<vs.length
      · exact hi
      · rw[List.getElem?_append_right (by simpa using hi)]at h2
        rw[List.getElem?_replicate]at h2
        split at h2<;>cases h2
    have ha:vs[i]?=some v:=by
      unfold start at h2
      rw[List.getElem?_append_left (by simpa using hi),List.getElem?_map]at h2
      cases e:vs[i]? with
      | none=>rw[e]at h2;cases h2
      | some a=>rw[e]at h2;cases h2;rfl
    obtain⟨u,hu,rv⟩:=r.get ha
    have hp:ps[i]?=some y:=by
      rw[← S.pre,List.getElem?_take_of_lt (by omega)];exact h1
    have ndP:ps.Nodup:=by rw[← S.pre];exact S.nd.sublist (List.take_sublist _ _)
    refine⟨u,rv,?_⟩
    rcases S.par y (List.mem_of_getElem? hp) with k|k
    · exact .inl ⟨k,zd9 ndP hp hu k⟩
    · obtain⟨c,e⟩:=zfy (n:=s.heap.objs.size+1) k
      refine .inr ⟨.inl k,c,e,?_⟩
      have q:=x.cell y c e
      rw[zeb ndP hp hu (by show scope.names.lookup y≠_;rw[k];decide)]at q
      exact q
  · exact e0.hok.fresh (Nat.le_of_lt (x.above y c (PySem.mem_of_lookup h)))
  · unfold start
    show _=N.length
    rw[List.length_append,List.length_map,List.length_replicate]
    omega
theorem zl7 {CX:CXT}{P:Program}{w:World}{K:PySem.W.Frag}{mg:Str→Option Value}{base:Heap}{k:Nat}{f:Addr}{name qual:Str}{params:Arguments}{body:List Stmt}{scope:Scope}{dV kV doc pm cdv ct oc:Value}{an od:Option Addr}
    {osl:Array (Option Value)}{N ps:List Str}{sp:Sp}(lk:K.lookup f=some ⟨oc,od,.func (PySem.W.fnOf name qual params body scope dV kV doc pm an cdv ct),osl⟩) (hcd:PySem.W.codeIn K cdv qual=true) (S:FnScope N ps scope)
    (len:∀ vs H Q E,sp vs H Q E→vs.length=ps.length)
    (hbody:∀ (A:Around) (outer:List Env) (s:Shared) (H:Hp) (vs:List V) (Q:VK) (E:XK),Room k (A.deeper (envOfC qual scope s.heap.objs.size f cdv))→sp vs H Q E →
      ∃ t,PSs (cxOf CX P w K mg base N qual scope f cdv A outer s H E) body t∧t { nx:=fun _ H'=>Q .non H',rt:=Q } (start N vs) H) :
    FnOk P w K mg base CX (k+1) f (PySem.W.fnOf name qual params body scope dV kV doc pm an cdv ct) ps sp:=by
  refine⟨len,fun A outer s H args us vs Q E hr e0 hb r hsp=>?_⟩
  have hl:=len _ _ _ _ hsp
  have KX:K.In s.heap:=e0.mod.kin.keeps fun b o e=>(e0.bs b o e).1
  have lim:s.heap.NoLimit:=e0.mod.nolimit.keeps fun b o e=>(e0.bs b o e).1
  have hkind:∀ y∈ps.zip us,scope.names.lookup y.1=some .local ∨ (scope.names.lookup y.1=some .cell∧((cellsFrom (s.heap.objs.size+1) scope.names []).lookup y.1).isSome=true):=fun ⟨n,v⟩ hy=>by
    rcases S.par n (List.of_mem_zip hy).1 with q|q
    · exact .inl q
    · exact .inr ⟨q,PySem.W.cellsFrom_some _ _ _ (.inl q)⟩
  refine codeAny_call_function hr.depth (KX _ _ lk) rfl S.co S.gen rfl (PySem.W.codeRec_of KX hcd) (hb _ _ _ _ ?_)
  refine wpAny_newFunctionEnv_cells S.kind hkind fun env he s1 x=>?_
  subst he
  refine⟨lim.keeps x.toInCall.keep,codeAny_func ?_⟩
  obtain⟨t,ht,hq⟩:=hbody A outer s H vs Q E (hr.deeper _) hsp
  have I:Inv (cxOf CX P w K mg base N qual scope f cdv A outer s H E) [] (start N vs) H s1:=zhH S hr.hd e0 hl r x
  refine wpAny_mono (ht [] s1 (start N vs) H _ I hq) (fun fl s' hs=>?_) fun e s' hs=>hs
  have fin:∀ {σ':St}{H':Hp}{v:V}{u:Value},Inv (cxOf CX P w K mg base N qual scope f cdv A outer s H E) [] σ' H' s'→RelV v u→Q v H'→CE outer P w H s Q u s' :=
    fun {σ' H' v u} J rv q=>⟨v,H',J.os,J.bare,J.base,J.hok,rv,q⟩
  cases fl with
  | ret u =>
    obtain⟨v,σ',H',J,rv,q⟩:=hs
    exact fin J rv q
  | next =>
    obtain⟨σ',H',J,q⟩:=hs
    exact fin (v:=V.non) (u:=Value.none) J rfl q
  | brk =>
    obtain⟨_,_,_,q⟩:=hs
    exact False.elim q
  | cont =>
    obtain⟨_,_,_,q⟩:=hs
    exact False.elim q
section
variable {X:Cx}{x:Str}{p pos:Pos}{e:Expr}{es:List Expr}{t:TA}{id T:String}{r:List V→Hp→VK→Prop}
def tCB (r:List V→Hp→VK→Prop) (t:TA):TE:=fun σ H Q=>t σ H fun vs H1=>r vs H1 Q
theorem pe_callB (hc:CallR X (.builtin id) r) (hg:Gl X x) (hm:X.mg x=none) (hv:bootBuiltins x=some (.builtin id)) (ha:PA X (e::es) t) (hn:x≠"__name__":=by decide) (hdb:(x == ("__debug__":Str))=false:=by decide)
    (he:starEach (e::es) X.env=(false,eval e X.env)::starEach es X.env:=by rfl) (hpl:(backTo pos (starEach es X.env)).any (·.1)=false:=by rfl):PE X (.Call (.Name x p) (e::es) [] pos) (tCB r t):=by
  intro pins s σ H Q I h
  refine wpAny_Call_Name_kw (zaA I hg hm hv ?_ hn hdb)
  exact PyProof.Rows.callWith_builtin1 (thn (ha pos pins s σ H _ I h) fun us s1 ⟨vs,H1,I1,r1,q1⟩=>hc pins s1 σ H1 vs us Q I1 r1 q1) he hpl
theorem pe_callTy (hc:CallR X (.type T) r) (hg:Gl X x) (hm:X.mg x=none) (hv:bootBuiltins x=some (.type T)) (ha:PA X (e::es) t) (hn:x≠"__name__":=by decide) (hdb:(x == ("__debug__":Str))=false:=by decide)
    (he:starEach (e::es) X.env=(false,eval e X.env)::starEach es X.env:=by rfl) (hpl:(backTo pos (starEach es X.env)).any (·.1)=false:=by rfl):PE X (.Call (.Name x p) (e::es) [] pos) (tCB r t):=by
  intro pins s σ H Q I h
  refine wpAny_Call_Name_kw (zaA I hg hm hv ?_ hn hdb)
  exact PyProof.Rows.callWith_type1 (thn (ha pos pins s σ H _ I h) fun us s1 ⟨vs,H1,I1,r1,q1⟩=>hc pins s1 σ H1 vs us Q I1 r1 q1) he hpl
end
end L2
namespace HT
open PySem PyProof.Rows
section
open PySem.SeqAt
open PySem.AutoSeq1 (wpAny_loadPart')
open PySem.MeetsSeq PySem.MeetsSeq2 PySem.MeetsSeq3
end
section
variable {prog:Program}{w:World}{A:Around}{E:Value→Shared→Prop}{s:Shared}
theorem cat_tup {t b:Addr}{vs ws:List Value}{Q:Value→Shared→Prop}(ht:IsTup s.heap t vs.toArray) (hb:IsTup s.heap b ws.toArray) (hv:vs≠[])
    (h1:ws=[]→Q (.ref t) s) (h2:ws≠[]→Q (.ref s.heap.objs.size) { s with heap:=s.heap.push { cls:=.type "tuple",data:=.seq (vs++ws).toArray } })
    (hsz:vs.length+ws.length≤sizeLine):wpAny (model prog w) A (binaryOp .Add (.ref t) (.ref b)) Q E s:=by
  obtain⟨⟨cls,dd,data,sl⟩,ho,hc,n,hd⟩:=id ht
  obtain⟨⟨cls2,dd2,data2,sl2⟩,ho2,hc2,n2,hd2⟩:=id hb
  simp only at hc hd hc2 hd2
  subst hc hd hc2 hd2
  have e:vs.toArray++ws.toArray=(vs++ws).toArray:=by simp
  by_cases hw:ws=[]
  · exact concat_meets ⟨_,ho,rfl⟩ ⟨_,ho2,rfl⟩ noFill_tuple_add seq_tuple_add PySem.F.slot_tuple_add PySem.F.entry_tuple_add (PySem.F.args_tuple_add_2 _ _)
      (tuple_addW1 t b vs.toArray ws.toArray n n2 dd dd2 sl sl2 (by simpa using hv) (by simp[hw])) ⟨ho,ho2,h1 hw⟩
  · refine concat_meets ⟨_,ho,rfl⟩ ⟨_,ho2,rfl⟩ noFill_tuple_add seq_tuple_add PySem.F.slot_tuple_add PySem.F.entry_tuple_add (PySem.F.args_tuple_add_2 _ _)
      (tuple_addW2 t b vs.toArray ws.toArray n n2 dd dd2 sl sl2 (by simpa using hv) (by simpa using hw) (by rw[List.size_toArray,List.size_toArray];exact hsz)) ⟨ho,ho2,?_⟩
    rw[e]
    exact h2 hw
def sIx (n d:Nat):Option Int→Nat
  | none=>d
  | some v=>if v<0 then (v+(n:Int)).toNat else min v.toNat n
theorem sIx_none (n d:Nat):sIx n d none=d:=rfl
theorem sIx_nat (n d k:Nat):sIx n d (some (k:Int))=min k n:=by
  show (if (k:Int)<0 then ((k:Int)+(n:Int)).toNat else min (k:Int).toNat n)=min k n
  rw[if_neg (by omega),Int.toNat_natCast]
theorem zk7 (n d:Nat) (hd:d≤n) (o:Option Int):sIx n d o≤n:=by
  cases o with
  | none=>exact hd
  | some v =>
    show (if v<0 then (v+(n:Int)).toNat else min v.toNat n)≤n
    by_cases hv:v<0
    · rw[if_pos hv];omega
    · rw[if_neg hv];exact Nat.min_le_right _ _
theorem zh0 (v:Int) (n d:Nat):(if v<0 then max (v+(n:Int)) 0 else min v (n:Int))=((sIx n d (some v):Nat):Int):=by
  show (if v<0 then max (v+(n:Int)) 0 else min v (n:Int))=(((if v<0 then (v+(n:Int)).toNat else min v.toNat n):Nat):Int)
  by_cases hv:v<0
  · simp only[if_pos hv];omega
  · simp only[if_neg hv];omega
theorem zf4 (lo hi:Option Int) (n:Nat):Builtin.Slice.sliceAdjust lo hi 1 (n:Int)=(((sIx n 0 lo:Nat):Int),((sIx n n hi:Nat):Int)):=by
  have h1:¬((1:Int)<0):=by omega
  unfold Builtin.Slice.sliceAdjust
  simp only[h1,if_false]
  refine Prod.ext ?_ ?_
  · cases lo with
    | none=>rfl
    | some v=>exact zh0 v n 0
  · cases hi with
    | none=>rfl
    | some v=>exact zh0 v n n
theorem zfJ (i j:Nat):Builtin.Slice.slicePlaces (i:Int) (j:Int) 1=j-i:=by
  unfold Builtin.Slice.slicePlaces
  have h1:(1:Int) > 0:=by omega
  simp only[h1,if_true,Int.ediv_one]
  split<;>omega
theorem zcG {v:Value}{o:Option Int}{Q:Option Int→Shared→Prop}(p:IsPart v o) (h:Q o s):wpAny (model prog w) A (Builtin.Slice.slicePartIndex v) Q E s:=by
  cases p with
  | none=>exact slicePart_none h
  | int i t=>exact slicePart_int h
theorem sliceApplied_gen {sl:Addr}{vl vu:Value}{lo hi:Option Int}{n:Nat}{Q:Int × Int × Nat→Shared→Prop}(hs:s.heap.IsSliceOf sl vl vu .none) (pl:IsPart vl lo) (pu:IsPart vu hi)
    (h:Q (((sIx n 0 lo:Nat):Int),1,sIx n n hi-sIx n 0 lo) s):wpAny (model prog w) A (Builtin.Slice.sliceApplied (.ref sl) (pure (n:Int))) Q E s:=by
  obtain⟨os,hos,hcs,hds⟩:=id hs
  unfold Builtin.Slice.sliceApplied Builtin.Slice.sliceFields
  refine wpAny_bind (wpAny_bind (wpAny_field hos hds (x:=vl) rfl (wpAny_bind (wpAny_field hos hds (x:=vu) rfl (wpAny_bind (wpAny_field hos hds (x:=.none) rfl (wpAny_pure ?_)))))))
  refine wpAny_bind (slicePart_none ?_)
  show wpAny _ _ (if ((1:Int) == 0)=true then _ else _) _ _ s
  rw[if_neg (by decide)]
  refine wpAny_bind (zcG pl (wpAny_bind (zcG pu (wpAny_bind (wpAny_pure ?_)))))
  show wpAny _ _ (match Builtin.Slice.sliceAdjust lo hi 1 (n:Int) with|(lo,hi)=>pure (lo,(1:Int),Builtin.Slice.slicePlaces lo hi 1)) _ _ s
  rw[zf4 lo hi n]
  show wpAny _ _ (pure (((sIx n 0 lo:Nat):Int),(1:Int),Builtin.Slice.slicePlaces ((sIx n 0 lo:Nat):Int) ((sIx n n hi:Nat):Int) 1)) _ _ s
  rw[zfJ]
  exact wpAny_pure h
theorem zis (xs:Array Value) (i k:Nat):((List.range k).filterMap fun (m:Nat)=>xs[((i:Int)+(m:Int)*1).toNat]?).toArray=((xs.toList.drop i).take k).toArray:=by
  have e:(fun (m:Nat)=>xs[((i:Int)+(m:Int)*1).toNat]?)=fun m=>xs[i+m]?:=by
    funext m
    have:((i:Int)+(m:Int)*1).toNat=i+m:=by omega
    rw[this]
  rw[e]
  have:=pick_run xs i k
  rw[List.filterMap_map]at this
  have e2:((fun x=>xs[x]?)∘fun x=>i+x)=fun m=>xs[i+m]?:=rfl
  rw[e2]at this
  rw[this]
theorem getItem_tuple_cut {t sl:Addr}{items:Array Value}{vl vu:Value}{lo hi:Option Int}{Q:Value→Shared→Prop}(ht:IsTup s.heap t items) (hs:s.heap.IsSliceOf sl vl vu .none) (pl:IsPart vl lo) (pu:IsPart vu hi)
    (hw:¬(sIx items.size 0 lo=0∧sIx items.size items.size hi=items.size))
    (h:Q (.ref s.heap.objs.size) { s with heap:=s.heap.push { cls:=.type "tuple",data:=.seq ((items.toList.drop (sIx items.size 0 lo)).take (sIx items.size items.size hi-sIx items.size 0 lo)).toArray } })
    (hsz:items.size≤sizeLine):wpAny (model prog w) A (getItem (.ref t) (.ref sl)) Q E s:=by
  have htake:sizeOk (.seq ((items.toList.drop (sIx items.size 0 lo)).take (sIx items.size items.size hi-sIx items.size 0 lo)).toArray):=by
    show ((items.toList.drop (sIx items.size 0 lo)).take (sIx items.size items.size hi-sIx items.size 0 lo)).toArray.size≤sizeLine
    rw[List.size_toArray,List.length_take,List.length_drop,Array.length_toList]
    omega
  have hj:sIx items.size items.size hi≤items.size:=zk7 _ _ (Nat.le_refl _) hi
  obtain⟨os,hos,hcs,hds⟩:=id hs
  have hTs:s.TypeIs (.ref sl) "slice":=⟨os,hos,hcs⟩
  unfold getItem
  try with_reducible refine wpAny_holding ?_
  first|refine wpAny_bind (wpAny_pure ?_)|skip
  refine wpAny_bind (wpAny_sequenceKey ht.typeIs (by decide) ?_)
  refine wpAny_bind (wpAny_callSpecial?_slot (name:=Str.ofString "__getitem__") ht.typeIs PyProof.Rows.slot_tuple_getitem
    (wpAny_call_entry PyProof.Rows.slot_tuple_getitem ht.typeIs entry_tuple_getitem ?_ (args_tuple_getitem _ _)))
  show wpAny _ _ (Builtin.Tuple.tupleItemsOf (.ref t) >>= _) _ _ s
  refine wpAny_bind (tupleItemsOf_ ht ?_)
  refine wpAny_bind (wpAny_typeOf hTs ?_)
  rw[if_pos (by decide)]
  refine wpAny_bind (sliceApplied_gen hs pl pu ?_)
  have hno:¬((((sIx items.size 0 lo:Nat):Int) == 0 && (1:Int) == 1 && (sIx items.size items.size hi-sIx items.size 0 lo) == items.size)=true):=by
    intro q
    rw[Bool.and_eq_true,Bool.and_eq_true]at q
    have q1:((sIx items.size 0 lo:Nat):Int)=0:=eq_of_beq q.1.1
    have q2:sIx items.size items.size hi-sIx items.size 0 lo=items.size:=eq_of_beq q.2
    exact hw ⟨by omega,by omega⟩
  show wpAny _ _ (if (((sIx items.size 0 lo:Nat):Int) == 0 && (1:Int) == 1 && (sIx items.size items.size hi-sIx items.size 0 lo) == items.size)=true then _ else _) _ _ s
  rw[if_neg hno,zis]
  first
    | exact wpAny_bind (m:=Builtin.Tuple.tupleExact _) (wpAny_newObj_type (wpAny_pure ⟨_,rfl,wpAny_pure h⟩) htake)
    | exact wpAny_bind (m:=Builtin.Tuple.tupleExact _) (wpAny_newObj_type (wpAny_bind (wpAny_pure (wpAny_pure ⟨_,rfl,wpAny_pure h⟩))) htake)
    | exact wpAny_bind (wpAny_bind (m:=Builtin.Tuple.tupleExact _) (wpAny_newObj_type (wpAny_pure (wpAny_pure ⟨_,rfl,wpAny_pure h⟩)) htake))
    | exact wpAny_bind (wpAny_bind (m:=Builtin.Tuple.tupleExact _) (wpAny_newObj_type (wpAny_pure ⟨_,rfl,wpAny_pure h⟩) htake))
end
end HT
namespace L2
open PySem PySem.Spec PyProof.Rows
abbrev TO:=St→Hp→(Option Int→Hp→Prop)→Prop
def PO (X:Cx) (e:Option Expr) (t:TO):Prop :=
  ∀ (pins:List (Addr × Obj)) (s:Shared) (σ:St) (H:Hp) (Q:Option Int→Hp→Prop),Inv X pins σ H s→t σ H Q →
    wpAny (model X.prog X.w) X.A (evalPart e X.env) (fun u s'=>∃ o H',Inv X pins σ H' s'∧IsPart u o∧Q o H') X.xe s
def zjB:TO:=fun _ H Q=>Q none H
def zlN (t:TE):TO:=fun σ H Q=>t σ H fun x H1=>∃ i,x=.int i∧Q (some i) H1
section
variable {X:Cx}{e:Expr}{te:TE}{lo hi:Option Expr}{tl th:TO}{pos p2:Pos}
theorem po_none:PO X none zjB:=by
  intro pins s σ H Q I h
  rw[evalPart_none]
  exact wpAny_pure ⟨none,H,I,.none,h⟩
theorem po_some (h:PE X e te):PO X (some e) (zlN te):=by
  intro pins s σ H Q I hw
  rw[evalPart_some]
  refine thn (h pins s σ H _ I hw) fun u s1 ⟨x,H1,I1,r1,q1⟩=>?_
  obtain⟨i,rfl,q⟩:=q1
  obtain⟨t,rfl⟩:=r1
  exact⟨some i,H1,I1,.int i t,q⟩
def SlR (X:Cx) (r:V→Option Int→Option Int→Hp→VK→Prop):Prop :=
  ∀ (pins:List (Addr × Obj)) (s:Shared) (σ:St) (H:Hp) (x:V) (v vl vu:Value) (lo hi:Option Int) (sl:Addr) (Q:VK),Inv X pins σ H s→RelV x v→s.heap.IsSliceOf sl vl vu .none→IsPart vl lo→IsPart vu hi→r x lo hi H Q →
    ∃ T id,typeLookup (.type T) "__getitem__" = pure (some (.builtin id))∧s.TypeIs v T∧wpAny (model X.prog X.w) X.A (getItem v (.ref sl)) (EP X pins σ Q) X.xe s
def tSl (r:V→Option Int→Option Int→Hp→VK→Prop) (te:TE) (tl th:TO):TE:=fun σ H Q=>te σ H fun x H1=>tl σ H1 fun l H2=>th σ H2 fun u H3=>r x l u H3 Q
theorem pe_slice {r:V→Option Int→Option Int→Hp→VK→Prop}(hr:SlR X r) (he:PE X e te) (hl:PO X lo tl) (hu:PO X hi th):PE X (.Subscript e (.Slice lo hi none p2) pos) (tSl r te tl th):=by
  intro pins s σ H Q I h
  refine Subscript_ (thn (he pins s σ H _ I h) fun v s1 ⟨x,H1,I1,r1,q1⟩=>?_)
  refine wpAny_Slice (thn (hl pins s1 σ H1 _ I1 q1) fun vl s2 ⟨l,H2,I2,pl,q2⟩=>thn (hu pins s2 σ H2 _ I2 q2) fun vu s3 ⟨u,H3,I3,pu,q3⟩=>?_)
  rw[evalPart_none]
  refine wpAny_pure ?_
  have I4:Inv X pins σ H3 { s3 with heap:=s3.heap.push { cls:=.type "slice",data:=.fields #[vl,vu,.none] } }:=I3.kept (t':=s3.toks) fun b ob q=>Heap.get?_push_of_some _ q
  obtain⟨T,id,hT,ht,hg⟩:=hr pins { s3 with heap:=s3.heap.push { cls:=.type "slice",data:=.fields #[vl,vu,.none] } } σ H3 x v vl vu l u s3.heap.objs.size Q I4 r1 (Heap.IsSliceOf.new ..) pl pu q3
  show wpAny (model X.prog X.w) X.A (subscriptTail e (.Slice lo hi none p2) v (.ref s3.heap.objs.size)) (EP X pins σ Q) X.xe { s3 with heap:=s3.heap.push { cls:=.type "slice",data:=.fields #[vl,vu,.none] } }
  exact tail_any (ops:=[.ref s3.heap.objs.size,v]) ht hT hg (by with_unfolding_all rfl)
def cutV (xs:List V) (lo hi:Option Int):List V:=(xs.drop (HT.sIx xs.length 0 lo)).take (HT.sIx xs.length xs.length hi-HT.sIx xs.length 0 lo)
theorem zcz (xs:List V) (lo hi:Option Int):(cutV xs lo hi).length≤xs.length:=by
  unfold cutV
  rw[List.length_take,List.length_drop]
  omega
def rSlT (K:PySem.W.Frag):V→Option Int→Option Int→Hp→VK→Prop:=fun x lo hi H Q=>∃ a xs,x=.ref a∧SqT K H a xs ∧
  ¬(HT.sIx xs.length 0 lo=0∧HT.sIx xs.length xs.length hi=xs.length)∧∀ p,H p=none→Q (.ref p) (upd H p (.tup (cutV xs lo hi)))
theorem zk6:SlR X (rSlT X.K):=by
  intro pins s σ H x v vl vu lo hi sl Q I rx hs pl pu h
  obtain⟨a,xs,rfl,hx,hw,q⟩:=h
  cases rx
  obtain⟨its,r,ht,hz⟩:=I.tuple hx
  have hlen:its.toArray.size=xs.length:=by rw[List.size_toArray];exact r.length.symm
  refine⟨"tuple",_,PyProof.Rows.slot_tuple_getitem.lookup,ht.typeIs,?_⟩
  refine HT.getItem_tuple_cut ht hs pl pu (by rw[hlen];exact hw) ?_ (by rw[hlen];exact hz)
  rw[hlen]
  refine⟨.ref s.heap.objs.size,_,I.laid (t':=s.toks) (o:=.tup (cutV xs lo hi)) (fun b ob q=>Heap.get?_push_of_some _ q) (Nat.le_refl _) ?_,rfl,q _ (I.hok.fresh (Nat.le_refl _))⟩
  exact⟨Nat.le_trans (zcz xs lo hi) hz,_,(r.drop (HT.sIx xs.length 0 lo)).take (HT.sIx xs.length xs.length hi-HT.sIx xs.length 0 lo),TupX.new _ _⟩
def zlT (K:PySem.W.Frag):R2:=fun x y H Q=>∃ a b xs ys,x=.ref a∧y=.ref b∧SqT K H a xs∧SqT K H b ys∧xs≠[]∧xs.length+ys.length≤sizeLine ∧
  (ys=[]→Q (.ref a) H)∧(ys≠[]→∀ p,H p=none→Q (.ref p) (upd H p (.tup (xs++ys))))
theorem Vals.nil_iff {xs:List V}{us:List Value}(r:Vals xs us):us=[]↔xs=[]:=by
  cases r with
  | nil=>simp
  | cons _ _=>simp
theorem zkd:OpR X (binaryOp .Add) (zlT X.K):=by
  intro pins s σ H x y v u Q I rx ry h
  obtain⟨a,b,xs,ys,rfl,rfl,ha,hb,hx,hz,q1,q2⟩:=h
  cases rx
  cases ry
  obtain⟨its,r1,p1,_⟩:=I.tuple ha
  obtain⟨its2,r2,p2,_⟩:=I.tuple hb
  refine HT.cat_tup p1 p2 (fun z=>hx (r1.nil_iff.mp z)) (fun z=>⟨.ref a,H,I,rfl,q1 (r2.nil_iff.mp z)⟩) (fun z=>?_) (by rw[← r1.length,← r2.length];exact hz)
  refine⟨.ref s.heap.objs.size,_,I.laid (t':=s.toks) (o:=.tup (xs++ys)) (fun b ob q=>Heap.get?_push_of_some _ q) (Nat.le_refl _) ?_,rfl,q2 (fun w=>z (r2.nil_iff.mpr w)) _ (I.hok.fresh (Nat.le_refl _))⟩
  exact⟨by rw[List.length_append];exact hz,_,r1.append r2,TupX.new _ _⟩
end
def ixN (n:Nat) (i:Int):Option Nat:=if 0≤i then (if i<n then some i.toNat else none) else if -(n:Int)≤i then some (i+n).toNat else none
def atI {α:Type}(xs:List α) (i:Int):Option α:=(ixN xs.length i).bind fun j=>xs[j]?
theorem zeI {n:Nat}{i:Int}{j:Nat}(h:ixN n i=some j):seqIndex? i n=some j∧j<n∧-(n:Int)≤i∧i<n:=by
  unfold ixN at h
  by_cases h0:0≤i
  · rw[if_pos h0]at h
    by_cases h1:i<n
    · rw[if_pos h1]at h
      have e:i.toNat=j:=Option.some.inj h
      exact⟨by rw[seqIndex_of h0 h1,e],by omega,by omega,h1⟩
    · rw[if_neg h1]at h;cases h
  · rw[if_neg h0]at h
    by_cases h1:-(n:Int)≤i
    · rw[if_pos h1]at h
      have e:(i+n).toNat=j:=Option.some.inj h
      exact⟨by rw[seqIndex_neg (by omega) h1,e],by omega,h1,by omega⟩
    · rw[if_neg h1]at h;cases h
theorem zh4 {α:Type}{xs:List α}{i:Int}{v:α}(h:atI xs i=some v):∃ j,seqIndex? i xs.length=some j∧xs[j]?=some v∧j<xs.length∧-(xs.length:Int)≤i∧i<xs.length:=by
  unfold atI at h
  cases e:ixN xs.length i with
  | none=>rw[e]at h;cases h
  | some j =>
    rw[e]at h
    obtain⟨h1,h2,h3,h4⟩:=zeI e
    exact⟨j,h1,h,h2,h3,h4⟩
theorem zaN {α:Type}{xs:List α}{j:Nat}{v:α}(h:xs[j]?=some v):atI xs (j:Int)=some v:=by
  have hj:j<xs.length:=(List.getElem?_eq_some_iff.mp h).1
  have e:ixN xs.length (j:Int)=some j:=by
    unfold ixN
    rw[if_pos (by omega),if_pos (by omega)];simp
  unfold atI;rw[e];exact h
def PlainIx (b:Expr):Prop:=∀ o i,subscripted b false o i=operate [o,i] (getItem o i)
def IxR (X:Cx) (r:R2):Prop :=
  ∀ (value slice:Expr) (pins:List (Addr × Obj)) (s:Shared) (σ:St) (H:Hp) (x y:V) (v u:Value) (Q:VK),Inv X pins σ H s→RelV x v→RelV y u→r x y H Q →
    subscripted slice false v u=operate [v,u] (getItem v u)→wpAny (model X.prog X.w) X.A (subscriptTail value slice v u) (EP X pins σ Q) X.xe s
def MtR (X:Cx) (id:String) (r:V→List V→Hp→VK→Prop):Prop :=
  ∀ (pins:List (Addr × Obj)) (s:Shared) (σ:St) (H:Hp) (x:V) (xs:List V) (v:Value) (us:List Value) (Q:VK),Inv X pins σ H s→RelV x v→Vals xs us→r x xs H Q →
    wpAny (model X.prog X.w) X.A (call (.builtin id) (v::us)) (EP X pins σ Q) X.xe s
section
variable {X:Cx}{a b:Expr}{ta tb:TE}{pos:Pos}
theorem pe_ix {r:R2}(hr:IxR X r) (ha:PE X a ta) (hb:PE X b tb) (hs:PlainIx b):PE X (.Subscript a b pos) (tOp r ta tb):=by
  intro pins s σ H Q I h
  exact Subscript_ (binT ha hb I h fun v u s2 x y H2 I2 rx ry q=>hr a b pins s2 σ H2 x y v u Q I2 rx ry q (hs _ _))
def rIxL (K:PySem.W.Frag):R2:=fun x y H Q=>∃ p xs i v,x=.ref p∧y=.int i∧SqL K H p xs∧atI xs i=some v∧Q v H
def rIxT (K:PySem.W.Frag):R2:=fun x y H Q=>∃ p xs i v,x=.ref p∧y=.int i∧SqT K H p xs∧atI xs i=some v∧Q v H
theorem ix_list:IxR X (rIxL X.K):=by
  intro value slice pins s σ H x y v u Q I rx ry h hs
  obtain⟨p,xs,i,z,rfl,rfl,hq,he,q⟩:=h
  cases rx
  obtain⟨t,rfl⟩:=ry
  obtain⟨its,r,pl,hz⟩:=I.list hq
  obtain⟨j,h1,h2,h3,h4,h5⟩:=zh4 he
  obtain⟨w,ew,rw'⟩:=r.get h2
  have hl:=r.length
  have hn:=zdP
  have fin:EP X pins σ Q w s:=⟨z,H,I,rw',q⟩
  by_cases h0:0≤i
  · have hj:i.toNat=j:=by
      rw[seqIndex_of h0 h5]at h1
      exact Option.some.inj h1
    exact item_listR pl.isList h0 (by omega) (by rw[hj];simpa using ew) fin hs
  · have hj:(i+(its.toArray.size:Int)).toNat=j:=by
      rw[seqIndex_neg (by omega) h4]at h1
      rw[List.size_toArray,← hl]
      exact Option.some.inj h1
    exact subscriptTail_builtinR (x:=w) pl.isList.typeIs slot_list_getitem.lookup
      (wpAny_getItem_list_neg (Q:=fun r s'=>r=w∧EP X pins σ Q r s') pl.isList (by omega) (by rw[List.size_toArray]<;>omega) (by omega) (by rw[hj];simpa using ew) ⟨rfl,fin⟩) hs
theorem ix_tup:IxR X (rIxT X.K):=by
  intro value slice pins s σ H x y v u Q I rx ry h hs
  obtain⟨p,xs,i,z,rfl,rfl,hq,he,q⟩:=h
  cases rx
  obtain⟨t,rfl⟩:=ry
  obtain⟨its,r,pl,hz⟩:=I.tuple hq
  obtain⟨j,h1,h2,h3,h4,h5⟩:=zh4 he
  obtain⟨w,ew,rw'⟩:=r.get h2
  have hl:=r.length
  have hn:=zdP
  have fin:EP X pins σ Q w s:=⟨z,H,I,rw',q⟩
  exact subscriptTail_builtinR (x:=w) pl.typeIs slot_tuple_getitem.lookup
    (getItem_tuple (j:=j) (Q:=fun r s'=>r=w∧EP X pins σ Q r s') pl (by omega) (by omega) (by rw[List.size_toArray,← hl];exact h1) (by simpa using ew) ⟨rfl,fin⟩) hs
theorem zfT (its:List Value) (n j:Nat) (u:Value):Obj.mapSeq (·.setIfInBounds j u) { cls:=.type "list",data:=.seq its.toArray n }={ cls:=.type "list",data:=.seq (its.set j u).toArray n }:=by
  simp[Obj.mapSeq]
theorem Inv.lst {pins:List (Addr × Obj)}{σ:St}{H:Hp}{s:Shared}{p:Addr}{xs:List V}(I:Inv X pins σ H s) (h:H p=some (.lst xs)) :
    ∃ (its:List Value) (n:Nat),Vals xs its∧s.heap.get? p=some { cls:=.type "list",data:=.seq its.toArray n }∧xs.length≤sizeLine:=by
  obtain⟨z,its,n,r,e⟩:=I.hok p _ h
  exact⟨its,n,r,e,z⟩
theorem Inv.lstUpd {pins:List (Addr × Obj)}{σ:St}{H:Hp}{s:Shared}{p:Addr}{xs ys:List V}{its its':List Value}{n n':Nat}{f:Obj→Obj}(I:Inv X pins σ H s) (h:H p=some (.lst xs))
    (ho:s.heap.get? p=some { cls:=.type "list",data:=.seq its.toArray n }) (hf:f { cls:=.type "list",data:=.seq its.toArray n }={ cls:=.type "list",data:=.seq its'.toArray n' }) (r:Vals ys its') (hz:ys.length≤sizeLine) (t:Nat) :
    Inv X pins σ (upd H p (.lst ys)) { s with heap:=s.heap.update p f,toks:=t }:=by
  have e:(s.heap.update p f).get? p=some { cls:=.type "list",data:=.seq its'.toArray n' }:=by
    rw[Heap.get?_update_self f ho (by rw[hf]<;>rfl),hf]
  refine I.write (x:=p) (e:=p) (by rw[h];trivial) (.inl rfl) (fun b u hb q=>(Heap.get?_update_other _ _ (Ne.symm hb)).trans q) ⟨_,e⟩ ?_
  exact⟨hz,its',n',r,e⟩
def zlS:V→V→V→Hp→(Hp→Prop)→Prop:=fun o i v H Q=>∃ p xs k j,o=.ref p∧i=.int k∧H p=some (.lst xs)∧ixN xs.length k=some j∧Q (upd H p (.lst (xs.set j v)))
theorem set_list:PSet X zlS:=by
  intro pins s σ H o i v ov iv u Q I ro ri rv h
  obtain⟨p,xs,k,j,rfl,rfl,hp,hj,q⟩:=h
  cases ro
  obtain⟨t,rfl⟩:=ri
  obtain⟨its,n,r,ho,hz⟩:=I.lst hp
  obtain⟨h1,h2,h3,h4⟩:=zeI hj
  have hl:=r.length
  have hn:=zdP
  have I':Inv X pins σ (upd H p (.lst (xs.set j v))) { s with heap:=s.heap.update p (Obj.mapSeq (·.setIfInBounds j u)) } :=
    I.lstUpd hp ho (zfT its n j u) (r.set rv j) (by rw[List.length_set];exact hz) s.toks
  by_cases h0:0≤k
  · have hk:k.toNat=j:=by
      rw[seqIndex_of h0 h4]at h1
      exact Option.some.inj h1
    exact PySem.W.ki_setAt ho h0 (by omega) (by rw[List.size_toArray,← hl];exact h4) (by rw[hk];exact⟨_,I',q⟩)
  · have hk:(k+(its.toArray.size:Int)).toNat=j:=by
      rw[seqIndex_neg (by omega) h3]at h1
      rw[List.size_toArray,← hl]
      exact Option.some.inj h1
    exact PySem.W.ki_setBack ho (by omega) (by rw[List.size_toArray,← hl];exact h3) (by omega) (by rw[hk];exact⟨_,I',q⟩)
theorem zdF (lo hi:Option Int) (n:Nat):(sliceBounds lo hi none n).1=((HT.sIx n 0 lo:Nat):Int)∧(sliceBounds lo hi none n).2.1=((HT.sIx n n hi:Nat):Int)∧(sliceBounds lo hi none n).2.2=1:=by
  refine⟨?_,?_,rfl⟩
  · cases lo with
    | none=>simp[sliceBounds,HT.sIx]
    | some i =>
      simp only[sliceBounds,HT.sIx,Option.getD_none,show (1:Int) > 0 by decide,if_true]
      by_cases h:i<0
      · simp only[h,if_true]<;>omega
      · simp only[h,if_false]<;>omega
  · cases hi with
    | none=>simp[sliceBounds,HT.sIx]
    | some i =>
      simp only[sliceBounds,HT.sIx,Option.getD_none,show (1:Int) > 0 by decide,if_true]
      by_cases h:i<0
      · simp only[h,if_true]<;>omega
      · simp only[h,if_false]<;>omega
theorem zdb (its:List Value) (lo hi:Option Int):slicePick its.toArray lo hi none=((its.drop (HT.sIx its.length 0 lo)).take (HT.sIx its.length its.length hi-HT.sIx its.length 0 lo)).toArray:=by
  obtain⟨h1,h2,h3⟩:=zdF lo hi its.toArray.size
  unfold slicePick
  rw[h1,h2,h3]
  simp only[sliceRange_one,pick_run,List.size_toArray]<;>rfl
def rSlL (K:PySem.W.Frag):V→Option Int→Option Int→Hp→VK→Prop:=fun x lo hi H Q=>∃ a xs,x=.ref a∧SqL K H a xs∧∀ p,H p=none→Q (.ref p) (upd H p (.lst (cutV xs lo hi)))
theorem sl_list:SlR X (rSlL X.K):=by
  intro pins s σ H x v vl vu lo hi sl Q I rx hs pl pu h
  obtain⟨a,xs,rfl,hx,q⟩:=h
  cases rx
  obtain⟨its,r,ht,hz⟩:=I.list hx
  have hlen:=r.length
  refine⟨"list",_,slot_list_getitem.lookup,ht.isList.typeIs,?_⟩
  refine wpAny_getItem_list_slice ht.isList hs pl pu .none (by simp) ?_ (by rw[List.size_toArray]<;>omega)
  rw[zdb,← hlen]
  refine⟨.ref s.heap.objs.size,_,I.laid (t':=s.toks) (o:=.lst (cutV xs lo hi)) (fun b ob q=>Heap.get?_push_of_some _ q) (Nat.le_refl _) ?_,rfl,q _ (I.hok.fresh (Nat.le_refl _))⟩
  exact⟨Nat.le_trans (zcz xs lo hi) hz,_,0,(r.drop (HT.sIx xs.length 0 lo)).take (HT.sIx xs.length xs.length hi-HT.sIx xs.length 0 lo),Heap.get?_push_size _ rfl⟩
def zeN:V→Bool
  | .non=>true
  | .bl _=>true
  | .int _=>true
  | .str _=>true
  | _=>false
def eqV:V→V→Bool
  | .non,.non=>true
  | .bl a,.bl b=>a == b
  | .bl a,.int b=>(if a then 1 else 0) == b
  | .int a,.bl b=>a == (if b then 1 else 0)
  | .int a,.int b=>a == b
  | .str a,.str b=>a == b
  | _,_=>false
theorem zjr {A:Around}{s:Shared}{y x:V}{u v:Value}(ry:RelV y u) (rx:RelV x v) (fy:zeN y=true) (fx:zeN x=true):SeqAt.EqAt A s u v (eqV y x):=by
  cases y with
  | non =>
    cases ry
    cases x with
    | non=>cases rx;exact SeqAt.EqAt.same _
    | bl b=>cases rx;exact SeqAt.EqAt.none_bool b
    | int b=>obtain⟨t,rfl⟩:=rx;exact SeqAt.EqAt.none_int b t
    | str b=>obtain⟨t,rfl⟩:=rx;exact SeqAt.EqAt.none_str b t
    | _=>exact absurd (show false=true from fx) Bool.false_ne_true
  | bl a =>
    cases ry
    cases x with
    | non=>cases rx;exact SeqAt.EqAt.bool_none a
    | bl b=>cases rx;exact SeqAt.EqAt.bool_bool a b
    | int b=>obtain⟨t,rfl⟩:=rx;exact SeqAt.EqAt.bool_int a b t
    | str b=>obtain⟨t,rfl⟩:=rx;exact SeqAt.EqAt.bool_str a b t
    | _=>exact absurd (show false=true from fx) Bool.false_ne_true
  | int a =>
    obtain⟨t',rfl⟩:=ry
    cases x with
    | non=>cases rx;exact SeqAt.EqAt.int_none a t'
    | bl b=>cases rx;exact SeqAt.EqAt.int_bool a t' b
    | int b=>obtain⟨t,rfl⟩:=rx;exact SeqAt.EqAt.int_int a t' b t
    | str b=>obtain⟨t,rfl⟩:=rx;exact SeqAt.EqAt.int_str a t' b t
    | _=>exact absurd (show false=true from fx) Bool.false_ne_true
  | str a =>
    obtain⟨t',rfl⟩:=ry
    cases x with
    | non=>cases rx;exact SeqAt.EqAt.str_none a t'
    | bl b=>cases rx;exact SeqAt.EqAt.str_bool a t' b
    | int b=>obtain⟨t,rfl⟩:=rx;exact SeqAt.EqAt.str_int a t' b t
    | str b=>obtain⟨t,rfl⟩:=rx;exact SeqAt.EqAt.str_str a t' b t
    | _=>exact absurd (show false=true from fx) Bool.false_ne_true
  | _=>exact absurd (show false=true from fy) Bool.false_ne_true
theorem call_len_seq:CallR X (.builtin "len") (fun xs H Q=>∃ p ys,xs=[.ref p]∧(SqL X.K H p ys∨SqT X.K H p ys)∧Q (.int ys.length) H):=by
  intro pins s σ H xs us Q I r h
  obtain⟨p,ys,rfl,hq,q⟩:=h
  obtain⟨u,rfl,rx⟩:=zgg r
  cases rx
  have hn:=zdP
  rcases hq with hq|hq
  · obtain⟨its,r',pl,hz⟩:=I.list hq
    have hlen:=r'.length
    exact Calls.call_len_list pl.isList (by simp only[List.size_toArray]<;>omega) ⟨.int ys.length,H,I.tok _,⟨s.toks+1,by rw[List.size_toArray,hlen]⟩,q⟩
  · obtain⟨its,r',pl,hz⟩:=I.tuple hq
    have hlen:=r'.length
    exact len_tuple pl (by simp only[List.size_toArray]<;>omega) ⟨.int ys.length,H,I.tok _,⟨s.toks+1,by rw[List.size_toArray,hlen]⟩,q⟩
theorem zaU:CallR X (.type "list") (fun xs H Q=>∃ p ys,xs=[.ref p]∧(SqL X.K H p ys∨SqT X.K H p ys)∧∀ l,H l=none→Q (.ref l) (upd H l (.lst ys))):=by
  intro pins s σ H xs us Q I r h
  obtain⟨p,ys,rfl,hq,q⟩:=h
  obtain⟨u,rfl,rx⟩:=zgg r
  cases rx
  have fin:∀ (its:List Value),Vals ys its→ys.length≤sizeLine→∀ (h':Heap) (c':Nat),(∀ b o',s.heap.get? b=some o'→h'.get? b=some o') →
      h'.get? s.heap.objs.size=some { cls:=.type "list",dict:=none,data:=.seq its.toArray c',slots:=#[] }→EP X pins σ Q (.ref s.heap.objs.size) { s with heap:=h' }:=fun its r' hz h' c' kp e =>
    ⟨.ref s.heap.objs.size,_,I.laid (t':=s.toks) kp (Nat.le_refl _) (show ObjOk X.prog X.w _ h' _ (.lst ys) from⟨hz,its,c',r',e⟩),rfl,q _ (I.hok.fresh (Nat.le_refl _))⟩
  rcases hq with hq|hq
  · obtain⟨its,r',pl,hz⟩:=I.list hq
    have hlen:=r'.length
    obtain⟨o,ho,hc,n,hd⟩:=pl.isList
    exact call_list_seq p (.inl rfl) ho hc hd (fun h' c' kp e=>fin its r' hz h' c' kp e) (by simp only[List.size_toArray]<;>omega)
  · obtain⟨its,r',pl,hz⟩:=I.tuple hq
    have hlen:=r'.length
    obtain⟨o,ho,hc,n,hd⟩:=pl
    exact call_list_seq p (.inr rfl) ho hc hd (fun h' c' kp e=>fin its r' hz h' c' kp e) (by simp only[List.size_toArray]<;>omega)
theorem call_tuple_of:CallR X (.type "tuple") (fun xs H Q=>∃ p ys,xs=[.ref p]∧((SqL X.K H p ys∧∀ l,H l=none→Q (.ref l) (upd H l (.tup ys)))∨(SqT X.K H p ys∧Q (.ref p) H))):=by
  intro pins s σ H xs us Q I r h
  obtain⟨p,ys,rfl,h⟩:=h
  obtain⟨u,rfl,rx⟩:=zgg r
  cases rx
  rcases h with ⟨hq,q⟩|⟨hq,q⟩
  · obtain⟨its,r',pl,hz⟩:=I.list hq
    have hlen:=r'.length
    refine call_tuple_list pl.isList (fun h' kp=>?_) (by simp only[List.size_toArray]<;>omega)
    have I1:Inv X pins σ H { s with heap:=h' }:=I.kept (t':=s.toks) kp
    have I2:Inv X pins σ (upd H h'.objs.size (.tup ys)) { s with heap:=h'.push { cls:=.type "tuple",data:=.seq its.toArray } } :=
      I1.laid (t':=s.toks) (fun b o e=>Heap.get?_push_of_some _ e) (Nat.le_refl _) (show ObjOk X.prog X.w _ _ _ (.tup ys) from⟨hz,its,r',TupX.new _ _⟩)
    exact⟨.ref h'.objs.size,_,I2,rfl,q _ (I1.hok.fresh (Nat.le_refl _))⟩
  · obtain⟨its,r',pl,hz⟩:=I.tuple hq
    exact call_tuple_same pl ⟨.ref p,H,I,rfl,q⟩
def tyV (K:PySem.W.Frag) (T:String) (x:V) (H:Hp):Prop:=match x with
  | .str _=>T = "str"
  | .int _=>T = "int"
  | .ref p=>(T = "list"∧∃ xs,SqL K H p xs)∨(T = "tuple"∧∃ o,K.lookup p=some o∧o.cls=.type "tuple"∧o.dict=none) ∨
      (T = "dict"∧((∃ kvs,H p=some (.dK kvs))∨∃ kvs,H p=some (.dT kvs)))∨(T = "set"∧∃ S n,H p=some (.set S n))
  | _=>False
theorem zkY {pins:List (Addr × Obj)}{σ:St}{H:Hp}{s:Shared}{T:String}{x:V}{v:Value}(I:Inv X pins σ H s) (r:RelV x v) (ty:tyV X.K T x H) :
    s.TypeIs v T∧∀ a,v=.ref a→∃ ob,s.heap.get? a=some ob∧ob.dict=none:=by
  cases x with
  | str z =>
    obtain⟨t,rfl⟩:=r
    cases (show T = "str" from ty)
    exact⟨typeIs_str s z t,fun _ e=>nomatch e⟩
  | int i =>
    obtain⟨t,rfl⟩:=r
    cases (show T = "int" from ty)
    exact⟨typeIs_int s i t,fun _ e=>nomatch e⟩
  | ref p =>
    cases r
    rcases ty with ⟨rfl,xs,hq⟩|⟨rfl,o,hk,hc,hd⟩|⟨rfl,hk⟩|⟨rfl,S,n,hk⟩
    · obtain⟨its,_,pl,_⟩:=I.list hq
      refine⟨pl.isList.typeIs,fun a e=>?_⟩
      cases e
      obtain⟨o,n,e,c,hd,_⟩:=pl
      exact⟨o,e,hd⟩
    · refine⟨⟨o,I.kIn p o hk,hc⟩,fun a e=>?_⟩
      cases e
      exact⟨o,I.kIn _ o hk,hd⟩
    · have z:∃ o,s.heap.get? p=some o∧o.ExactDict:=by
        rcases hk with ⟨kvs,hk⟩|⟨kvs,hk⟩
        · obtain⟨_,_,_,_,o,_,_,e,ex,_⟩:=I.hok p _ hk
          exact⟨o,e,ex⟩
        · obtain⟨_,_,_,_,o,_,_,e,ex,_⟩:=I.hok p _ hk
          exact⟨o,e,ex⟩
      obtain⟨o,e,ex⟩:=z
      refine⟨⟨o,e,ex.1⟩,fun a e2=>?_⟩
      cases e2
      exact⟨o,e,ex.2.1⟩
    · obtain⟨o,_,_,_,e,ex,_⟩:=I.hok p _ hk
      refine⟨⟨o,e,ex.1⟩,fun a e2=>?_⟩
      cases e2
      exact⟨o,e,ex.2.1⟩
  | _=>exact False.elim ty
def tBM (K:PySem.W.Frag) (T:String) (r:V→List V→Hp→VK→Prop) (to:TE) (t:TA):TE:=fun σ H Q=>to σ H fun x H1=>tyV K T x H1∧t σ H1 fun xs H2=>r x xs H2 Q
variable {o e:Expr}{es:List Expr}{to:TE}{t:TA}{name:Str}{apos cpos:Pos}{T id:String}{r:V→List V→Hp→VK→Prop}
theorem pe_bm (pa:PlainAttrs T) (slot:Slot T name id) (hty:typeOf (.builtin id)=pure (.type "method_descriptor")) (hm:MtR X id r) (ho:PE X o to) (ha:PA X (e::es) t)
    (hbase:attributeBase o name X.env (eval o X.env)=eval o X.env:=by rfl)
    (hfew:((backTo cpos (starEach (e::es) X.env)).all (fun x=>!x.1) && (backToKw cpos (keywordEach [] X.env)).all (fun x=>x.1.isSome)
      && decide ((e::es).length+([]:List Keyword).length+(if ([]:List Keyword).isEmpty then 0 else 1)<30))=true:=by rfl)
    (hline:(apos.endLine == cpos.line)=true:=by rfl) (hs:starEach (e::es) X.env=(false,eval e X.env)::starEach es X.env:=by rfl) (hplain:(backTo cpos (starEach es X.env)).any (·.1)=false:=by rfl) :
    PE X (.Call (.Attribute o name apos) (e::es) [] cpos) (tBM X.K T r to t):=by
  intro pins s σ H Q I h
  refine wpAny_Call_method_late hbase hfew hline rfl (thn (ho pins s σ H _ I h) fun v s1 ⟨x,H1,I1,r1,ty,q1⟩=>?_)
  obtain⟨h1,h2⟩:=zkY I1 r1 ty
  refine⟨T,id,pa,slot,hty,h1,h2,?_⟩
  have hA:=ha cpos pins s1 σ H1 _ I1 q1
  rw[hs]at hA ⊢
  refine Calls.callWith_builtin (by show (false || (backTo cpos (starEach es X.env)).any (·.1))=false;rw[hplain]<;>rfl) (Calls.evalArgs_plain ?_)
  exact thn hA fun us s2 ⟨vs,H2,I2,r2,q2⟩=>hm pins s2 σ H2 x vs v us Q I2 r1 r2 q2
/- xs.append(e),list.index on a module's tuple .. are MtR facts of 06m -/
end
def MtM (X:Cx) (id:String) (r:V→List V→Hp→VK→Prop):Prop :=
  ∀ (pins:List (Addr × Obj)) (s:Shared) (σ:St) (H:Hp) (x:V) (xs:List V) (v:Value) (us:List Value) (Q:VK),Inv X pins σ H s→RelV x v→Vals xs us→r x xs H Q →
    wpAny (model X.prog X.w) X.A (call (.builtin id) (v::us)) (EP X pins σ Q) X.xe s
theorem Vals.one:∀ {x:V}{us:List Value},Vals [x] us→∃ u,us=[u]∧RelV x u
  | _,_,.cons r .nil=>⟨_,rfl,r⟩
theorem Vals.two:∀ {x y:V}{us:List Value},Vals [x,y] us→∃ u v,us=[u,v]∧RelV x u∧RelV y v
  | _,_,_,.cons r (.cons q .nil)=>⟨_,_,rfl,r,q⟩
theorem Vals.eraseIdx:∀ {xs:List V}{us:List Value}(i:Nat),Vals xs us→Vals (xs.eraseIdx i) (us.eraseIdx i)
  | _,_,_,.nil=>.nil
  | _,_,0,.cons _ t=>t
  | _,_,i+1,.cons r t=>.cons r (Vals.eraseIdx i t)
theorem Vals.reverse {xs:List V}{us:List Value}(h:Vals xs us):Vals xs.reverse us.reverse:=by
  induction h with
  | nil=>exact .nil
  | cons r t ih=>rw[List.reverse_cons,List.reverse_cons];exact Vals.append ih (.cons r .nil)
theorem Vals.rep {xs:List V}{us:List Value}(h:Vals xs us):∀ k:Nat,Vals (List.replicate k xs).flatten (List.replicate k us).flatten
  | 0=>.nil
  | k+1=>by
    rw[List.replicate_succ,List.replicate_succ,List.flatten_cons,List.flatten_cons]
    exact Vals.append h (Vals.rep h k)
theorem zdQ {α:Type}:∀ (l:List α) (i:Nat),(l.eraseIdx i).length≤l.length
  | [],_=>Nat.le_refl _
  | _::_,0=>Nat.le_succ _
  | _::r,i+1=>Nat.succ_le_succ (zdQ r i)
theorem zdV (its:List Value):∀ (k:Nat) (acc:List Value),
    List.foldl (fun x1 x2=>x1++x2) acc.toArray (List.replicate k its.toArray)=(acc++(List.replicate k its).flatten).toArray
  | 0,acc=>by simp
  | k+1,acc=>by
    have e:acc.toArray++its.toArray=(acc++its).toArray:=by simp
    have e2:(acc++its)++(List.replicate k its).flatten=acc++(List.replicate (k+1) its).flatten:=by
      rw[List.replicate_succ,List.flatten_cons,List.append_assoc]
    rw[← e2,← zdV its k (acc++its),← e,List.replicate_succ,List.foldl_cons]
section
variable {X:Cx}{pins:List (Addr × Obj)}{σ:St}{H:Hp}{s:Shared}{l b:Addr}{xs ys zs:List V}
theorem Inv.lset {its its':List Value}{n:Nat}{f:Array Value→Array Value}{t':Nat}(I:Inv X pins σ H s) (hH:H l=some (.lst xs))
    (e:s.heap.get? l=some { cls:=.type "list",data:=.seq its.toArray n }) (hf:f its.toArray=its'.toArray) (hv:Vals ys its') (hz:ys.length≤sizeLine) :
    Inv X pins σ (upd H l (.lst ys)) { s with heap:=s.heap.update l (Obj.mapSeq f),toks:=t' }:=by
  have q:=PySem.IsL.update e f
  rw[hf]at q
  refine I.write (x:=l) (e:=l) (by rw[hH];exact trivial) (.inl rfl) (fun b' u hb hu=>(Heap.get?_update_other s.heap (Obj.mapSeq f) (Ne.symm hb)).trans hu) ⟨_,q⟩ ?_
  exact⟨hz,its',_,hv,q⟩
theorem Inv.lnew {its:List Value}{t':Nat}(I:Inv X pins σ H s) (hv:Vals ys its) (hz:ys.length≤sizeLine) :
    Inv X pins σ (upd H s.heap.objs.size (.lst ys)) { s with heap:=s.heap.push { cls:=.type "list",data:=.seq its.toArray },toks:=t' } :=
  I.laid (fun _ _ q=>Heap.get?_push_of_some _ q) (Nat.le_refl _) ⟨hz,its,0,hv,Heap.get?_push_size _ rfl⟩
theorem Inv.fresh (I:Inv X pins σ H s):H s.heap.objs.size=none:=I.hok.fresh (Nat.le_refl _)
theorem Inv.lstM (I:Inv X pins σ H s) (hH:H l=some (.lst xs)):xs.length≤sizeLine∧∃ (its:List Value) (n:Nat),Vals xs its∧xs.length=its.length∧s.heap.get? l=some { cls:=.type "list",data:=.seq its.toArray n }:=by
  obtain⟨z,its,n,r,e⟩:=I.hok l _ hH
  exact⟨z,its,n,r,r.length,e⟩
theorem zfk {n:Nat}(h:n≤sizeLine):Builtin.List.listTooLong n=false:=by
  unfold Builtin.List.listTooLong
  exact decide_eq_false (by omega)
end
section
variable {X:Cx}
def zj2:V→List V→Hp→VK→Prop:=fun x vs H Q=>∃ l xs y,x=.ref l∧vs=[y]∧H l=some (.lst xs)∧xs.length<sizeLine∧Q .non (upd H l (.lst (xs++[y])))
theorem mt_append:MtM X "list.append" zj2:=by
  intro pins s σ H x vs v us Q I rx rv h
  obtain⟨l,xs,y,rfl,rfl,hH,hz,q⟩:=h
  cases rx
  obtain⟨u,rfl,ru⟩:=rv.one
  obtain⟨z,its,n,r,hl,e⟩:=I.lstM hH
  refine call_meets F.slot_list_append ⟨_,e,rfl⟩ F.entry_list_append (F.args_list_append_2 _ _) (PySem.list_append l its.toArray n u (by rw[List.size_toArray];omega)) ⟨e,?_⟩
  refine⟨.non,_,I.lset (its':=its++[u]) hH e (by simp) (r.append (.cons ru .nil)) ?_,rfl,q⟩
  rw[List.length_append,List.length_singleton]
  omega
def zj1:V→List V→Hp→VK→Prop:=fun x vs H Q=>∃ l b xs zs,x=.ref l∧vs=[.ref b]∧H l=some (.lst xs)∧H b=some (.lst zs)∧xs.length+zs.length≤sizeLine∧Q .non (upd H l (.lst (xs++zs)))
theorem zho:MtM X "list.extend" zj1:=by
  intro pins s σ H x vs v us Q I rx rv h
  obtain⟨l,b,xs,zs,rfl,rfl,hH,hB,hz,q⟩:=h
  cases rx
  obtain⟨u,rfl,ru⟩:=rv.one
  cases ru
  obtain⟨z,its,n,r,hl,e⟩:=I.lstM hH
  obtain⟨z2,its2,n2,r2,hl2,e2⟩:=I.lstM hB
  have hsz:its.toArray.size+its2.toArray.size≤sizeLine:=by rw[List.size_toArray,List.size_toArray];omega
  have hlong:¬(!its.toArray.isEmpty && Builtin.List.listTooLong (its.toArray.size+its2.toArray.size))=true:=by
    rw[zfk hsz,Bool.and_false]
    exact Bool.false_ne_true
  refine call_meets F.slot_list_extend ⟨_,e,rfl⟩ F.entry_list_extend (F.args_list_extend_2 _ _)
    (AutoSeq1.list_extend_list_list_0 l its.toArray n b its2.toArray n2 hlong (by rw[List.size_toArray];omega) (by omega)) ⟨e,e2,?_⟩
  refine⟨.non,_,I.lset (its':=its++its2) hH e (by simp) (r.append r2) ?_,rfl,q⟩
  rw[List.length_append]
  omega
def zk9:V→List V→Hp→VK→Prop:=fun x vs H Q=>∃ l xs i k y,x=.ref l∧vs=[.int i]∧H l=some (.lst xs)∧-(2 ^ 63)≤i∧i<2 ^ 63∧seqIndex? i xs.length=some k∧xs[k]?=some y∧Q y (upd H l (.lst (xs.eraseIdx k)))
theorem mt_popAt:MtM X "list.pop" zk9:=by
  intro pins s σ H x vs v us Q I rx rv h
  obtain⟨l,xs,i,k,y,rfl,rfl,hH,h1,h2,hk,hy,q⟩:=h
  cases rx
  obtain⟨u,rfl,ru⟩:=rv.one
  obtain⟨t,rfl⟩:=ru
  obtain⟨z,its,n,r,hl,e⟩:=I.lstM hH
  obtain⟨w,hw,rw'⟩:=r.get hy
  refine call_meets F.slot_list_pop ⟨_,e,rfl⟩ F.entry_list_pop (F.args_list_pop_2 _ _)
    (MeetsSeq.list_pop_at l its.toArray n i t k w (fitsIndex_both h1 h2) (by rw[List.size_toArray,← hl];exact hk) (by rw[← Array.getElem?_toList];exact hw) (by rw[List.size_toArray];omega)) ⟨e,?_⟩
  refine⟨y,_,I.lset (its':=its.eraseIdx k) hH e ?_ (r.eraseIdx k) ?_,rw',q⟩
  · show its.toArray.eraseIdxIfInBounds k=(its.eraseIdx k).toArray
    rw[List.eraseIdxIfInBounds_toArray]
  · have:=zdQ xs k
    omega
def rCat:R2:=fun x y H Q=>∃ l b xs zs,x=.ref l∧y=.ref b∧H l=some (.lst xs)∧H b=some (.lst zs)∧xs.length+zs.length≤sizeLine∧∀ p,H p=none→Q (.ref p) (upd H p (.lst (xs++zs)))
theorem zcn:OpR X (binaryOp .Add) rCat:=by
  intro pins s σ H x y v u Q I rx ry h
  obtain⟨l,b,xs,zs,rfl,rfl,hH,hB,hz,q⟩:=h
  cases rx
  cases ry
  obtain⟨z,its,n,r,hl,e⟩:=I.lstM hH
  obtain⟨z2,its2,n2,r2,hl2,e2⟩:=I.lstM hB
  refine PySem.P.add_list e e2 ?_ (by rw[List.size_toArray,List.size_toArray];omega)
  have ea:its.toArray++its2.toArray=(its++its2).toArray:=by simp
  rw[ea]
  exact⟨.ref _,_,I.lnew (t':=s.toks) (r.append r2) (by rw[List.length_append];omega),rfl,q _ I.fresh⟩
def rRep:R2:=fun x y H Q=>∃ l k xs,x=.ref l∧y=.int k∧H l=some (.lst xs)∧-(2 ^ 63)≤k∧k<2 ^ 63∧xs.length*k.toNat≤sizeLine ∧
  ∀ p,H p=none→Q (.ref p) (upd H p (.lst (List.replicate k.toNat xs).flatten))
theorem zky {α:Type}(xs:List α) (k:Nat):(List.replicate k xs).flatten.length=k*xs.length:=by
  induction k with
  | zero=>simp
  | succ k ih=>rw[List.replicate_succ,List.flatten_cons,List.length_append,ih,Nat.succ_mul,Nat.add_comm]
theorem zfe:OpR X (binaryOp .Mult) rRep:=by
  intro pins s σ H x y v u Q I rx ry h
  obtain⟨l,k,xs,rfl,rfl,hH,h1,h2,hz,q⟩:=h
  cases rx
  obtain⟨t,rfl⟩:=ry
  obtain⟨z,its,n,r,hl,e⟩:=I.lstM hH
  have hlen:its.toArray.size*k.toNat≤sizeLine:=by rw[List.size_toArray,← hl];exact hz
  have hcap:¬ its.toArray.size*k.toNat > (2 ^ 63-1) / 8:=by
    have:(sizeLine:Nat)≤(2 ^ 63-1) / 8:=by decide
    omega
  have hfit:¬(!Builtin.List.listFitsIndex k)=true:=by
    rw[fitsIndex_both h1 h2]
    exact Bool.false_ne_true
  have hlong:¬ Builtin.List.listTooLong (its.toArray.size*k.toNat)=true:=by
    rw[zfk hlen]
    exact Bool.false_ne_true
  have hnew:List.foldl (fun x1 x2=>x1++x2) #[] (List.replicate (if its.toArray.isEmpty=true then 0 else k.toNat) its.toArray)=(List.replicate k.toNat its).flatten.toArray:=by
    have f0:∀ m:Nat,List.foldl (fun x1 x2=>x1++x2) #[] (List.replicate m its.toArray)=(List.replicate m its).flatten.toArray:=fun m=>by
      have:=zdV its m []
      rw[List.nil_append]at this
      exact this
    rw[f0]
    cases its with
    | nil=>simp
    | cons a r'=>rw[if_neg (by simp)]
  refine wpAny_binaryOp_repeat_ref (T:="list") (U:="int") (by decide) ⟨_,e,rfl⟩ (fun s'=>typeIs_int s' k t) noFill_list_mul F.fills_int_mul F.slot_int_rmul repeat_list F.slot_int_index.lookup
    (call_meets F.slot_int_rmul (typeIs_int s k t) F.entry_int_rmul (F.args_int_rmul_2 _ _) (int___rmul___int_list k t l its.toArray n)
      ⟨e,rfl,⟨_,e,rfl⟩,call_meets F.slot_list_mul ⟨_,e,rfl⟩ F.entry_list_mul (F.args_list_mul_2 _ _) (AutoListH.list___mul___list_int_3 l its.toArray n k t hfit hcap hlong) ⟨e,?_⟩⟩)
  rw[hnew]
  exact⟨.ref _,_,I.lnew (t':=s.toks) (r.rep k.toNat) (by rw[zky,Nat.mul_comm];exact hz),rfl,q _ I.fresh⟩
end
section
variable {prog:Program}{w:World}{A:Around}{E:Value→Shared→Prop}{s:Shared}
end
section
variable {X:Cx}
end
end L2
namespace Att
open PySem PySem.W PySem.Calls PyProof.Rows
theorem zcq {P:Params}{h:Heap}:∀ (ns:List Int) (vs:List Value),WellAll P h vs (ns.map WData.int)→IntsAre vs ns:=by
  intro ns
  induction ns with
  | nil =>
    intro vs w
    rw[List.map_nil]at w
    cases w
    exact .nil
  | cons n ns ih =>
    intro vs w
    rw[List.map_cons]at w
    cases w with
    | cons a b =>
      cases a
      exact .cons _ _ (ih _ b)
theorem zgJ {l:OpenLaw}{n:Nat}(hn:l.most=some n) {P:Params}{h:Heap}{args:List WData}{vals:List Value}
    (hpre:l.row.toRowW.claim.pre args=true) (hwl:WellAll P h vals args) :
    ∃ a vs ns,vals=[Value.ref a]∧args=[WData.list (ns.map WData.int)]∧h.get? a=some { cls:=.type "list",data:=.seq vs.toArray }∧IntsAre vs ns∧ns.length≤n:=by
  have hsh:WShape.hasAll [] args [.list .int]=true:=(pre_splitW hpre).1
  have hc:l.pre.holds [] { args:=args }=true:=(pre_splitW hpre).2
  obtain⟨d,r,rfl,h1,h2⟩:=hasAllW_cons hsh
  obtain rfl:=hasAllW_nil h2
  obtain⟨xs,rfl,h3⟩:=hasW_list h1
  obtain⟨ns,rfl⟩:=items_int h3
  have hlen:ns.length≤n:=by
    unfold OpenLaw.pre at hc
    have h4:(WTm.not (.lt (.lit (.int (n:Int))) (.len (.arg 0)))).holds [] { args:=[.list (ns.map .int)] }=true:=by
      have h4:=(holds_andW hc).1
      rw[hn]at h4
      exact h4
    have h5:=condW_of h4 (w_not (w_lt w_lit (w_len_list (w_arg rfl))))
    rw[List.length_map]at h5
    refine Nat.le_of_not_lt fun q=>?_
    have q':(n:Int)<((ns.length:Nat):Int):=by omega
    first
      | (rw[decide_eq_true q']at h5;exact absurd h5 (by decide))
      | (simp at h5;omega)
  cases hwl with
  | cons w1 w2 =>
    cases w2
    cases w1 with
    | list ho hall=>exact⟨_,_,ns,rfl,rfl,ho,zcq ns _ hall,hlen⟩
theorem zg5 (l:OpenLaw) (args:List WData):l.row.toRowW.claim.post args (.bool true) args=true :=
  postW_of (r:=l.row.toRowW) (X:=(true == true))
    (show WShape.has [] (.bool true) .bool=true by first|rfl|decide|simp[WShape.has,WShape.arms,WShape.armsAll])
    (show (WTm.eq .res (.lit (.bool true))).value [] { args:=args,res:=some (.bool true),after:=args }=some (.bool (true == true)) from w_eq_bool (w_res rfl) w_lit) rfl
theorem attach_call {l:OpenLaw}{n:Nat}{q:Program}{loose:List Str}{XP:(Str→Option Value)→Heap→Prop}{YP:World→Heap→Prop}{d:DefRec}
    (hn:l.most=some n) (hdf:d.params.defaults=[])
    (call:∀ (w:World) (s₀ s₁:Shared) (mg mb:Str→Option Value) (fa:Addr) (o:Obj) (pm cd doc:Value) (a:Addr) (vs:List Value) (ns:List Int),
      Ground q loose [] XP w s₀ mg mb s₁.heap→YP w s₁.heap →
      s₁.heap.get? fa=some o→o.data=.func (docDef d.name d.params d.body d.scope pm cd doc)→s₁.heap.CodeRec cd d.name→mg d.name=some (.ref fa) →
      s₁.heap.get? a=some { cls:=.type "list",data:=.seq vs.toArray }→IntsAre vs ns→ns.length≤n→s₁.gens = #[] →
      codeAny (model l.prog w) callerA (.call (.ref fa) ⟨[.ref a],[]⟩) (fun r s'=>r=.ok (.ret (.bool true))∧OldK s₁.heap s'.heap∧s'.os=s₁.os∧AllBare s'.gens) s₁) :
    WalkO q loose XP YP l.row.toRowW d [] (fun f vs=>PySem.call f vs):=by
  intro w s₀ s₁ mg mb G Y fa o pm cd doc dV kV ho hd hcd hD hmg hg args vals as hpre hlay hrd hwl hlo
  obtain rfl:dV=.none:=Dflts.none hD hdf
  obtain rfl:kV=.none:=Dflts.noKw hD
  obtain⟨a,vs,ns,rfl,rfl,hobj,hints,hlen⟩:=zgJ hn hpre hwl
  refine enter_call (codeAny_mono (call w s₀ s₁ mg mb fa o pm cd doc a vs ns G Y ho (fd_plain hd) hcd hmg hobj hints hlen hg) fun r s' hq=>?_)
  obtain⟨rfl,h2,h3,h4⟩:=hq
  exact⟨.inl ⟨.bool true,.bool true,[],rfl,fun _=>rfl,.bool true,zg5 l _,fun _=>⟨List.Pairwise.nil,fun _ hm=>(nomatch hm)⟩⟩,h2,h3,h4⟩
section
variable {prog:Program}{w:World}{A:Around}{E:Value→Shared→Prop}{s:Shared}{K:Frag}
def zmc (h:Heap) (L d:Addr):List (Addr × Obj):=(List.range h.objs.size).filterMap fun a=>if a=L∨a=d then none else (h.get? a).map fun o=>(a,o)
end
end Att
namespace L2
open PySem PySem.Spec PyProof.Rows
theorem zdw:∀ {vs:List Value}{ns:List Int},IntsAre vs ns→Vals (ns.map V.int) vs
  | _,_,.nil=>.nil
  | _,_,.cons n t h=>.cons ⟨t,rfl⟩ (zdw h)
def Only (H:Hp):Prop:=∀ b,H b=none∨∃ o xs,H b=some (.frz o (.lst xs))
theorem ziW {P:Program}{w:World}{K:PySem.W.Frag}{mg mb:Str→Option Value}{CX:CXT}{k:Nat}{fa a:Addr}{fd:FuncData}{x:Str}{sp:Sp}{s₁:Shared}{vs:List Value}{ns:List Int}
    (KX:K.In s₁.heap) (hns:s₁.heap.Ns mainGlobals mg) (hb:s₁.heap.Ns builtinsNs mb) (hbb:∀ x:Str,x≠"__name__"→mb x=bootBuiltins x) (hlim:s₁.heap.NoLimit) (hg:s₁.gens = #[])
    (ha:s₁.heap.get? a=some { cls:=.type "list",data:=.seq vs.toArray }) (hi:IntsAre vs ns) (hl:ns.length≤sizeLine) (hr:Room k callerA)
    (F:∀ base:Heap,K.In base→base.Ns mainGlobals mg→FnOk P w K mg base CX k fa fd [x] sp) (hbind:∀ (s:Shared) (u:Value),BindsTo s fd ⟨[u],[]⟩ [(x,u)])
    (hsp:∀ H:Hp,Only H→SqL K H a (ns.map V.int)→sp [.ref a] H (fun v _=>v=.bl true) fun _ _ _=>False)
    (hCX:∀ H e s',CX [] H s₁ (fun _ _ _=>False) e s'→False) :
    codeAny (model P w) callerA (.call (.ref fa) ⟨[.ref a],[]⟩) (fun r s'=>r=.ok (.ret (.bool true))∧OldK s₁.heap s'.heap∧s'.os=s₁.os∧AllBare s'.gens) s₁:=by
  have rv:=zdw hi
  have lenV:=hi.length
  have core:∀ H:Hp,Only H→SqL K H a (ns.map V.int)→HOk P w H s₁.heap→(∀ b,H b≠none→b=a)→(H a≠none→K.lookup a=none) →
      codeAny (model P w) callerA (.call (.ref fa) ⟨[.ref a],[]⟩) (fun r s'=>r=.ok (.ret (.bool true))∧OldK s₁.heap s'.heap∧s'.os=s₁.os∧AllBare s'.gens) s₁:=by
    intro H hO hS hok hA hK
    have base_of:∀ {b:Addr}{o:Obj},s₁.heap.get? b=some o→H b=none→(hidT s₁.heap H).get? b=some o:=fun e n=>ziY e n
    have noA:∀ {b:Addr}{o:Obj}{es:Array DictEntry}{ep:Nat},s₁.heap.get? b=some o→o.data=.dict es ep→H b=none:=fun {b o es ep} e d=>by
      cases q:H b with
      | none=>rfl
      | some u =>
        have e':b=a:=hA b (by rw[q];simp)
        subst e'
        rw[ha]at e;cases e
        have d':Data.seq vs.toArray _=Data.dict es ep:=d
        cases d'
    have nsK:∀ {b:Addr}{m:Str→Option Value},s₁.heap.Ns b m→(hidT s₁.heap H).Ns b m:=fun {b m} ⟨o,es,ep,e,d,r⟩=>⟨o,es,ep,base_of e (noA e d),d,r⟩
    have hKb:K.In (hidT s₁.heap H):=fun b o e=>base_of (KX b o e) (by
      cases q:H b with
      | none=>rfl
      | some u =>
        have e':b=a:=hA b (by rw[q];simp)
        subst e'
        rw[hK (by rw[q];simp)]at e;cases e)
    have hM:Mod K mg (hidT s₁.heap H):=⟨hKb,nsK hns,⟨mb,nsK hb,hbb⟩,let ⟨mc,h1,h2⟩:=hlim;⟨mc,nsK h1,h2⟩⟩
    have e0:Env0 P w K mg (hidT s₁.heap H) callerA [] s₁ H:=⟨rfl,hM,fun b o e=>zkp e,Nat.le_of_eq (zhK _ _),trivial,fun b hb=>absurd (show b∈([]:List Addr) from hb) (by simp),hok,.of_eq hg⟩
    refine codeAny_mono ((F _ hKb (nsK hns)).run callerA [] s₁ H ⟨[.ref a],[]⟩ [.ref a] [.ref a] _ _ hr e0 (hbind s₁ (.ref a)) (.cons rfl .nil) (hsp H hO hS)) fun r s' h=>?_
    cases r with
    | error e=>exact(hCX H e s' h).elim
    | ok fl =>
      cases fl with
      | next=>exact False.elim h
      | brk=>exact False.elim h
      | cont=>exact False.elim h
      | ret u =>
        obtain⟨v,H',os,bare,un,hok',r',q⟩:=h
        have q':v=.bl true:=q
        subst q'
        obtain rfl:u=Value.bool true:=r'
        refine⟨rfl,OldK.of_keep fun b o e=>?_,os,bare⟩
        cases q:H b with
        | none=>exact un.keep b o e q (by intro z;exact absurd (show b∈([]:List Addr) from z) (by simp)) (by simp)
        | some u =>
          rcases hO b with z|⟨ob,xs,z⟩
          · rw[q]at z;cases z
          · have z2:=un.frzs b ob _ z
            obtain⟨e1,_⟩:=hok b _ z
            obtain⟨e2,_⟩:=hok' b _ z2
            rw[e]at e1;cases e1
            exact e2
  cases hk:K.lookup a with
  | some o =>
    have e:=KX a o hk
    rw[ha]at e
    cases e
    refine core (fun _=>none) (fun _=>.inl rfl) (.inr ⟨_,vs.toArray,_,hk,rfl,rfl,rfl,by rw[List.size_toArray,lenV];exact hl,by simpa using rv⟩) (fun b u z=>by have z':(none:Option HO)=some u:=z;cases z') (fun b z=>absurd rfl z) fun z=>absurd rfl z
  | none =>
    refine core (fun b=>if b=a then some (.frz { cls:=.type "list",data:=.seq vs.toArray } (.lst (ns.map V.int))) else none) (fun b=>?_) (.inl (.inr ⟨{ cls:=.type "list",data:=.seq vs.toArray },if_pos rfl⟩)) (fun b u z=>?_) (fun b z=>?_) fun _=>hk
    · by_cases hb:b=a
      · exact .inr ⟨_,_,if_pos hb⟩
      · exact .inl (if_neg hb)
    · by_cases hb:b=a
      · have z':=(if_pos hb).symm.trans z
        cases z'
        subst hb
        exact⟨ha,by rw[List.length_map];exact hl,vs,_,rv,ha⟩
      · have z':=(if_neg hb).symm.trans z
        cases z'
    · by_cases hb:b=a
      · exact hb
      · exact absurd (if_neg hb) z
abbrev KOf {K:PySem.W.Frag}{h:Heap}(_:K.In h):PySem.W.Frag:=K
theorem zge {l:PySem.W.OpenLaw}{n k:Nat}{q:Program}{loose:List Str}{XP:(Str→Option Value)→Heap→Prop}{YP:World→Heap→Prop}{d:DefRec}{K:Params→PySem.W.Frag}{CX:World→CXT}{sp:World→Sp}{x:Str}
    (hn:l.most=some n) (hn2:n≤sizeLine) (hdf:d.params.defaults=[]) (hr:Room k callerA)
    (hY:∀ (w:World) (h:Heap),YP w h→(K w.params).In h)
    (F:∀ (w:World) (mg:Str→Option Value) (fa:Addr) (h:Heap),(K w.params).In h→h.Ns mainGlobals mg→mg d.name=some (.ref fa) →
      ∃ fd:FuncData,(∀ (s:Shared) (u:Value),BindsTo s fd ⟨[u],[]⟩ [(x,u)]) ∧
        ∀ base:Heap,(K w.params).In base→base.Ns mainGlobals mg→FnOk l.prog w (K w.params) mg base (CX w) k fa fd [x] (sp w))
    (hsp:∀ (w:World) (H:Hp) (a:Addr) (ns:List Int),ns.length≤n→Only H→SqL (K w.params) H a (ns.map V.int)→sp w [.ref a] H (fun v _=>v=.bl true) fun _ _ _=>False)
    (hCX:∀ (w:World) (H:Hp) (s:Shared) (e:Value) (s':Shared),CX w [] H s (fun _ _ _=>False) e s'→False) :
    PySem.W.WalkO q loose XP YP l.row.toRowW d [] (fun f vs=>PySem.call f vs):=by
  refine Att.attach_call hn hdf fun w s₀ s₁ mg mb fa o pm cd doc a vs ns G Y ho hd hcd hmg hobj hints hlen hg=>?_
  have KX:=hY w _ Y
  obtain⟨fd,hb,hF⟩:=F w mg fa _ KX G.T.g hmg
  exact ziW KX G.T.g G.T.b G.T.builtins G.T.nolimit hg hobj hints (Nat.le_trans hlen hn2) hr hF hb (fun H hO hS=>hsp w H a ns hlen hO hS) fun H e s'=>hCX w H s₁ e s'
theorem zic {l:PySem.W.OpenLaw}{n k:Nat}{q:Program}{loose:List Str}{XP:(Str→Option Value)→Heap→Prop}{YP:World→Heap→Prop}{d:DefRec}{K:Params→PySem.W.Frag}{CX:CXT}{sp:PySem.W.Frag→Sp}{x:Str}
    (hn:l.most=some n) (hn2:n≤sizeLine) (hdf:d.params.defaults=[]) (hr:Room k callerA)
    (hY:∀ (w:World) (h:Heap),YP w h→(K w.params).In h)
    (F:∀ (w:World) (mg:Str→Option Value) (fa:Addr) (h:Heap),(K w.params).In h→h.Ns mainGlobals mg→mg d.name=some (.ref fa) →
      ∃ fd:FuncData,(∀ (s:Shared) (u:Value),BindsTo s fd ⟨[u],[]⟩ [(x,u)]) ∧
        ∀ base:Heap,(K w.params).In base→base.Ns mainGlobals mg→FnOk l.prog w (K w.params) mg base CX k fa fd [x] (sp (K w.params)))
    (hsp:∀ (K:PySem.W.Frag) (H:Hp) (a:Addr) (ns:List Int),ns.length≤n→Only H→SqL K H a (ns.map V.int)→sp K [.ref a] H (fun v _=>v=.bl true) fun _ _ _=>False)
    (hCX:∀ (H:Hp) (s:Shared) (e:Value) (s':Shared),CX [] H s (fun _ _ _=>False) e s'→False) :
    PySem.W.WalkO q loose XP YP l.row.toRowW d [] (fun f vs=>PySem.call f vs) :=
  zge (K:=K) (CX:=fun _=>CX) (sp:=fun w=>sp (K w.params)) hn hn2 hdf hr hY F (fun w H a ns h1 h2 h3=>hsp (K w.params) H a ns h1 h2 h3) fun _ H s e s'=>hCX H s e s'
end L2
/- THE LAST THEOREM (shape;LID,My.* are yours):
   My.Adr: a structure of the addresses that your layer names (classes,functions);My.Txt K t: a structure (Prop) of the equations over K;
   My.txt_mk:{K} {implicit addresses ..} (e1:nsIn K mainGlobals "law" = some (some (.ref f))) (e2:K.lookup f=some ⟨oc,od,.func (fnOf "law" "law" params body scope dV kV doc pm an cdv ct),sl⟩) (e3:codeIn K cdv "law" = true) ..:∃ t,My.Txt K t
set_option maxRecDepth 100000 in
set_option maxHeartbeats 0 in
theorem PySem.Challenge.cw_LID_holds : PySem.Challenge.rw_LID.Holds := by
  w_on;o_law;k_head;(case hw=>w_witness2)
  k_fill
  refine L2.zge (l:=PySem.Challenge.rw_LID) (n:=63) (k:=40) (x:="script") (CX:=fun w=>..) (sp:=fun _=>My.sp_law) rfl (by decide) rfl ⟨rfl,by decide,by decide⟩ (fun w h Y=>PySem.W.kIn_of Y) ?F ?S ?C
  case F =>
    intro w mg fa h KX G hmg
    have T:∃ t,My.Txt (L2.KOf KX) t:=by
      dsimp only[L2.KOf]                          -- K must stand as «<heap const> w.params» for k_is
      refine' My.txt_mk ?e1 ?e2 ?e3 ..
      (case e1=>PySem.W.k_is)                    -- in the order: a name -> its address -> its object -> its parts
      (case e2=>PySem.W.k_is)
      ..
    obtain⟨t,T⟩:=T
    have e0:=hmg.symm.trans (PySem.W.mg_of KX G T.law)
    cases e0                                       -- fa is the law's own address
    exact⟨_,fun s u=>.of_eq rfl,fun base kb nb=>My.law_fn T kb nb⟩     -- if «.of_eq rfl» comes too early: refine' ⟨_,?b,fun base kb nb=>My.law_fn T kb nb⟩;exact fun s u=>.of_eq rfl
  case S=>exact fun w H a ns hl hO hS=>..
  case C=>exact ..
(the tactic k_is has no namespace: write k_is) -/
namespace L2
open PySem PySem.Spec PyProof.Rows
def zbX (s:Stmt):Arguments:=match s with
  | .FunctionDef _ a _ _ _ _ _ _ _ _=>a
  | _=>{ posonlyargs:=[],args:=[],vararg:=none,kwonlyargs:=[],kw_defaults:=[],kwarg:=none,defaults:=[] }
def zbu (s:Stmt):List Stmt:=match s with
  | .FunctionDef _ _ b _ _ _ _ _ _ _=>b
  | _=>[]
def zad (s:Stmt):Scope:=match s with
  | .FunctionDef _ _ _ _ _ _ sc _ _ _=>sc
  | _=>{ kind:=.function,names:=[],isGenerator:=false,isCoroutine:=false }
abbrev CX0:CXT:=fun _ _ _ _ _ _=>False
abbrev E0:XK:=fun _ _ _=>False
theorem pass0 {X:Cx}:Passes CX0 X E0:=fun _ _ _ _ _ _ _ h=>h.elim
structure Fun (K:PySem.W.Frag) (x qual:Str) (st:Stmt) (f:Addr) (fd:FuncData):Prop where
  ex:∃ (oc:Value) (od:Option Addr) (kV doc pm:Value) (an:Option Addr) (cdv ct:Value) (osl:Array (Option Value)),
    fd=PySem.W.fnOf x qual (zbX st) (zbu st) (zad st) .none kV doc pm an cdv ct∧K.lookup f=some ⟨oc,od,.func fd,osl⟩∧PySem.W.codeIn K cdv qual=true
  kp:PySem.W.keepIn K (.ref f)=true
section
variable {P:Program}{w:World}{K:PySem.W.Frag}{mg:Str→Option Value}{base:Heap}
theorem Fun.ok {x qual:Str}{st:Stmt}{f:Addr}{fd:FuncData}{N ps:List Str}{k:Nat}{sp:Sp}(F:Fun K x qual st f fd) (S:FnScope N ps (zad st)) (len:∀ vs H Q E,sp vs H Q E→vs.length=ps.length)
    (hbody:∀ (cdv:Value) (A:Around) (outer:List Env) (s:Shared) (H:Hp) (vs:List V) (Q:VK) (E:XK),Room k (A.deeper (envOfC qual (zad st) s.heap.objs.size f cdv))→sp vs H Q E →
      ∃ t,PSs (cxOf CX0 P w K mg base N qual (zad st) f cdv A outer s H E).nox (zbu st) t∧t { nx:=fun _ H'=>Q .non H',rt:=Q } (start N vs) H):FnOk P w K mg base CX0 (k+1) f fd ps sp:=by
  obtain⟨oc,od,kV,doc,pm,an,cdv,ct,osl,rfl,lk,hcd⟩:=F.ex
  refine zl7 lk hcd S len fun A outer s H vs Q E hr hsp=>?_
  obtain⟨t,h,q⟩:=hbody cdv A outer s H vs Q E hr hsp
  exact⟨t,h.nox,q⟩
theorem Fun.binds {x qual:Str}{st:Stmt}{f:Addr}{fd:FuncData}{ps:List Str}(F:Fun K x qual st f fd)
    (h:∀ (kV doc pm:Value) (an:Option Addr) (cdv ct:Value) (us:List Value),us.length=ps.length→bindArgs (PySem.W.fnOf x qual (zbX st) (zbu st) (zad st) .none kV doc pm an cdv ct) ⟨us,[]⟩=pure (ps.zip us)):Binds K fd ps []:=by
  obtain⟨oc,od,kV,doc,pm,an,cdv,ct,osl,rfl,lk,hcd⟩:=F.ex
  exact .all (h kV doc pm an cdv ct)
theorem zlD {x qual:Str}{st:Stmt}{f:Addr}{oc:Value}{od an:Option Addr}{osl:Array (Option Value)}{kV doc pm cdv ct:Value}(l:K.lookup f=some ⟨oc,od,.func (PySem.W.fnOf x qual (zbX st) (zbu st) (zad st) .none kV doc pm an cdv ct),osl⟩)
    (c:PySem.W.codeIn K cdv qual=true) (k:PySem.W.keepIn K (.ref f)=true):Fun K x qual st f (PySem.W.fnOf x qual (zbX st) (zbu st) (zad st) .none kV doc pm an cdv ct):=⟨⟨oc,od,kV,doc,pm,an,cdv,ct,osl,rfl,l,c⟩,k⟩
end
theorem zgF {n:Nat}(h:n≤1000):n<sizeLine:=Nat.lt_of_le_of_lt h (by decide)
section
variable {X:Cx}
theorem pv (i:Nat) {x:Str}{pos:Pos}(hN:X.N[i]?=some x:=by rfl) (hv:Vis X.env.scope x:=by first|exact Or.inl rfl|exact Or.inr (.inl rfl)|exact Or.inr (.inr rfl)) (hd:(x == ("__debug__":Str))=false:=by decide)
    (hcd:(x == ("__classdict__":Str))=false:=by decide):PE X (.Name x pos) (tVar i):=zld hN hv hd hcd
theorem qv (i:Nat) {x:Str}{pos:Pos}(h:X.N[i]?=some x∧Vis X.env.scope x∧(x == ("__debug__":Str))=false∧(x == ("__classdict__":Str))=false):PE X (.Name x pos) (tVar i):=zld h.1 h.2.1 h.2.2.1 h.2.2.2
end
theorem iteF {A B:Prop}(h:B):if false=true then A else B:=by
  rw[if_neg Bool.false_ne_true]
  exact h
theorem iteT {A B:Prop}(h:A):if true=true then A else B:=by
  rw[if_pos rfl]
  exact h
theorem ite2 {c A B:Prop} [Decidable c] (h1:c→A) (h2:¬ c→B):if c then A else B:=by
  by_cases h:c
  · rw[if_pos h]
    exact h1 h
  · rw[if_neg h]
    exact h2 h
theorem zl2 {c A B:Prop} [Decidable c] (hc:c) (h:B):if (!decide c)=true then A else B:=by
  rw[decide_eq_true hc]
  exact iteF h
def Same (H H':Hp):Prop:=∀ b o,H b=some o→H' b=some o
theorem Same.refl (H:Hp):Same H H:=fun _ _ h=>h
theorem Same.trans {H H1 H2:Hp}(a:Same H H1) (b:Same H1 H2):Same H H2:=fun c o h=>b c o (a c o h)
end L2
set_option maxHeartbeats 4000001
namespace L2
open PySem PySem.Spec PyProof.Rows
def clOf (cells:List (Str × Addr)):List (Str × NameKind)→List (Str × Addr)→List (Str × Addr)
 | [],cs=>cs
 | (n,k)::r,cs=>if k == .free then clOf cells r ((n,(cells.lookup n).getD 0)::cs) else clOf cells r cs
theorem zdt {env:Env}:∀ (names:List (Str × NameKind)) (cs:List (Str × Addr)),(∀ y∈names,y.2=.free→∃ c,env.cells.lookup y.1=some c) →
  (forIn names cs fun x r=>match x with|(name,kind)=>if (kind == NameKind.free)=true then (do let a ← cellOf env name;pure (ForInStep.yield ((name,a)::r))) else pure (ForInStep.yield r):Sem (List (Str × Addr)))=pure (clOf env.cells names cs)
 | [],cs,_=>rfl
 | (n,k)::r,cs,h=>by
  rw[List.forIn_cons]
  by_cases e:(k == NameKind.free)=true
  ·obtain⟨c,hc⟩:=h (n,k) List.mem_cons_self (by simpa using e)
   have hcell:cellOf env n=pure c:=by
    have hc':env.cells.lookup n=some c:=hc
    unfold cellOf;rw[hc']
   simp only[e,if_true,hcell,pure_bind]
   rw[zdt r _ fun y hy=>h y (List.mem_cons_of_mem _ hy)]
   have hc':env.cells.lookup n=some c:=hc
   show _=pure (if (k == NameKind.free)=true then _ else _)
   rw[if_pos e,hc']
   rfl
  ·have ef:(k == NameKind.free)=false:=by simpa using e
   simp only[ef,Bool.false_eq_true,if_false,pure_bind]
   rw[zdt r _ fun y hy=>h y (List.mem_cons_of_mem _ hy)]
   show _=pure (if (k == NameKind.free)=true then _ else _)
   rw[if_neg e]
theorem zcR {scope:Scope}{env:Env}(h:∀ y∈scope.names,y.2=.free→∃ c,env.cells.lookup y.1=some c):closureFor scope env=pure (clOf env.cells scope.names []):=by
 unfold closureFor
 show (forIn scope.names [] _ >>= fun r=>pure r)=_
 rw[bind_pure]
 exact zdt _ _ h
theorem zcc {cells:List (Str × Addr)}:∀ (names:List (Str × NameKind)) (cs:List (Str × Addr)) (x:Str) (c:Addr),(∀ y∈names,y.2=.free→∃ c,cells.lookup y.1=some c) →
  (∀ x c,cs.lookup x=some c→cells.lookup x=some c)→(clOf cells names cs).lookup x=some c→cells.lookup x=some c
 | [],cs,x,c,_,hs,e=>hs x c e
 | (n,k)::r,cs,x,c,h,hs,e=>by
  unfold clOf at e
  by_cases q:(k == NameKind.free)=true
  ·rw[if_pos q]at e
   obtain⟨c0,hc0⟩:=h (n,k) List.mem_cons_self (by simpa using q)
   refine zcc r _ x c (fun y hy=>h y (List.mem_cons_of_mem _ hy)) (fun x' c' e'=>?_) e
   rw[List.lookup_cons]at e'
   cases hx:x' == n with
   | true =>
    rw[hx]at e'
    have hx':x'=n:=by simpa using hx
    subst hx'
    have hc0':cells.lookup x'=some c0:=hc0
    rw[hc0']at e' ⊢
    exact e'
   | false =>
    rw[hx]at e'
    exact hs x' c' e'
  ·rw[if_neg q]at e
   exact zcc r _ x c (fun y hy=>h y (List.mem_cons_of_mem _ hy)) hs e
theorem zcA {cells:List (Str × Addr)}:∀ (names:List (Str × NameKind)) (cs:List (Str × Addr)) (x:Str),(∃ c,cs.lookup x=some c)→∃ c,(clOf cells names cs).lookup x=some c
 | [],cs,x,e=>e
 | (n,k)::r,cs,x,e=>by
  unfold clOf
  by_cases q:(k == NameKind.free)=true
  ·rw[if_pos q]
   refine zcA r _ x ?_
   rw[List.lookup_cons]
   cases hx:x == n with
   | true=>exact⟨_,rfl⟩
   | false=>exact e
  ·rw[if_neg q]
   exact zcA r _ x e
theorem zbp {cells:List (Str × Addr)}:∀ (names:List (Str × NameKind)) (cs:List (Str × Addr)) (x:Str),names.lookup x=some .free→∃ c,(clOf cells names cs).lookup x=some c
 | [],cs,x,e=>by simp at e
 | (n,k)::r,cs,x,e=>by
  rw[List.lookup_cons]at e
  unfold clOf
  cases hx:x == n with
  | true =>
   rw[hx]at e
   have e':k=.free:=Option.some.inj e
   subst e'
   rw[if_pos (by decide)]
   refine zcA r _ x ?_
   rw[List.lookup_cons,hx]
   exact⟨_,rfl⟩
  | false =>
   rw[hx]at e
   by_cases q:(k == NameKind.free)=true
   ·rw[if_pos q];exact zbp r _ x e
   ·rw[if_neg q];exact zbp r _ x e
def zjv (env:Env) (p:Str × NameKind):Bool:=p.2 == .free && env.scope.kind == .function && env.kindOf p.1 == some .cell
def zbT (env:Env) (p:Str × NameKind):Str × NameKind:=if zjv env p=true then (p.1,.cell) else p
theorem zct (env:Env) (p:Str × NameKind):(zbT env p).1=p.1:=by unfold zbT;split<;>rfl
theorem zcs (env:Env) (p:Str × NameKind):(zbT env p).2=p.2∨((zbT env p).2=.cell∧p.2=.free):=by
 unfold zbT
 split
 ·rename_i h
  refine .inr ⟨rfl,?_⟩
  unfold zjv at h
  cases e:p.2<;>simp[e]at h<;>rfl
 ·exact .inl rfl
theorem zbC (scope:Scope) (env:Env):(relabel scope env).names=scope.names.map (zbT env):=rfl
theorem zdl {f:Str × NameKind→Str × NameKind}(hf:∀ p,(f p).1=p.1):∀ (l:List (Str × NameKind)) (x:Str),(l.map f).lookup x=none∧l.lookup x=none∨∃ p∈l,(l.map f).lookup x=some (f p).2∧l.lookup x=some p.2
 | [],_=>.inl ⟨rfl,rfl⟩
 | p::r,x=>by
  have e1:((p::r).map f).lookup x=if x == p.1 then some (f p).2 else (r.map f).lookup x:=by
   show List.lookup x (((f p).1,(f p).2)::r.map f)=_
   rw[List.lookup_cons,hf p];cases x == p.1<;>rfl
  have e2:(p::r).lookup x=if x == p.1 then some p.2 else r.lookup x:=by
   show List.lookup x ((p.1,p.2)::r)=_
   rw[List.lookup_cons];cases x == p.1<;>rfl
  rw[e1,e2]
  cases x == p.1
  ·rcases zdl hf r x with z|⟨q,hq,z⟩
   ·exact .inl z
   ·exact .inr ⟨q,List.mem_cons_of_mem _ hq,z⟩
  ·exact .inr ⟨p,List.mem_cons_self,rfl,rfl⟩
theorem zaR {scope:Scope}{env:Env}{x:Str}{k':NameKind}(h:(relabel scope env).names.lookup x=some k'):scope.names.lookup x=some k'∨(k'=.cell∧scope.names.lookup x=some .free):=by
 rw[zbC]at h
 rcases zdl (zct env) scope.names x with ⟨z,_⟩|⟨p,_,z,e⟩
 ·rw[z]at h;cases h
 ·rw[z]at h
  obtain rfl:=Option.some.inj h
  rcases zcs env p with q|⟨q,q'⟩
  ·rw[q];exact .inl e
  ·exact .inr ⟨q,by rw[e,q']⟩
theorem zbZ {scope:Scope}{env:Env}{x:Str}(h:scope.names.lookup x=some .free):(relabel scope env).names.lookup x=some .cell∨(relabel scope env).names.lookup x=some .free:=by
 rw[zbC]
 rcases zdl (zct env) scope.names x with ⟨_,z⟩|⟨p,_,z,e⟩
 ·rw[z]at h;cases h
 ·rw[e]at h
  rcases zcs env p with q|⟨q,_⟩
  ·rw[z,q,h];exact .inr rfl
  ·rw[z,q];exact .inl rfl
def zar (X:Cx) (N':List Str) (scope:Scope) (C:Addr) (s₀:Shared) (H₀:Hp) (fp:List Addr) (pins:List (Addr × Obj)):Cx :=
 { X with N:=N',s₀:=s₀,H₀:=H₀,env:=compEnvC scope (clOf X.env.cells scope.names []) C X.env,outer:=X.stack,stack:=X.stack,ex:=fp,fn:=fun _=>false,pn:=X.pn++pins,xe:=fun _ _=>False }
def capσ (cap:List (Option Nat)) (σ:St):St:=cap.map fun o=>match o with|some i=>(match σ[i]? with|some v=>v|none=>none)|none=>none
def tst (M:Model) (A:Around) (env:Env) (E:Value→Shared→Prop) (o:Option Expr) (Q:Bool→Shared→Prop) (s:Shared):Prop:=match o with
 | none=>Q true s
 | some c=>wpAny M A (isTrue c env (eval c env)) Q E s
theorem zeX {M:Model}{A:Around}{env:Env}{E:Value→Shared→Prop}{o:Option Expr}{Q Q':Bool→Shared→Prop}{s:Shared}(h:tst M A env E o Q s) (k:∀ b z,Q b z→Q' b z):tst M A env E o Q' s:=by
 cases o with
 | none=>exact k _ _ h
 | some c=>exact thn h k
def PTo (X:Cx) (o:Option Expr) (t:TT):Prop :=
 ∀ (pins:List (Addr × Obj)) (s:Shared) (σ:St) (H:Hp) (Q:Bool→Hp→Prop),Inv X pins σ H s→t σ H Q→tst (model X.prog X.w) X.A X.env X.xe o (TP X pins σ Q) s
def tYes:TT:=fun _ H Q=>Q true H
theorem zaE {X:Cx}:PTo X none tYes:=fun _ _ _ H _ I h=>⟨H,I,h⟩
theorem zg2 {X:Cx}{c:Expr}{t:TT}(h:PT X c t):PTo X (some c) t:=fun pins s σ H Q I hw=>h pins s σ H Q I hw
abbrev NoX:Value→Shared→Prop:=fun _ _=>False
def Go (M:Model) (A:Around) (tg elt:Expr) (o:Option Expr) (it acc:Value) (env:Env) (R:Result→Shared→Prop) (onward:Shared→Prop) (s:Shared):Prop :=
 wpAny M A (pyNext it) (fun r a=>match r with
  | none=>R (.ok .next) a
  | some v=>wpAny M A (letOwnedTupleGo tg it v) (fun _ b=>wpAny M A (assign tg env v) (fun _ c=>tst M A env NoX o (fun yes d =>
    if yes=true then wpAny M A (eval elt env) (fun x e=>wpAny M A (call (.builtin "list.append") [acc,x]) (fun _ f=>onward f) NoX e) NoX d else onward d) c) NoX b) NoX a) NoX s
theorem zhY {prog:Program}{w:World}{A:Around}{R:Result→Shared→Prop}{s:Shared}{elt tg iter:Expr}{o:Option Expr}{scope:Scope}{pos:Pos}{it acc:Value}{env:Env}(J:Nat→Shared→Prop)
  (turn:∀ n s,J n s→Go (model prog w) A tg elt o it acc env R (fun z=>∃ m,m<n∧J m z) s) (n:Nat) (h:J n s) :
  codeAny (model prog w) A (.compLoop (.ListComp elt [⟨tg,iter,o.toList,0⟩] scope pos) 0 it acc env) R s:=by
 cases o with
 | none =>
  refine PySem.W.kcp_loop J (fun n a ha=>wpAny_mono (turn n a ha) (fun r b hb=>?_) fun _ _ z=>z.elim) n h
  cases r with
  | none=>exact hb
  | some v=>exact wpAny_mono hb (fun _ c hc=>wpAny_mono hc (fun _ d hd=>wpAny_mono (show wpAny _ _ _ _ _ d from hd) (fun x e he=>wpAny_mono he (fun _ _ q=>q) fun _ _ z=>z.elim) fun _ _ z=>z.elim) fun _ _ z=>z.elim) fun _ _ z=>z.elim
 | some t =>
  refine PySem.W.kct_loop J (fun n a ha=>wpAny_mono (turn n a ha) (fun r b hb=>?_) fun _ _ z=>z.elim) n h
  cases r with
  | none=>exact hb
  | some v =>
   refine wpAny_mono hb (fun _ c hc=>wpAny_mono hc (fun _ d hd=>wpAny_mono (show wpAny _ _ _ _ _ d from hd) (fun yes e he=>?_) fun _ _ z=>z.elim) fun _ _ z=>z.elim) fun _ _ z=>z.elim
   cases yes
   ·exact he
   ·exact wpAny_mono (show wpAny _ _ _ _ _ e from he) (fun x f hf=>wpAny_mono hf (fun _ _ q=>q) fun _ _ z=>z.elim) fun _ _ z=>z.elim
structure CapOk (N N':List Str) (sc scope:Scope) (cap:List (Option Nat)):Prop where
 kind:scope.kind=.function
 nocell:∀ y∈scope.names,y.2≠.cell
 names:∀ y∈scope.names,y.2=.local → scope.names.lookup y.1=some .local
 free:∀ y∈scope.names,y.2=.free→sc.names.lookup y.1=some .cell∨sc.names.lookup y.1=some .free
 len:cap.length=N'.length
 cap:∀ p∈N'.zip cap,∀ i,p.2=some i→N[i]?=some p.1∧scope.names.lookup p.1=some .free∧(sc.names.lookup p.1=some .cell∨sc.names.lookup p.1=some .free)
theorem zbR {α:Type}:∀ {l:List (Str × α)}{x:Str}{a:α},l.lookup x=some a→(x,a)∈l
 | [],_,_,h=>by simp at h
 | (n,k)::r,x,a,h=>by
  rw[List.lookup_cons]at h
  cases hx:x == n with
  | true =>
   rw[hx]at h
   have e:k=a:=Option.some.inj h
   have e2:x=n:=by simpa using hx
   subst e e2
   exact List.mem_cons_self
  | false=>rw[hx]at h;exact List.mem_cons_of_mem _ (zbR h)
def LCW (J:It) (g:TG) (tt:TT) (te:TE) (l:Addr) (Q:VK) (W:Nat→Nat→List V→St→Hp→Prop):Prop :=
 ∀ i m acc σ' H',W i m acc σ' H'→H' l=some (.lst acc) ∧
  ((J.stop i H'∧Q (.ref l) H')∨(J.go i H'∧∀ x H2,J.yld i H' x H2→g x σ' H2 fun σ3 H3=>tt σ3 H3 fun b H4 =>
   if b=true then te σ3 H4 fun y H5=>H5 l=some (.lst acc)∧acc.length<sizeLine∧∃ m',m'<m∧W (i+1) m' (acc++[y]) σ3 (upd H5 l (.lst (acc++[y])))
   else ∃ m',m'<m∧W (i+1) m' acc σ3 H4))
def tLC (cap:List (Option Nat)) (wi:TI) (g:TG) (tt:TT) (te:TE):TE:=fun σ H Q=>wi σ H fun J H1=>∀ l,H1 l=none →
 ∃ W:Nat→Nat→List V→St→Hp→Prop,(∃ m,W 0 m [] (capσ cap σ) (upd H1 l (.lst [])))∧LCW J g tt te l Q W
theorem zkB {X:Cx}{elt tg iter:Expr}{o:Option Expr}{scope:Scope}{pos ppos:Pos}{wi:TI}{g:TG}{tt:TT}{te:TE}{N':List Str}{cap:List (Option Nat)}{use:Option (Value→Sem Unit)}{Q0:Value→Shared→Prop}
  (hc:X.calm=true) (hi:PI X tg iter wi) (ck:CapOk X.N N' X.env.scope scope cap)
  (hg:∀ C s₀ H₀ fp pins,PG (zar X N' scope C s₀ H₀ fp pins) tg g)
  (ht:∀ C s₀ H₀ fp pins,PTo (zar X N' scope C s₀ H₀ fp pins) o tt)
  (he:∀ C s₀ H₀ fp pins,PE (zar X N' scope C s₀ H₀ fp pins) elt te)
  (hs:∀ x,foldedSetIterable iter X.env x=pure x) {pins:List (Addr × Obj)}{s:Shared}{σ:St}{H:Hp}{Q:VK}(I:Inv X pins σ H s) (h:tLC cap wi g tt te σ H Q)
  (fin:∀ (l C:Addr) (H4:Hp) (s5:Shared) (m:Str→Option Value),Inv X pins σ H4 s5→Q (.ref l) H4→s5.heap.Ns C m→FpOk X pins H4 C→compPost (model X.prog X.w) X.A X.xe use Q0 (.ref l) C (.ok .next) s5) :
  wpAny (model X.prog X.w) X.A (comprehension (.ListComp elt [⟨tg,iter,o.toList,0⟩] scope pos) scope X.env ppos (newList []) false (eval iter X.env) use) Q0 X.xe s:=by
 have hcells:∀ y∈scope.names,y.2=.free→∃ c,X.env.cells.lookup y.1=some c:=fun y hy hf=>I.ok.has y.1 (ck.free y hy hf)
 refine wpAny_comprehension_free (use:=use) rfl hs (zcR hcells) ck.kind ck.names (thn (hi pins s σ H _ I h) fun v s1 h1=>thn h1 fun itv s2 h2=>?_)
 obtain⟨it,fp,tn,J,H2,e,I2,T,st2,f2,body⟩:=h2
 subst e
 have hfr2:H2 s2.heap.objs.size=none:=I2.hok.fresh (Nat.le_refl _)
 obtain⟨W,⟨m0,w0⟩,turn⟩:=body s2.heap.objs.size hfr2
 have I3:Inv X pins σ (upd H2 s2.heap.objs.size (.lst [])) { s2 with heap:=s2.heap.push { cls:=.type "list",data:=.seq ([]:List Value).toArray },toks:=s2.toks }:=I2.lnew (its:=[]) (t':=s2.toks) .nil (Nat.zero_le _)
 refine wpAny_newObj_type (wpAny_newFunctionEnv ck.nocell (by intro y hy;simp at hy) (fun h₁ hns₁ hsb₁=>?_) ck.kind)
 dsimp only at hns₁ hsb₁ ⊢
 generalize hl:s2.heap.objs.size=l at *
 generalize hP:s2.heap.push { cls:=.type "list",dict:=none,data:=.seq ([]:List Value).toArray }=P2 at *
 generalize hH3:upd H2 l (.lst [])=H3 at *
 have old:∀ b o,P2.get? b=some o→h₁.get? b=some o:=fun b o e=>hsb₁.extBut b o (Nat.ne_of_lt (Heap.lt_size e)) (Heap.get?_push_of_some _ e)
 have old2:∀ b o,s2.heap.get? b=some o→P2.get? b=some o:=fun b o e=>hP ▸ Heap.get?_push_of_some _ e
 have fpl:∀ b∈fp,b<l:=fun b hb=>by
  obtain⟨o,e,_⟩:=T.obj _ _ st2 b hb
  rw[← hl];exact Heap.lt_size e
 have fp3:∀ b∈fp,H3 b=none:=fun b hb=>by
  rw[← hH3,zae (Nat.ne_of_lt (fpl b hb))];exact(f2 b hb).1
 have hPs:P2.objs.size=l+1:=by rw[← hP,Heap.size_push,hl]
 have subc:∀ x c,(clOf X.env.cells scope.names []).lookup x=some c→X.env.cells.lookup x=some c:=fun x c e=>zcc _ _ x c hcells (fun _ _ z=>by simp at z) e
 generalize hs3:({ s2 with heap:=P2,toks:=s2.toks }:Shared)=s3 at *
 have hs3h:s3.heap=P2:=by rw[← hs3]
 let Y:=zar X N' scope P2.objs.size s3 H3 fp pins
 have hYok:Y.Ok:=by
  refine⟨I3.ok.mod,ck.kind,I3.ok.glob,I3.ok.blt,by show s3.heap.objs.size≤P2.objs.size;rw[hs3h];exact Nat.le_refl _,fun x y c e1 e2=>I3.ok.inj x y c (subc x c e1) (subc y c e2),fun x hx=>?_,fun x c hx=>absurd (show false=true from hx) Bool.false_ne_true,I3.ok.hd,I3.ok.frames,.inl rfl,fun b hb=>⟨?_,fun x c e=>?_⟩,I3.bs,
   Nat.le_trans I3.ok.bsz I3.sz,fun b o e hb=>?_,fun b hb hz=>?_,I3.stack,I3.stkFree⟩
  ·have hx':scope.names.lookup x=some .free:=by
    rcases hx with hx|hx
    ·rcases zaR hx with z|z
     ·exact absurd rfl (ck.nocell _ (zbR z))
     ·exact z.2
    ·rcases zaR hx with z|z
     ·exact z
     ·exact z.2
   exact zbp _ _ x hx'
  ·exact Nat.ne_of_lt (by show b<P2.objs.size;rw[hPs];exact Nat.lt_succ_of_lt (fpl b hb))
  ·exact(f2 b hb).2.2.2.2.1 x c (subc x c e)
  ·rcases (f2 b hb).2.2.2.1 with z|z
   ·exact I3.ok.noex b o e z
   ·exact absurd (Nat.lt_of_lt_of_le (Heap.lt_size e) (Nat.le_trans I3.ok.bsz z)) (Nat.lt_irrefl _)
  ·rcases List.mem_cons.mp (I3.stkSub b hz) with z|z
   ·exact(f2 b hb).2.1 z
   ·exact(f2 b hb).2.2.1 z
 have hYi:Inv Y [] (capσ cap σ) H3 { s2 with heap:=h₁,toks:=s2.toks }:=by
  refine⟨hYok,by show s2.os=s3.os;rw[← hs3],I2.bare,by show Un _ _ _ _ s3.heap h₁;rw[hs3h];exact Un.kept old,⟨_,hns₁,fun j x v e1 e2 e3=>?_⟩,fun x c e=>?_,?_,fun x c e=>I3.freeC x c (subc x c e),fun p hp=>?_,fun b o e=>?_,?_⟩
  ·have e1':N'[j]?=some x:=e1
   unfold capσ at e2
   rw[List.getElem?_map]at e2
   cases ec:cap[j]? with
   | none=>rw[ec]at e2;cases e2
   | some oc =>
    rw[ec]at e2
    cases oc with
    | none=>cases e2
    | some i =>
     have e2':σ[i]?=some (some v):=by
      cases ei:σ[i]? with
      | none=>simp[ei]at e2
      | some v' =>
       simp[ei]at e2
       rw[e2]
     have hz:(x,some i)∈N'.zip cap:=by
      refine List.mem_of_getElem? (i:=j) ?_
      rw[List.getElem?_zip_eq_some]
      exact⟨e1',ec⟩
     obtain⟨hN,hf,hk⟩:=ck.cap _ hz i rfl
     obtain⟨m,hn,hlo⟩:=I3.loc
     obtain⟨u,r,lk⟩:=hlo i x v hN e2' (by rcases hk with z|z;exact .inr (.inl z);exact .inr (.inr z))
     refine⟨u,r,.inr ⟨?_,?_⟩⟩
     ·exact zbZ hf
     ·rcases lk with ⟨z,_⟩|⟨_,c,hcx,hcell⟩
      ·have z':X.env.scope.names.lookup x=some .local:=z
       rcases hk with q|q
       ·rw[q]at z';cases z'
       ·rw[q]at z';cases z'
      ·obtain⟨c',hc'⟩:=zbp (cells:=X.env.cells) scope.names [] x hf
       have:=subc x c' hc'
       rw[hcx]at this;cases this
       obtain⟨ob,e,d⟩:=hcell
       rw[hs3h]at e
       exact⟨c,hc',ob,old c ob e,d⟩
  ·obtain⟨v,ob,e',d⟩:=I3.cell x c (subc x c e)
   rw[hs3h]at e'
   exact⟨v,ob,old c ob e',d⟩
  ·refine I3.hok.fresh ?_
   rw[hs3h];exact Nat.le_refl _
  ·have hp':p∈X.pn++pins:=(List.mem_append.mp hp).elim (fun z=>z) (fun z=>nomatch z)
   obtain⟨e,n,ne,nf,d⟩:=I3.pin p hp'
   rw[hs3h]at e
   refine⟨old _ _ e,n,Nat.ne_of_lt (Heap.lt_size e),fun z=>?_,d⟩
   rcases List.mem_cons.mp (I3.stkSub _ z) with q|q
   ·exact ne q
   ·exact nf q
  ·have:=I3.hok.kept (h':=h₁) (fun b u q=>old b u (by rw[← hs3h];exact q))
   exact this b o e
  ·show (cap.map _).length=N'.length
   rw[List.length_map,ck.len]
 have stat:∀ {H':Hp},(∀ b∈fp,H' b=none)→∀ b∈fp,FpOk Y [] H' b:=fun {H'} hn b hb=>by
  refine⟨hn b hb,(hYok.exf b hb).1,hYok.exfs b hb,.inl hb,(hYok.exf b hb).2,fun p hp=>?_⟩
  have hp':p∈X.pn++pins:=(List.mem_append.mp hp).elim (fun z=>z) (fun z=>nomatch z)
  exact(f2 b hb).2.2.2.2.2 p hp'
 have st1:tn 0 h₁:=T.keep 0 _ _ st2 fun b hb o e=>old b o (old2 b o e)
 have loop:codeAny (model X.prog X.w) X.A (.compLoop (.ListComp elt [⟨tg,iter,o.toList,0⟩] scope pos) 0 (.ref it) (.ref l) Y.env) (compPost (model X.prog X.w) X.A X.xe use Q0 (.ref l) P2.objs.size) { s2 with heap:=h₁,toks:=s2.toks }:=by
  refine zhY (fun n s'=>∃ i acc σ' H',Inv Y [] σ' H' s'∧tn i s'.heap∧(∀ b∈fp,H' b=none)∧W i n acc σ' H') ?_ m0 ⟨0,[],_,H3,hYi,st1,fp3,w0⟩
  rintro n s4 ⟨i,acc,σ4,H4,I4,st4,fr4,w4⟩
  obtain⟨hlst,q4⟩:=turn i n acc σ4 H4 w4
  rcases q4 with ⟨stop,qn⟩|⟨go,step⟩
  ·refine thn (T.done Y rfl rfl rfl hc i [] s4 σ4 H4 Y.xe I4 (stat fr4) st4 stop) fun r s5 ⟨hr,I5⟩=>?_
   subst hr
   obtain⟨m,hn,_⟩:=id I5.loc
   have un:Un (frs X.stack) fp H3 H4 s3.heap s5.heap:=I5.base
   have sz3:s3.heap.objs.size≤P2.objs.size:=by rw[hs3h];exact Nat.le_refl _
   have IX:Inv X pins σ H4 s5:=I3.call' (ch:=fp) I5.os un I5.hok I5.bare fun b hb=>⟨(f2 b hb).2.2.2.1,(f2 b hb).2.1,(f2 b hb).2.2.2.2.1,(f2 b hb).2.2.2.2.2⟩
   exact fin l P2.objs.size H4 s5 m IX qn hn (I3.fpOk sz3 I5.free)
  ·refine thn (T.item Y rfl rfl rfl hc i [] s4 σ4 H4 Y.xe I4 (stat fr4) st4 go) fun r s5 ⟨u,hr,h5⟩=>?_
   subst hr
   refine thn h5 fun _ s6 ⟨x,H6,I6,r6,y6,st6,fr6⟩=>?_
   have I6':=I6.pinned (stat fr6) (T.obj _ _ st6)
   refine thn (hg _ _ _ _ _ _ s6 σ4 H6 x u _ I6' r6 (step x H6 y6)) fun _ s7 ⟨σ7,H7,I7,q7⟩=>?_
   refine zeX (ht _ _ _ _ _ _ s7 σ7 H7 _ I7 q7) fun b s8 ⟨H8,I8,q8⟩=>?_
   have again:∀ {σ9:St}{H9:Hp}{s9:Shared}{acc9:List V},Inv Y ([]++zb0 fp s6.heap) σ9 H9 s9→(∃ m',m'<n∧W (i+1) m' acc9 σ9 H9)→∃ m,m<n∧∃ i acc σ' H',Inv Y [] σ' H' s9∧tn i s9.heap∧(∀ b∈fp,H' b=none)∧W i m acc σ' H':=fun {σ9 H9 s9 acc9} I9 ⟨m',hm,w9⟩=>by
    refine⟨m',hm,i+1,acc9,σ9,H9,I9.unpinned,T.keep _ _ _ st6 fun b hb o e=>(I9.pin (b,o) (List.mem_append_right _ (List.mem_append_right _ (zax hb e)))).1,fun b hb=>?_,w9⟩
    obtain⟨o,e,d⟩:=T.obj _ _ st6 b hb
    exact(I9.pin (b,o) (List.mem_append_right _ (List.mem_append_right _ (zax hb e)))).2.1
   cases b with
   | false =>
    rw[if_neg Bool.false_ne_true]at q8 ⊢
    exact again I8 q8
   | true =>
    rw[if_pos rfl]at q8 ⊢
    refine thn (he _ _ _ _ _ _ s8 σ7 H8 _ I8 q8) fun yv s9 ⟨y,H9,I9,r9,hl9,hz9,q9⟩=>?_
    refine thn (mt_append (X:=Y) _ s9 σ7 H9 (.ref l) [y] (.ref l) [yv] (fun _ H'=>H'=upd H9 l (.lst (acc++[y]))) I9 rfl (.cons r9 .nil) ⟨l,acc,y,rfl,rfl,hl9,hz9,rfl⟩) fun _ s10 ⟨_,H10,I10,_,e10⟩=>?_
    subst e10
    exact again I10 q9
 exact codeAny_compStart_list loop (T.self X.A 0 _ _ _ st1 loop)
theorem Inv.gone {X:Cx}{pins:List (Addr × Obj)}{σ:St}{H:Hp}{s:Shared}{C:Addr}{h':Heap}(I:Inv X pins σ H s) (f:FpOk X pins H C) (sb:Heap.SameBut C s.heap h'):Inv X pins σ H { s with heap:=h' } :=
 I.turned (t':=s.toks) (fun b o hb e=>(sb.2 b hb).trans e) f.1 f.2.1 f.2.2.2.1 f.2.2.2.2.1 f.2.2.2.2.2
theorem pe_lc {X:Cx}{elt tg iter:Expr}{o:Option Expr}{scope:Scope}{pos:Pos}{wi:TI}{g:TG}{tt:TT}{te:TE}{N':List Str}{cap:List (Option Nat)}
  (hc:X.calm=true) (hi:PI X tg iter wi) (ck:CapOk X.N N' X.env.scope scope cap)
  (hg:∀ C s₀ H₀ fp pins,PG (zar X N' scope C s₀ H₀ fp pins) tg g)
  (ht:∀ C s₀ H₀ fp pins,PTo (zar X N' scope C s₀ H₀ fp pins) o tt)
  (he:∀ C s₀ H₀ fp pins,PE (zar X N' scope C s₀ H₀ fp pins) elt te)
  (hs:∀ x,foldedSetIterable iter X.env x=pure x:=by intro _;rfl) :
  PE X (.ListComp elt [⟨tg,iter,o.toList,0⟩] scope pos) (tLC cap wi g tt te):=by
 intro pins s σ H Q I h
 rw[eval_ListComp]
 exact zkB (use:=none) hc hi ck hg ht he hs I h fun l C H4 s5 m I5 q hn f=>⟨m,hn,fun h' sb=>⟨.ref l,H4,I5.gone f sb,rfl,q⟩⟩
end L2
namespace Own
open PySem PySem.Spec PyProof.Rows
section
variable {M:Model}{prog:Program}{w:World}{A:Around}{E:Value→Shared→Prop}{s:Shared}{α:Type}{Q:α→Shared→Prop}
theorem rf {a:Addr}{o:Obj}{vs:Array Value}{x:Value}{f:Value→Sem α}(k:Nat) (ho:s.heap.get? a=some o) (hd:o.data=.fields vs) (hx:vs[k]?=some x) (h:wpAny M A (f x) Q E s) :
  wpAny M A (field (.ref a) k >>= f) Q E s:=wpAny_bind (wpAny_field ho hd hx h)
theorem nx {T id:String}{B:Builtin}{it:Addr}{P:Value→Shared→Prop}(slot:Slot T "__next__" id) (ty:s.TypeIs (.ref it) T) (en:entryFor table id=some B) (ok:argsOk id ⟨[.ref it],[]⟩)
  (h:wpAny (model prog w) A.in1 (B ⟨[.ref it],[]⟩) (fun r s'=>∃ v,r=.done (.ret v)∧P v s') E s):wpAny (model prog w) A (Builtin.SmallTypes.nextOf (.ref it)) P E s:=by
 unfold Builtin.SmallTypes.nextOf;refine wpAny_bind (wpAny_callSpecial?_slot (name:="__next__") ty slot (wpAny_call_entry slot ty en (thn2 h) ok))
where
 thn2 {B':Sem Fin}{P:Value→Shared→Prop}{A':Around}(h:wpAny (model prog w) A' B' (fun r s'=>∃ v,r=.done (.ret v)∧P v s') E s) :
   wpAny (model prog w) A' B' (fun r s'=>∃ v,r=.done (.ret v)∧wpAny (model prog w) A (pure v) P E s') E s :=
  wpAny_mono h (fun _ _ ⟨v,e,q⟩=>⟨v,e,wpAny_pure q⟩) fun _ _ z=>z
end
theorem ends {A:Around}{E:Value→Shared→Prop}{prog:Program}{w:World}{s:Shared}{α:Type}{Q:α→Shared→Prop}(hh:A.handled=none)
  (h:∀ h' x,(∀ b o,s.heap.get? b=some o→h'.get? b=some o)→(∃ o,h'.get? x=some o∧o.cls=.type "StopIteration")→E (.ref x) { s with heap:=h' }) :
  wpAny (model prog w) A (Builtin.SmallTypes.stopIteration:Sem α) Q E s:=by
 unfold Builtin.SmallTypes.stopIteration newExc newTuple
 refine wpAny_bind (wpAny_bind (wpAny_newObj_type ?_ (by size_fits)))
 refine wpAny_bind (wpAny_of_eq (a:=Value.none) (by rfl) (wpAny_newObj_type (wpAny_raiseNew_none hh (h _ _ (fun b o e=>?_) ⟨_,Heap.get?_push_size _ rfl,rfl⟩)) (by size_fits)))
 exact Heap.get?_push_of_some _ (Heap.get?_push_of_some _ e)
def cN:Bool→String
 | true=>"list_iterator"
 | false=>"tuple_iterator"
abbrev RIt (b:Bool) (h:Heap) (it a:Addr) (i:Int):Prop:=h.get? it=some { cls:=.type (cN b),dict:=none,data:=.fields #[.ref a,.int i 0],slots:=#[] }
def SqO:Bool→Heap→Addr→Array Value→Prop
 | true,h,a,xs=>h.IsList a xs
 | false,h,a,xs=>h.IsTuple a xs
theorem SqO.ob {b:Bool}{h:Heap}{a:Addr}{xs:Array Value}(x:SqO b h a xs):∃ o n,h.get? a=some o∧o.data=.seq xs n:=by
 cases b<;>(obtain⟨o,e,_,n,d⟩:=x;exact⟨o,n,e,d⟩)
theorem SqO.mv {b:Bool}{h h':Heap}{a:Addr}{xs:Array Value}(x:SqO b h a xs) (k:∀ o,h.get? a=some o→h'.get? a=some o):SqO b h' a xs:=by
 cases b<;>(obtain⟨o,e,r⟩:=x;exact⟨o,k o e,r⟩)
theorem SqO.ne {b b':Bool}{h:Heap}{a it a':Addr}{i:Int}{xs:Array Value}(x:SqO b h a xs) (y:RIt b' h it a' i):a≠it:=fun z=>by
 obtain⟨o,n,e,d⟩:=x.ob
 rw[z,y]at e;cases e;cases d
section
variable {prog:Program}{w:World}{A:Around}{E:Value→Shared→Prop}{s:Shared}
theorem ty {b:Bool}{it a:Addr}{i:Int}(y:RIt b s.heap it a i):s.TypeIs (.ref it) (cN b):=⟨_,y,rfl⟩
theorem zev {b:Bool}{it a:Addr}{i:Nat}{xs:Array Value}{x:Value}{P:Value→Shared→Prop}{B:Builtin}(hB:B=match b with|true=>Builtin.«list_iterator.__next__»|false=>Builtin.«tuple_iterator.__next__»)
  (y:RIt b s.heap it a i) (sq:SqO b s.heap a xs) (hx:xs[i]?=some x) (h:∀ h',RIt b h' it a (i+1)→Heap.SameBut it s.heap h'→P x { s with heap:=h' }) :
  wpAny (model prog w) A (B ⟨[.ref it],[]⟩) (fun r s'=>∃ v,r=.done (.ret v)∧P v s') E s:=by
 obtain⟨o,n,e,d⟩:=sq.ob
 have fin:wpAny (model prog w) A (match xs[(i:Int).toNat]? with
   | some x=>(do setField (.ref it) 1 (rawInt ((i:Int)+1));ret x:Sem Fin)
   | none=>Builtin.SmallTypes.stopIteration) (fun r s'=>∃ v,r=.done (.ret v)∧P v s') E s:=by
  rw[Int.toNat_natCast,hx]
  exact wpAny_bind (wpAny_setField_rec y (show 1<2 by decide) fun h' y' sb=>wpAny_pure ⟨x,rfl,h h' y' sb⟩)
 rw[Int.toNat_natCast,hx]at fin
 subst hB
 cases b <;>
 ·refine rf 0 y rfl rfl (PyIte (show ¬((Value.ref a == Value.none)=true) from Bool.false_ne_true) (rf 1 y rfl rfl (wpAny_bind (wpAny_seqItems e d ?_))))
  simp only[Int.toNat_natCast,hx];exact fin
where
 PyIte {c:Prop} [Decidable c] {α:Type}{a b:Sem α}{M:Model}{A:Around}{Q:α→Shared→Prop}{E:Value→Shared→Prop}{s:Shared}(hc:¬ c) (h:wpAny M A b Q E s):wpAny M A (if c then a else b) Q E s:=by
  rw[if_neg hc];exact h
theorem zdI {b:Bool}{it a:Addr}{i:Nat}{xs:Array Value}{Q:Fin→Shared→Prop}{B:Builtin}(hB:B=match b with|true=>Builtin.«list_iterator.__next__»|false=>Builtin.«tuple_iterator.__next__»)
  (hh:A.handled=none) (y:RIt b s.heap it a i) (sq:SqO b s.heap a xs) (hx:xs[i]?=none)
  (h:∀ h' x,(∀ c o,c≠it→s.heap.get? c=some o→h'.get? c=some o)→(∃ o,h'.get? x=some o∧o.cls=.type "StopIteration")→E (.ref x) { s with heap:=h' }) :
  wpAny (model prog w) A (B ⟨[.ref it],[]⟩) Q E s:=by
 obtain⟨o,n,e,d⟩:=sq.ob
 subst hB
 cases b <;>
 ·refine rf 0 y rfl rfl (zev.PyIte (show ¬((Value.ref a == Value.none)=true) from Bool.false_ne_true) (rf 1 y rfl rfl (wpAny_bind (wpAny_seqItems e d ?_))))
  simp only[Int.toNat_natCast,hx];refine wpAny_bind (wpAny_rule (wpAny_bind (wpAny_setField_rec y (show 0<2 by decide) fun h1 _ sb=>?_)))
  exact ends hh fun h2 x k z=>h h2 x (fun c o hc q=>k c o ((sb.2 c hc).trans q)) z
theorem zkq {b:Bool}{it a:Addr}{i:Nat}{xs:Array Value}{x:Value}{P:Value→Shared→Prop}(y:RIt b s.heap it a i) (sq:SqO b s.heap a xs) (hx:xs[i]?=some x)
  (h:∀ h',RIt b h' it a (i+1)→Heap.SameBut it s.heap h'→P x { s with heap:=h' }):wpAny (model prog w) A (Builtin.SmallTypes.nextOf (.ref it)) P E s:=by
 cases b
 ·exact nx F.slot_tuple_iterator_next (ty y) F.entry_tuple_iterator_next (F.args_tuple_iterator_next_1 _) (zev (b:=false) rfl y sq hx h)
 ·exact nx slot_listiter_next (ty y) entry_listiter_next (args_listiter_next _) (zev (b:=true) rfl y sq hx h)
theorem zhn {b:Bool}{it a:Addr}{i:Nat}{xs:Array Value}{P:Value→Shared→Prop}(hh:A.handled=none) (y:RIt b s.heap it a i) (sq:SqO b s.heap a xs) (hx:xs[i]?=none)
  (h:∀ h' x,(∀ c o,c≠it→s.heap.get? c=some o→h'.get? c=some o)→(∃ o,h'.get? x=some o∧o.cls=.type "StopIteration")→E (.ref x) { s with heap:=h' }) :
  wpAny (model prog w) A (Builtin.SmallTypes.nextOf (.ref it)) P E s:=by
 have inner:A.in1.handled=none:=hh
 cases b
 ·exact nx F.slot_tuple_iterator_next (ty y) F.entry_tuple_iterator_next (F.args_tuple_iterator_next_1 _) (zdI (b:=false) rfl inner y sq hx h)
 ·exact nx slot_listiter_next (ty y) entry_listiter_next (args_listiter_next _) (zdI (b:=true) rfl inner y sq hx h)
theorem zbe {b:Bool}{a:Addr}{xs:Array Value}{P:Value→Shared→Prop}(sq:SqO b s.heap a xs)
  (h:P (.ref s.heap.objs.size) { s with heap:=s.heap.push { cls:=.type (cN b),data:=.fields #[.ref a,.int 0 0] } }):wpAny (model prog w) A (pyIter (.ref a)) P E s:=by
 cases b
 ·exact wpAny_pyIter_tuple sq h
 ·exact wpAny_pyIter_list sq h
end
theorem zbI {prog:Program}{w:World}{A:Around}(hh:A.handled=none) (b:Bool) (it a:Addr) (xs:Array Value) (hne:a≠it) :
  Draws prog w A it [it,a] xs.size (fun i v=>xs[i]?=some v) (fun i h=>RIt b h it a i∧SqO b h a xs) :=
 ⟨fun _ _ st=>⟨_,st.1⟩,fun _ _ _ st k=>⟨k it List.mem_cons_self _ st.1,st.2.mv fun o e=>k a (List.mem_cons_of_mem _ List.mem_cons_self) o e⟩,
  fun i s Q E hi st k=>zkq st.1 st.2 (Array.getElem?_eq_getElem hi) fun h' y sb=>k _ h' s.toks (Array.getElem?_eq_getElem hi) ⟨y,st.2.mv fun o e=>(sb.2 a hne).trans e⟩ sb,
  fun s Q E st k=>zhn hh st.1 st.2 (by simp) fun h' x kk z=>k h' x (fun c o hc q=>kk c o hc q) z⟩
theorem zi2 (b:Bool) (a:Addr) (o:Obj) (xs:Array Value) :
  Meets (Builtin.«enumerate.__new__» ⟨[.type "enumerate",.ref a],[]⟩) (fun _ R s=>s.heap.get? a=some o∧SqO b s.heap a xs ∧
   R (.ok (.ret (.ref (s.heap.push { cls:=.type (cN b),data:=.fields #[.ref a,.int 0 0] }).objs.size)))
    { s with heap:=(s.heap.push { cls:=.type (cN b),data:=.fields #[.ref a,.int 0 0] }).push { cls:=.type "enumerate",data:=.fields #[.none,.bool false,.ref s.heap.objs.size,rawInt 0,.none,.none] } }) :=
 .of_wp fun prog w A R s h=>by
  obtain⟨hp,g,d,tk,os⟩:=s;obtain⟨ho,sq,h⟩:=h
  have sub:=sub_enumerate
  have sq':SqO b (Shared.heap ⟨hp,g,d,tk,os⟩) a xs:=sq
  wp_walk using AutoSeq1.wpAny_loadPart' ho;refine wpAny_stack_any fun st=>wpAny_pure ?_
  split
  case h_1 c _ _ _ _ _ =>
   cases (c == Value.type "enumerate")<;>(wp_walk using AutoSeq1.wpAny_loadPart' ho,zbe sq';exact⟨_,rfl,h⟩)
  all_goals (wp_walk using AutoSeq1.wpAny_loadPart' ho,zbe sq';exact⟨_,rfl,h⟩)
theorem zh1 {prog:Program}{w:World}{A:Around}{E:Value→Shared→Prop}{s:Shared}{b:Bool}{a:Addr}{xs:Array Value}{P:Value→Shared→Prop}(sq:SqO b s.heap a xs)
  (h:∀ h' e it,s.heap.objs.size≤e→s.heap.objs.size≤it→e≠it→IsEnum h' e it 0 .none→RIt b h' it a 0→(∀ c o,s.heap.get? c=some o→h'.get? c=some o)→P (.ref e) { s with heap:=h' }) :
  wpAny (model prog w) A (call (.type "enumerate") [.ref a]) P E s:=by
 obtain⟨o,n,ho,_⟩:=sq.ob
 refine callType_new F.called_enumerate (by decide) (F.typeCall_enumerate_1 _) (F.newCall_enumerate_1 _) (fun obj=>F.args_object_init_2 obj _) F.entry_enumerate_new (zi2 b a o xs) ⟨ho,sq,⟨_,Heap.get?_push_size _ rfl,rfl⟩,?_⟩
 refine h _ _ _ ?_ (Nat.le_refl _) ?_ (Heap.get?_push_size _ rfl) (Heap.get?_push_of_some _ (Heap.get?_push_size _ rfl)) fun c o e=>Heap.get?_push_of_some _ (Heap.get?_push_of_some _ e)
 ·rw[Heap.size_push];exact Nat.le_succ _
 ·rw[Heap.size_push];exact Nat.succ_ne_self _
structure Sep (z TI TO i1 i2:Addr) (f1 f2:List Addr):Prop where
 all:[z,TI,TO,i1,i2].Nodup
 z1:z∉f1
 t1:TO∉f1
 o1:i2∉f1
 z2:z∉f2
 t2:TO∉f2
 o2:i1∉f2
section
variable {prog:Program}{w:World}{A:Around}{E:Value→Shared→Prop}{s:Shared}{z TI TO i1 i2:Addr}{f1 f2:List Addr}{n1 n2 k:Nat}{P1 P2:Nat→Value→Prop}{S1 S2:Nat→Heap→Prop}{a b:Value}
theorem zcT (S:Sep z TI TO i1 i2 f1 f2) (D1:Draws prog w A i1 f1 n1 P1 S1) (D2:Draws prog w A i2 f2 n2 P2 S2) {Q:Value→Shared→Prop}
  (hz:IsZip s.heap z TI TO .none) (hI:IsPair s.heap TI (.ref i1) (.ref i2)) (hO:IsPair s.heap TO a b) (d1:S1 k s.heap) (d2:S2 k s.heap) (l1:k<n1) (l2:k<n2)
  (h:∀ x y h' tk,P1 k x→P2 k y→IsZip h' z TI TO (rawInt s.heap.objs.size)→IsPair h' TO x y→S1 (k+1) h'→S2 (k+1) h'→IsPair h' s.heap.objs.size x y →
   (∀ c o,c∉[z,TO,i1,i2]→s.heap.get? c=some o→h'.get? c=some o)→Q (.ref s.heap.objs.size) { s with heap:=h',toks:=tk }) :
  wpAny (model prog w) A (Builtin.«zip.__next__» ⟨[.ref z],[]⟩) (fun r s'=>∃ v,r=.done (.ret v)∧Q v s') E s:=by
 have nd:=S.all
 simp only[List.nodup_cons,List.mem_cons,List.not_mem_nil,or_false,not_or]at nd
 obtain⟨⟨zI,zO,z1,z2⟩,⟨IO,I1,I2⟩,⟨O1,O2⟩,n12,_⟩:=nd
 refine rf 2 hz rfl rfl (rf 3 hz rfl rfl (wpAny_bind (wpAny_seqItems hI rfl (wpAny_bind (rf 0 hz rfl rfl (wpAny_pure ?_))))))
 simp only[if_true]
 refine wpAny_bind (wpAny_rule (rf 4 hz rfl rfl (wpAny_bind (wpAny_setField_rec hz (show 0<5 by decide) fun ha za sa=>wpAny_bind ?_))))
 have za':IsZip ha z TI TO .ellipsis:=za;simp only[List.zipIdx_cons,List.zipIdx_nil,List.forIn_cons,List.forIn_nil]
 refine wpAny_bind (wpAny_bind (wpAny_onRaise (wpAny_bind (D1.item k _ _ _ l1 (D1.frame _ _ _ d1 fun c hc o e=>(sa.2 c fun q=>S.z1 (q ▸ hc)).trans e) fun x hb tb px db sb=>wpAny_pure ?_))))
 have Ob:IsPair hb TO a b:=(sb.2 TO O1).trans ((sa.2 TO (Ne.symm zO)).trans hO)
 refine wpAny_bind (wpAny_seqItems Ob rfl (wpAny_bind (wpAny_updateSeq_pair Ob fun hc Oc sc=>wpAny_bind (wpAny_letGo (wpAny_pure ?_)))))
 have Oc':IsPair hc TO x b:=Oc
 have st2:S2 k hc:=D2.frame _ _ _ d2 fun c hm o e=>(sc.2 c fun q=>S.t2 (q ▸ hm)).trans ((sb.2 c fun q=>S.o2 (q ▸ hm)).trans ((sa.2 c fun q=>S.z2 (q ▸ hm)).trans e))
 refine wpAny_bind (wpAny_bind (wpAny_onRaise (wpAny_bind (D2.item k _ _ _ l2 st2 fun y hd td py dd sd=>wpAny_pure ?_))))
 have Od:IsPair hd TO x b:=(sd.2 TO O2).trans Oc'
 refine wpAny_bind (wpAny_seqItems Od rfl (wpAny_bind (wpAny_updateSeq_pair Od fun he Oe se=>wpAny_bind (wpAny_letGo (wpAny_pure (wpAny_pure ?_))))))
 have Oe':IsPair he TO x y:=Oe
 refine wpAny_bind (wpAny_seqItems Oe' rfl (wpAny_bind (wpAny_newTuple (wpAny_bind ?_))))
 have sz:he.objs.size=s.heap.objs.size:=by rw[se.1,sd.1,sc.1,sb.1,sa.1]
 have ze:IsZip he z TI TO .ellipsis:=(se.2 z zO).trans ((sd.2 z z2).trans ((sc.2 z zO).trans ((sb.2 z z1).trans za')))
 have zn:he.objs.size≠z:=Nat.ne_of_gt (Heap.lt_size ze)
 unfold Builtin.SmallTypes.ownedTupleHandOut;refine wpAny_bind (wpAny_setField_rec (Heap.get?_push_of_some _ ze) (show 0<5 by decide) fun hf zf sf=>wpAny_setField_rec zf (show 1<5 by decide) fun hg zg sg=>wpAny_pure ⟨_,rfl,?_⟩)
 have up:∀ c o,c≠z→he.get? c=some o→hg.get? c=some o:=fun c o q e=>(sg.2 c q).trans ((sf.2 c q).trans (Heap.get?_push_of_some _ e))
 have new:IsPair hg he.objs.size x y:=(sg.2 _ zn).trans ((sf.2 _ zn).trans (Heap.get?_push_size _ rfl))
 have zg':IsZip hg z TI TO (rawInt he.objs.size):=zg
 rw[sz]at new zg'
 show Q (.ref he.objs.size) _
 rw[sz]
 refine h x y hg td px py zg' (up _ _ (Ne.symm zO) Oe') ?_ ?_ new fun c o hc e=>?_
 ·exact D1.frame _ _ _ db fun c hm o e=>up c o (fun q=>S.z1 (q ▸ hm)) ((se.2 c fun q=>S.t1 (q ▸ hm)).trans ((sd.2 c fun q=>S.o1 (q ▸ hm)).trans ((sc.2 c fun q=>S.t1 (q ▸ hm)).trans e)))
 ·exact D2.frame _ _ _ dd fun c hm o e=>up c o (fun q=>S.z2 (q ▸ hm)) ((se.2 c fun q=>S.t2 (q ▸ hm)).trans e)
 ·simp only[List.mem_cons,List.not_mem_nil,or_false,not_or]at hc
  obtain⟨c1,c2,c3,c4⟩:=hc
  exact up c o c1 ((se.2 c c2).trans ((sd.2 c c4).trans ((sc.2 c c2).trans ((sb.2 c c3).trans ((sa.2 c c1).trans e)))))
end
section
variable {prog:Program}{w:World}{A:Around}{E:Value→Shared→Prop}{s:Shared}{z TI TO i1 i2:Addr}{f1 f2:List Addr}{n1 n2 k:Nat}{P1 P2:Nat→Value→Prop}{S1 S2:Nat→Heap→Prop}{a b:Value}
theorem zcS (S:Sep z TI TO i1 i2 f1 f2) (D1:Draws prog w A i1 f1 n1 P1 S1) {Q:Fin→Shared→Prop}(hz:IsZip s.heap z TI TO .none) (hI:IsPair s.heap TI (.ref i1) (.ref i2)) (d1:S1 n1 s.heap)
  (h:∀ h' x,(∀ c o,c∉[z,TO,i1,i2]→s.heap.get? c=some o→h'.get? c=some o)→(∃ o,h'.get? x=some o∧o.cls=.type "StopIteration")→E (.ref x) { s with heap:=h' }):wpAny (model prog w) A (Builtin.«zip.__next__» ⟨[.ref z],[]⟩) Q E s:=by
 have nd:=S.all
 simp only[List.nodup_cons,List.mem_cons,List.not_mem_nil,or_false,not_or]at nd
 obtain⟨⟨zI,zO,z1,z2⟩,⟨IO,I1,I2⟩,⟨O1,O2⟩,n12,_⟩:=nd
 refine rf 2 hz rfl rfl (rf 3 hz rfl rfl (wpAny_bind (wpAny_seqItems hI rfl (wpAny_bind (rf 0 hz rfl rfl (wpAny_pure ?_))))))
 simp only[if_true]
 refine wpAny_bind (wpAny_rule (rf 4 hz rfl rfl (wpAny_bind (wpAny_setField_rec hz (show 0<5 by decide) fun ha za sa=>wpAny_bind ?_))))
 have za':IsZip ha z TI TO .ellipsis:=za;simp only[List.zipIdx_cons,List.zipIdx_nil,List.forIn_cons,List.forIn_nil]
 refine wpAny_bind (wpAny_bind (wpAny_onRaise (wpAny_bind (D1.done _ _ _ (D1.frame _ _ _ d1 fun c hc o e=>(sa.2 c fun q=>S.z1 (q ▸ hc)).trans e) fun hb x kb ⟨ox,ex,cx⟩=>?_))))
 have zb:IsZip hb z TI TO .ellipsis:=kb z _ z1 za'
 have xz:x≠z:=fun q=>by rw[q,zb]at ex;cases ex;exact absurd (show Value.type "zip" = Value.type "StopIteration" from cx) (by decide)
 refine wpAny_setField_rec zb (show 0<5 by decide) fun hc _ sc=>h hc x (fun c o hm e=>?_) ⟨ox,(sc.2 x xz).trans ex,cx⟩
 simp only[List.mem_cons,List.not_mem_nil,or_false,not_or]at hm
 exact(sc.2 c hm.1).trans (kb c o hm.2.2.1 ((sa.2 c hm.1).trans e))
end
theorem zce (b1 b2:Bool) (a1 a2:Addr) (xs ys:Array Value):Meets (Builtin.«zip.__new__» ⟨[.type "zip",.ref a1,.ref a2],[]⟩) (fun _ R s=>SqO b1 s.heap a1 xs∧SqO b2 s.heap a2 ys ∧
  ∀ h' z,(∃ TI TO i1 i2,[z,TI,TO,i1,i2].Nodup∧(∀ c∈[z,TI,TO,i1,i2],s.heap.objs.size≤c)∧IsZip h' z TI TO .none∧IsPair h' TI (.ref i1) (.ref i2)∧IsPair h' TO .none .none∧RIt b1 h' i1 a1 0∧RIt b2 h' i2 a2 0) →
   (∀ c o,s.heap.get? c=some o→h'.get? c=some o)→R (.ok (.ret (.ref z))) { s with heap:=h' }) :=
 .of_wp fun prog w A R s h=>by
  obtain⟨hp,g,d,tk,os⟩:=s;obtain⟨q1,q2,h⟩:=h
  have sub:=sub_zip
  have r1:SqO b1 (Shared.heap ⟨hp,g,d,tk,os⟩) a1 xs:=q1
  have r2:SqO b2 (Shared.heap ⟨hp.push { cls:=.type (cN b1),data:=.fields #[.ref a1,.int 0 0] },g,d,tk,os⟩) a2 ys:=q2.mv fun o e=>Heap.get?_push_of_some _ e
  wp_walk using zbe r1,zbe r2
  refine⟨_,rfl,h _ _ ⟨_,_,_,_,?_,?_,Heap.get?_push_size _ rfl,Heap.get?_push_of_some _ (Heap.get?_push_of_some _ (Heap.get?_push_size _ rfl)),Heap.get?_push_of_some _ (Heap.get?_push_size _ rfl),
   Heap.get?_push_of_some _ (Heap.get?_push_of_some _ (Heap.get?_push_of_some _ (Heap.get?_push_of_some _ (Heap.get?_push_size _ rfl)))),Heap.get?_push_of_some _ (Heap.get?_push_of_some _ (Heap.get?_push_of_some _ (Heap.get?_push_size _ rfl)))⟩ fun c o e=>?_⟩
  ·simp only[Heap.size_push,List.nodup_cons,List.mem_cons,List.not_mem_nil,or_false,not_or]
   simp<;>lia
  ·simp only[Heap.size_push,List.mem_cons,List.not_mem_nil,or_false]
   intro c hc
   have:hp.objs.size≤c:=by lia
   exact this
  ·exact Heap.get?_push_of_some _ (Heap.get?_push_of_some _ (Heap.get?_push_of_some _ (Heap.get?_push_of_some _ (Heap.get?_push_of_some _ e))))
end Own
namespace L2
open PySem PySem.Spec PyProof.Rows Own
section
variable {X:Cx}{pins:List (Addr × Obj)}{σ:St}{H:Hp}{s:Shared}{h':Heap}
theorem Inv.spunN {fp:List Addr}{T:Addr}{o:HO}{t':Nat}(I:Inv X pins σ H s) (k:∀ b o,b∉fp→s.heap.get? b=some o→h'.get? b=some o) (hf:∀ b∈fp,FpOk X pins H b) (hT:s.heap.objs.size≤T)
  (new:ObjOk X.prog X.w (upd H T o) h' T o):Inv X pins σ (upd H T o) { s with heap:=h',toks:=t' }:=by
 have hn:H T=none:=I.hok.fresh hT
 have neT:∀ b u,s.heap.get? b=some u→b≠T:=fun b u e=>Nat.ne_of_lt (Nat.lt_of_lt_of_le (Heap.lt_size e) hT)
 have nfp:∀ b u,H b=some u→b∉fp:=fun b u e hb=>by rw[(hf b hb).1]at e;cases e
 refine I.step (g':=s.gens) (d':=s.drawn) (ch:=fp) (fun b hb=>?_) (fun b o _ _ hc e _=>k b o hc e) (fun b o _ _ hc e _=>⟨o.slots,k b o hc e⟩) (fun b o _ e n=>by rw[zae (neT b o e)];exact n)
  (fun b o hc e=>⟨o,k b o hc e⟩) (fun b xs e=>by rw[zae (zac e hn)];exact e) (fun b o u e=>by rw[zae (zac e hn)];exact e) (fun b ps e=>⟨#[],by rw[zae (zac e hn),e];simp⟩) (fun m hm=>?_) (fun b u e=>?_) I.bare
 ·obtain⟨f0,f1,f2,f3,f4,f5⟩:=hf b hb
  exact⟨f3,f1,f4,f5⟩
 ·obtain⟨o,es,ep,ho,r⟩:=hm
  exact⟨o,es,ep,k _ o (fun hb=>(hf _ hb).2.1 rfl) ho,r⟩
 ·by_cases hb:b=T
  ·subst hb;rw[zab]at e;cases e;exact new
  ·rw[zae hb]at e
   refine(I.hok b u e).stay (fun c v hc q=>k c v ?_ q) (fun c q=>by rw[zae (zac q hn)];exact q) fun c xs q=>by rw[zae (zac q hn)];exact q
   rcases hc with z|z
   ·rw[z];exact nfp b u e
   ·exact nfp c _ z
theorem Inv.spun {fp:List Addr}{t':Nat}(I:Inv X pins σ H s) (k:∀ b o,b∉fp→s.heap.get? b=some o→h'.get? b=some o) (hf:∀ b∈fp,FpOk X pins H b):Inv X pins σ H { s with heap:=h',toks:=t' }:=by
 have nfp:∀ b u,H b=some u→b∉fp:=fun b u e hb=>by rw[(hf b hb).1]at e;cases e
 refine I.step (g':=s.gens) (d':=s.drawn) (ch:=fp) (fun b hb=>?_) (fun b o _ _ hc e _=>k b o hc e) (fun b o _ _ hc e _=>⟨o.slots,k b o hc e⟩) (fun b o _ e n=>n)
  (fun b o hc e=>⟨o,k b o hc e⟩) (fun b xs e=>e) (fun b o u e=>e) (fun b ps e=>⟨#[],by rw[e];simp⟩) (fun m hm=>?_) (fun b u e=>?_) I.bare
 ·obtain⟨f0,f1,f2,f3,f4,f5⟩:=hf b hb
  exact⟨f3,f1,f4,f5⟩
 ·obtain⟨o,es,ep,ho,r⟩:=hm
  exact⟨o,es,ep,k _ o (fun hb=>(hf _ hb).2.1 rfl) ho,r⟩
 ·refine(I.hok b u e).stay (fun c v hc q=>k c v ?_ q) (fun c q=>q) fun c xs q=>q
  rcases hc with z|z
  ·rw[z];exact nfp b u e
  ·exact nfp c _ z
end
def SqB:Bool→PySem.W.Frag→Hp→Addr→List V→Prop
 | true,K,H,a,xs=>SqL K H a xs
 | false,K,H,a,xs=>SqT K H a xs
section
variable {X:Cx}{pins:List (Addr × Obj)}{σ:St}{H:Hp}{s:Shared}{a c:Addr}{xs ys:List V}{b:Bool}
theorem Inv.sq (I:Inv X pins σ H s) (h:SqB b X.K H a xs):∃ its:List Value,Vals xs its∧SqO b s.heap a its.toArray:=by
 cases b
 ·obtain⟨its,r,p,z⟩:=I.tuple h
  exact⟨its,r,p⟩
 ·obtain⟨its,r,p,z⟩:=I.list h
  exact⟨its,r,p.isList⟩
theorem Inv.sq_inj (I:Inv X pins σ H s) (h:SqB b X.K H a xs) (h':SqB b X.K H a ys):xs=ys:=by
 cases b
 ·exact I.tuple_inj h h'
 ·exact I.list_inj h h'
theorem Inv.sq_ne (I:Inv X pins σ H s) (h:SqB b X.K H a xs) (f:FpOk X pins H c):c≠a:=by
 rintro rfl
 have inK:∀ o,X.K.lookup c=some o→False:=fun o e=>by
  have e1:=I.ok.mod.kin c o e
  rcases f.2.2.2.1 with z|z
  ·exact I.ok.noex c o e1 z
  ·exact absurd (Nat.lt_of_lt_of_le (Heap.lt_size e1) (Nat.le_trans I.ok.bsz z)) (Nat.lt_irrefl _)
 cases b <;>
 ·rcases h with (h|⟨o,h⟩)|⟨o,_,_,e,_⟩
  ·rw[f.1]at h;cases h
  ·rw[f.1]at h;cases h
  ·exact inK o e
end
def Pr (v u:V) (H:Hp) (x:V) (H':Hp):Prop:=∃ T,H T=none∧x=.ref T∧H'=upd H T (.tup [v,u])
theorem zcl {P:Program}{w:World}{H:Hp}{h:Heap}{T:Addr}{v u:V}{a b:Value}(e:IsPair h T a b) (rv:RelV v a) (ru:RelV u b):ObjOk P w (upd H T (.tup [v,u])) h T (.tup [v,u]) :=
 ⟨show 2≤sizeLine by decide,[a,b],.cons rv (.cons ru .nil),⟨_,e,rfl,_,rfl,rfl⟩⟩
def Ite (K:PySem.W.Frag) (b:Bool) (a:Addr):It :=
 ⟨fun i H=>∃ xs x,SqB b K H a xs∧xs[i]?=some x,fun i H x H'=>∃ y,(∀ xs,SqB b K H a xs→xs[i]?=some y)∧Pr (.int i) y H x H',fun i H=>∃ xs,SqB b K H a xs∧xs.length=i⟩
theorem zgo {P:Program}{w:World}{K:PySem.W.Frag}{es:List Expr}{k1} {p1:Pos}(b:Bool) (a e it:Addr) (hne:e≠it):Turn P w K (.Tuple es k1 p1) (Ite K b a) [e,it] e (fun i h=>(∃ old,IsEnum h e it i old)∧RIt b h it a i) where
 mem:=List.mem_cons_self
 obj:=fun i h ⟨⟨old,he⟩,hi⟩ c hc=>by
  rcases List.mem_cons.mp hc with q|q
  ·rw[q];exact⟨_,he,fun v z=>by cases z⟩
  ·rw[List.mem_singleton.mp q];exact⟨_,hi,fun v z=>by cases z⟩
 keep:=fun i h h' ⟨⟨old,he⟩,hi⟩ kk=>⟨⟨old,kk e (by simp) _ he⟩,kk it (by simp) _ hi⟩
 item:=by
  intro X hP hw hK hc i pins s σ H E I hf ⟨⟨old,he⟩,hi⟩ ⟨xs,x,hq,hx⟩
  subst hP hw hK
  obtain⟨its,rv,p⟩:=I.sq hq
  obtain⟨u,hu,ru⟩:=rv.get hx
  have hlt:i<its.toArray.size:=by simpa using (List.getElem?_eq_some_iff.mp hu).1
  refine wpAny_pyNext_enum_itemD (zbI (prog:=X.prog) (w:=X.w) (A:=X.A.in1) (I.ok.hd hc) b it a its.toArray (p.ne hi)) he ⟨hi,p⟩ hlt hne (by simp[hne,I.sq_ne hq (hf e (by simp))]) fun v h1 tk hv ho hs hT _ hk=>?_
  obtain rfl:u=v:=Option.some.inj (hu.symm.trans (by simpa using hv))
  refine⟨_,rfl,wpAny_letOwnedTupleGo_enum ho fun h2 he2 s2=>?_⟩
  have nT:s.heap.objs.size≠e:=Nat.ne_of_gt (Heap.lt_size he)
  have nI:s.heap.objs.size≠it:=Nat.ne_of_gt (Heap.lt_size hi)
  refine⟨.ref s.heap.objs.size,_,I.spunN (fp:=[e,it]) (fun c o hm q=>?_) hf (Nat.le_refl _) (zcl (v:=.int i) (u:=x) ((s2.2 _ nT).trans hT) ⟨tk,rfl⟩ ru),rfl,⟨x,fun ys hy=>by rw[I.sq_inj hy hq];exact hx,_,I.fresh,rfl,rfl⟩,⟨⟨_,he2⟩,(s2.2 it (Ne.symm hne)).trans hs.1⟩,fun c hm=>?_⟩
  ·have c1:c≠e:=fun z=>hm (by simp[z])
   exact(s2.2 c c1).trans (hk c o c1 (fun z=>hm (by simp[z])) q)
  ·rw[zae,(hf c hm).1]
   rintro rfl
   rcases List.mem_cons.mp hm with z|z
   ·exact nT z
   ·exact nI (List.mem_singleton.mp z)
 done:=by
  intro X hP hw hK hc i pins s σ H E I hf ⟨⟨old,he⟩,hi⟩ ⟨xs,hq,hx⟩
  subst hP hw hK
  obtain⟨its,rv,p⟩:=I.sq hq
  have hz:i=its.toArray.size:=by rw[List.size_toArray,← rv.length,hx]
  refine wpAny_pyNext_enum_endD (zbI (prog:=X.prog) (w:=X.w) (A:=X.A.in1) (I.ok.hd hc) b it a its.toArray (p.ne hi)) he ⟨by rw[← hz];exact hi,p⟩ fun h' eb=>⟨rfl,I.spun (t':=s.toks) (fp:=[e,it]) (fun c o hm q=>eb c o (fun z=>hm (by simp[z])) q) hf⟩
 self:=fun _ _ _ _ _ ⟨⟨_,he⟩,_⟩ h=>wpAny_pyIter_enum he h
def zlB (K:PySem.W.Frag) (b:Bool) (ta:TA):TI:=fun σ H R=>ta σ H fun vs H1=>∃ a xs,vs=[.ref a]∧SqB b K H1 a xs∧R (Ite K b a) H1
theorem zg8 {X:Cx}{a:Expr}{ta:TA}{p pos p1:Pos}{es:List Expr}{k1} (b:Bool) (hg:Gl X "enumerate") (hm:X.mg "enumerate" = none) (ha:PA X [a] ta) (hs:starEach [a] X.env=[(false,eval a X.env)]:=by rfl) :
  PI X (.Tuple es k1 p1) (.Call (.Name "enumerate" p) [a] [] pos) (zlB X.K b ta):=by
 intro pins s σ H R I h
 refine Call_ (zaA I hg hm (u:=.type "enumerate") (by rfl) (PyProof.Rows.callWith_type1 (thn (ha pos pins s σ H _ I h) fun us s1 ⟨vs,H1,I1,r1,q1⟩=>?_) hs rfl))
 obtain⟨a',xs,rfl,hq,q⟩:=q1
 obtain⟨u,rfl,ru⟩:=r1.one
 cases ru
 obtain⟨its,rv,pl⟩:=I1.sq hq
 refine zh1 pl fun h' e it l1 l2 ne he hi hk=>wpAny_pyIter_enum he ⟨_,[e,it],_,_,H1,rfl,I1.kept (t':=s1.toks) hk,zgo b a' e it ne,⟨⟨_,he⟩,hi⟩,fun c hc=>?_,q⟩
 have hc':s1.heap.objs.size≤c:=by
  rcases List.mem_cons.mp hc with z|z
  ·rw[z];exact l1
  ·rw[List.mem_singleton.mp z];exact l2
 exact I1.fpOk hc' (I1.hok.fresh hc')
def Itz (K:PySem.W.Frag) (b1 b2:Bool) (a1 a2:Addr):It :=
 ⟨fun i H=>∃ xs ys x y,SqB b1 K H a1 xs∧SqB b2 K H a2 ys∧xs[i]?=some x∧ys[i]?=some y,fun i H v H'=>∃ x y,(∀ xs,SqB b1 K H a1 xs→xs[i]?=some x)∧(∀ ys,SqB b2 K H a2 ys→ys[i]?=some y)∧Pr x y H v H',
  fun i H=>∃ xs,SqB b1 K H a1 xs∧xs.length=i⟩
theorem za1 {P:Program}{w:World}{K:PySem.W.Frag}{es:List Expr}{k1} {p1:Pos}(b1 b2:Bool) (a1 a2 z TI TO i1 i2:Addr) (nd:[z,TI,TO,i1,i2].Nodup) :
  Turn P w K (.Tuple es k1 p1) (Itz K b1 b2 a1 a2) [z,TI,TO,i1,i2] z (fun i h=>IsZip h z TI TO .none∧IsPair h TI (.ref i1) (.ref i2)∧(∃ a b,IsPair h TO a b)∧RIt b1 h i1 a1 i∧RIt b2 h i2 a2 i) where
 mem:=List.mem_cons_self
 obj:=fun i h ⟨hz,hI,⟨a,b,hO⟩,h1,h2⟩ c hc=>by
  simp only[List.mem_cons,List.not_mem_nil,or_false]at hc
  rcases hc with rfl|rfl|rfl|rfl|rfl
  ·exact⟨_,hz,fun v q=>by cases q⟩
  ·exact⟨_,hI,fun v q=>by cases q⟩
  ·exact⟨_,hO,fun v q=>by cases q⟩
  ·exact⟨_,h1,fun v q=>by cases q⟩
  ·exact⟨_,h2,fun v q=>by cases q⟩
 keep:=fun i h h' ⟨hz,hI,⟨a,b,hO⟩,h1,h2⟩ kk=>⟨kk z (by simp) _ hz,kk TI (by simp) _ hI,⟨a,b,kk TO (by simp) _ hO⟩,kk i1 (by simp) _ h1,kk i2 (by simp) _ h2⟩
 item:=by
  intro X hP hw hK hc i pins s σ H E I hf ⟨hz,hI,⟨a,b,hO⟩,h1,h2⟩ ⟨xs,ys,x,y,q1,q2,hx,hy⟩
  subst hP hw hK
  obtain⟨u1,r1,p1⟩:=I.sq q1
  obtain⟨u2,r2,p2⟩:=I.sq q2
  obtain⟨v1,e1,rx⟩:=r1.get hx
  obtain⟨v2,e2,ry⟩:=r2.get hy
  have nd':=nd
  simp only[List.nodup_cons,List.mem_cons,List.not_mem_nil,or_false,not_or]at nd'
  obtain⟨⟨zI,zO,z1,z2⟩,⟨IO,I1,I2⟩,⟨O1,O2⟩,n12,_⟩:=nd'
  have na1:∀ c∈[z,TI,TO,i1,i2],c≠a1:=fun c hm=>I.sq_ne q1 (hf c hm)
  have na2:∀ c∈[z,TI,TO,i1,i2],c≠a2:=fun c hm=>I.sq_ne q2 (hf c hm)
  have S:Sep z TI TO i1 i2 [i1,a1] [i2,a2]:=⟨nd,by simp[z1,na1 z (by simp)],by simp[O1,na1 TO (by simp)],by simp[Ne.symm n12,na1 i2 (by simp)],by simp[z2,na2 z (by simp)],by simp[O2,na2 TO (by simp)],by simp[n12,na2 i1 (by simp)]⟩
  have hd:=I.ok.hd hc
  have D1:=zbI (prog:=X.prog) (w:=X.w) (A:=X.A.in1) hd b1 i1 a1 u1.toArray (p1.ne h1)
  have D2:=zbI (prog:=X.prog) (w:=X.w) (A:=X.A.in1) hd b2 i2 a2 u2.toArray (p2.ne h2)
  have tyz:s.TypeIs (.ref z) "zip":=⟨_,hz,rfl⟩
  unfold pyNext
  refine wpAny_bind (wpAny_attempt (wpAny_callSpecial?_slot (name:="__next__") tyz F.slot_zip_next (wpAny_call_entry F.slot_zip_next tyz F.entry_zip_next (zcT S D1 D2 hz hI hO ⟨h1,p1⟩ ⟨h2,p2⟩ (by simpa using (List.getElem?_eq_some_iff.mp e1).1) (by simpa using (List.getElem?_eq_some_iff.mp e2).1)
   fun w1 w2 h' tk hw1 hw2 zh Oh d1 d2 new hk=>wpAny_pure ?_) (F.args_zip_next_1 _))))
  obtain rfl:v1=w1:=Option.some.inj (e1.symm.trans (by simpa using hw1))
  obtain rfl:v2=w2:=Option.some.inj (e2.symm.trans (by simpa using hw2))
  refine⟨_,rfl,wpAny_letOwnedTupleGo_zip zh fun h3 z3 s3=>?_⟩
  have nz:s.heap.objs.size≠z:=Nat.ne_of_gt (Heap.lt_size hz)
  have far:∀ c∈[z,TI,TO,i1,i2],c≠s.heap.objs.size:=fun c hm=>by
   simp only[List.mem_cons,or_false,List.not_mem_nil]at hm
   rcases hm with rfl|rfl|rfl|rfl|rfl
   ·exact Nat.ne_of_lt (Heap.lt_size hz)
   ·exact Nat.ne_of_lt (Heap.lt_size hI)
   ·exact Nat.ne_of_lt (Heap.lt_size hO)
   ·exact Nat.ne_of_lt (Heap.lt_size h1)
   ·exact Nat.ne_of_lt (Heap.lt_size h2)
  refine⟨.ref s.heap.objs.size,_,I.spunN (fp:=[z,TI,TO,i1,i2]) (fun c o hm q=>?_) hf (Nat.le_refl _) (zcl ((s3.2 _ nz).trans new) rx ry),rfl,⟨x,y,fun l hl=>by rw[I.sq_inj hl q1];exact hx,fun l hl=>by rw[I.sq_inj hl q2];exact hy,_,I.fresh,rfl,rfl⟩,
   ⟨z3,(s3.2 _ (Ne.symm zI)).trans (hk TI _ (by simp[Ne.symm zI,IO,I1,I2]) hI),⟨_,_,(s3.2 _ (Ne.symm zO)).trans Oh⟩,(s3.2 _ (Ne.symm z1)).trans d1.1,(s3.2 _ (Ne.symm z2)).trans d2.1⟩,fun c hm=>by rw[zae (far c hm),(hf c hm).1]⟩
  simp only[List.mem_cons,List.not_mem_nil,or_false,not_or]at hm
  exact(s3.2 c hm.1).trans (hk c o (by simp[hm]) q)
 done:=by
  intro X hP hw hK hc i pins s σ H E I hf ⟨hz,hI,⟨a,b,hO⟩,h1,h2⟩ ⟨xs,q1,hx⟩
  subst hP hw hK
  obtain⟨u1,r1,p1⟩:=I.sq q1
  have nd':=nd
  simp only[List.nodup_cons,List.mem_cons,List.not_mem_nil,or_false,not_or]at nd'
  obtain⟨⟨zI,zO,z1,z2⟩,⟨IO,I1,I2⟩,⟨O1,O2⟩,n12,_⟩:=nd'
  have na1:∀ c∈[z,TI,TO,i1,i2],c≠a1:=fun c hm=>I.sq_ne q1 (hf c hm)
  have S:Sep z TI TO i1 i2 [i1,a1] [i2]:=⟨nd,by simp[z1,na1 z (by simp)],by simp[O1,na1 TO (by simp)],by simp[Ne.symm n12,na1 i2 (by simp)],by simp[z2],by simp[O2],by simp[n12]⟩
  have hsz:i=u1.toArray.size:=by rw[List.size_toArray,← r1.length,hx]
  have tyz:s.TypeIs (.ref z) "zip":=⟨_,hz,rfl⟩
  unfold pyNext
  refine wpAny_bind (wpAny_attempt (wpAny_callSpecial?_slot (name:="__next__") tyz F.slot_zip_next (wpAny_call_entry F.slot_zip_next tyz F.entry_zip_next
   (zcS S (zbI (prog:=X.prog) (w:=X.w) (A:=X.A.in1) (I.ok.hd hc) b1 i1 a1 u1.toArray (p1.ne h1)) hz hI ⟨by rw[← hsz];exact h1,p1⟩ fun h' x hk ⟨o,eo,co⟩=>?_) (F.args_zip_next_1 _))))
  refine wpAny_bind (wpAny_isInstance (T:="StopIteration") (b:=true) ⟨o,eo,co⟩ isSubtype_stop (wpAny_pure ⟨rfl,I.spun (t':=s.toks) (fp:=[z,TI,TO,i1,i2]) (fun c o hm q=>hk c o ?_ q) hf⟩))
  simp only[List.mem_cons,List.not_mem_nil,or_false,not_or]at hm ⊢
  exact⟨hm.1,hm.2.2.1,hm.2.2.2.1,hm.2.2.2.2⟩
 self:=fun _ _ _ _ _ st h=>wpAny_pyIter_zip st.1 h
def iZip (K:PySem.W.Frag) (b1 b2:Bool) (ta:TA):TI:=fun σ H R=>ta σ H fun vs H1=>∃ a1 a2 xs ys,vs=[.ref a1,.ref a2]∧SqB b1 K H1 a1 xs∧SqB b2 K H1 a2 ys∧R (Itz K b1 b2 a1 a2) H1
theorem zlc {X:Cx}{a b:Expr}{ta:TA}{p pos p1:Pos}{es:List Expr}{k1} (b1 b2:Bool) (hg:Gl X "zip") (hm:X.mg "zip" = none) (ha:PA X [a,b] ta) (hs:starEach [a,b] X.env=[(false,eval a X.env),(false,eval b X.env)]:=by rfl) (hs2:starEach [b] X.env=[(false,eval b X.env)]:=by rfl) :
  PI X (.Tuple es k1 p1) (.Call (.Name "zip" p) [a,b] [] pos) (iZip X.K b1 b2 ta):=by
 intro pins s σ H R I h
 refine Call_ (zaA I hg hm (u:=.type "zip") (by rfl) (PyProof.Rows.callWith_type1 (thn (ha pos pins s σ H _ I h) fun us s1 ⟨vs,H1,I1,r1,q1⟩=>?_) (by rw[hs,hs2]) (by rw[hs2];rfl)))
 obtain⟨a1,a2,xs,ys,rfl,hq1,hq2,q⟩:=q1
 obtain⟨u,v,rfl,ru,rv⟩:=r1.two
 cases ru
 cases rv
 obtain⟨its,_,pl1⟩:=I1.sq hq1
 obtain⟨jts,_,pl2⟩:=I1.sq hq2
 refine callType_new F.called_zip (by decide) (F.typeCall_zip_2 _ _) (F.newCall_zip_2 _ _) (fun obj=>F.args_object_init_3 obj _ _) F.entry_zip_new (zce b1 b2 a1 a2 its.toArray jts.toArray) ⟨pl1,pl2,fun h' z ⟨TI,TO,i1,i2,nd,far,hz,hI,hO,h1,h2⟩ hk=>⟨⟨_,hz,rfl⟩,?_⟩⟩
 exact wpAny_pyIter_zip hz ⟨_,[z,TI,TO,i1,i2],_,_,H1,rfl,I1.kept (t':=s1.toks) hk,za1 b1 b2 a1 a2 z TI TO i1 i2 nd,⟨hz,hI,⟨_,_,hO⟩,h1,h2⟩,fun c hc=>I1.fpOk (far c hc) (I1.hok.fresh (far c hc)),q⟩
section
variable {X:Cx}
theorem zid {prog:Program}{w:World}{A:Around}(hh:A.handled=none) (b:Bool) (I a:Addr) (hne:a≠I) (xs:Array Value) :
  Walks prog w A I [I,a] [I] xs.size (fun i v=>xs[i]?=some v) (fun i h=>(match b with|true=>h.IsListIter I a i|false=>h.IsTupleIter I a i)∧SqO b h a xs):=by
 cases b
 ·exact Walks.tuple hh I a hne xs
 ·exact Walks.list hh I a hne xs
theorem zd7 (hc:X.calm=true) (b:Bool):CallR X (.builtin "all") (fun vs H Q=>∃ a bs,vs=[.ref a]∧SqB b X.K H a (List.map V.bl bs)∧Q (.bl (bs.all id)) H):=by
 intro pins s σ H vs us Q I rv h
 obtain⟨a,bs,rfl,hq,q⟩:=h
 obtain⟨u,rfl,ru⟩:=rv.one
 cases ru
 obtain⟨its,r,p⟩:=I.sq hq
 have hne:a≠s.heap.objs.size:=by
  obtain⟨o,n,e,_⟩:=p.ob
  exact Nat.ne_of_lt (Heap.lt_size e)
 have hl:its.length=bs.length:=by rw[← r.length,List.length_map]
 refine call_all_walk (zbe p ⟨s.heap.objs.size,[s.heap.objs.size,a],[s.heap.objs.size],_,_,_,fun i=>bs.getD i true,rfl,zid (show X.A.in1.handled=none from I.ok.hd hc) b _ a hne its.toArray,?_,?_,?_⟩)
 ·refine⟨?_,p.mv fun o e=>Heap.get?_push_of_some _ e⟩
  cases b<;>exact⟨_,Heap.get?_push_size _ rfl,rfl,rfl⟩
 ·intro i v s' Q' E' hv hQ
  have hv':its[i]?=some v:=by simpa using hv
  have hi:=(List.getElem?_eq_some_iff.mp hv').1
  have e:(List.map V.bl bs)[i]?=some (V.bl (bs.getD i true)):=by
   rw[List.getElem?_map,List.getD_eq_getElem?_getD,List.getElem?_eq_getElem (by lia)]
   rfl
  obtain⟨u',e',ru⟩:=r.get e
  rw[hv']at e'
  obtain rfl:=Option.some.inj e'
  obtain rfl:v=Value.bool (bs.getD i true):=ru
  exact wpAny_truthy_bool hQ
 ·intro h' tk hk
  refine⟨.bl (bs.all id),H,I.kept (t':=tk) fun c o e=>hk c o ?_ (Heap.get?_push_of_some _ e),?_,q⟩
  ·exact fun z=>Nat.ne_of_lt (Heap.lt_size e) (List.mem_singleton.mp z)
  ·show Value.bool _=Value.bool _
   congr 1
   rw[List.size_toArray,hl,Bool.eq_iff_iff,List.all_eq_true,List.all_eq_true]
   constructor
   ·intro h x hx
    obtain⟨j,hj,e⟩:=List.getElem_of_mem hx
    have at_j:=h j (List.mem_range.mpr hj)
    rw[List.getD_eq_getElem?_getD,List.getElem?_eq_getElem hj]at at_j
    rw[← e];exact at_j
   ·intro h j hj
    rw[List.getD_eq_getElem?_getD,List.getElem?_eq_getElem (List.mem_range.mp hj)]
    exact h _ (List.getElem_mem _)
theorem zat:CallR X (.builtin "isinstance") (fun vs H Q=>∃ x T t k,vs=[x,.ty T]∧TyOf X.K H x t∧PySem.W.kitOne X.K t (.type T)=some k∧Q (.bl k) H):=by
 intro pins s σ H vs us Q I rv h
 obtain⟨x,T,t,k,rfl,ht,hk,q⟩:=h
 obtain⟨u,v,rfl,ru,rv'⟩:=rv.two
 cases (show v=Value.type T from rv')
 exact zhF I ru ht hk fun tk=>⟨.bl k,H,I.tok tk,rfl,q⟩
theorem zlJ (ns ms:List Int):((List.range (min (ns.map V.int).length (ms.map V.int).length)).all (fun j=>eqV ((ns.map V.int).getD j .non) ((ms.map V.int).getD j .non)) && (ns.map V.int).length == (ms.map V.int).length)=decide (ns=ms):=by
 rw[Bool.eq_iff_iff,Bool.and_eq_true,List.all_eq_true,decide_eq_true_iff,beq_iff_eq,List.length_map,List.length_map]
 have at':∀ (l:List Int) (j:Nat) (h:j<l.length),(l.map V.int).getD j .non=.int l[j]:=fun l j h=>by
  rw[List.getD_eq_getElem?_getD,List.getElem?_map,List.getElem?_eq_getElem h];rfl
 constructor
 ·rintro⟨h,e⟩
  refine List.ext_getElem e fun j h1 h2=>?_
  have:=h j (List.mem_range.mpr (by lia))
  rw[at' ns j h1,at' ms j h2]at this
  simpa [eqV] using this
 ·rintro rfl
  refine⟨fun j hj=>?_,rfl⟩
  have hj':j<ns.length:=by have:=List.mem_range.mp hj;lia
  rw[at' ns j hj']
  simp[eqV]
theorem zdX (ns:List Int):(ns.map V.int).all zeN=true:=by
 rw[List.all_map,List.all_eq_true];intro _ _;rfl
end
example (K:PySem.W.Frag):PySem.W.kitOne K (.type "int") (.type "tuple")=some false:=by rfl
example (K:PySem.W.Frag):PySem.W.kitOne K (.type "int") (.type "bool")=some false:=by first|rfl|decide|(with_unfolding_all rfl)
theorem zaa {H:Hp}{p:Addr}(h:H p=none) (o:HO):Same H (upd H p o):=fun b u q=>by rw[zae (zac q h)];exact q
def capB (N N':List Str) (sc scope:Scope) (cap:List (Option Nat)):Bool :=
 decide (scope.kind=.function) && (scope.names.all fun y=>decide (y.2≠.cell) && (decide (y.2≠.local) || decide (scope.names.lookup y.1=some .local)) &&
  (decide (y.2≠.free) || (decide (sc.names.lookup y.1=some .cell) || decide (sc.names.lookup y.1=some .free)))) && decide (cap.length=N'.length) &&
 ((N'.zip cap).all fun p=>match p.2 with
  | none=>true
  | some i=>decide (N[i]?=some p.1) && (decide (scope.names.lookup p.1=some .free) && (decide (sc.names.lookup p.1=some .cell) || decide (sc.names.lookup p.1=some .free))))
theorem CapOk.of {N N':List Str}{sc scope:Scope}{cap:List (Option Nat)}(h:capB N N' sc scope cap=true):CapOk N N' sc scope cap:=by
 unfold capB at h
 simp only[Bool.and_eq_true,List.all_eq_true,Bool.or_eq_true,decide_eq_true_eq]at h
 obtain⟨⟨⟨h1,h2⟩,h3⟩,h4⟩:=h;refine⟨h1,fun y hy=>(h2 y hy).1.1,fun y hy e=>?_,fun y hy e=>?_,h3,fun p hp i e=>?_⟩
 ·rcases (h2 y hy).1.2 with z|z
  ·exact absurd e z
  ·exact z
 ·rcases (h2 y hy).2 with z|z
  ·exact absurd e z
  ·exact z
 ·have q:=h4 p hp
  rw[e]at q
  simp only[Bool.and_eq_true,Bool.or_eq_true,decide_eq_true_eq]at q
  exact q
def Nx (n i:Nat) (p:Prop):Prop:=∃ m',m'<n-i∧m'=n-(i+1)∧i+1≤n∧p
theorem nx {n i:Nat}{p:Prop}(h:i<n) (q:p):Nx n i p:=⟨n-(i+1),by lia,rfl,h,q⟩
theorem zdn {lo:Int}{n:Nat}{g:TG}{te:TE}{l:Addr}{σ:St}{H:Hp}{Q:VK}(Pv:Nat→List V→St→Hp→Prop) (h0:Pv 0 [] σ H) (hl:∀ i acc σ H,Pv i acc σ H→H l=some (.lst acc))
  (hs:∀ i acc σ H,i<n→Pv i acc σ H→g (.int (lo+i)) σ H fun σ3 H3=>te σ3 H3 fun y H5=>H5 l=some (.lst acc)∧acc.length<sizeLine∧Nx n i (Pv (i+1) (acc++[y]) σ3 (upd H5 l (.lst (acc++[y])))))
  (hd:∀ acc σ H,Pv n acc σ H→Q (.ref l) H):∃ W:Nat→Nat→List V→St→Hp→Prop,(∃ m,W 0 m [] σ H)∧LCW (Itr lo n) g tYes te l Q W:=by
 refine⟨fun i m acc σ H=>m=n-i∧i≤n∧Pv i acc σ H,⟨n,by simp,Nat.zero_le _,h0⟩,?_⟩
 rintro i m acc σ H ⟨rfl,hi,p⟩
 refine⟨hl i acc σ H p,?_⟩
 by_cases hlt:i<n
 ·refine .inr ⟨hlt,fun x H2 ⟨e,y⟩=>?_⟩
  subst e y
  exact hs i acc σ _ hlt p
 ·have e:i=n:=by lia
  subst e
  exact .inl ⟨Nat.le_refl _,hd acc σ H p⟩
theorem zls {K:PySem.W.Frag}{b1 b2:Bool}{a1 a2:Addr}{xs ys:List V}(hxy:xs.length=ys.length) {g:TG}{te:TE}{l:Addr}{σ:St}{H:Hp}{Q:VK}(Pv:Nat→List V→St→Hp→Prop) (h0:Pv 0 [] σ H)
  (hl:∀ i acc σ H,Pv i acc σ H→H l=some (.lst acc)∧SqB b1 K H a1 xs∧SqB b2 K H a2 ys)
  (hs:∀ i acc σ H x y T,xs[i]?=some x→ys[i]?=some y→H T=none→Pv i acc σ H→g (.ref T) σ (upd H T (.tup [x,y])) fun σ3 H3=>te σ3 H3 fun z H5=>H5 l=some (.lst acc)∧acc.length<sizeLine∧Nx xs.length i (Pv (i+1) (acc++[z]) σ3 (upd H5 l (.lst (acc++[z])))))
  (hd:∀ acc σ H,Pv xs.length acc σ H→Q (.ref l) H):∃ W:Nat→Nat→List V→St→Hp→Prop,(∃ m,W 0 m [] σ H)∧LCW (Itz K b1 b2 a1 a2) g tYes te l Q W:=by
 refine⟨fun i m acc σ H=>m=xs.length-i∧i≤xs.length∧Pv i acc σ H,⟨xs.length,by simp,Nat.zero_le _,h0⟩,?_⟩
 rintro i m acc σ H ⟨rfl,hi,p⟩
 obtain⟨q0,q1,q2⟩:=hl i acc σ H p
 refine⟨q0,?_⟩
 by_cases hlt:i<xs.length
 ·refine .inr ⟨⟨xs,ys,_,_,q1,q2,List.getElem?_eq_getElem hlt,List.getElem?_eq_getElem (by lia)⟩,fun v H2 ⟨x,y,ex,ey,T,hT,e1,e2⟩=>?_⟩
  subst e1 e2
  exact hs i acc σ H x y T (ex xs q1) (ey ys q2) hT p
 ·have e:i=xs.length:=by lia
  subst e
  exact .inl ⟨⟨xs,q1,rfl⟩,hd acc σ H p⟩
section
variable {X:Cx}
theorem zdN {ns:List Int}{its:List Value}(r:Vals (ns.map V.int) its) {i:Nat}{v:Value}(h:its[i]?=some v):i<ns.length∧∃ t,v=.int (ns.getD i 0) t:=by
 have hl:its.length=ns.length:=by rw[← r.length,List.length_map]
 have hi:=(List.getElem?_eq_some_iff.mp h).1
 have e:(List.map V.int ns)[i]?=some (V.int (ns.getD i 0)):=by
  rw[List.getElem?_map,List.getD_eq_getElem?_getD,List.getElem?_eq_getElem (by lia)];rfl
 obtain⟨u',e',⟨t,rfl⟩⟩:=r.get e
 rw[h]at e'
 exact⟨by lia,t,Option.some.inj e'⟩
theorem zaH {ns:List Int}{i:Nat}(h:i<ns.length):ns.getD i 0∈ns:=by
 rw[List.getD_eq_getElem?_getD,List.getElem?_eq_getElem h];exact List.getElem_mem h
theorem zbF {ns:List Int}{x:Int}(h:x∈ns):∃ i,i<ns.length∧ns.getD i 0=x:=by
 obtain⟨i,hi,e⟩:=List.getElem_of_mem h
 exact⟨i,hi,by rw[List.getD_eq_getElem?_getD,List.getElem?_eq_getElem hi];exact e⟩
theorem call_maxB (hc:X.calm=true) (b:Bool):CallR X (.builtin "max") (fun vs H Q=>∃ a ns,vs=[.ref a]∧SqB b X.K H a (List.map V.int ns)∧0<ns.length∧∀ M,M∈ns→(∀ x∈ns,x≤M)→Q (.int M) H):=by
 intro pins s σ H vs us Q I rv h
 obtain⟨a,ns,rfl,hq,hpos,q⟩:=h
 obtain⟨u,rfl,ru⟩:=rv.one
 cases ru
 obtain⟨its,r,p⟩:=I.sq hq
 obtain⟨o,n,eo,_⟩:=p.ob
 have hl:its.length=ns.length:=by rw[← r.length,List.length_map]
 refine call_max_walk (zbe p ⟨s.heap.objs.size,[s.heap.objs.size,a],[s.heap.objs.size],_,_,_,fun i j=>decide (ns.getD i 0 > ns.getD j 0),rfl,zid (show X.A.in1.handled=none from I.ok.hd hc) b _ a (Nat.ne_of_lt (Heap.lt_size eo)) its.toArray,⟨?_,p.mv fun o e=>Heap.get?_push_of_some _ e⟩,fun c hm=>?_,by rw[List.size_toArray];lia,?_,?_⟩)
 ·cases b<;>exact⟨_,Heap.get?_push_size _ rfl,rfl,rfl⟩
 ·show c<(s.heap.push _).objs.size
  rw[Heap.size_push]
  rcases List.mem_cons.mp hm with z|z
  ·rw[z];exact Nat.lt_succ_self _
  ·rw[List.mem_singleton.mp z];exact Nat.lt_succ_of_lt (Heap.lt_size eo)
 ·intro i j vi vj s' Q' E' hi hj hQ
  obtain⟨_,t,rfl⟩:=zdN r (i:=i) (by simpa using hi)
  obtain⟨_,t',rfl⟩:=zdN r (i:=j) (by simpa using hj)
  exact gt_int hQ
 ·intro v h' tk hv hk
  have best:=argBest_gt (fun i=>ns.getD i 0) (its.toArray.size-1)
  obtain⟨li,t,rfl⟩:=zdN r (by simpa using hv)
  refine⟨.int _,H,I.kept (t':=tk) fun c o e=>hk c o (fun z=>Nat.ne_of_lt (Heap.lt_size e) (List.mem_singleton.mp z)) (Heap.get?_push_of_some _ e),⟨t,rfl⟩,q _ (zaH li) fun x hx=>?_⟩
  obtain⟨j,hj,rfl⟩:=zbF hx
  exact best.2 j (by rw[List.size_toArray];lia)
end
end L2
namespace Own
open PySem PySem.Spec PyProof.Rows
section
variable {prog:Program}{w:World}{A:Around}{E:Value→Shared→Prop}{s:Shared}
end
end Own
namespace L2
open PySem PySem.Spec PyProof.Rows Own
section
variable {X:Cx}
theorem zkE {ns:List Int}{us:List Value}(h:IntsAre us ns):Vals (ns.map V.int) us:=by
 induction h with
 | nil=>exact .nil
 | cons n t _ ih=>exact .cons ⟨t,rfl⟩ ih
theorem zgq:∀ {ns:List Int}{us:List Value},Vals (ns.map V.int) us→IntsAre us ns
 | [],_,.nil=>.nil
 | n::ns,_,.cons ⟨t,e⟩ r=>by subst e;exact .cons n t (zgq r)
def tRev (K:PySem.W.Frag) (te:TE) (ts:TO):TE:=fun σ H Q=>te σ H fun x H1=>ts σ H1 fun o H2=>o=some (-1)∧∃ a xs,x=.ref a∧SqL K H2 a xs∧∀ p,H2 p=none→Q (.ref p) (upd H2 p (.lst xs.reverse))
theorem zlf {e st:Expr}{te:TE}{ts:TO}{p2 pos:Pos}(he:PE X e te) (hs:PO X (some st) ts):PE X (.Subscript e (.Slice none none (some st) p2) pos) (tRev X.K te ts):=by
 intro pins s σ H Q I h
 refine Subscript_ (thn (he pins s σ H _ I h) fun v s1 ⟨x,H1,I1,r1,q1⟩=>wpAny_Slice ?_)
 rw[evalPart_none]
 refine wpAny_pure (wpAny_pure (thn (hs pins s1 σ H1 _ I1 q1) fun vst s2 ⟨o,H2,I2,po,q2⟩=>?_))
 obtain⟨rfl,a,xs,rfl,hq,k⟩:=q2
 cases r1
 have I3:Inv X pins σ H2 { s2 with heap:=s2.heap.push { cls:=.type "slice",data:=.fields #[.none,.none,vst] } }:=I2.kept (t':=s2.toks) fun b ob q=>Heap.get?_push_of_some _ q
 obtain⟨its,r,ht,hz⟩:=I3.list hq
 have hlen:=r.length
 show wpAny (model X.prog X.w) X.A (subscriptTail e (.Slice none none (some st) p2) (.ref a) (.ref s2.heap.objs.size)) (EP X pins σ Q) X.xe { s2 with heap:=s2.heap.push { cls:=.type "slice",data:=.fields #[.none,.none,vst] } }
 refine tail_any (ops:=[.ref a,.ref s2.heap.objs.size]) ht.isList.typeIs slot_list_getitem.lookup (wpAny_getItem_list_slice ht.isList (Heap.IsSliceOf.new ..) .none .none po (by simp) ?_ (by rw[List.size_toArray]<;>lia)) (by with_unfolding_all rfl)
 rw[PySem.W.krv_pick]
 refine⟨.ref _,_,I3.laid (t':=s2.toks) (o:=.lst xs.reverse) (fun b ob q=>Heap.get?_push_of_some _ q) (Nat.le_refl _) ⟨by rw[List.length_reverse];exact hz,_,0,r.reverse,?_⟩,rfl,k _ (I3.hok.fresh (Nat.le_refl _))⟩
 exact Heap.get?_push_size _ rfl
end
section
variable {X:Cx}
theorem op_notB:OpR X (compareOp .IsNot) (fun x y H Q=>∃ c d:Bool,x=.bl c∧y=.bl d∧Q (.bl (!(c == d))) H):=by
 intro pins s σ H x y v u Q I rx ry h
 obtain⟨c,d,rfl,rfl,q⟩:=h
 cases rx;cases ry
 exact wpAny_isNot_plain rfl (zah I q (by cases c<;>cases d<;>rfl))
end
theorem zhy {K:PySem.W.Frag}{a:Addr}{xs:List V}{g:TG}{te:TE}{l:Addr}{σ:St}{H:Hp}{Q:VK}(Pv:Nat→List V→St→Hp→Prop) (h0:Pv 0 [] σ H) (hl:∀ i acc σ H,Pv i acc σ H→H l=some (.lst acc)∧SqT K H a xs)
  (hs:∀ i x acc σ H,xs[i]?=some x→Pv i acc σ H→g x σ H fun σ3 H3=>te σ3 H3 fun y H5=>H5 l=some (.lst acc)∧acc.length<sizeLine∧Nx xs.length i (Pv (i+1) (acc++[y]) σ3 (upd H5 l (.lst (acc++[y])))))
  (hd:∀ acc σ H,Pv xs.length acc σ H→Q (.ref l) H):∃ W:Nat→Nat→List V→St→Hp→Prop,(∃ m,W 0 m [] σ H)∧LCW (Itt K a) g tYes te l Q W:=by
 refine⟨fun i m acc σ H=>m=xs.length-i∧i≤xs.length∧Pv i acc σ H,⟨_,rfl,Nat.zero_le _,h0⟩,?_⟩
 rintro i m acc σ H ⟨rfl,hi,p⟩
 obtain⟨q0,q1⟩:=hl i acc σ H p
 refine⟨q0,?_⟩
 by_cases hlt:i<xs.length
 ·refine .inr ⟨⟨xs,xs[i],q1,List.getElem?_eq_getElem hlt⟩,fun x H2 ⟨e,y⟩=>?_⟩
  subst e
  exact hs i x acc σ _ (y xs q1) p
 ·obtain rfl:i=xs.length:=by lia
  exact .inl ⟨⟨xs,q1,Nat.le_refl _⟩,hd acc σ H p⟩
theorem zkA {K:PySem.W.Frag}{a:Addr}{xs:List V}{g:TG}{te:TE}{l:Addr}{σ:St}{H:Hp}{Q:VK}(Pv:Nat→List V→St→Hp→Prop) (h0:Pv 0 [] σ H) (hl:∀ i acc σ H,Pv i acc σ H→H l=some (.lst acc)∧SqL K H a xs)
  (hs:∀ i x acc σ H,xs[i]?=some x→Pv i acc σ H→g x σ H fun σ3 H3=>te σ3 H3 fun y H5=>H5 l=some (.lst acc)∧acc.length<sizeLine∧Nx xs.length i (Pv (i+1) (acc++[y]) σ3 (upd H5 l (.lst (acc++[y])))))
  (hd:∀ acc σ H,Pv xs.length acc σ H→Q (.ref l) H):∃ W:Nat→Nat→List V→St→Hp→Prop,(∃ m,W 0 m [] σ H)∧LCW (Itl K a) g tYes te l Q W:=by
 refine⟨fun i m acc σ H=>m=xs.length-i∧i≤xs.length∧Pv i acc σ H,⟨_,rfl,Nat.zero_le _,h0⟩,?_⟩
 rintro i m acc σ H ⟨rfl,hi,p⟩
 obtain⟨q0,q1⟩:=hl i acc σ H p
 refine⟨q0,?_⟩
 by_cases hlt:i<xs.length
 ·refine .inr ⟨⟨xs,xs[i],q1,List.getElem?_eq_getElem hlt⟩,fun x H2 ⟨e,y⟩=>?_⟩
  subst e
  exact hs i x acc σ _ (y xs q1) p
 ·obtain rfl:i=xs.length:=by lia
  exact .inl ⟨⟨xs,q1,Nat.le_refl _⟩,hd acc σ H p⟩
theorem zhz {lo:Int}{n:Nat}{g:TG}{tt:TT}{te:TE}{l:Addr}{σ:St}{H:Hp}{Q:VK}(Pv:Nat→List V→St→Hp→Prop) (h0:Pv 0 [] σ H) (hl:∀ i acc σ H,Pv i acc σ H→H l=some (.lst acc))
  (hs:∀ i acc σ H,i<n→Pv i acc σ H→g (.int (lo+i)) σ H fun σ3 H3=>tt σ3 H3 fun b H4=>if b=true then te σ3 H4 fun y H5=>H5 l=some (.lst acc)∧acc.length<sizeLine∧Nx n i (Pv (i+1) (acc++[y]) σ3 (upd H5 l (.lst (acc++[y])))) else Nx n i (Pv (i+1) acc σ3 H4))
  (hd:∀ acc σ H,Pv n acc σ H→Q (.ref l) H):∃ W:Nat→Nat→List V→St→Hp→Prop,(∃ m,W 0 m [] σ H)∧LCW (Itr lo n) g tt te l Q W:=by
 refine⟨fun i m acc σ H=>m=n-i∧i≤n∧Pv i acc σ H,⟨_,rfl,Nat.zero_le _,h0⟩,?_⟩
 rintro i m acc σ H ⟨rfl,hi,p⟩
 refine⟨hl i acc σ H p,?_⟩
 by_cases hlt:i<n
 ·refine .inr ⟨hlt,fun x H2 ⟨e,y⟩=>?_⟩
  subst e y
  exact hs i acc σ _ hlt p
 ·obtain rfl:i=n:=by lia
  exact .inl ⟨Nat.le_refl _,hd acc σ H p⟩
end L2
namespace L2
open PySem PySem.Spec PyProof.Rows PySem.Calls PySem.NumText Own
theorem zeG {M:Model}{K:PySem.W.Frag}{h:Heap}(X:K.In h) (e:PySem.W.nsIn K cStatics "sys.int_max_str_digits" = some none):PySem.W.Looks M h Builtin.intMaxStrDigits 4300:=by
 show PySem.W.Looks M h (nsGet cStatics "sys.int_max_str_digits" >>= _) 4300
 exact(PySem.W.looks_nsIn X e).andThen .now
theorem zjy {M:Model}{A:Around}{E:Value→Shared→Prop}{s:Shared}{Q:Value→Shared→Prop}{v:Value}{text:List Nat}{n:Int}
  (hl:PySem.W.Looks M s.heap Builtin.intMaxStrDigits 4300) (hs:¬(text.takeWhile (· != 0)).length≤640) (hr:(int_private% "readNumeral") 4300 10 (text.takeWhile (· != 0))=(int_private% "Numeral.value") n)
  (ha:((text.takeWhile (· != 0)).length == text.length)=true) (h:Q (.int n s.toks) { s with toks:=s.toks+1 }):wpAny M A ((int_private% "intFromText") v text 10) Q E s:=by
 cases s
 repeat (any_goals (first|assumption|(with_reducible refine wpAny_ite_false (decide_eq_false hs) ?_)|((with_reducible show wpAny _ _ Builtin.intMaxStrDigits _ _ _);refine PySem.W.Looks.at hl ?_)|wp_step))
 all_goals (try (rw[hr];dsimp only))
 repeat (any_goals (first|assumption|(with_reducible refine wpAny_ite_true (by rw[ha];rfl) ?_)|wp_step))
theorem zfR {K:PySem.W.Frag}{x:Str}{u:Tok}{n:Int}(e:PySem.W.nsIn K cStatics "sys.int_max_str_digits" = some none) (hl:x.length≤4300) (h6:¬(numSeenOf x).length≤640) (hn:intText? x=some n) :
  Meets (Builtin.«int.__new__» ⟨[.type "int",.str x u],[]⟩) (fun _ R s=>K.In s.heap∧R (.ok (.ret (.int n s.toks))) { s with toks:=s.toks+1 }) :=
 .of_wp fun prog w A R s h=>by
  cases s with
  | mk hp gs dr tk os =>
  obtain⟨KX,h⟩:=h
  have kinds:=And.intro PySem.W.KIN.str_int (And.intro PySem.W.KIN.str_idx PySem.W.KIN.str_trunc)
  obtain⟨k1,k2,k3⟩:=kinds
  have k4:=F.conv_sub_int;have k5:=F.madeHere_int
  have ofText:typeOf (.str x u)=pure (.type "str"):=rfl
  have lk:PySem.W.Looks (model prog w) hp Builtin.intMaxStrDigits 4300:=zeG KX e
  have rd:(int_private% "readNumeral") 4300 10 (numSeenOf x)=(int_private% "Numeral.value") n∧((numSeenOf x).length == (numTextOf x).length)=true:=by
   rcases read4300 x (Nat.le_trans hl (by decide)) with ⟨m,g1,g2,g3⟩|⟨g1,_⟩
   ·rw[hn]at g1;cases g1;exact⟨g3,g2⟩
   ·rw[hn]at g1;cases g1
  have all4:=PySem.W.KIN.Hid.mk (And.intro lk (And.intro h6 rd))
  clear lk h6 rd hl hn e KX
  repeat (any_goals (first|assumption|((with_reducible show wpAny _ _ ((int_private% "intFromText") _ _ _) _ _ _);refine zjy all4.out.1 all4.out.2.1 all4.out.2.2.1 all4.out.2.2.2 ?_)|wp_step))
  all_goals (first|exact Exists.intro _ (And.intro rfl h)|skip)
section
variable {X:Cx}
theorem zd5 (e:PySem.W.nsIn X.K cStatics "sys.int_max_str_digits" = some none):CallR X (.type "int") (fun vs H Q=>∃ x:Str,vs=[.str x]∧AllDigits x.cps.toList∧640<x.length∧x.length≤4300∧Q (.int (digitsVal x.cps.toList:Nat)) H):=by
 intro pins s σ H vs us Q I rv h
 obtain⟨x,rfl,hd,h6,h43,q⟩:=h
 obtain⟨u,rfl,t,rfl⟩:=rv.one
 have xl:x.cps.toList.length=x.length:=by simp[Str.length]
 have ne:x.cps.toList≠[]:=fun z=>by rw[z]at xl;simp at xl;lia
 have hn:=intText_digits hd ne h43
 have seen:(numSeenOf x).length=x.length:=by
  rcases read4300 x (Nat.le_trans h43 (by decide)) with ⟨m,g1,g2,g3⟩|⟨g1,_⟩
  ·have a128:x.cps.all (· < 128)=true:=by
    rw[← Array.all_toList];refine List.all_eq_true.mpr fun c hc=>?_
    have:=(hd c hc).2
    exact decide_eq_true (show c<128 by lia)
   have g2':=eq_of_beq g2
   rw[g2']
   show (if x.cps.all (· < 128)=true then x.cps.toList else _).length=_
   rw[if_pos a128,xl]
  ·rw[hn]at g1;cases g1
 exact call_int_1 (zfR (K:=X.K) e h43 (by lia) hn) ⟨I.kIn,(typeIs_int _ _ _),.int _,H,I.tok _,⟨_,rfl⟩,q⟩
theorem zj9:OpR X (binaryOp .Mult) (fun x y H Q=>∃ (c:Nat) (n:Int),x=.str ⟨#[c]⟩∧y=.int n∧0≤n∧n≤100000∧∀ z:Str,z.cps.toList=List.replicate n.toNat c→Q (.str z) H):=by
 intro pins s σ H x y v u Q I rx ry h
 obtain⟨c,n,rfl,rfl,n0,n1,q⟩:=h
 obtain⟨t,rfl⟩:=rx
 obtain⟨t',rfl⟩:=ry
 have one:(⟨#[c]⟩:Str).length=1:=rfl
 refine PySem.P.mul_str (by rw[decide_eq_false (by lia),decide_eq_false (by lia)];rfl) (fun a b=>?_) (fun a b=>?_) ?_
 ·rw[one]
  have:(1:Int)≤(2 ^ 63-1) / n:=by
   rw[Int.le_ediv_iff_mul_le (by lia)];lia
  lia
 ·rw[one]
  exact decide_eq_false (by have:=sizeLine_eq;lia)
 ·by_cases a:n<1
  ·rw[if_pos a]
   have e:n=0:=by lia
   subst e
   exact⟨by decide,.str _,H,I.tok _,⟨_,rfl⟩,q _ rfl⟩
  ·rw[if_neg a]
   by_cases b:n=1
   ·subst b
    rw[if_pos (show ((1:Int) == 1 || (⟨#[c]⟩:Str).length == 0)=true from rfl)]
    exact⟨.str _,H,I,⟨_,rfl⟩,q _ rfl⟩
   ·have nb:¬(n == 1 || (⟨#[c]⟩:Str).length == 0)=true:=by simp[b,one]
    rw[if_neg nb]
    have lst:∀ (k:Nat) (acc:Array Nat),((List.replicate k #[c]).foldl (·++·) acc).toList=acc.toList++List.replicate k c:=fun k=>by
     induction k with
     | zero=>intro acc;simp
     | succ k ih=>intro acc;rw[List.replicate_succ,List.foldl_cons,ih,List.replicate_succ];simp
    have l0:=lst n.toNat #[]
    refine⟨?_,.str _,H,I.tok _,⟨_,rfl⟩,q _ (by rw[l0];rfl)⟩
    have ln:=congrArg List.length l0
    simp only[Array.length_toList,List.length_append,List.length_replicate]at ln
    show (Array.size _)≤sizeLine
    rw[ln]
    have:=sizeLine_eq
    simp
    lia
end
end L2
namespace L2
open PySem PySem.Spec PyProof.Rows Own
section
variable {prog:Program}{w:World}{A:Around}{E:Value→Shared→Prop}{s:Shared}
theorem zeQ {Q:List Value→Shared→Prop}{r:Addr}{a b c:Int}{t u v:Tok}{n:Nat}(hh:A.handled=none) (hr:IsRange s.heap r a b c t u v) (sm:Builtin.Range.small a b c=true) (hn:Builtin.Range.rangeSize a b c=n) (hlen:n≤2 ^ 24)
  (q:∀ (h':Heap) (tk:Nat) (acc:Array Value),(∀ b o,s.heap.get? b=some o→h'.get? b=some o)→ItemsOf (fun i v=>∃ t,v=.int (a+i*c) t) acc n→Q acc.toList { s with heap:=h',toks:=tk }):wpAny (model prog w) A (collect (.ref r)) Q E s:=by
 have key:∀ R:Result→Shared→Prop,(∀ (h':Heap) (tk:Nat) (acc:Array Value) (c':Nat),(∀ b o,s.heap.get? b=some o→h'.get? b=some o)→h'.get? s.heap.objs.size=some { cls:=.type "list",data:=.seq acc c' }→ItemsOf (fun i v=>∃ t,v=.int (a+i*c) t) acc n→R (.ok (.ret (.ref s.heap.objs.size))) { s with heap:=h',toks:=tk }) →
   codeAny (model prog w) A (.builtin "proto.collect" ⟨[.ref r],[]⟩) R s:=by
  intro R hR
  have u1:=fun z=>Around.under_plainId (A:=A) F.plain_proto_collect z
  have u2:=fun z=>Around.under_plainId (A:=A) F.plain_list_iadd z
  refine codeAny_builtin F.entry_proto_collect ?_
  rw[u1]
  refine wpAny_bind (m:=newList []) (wpAny_newObj_type (wpAny_pure ⟨plainId_quiet F.plain_list_iadd _,codeAny_builtin F.entry_list_iadd ?_⟩))
  rw[u2]
  have e0:(s.heap.push { cls:=.type "list",data:=.seq ([]:List Value).toArray }).get? s.heap.objs.size=some { cls:=.type "list",data:=.seq #[] 0 }:=Heap.get?_push_size _ rfl
  exact wpAny_extend_range (s:={ s with heap:=s.heap.push { cls:=.type "list",data:=.seq ([]:List Value).toArray } }) hh (Heap.get?_push_of_some _ hr) sm hn hlen s.heap.objs.size (.ref s.heap.objs.size) _ e0 fun h' tk acc' c' kk e it=>hR h' tk acc' c' (fun b o z=>kk b o (Nat.ne_of_lt (Heap.lt_size z)) (Heap.get?_push_of_some _ z)) e it
 unfold collect
 exact wpAny_bind (wpAny_runValue (key _ fun h' tk acc c' kk e it=>wpAny_bind (m:=load s.heap.objs.size) (wpAny_load e (wpAny_pure (q h' tk acc kk it)))))
theorem zdk (r:Addr) (a b c:Int) (t u v:Tok) (n:Nat) (sm:Builtin.Range.small a b c=true) (hn:Builtin.Range.rangeSize a b c=n) (hlen:n≤2 ^ 24) :
  Meets (Builtin.«tuple.__new__» ⟨[.type "tuple",.ref r],[]⟩) (fun A R s=>A.handled=none∧IsRange s.heap r a b c t u v∧∀ (h':Heap) (tk:Nat) (acc:Array Value),(∀ b o,s.heap.get? b=some o→h'.get? b=some o)→ItemsOf (fun i v=>∃ t,v=.int (a+i*c) t) acc n →
   R (.ok (.ret (.ref h'.objs.size))) { s with heap:=h'.push { cls:=.type "tuple",data:=.seq acc },toks:=tk }) :=
 .of_wp fun prog w A R s h=>by
  obtain⟨hh,hr,h⟩:=h
  have g1:=sub_tuple_self
  have g2:=init_tuple_lookup
  have g3:=madeHere_tuple
  have g4:s.TypeIs (.ref r) "range":=⟨_,hr,rfl⟩
  have g5:A.in1.handled=none:=hh
  wp_walk using wpAny_typeOf g4,zeQ g5 hr sm hn hlen
  intro h' tk acc kk it
  rw[show acc.toList.toArray=acc by simp]
  exact wpAny_bind (m:=Builtin.Tuple.tupleExact acc) (wpAny_newObj_type (wpAny_pure ⟨_,rfl,h h' tk acc kk it⟩) (by show acc.size≤sizeLine;rw[it.1,sizeLine_eq];exact hlen))
theorem zd3 {Q:Value→Shared→Prop}{r:Addr}{a b c:Int}{t u v:Tok}{n:Nat}(hh:A.handled=none) (hr:IsRange s.heap r a b c t u v) (sm:Builtin.Range.small a b c=true) (hn:Builtin.Range.rangeSize a b c=n) (hlen:n≤2 ^ 24)
  (q:∀ (h':Heap) (tk:Nat) (acc:Array Value),(∀ b o,s.heap.get? b=some o→h'.get? b=some o)→ItemsOf (fun i v=>∃ t,v=.int (a+i*c) t) acc n→Q (.ref h'.objs.size) { s with heap:=h'.push { cls:=.type "tuple",data:=.seq acc },toks:=tk }) :
  wpAny (model prog w) A (call (.type "tuple") [.ref r]) Q E s :=
 callType_new F.called_tuple (by decide) (F.typeCall_tuple_1 _) (F.newCall_tuple_1 _) (fun obj=>F.args_object_init_2 obj _) F.entry_tuple_new (zdk r a b c t u v n sm hn hlen) ⟨hh,hr,fun h' tk acc kk it=>⟨⟨_,Heap.get?_push_size _ rfl,rfl⟩,q h' tk acc kk it⟩⟩
end
def upTo (n:Nat):List V:=(List.range n).map fun (i:Nat)=>V.int i
theorem zbv {acc:Array Value}{n:Nat}(h:ItemsOf (fun i v=>∃ t,v=Value.int (0+i*1) t) acc n):Vals (upTo n) acc.toList:=by
 obtain⟨h1,h2⟩:=h
 have go:∀ (l:List Value) (k:Nat),(∀ (j:Nat) (v:Value),l[j]?=some v→∃ t,v=Value.int ((k+j:Nat):Int) t)→Vals ((List.range l.length).map fun (i:Nat)=>V.int ((k+i:Nat):Int)) l:=by
  intro l
  induction l with
  | nil=>intro k _;exact .nil
  | cons x l ih =>
   intro k hx
   rw[List.length_cons,List.range_succ_eq_map,List.map_cons,List.map_map]
   refine .cons (by obtain⟨t,e⟩:=hx 0 x rfl;exact⟨t,e⟩) ?_
   have:=ih (k+1) fun j v hj=>by
    obtain⟨t,e⟩:=hx (j+1) v (by simpa using hj)
    exact⟨t,by rw[e];congr 1;lia⟩
   refine cast (congrArg (fun z=>Vals z l) (List.map_congr_left fun i _=>?_)) this
   show V.int ((k+1+i:Nat):Int)=V.int ((k+(i+1):Nat):Int)
   congr 2;lia
 have:=go acc.toList 0 fun j v hj=>by
  obtain⟨t,e⟩:=h2 j v (by simpa using hj)
  exact⟨t,by rw[e];congr 1;lia⟩
 rw[Array.length_toList,h1]at this
 unfold upTo
 refine cast (congrArg (fun z=>Vals z acc.toList) (List.map_congr_left fun i _=>?_)) this
 show V.int ((0+i:Nat):Int)=V.int (i:Int)
 rw[Nat.zero_add]
theorem zeV (n:Nat):(upTo n).length=n:=by simp[upTo]
section
variable {X:Cx}
def zje (b:Bool) (ta:TA):TE:=fun σ H Q=>ta σ H fun vs H1=>∃ j:Nat,vs=[.int j]∧j≤100000∧∀ l,H1 l=none→Q (.ref l) (upd H1 l (if b=true then .lst (upTo j) else .tup (upTo j)))
theorem ze4 {j:Nat}(h:j≤100000):Builtin.Range.small 0 (j:Int) 1=true:=small_one (by lia) (by lia) (by lia) (by lia)
theorem zgG {j:Nat}:Builtin.Range.rangeSize 0 (j:Int) 1=((j:Nat):Int):=by rw[rangeSize_one];split<;>lia
theorem zg9 {a:Expr}{ta:TA}{p p2 pos pos2:Pos}(hc:X.calm=true) (hgl:Gl X "list") (hml:X.mg "list" = none) (hgr:Gl X "range") (hmr:X.mg "range" = none) (ha:PA X [a] ta) (hs:starEach [a] X.env=[(false,eval a X.env)]:=by rfl)
  (hs2:starEach [.Call (.Name "range" p2) [a] [] pos2] X.env=[(false,eval (.Call (.Name "range" p2) [a] [] pos2) X.env)]:=by rfl):PE X (.Call (.Name "list" p) [.Call (.Name "range" p2) [a] [] pos2] [] pos) (zje true ta):=by
 intro pins s σ H Q I h
 refine wpAny_Call_Name_kw (zaA I hgl hml (u:=.type "list") (by rfl) (PyProof.Rows.callWith_type1 ?_ hs2 rfl))
 rw[hs2]
 refine Calls.spliced_cons (Call_ (zaA I hgr hmr boot_range (PyProof.Rows.callWith_type1 (thn (ha pos2 pins s σ H _ I h) fun us s1 ⟨vs,H1,I1,r1,q1⟩=>?_) hs rfl)))
 obtain⟨j,rfl,hj,q⟩:=q1
 obtain⟨u,rfl,t,rfl⟩:=r1.one
 refine call_range_1 (Calls.spliced_nil ?_)
 refine call_list_range (n:=j) (I1.ok.hd hc) (IsRange.new ..) (ze4 hj) zgG (Nat.le_trans hj (by decide)) fun h' tk acc' c' kk e it=>?_
 have k2:∀ b o,s1.heap.get? b=some o→h'.get? b=some o:=fun b o z=>kk b o (Heap.get?_push_of_some _ z)
 refine⟨.ref _,_,I1.laid (t':=tk) (o:=.lst (upTo j)) k2 ?_ ⟨by rw[zeV];exact Nat.le_trans hj (by decide),acc'.toList,c',zbv it,by simpa using e⟩,rfl,q _ (I1.hok.fresh ?_)⟩
 all_goals (show s1.heap.objs.size≤(s1.heap.push _).objs.size;rw[Heap.size_push];exact Nat.le_succ _)
theorem pe_tupRng {a:Expr}{ta:TA}{p p2 pos pos2:Pos}(hc:X.calm=true) (hgl:Gl X "tuple") (hml:X.mg "tuple" = none) (hgr:Gl X "range") (hmr:X.mg "range" = none) (ha:PA X [a] ta) (hs:starEach [a] X.env=[(false,eval a X.env)]:=by rfl)
  (hs2:starEach [.Call (.Name "range" p2) [a] [] pos2] X.env=[(false,eval (.Call (.Name "range" p2) [a] [] pos2) X.env)]:=by rfl):PE X (.Call (.Name "tuple" p) [.Call (.Name "range" p2) [a] [] pos2] [] pos) (zje false ta):=by
 intro pins s σ H Q I h
 refine wpAny_Call_Name_kw (zaA I hgl hml (u:=.type "tuple") (by rfl) (PyProof.Rows.callWith_type1 ?_ hs2 rfl))
 rw[hs2]
 refine Calls.spliced_cons (Call_ (zaA I hgr hmr boot_range (PyProof.Rows.callWith_type1 (thn (ha pos2 pins s σ H _ I h) fun us s1 ⟨vs,H1,I1,r1,q1⟩=>?_) hs rfl)))
 obtain⟨j,rfl,hj,q⟩:=q1
 obtain⟨u,rfl,t,rfl⟩:=r1.one
 refine call_range_1 (Calls.spliced_nil ?_)
 refine zd3 (n:=j) (I1.ok.hd hc) (IsRange.new ..) (ze4 hj) zgG (Nat.le_trans hj (by decide)) fun h' tk acc kk it=>?_
 have k2:∀ b o,s1.heap.get? b=some o→h'.get? b=some o:=fun b o z=>kk b o (Heap.get?_push_of_some _ z)
 have I2:Inv X pins σ H1 { s1 with heap:=h',toks:=tk }:=I1.kept k2
 refine⟨.ref h'.objs.size,_,I2.laid (t':=tk) (o:=.tup (upTo j)) (fun b o e=>Heap.get?_push_of_some _ e) (Nat.le_refl _) ⟨by rw[zeV];exact Nat.le_trans hj (by decide),acc.toList,zbv it,?_⟩,rfl,q _ (I2.hok.fresh (Nat.le_refl _))⟩
 exact⟨_,Heap.get?_push_size _ rfl,rfl,0,by simp,rfl⟩
def insF (i:Nat) (y:Value):Array Value→Array Value:=fun xs=>(xs.extract 0 (if (i:Int)<0 then ((i:Int)+(xs.size:Int)).toNat else min (i:Int).toNat xs.size)).push y++xs.extract (if (i:Int)<0 then ((i:Int)+(xs.size:Int)).toNat else min (i:Int).toNat xs.size)
theorem zhJ (l:Addr) (its:List Value) (n i:Nat) (t:Tok) (y:Value) (h:i≤its.length) (hz:its.length<100000):Meets (Builtin.«list.insert» ⟨[.ref l,.int i t,y],[]⟩) (fun _ R s=>s.heap.get? l=some { cls:=.type "list",data:=.seq its.toArray n } ∧
  R (.ok (.ret .none)) { s with heap:=s.heap.update l (Obj.mapSeq (insF i y)),toks:=s.toks }):=by
 have fi:¬(!Builtin.List.listFitsIndex (i:Int))=true:=by rw[fitsIndex_both (by lia) (by lia)];exact Bool.false_ne_true
 have h2:its.toArray.size≤sizeLine:=by rw[List.size_toArray,sizeLine_eq];lia
 exact @AutoSeq1.list_insert_list_int_val_1 l its.toArray n (i:Int) t y fi h2
theorem zkG (its:List Value) (i:Nat) (y:Value) (h:i≤its.length):insF i y its.toArray=(its.take i++y::its.drop i).toArray:=by
 unfold insF
 have k1:(if (i:Int)<0 then ((i:Int)+(its.toArray.size:Int)).toNat else min (i:Int).toNat its.toArray.size)=i:=by
  rw[if_neg (by lia),Int.toNat_natCast,List.size_toArray];lia
 rw[k1]
 apply Array.ext'
 simp
 rw[List.take_of_length_le];simp
def zj0:V→List V→Hp→VK→Prop:=fun x vs H Q=>∃ l xs y,∃ i:Nat,x=.ref l∧vs=[.int i,y]∧H l=some (.lst xs)∧i≤xs.length∧xs.length<100000∧Q .non (upd H l (.lst (xs.take i++y::xs.drop i)))
theorem mt_insert:MtM X "list.insert" zj0:=by
 intro pins s σ H x vs v us Q I rx rv h
 obtain⟨l,xs,y,i,rfl,rfl,hH,hi,hz,q⟩:=h
 cases rx
 obtain⟨u1,u2,rfl,⟨t,rfl⟩,r2⟩:=rv.two
 obtain⟨z,its,n,r,hl,e⟩:=I.lstM hH
 refine call_meets F.slot_list_insert ⟨_,e,rfl⟩ F.entry_list_insert (F.args_list_insert_3 _ _ _) (@zhJ l its n i t u2 (by lia) (by lia)) ⟨e,?_⟩
 refine⟨.non,_,I.lset (its':=its.take i++u2::its.drop i) hH e (zkG its i u2 (by lia)) ((r.take i).append (.cons r2 (r.drop i))) ?_,rfl,q⟩
 rw[List.length_append,List.length_cons,List.length_take,List.length_drop,sizeLine_eq];lia
theorem op_neE (hu:X.A.units<cLine):OpR X (compareOp .NotEq) (fun x y H Q=>∃ a b xs,x=.ref a∧y=.ref b∧SqL X.K H a xs∧SqL X.K H b []∧Q (.bl (!xs.isEmpty)) H):=by
 intro pins s σ H x y v u Q I rx ry h
 obtain⟨a,b,xs,rfl,rfl,ha,hb,q⟩:=h
 cases rx;cases ry
 obtain⟨its,r1,p1,_⟩:=I.list ha
 obtain⟨jts,r2,p2,_⟩:=I.list hb
 cases r2
 have l1:=r1.length
 cases xs with
 | nil =>
  cases r1
  exact SeqAt.RcNeAt.lists (e:=fun _=>true) p1.isList p2.isList rfl hu (fun j h=>absurd h (Nat.not_lt_zero _)) X.prog X.w _ _ ⟨.bl _,H,I,rfl,q⟩
 | cons z zs =>
  exact SeqAt.RcNeAt.lists_lengths p1.isList p2.isList (by rw[List.size_toArray,← l1];simp) hu X.prog X.w _ _ ⟨.bl _,H,I,rfl,q⟩
end
section
variable {prog:Program}{w:World}{A:Around}{E:Value→Shared→Prop}{s:Shared}
theorem zec {sl:Addr}{t:Tok}{Q:Int × Int × Nat→Shared→Prop}(hs:s.heap.IsSliceOf sl .none .none (.int (-1) t)) (h:Q (1,-1,2) s):wpAny (model prog w) A (Builtin.Slice.sliceApplied (.ref sl) (pure (2:Int))) Q E s:=by
 obtain⟨os,hos,hcs,hds⟩:=id hs
 unfold Builtin.Slice.sliceApplied Builtin.Slice.sliceFields
 refine wpAny_bind (wpAny_bind (wpAny_field hos hds (x:=.none) rfl (wpAny_bind (wpAny_field hos hds (x:=.none) rfl (wpAny_bind (wpAny_field hos hds (x:=.int (-1) t) rfl (wpAny_pure ?_)))))))
 refine wpAny_bind (slicePart_int ?_)
 show wpAny _ _ (if ((-1:Int) == 0)=true then _ else _) _ _ s
 rw[if_neg (by decide)]
 refine wpAny_bind (slicePart_none (wpAny_bind (slicePart_none (wpAny_bind (wpAny_pure ?_)))))
 show wpAny _ _ (match Builtin.Slice.sliceAdjust none none (-1) (2:Int) with|(lo,hi)=>pure (lo,(-1:Int),Builtin.Slice.slicePlaces lo hi (-1))) _ _ s
 have e:Builtin.Slice.sliceAdjust none none (-1) (2:Int)=(1,-1):=by decide
 rw[e]
 have e2:Builtin.Slice.slicePlaces (1:Int) (-1) (-1)=2:=by decide
 show wpAny _ _ (pure ((1:Int),(-1:Int),Builtin.Slice.slicePlaces (1:Int) (-1) (-1))) _ _ s
 rw[e2]
 exact wpAny_pure h
theorem zdU {t sl:Addr}{x y:Value}{tk:Tok}{Q:Value→Shared→Prop}(ht:IsTup s.heap t #[x,y]) (hs:s.heap.IsSliceOf sl .none .none (.int (-1) tk)) (h:Q (.ref s.heap.objs.size) { s with heap:=s.heap.push { cls:=.type "tuple",data:=.seq #[y,x] } }) :
  wpAny (model prog w) A (getItem (.ref t) (.ref sl)) Q E s:=by
 obtain⟨os,hos,hcs,hds⟩:=id hs
 have hTs:s.TypeIs (.ref sl) "slice":=⟨os,hos,hcs⟩
 unfold getItem
 try with_reducible refine wpAny_holding ?_
 first|refine wpAny_bind (wpAny_pure ?_)|skip
 refine wpAny_bind (wpAny_sequenceKey ht.typeIs (by decide) (wpAny_bind (wpAny_callSpecial?_slot (name:=Str.ofString "__getitem__") ht.typeIs PyProof.Rows.slot_tuple_getitem (wpAny_call_entry PyProof.Rows.slot_tuple_getitem ht.typeIs PyProof.Rows.entry_tuple_getitem ?_ (PyProof.Rows.args_tuple_getitem _ _)))))
 show wpAny _ _ (Builtin.Tuple.tupleItemsOf (.ref t) >>= _) _ _ s
 refine wpAny_bind (tupleItemsOf_ ht (wpAny_bind (wpAny_typeOf hTs ?_)))
 rw[if_pos (by decide)]
 refine wpAny_bind (zec hs ?_)
 show wpAny _ _ (if ((1:Int) == 0 && (-1:Int) == 1 && (2:Nat) == 2)=true then _ else _) _ _ s
 rw[if_neg (by decide)]
 have pk:((List.range 2).filterMap fun (k:Nat)=>(#[x,y]:Array Value)[((1:Int)+(k:Int)*(-1)).toNat]?).toArray = #[y,x]:=rfl
 rw[pk]
 first
  | exact wpAny_bind (m:=Builtin.Tuple.tupleExact _) (wpAny_newObj_type (wpAny_pure ⟨_,rfl,wpAny_pure h⟩) (by show 2≤sizeLine;decide))
  | exact wpAny_bind (m:=Builtin.Tuple.tupleExact _) (wpAny_newObj_type (wpAny_bind (wpAny_pure (wpAny_pure ⟨_,rfl,wpAny_pure h⟩))) (by show 2≤sizeLine;decide))
  | exact wpAny_bind (wpAny_bind (m:=Builtin.Tuple.tupleExact _) (wpAny_newObj_type (wpAny_pure (wpAny_pure ⟨_,rfl,wpAny_pure h⟩)) (by show 2≤sizeLine;decide)))
  | exact wpAny_bind (wpAny_bind (m:=Builtin.Tuple.tupleExact _) (wpAny_newObj_type (wpAny_pure ⟨_,rfl,wpAny_pure h⟩) (by show 2≤sizeLine;decide)))
end
section
variable {X:Cx}
def zlR (K:PySem.W.Frag) (te:TE) (ts:TO):TE:=fun σ H Q=>te σ H fun x H1=>ts σ H1 fun o H2=>o=some (-1)∧∃ a u v,x=.ref a∧SqT K H2 a [u,v]∧∀ p,H2 p=none→Q (.ref p) (upd H2 p (.tup [v,u]))
theorem zj8 {e st:Expr}{te:TE}{ts:TO}{p2 pos:Pos}(he:PE X e te) (hs:PO X (some st) ts):PE X (.Subscript e (.Slice none none (some st) p2) pos) (zlR X.K te ts):=by
 intro pins s σ H Q I h
 refine Subscript_ (thn (he pins s σ H _ I h) fun v s1 ⟨x,H1,I1,r1,q1⟩=>wpAny_Slice ?_)
 rw[evalPart_none]
 refine wpAny_pure (wpAny_pure (thn (hs pins s1 σ H1 _ I1 q1) fun vst s2 ⟨o,H2,I2,po,q2⟩=>?_))
 obtain⟨rfl,a,u1,u2,rfl,hq,k⟩:=q2
 cases r1
 obtain⟨t,rfl⟩:∃ t,vst=.int (-1) t:=by cases po;exact⟨_,rfl⟩
 have I3:Inv X pins σ H2 { s2 with heap:=s2.heap.push { cls:=.type "slice",data:=.fields #[.none,.none,.int (-1) t] } }:=I2.kept (t':=s2.toks) fun b ob q=>Heap.get?_push_of_some _ q
 obtain⟨its,r,ht,hz⟩:=I3.tuple hq
 obtain⟨w1,w2,rfl,g1,g2⟩:=r.two
 show wpAny (model X.prog X.w) X.A (subscriptTail e (.Slice none none (some st) p2) (.ref a) (.ref s2.heap.objs.size)) (EP X pins σ Q) X.xe { s2 with heap:=s2.heap.push { cls:=.type "slice",data:=.fields #[.none,.none,.int (-1) t] } }
 refine tail_any (ops:=[.ref a,.ref s2.heap.objs.size]) ht.typeIs PyProof.Rows.slot_tuple_getitem.lookup (zdU ht (Heap.IsSliceOf.new ..) ?_) (by with_unfolding_all rfl)
 exact⟨.ref _,_,I3.laid (t':=s2.toks) (o:=.tup [u2,u1]) (fun b ob q=>Heap.get?_push_of_some _ q) (Nat.le_refl _) ⟨by show 2≤sizeLine;decide,[w2,w1],.cons g2 (.cons g1 .nil),TupX.new _ _⟩,rfl,k _ (I3.hok.fresh (Nat.le_refl _))⟩
end
section
variable {X:Cx}
end
theorem zeD:fillsNumberSlot (.type "tuple") "mul" = pure false :=
 PySem.fillsNumberSlot_seq (id:="tuple.__mul__") (r:=some (.builtin "tuple.__rmul__")) F.slot_tuple_mul.lookup (by decide +kernel) F.slot_tuple_rmul.lookup (by decide +kernel)
theorem zfI:seqRepeat? (.type "tuple")=pure (some (.builtin "tuple.__mul__")):=by
 unfold seqRepeat?;rw[PySem.seqSlot_of (T:="tuple") (name:="__mul__") (id:="tuple.__mul__") F.slot_tuple_mul.lookup (by decide +kernel),PySem.seqSlot_of (T:="tuple") (name:="__rmul__") (id:="tuple.__rmul__") F.slot_tuple_rmul.lookup (by decide +kernel)];rfl
theorem zi5 (a:Int) (t:Tok) (l:Addr) (dd:Option Addr) (sl:Array (Option Value)) (items:Array Value) (n:Nat) :
  Meets (Builtin.«int.__rmul__» ⟨[.int a t,.ref l],[]⟩) (fun _ R s=>s.heap.get? l=some { cls:=.type "tuple",dict:=dd,data:=.seq items n,slots:=sl }∧R (.ok (.ret Value.notImplemented)) s) :=
 .of_wp fun prog w A R s h=>by
  cases s;obtain⟨hl,h⟩:=h
  wp_walk using AutoSeq1.wpAny_loadPart' hl
  exact⟨_,rfl,h⟩
section
variable {X:Cx}
end
end L2
namespace Bn
open PySem L2 Own
def Tups (H H':Hp):Prop:=∀ a xs,H a=some (.tup xs)→H' a=some (.tup xs)
theorem Tups.trans {H H1 H2:Hp}(x:Tups H H1) (y:Tups H1 H2):Tups H H2:=fun a xs e=>y a xs (x a xs e)
theorem Tups.of {H H':Hp}(s:Same H H'):Tups H H':=fun a _ e=>s a _ e
theorem Tups.lst {H:Hp}{l:Addr}{xs ys:List V}(h:H l=some (.lst xs)):Tups H (upd H l (.lst ys)):=fun a zs e=>by
 rw[zae (by rintro rfl;rw[h]at e;cases e)];exact e
def But (l:Addr) (H H':Hp):Prop:=∀ b o,H b=some o→b≠l→H' b=some o
theorem But.trans {l:Addr}{H H1 H2:Hp}(x:But l H H1) (y:But l H1 H2):But l H H2:=fun b o e n=>y b o (x b o e n) n
theorem But.of {l:Addr}{H H1:Hp}(x:Same H H1):But l H H1:=fun b o e _=>x b o e
structure PkAt (H:Hp) (l:Addr):Prop where
 ex:∃ a b:Int,H l=some (.lst [.int a,.int b])∧0≤a∧0≤b∧b<2 ^ 31
theorem PkAt.keep {H H':Hp}{l:Addr}(S:PkAt H l) (s:Same H H'):PkAt H' l:=by
 obtain⟨a,b,h,r⟩:=S.ex
 exact⟨a,b,s _ _ h,r⟩
theorem PkAt.ne {H:Hp}{l p:Addr}(S:PkAt H l) (h:H p=none):l≠p:=by
 obtain⟨a,b,e,_⟩:=S.ex
 exact zac e h
theorem PkAt.upd {H:Hp}{l p:Addr}{o:HO}(S:PkAt H l) (h:l≠p):PkAt (upd H p o) l:=by
 obtain⟨a,b,e,r⟩:=S.ex
 exact⟨a,b,by rw[zae h];exact e,r⟩
theorem But.tups {H H':Hp}{l:Addr}(x:But l H H') (S:PkAt H l):Tups H H':=fun a xs e=>x a _ e (by
 rintro rfl
 obtain⟨_,_,z,_⟩:=S.ex
 rw[z]at e;cases e)
def Prs (H:Hp):List V→List (Nat × Nat)→Prop
 | [],[]=>True
 | p::ps,f::fs=>(∃ a,p=.ref a∧H a=some (.tup [.int f.1,.int f.2]))∧Prs H ps fs
 | _,_=>False
theorem Prs.tups {H H':Hp}(t:Tups H H'):∀ {ps:List V}{fs:List (Nat × Nat)},Prs H ps fs→Prs H' ps fs
 | [],[],_=>trivial
 | _::_,_::_,⟨⟨a,e,h⟩,r⟩=>⟨⟨a,e,t _ _ h⟩,r.tups t⟩
theorem Prs.len {H:Hp}:∀ {ps:List V}{fs:List (Nat × Nat)},Prs H ps fs→ps.length=fs.length
 | [],[],_=>rfl
 | _::_,_::_,⟨_,r⟩=>congrArg (· + 1) r.len
theorem Prs.add {H:Hp}{a:Addr}{f:Nat × Nat}(h:H a=some (.tup [.int f.1,.int f.2])):∀ {ps:List V}{fs:List (Nat × Nat)},Prs H ps fs→Prs H (ps++[.ref a]) (fs++[f])
 | [],[],_=>⟨⟨a,rfl,h⟩,trivial⟩
 | _::_,_::_,⟨x,r⟩=>⟨x,r.add h⟩
theorem Prs.get {H:Hp}:∀ {ps:List V}{fs:List (Nat × Nat)}{i:Nat}{p:V},Prs H ps fs→ps[i]?=some p→∃ a f,p=.ref a∧fs[i]?=some f∧H a=some (.tup [.int f.1,.int f.2])
 | [],[],_,_,_,e=>by simp at e
 | _::_,f::_,0,p,⟨⟨a,e1,h⟩,_⟩,e=>by
  have:_=p:=Option.some.inj e
  subst this
  exact⟨a,f,e1,rfl,h⟩
 | _::_,_::_,i+1,p,⟨_,r⟩,e=>r.get (i:=i) (by simpa using e)
structure Nt where
 lanes:Nat
 forks:List (Nat × Nat)
 ends:List Nat
structure Nt.Ok (N:Nt):Prop where
 l1:1≤N.lanes
 l16:N.lanes≤16
 fm:N.forks.length≤128
 fk:∀ f∈N.forks,f.1<N.lanes∧f.2<N.lanes∧f.1≠f.2
 en:N.ends.Perm (List.range N.lanes)
def nums (es:List Nat):List V:=es.map fun (e:Nat)=>V.int e
structure NetAt (H:Hp) (r fr er:Addr) (ps:List V) (N:Nt):Prop where
 net:H r=some (.tup [.int N.lanes,.ref fr,.ref er])
 forks:H fr=some (.tup ps)
 prs:Prs H ps N.forks
 ends:H er=some (.tup (nums N.ends))
theorem NetAt.tups {H H':Hp}{r fr er:Addr}{ps:List V}{N:Nt}(t:Tups H H') (h:NetAt H r fr er ps N):NetAt H' r fr er ps N:=⟨t _ _ h.net,t _ _ h.forks,h.prs.tups t,t _ _ h.ends⟩
def zaO (st:List Int × List Int) (f:Nat × Nat):List Int × List Int :=
 ((st.1.set f.1 ((st.1.getD f.1 0+st.1.getD f.2 0+1) / 2)).set f.2 ((st.1.getD f.1 0+st.1.getD f.2 0) / 2),st.2++[(st.1.getD f.1 0+st.1.getD f.2 0)%2])
def za2 (st:List Int × List Int) (fs:List (Nat × Nat)):List Int × List Int:=fs.foldl zaO st
def flow (fs:List (Nat × Nat)) (cs:List Int):List Int × List Int:=za2 (cs,[]) fs
def zaL (N:Nt) (cs:List Int):List Int:=N.ends.map fun e=>(flow N.forks cs).1.getD e 0
theorem zhO (fs:List (Nat × Nat)) (f:Nat × Nat) (cs:List Int):flow (fs++[f]) cs=zaO (flow fs cs) f:=by
 unfold flow za2;rw[List.foldl_append];rfl
theorem zdA (st:List Int × List Int) (f:Nat × Nat):(zaO st f).1.length=st.1.length:=by simp[zaO]
theorem zbg:∀ (fs:List (Nat × Nat)) (st:List Int × List Int),(za2 st fs).1.length=st.1.length∧(za2 st fs).2.length=st.2.length+fs.length
 | [],st=>⟨rfl,rfl⟩
 | f::fs,st=>by
  have h:=zbg fs (zaO st f)
  refine⟨h.1.trans (zdA st f),h.2.trans ?_⟩
  simp[zaO];lia
theorem zbn (fs:List (Nat × Nat)) (cs:List Int):(flow fs cs).1.length=cs.length:=(zbg fs (cs,[])).1
theorem zf0 (fs:List (Nat × Nat)) (cs:List Int):(flow fs cs).2.length=fs.length:=by
 have:=(zbg fs (cs,[])).2
 simpa [flow] using this
theorem zbf {fs:List (Nat × Nat)}{i:Nat}{f:Nat × Nat}(h:fs[i]?=some f) (cs:List Int):flow (fs.take (i+1)) cs=zaO (flow (fs.take i) cs) f:=by
 have w:=List.getElem?_eq_some_iff.mp h;obtain⟨hi,e⟩:=w
 rw[List.take_succ_eq_append_getElem hi,zhO,e]
theorem zcX:∀ (xs:List Int) (i:Nat) (a:Int),i<xs.length→(xs.set i a).sum=xs.sum-xs.getD i 0+a
 | [],i,a,h=>by simp at h
 | x::xs,0,a,_=>by simp;lia
 | x::xs,i+1,a,h=>by
  have:=zcX xs i a (by simpa using h)
  simp only[List.set_cons_succ,List.sum_cons,this,List.getD_cons_succ]
  lia
theorem zak {xs:List Int}{i p:Nat}{a:Int}(h:p<xs.length):(xs.set i a).getD p 0=if i=p then a else xs.getD p 0:=by
 rw[List.getD_eq_getElem?_getD,List.getElem?_set]
 by_cases e:i=p
 ·subst e;simp[h]
 ·simp[e]
theorem zlC (c:Int):(c+1) / 2+c / 2=c:=by lia
theorem zgu {st:List Int × List Int}{f:Nat × Nat}(h1:f.1<st.1.length) (h2:f.2<st.1.length) (ne:f.1≠f.2):(zaO st f).1.sum=st.1.sum:=by
 unfold zaO
 simp only
 rw[zcX _ _ _ (by rw[List.length_set];exact h2),zcX _ _ _ h1,zak h2,if_neg ne]
 have:=zlC (st.1.getD f.1 0+st.1.getD f.2 0)
 lia
theorem zb3:∀ (fs:List (Nat × Nat)) (st:List Int × List Int),(∀ f∈fs,f.1<st.1.length∧f.2<st.1.length∧f.1≠f.2)→(za2 st fs).1.sum=st.1.sum
 | [],st,_=>rfl
 | f::fs,st,h=>by
  have hf:=h f List.mem_cons_self
  have:=zb3 fs (zaO st f) fun g hg=>by
   rw[zdA];exact h g (List.mem_cons_of_mem _ hg)
  exact this.trans (zgu hf.1 hf.2.1 hf.2.2)
theorem zih {xs ys:List Int}(h:xs.Perm ys):xs.sum=ys.sum:=by
 induction h with
 | nil=>rfl
 | cons x _ ih=>simp[ih]
 | swap x y l=>simp;lia
 | trans _ _ a b=>exact a.trans b
theorem zbq (xs:List Int):(List.range xs.length).map (fun e=>xs.getD e 0)=xs:=by
 refine List.ext_getElem (by simp) fun i h1 h2=>?_
 rw[List.getElem_map,List.getElem_range,List.getD_eq_getElem?_getD,List.getElem?_eq_getElem h2];rfl
theorem zi3 {N:Nt}(ok:N.Ok) {cs:List Int}(h:cs.length=N.lanes):(zaL N cs).sum=cs.sum:=by
 unfold zaL
 rw[zih (ok.en.map _)]
 have e:N.lanes=(flow N.forks cs).1.length:=by rw[zbn,h]
 rw[e,zbq]
 exact zb3 N.forks (cs,[]) fun f hf=>by
  have:=ok.fk f hf
  simp only[h];exact this
theorem zdp {N:Nt}(ok:N.Ok) {e:Nat}(h:e∈N.ends):e<N.lanes:=List.mem_range.mp (ok.en.mem_iff.mp h)
theorem zb8 {N:Nt}(ok:N.Ok):N.ends.length=N.lanes:=by rw[ok.en.length_eq,List.length_range]
theorem zaD {cs:List Int}{i:Nat}(h:i<cs.length):atI (cs.map V.int) ((i:Nat):Int)=some (.int (cs.getD i 0)):=by
 refine zaN ?_
 rw[List.getElem?_map,List.getD_eq_getElem?_getD,List.getElem?_eq_getElem h];rfl
theorem zb5 {α:Type}{xs:List α}{i:Nat}(h:i<xs.length):ixN xs.length ((i:Nat):Int)=some i:=by
 unfold ixN
 rw[if_pos (by lia),if_pos (by lia)];simp
theorem zay (cs:List Int) (i:Nat) (a:Int):(cs.map V.int).set i (.int a)=(cs.set i a).map V.int:=by rw[List.map_set]
structure Mgs (mg:Str→Option Value):Prop where
 len:mg "len" = none
 range:mg "range" = none
 tuple:mg "tuple" = none
 enum:mg "enumerate" = none
 abs:mg "abs" = none
 zip:mg "zip" = none
 isi:mg "isinstance" = none
 all:mg "all" = none
 sum:mg "sum" = none
 bool:mg "bool" = none
 int:mg "int" = none
 str:mg "str" = none
 max:mg "max" = none
 min:mg "min" = none
 sorted:mg "sorted" = none
 list:mg "list" = none
structure Use (P:Program) (w:World) (K:PySem.W.Frag) (mg:Str→Option Value) (base:Heap) (x:Str) (ps:List Str) (k:Nat) (sp:Sp) (f:Addr) (fd:FuncData):Prop where
 ok:FnOk P w K mg base CX0 k f fd ps sp
 b:Binds K fd ps []
 kp:PySem.W.keepIn K (.ref f)=true
 m:mg x=some (.ref f)
def zgD (K:PySem.W.Frag):Sp:=fun vs H Q _=>∃ (a:Addr) (ns:List Int) (k:Int),vs=[.ref a,.int k]∧SqL K H a (ns.map V.int)∧0≤k∧∀ x:Int,Q (.int x) H
def zgz (K:PySem.W.Frag):Sp:=fun vs H Q _=>∃ (a:Addr) (ns:List Int) (k:Int),vs=[.ref a,.int k]∧SqL K H a (ns.map V.int)∧ns.length≤63∧0≤k∧k≤1000∧∀ l H',H l=none→Same H H'→PkAt H' l→Q (.ref l) H'
def zdE:Sp:=fun vs H Q _=>∃ (l:Addr) (m:Int),vs=[.ref l,.int m]∧0<m∧m<1073741824∧PkAt H l∧∀ (v:Nat) H',(v:Int)<m→PkAt H' l→But l H H'→Q (.int v) H'
def zc7:Sp:=fun vs H Q _=>∃ r fr er ps N c cs,vs=[.ref r,.ref c]∧Nt.Ok N∧NetAt H r fr er ps N∧H c=some (.tup (List.map V.int cs))∧cs.length=N.lanes ∧
 ∀ p lo lt H',Same H H'→H' p=some (.tup [.ref lo,.ref lt])→H' lo=some (.lst ((flow N.forks cs).1.map V.int))→H' lt=some (.lst ((flow N.forks cs).2.map V.int))→Q (.ref p) H'
def zgB:Sp:=fun vs H Q _=>∃ r fr er ps N c cs,vs=[.ref r,.ref c]∧Nt.Ok N∧NetAt H r fr er ps N∧H c=some (.tup (List.map V.int cs))∧cs.length=N.lanes ∧
 ∀ p H',Same H H'→H' p=some (.tup ((zaL N cs).map V.int))→Q (.ref p) H'
def Frs (l:Addr) (H:Hp) (x:Addr):Prop:=∀ b o,H b=some o→b≠l→b≠x
theorem But.frs {l x:Addr}{H H1:Hp}(B:But l H H1) (h:H1 x=none):Frs l H x:=fun b o e n=>zac (B b o e n) h
theorem But.upd {l x:Addr}{H H1:Hp}{o:HO}(B:But l H H1) (f:Frs l H x):But l H (upd H1 x o):=fun b u e n=>by rw[zae (f b u e n)];exact B b u e n
theorem zkT {es:List Nat}{i:Nat}(h:i<es.length):atI (nums es) ((i:Nat):Int)=some (.int es[i]):=by
 refine zaN ?_
 unfold nums
 rw[List.getElem?_map,List.getElem?_eq_getElem h];rfl
theorem zag (es:List Nat):(nums es).length=es.length:=by simp[nums]
theorem ziv {one d lanes:Nat}(h1:one<lanes) (h2:d+1<lanes):(one+1+d)%lanes<lanes∧one≠(one+1+d)%lanes:=by
 refine⟨Nat.mod_lt _ (by lia),fun e=>?_⟩
 by_cases z:one+1+d<lanes
 ·rw[Nat.mod_eq_of_lt z]at e;lia
 ·rw[Nat.mod_eq_sub_mod (by lia),Nat.mod_eq_of_lt (by lia)]at e;lia
theorem ziX {es:List Nat}{i v:Nat}(h:es.Perm (List.range i)):(es.take v++i::es.drop v).Perm (List.range (i+1)):=by
 rw[List.range_succ]
 refine List.perm_middle.trans ?_
 rw[List.take_append_drop]
 exact(h.cons i).trans (List.perm_append_comm (l₁:=[i]) (l₂:=List.range i))
theorem ziL (es:List Nat) (v i:Nat):(nums es).take v++V.int (i:Int)::(nums es).drop v=nums (es.take v++i::es.drop v):=by
 unfold nums
 rw[List.map_append,List.map_cons,List.map_take,List.map_drop]
theorem ziw (k:Nat):0<PySem.NumText.digitsVal (49::List.replicate k 48):=by
 unfold PySem.NumText.digitsVal
 have go:∀ (k acc:Nat),0<acc→0<(List.replicate k 48).foldl (fun acc c=>acc*10+(c-48)) acc:=fun k=>by
  induction k with
  | zero=>intro acc h;exact h
  | succ k ih=>intro acc h;rw[List.replicate_succ,List.foldl_cons];exact ih _ (by lia)
 rw[List.foldl_cons]
 exact go k _ (by decide)
theorem zkx {z:Str}{k:Nat}(hz:z.cps.toList=List.replicate k 48):PySem.NumText.AllDigits ((("1":Str)++z).cps.toList)∧(("1":Str)++z).length=k+1∧0<PySem.NumText.digitsVal ((("1":Str)++z).cps.toList):=by
 have e:(("1":Str)++z).cps.toList=49::List.replicate k 48:=by
  show ((("1":Str).cps++z.cps).toList)=_
  rw[Array.toList_append,hz];rfl
 refine⟨?_,?_,?_⟩
 ·rw[e]
  intro c hc
  rcases List.mem_cons.mp hc with q|q
  ·lia
  ·have:=List.eq_of_mem_replicate q;lia
 ·have:=congrArg List.length e
  rw[Array.length_toList]at this
  show (("1":Str)++z).cps.size=k+1
  rw[this,List.length_cons,List.length_replicate]
 ·rw[e];exact ziw k
def nm (ns:List Nat) (i:Nat):Nat:=ns.getD i 0
section
variable {ns:List Nat}{n:Nat}(pm:ns.Perm (List.range n))
include pm
end
def Nt.again (N:Nt) (f:Nat × Nat):Nt:=⟨N.lanes,N.forks++[f],N.ends⟩
end Bn
namespace L2
open PySem PySem.Spec PyProof.Rows Own
section
variable {X:Cx}
theorem zi9 (n:Nat):(List.range n).all (fun _=>true)=true:=by rw[List.all_eq_true];intro _ _;rfl
end
section
variable {prog:Program}{w:World}{A:Around}{E:Value→Shared→Prop}{s:Shared}
theorem zeM {t sl:Addr}{items:Array Value}{vl vu:Value}{lo hi:Option Int}{Q:Value→Shared→Prop}(ht:IsTup s.heap t items) (hs:s.heap.IsSliceOf sl vl vu .none) (pl:IsPart vl lo) (pu:IsPart vu hi)
  (e0:HT.sIx items.size 0 lo=0) (e1:HT.sIx items.size items.size hi=items.size) (h:Q (.ref t) s):wpAny (model prog w) A (getItem (.ref t) (.ref sl)) Q E s:=by
 obtain⟨os,hos,hcs,hds⟩:=id hs
 have hTs:s.TypeIs (.ref sl) "slice":=⟨os,hos,hcs⟩
 unfold getItem
 try with_reducible refine wpAny_holding ?_
 first|refine wpAny_bind (wpAny_pure ?_)|skip
 refine wpAny_bind (wpAny_sequenceKey ht.typeIs (by decide) (wpAny_bind (wpAny_callSpecial?_slot (name:=Str.ofString "__getitem__") ht.typeIs PyProof.Rows.slot_tuple_getitem (wpAny_call_entry PyProof.Rows.slot_tuple_getitem ht.typeIs PyProof.Rows.entry_tuple_getitem ?_ (PyProof.Rows.args_tuple_getitem _ _)))))
 show wpAny _ _ (Builtin.Tuple.tupleItemsOf (.ref t) >>= _) _ _ s
 refine wpAny_bind (tupleItemsOf_ ht (wpAny_bind (wpAny_typeOf hTs ?_)))
 rw[if_pos (by decide)]
 refine wpAny_bind (HT.sliceApplied_gen hs pl pu ?_)
 rw[e0,e1]
 show wpAny _ _ (if (((0:Nat):Int) == 0 && (1:Int) == 1 && (items.size-0) == items.size)=true then _ else _) _ _ s
 rw[if_pos (by simp)]
 refine wpAny_bind ?_
 unfold Builtin.Tuple.tupleIsExact
 refine wpAny_bind (wpAny_typeOf ht.typeIs (wpAny_pure ?_))
 rw[if_pos (by decide)]
 exact wpAny_bind (wpAny_rule (wpAny_pure ⟨_,rfl,wpAny_pure h⟩))
end
section
variable {X:Cx}
end
section
variable {prog:Program}{w:World}{A:Around}{R:Result→Shared→Prop}{I S:Addr}{fp wr:List Addr}{n:Nat}{P B:Nat→Value→Prop}{St:Nat→Heap→Prop}
def BestAt (B:Nat→Value→Prop) (j:Nat) (its:Array Value):Prop:=(j=0∧its = #[])∨(0<j∧∃ v,its = #[v,v]∧B j v)
theorem zht (W:Walks prog w A.in1 I fp wr n P St) (away:S∉fp) (d:Value) (first:∀ v,P 0 v→B 1 v)
  (more:∀ j v b (s:Shared) (Q:Value→Shared→Prop) (E:Value→Shared→Prop),0<j→P j v→B j b→(∀ c,B (j+1) (if c=true then v else b)→Q (.bool c) s)→wpAny (model prog w) A.in1 (richCompare .Gt v b) Q E s) :
  ∀ (m j:Nat) (s:Shared) (its:Array Value) (c:Nat),j+m=n→St j s.heap→s.heap.get? S=some { cls:=.type "list",dict:=none,data:=.seq its c,slots:=#[] }→BestAt B j its →
   (∀ v h' tk,(n=0∧v=d∨0<n∧B n v)→(∀ b o,b∉wr→b≠S→s.heap.get? b=some o→h'.get? b=some o)→R (.ok (.ret v)) { s with heap:=h',toks:=tk }) →
   codeAny (model prog w) A (.builtin "max.loop" ⟨[.ref I,.none,.ref S],[("default",d)]⟩) R s:=by
 have out:S∉wr:=fun z=>away (W.sub _ z)
 have nm:(toString "max"++toString ".loop":String) = "max.loop":=by decide
 intro m
 induction m with
 | zero =>
  intro j s its c jm st hs best k
  obtain rfl:j=n:=by lia
  refine codeAny_builtin F.entry_max_loop (by
   refine Around.under_plainId F.plain_max_loop _ ▸ (show wpAny _ A.in1 (seqItems? (.ref S) >>= _) _ _ _ from ?_)
   refine wpAny_bind (wpAny_seqItems hs rfl (show wpAny _ A.in1 (tryCatch (pyNext (.ref I)) _ >>= _) _ _ _ from wpAny_bind (wpAny_tryCatch (W.done s _ _ st fun h1 tk1 keep=>?_))))
   have hs1:=keep S _ out hs
   rcases best with ⟨j0,rfl⟩|⟨jp,v,rfl,bv⟩
   ·exact wpAny_bind (wpAny_rule (wpAny_pure (k d _ tk1 (.inl ⟨j0,rfl⟩) fun b o hb _ e=>keep b o hb e)))
   ·show wpAny _ A.in1 (updateSeq S (fun _=>#[]) >>= _) _ _ _
    exact wpAny_bind (wpAny_updateSeq hs1 rfl (wpAny_bind (wpAny_letGo (wpAny_pure (k v _ tk1 (.inr ⟨jp,bv⟩) fun b o hb bS e=>(Heap.get?_update_other _ _ (Ne.symm bS)).trans (keep b o hb e)))))))
 | succ m ih =>
  intro j s its c jm st hs best k
  refine codeAny_builtin F.entry_max_loop (by
   refine Around.under_plainId F.plain_max_loop _ ▸ (show wpAny _ A.in1 (seqItems? (.ref S) >>= _) _ _ _ from ?_)
   refine wpAny_bind (wpAny_seqItems hs rfl (show wpAny _ A.in1 (tryCatch (pyNext (.ref I)) _ >>= _) _ _ _ from wpAny_bind (wpAny_tryCatch (W.item j s _ _ (by lia) st fun v h1 tk1 pv st1 keep=>?_))))
   have hs1:=keep S _ out hs
   rcases best with ⟨rfl,rfl⟩|⟨jp,b0,rfl,bb⟩
   ·show wpAny _ A.in1 (updateSeq S (fun _=>#[v,v]) >>= _) _ _ _
    refine wpAny_bind (wpAny_updateSeq hs1 rfl ?_)
    rw[nm]
    exact wpAny_pure ⟨plainId_quiet F.plain_max_loop _,ih 1 _ _ _ (by lia) (W.frame _ _ _ st1 fun b hb o e=>(Heap.get?_update_other _ _ (fun z:S=b=>away (z ▸ hb))).trans e) (Heap.get?_update_self _ hs1 rfl) (.inr ⟨Nat.one_pos,v,rfl,first v pv⟩) fun v' h2 tk2 hv keep2=>k v' h2 tk2 hv fun b o hb bS e=>keep2 b o hb bS ((Heap.get?_update_other _ _ (Ne.symm bS)).trans (keep b o hb e))⟩
   ·show wpAny _ A.in1 (tryCatch (holding [v,v] (richCompare .Gt v b0 >>= _)) _ >>= _) _ _ _
    refine wpAny_bind (wpAny_tryCatch (wpAny_holding (wpAny_bind (more j v b0 _ _ _ jp pv bb fun yes by'=>wpAny_bind (wpAny_holding (wpAny_truthy_bool (wpAny_bind (wpAny_letGo (wpAny_pure ?_)))))))))
    cases yes
    ·rw[if_neg Bool.false_ne_true]at by'
     rw[if_neg Bool.false_ne_true]
     refine wpAny_bind (wpAny_letGo ?_)
     rw[nm]
     exact wpAny_pure ⟨plainId_quiet F.plain_max_loop _,ih (j+1) _ _ _ (by lia) st1 hs1 (.inr ⟨Nat.succ_pos _,b0,rfl,by'⟩) fun v' h2 tk2 hv keep2=>k v' h2 tk2 hv fun b o hb bS e=>keep2 b o hb bS (keep b o hb e)⟩
    ·rw[if_pos rfl]at by'
     simp only[if_true]
     refine wpAny_bind (wpAny_updateSeq hs1 rfl (wpAny_bind (wpAny_letGo ?_)))
     rw[nm]
     exact wpAny_pure ⟨plainId_quiet F.plain_max_loop _,ih (j+1) _ _ _ (by lia) (W.frame _ _ _ st1 fun b hb o e=>(Heap.get?_update_other _ _ (fun z:S=b=>away (z ▸ hb))).trans e) (Heap.get?_update_self _ hs1 rfl) (.inr ⟨Nat.succ_pos _,v,rfl,by'⟩) fun v' h2 tk2 hv keep2=>k v' h2 tk2 hv fun b o hb bS e=>keep2 b o hb bS ((Heap.get?_update_other _ _ (Ne.symm bS)).trans (keep b o hb e))⟩)
end
section
variable {prog:Program}{w:World}{A:Around}{E:Value→Shared→Prop}{s:Shared}
theorem zhP (a d:Value):argsOk "max" ⟨[a],[("default",d)]⟩:=by unfold argsOk;kernel_rfl
theorem zfS (d:Value):Builtin.Builtins.bindParams "max" ["key","default"] 0 ⟨[],[("default",d)]⟩=pure [none,some d]:=by kernel_rfl
theorem zhs {x d:Value}{Q:Value→Shared→Prop}
  (h:wpAny (model prog w) A.in1 (pyIter x) (fun it s2=>∃ (I:Addr) (fp wr:List Addr) (n:Nat) (P B:Nat→Value→Prop) (St:Nat→Heap→Prop),it=.ref I∧Walks prog w A.in1 I fp wr n P St∧St 0 s2.heap∧(∀ b∈fp,b<s2.heap.objs.size)∧(∀ v,P 0 v→B 1 v) ∧
   (∀ j v b (s:Shared) (Q:Value→Shared→Prop) (E:Value→Shared→Prop),0<j→P j v→B j b→(∀ c,B (j+1) (if c=true then v else b)→Q (.bool c) s)→wpAny (model prog w) A.in1 (richCompare .Gt v b) Q E s) ∧
   ∀ v h' tk,(n=0∧v=d∨0<n∧B n v)→(∀ b o,b∉wr→s2.heap.get? b=some o→h'.get? b=some o)→Q v { s2 with heap:=h',toks:=tk }) E s) :
  wpAny (model prog w) A (call (.builtin "max") [x] [("default",d)]) Q E s:=by
 have nm:(toString "max"++toString ".loop":String) = "max.loop":=by decide
 refine wpAny_call (codeAny_call_builtin F.plain_max F.entry_max ?_)
 simp only[checkBuiltinCall,F.kind_max]
 have body:wpAny (model prog w) A.in1 (Builtin.«max» ⟨[x],[("default",d)]⟩) (fun fin s'=>match fin with|.done f=>(match (Except.ok f:Result) with|.ok (.ret v)=>Q v s'|.ok _=>False|.error e=>E e s')|.again c'=>c'.quiet=true∧codeAny (model prog w) A c' (fun r s'=>match r with|.ok (.ret v)=>Q v s'|.ok _=>False|.error e=>E e s') s') E s:=by
  show wpAny _ A.in1 (Builtin.Builtins.bindParams "max" ["key","default"] 0 ⟨[],[("default",d)]⟩ >>= _) _ _ _
  refine wpAny_bind (wpAny_of_eq (zfS d) (wpAny_bind (wpAny_pure (wpAny_bind (wpAny_mono h (fun it s2 z=>?_) fun _ _ e=>e)))))
  obtain⟨I,fp,wr,n,P,B,St,rfl,W,st,low,first,more,k⟩:=z
  refine wpAny_bind (wpAny_newObj_type (by rw[nm];exact wpAny_pure ⟨plainId_quiet F.plain_max_loop _,zht W (fun z=>Nat.lt_irrefl _ (low _ z)) d first more n 0 _ _ _ (by lia) (W.frame _ _ _ st fun b _ o e=>Heap.get?_push_of_some _ e) (Heap.get?_push_size _ rfl) (.inl ⟨rfl,rfl⟩) fun v h' tk hv keep=>k v h' tk hv fun b o hb e=>keep b o hb (Nat.ne_of_lt (Heap.lt_size e)) (Heap.get?_push_of_some _ e)⟩))
 have fits:=zhP x d
 cases sg:Manifest.signature? "max" with
 | none=>exact wpAny_pure body
 | some g =>
  simp only[argsOk,sg]at fits
  have fits':Bind.checkArgs "max" g ⟨[x],[("default",d)]⟩=pure ():=fits
  show wpAny _ A.in1 (Bind.checkArgs "max" g ⟨[x],[("default",d)]⟩) _ _ _
  rw[fits'];exact wpAny_pure body
end
section
variable {X:Cx}{e e2:Expr}{ta tb:TE}{p kp pos:Pos}
def zjZ (K:PySem.W.Frag) (b:Bool):R2:=fun x y H Q=>∃ a ns d,x=.ref a∧y=.int d∧SqB b K H a (List.map V.int ns)∧(ns=[]→Q (.int d) H)∧(ns≠[]→∀ M,M∈ns→(∀ z∈ns,z≤M)→Q (.int M) H)
def Top (ns:List Int) (j:Nat) (v:Value):Prop:=∃ (M:Int) (t:Tok),v=.int M t∧M∈ns∧∀ i,i<j→ns.getD i 0≤M
def on1 (f:V→Hp→Prop):List V→Hp→Prop
 | [x],H=>f x H
 | _,_=>False
theorem zff {f:V→Hp→Prop}:∀ {vs:List V}{H:Hp},on1 f vs H→∃ x,vs=[x]∧f x H
 | [x],_,h=>⟨x,rfl,h⟩
theorem zj6 (b:Bool) (hc:X.calm=true) (hg:Gl X "max") (hm:X.mg "max" = none) (ha:PE X e ta) (hd:PE X e2 tb)
  (he:starEach [e] X.env=(false,eval e X.env)::starEach [] X.env:=by rfl)
  (hpl:((backTo pos (starEach [e] X.env)).any (·.1) || (backToKw pos (keywordEach [⟨some "default",e2,kp⟩] X.env)).any (·.1.isNone))=false:=by rfl)
  (hall:(backToKw pos (keywordEach [⟨some "default",e2,kp⟩] X.env)).all (·.1.isSome)=true:=by rfl) (hks:(backToKw pos (keywordEach [⟨some "default",e2,kp⟩] X.env)).filterMap (·.1)=[("default":Str)]:=by rfl) :
  PE X (.Call (.Name "max" p) [e] [⟨some "default",e2,kp⟩] pos) (tOp (zjZ X.K b) ta tb):=by
 intro pins s σ H Q I h
 refine wpAny_Call_Name_kw (zaA I hg hm (u:=.builtin "max") (by rfl) ?_)
 refine PySem.W.callWith_of (P:=fun _=>True) hpl (fun h _=>⟨.machine,.inr (.inl rfl),.now⟩) (evalArgs_kw2 hall (thn ((pa_cons (hs:=he) ha pa_nil) pos pins s σ H (on1 fun x H1=>tb σ H1 fun y H2=>zjZ X.K b x y H2 Q) I h) fun us s1 ⟨vs,H1,I1,r1,q1⟩=>?_) he)
 ·obtain⟨x,rfl,q1⟩:=zff q1
  refine thn ((zg6 hd zjj) pos pins s1 σ H1 (on1 fun y H2=>zjZ X.K b x y H2 Q) I1 q1) fun ws s2 ⟨zs,H2,I2,r2,q2⟩=>⟨trivial,?_⟩
  ·obtain⟨y,rfl,q2⟩:=zff q2
   obtain⟨u,rfl,ru⟩:=r1.one
   obtain⟨v,rfl,rv⟩:=r2.one
   rw[hks]
   obtain⟨a,ns,d,rfl,rfl,hq,q0,qm⟩:=q2
   obtain⟨td,rfl⟩:=rv
   cases ru
   obtain⟨its,r,p⟩:=I2.sq hq
   obtain⟨o,n,eo,_⟩:=p.ob
   have hl:its.length=ns.length:=by rw[← r.length,List.length_map]
   show wpAny _ _ (call (.builtin "max") [.ref a] [("default",.int d td)]) _ _ _
   refine zhs (zbe p ⟨s2.heap.objs.size,[s2.heap.objs.size,a],[s2.heap.objs.size],its.toArray.size,(fun i v=>its.toArray[i]?=some v),Top ns,_,rfl,zid (show X.A.in1.handled=none from I2.ok.hd hc) b _ a (Nat.ne_of_lt (Heap.lt_size eo)) its.toArray,⟨?_,p.mv fun o e=>Heap.get?_push_of_some _ e⟩,fun c hm=>?_,fun v hv=>?_,?_,?_⟩)
   ·cases b<;>exact⟨_,Heap.get?_push_size _ rfl,rfl,rfl⟩
   ·show c<(s2.heap.push _).objs.size
    rw[Heap.size_push]
    rcases List.mem_cons.mp hm with z|z
    ·exact z ▸ Nat.lt_succ_self _
    ·exact(List.mem_singleton.mp z) ▸ Nat.lt_succ_of_lt (Heap.lt_size eo)
   ·obtain⟨l0,t,rfl⟩:=zdN r (i:=0) (by simpa using hv)
    refine⟨_,t,rfl,zaH l0,fun i hi=>?_⟩
    obtain rfl:i=0:=by lia
    exact Int.le_refl _
   ·intro j v bv s' Q' E' jp hv ⟨M,t,e1,mem,top⟩ kk
    subst e1
    obtain⟨lj,t',rfl⟩:=zdN r (i:=j) (by simpa using hv)
    refine gt_int (kk _ ?_)
    by_cases g:ns.getD j 0 > M
    ·rw[decide_eq_true g,if_pos rfl]
     refine⟨_,t',rfl,zaH lj,fun i hi=>?_⟩
     by_cases z:i=j
     ·rw[z];exact Int.le_refl _
     ·have:=top i (by lia);lia
    ·rw[decide_eq_false g,if_neg Bool.false_ne_true]
     refine⟨M,t,rfl,mem,fun i hi=>?_⟩
     by_cases z:i=j
     ·rw[z];lia
     ·exact top i (by lia)
   ·intro v h' tk hv hk
    have I3:=I2.kept (t':=tk) (h':=h') fun c o e=>hk c o (fun z=>Nat.ne_of_lt (Heap.lt_size e) (List.mem_singleton.mp z)) (Heap.get?_push_of_some _ e)
    rw[List.size_toArray,hl]at hv
    rcases hv with ⟨n0,rfl⟩|⟨np,M,t,rfl,mem,top⟩
    ·exact⟨.int d,H2,I3,⟨td,rfl⟩,q0 (List.length_eq_zero_iff.mp n0)⟩
    ·refine⟨.int M,H2,I3,⟨t,rfl⟩,qm (by rintro rfl;simp at np) M mem fun z hz=>?_⟩
     obtain⟨i,hi,rfl⟩:=zbF hz
     exact top i hi
end
end L2
namespace K70
open PySem L2 Own Bn
def top (i:Nat):Stmt:=PySem.Challenge.pw_stairlanes_k70_bars_of_rows.main.body.getD i (.Pass ⟨0,0,0,0⟩)
abbrev zjU:Stmt:=top 43
abbrev zjP:Stmt:=top 44
abbrev zjO:Stmt:=top 45
section
variable {P:Program}{w:World}{K:PySem.W.Frag}{mg:Str→Option Value}{base:Heap}
theorem scC:FnScope ["_law_script","_law_k"] ["_law_script","_law_k"] (zad zjU):=by trivial
theorem zko {f:Addr}{fd:FuncData}(F:Fun K "_law_cell_at" "_law_cell_at" zjU f fd) (G:Mgs mg):FnOk P w K mg base CX0 1 f fd ["_law_script","_law_k"] (zgD K):=by
 refine F.ok scC (fun vs H Q E h=>?_) (fun cdv A outer s H vs Q E hr h=>?_)
 ·obtain⟨a,ns,k,rfl,_⟩:=h
  rfl
 obtain⟨a,ns,k,rfl,hS,k0,q⟩:=h
 refine⟨_,(@pss_cons _ _ _ _ _ (@ps_if _ _ _ _ _ _ _ _ (@pt_cmpR _ _ _ _ _ _ _ _ zdi (@qv _ 1 _ _ (by trivial)) (@pe_callB _ _ _ _ _ _ _ _ _ call_len_seq (by rfl) G.len PySem.boot_len (@pa_cons _ _ _ _ _ (@qv _ 0 _ _ (by trivial)) pa_nil (by rfl)) (by decide) (by decide) (by rfl) (by rfl)) (nomark _)) (@pss_one _ _ _ (@ps_ret _ _ _ _ (@pe_ix _ _ _ _ _ _ _ ix_list (@qv _ 0 _ _ (by trivial)) (@qv _ 1 _ _ (by trivial)) (fun _ _=>rfl)))) pss_nil) (@pss_one _ _ _ (@ps_ret _ _ _ _ pe_int))),?_⟩
 refine⟨_,rfl,_,rfl,a,_,rfl,.inl hS,_,_,rfl,rfl,_,rfl,ite2 (fun z=>?_) (fun z=>?_)⟩
 ·obtain⟨j,rfl⟩:=Int.eq_ofNat_of_zero_le k0
  have hj:j<ns.length:=by have:=of_decide_eq_true z;rw[List.length_map]at this;lia
  exact⟨_,rfl,_,rfl,a,_,_,_,rfl,rfl,hS,zaD hj,q _⟩
 ·exact q 0
theorem scK:FnScope ["_law_left_here","_law_many","_law_digit"] ["_law_left_here","_law_many"] (zad zjO):=by trivial
theorem zki {f:Addr}{fd:FuncData}(F:Fun K "_law_pick" "_law_pick" zjO f fd):FnOk P w K mg base CX0 1 f fd ["_law_left_here","_law_many"] zdE:=by
 refine F.ok scK (fun vs H Q E h=>?_) (fun cdv A outer s H vs Q E hr h=>?_)
 ·obtain⟨l,m,rfl,_⟩:=h
  rfl
 obtain⟨l,m,rfl,m0,m1,S,k⟩:=h
 obtain⟨a,b,hl,a0,b0,b1⟩:=S.ex
 refine⟨_,(@pss_cons _ _ _ _ _ (@ps_if _ _ _ _ _ _ _ _ (@pt_cmpR _ _ _ _ _ _ _ _ zkb (@pe_ix _ _ _ _ _ _ _ ix_list (@qv _ 0 _ _ (by trivial)) pe_int (fun _ _=>rfl)) pe_int (nomark _)) (@pss_cons _ _ _ _ _ (@ps_set _ _ 2 _ _ _ _ scK.nd rfl (.inl rfl) (@pe_op _ _ _ _ _ _ _ _ op_mod (@pe_ix _ _ _ _ _ _ _ ix_list (@qv _ 0 _ _ (by trivial)) pe_int (fun _ _=>rfl)) (@qv _ 1 _ _ (by trivial))) (by rfl) (by first|exact .inl rfl|exact .inr rfl|assumption)) (@pss_cons _ _ _ _ _ (@ps_asg _ _ _ _ _ _ (@pe_op _ _ _ _ _ _ _ _ op_fdiv (@pe_ix _ _ _ _ _ _ _ ix_list (@qv _ 0 _ _ (by trivial)) pe_int (fun _ _=>rfl)) (@qv _ 1 _ _ (by trivial))) (@pg_sub _ _ _ _ _ _ _ (@qv _ 0 _ _ (by trivial)) pe_int set_list (by intro _;rfl)) (by rfl) (by rfl) (by rfl)) (@pss_one _ _ _ (@ps_ret _ _ _ _ (@qv _ 2 _ _ (by trivial)))))) pss_nil) (@pss_cons _ _ _ _ _ (@ps_asg _ _ _ _ _ _ (@pe_op _ _ _ _ _ _ _ _ op_mod (@pe_op _ _ _ _ _ _ _ _ op_add (@pe_op _ _ _ _ _ _ _ _ op_mul (@pe_ix _ _ _ _ _ _ _ ix_list (@qv _ 0 _ _ (by trivial)) pe_int (fun _ _=>rfl)) pe_int) pe_int) pe_int) (@pg_sub _ _ _ _ _ _ _ (@qv _ 0 _ _ (by trivial)) pe_int set_list (by intro _;rfl)) (by rfl) (by rfl) (by rfl)) (@pss_one _ _ _ (@ps_ret _ _ _ _ (@pe_op _ _ _ _ _ _ _ _ op_mod (@pe_op _ _ _ _ _ _ _ _ op_mod (@pe_op _ _ _ _ _ _ _ _ op_mul (@pe_ix _ _ _ _ _ _ _ ix_list (@qv _ 0 _ _ (by trivial)) pe_int (fun _ _=>rfl)) (@pe_ix _ _ _ _ _ _ _ ix_list (@qv _ 0 _ _ (by trivial)) pe_int (fun _ _=>rfl))) pe_int) (@qv _ 1 _ _ (by trivial))))))),?_⟩
 have fin:∀ (x:Int) (H':Hp),0≤x→x<m→PkAt H' l→But l H H'→Q (.int x) H':=fun x H' x0 x1 S' B'=>by
  obtain⟨v,rfl⟩:=Int.eq_ofNat_of_zero_le x0
  exact k v H' x1 S' B'
 refine⟨_,rfl,l,_,_,_,rfl,rfl,SqL.of hl,rfl,_,_,rfl,rfl,_,rfl,ite2 (fun q=>?_) (fun q=>?_)⟩
 ·refine⟨_,rfl,l,_,_,_,rfl,rfl,SqL.of hl,rfl,_,rfl,_,_,rfl,rfl,m0,?_⟩
  refine⟨_,rfl,l,_,_,_,rfl,rfl,SqL.of hl,rfl,_,rfl,_,_,rfl,rfl,⟨m0,m1⟩,_,rfl,l,_,_,0,rfl,rfl,hl,rfl,_,rfl,?_⟩
  exact fin _ _ (Int.emod_nonneg _ (by lia)) (Int.emod_lt_of_pos _ m0) ⟨a / m,b,zab,Int.ediv_nonneg a0 (by lia),b0,b1⟩ fun x o e ne=>by rw[zae ne];exact e
 ·refine⟨_,rfl,l,_,_,_,rfl,rfl,SqL.of hl,rfl,_,_,rfl,rfl,.inr ⟨by decide,by decide⟩,_,_,rfl,rfl,_,_,rfl,rfl,(by show (0:Int)<2147483647;decide),_,rfl,l,_,_,1,rfl,rfl,hl,rfl,?_⟩
  have g0:0≤(b*48271+12345)%2147483647:=Int.emod_nonneg _ (by decide)
  have g1:(b*48271+12345)%2147483647<2147483647:=Int.emod_lt_of_pos _ (by decide)
  generalize hH:upd H l (HO.lst ([V.int a,V.int b].set 1 (V.int ((b*48271+12345)%2147483647))))=H1
  have h1:H1 l=some (.lst [.int a,.int ((b*48271+12345)%2147483647)]):=by rw[← hH];exact zab
  refine⟨_,rfl,l,_,_,_,rfl,rfl,SqL.of h1,rfl,_,rfl,l,_,_,_,rfl,rfl,SqL.of h1,rfl,_,_,rfl,rfl,.inl ⟨by lia,by lia⟩,_,_,rfl,rfl,(by show (0:Int)<1999999973;decide),_,rfl,_,_,rfl,rfl,m0,?_⟩
  exact fin _ _ (Int.emod_nonneg _ (by lia)) (Int.emod_lt_of_pos _ m0) ⟨a,_,h1,a0,g0,by lia⟩ fun x o e ne=>by rw[← hH,zae ne];exact e
theorem scL:FnScope ["_law_script","_law_k","_law_cell","_law_seed"] ["_law_script","_law_k"] (zad zjP):=by trivial
theorem zkj {f fC:Addr}{fd dC:FuncData}(F:Fun K "_law_left" "_law_left" zjP f fd) (G:Mgs mg) (zd:PySem.W.nsIn K cStatics "sys.int_max_str_digits" = some none) (UC:Use P w K mg base "_law_cell_at" ["_law_script","_law_k"] 1 (zgD K) fC dC):FnOk P w K mg base CX0 2 f fd ["_law_script","_law_k"] (zgz K):=by
 refine F.ok scL (fun vs H Q E h=>?_) (fun cdv A outer s H vs Q E hr h=>?_)
 ·obtain⟨a,ns,k,rfl,_⟩:=h
  rfl
 obtain⟨a,ns,k,rfl,hS,h63,k0,k1,q⟩:=h
 refine⟨_,(@pss_cons _ _ _ _ _ (@ps_set _ _ 2 _ _ _ _ scL.nd rfl (.inl rfl) (@pe_call _ _ _ _ _ _ _ _ _ _ _ _ _ _ _ _ UC.ok hr (by rfl) UC.m UC.kp UC.b .nil pass0 (@pa_cons _ _ _ _ _ (@qv _ 0 _ _ (by trivial)) (@pa_cons _ _ _ _ _ (@pe_op _ _ _ _ _ _ _ _ op_mod (@qv _ 1 _ _ (by trivial)) (@pe_callB _ _ _ _ _ _ _ _ _ (zbh rfl) (by rfl) G.max (by rfl) (@pa_cons _ _ _ _ _ pe_int (@pa_cons _ _ _ _ _ (@pe_callB _ _ _ _ _ _ _ _ _ call_len_seq (by rfl) G.len PySem.boot_len (@pa_cons _ _ _ _ _ (@qv _ 0 _ _ (by trivial)) pa_nil (by rfl)) (by decide) (by decide) (by rfl) (by rfl)) pa_nil (by rfl)) (by rfl)) (by decide) (by decide) (by rfl) (by rfl))) pa_nil (by rfl)) (by rfl)) (by decide) (by rfl) (by rfl)) (by rfl) (by first|exact .inl rfl|exact .inr rfl|assumption)) (@pss_cons _ _ _ _ _ (@ps_set _ _ 3 _ _ _ _ scL.nd rfl (.inl rfl) (@pe_op _ _ _ _ _ _ _ _ op_mod (@pe_op _ _ _ _ _ _ _ _ op_mul (@pe_op _ _ _ _ _ _ _ _ op_add (@pe_op _ _ _ _ _ _ _ _ op_add (@pe_op _ _ _ _ _ _ _ _ op_mod (@qv _ 2 _ _ (by trivial)) pe_int) (@pe_op _ _ _ _ _ _ _ _ op_mul (@pe_op _ _ _ _ _ _ _ _ op_mul pe_int (@qv _ 1 _ _ (by trivial))) (@qv _ 1 _ _ (by trivial)))) pe_int) pe_int) pe_int) (by rfl) (by first|exact .inl rfl|exact .inr rfl|assumption)) (@pss_one _ _ _ (@ps_ret _ _ _ _ (@pe_lst _ _ _ _ (@pa_cons _ _ _ _ _ (@pe_op _ _ _ _ _ _ _ _ op_mod (@pe_op _ _ _ _ _ _ _ _ op_mul (@qv _ 2 _ _ (by trivial)) (@pe_callTy _ _ _ _ _ _ _ _ _ zd6 (by rfl) G.int (by rfl) (@pa_cons _ _ _ _ _ (@pe_cmpR _ _ _ _ _ _ _ _ zlV (@qv _ 2 _ _ (by trivial)) (@pe_op _ _ _ _ _ _ _ _ zlh pe_int pe_int) (nomark _)) pa_nil (by rfl)) (by decide) (by decide) (by rfl) (by rfl))) (@pe_callTy _ _ _ _ _ _ _ _ _ (zd5 zd) (by rfl) G.int (by rfl) (@pa_cons _ _ _ _ _ (@pe_op _ _ _ _ _ _ _ _ zfM pe_str (@pe_op _ _ _ _ _ _ _ _ zj9 pe_str pe_int)) pa_nil (by rfl)) (by decide) (by decide) (by rfl) (by rfl))) (@pa_cons _ _ _ _ _ (@qv _ 3 _ _ (by trivial)) pa_nil (by rfl)) (by rfl))))))),?_⟩
 refine⟨_,rfl,_,rfl,_,rfl,a,_,rfl,.inl hS,_,_,rfl,_,_,rfl,rfl,?_,?_⟩
 ·split<;>lia
 refine⟨a,ns,_,rfl,hS,Int.emod_nonneg _ (by split<;>lia),fun x=>?_⟩
 refine⟨_,rfl,_,_,rfl,rfl,(by show (0:Int)<2147483629;decide),_,rfl,_,_,rfl,rfl,.inl ⟨by decide,by decide⟩,_,rfl,_,_,rfl,rfl,.inr ⟨by lia,by lia⟩,_,_,rfl,rfl,_,_,rfl,rfl,_,_,rfl,rfl,.inr ⟨by decide,by decide⟩,_,_,rfl,rfl,(by show (0:Int)<2147483647;decide),?_⟩
 have g0:=Int.emod_nonneg ((x%2147483629+7919*k*k+11)*48271) (show (2147483647:Int)≠0 by decide)
 have g1:=Int.emod_lt_of_pos ((x%2147483629+7919*k*k+11)*48271) (show (0:Int)<2147483647 by decide)
 refine⟨_,rfl,_,rfl,_,_,rfl,rfl,⟨by decide,by decide,by decide⟩,_,_,rfl,rfl,.inr ⟨_,rfl,_,_,rfl,rfl,.inr ?_,?_⟩⟩
 ·split<;>exact⟨by decide,by decide⟩
 refine⟨48,4000,rfl,rfl,by decide,by decide,fun z hz=>?_⟩
 obtain⟨d1,d2,d3⟩:=zkx hz
 have zl:z.length=4000:=by
  have:=congrArg List.length hz
  rw[Array.length_toList,List.length_replicate]at this
  exact this
 refine⟨_,_,rfl,rfl,by rw[zl];decide,_,rfl,d1,by lia,by lia,_,_,rfl,rfl,by lia,_,rfl,(by show 2≤sizeLine;decide),fun l hl=>?_⟩
 exact q l _ hl (zaa hl _) ⟨_,_,zab,Int.emod_nonneg _ (by lia),g0,by lia⟩
end
end K70
namespace L2
open PySem PySem.Spec PyProof.Rows
inductive EntI:List DictEntry→List (Int × Int)→Prop
 | nil:EntI [] []
 | cons {t u:Tok}{h k v:Int}{es:List DictEntry}{kvs:List (Int × Int)}:h=hashInt k→EntI es kvs→EntI (⟨h,.int k t,.int v u⟩::es) ((k,v)::kvs)
structure DictK (K:PySem.W.Frag) (a:Addr) (kvs:List (Int × Int)):Prop where
 ex:∃ o es ep,K.lookup a=some o∧o.ExactDict∧o.data=.dict es ep∧EntI es.toList kvs
 nd:(kvs.map (·.1)).Nodup
 ns:(a == sysModules)=false
def valI (kvs:List (Int × Int)) (k:Int):V:=match kvs.find? fun kv=>decide (kv.1=k) with|some p=>.int p.2|none=>.non
theorem EntI.pairs {P:Program}{w:World}:∀ {es:List DictEntry}{kvs:List (Int × Int)},EntI es kvs→∃ vs:List (Int × Value),Pairs (intKind P w) es vs∧(∀ e∈es,∃ k,(intKind P w).is k e.key=true∧e.hash=(intKind P w).hash k)∧vs.map (·.1)=kvs.map (·.1)∧∀ k,∃ u,((vs.find? fun kv=>decide (kv.1=k)).map (·.2)).getD .none=u∧RelV (valI kvs k) u
 | [],[],.nil=>⟨[],.nil,fun e h=>by simp at h,rfl,fun k=>⟨_,rfl,rfl⟩⟩
 | _,_,.cons (t:=t) (u:=u) (k:=k) (v:=v) (es:=es) (kvs:=kvs) hh h=>by
  obtain⟨vs,p,ks,em,val⟩:=EntI.pairs (P:=P) (w:=w) h
  have isk:(intKind P w).is k (.int k t)=true:=by show Value.isInt k (.int k t)=true;simp[Value.isInt]
  refine⟨(k,.int v u)::vs,.cons isk rfl p,fun e he=>?_,by rw[List.map_cons,List.map_cons,em],fun q=>?_⟩
  ·rcases List.mem_cons.mp he with z|z
   ·rw[z];exact⟨k,isk,hh⟩
   ·exact ks e z
  ·unfold valI
   rw[List.find?_cons,List.find?_cons]
   by_cases c:k=q
   ·rw[decide_eq_true c];exact⟨_,rfl,⟨u,rfl⟩⟩
   ·rw[decide_eq_false c]
    obtain⟨u',e1,e2⟩:=val q
    exact⟨u',e1,e2⟩
section
variable {X:Cx}
def zlP (kvs:List (Int × Int)) (te:TE):TE:=fun σ H Q=>te σ H fun y H1=>∃ i,[y]=[V.int i]∧Q (valI kvs i) H1
theorem zj7 {x:Str}{a:Addr}{kvs:List (Int × Int)}{e:Expr}{te:TE}{p apos cpos:Pos}(hg:Gl X x) (hm:X.mg x=some (.ref a)) (D:DictK X.K a kvs) (he:PE X e te)
  (hd:(x == ("__debug__":Str))=false:=by decide)
  (hbase:attributeBase (.Name x p) "get" X.env (eval (.Name x p) X.env)=eval (.Name x p) X.env:=by rfl)
  (hfew:((backTo cpos (starEach [e] X.env)).all (fun x=>!x.1) && (backToKw cpos (keywordEach [] X.env)).all (fun x=>x.1.isSome)
   && decide (([e]:List Expr).length+([]:List Keyword).length+(if ([]:List Keyword).isEmpty then 0 else 1)<30))=true:=by rfl)
  (hline:(apos.endLine == cpos.line)=true:=by rfl) (hs:starEach [e] X.env=[(false,eval e X.env)]:=by rfl) :
  PE X (.Call (.Attribute (.Name x p) "get" apos) [e] [] cpos) (zlP kvs te):=by
 intro pins s σ H Q I h'
 obtain⟨o,es,ep,lo,ex,da,en⟩:=D.ex
 have at1:∀ {s:Shared}{σ:St}{H:Hp},Inv X pins σ H s→s.heap.get? a=some o:=fun {s σ H} I=>I.kIn a o lo
 refine wpAny_Call_method_late hbase hfew hline rfl (zdm I hg hm ?_ hd)
 refine⟨"dict","dict.get",PySem.F.plainAttrs_dict,PySem.F.slot_dict_get,PySem.F.type_dict_get,⟨o,at1 I,ex.1⟩,fun b hb=>?_,?_⟩
 ·cases hb;exact⟨o,at1 I,ex.2.1⟩
 have hA:=pa_cons (X:=X) he pa_nil hs cpos pins s σ H (fun vs H2=>∃ i,vs=[.int i]∧Q (valI kvs i) H2) I (by
  show te σ H _
  exact h')
 rw[hs]at hA ⊢
 refine Calls.callWith_builtin rfl (Calls.evalArgs_plain (thn hA fun us s2 ⟨vs,H2,I2,r2,i,ei,q2⟩=>?_))
 subst ei
 obtain⟨u,rfl,t,rfl⟩:=r2.one
 obtain⟨ws,p,ks,em,val⟩:=en.pairs (P:=X.prog) (w:=X.w)
 have dd:s2.heap.DictOf (intKind X.prog X.w) a ws:=⟨o,es,ep,at1 I2,ex,da,fun e he=>ks e (by simpa using he),p,by rw[em];exact D.nd⟩
 obtain⟨r,e1,e2⟩:=val i
 have isk:(intKind X.prog X.w).is i (.int i t)=true:=by show Value.isInt i (.int i t)=true;simp[Value.isInt]
 refine call_meetsIn PySem.F.slot_dict_get dd.typeIs PySem.F.entry_dict_get (PySem.F.args_dict_get_2 _ _) (meets_dict_get (intKind X.prog X.w) a isk D.ns) ⟨_,dd.mapOf,?_⟩
 show EP X pins σ Q ((valueAt ws i).getD .none) _
 unfold valueAt
 rw[e1]
 exact⟨_,H2,I2.tok _,e2,q2⟩
end
end L2
namespace L2
open PySem PySem.Spec PyProof.Rows Own
section
variable {X:Cx}
theorem zdj:OpR X (binaryOp .Add) (fun x y H Q=>∃ a b xs ys,x=.ref a∧y=.ref b∧H a=some (.tup xs)∧H b=some (.tup ys)∧xs.length+ys.length≤sizeLine∧∀ r H',Same H H'→H' r=some (.tup (xs++ys))→Q (.ref r) H'):=by
 intro pins s σ H x y v u Q I rx ry h
 obtain⟨a,b,xs,ys,rfl,rfl,ha,hb,hz,q⟩:=h
 by_cases hx:xs=[]
 ·subst hx
  cases rx;cases ry
  obtain⟨its,r1,p1,_⟩:=I.tuple (SqT.of ha)
  obtain⟨jts,r2,p2,_⟩:=I.tuple (SqT.of hb)
  cases r1
  obtain⟨⟨c1,d1,e1,sl1⟩,o1,c1',n1,e1'⟩:=p1
  obtain⟨⟨c2,d2,e2,sl2⟩,o2,c2',n2,e2'⟩:=p2
  simp only at c1' e1' c2' e2'
  subst c1' e1' c2' e2'
  refine concat_meets ⟨_,o1,rfl⟩ ⟨_,o2,rfl⟩ noFill_tuple_add seq_tuple_add PySem.F.slot_tuple_add PySem.F.entry_tuple_add (PySem.F.args_tuple_add_2 _ _) (tuple_addW0 a b #[] jts.toArray n1 n2 d1 d2 sl1 sl2 rfl) ⟨o1,o2,?_⟩
  exact⟨.ref b,H,I,rfl,q b H (Same.refl H) (by rw[List.nil_append];exact hb)⟩
 ·exact zkd pins s σ H _ _ v u Q I rx ry ⟨a,b,xs,ys,rfl,rfl,SqT.of ha,SqT.of hb,hx,hz,fun e=>q a H (Same.refl H) (by rw[e,List.append_nil];exact ha),fun _ p hp=>q p _ (zaa hp _) zab⟩
theorem zdc:SlR X (fun x lo hi H Q=>∃ a xs,x=.ref a∧H a=some (.tup xs)∧∀ p H',Same H H'→H' p=some (.tup (cutV xs lo hi))→Q (.ref p) H'):=by
 intro pins s σ H x v vl vu lo hi sl Q I rx hs pl pu h
 obtain⟨a,xs,rfl,hx,q⟩:=h
 by_cases hw:HT.sIx xs.length 0 lo=0∧HT.sIx xs.length xs.length hi=xs.length
 ·cases rx
  obtain⟨its,r,ht,hz⟩:=I.tuple (SqT.of hx)
  have hlen:its.toArray.size=xs.length:=by rw[List.size_toArray];exact r.length.symm
  refine⟨"tuple",_,PyProof.Rows.slot_tuple_getitem.lookup,ht.typeIs,zeM ht hs pl pu (by rw[hlen];exact hw.1) (by rw[hlen];exact hw.2) ⟨.ref a,H,I,rfl,q a H (Same.refl H) ?_⟩⟩
  unfold cutV
  rw[hw.1,hw.2,List.drop_zero,Nat.sub_zero,List.take_length]
  exact hx
 ·exact zk6 pins s σ H _ v vl vu lo hi sl Q I rx hs pl pu ⟨a,xs,rfl,SqT.of hx,hw,fun p hp=>q p _ (zaa hp _) zab⟩
end
theorem zca (xs:List V) (i:Nat) (h:i≤xs.length):cutV xs none (some (i:Int))=xs.take i:=by
 unfold cutV
 rw[HT.sIx_none,HT.sIx_nat,List.drop_zero,Nat.sub_zero,Nat.min_eq_left h]
theorem zcb (xs:List V) (i:Nat) (h:i≤xs.length):cutV xs (some (i:Int)) none=xs.drop i:=by
 unfold cutV
 rw[HT.sIx_none,HT.sIx_nat,Nat.min_eq_left h]
 exact List.take_of_length_le (by rw[List.length_drop];exact Nat.le_refl _)
section
variable {X:Cx}
theorem zhI {A:Around}{s:Shared}{ns ms:List Int}{its jts:List Value}(r1:Vals (ns.map V.int) its) (r2:Vals (ms.map V.int) jts) (j:Nat) (h1:j<its.toArray.size) (h2:j<jts.toArray.size) :
  SeqAt.EqAt A s its.toArray[j] jts.toArray[j] (eqV ((ns.map V.int).getD j .non) ((ms.map V.int).getD j .non)):=by
 have k1:j<(ns.map V.int).length:=by rw[r1.length];simpa using h1
 have k2:j<(ms.map V.int).length:=by rw[r2.length];simpa using h2
 obtain⟨a,ea,qa⟩:=r1.get (List.getElem?_eq_getElem k1)
 obtain⟨b,eb,qb⟩:=r2.get (List.getElem?_eq_getElem k2)
 have ga:its.toArray[j]=a:=by simpa using (List.getElem?_eq_some_iff.mp ea).2
 have gb:jts.toArray[j]=b:=by simpa using (List.getElem?_eq_some_iff.mp eb).2
 have fl:=zdX ns
 have fm:=zdX ms
 rw[ga,gb,List.getD_eq_getElem?_getD,List.getD_eq_getElem?_getD,List.getElem?_eq_getElem k1,List.getElem?_eq_getElem k2]
 exact zjr qa qb (List.all_eq_true.mp fl _ (List.getElem_mem k1)) (List.all_eq_true.mp fm _ (List.getElem_mem k2))
theorem zja {ns ms:List Int}(h:ns.length=ms.length):((List.range ns.length).all fun j=>eqV ((ns.map V.int).getD j .non) ((ms.map V.int).getD j .non))=decide (ns=ms):=by
 rw[← zlJ ns ms,List.length_map,List.length_map,h,Nat.min_self,beq_self_eq_true,Bool.and_true]
theorem zkc (hu:X.A.units<cLine):OpR X (compareOp .Eq) (fun x y H Q=>∃ a b ns ms,x=.ref a∧y=.ref b∧SqL X.K H a (List.map V.int ns)∧SqL X.K H b (List.map V.int ms)∧Q (.bl (decide (ns=ms))) H):=by
 rintro pins s σ H x y v u Q I rx ry ⟨a,b,ns,ms,rfl,rfl,ha,hb,q⟩
 cases rx;cases ry
 obtain⟨its,r1,p1,_⟩:=I.list ha
 obtain⟨jts,r2,p2,_⟩:=I.list hb
 have l1:its.length=ns.length:=by rw[← r1.length,List.length_map]
 have l2:jts.length=ms.length:=by rw[← r2.length,List.length_map]
 by_cases e:ns.length=ms.length
 ·refine SeqAt.RcAt.lists p1.isList p2.isList (by simpa [l1,l2] using e) hu (zhI r1 r2) X.prog X.w _ _ ?_
  rw[List.size_toArray,l1,zja e]
  exact⟨.bl _,H,I,rfl,q⟩
 ·refine SeqAt.RcAt.lists_lengths p1.isList p2.isList (by simpa [l1,l2] using e) hu X.prog X.w _ _ ?_
  rw[decide_eq_false (fun z=>e (congrArg List.length z))]at q
  exact⟨.bl _,H,I,rfl,q⟩
end
theorem zdJ {h:Heap}:∀ (vs:List Value) (ds:List PyData),vs.length=ds.length→(∀ (j:Nat) (v:Value) (d:PyData),vs[j]?=some v→ds[j]?=some d→∃ as,Reads h v d as)→∃ as,ReadsAll h vs ds as
 | [],[],_,_=>⟨_,.nil⟩
 | v::vs,d::ds,hl,q=>by
  obtain⟨as,r⟩:=q 0 v d rfl rfl
  obtain⟨bs,r'⟩:=zdJ vs ds (by simpa using hl) fun j v' d' e1 e2=>q (j+1) v' d' (by simpa using e1) (by simpa using e2)
  exact⟨_,.cons r r'⟩
section
variable {X:Cx}
end
def FlD (x:V) (d:PyData):Prop:=(∃ i,x=.int i∧d=.int i)∨(∃ z,x=.str z∧d=.str z∧(PyData.str z).canLay0=true)∨(∃ b,x=.bl b∧d=.bool b)∨(x=.non∧d=.none)
def DD (H:Hp):Nat→V→PyData→Prop
 | 0,x,d=>FlD x d
 | n+1,x,d=>FlD x d∨∃ a xs ds,x=.ref a∧xs.length=ds.length∧((d=.tuple ds∧H a=some (.tup xs))∨(d=.list ds∧H a=some (.lst xs)))∧∀ (j:Nat) (u:V) (e:PyData),xs[j]?=some u→ds[j]?=some e→DD H n u e
theorem DD.same {H H':Hp}(s:Same H H'):∀ {n:Nat}{x:V}{d:PyData},DD H n x d→DD H' n x d
 | 0,_,_,h=>h
 | n+1,_,_,h=>by
  rcases h with h|⟨a,xs,ds,e1,e2,h1,h2⟩
  ·exact .inl h
  ·refine .inr ⟨a,xs,ds,e1,e2,?_,fun j u e p q=>DD.same s (h2 j u e p q)⟩
   rcases h1 with ⟨y,z⟩|⟨y,z⟩
   ·exact .inl ⟨y,s _ _ z⟩
   ·exact .inr ⟨y,s _ _ z⟩
theorem DD.fl {H:Hp}{n:Nat}{x:V}{d:PyData}(h:FlD x d):DD H n x d:=by
 cases n
 ·exact h
 ·exact .inl h
theorem DD.i {H:Hp}{n:Nat}(i:Int):DD H n (.int i) (.int i):=DD.fl (.inl ⟨i,rfl,rfl⟩)
theorem DD.tup {H:Hp}{n:Nat}{a:Addr}{xs:List V}{ds:List PyData}(h:H a=some (.tup xs)) (l:xs.length=ds.length) (f:∀ (j:Nat) (u:V) (e:PyData),xs[j]?=some u→ds[j]?=some e→DD H n u e):DD H (n+1) (.ref a) (.tuple ds):=.inr ⟨a,xs,ds,rfl,l,.inl ⟨rfl,h⟩,f⟩
theorem DD.lst {H:Hp}{n:Nat}{a:Addr}{xs:List V}{ds:List PyData}(h:H a=some (.lst xs)) (l:xs.length=ds.length) (f:∀ (j:Nat) (u:V) (e:PyData),xs[j]?=some u→ds[j]?=some e→DD H n u e):DD H (n+1) (.ref a) (.list ds):=.inr ⟨a,xs,ds,rfl,l,.inr ⟨rfl,h⟩,f⟩
theorem dd_row {H:Hp}{n:Nat}{α:Type}{f:α→V}{g:α→PyData}{l:List α}(h:∀ x∈l,DD H n (f x) (g x)):(l.map f).length=(l.map g).length∧∀ (j:Nat) (u:V) (e:PyData),(l.map f)[j]?=some u→(l.map g)[j]?=some e→DD H n u e:=by
 refine⟨by rw[List.length_map,List.length_map],fun j u e p q=>?_⟩
 rw[List.getElem?_map]at p q
 cases z:l[j]? with
 | none=>rw[z]at p;cases p
 | some x =>
  rw[z]at p q
  obtain rfl:=Option.some.inj p
  obtain rfl:=Option.some.inj q
  exact h x (List.mem_of_getElem? z)
theorem zkO {H:Hp}{n:Nat}{a:Addr}{xs:List Int}(h:H a=some (.tup (xs.map V.int))):DD H (n+1) (.ref a) (.tuple (xs.map PyData.int)) :=
 let ⟨p,q⟩:=dd_row (H:=H) (n:=n) (f:=V.int) (g:=PyData.int) (l:=xs) fun x _=>DD.i x
 DD.tup h p q
theorem zh9:∀ {ds:List PyData}{n:Nat},(∀ e∈ds,e.canLay0=true∧e.depth≤n)→PyData.canLayAll0 ds=true∧PyData.depthAll ds≤n
 | [],_,_=>⟨rfl,Nat.zero_le _⟩
 | d::ds,n,h=>by
  obtain⟨a1,a2⟩:=h d List.mem_cons_self
  obtain⟨b1,b2⟩:=zh9 (ds:=ds) fun e he=>h e (List.mem_cons_of_mem _ he)
  refine⟨?_,?_⟩
  ·show (d.canLay0 && PyData.canLayAll0 ds)=true
   rw[a1,b1];rfl
  ·show max d.depth (PyData.depthAll ds)≤n
   lia
theorem FlD.ok {x:V}{d:PyData}(h:FlD x d):d.canLay0=true∧d.depth≤0:=by
 rcases h with ⟨i,_,rfl⟩|⟨z,_,rfl,e⟩|⟨b,_,rfl⟩|⟨_,rfl⟩
 ·exact⟨rfl,Nat.le_refl _⟩
 ·exact⟨e,Nat.le_refl _⟩
 ·exact⟨rfl,Nat.le_refl _⟩
 ·exact⟨rfl,Nat.le_refl _⟩
theorem DD.ok {H:Hp}:∀ {n:Nat}{x:V}{d:PyData},DD H n x d→d.canLay0=true∧d.depth≤n
 | 0,_,_,h=>FlD.ok h
 | n+1,_,_,h=>by
  rcases h with h|⟨a,xs,ds,e1,e2,h1,h2⟩
  ·have:=FlD.ok h
   exact⟨this.1,by lia⟩
  ·obtain⟨p,q⟩:=zh9 (n:=n) (ds:=ds) fun e he=>by
    obtain⟨j,jl,ej⟩:=List.getElem_of_mem he
    exact(h2 j _ e (List.getElem?_eq_getElem (by lia)) (by rw[List.getElem?_eq_getElem jl,ej])).ok
   rcases h1 with ⟨rfl,_⟩|⟨rfl,_⟩
   ·exact⟨p,Nat.succ_le_succ q⟩
   ·exact⟨p,Nat.succ_le_succ q⟩
section
variable {X:Cx}
theorem FlD.reads {h:Heap}{x:V}{d:PyData}{v:Value}(f:FlD x d) (r:RelV x v):∃ as,Reads h v d as:=by
 rcases f with ⟨i,rfl,rfl⟩|⟨z,rfl,rfl,e⟩|⟨b,rfl,rfl⟩|⟨rfl,rfl⟩
 ·obtain⟨t,rfl⟩:=r
  exact⟨_,.int i t⟩
 ·obtain⟨t,rfl⟩:=r
  exact⟨_,.str z t⟩
 ·cases r
  exact⟨_,.bool b⟩
 ·cases r
  exact⟨_,.none⟩
theorem DD.reads {pins:List (Addr × Obj)}{σ:St}{H:Hp}{s:Shared}(I:Inv X pins σ H s):∀ (n:Nat) (x:V) (d:PyData) (v:Value),DD H n x d→RelV x v→∃ as,Reads s.heap v d as
 | 0,x,d,v,h,r=>FlD.reads h r
 | n+1,x,d,v,h,r=>by
  rcases h with h|⟨a,xs,ds,rfl,hl,h1,hx⟩
  ·exact FlD.reads h r
  ·cases r
   have key:∀ its:List Value,Vals xs its→∃ as,ReadsAll s.heap its ds as:=fun its g=>by
    have gl:=g.length
    exact zdJ (h:=s.heap) its ds (by lia) fun j v' d' e1 e2=>by
     have jl:j<xs.length:=by have:=(List.getElem?_eq_some_iff.mp e1).1;lia
     obtain⟨w',f1,f2⟩:=g.get (List.getElem?_eq_getElem jl)
     obtain rfl:=Option.some.inj (e1.symm.trans f1)
     exact DD.reads I n _ _ _ (hx j _ _ (List.getElem?_eq_getElem jl) e2) f2
   rcases h1 with ⟨rfl,ha⟩|⟨rfl,ha⟩
   ·obtain⟨its,g,⟨o,eo,co,m,dm⟩,_⟩:=I.tuple (SqT.of ha)
    obtain⟨as,ra⟩:=key its g
    exact⟨as,.tuple eo co dm (by simpa using ra)⟩
   ·obtain⟨its,g,p,_⟩:=I.list (SqL.of ha)
    obtain⟨as,ra⟩:=key its g
    obtain⟨o,eo,co,m,dm⟩:=p.isList
    exact⟨_,.list eo co dm (by simpa using ra)⟩
end
end L2
namespace L2
open PySem PySem.Spec PyProof.Rows
abbrev e2 (elt tg iter tg1 iter1:Expr) (ifs:List Expr) (scope:Scope) (pos:Pos):Expr:=.ListComp elt [⟨tg,iter,[],0⟩,⟨tg1,iter1,ifs,0⟩] scope pos
theorem zgm (elt tg iter tg1 iter1:Expr) (ifs:List Expr) (scope:Scope) (pos:Pos) (it acc:Value) (env:Env) :
  compTurn (e2 elt tg iter tg1 iter1 ifs scope pos) 0 it acc env=(standAt iter.pos >>= fun _=>pyNext it >>= fun r=>match r with
   | none=>pure (.done .next)
   | some v=>letOwnedTupleGo tg it v >>= fun _=>assign tg env v >>= fun _ =>
    (eval iter1 env >>= fun x=>standAt iter1.pos >>= fun _=>foldedSetIterable iter1 env x >>= fun x=>holding [x] (pyIter x) >>= fun i1=>runOwn (.compStart (e2 elt tg iter tg1 iter1 ifs scope pos) 1 i1 acc env) env >>= fun _ =>
     again (.compLoop (e2 elt tg iter tg1 iter1 ifs scope pos) 0 it acc env))):=by rfl
theorem zgl (elt tg iter tg1 iter1:Expr) (scope:Scope) (pos:Pos) (it acc:Value) (env:Env) :
  compTurn (e2 elt tg iter tg1 iter1 [] scope pos) 1 it acc env=(standAt iter1.pos >>= fun _=>pyNext it >>= fun r=>match r with
   | none=>pure (.done .next)
   | some v=>letOwnedTupleGo tg1 it v >>= fun _=>assign tg1 env v >>= fun _ =>
    ((eval elt env >>= fun x=>call (.builtin "list.append") [acc,x] >>= fun _=>pure ()) >>= fun _ =>
     again (.compLoop (e2 elt tg iter tg1 iter1 [] scope pos) 1 it acc env))):=by rfl
theorem zfB (elt tg iter tg1 iter1 c:Expr) (scope:Scope) (pos:Pos) (it acc:Value) (env:Env) :
  compTurn (e2 elt tg iter tg1 iter1 [c] scope pos) 1 it acc env=(standAt iter1.pos >>= fun _=>pyNext it >>= fun r=>match r with
   | none=>pure (.done .next)
   | some v=>letOwnedTupleGo tg1 it v >>= fun _=>assign tg1 env v >>= fun _=>(forIn [c] true fun c r=>if r=true then (isTrue c env (eval c env) >>= fun ok=>pure (ForInStep.yield ok)) else pure (ForInStep.yield r)) >>= fun ok =>
    if ok=true then
    ((eval elt env >>= fun x=>call (.builtin "list.append") [acc,x] >>= fun _=>pure ()) >>= fun _ =>
     again (.compLoop (e2 elt tg iter tg1 iter1 [c] scope pos) 1 it acc env)) else again (.compLoop (e2 elt tg iter tg1 iter1 [c] scope pos) 1 it acc env)):=by rfl
section
variable {prog:Program}{w:World}{A:Around}{R:Result→Shared→Prop}{s:Shared}{elt tg iter tg1 iter1:Expr}{scope:Scope}{pos:Pos}{it acc:Value}{env:Env}
theorem zeP {ifs:List Expr}
  (h0:codeAny (model prog w) A (.compLoop (e2 elt tg iter tg1 iter1 ifs scope pos) 1 it acc env) R s)
  (h:wpAny (model prog w) A (pyIter it) (fun i2 z=>codeAny (model prog w) A (.compLoop (e2 elt tg iter tg1 iter1 ifs scope pos) 1 i2 acc env) R z) NoX s) :
  codeAny (model prog w) A (.compStart (e2 elt tg iter tg1 iter1 ifs scope pos) 1 it acc env) R s:=by
 refine codeAny_of_tree ?_
 show wpAny _ A ((compStart (e2 elt tg iter tg1 iter1 ifs scope pos) 1 it acc env).onRaise (fun x=>do noteFrame x env;standAt theWindowsPlace)) _ _ s
 refine wpAny_notedAt ?_
 unfold compStart
 refine(show wpAny _ _ (ask >>= _) _ _ s from wpAny_bind (wpAny_askSetting (wpAny_ite ?_)))
 split
 ·first
   | exact wpAny_bind (wpAny_pure (wpAny_pure ⟨rfl,h0⟩))
   | exact wpAny_pure ⟨rfl,h0⟩
 ·apply wpAny_bind;refine wpAny_rule ?_
  first
   | exact wpAny_bind (wpAny_standAt (wpAny_bind (wpAny_mono h (fun it' s' h'=>wpAny_pure ⟨rfl,h'⟩) fun _ _ z=>z.elim)))
   | (show wpAny _ _ (standAt iter1.pos >>= _) _ _ s;exact wpAny_bind (wpAny_standAt (wpAny_bind (wpAny_mono h (fun it' s' h'=>wpAny_pure ⟨rfl,h'⟩) fun _ _ z=>z.elim))))
theorem zgh {o:Option Expr}(J:Nat→Shared→Prop)
  (turn:∀ n s,J n s→Go (model prog w) A tg1 elt o it acc env R (fun z=>∃ m,m<n∧J m z) s) (n:Nat) (h:J n s) :
  codeAny (model prog w) A (.compLoop (.ListComp elt [⟨tg,iter,[],0⟩,⟨tg1,iter1,o.toList,0⟩] scope pos) 1 it acc env) R s:=by
 cases o with
 | none =>
  refine codeAny_loop rfl J (fun n s hI=>?_) n h
  show wpAny _ A ((compTurn (e2 elt tg iter tg1 iter1 [] scope pos) 1 it acc env).onRaise (fun x=>do noteFrame x env;theTreesLotGoes x)) _ _ s
  refine wpAny_noted ?_
  rw[zgl]
  refine wpAny_bind (wpAny_standAt (wpAny_bind (wpAny_mono (turn n s hI) (fun r a h1=>?_) fun _ _ z=>z.elim)))
  cases r with
  | none=>exact wpAny_pure h1
  | some v =>
   refine wpAny_bind (wpAny_mono h1 (fun _ b h2=>?_) fun _ _ z=>z.elim)
   refine wpAny_bind (wpAny_mono h2 (fun _ c h3=>?_) fun _ _ z=>z.elim)
   have h3':wpAny (model prog w) A (eval elt env) (fun x e=>wpAny (model prog w) A (call (.builtin "list.append") [acc,x]) (fun _ f=>∃ m,m<n∧J m f) NoX e) NoX c:=h3
   exact wpAny_bind (wpAny_bind (wpAny_mono h3' (fun x d h4=>wpAny_bind (wpAny_mono h4 (fun _ e h5=>wpAny_pure (wpAny_pure ⟨rfl,h5⟩)) fun _ _ z=>z.elim)) fun _ _ z=>z.elim))
 | some t =>
  refine codeAny_loop rfl J (fun n s hI=>?_) n h
  show wpAny _ A ((compTurn (e2 elt tg iter tg1 iter1 [t] scope pos) 1 it acc env).onRaise (fun x=>do noteFrame x env;theTreesLotGoes x)) _ _ s
  refine wpAny_noted ?_
  rw[zfB]
  refine wpAny_bind (wpAny_standAt (wpAny_bind (wpAny_mono (turn n s hI) (fun r a h1=>?_) fun _ _ z=>z.elim)))
  cases r with
  | none=>exact wpAny_pure h1
  | some v =>
   refine wpAny_bind (wpAny_mono h1 (fun _ b h2=>?_) fun _ _ z=>z.elim)
   refine wpAny_bind (wpAny_mono h2 (fun _ c h3=>?_) fun _ _ z=>z.elim)
   have h3':wpAny (model prog w) A (isTrue t env (eval t env)) (fun yes d=>if yes=true then wpAny (model prog w) A (eval elt env) (fun x e=>wpAny (model prog w) A (call (.builtin "list.append") [acc,x]) (fun _ f=>∃ m,m<n∧J m f) NoX e) NoX d else ∃ m,m<n∧J m d) NoX c:=h3
   refine wpAny_bind (wpAny_tests_one (wpAny_mono h3' (fun yes d h4=>?_) fun _ _ z=>z.elim))
   cases yes with
   | false=>exact wpAny_pure ⟨rfl,h4⟩
   | true=>exact wpAny_bind (wpAny_bind (wpAny_mono h4 (fun x e h5=>wpAny_bind (wpAny_mono h5 (fun _ f h6=>wpAny_pure (wpAny_pure ⟨rfl,h6⟩)) fun _ _ z=>z.elim)) fun _ _ z=>z.elim))
theorem zgi {ifs:List Expr}(J:Nat→Shared→Prop)
  (turn:∀ n s,J n s→wpAny (model prog w) A (pyNext it) (fun r a=>match r with
   | none=>R (.ok .next) a
   | some v=>wpAny (model prog w) A (letOwnedTupleGo tg it v) (fun _ b=>wpAny (model prog w) A (assign tg env v) (fun _ c=>wpAny (model prog w) A (eval iter1 env) (fun x d=>wpAny (model prog w) A (pyIter x) (fun i1 e =>
     codeAny (model prog w) A (.compStart (e2 elt tg iter tg1 iter1 ifs scope pos) 1 i1 acc env) (fun r f=>match r with|.ok _=>∃ m,m<n∧J m f|.error _=>False) e) NoX d) NoX c) NoX b) NoX a) NoX s) (n:Nat) (h:J n s)
  (hs:∀ x,foldedSetIterable iter1 env x=pure x) :
  codeAny (model prog w) A (.compLoop (e2 elt tg iter tg1 iter1 ifs scope pos) 0 it acc env) R s:=by
 refine codeAny_loop rfl J (fun n s hI=>?_) n h
 show wpAny _ A ((compTurn (e2 elt tg iter tg1 iter1 ifs scope pos) 0 it acc env).onRaise (fun x=>do noteFrame x env;theTreesLotGoes x)) _ _ s
 refine wpAny_noted ?_
 rw[zgm]
 refine wpAny_bind (wpAny_standAt (wpAny_bind (wpAny_mono (turn n s hI) (fun r a h1=>?_) fun _ _ z=>z.elim)))
 cases r with
 | none=>exact wpAny_pure h1
 | some v =>
  refine wpAny_bind (wpAny_mono h1 (fun _ b h2=>?_) fun _ _ z=>z.elim)
  refine wpAny_bind (wpAny_mono h2 (fun _ c h3=>?_) fun _ _ z=>z.elim)
  refine wpAny_bind (wpAny_mono h3 (fun x d h4=>?_) fun _ _ z=>z.elim)
  refine wpAny_bind (wpAny_standAt (wpAny_bind (wpAny_of_eq (hs x) (wpAny_bind (wpAny_holding (wpAny_mono h4 (fun i1 e h5=>?_) fun _ _ z=>z.elim))))))
  refine wpAny_bind (wpAny_runOwn (codeAny_mono h5 (fun r f h6=>?_)))
  cases r with
  | ok fl=>exact wpAny_pure ⟨rfl,h6⟩
  | error x=>exact h6.elim
end
def LCW1 (J:It) (g:TG) (tt:TT) (te:TE) (l:Addr) (Q:List V→St→Hp→Prop) (W:Nat→Nat→List V→St→Hp→Prop):Prop :=
 ∀ i m acc σ' H',W i m acc σ' H'→H' l=some (.lst acc) ∧
  ((J.stop i H'∧Q acc σ' H')∨(J.go i H'∧∀ x H2,J.yld i H' x H2→g x σ' H2 fun σ3 H3=>tt σ3 H3 fun b H4 =>
   if b=true then te σ3 H4 fun y H5=>H5 l=some (.lst acc)∧acc.length<sizeLine∧∃ m',m'<m∧W (i+1) m' (acc++[y]) σ3 (upd H5 l (.lst (acc++[y])))
   else ∃ m',m'<m∧W (i+1) m' acc σ3 H4))
def tLC2 (cap:List (Option Nat)) (wi:TI) (g:TG) (wi1:TI) (g1:TG) (tt:TT) (te:TE):TE:=fun σ H Q=>wi σ H fun J H1=>∀ l,H1 l=none →
 ∃ W:Nat→Nat→List V→St→Hp→Prop,(∃ m,W 0 m [] (capσ cap σ) (upd H1 l (.lst []))) ∧
  ∀ i m acc σ' H',W i m acc σ' H'→H' l=some (.lst acc)∧((J.stop i H'∧Q (.ref l) H')∨(J.go i H'∧∀ x H2,J.yld i H' x H2→g x σ' H2 fun σ3 H3=>wi1 σ3 H3 fun J1 H4 =>
   ∃ W1:Nat→Nat→List V→St→Hp→Prop,(∃ m1,W1 0 m1 acc σ3 H4)∧LCW1 J1 g1 tt te l (fun ac τ G=>∃ m',m'<m∧W (i+1) m' ac τ G) W1))
theorem zfn {X:Cx}{elt tg iter tg1 iter1:Expr}{o:Option Expr}{scope:Scope}{pos ppos:Pos}{wi wi1:TI}{g g1:TG}{tt:TT}{te:TE}{N':List Str}{cap:List (Option Nat)}{use:Option (Value→Sem Unit)}{Q0:Value→Shared→Prop}
  (hc:X.calm=true) (hi:PI X tg iter wi) (ck:CapOk X.N N' X.env.scope scope cap)
  (hg:∀ C s₀ H₀ fp pins,PG (zar X N' scope C s₀ H₀ fp pins) tg g)
  (hi1:∀ C s₀ H₀ fp pins,PI (zar X N' scope C s₀ H₀ fp pins) tg1 iter1 wi1)
  (hg1:∀ C s₀ H₀ fp pins,PG (zar X N' scope C s₀ H₀ fp pins) tg1 g1)
  (ht:∀ C s₀ H₀ fp pins,PTo (zar X N' scope C s₀ H₀ fp pins) o tt)
  (he:∀ C s₀ H₀ fp pins,PE (zar X N' scope C s₀ H₀ fp pins) elt te)
  (hs:∀ x,foldedSetIterable iter X.env x=pure x) (hs1:∀ C x,foldedSetIterable iter1 (compEnvC scope (clOf X.env.cells scope.names []) C X.env) x=pure x) {pins:List (Addr × Obj)}{s:Shared}{σ:St}{H:Hp}{Q:VK}(I:Inv X pins σ H s) (h:tLC2 cap wi g wi1 g1 tt te σ H Q)
  (fin:∀ (l C:Addr) (H4:Hp) (s5:Shared) (m:Str→Option Value),Inv X pins σ H4 s5→Q (.ref l) H4→s5.heap.Ns C m→FpOk X pins H4 C→compPost (model X.prog X.w) X.A X.xe use Q0 (.ref l) C (.ok .next) s5) :
  wpAny (model X.prog X.w) X.A (comprehension (.ListComp elt [⟨tg,iter,[],0⟩,⟨tg1,iter1,o.toList,0⟩] scope pos) scope X.env ppos (newList []) false (eval iter X.env) use) Q0 X.xe s:=by
 have hcells:∀ y∈scope.names,y.2=.free→∃ c,X.env.cells.lookup y.1=some c:=fun y hy hf=>I.ok.has y.1 (ck.free y hy hf)
 refine wpAny_comprehension_free (use:=use) rfl hs (zcR hcells) ck.kind ck.names (thn (hi pins s σ H _ I h) fun v s1 h1=>thn h1 fun itv s2 h2=>?_)
 obtain⟨it,fp,tn,J,H2,e,I2,T,st2,f2,body⟩:=h2
 subst e
 have hfr2:H2 s2.heap.objs.size=none:=I2.hok.fresh (Nat.le_refl _)
 obtain⟨W,⟨m0,w0⟩,turn⟩:=body s2.heap.objs.size hfr2
 have I3:Inv X pins σ (upd H2 s2.heap.objs.size (.lst [])) { s2 with heap:=s2.heap.push { cls:=.type "list",data:=.seq ([]:List Value).toArray },toks:=s2.toks }:=I2.lnew (its:=[]) (t':=s2.toks) .nil (Nat.zero_le _)
 refine wpAny_newObj_type (wpAny_newFunctionEnv ck.nocell (by intro y hy;simp at hy) (fun h₁ hns₁ hsb₁=>?_) ck.kind)
 dsimp only at hns₁ hsb₁ ⊢
 generalize hl:s2.heap.objs.size=l at *
 generalize hP:s2.heap.push { cls:=.type "list",dict:=none,data:=.seq ([]:List Value).toArray }=P2 at *
 generalize hH3:upd H2 l (.lst [])=H3 at *
 have old:∀ b o,P2.get? b=some o→h₁.get? b=some o:=fun b o e=>hsb₁.extBut b o (Nat.ne_of_lt (Heap.lt_size e)) (Heap.get?_push_of_some _ e)
 have old2:∀ b o,s2.heap.get? b=some o→P2.get? b=some o:=fun b o e=>hP ▸ Heap.get?_push_of_some _ e
 have fpl:∀ b∈fp,b<l:=fun b hb=>by
  obtain⟨o,e,_⟩:=T.obj _ _ st2 b hb
  rw[← hl];exact Heap.lt_size e
 have fp3:∀ b∈fp,H3 b=none:=fun b hb=>by
  rw[← hH3,zae (Nat.ne_of_lt (fpl b hb))];exact(f2 b hb).1
 have hPs:P2.objs.size=l+1:=by rw[← hP,Heap.size_push,hl]
 have subc:∀ x c,(clOf X.env.cells scope.names []).lookup x=some c→X.env.cells.lookup x=some c:=fun x c e=>zcc _ _ x c hcells (fun _ _ z=>by simp at z) e
 generalize hs3:({ s2 with heap:=P2,toks:=s2.toks }:Shared)=s3 at *
 have hs3h:s3.heap=P2:=by rw[← hs3]
 let Y:=zar X N' scope P2.objs.size s3 H3 fp pins
 have hYok:Y.Ok:=by
  refine⟨I3.ok.mod,ck.kind,I3.ok.glob,I3.ok.blt,by show s3.heap.objs.size≤P2.objs.size;rw[hs3h];exact Nat.le_refl _,fun x y c e1 e2=>I3.ok.inj x y c (subc x c e1) (subc y c e2),fun x hx=>?_,fun x c hx=>absurd (show false=true from hx) Bool.false_ne_true,I3.ok.hd,I3.ok.frames,.inl rfl,fun b hb=>⟨?_,fun x c e=>?_⟩,I3.bs,
   Nat.le_trans I3.ok.bsz I3.sz,fun b o e hb=>?_,fun b hb hz=>?_,I3.stack,I3.stkFree⟩
  ·have hx':scope.names.lookup x=some .free:=by
    rcases hx with hx|hx
    ·rcases zaR hx with z|z
     ·exact absurd rfl (ck.nocell _ (zbR z))
     ·exact z.2
    ·rcases zaR hx with z|z
     ·exact z
     ·exact z.2
   exact zbp _ _ x hx'
  ·exact Nat.ne_of_lt (by show b<P2.objs.size;rw[hPs];exact Nat.lt_succ_of_lt (fpl b hb))
  ·exact(f2 b hb).2.2.2.2.1 x c (subc x c e)
  ·rcases (f2 b hb).2.2.2.1 with z|z
   ·exact I3.ok.noex b o e z
   ·exact absurd (Nat.lt_of_lt_of_le (Heap.lt_size e) (Nat.le_trans I3.ok.bsz z)) (Nat.lt_irrefl _)
  ·rcases List.mem_cons.mp (I3.stkSub b hz) with z|z
   ·exact(f2 b hb).2.1 z
   ·exact(f2 b hb).2.2.1 z
 have hYi:Inv Y [] (capσ cap σ) H3 { s2 with heap:=h₁,toks:=s2.toks }:=by
  refine⟨hYok,by show s2.os=s3.os;rw[← hs3],I2.bare,by show Un _ _ _ _ s3.heap h₁;rw[hs3h];exact Un.kept old,⟨_,hns₁,fun j x v e1 e2 e3=>?_⟩,fun x c e=>?_,?_,fun x c e=>I3.freeC x c (subc x c e),fun p hp=>?_,fun b o e=>?_,?_⟩
  ·have e1':N'[j]?=some x:=e1
   unfold capσ at e2
   rw[List.getElem?_map]at e2
   cases ec:cap[j]? with
   | none=>rw[ec]at e2;cases e2
   | some oc =>
    rw[ec]at e2
    cases oc with
    | none=>cases e2
    | some i =>
     have e2':σ[i]?=some (some v):=by
      cases ei:σ[i]? with
      | none=>simp[ei]at e2
      | some v' =>
       simp[ei]at e2
       rw[e2]
     have hz:(x,some i)∈N'.zip cap:=by
      refine List.mem_of_getElem? (i:=j) ?_
      rw[List.getElem?_zip_eq_some]
      exact⟨e1',ec⟩
     obtain⟨hN,hf,hk⟩:=ck.cap _ hz i rfl
     obtain⟨m,hn,hlo⟩:=I3.loc
     obtain⟨u,r,lk⟩:=hlo i x v hN e2' (by rcases hk with z|z;exact .inr (.inl z);exact .inr (.inr z))
     refine⟨u,r,.inr ⟨?_,?_⟩⟩
     ·exact zbZ hf
     ·rcases lk with ⟨z,_⟩|⟨_,c,hcx,hcell⟩
      ·have z':X.env.scope.names.lookup x=some .local:=z
       rcases hk with q|q
       ·rw[q]at z';cases z'
       ·rw[q]at z';cases z'
      ·obtain⟨c',hc'⟩:=zbp (cells:=X.env.cells) scope.names [] x hf
       have:=subc x c' hc'
       rw[hcx]at this;cases this
       obtain⟨ob,e,d⟩:=hcell
       rw[hs3h]at e
       exact⟨c,hc',ob,old c ob e,d⟩
  ·obtain⟨v,ob,e',d⟩:=I3.cell x c (subc x c e)
   rw[hs3h]at e'
   exact⟨v,ob,old c ob e',d⟩
  ·refine I3.hok.fresh ?_
   rw[hs3h];exact Nat.le_refl _
  ·have hp':p∈X.pn++pins:=(List.mem_append.mp hp).elim (fun z=>z) (fun z=>nomatch z)
   obtain⟨e,n,ne,nf,d⟩:=I3.pin p hp'
   rw[hs3h]at e
   refine⟨old _ _ e,n,Nat.ne_of_lt (Heap.lt_size e),fun z=>?_,d⟩
   rcases List.mem_cons.mp (I3.stkSub _ z) with q|q
   ·exact ne q
   ·exact nf q
  ·have:=I3.hok.kept (h':=h₁) (fun b u q=>old b u (by rw[← hs3h];exact q))
   exact this b o e
  ·show (cap.map _).length=N'.length
   rw[List.length_map,ck.len]
 have stat:∀ {H':Hp},(∀ b∈fp,H' b=none)→∀ b∈fp,FpOk Y [] H' b:=fun {H'} hn b hb=>by
  refine⟨hn b hb,(hYok.exf b hb).1,hYok.exfs b hb,.inl hb,(hYok.exf b hb).2,fun p hp=>?_⟩
  have hp':p∈X.pn++pins:=(List.mem_append.mp hp).elim (fun z=>z) (fun z=>nomatch z)
  exact(f2 b hb).2.2.2.2.2 p hp'
 have st1:tn 0 h₁:=T.keep 0 _ _ st2 fun b hb o e=>old b o (old2 b o e)
 have loop:codeAny (model X.prog X.w) X.A (.compLoop (.ListComp elt [⟨tg,iter,[],0⟩,⟨tg1,iter1,o.toList,0⟩] scope pos) 0 (.ref it) (.ref l) Y.env) (compPost (model X.prog X.w) X.A X.xe use Q0 (.ref l) P2.objs.size) { s2 with heap:=h₁,toks:=s2.toks }:=by
  refine zgi (fun n s'=>∃ i acc σ' H',Inv Y [] σ' H' s'∧tn i s'.heap∧(∀ b∈fp,H' b=none)∧W i n acc σ' H') ?_ m0 ⟨0,[],_,H3,hYi,st1,fp3,w0⟩ (hs1 _)
  rintro n s4 ⟨i,acc,σ4,H4,I4,st4,fr4,w4⟩
  obtain⟨hlst,q4⟩:=turn i n acc σ4 H4 w4
  rcases q4 with ⟨stop,qn⟩|⟨go,step⟩
  ·refine thn (T.done Y rfl rfl rfl hc i [] s4 σ4 H4 Y.xe I4 (stat fr4) st4 stop) fun r s5 ⟨hr,I5⟩=>?_
   subst hr
   obtain⟨m,hn,_⟩:=id I5.loc
   have un:Un (frs X.stack) fp H3 H4 s3.heap s5.heap:=I5.base
   have sz3:s3.heap.objs.size≤P2.objs.size:=by rw[hs3h];exact Nat.le_refl _
   have IX:Inv X pins σ H4 s5:=I3.call' (ch:=fp) I5.os un I5.hok I5.bare fun b hb=>⟨(f2 b hb).2.2.2.1,(f2 b hb).2.1,(f2 b hb).2.2.2.2.1,(f2 b hb).2.2.2.2.2⟩
   exact fin l P2.objs.size H4 s5 m IX qn hn (I3.fpOk sz3 I5.free)
  ·refine thn (T.item Y rfl rfl rfl hc i [] s4 σ4 H4 Y.xe I4 (stat fr4) st4 go) fun r s5 ⟨u,hr,h5⟩=>?_
   subst hr
   refine thn h5 fun _ s6 ⟨x,H6,I6,r6,y6,st6,fr6⟩=>?_
   have I6':=I6.pinned (stat fr6) (T.obj _ _ st6)
   refine thn (hg _ _ _ _ _ _ s6 σ4 H6 x u _ I6' r6 (step x H6 y6)) fun _ s7 ⟨σ7,H7,I7,q7⟩=>?_
   have again:∀ {σ9:St}{H9:Hp}{s9:Shared}{acc9:List V},Inv Y ([]++zb0 fp s6.heap) σ9 H9 s9→(∃ m',m'<n∧W (i+1) m' acc9 σ9 H9)→∃ m,m<n∧∃ i acc σ' H',Inv Y [] σ' H' s9∧tn i s9.heap∧(∀ b∈fp,H' b=none)∧W i m acc σ' H':=fun {σ9 H9 s9 acc9} I9 ⟨m',hm,w9⟩=>by
    refine⟨m',hm,i+1,acc9,σ9,H9,I9.unpinned,T.keep _ _ _ st6 fun b hb o e=>(I9.pin (b,o) (List.mem_append_right _ (List.mem_append_right _ (zax hb e)))).1,fun b hb=>?_,w9⟩
    obtain⟨o,e,d⟩:=T.obj _ _ st6 b hb
    exact(I9.pin (b,o) (List.mem_append_right _ (List.mem_append_right _ (zax hb e)))).2.1
   generalize ([]++zb0 fp s6.heap:List (Addr × Obj))=pz at again I7
   refine thn (hi1 _ _ _ _ _ _ s7 σ7 H7 _ I7 q7) fun v1 s8 h8=>thn h8 fun itv1 s9 h9=>?_
   obtain⟨it1,fp1,tn1,J1,H9,e1,I9,T1,st9,f9,W1,⟨m1,w1⟩,turn1⟩:=h9
   subst e1
   have stat1:∀ {H':Hp},(∀ b∈fp1,H' b=none)→∀ b∈fp1,FpOk Y pz H' b:=fun hn b hb=>⟨hn b hb,(f9 b hb).2⟩
   have loop1:codeAny (model X.prog X.w) X.A (.compLoop (.ListComp elt [⟨tg,iter,[],0⟩,⟨tg1,iter1,o.toList,0⟩] scope pos) 1 (.ref it1) (.ref l) Y.env) (fun r z=>match r with|.ok _=>∃ m,m<n∧∃ i acc σ' H',Inv Y [] σ' H' z∧tn i z.heap∧(∀ b∈fp,H' b=none)∧W i m acc σ' H'|.error _=>False) s9:=by
    refine zgh (fun n s'=>∃ i acc σ' H',Inv Y pz σ' H' s'∧tn1 i s'.heap∧(∀ b∈fp1,H' b=none)∧W1 i n acc σ' H') ?_ m1 ⟨0,acc,σ7,H9,I9,st9,fun b hb=>(f9 b hb).1,w1⟩
    rintro k t4 ⟨j,ac,τ4,G4,K4,u4,v4,z4⟩
    obtain⟨glst,p4⟩:=turn1 j k ac τ4 G4 z4
    rcases p4 with ⟨stop1,pn⟩|⟨go1,step1⟩
    ·refine thn (T1.done Y rfl rfl rfl hc j pz t4 τ4 G4 Y.xe K4 (stat1 v4) u4 stop1) fun r t5 ⟨hr,K5⟩=>?_
     subst hr
     exact again K5 pn
    ·refine thn (T1.item Y rfl rfl rfl hc j pz t4 τ4 G4 Y.xe K4 (stat1 v4) u4 go1) fun r t5 ⟨u,hr,h5⟩=>?_
     subst hr
     refine thn h5 fun _ t6 ⟨y,G6,K6,e6,d6,u6,v6⟩=>?_
     have K6':=K6.pinned (stat1 v6) (T1.obj _ _ u6)
     refine thn (hg1 _ _ _ _ _ _ t6 τ4 G6 y u _ K6' e6 (step1 y G6 d6)) fun _ t7 ⟨τ7,G7,K7,p7⟩=>?_
     refine zeX (ht _ _ _ _ _ _ t7 τ7 G7 _ K7 p7) fun b t8 ⟨G8,K8,p8⟩=>?_
     have again1:∀ {τ9:St}{G9:Hp}{t9:Shared}{ac9:List V},Inv Y (pz++zb0 fp1 t6.heap) τ9 G9 t9→(∃ m',m'<k∧W1 (j+1) m' ac9 τ9 G9)→∃ m,m<k∧∃ i acc σ' H',Inv Y pz σ' H' t9∧tn1 i t9.heap∧(∀ b∈fp1,H' b=none)∧W1 i m acc σ' H':=fun {τ9 G9 t9 ac9} K9 ⟨m',hm,z9⟩=>by
      refine⟨m',hm,j+1,ac9,τ9,G9,K9.unpinned,T1.keep _ _ _ u6 fun b hb o e=>(K9.pin (b,o) (List.mem_append_right _ (List.mem_append_right _ (zax hb e)))).1,fun b hb=>?_,z9⟩
      obtain⟨o,e,d⟩:=T1.obj _ _ u6 b hb
      exact(K9.pin (b,o) (List.mem_append_right _ (List.mem_append_right _ (zax hb e)))).2.1
     cases b with
     | false =>
      rw[if_neg Bool.false_ne_true]at p8 ⊢
      exact again1 K8 p8
     | true =>
      rw[if_pos rfl]at p8 ⊢
      refine thn (he _ _ _ _ _ _ t8 τ7 G8 _ K8 p8) fun yv t9 ⟨yy,G9,K9,e9,hl9,hz9,p9⟩=>?_
      refine thn (mt_append (X:=Y) _ t9 τ7 G9 (.ref l) [yy] (.ref l) [yv] (fun _ H'=>H'=upd G9 l (.lst (ac++[yy]))) K9 rfl (.cons e9 .nil) ⟨l,ac,yy,rfl,rfl,hl9,hz9,rfl⟩) fun _ t10 ⟨_,G10,K10,_,e10⟩=>?_
      subst e10
      exact again1 K10 p9
   exact zeP loop1 (T1.self X.A 0 _ _ _ st9 loop1)
 exact codeAny_compStart_list loop (T.self X.A 0 _ _ _ st1 loop)
theorem zjl {X:Cx}{elt tg iter tg1 iter1:Expr}{o:Option Expr}{scope:Scope}{pos:Pos}{wi wi1:TI}{g g1:TG}{tt:TT}{te:TE}{N':List Str}{cap:List (Option Nat)}
  (hc:X.calm=true) (hi:PI X tg iter wi) (ck:CapOk X.N N' X.env.scope scope cap)
  (hg:∀ C s₀ H₀ fp pins,PG (zar X N' scope C s₀ H₀ fp pins) tg g)
  (hi1:∀ C s₀ H₀ fp pins,PI (zar X N' scope C s₀ H₀ fp pins) tg1 iter1 wi1)
  (hg1:∀ C s₀ H₀ fp pins,PG (zar X N' scope C s₀ H₀ fp pins) tg1 g1)
  (ht:∀ C s₀ H₀ fp pins,PTo (zar X N' scope C s₀ H₀ fp pins) o tt)
  (he:∀ C s₀ H₀ fp pins,PE (zar X N' scope C s₀ H₀ fp pins) elt te)
  (hs:∀ x,foldedSetIterable iter X.env x=pure x:=by intro _;rfl)
  (hs1:∀ C x,foldedSetIterable iter1 (compEnvC scope (clOf X.env.cells scope.names []) C X.env) x=pure x:=by intro _ _;rfl) :
  PE X (.ListComp elt [⟨tg,iter,[],0⟩,⟨tg1,iter1,o.toList,0⟩] scope pos) (tLC2 cap wi g wi1 g1 tt te):=by
 intro pins s σ H Q I h
 rw[eval_ListComp]
 exact zfn (use:=none) hc hi ck hg hi1 hg1 ht he hs hs1 I h fun l C H4 s5 m I5 q hn f=>⟨m,hn,fun h' sb=>⟨.ref l,H4,I5.gone f sb,rfl,q⟩⟩
end L2
namespace L2
open PySem PySem.Spec PyProof.Rows PySem.Calls PySem.NumText Own
section
variable {prog:Program}{w:World}{A:Around}{E:Value→Shared→Prop}{s:Shared}
end
section
variable {X:Cx}
end
end L2
namespace L2
open PySem PySem.Spec PyProof.Rows Own
section
variable {X:Cx}
end
def AnyT (K:PySem.W.Frag) (H:Hp) (x:V):Prop:=∃ T,TyOf K H x T∧∃ t:String,T=.type t
def zkW:V→Bool
 | .int _=>true
 | _=>false
def zam (b:Int):V→Bool
 | .int i=>decide (0≤i) && decide (i<b)
 | _=>false
def zaC (w:Str):V→Bool
 | .str x=>decide (x=w)
 | _=>false
def zaZ (H:Hp):V→Option (List V)
 | .ref a=>match H a with
  | some (.tup xs)=>some xs
  | _=>none
 | _=>none
def rowV (H:Hp) (m:Int) (x:V):Bool:=match zaZ H x with
 | some xs=>decide ((xs.length:Int)=m)
 | none=>false
theorem zaz {H:Hp}{a:Addr}{xs:List V}(h:H a=some (.tup xs)):zaZ H (.ref a)=some xs:=by
 show (match H a with
  | some (.tup xs)=>some xs
  | _=>none)=_
 rw[h]
theorem zbl {H:Hp}{x:V}{xs:List V}(h:zaZ H x=some xs):∃ a,x=.ref a∧H a=some (.tup xs):=by
 cases x with
 | ref a =>
  refine⟨a,rfl,?_⟩
  cases z:H a with
  | none=>simp[zaZ,z]at h
  | some o=>cases o<;>simp[zaZ,z]at h;rw[h]
 | _=>cases h
theorem zeJ (i j:Int):decide (V.int i=V.int j)=decide (i=j):=by
 by_cases e:i=j
 ·rw[decide_eq_true e,decide_eq_true (congrArg V.int e)]
 ·rw[decide_eq_false e,decide_eq_false (fun z=>e (V.int.inj z))]
theorem zjE (i j:Str):decide (V.str i=V.str j)=decide (i=j):=by
 by_cases e:i=j
 ·rw[decide_eq_true e,decide_eq_true (congrArg V.str e)]
 ·rw[decide_eq_false e,decide_eq_false (fun z=>e (V.str.inj z))]
theorem AnyT.same {K:PySem.W.Frag}{H H':Hp}{x:V}(s:∀ b o,H b=some o→H' b=some o) (h:AnyT K H x):AnyT K H' x:=by
 obtain⟨T,h,t,et⟩:=h
 cases h with
 | non=>exact⟨_,.non,_,rfl⟩
 | bl b=>exact⟨_,.bl b,_,rfl⟩
 | int i=>exact⟨_,.int i,_,rfl⟩
 | str x=>exact⟨_,.str x,_,rfl⟩
 | flt x=>exact⟨_,.flt x,_,rfl⟩
 | lst e=>exact⟨_,.lst (s _ _ e),_,rfl⟩
 | frz e=>exact⟨_,.frz (s _ _ e),_,rfl⟩
 | tup e=>exact⟨_,.tup (s _ _ e),_,rfl⟩
 | dK e=>exact⟨_,.dK (s _ _ e),_,rfl⟩
 | dT e=>exact⟨_,.dT (s _ _ e),_,rfl⟩
 | ins e _ _ _ _ _=>cases et
structure Isi (K:PySem.W.Frag) (H:Hp) (x:V) (t:Value):Prop where
 ty:TyOf K H x t
 int:PySem.W.kitOne K t (.type "int")=some (match x with|.int _=>true|.bl _=>true|_=>false)
 bool:PySem.W.kitOne K t (.type "bool")=some (match x with|.bl _=>true|_=>false)
 str:PySem.W.kitOne K t (.type "str")=some (match x with|.str _=>true|_=>false)
 tup:PySem.W.kitOne K t (.type "tuple")=some (zaZ H x).isSome
theorem zlA {K:PySem.W.Frag}{H:Hp}{x:V}{T:Value}(h:TyOf K H x T) (et:∃ t,T=.type t):Isi K H x T:=by
 cases h with
 | ins e _ _ _ _ _=>obtain⟨t,et⟩:=et;cases et
 | lst e=>exact⟨.lst e,rfl,rfl,rfl,by simp only[zaZ,e];rfl⟩
 | frz e=>exact⟨.frz e,rfl,rfl,rfl,by simp only[zaZ,e];rfl⟩
 | tup e=>exact⟨.tup e,rfl,rfl,rfl,by simp only[zaZ,e];rfl⟩
 | dK e=>exact⟨.dK e,rfl,rfl,rfl,by simp only[zaZ,e];rfl⟩
 | dT e=>exact⟨.dT e,rfl,rfl,rfl,by simp only[zaZ,e];rfl⟩
 | non=>exact⟨.non,rfl,rfl,rfl,rfl⟩
 | bl b=>exact⟨.bl b,rfl,rfl,rfl,rfl⟩
 | int i=>exact⟨.int i,rfl,rfl,rfl,rfl⟩
 | str x=>exact⟨.str x,rfl,rfl,rfl,rfl⟩
 | flt x=>exact⟨.flt x,rfl,rfl,rfl,rfl⟩
theorem AnyT.isi {K:PySem.W.Frag}{H:Hp}{x:V}(h:AnyT K H x):∃ t,Isi K H x t :=
 let ⟨T,h,et⟩:=h
 ⟨T,zlA h et⟩
section
variable {X:Cx}{pos:Pos}
end
end L2
namespace Bn
open PySem L2 Own
end Bn
namespace L2
open PySem PySem.Spec PyProof.Rows Own
def LtAt (A:Around) (s:Shared) (y x:Value) (b:Bool):Prop:=∀ (prog:Program) (w:World) (E:Value→Shared→Prop) (Q:Value→Shared→Prop),Q (.bool b) s→wpAny (model prog w) A (richCompare .Lt y x) Q E s
theorem LtAt.ints {A:Around}{s:Shared}(a b:Int) (t u:Tok):LtAt A s (.int a t) (.int b u) (decide (a<b)):=fun _ _ _ _ h=>lt_int h
theorem zeF (l b:Addr) (xs ys:Array Value) (n m:Nat) (d1 d2:Option Addr) (sl1 sl2:Array (Option Value)) (k:Nat) (k1:k<xs.size) (k2:k<ys.size) (c:Bool) :
  Meets (Builtin.«tuple.__lt__» ⟨[.ref l,.ref b],[]⟩)
   (fun A R s=>s.heap.get? l=some { cls:=.type "tuple",dict:=d1,data:=.seq xs n,slots:=sl1 }∧s.heap.get? b=some { cls:=.type "tuple",dict:=d2,data:=.seq ys m,slots:=sl2 } ∧
    (∀ j (h1:j<xs.size) (h2:j<ys.size),j<k→SeqAt.EqAt A.in1 s xs[j] ys[j] true)∧SeqAt.EqAt A.in1 s xs[k] ys[k] false∧LtAt A.in1 s xs[k] ys[k] c∧R (.ok (.ret (.bool c))) s) :=
 .of_wp fun prog w A R s h=>by
  obtain⟨hp,g,d,tk,os⟩:=s;obtain⟨hl,hb,he,hk,hc,h⟩:=h
  have kinds:=AutoSeq1.sub_tuple_tuple
  have zl:(xs.toList.zip ys.toList).length=min xs.size ys.size:=by simp
  wp_walk using wpAny_loadPart' hl,wpAny_loadPart' hb,wpAny_forIn_list _ (fun rest b s'=>b.1=none∧s'=⟨hp,g,d,tk,os⟩∧∃ i,i≤k∧rest=(xs.toList.zip ys.toList).drop i) _
  case turn =>
   rintro⟨y,x⟩ rest b s' ⟨hb',rfl,i,ik,hz⟩
   have i1:i<xs.size:=by lia
   have i2:i<ys.size:=by lia
   have il:i<(xs.toList.zip ys.toList).length:=by rw[zl];lia
   rw[List.drop_eq_getElem_cons il]at hz
   obtain⟨e1,e2⟩:=List.cons.inj hz
   have ey:y=xs[i]:=by simpa using congrArg Prod.fst e1
   have ex:x=ys[i]:=by simpa using congrArg Prod.snd e1
   subst ey ex
   by_cases z:i=k
   ·subst z
    refine wpAny_bind (hk prog w _ _ ?_)
    simp only[if_true,Bool.not_false]
    refine wpAny_bind (wpAny_rule (wpAny_bind (hc prog w _ _ ?_)))
    wp_walk
    exact⟨_,rfl,h⟩
   ·refine wpAny_bind (he i i1 i2 (by lia) prog w _ _ ?_)
    wp_walk
    exact⟨rfl,rfl,i+1,by lia,e2⟩
  case fin =>
   rintro⟨b1,b2⟩ s' ⟨hb',rfl,i,ik,hz⟩
   have il:i<(xs.toList.zip ys.toList).length:=by rw[zl];lia
   rw[List.drop_eq_getElem_cons il]at hz;cases hz
  case h =>
   exact⟨rfl,rfl,0,Nat.zero_le _,rfl⟩
theorem LtAt.tuples {A:Around}{s:Shared}{l b:Addr}{xs ys:Array Value}{k:Nat}{c:Bool}(hl:IsTup s.heap l xs) (hb:IsTup s.heap b ys) (hu:A.units<cLine) (k1:k<xs.size) (k2:k<ys.size)
  (he:∀ j (h1:j<xs.size) (h2:j<ys.size),j<k→SeqAt.EqAt A.in1 s xs[j] ys[j] true) (hk:SeqAt.EqAt A.in1 s xs[k] ys[k] false) (hc:LtAt A.in1 s xs[k] ys[k] c):LtAt A s (.ref l) (.ref b) c:=fun prog w E Q h=>by
 obtain⟨⟨cl1,dd1,da1,sl1⟩,o1,c1,n,e1⟩:=hl
 obtain⟨⟨cl2,dd2,da2,sl2⟩,o2,c2,m,e2⟩:=hb
 simp only at c1 e1 c2 e2;subst c1 e1 c2 e2
 exact richCompare_meets_room (op:=.Lt) ⟨_,o1,rfl⟩ ⟨_,o2,rfl⟩ F.slot_tuple_lt F.entry_tuple_lt (F.args_tuple_lt_2 _ _) (zeF l b xs ys n m dd1 dd2 sl1 sl2 k k1 k2 c) ⟨o1,o2,he,hk,hc,show Value.bool c≠Value.notImplemented∧Q (.bool c) s from⟨(fun x=>nomatch x),h⟩⟩ hu
section
variable {prog:Program}{w:World}{A:Around}{R:Result→Shared→Prop}{I S:Addr}{fp wr:List Addr}{n:Nat}{P:Nat→Value→Prop}{St:Nat→Heap→Prop}
end
section
variable {prog:Program}{w:World}{A:Around}{E:Value→Shared→Prop}{s:Shared}
end
section
variable {X:Cx}
end
section
variable {prog:Program}{w:World}{A:Around}{E:Value→Shared→Prop}{s:Shared}
end
section
variable {X:Cx}
end
section
variable {X:Cx}
end
structure MgA (mg:Str→Option Value):Prop where
 any:mg "any" = none
theorem zh7 (bs:List Bool):(List.range bs.length).any (fun i=>bs.getD i true)=bs.any id:=by
 rw[Bool.eq_iff_iff];simp only[List.any_eq_true]
 constructor
 ·rintro⟨j,hj,h⟩
  have jl:=List.mem_range.mp hj
  rw[List.getD_eq_getElem?_getD,List.getElem?_eq_getElem jl]at h
  exact⟨_,List.getElem_mem jl,h⟩
 ·rintro⟨x,hx,h⟩
  obtain⟨j,jl,rfl⟩:=List.getElem_of_mem hx
  exact⟨j,List.mem_range.mpr jl,by rw[List.getD_eq_getElem?_getD,List.getElem?_eq_getElem jl];exact h⟩
section
variable {X:Cx}
theorem zh2 (hc:X.calm=true) (b:Bool):CallR X (.builtin "any") (fun vs H Q=>∃ a bs,vs=[.ref a]∧SqB b X.K H a (List.map V.bl bs)∧Q (.bl (bs.any id)) H):=by
 rintro pins s σ H vs us Q I rv ⟨a,bs,rfl,hq,q⟩
 obtain⟨u,rfl,ru⟩:=rv.one
 cases ru
 obtain⟨its,r,p⟩:=I.sq hq
 obtain⟨o,n,eo,_⟩:=p.ob
 have hl:its.length=bs.length:=by rw[← r.length,List.length_map]
 refine call_any_walk (zbe p ⟨s.heap.objs.size,[s.heap.objs.size,a],[s.heap.objs.size],_,_,_,fun i=>bs.getD i true,rfl,zid (show X.A.in1.handled=none from I.ok.hd hc) b _ a (Nat.ne_of_lt (Heap.lt_size eo)) its.toArray,⟨?_,p.mv fun o e=>Heap.get?_push_of_some _ e⟩,fun i v s' Q' E' hv hQ=>?_,fun h' tk hk=>?_⟩)
 ·cases b<;>exact⟨_,Heap.get?_push_size _ rfl,rfl,rfl⟩
 ·have hv':its[i]?=some v:=by simpa using hv
  have hi:=(List.getElem?_eq_some_iff.mp hv').1
  obtain⟨u',e',ru⟩:=r.get (i:=i) (x:=V.bl (bs.getD i true)) (by rw[List.getElem?_map,List.getD_eq_getElem?_getD,List.getElem?_eq_getElem (show i<bs.length by lia)];rfl)
  rw[hv']at e'
  obtain rfl:=Option.some.inj e'
  cases ru
  exact wpAny_truthy_bool hQ
 ·refine⟨.bl (bs.any id),H,I.kept (t':=tk) fun c o e=>hk c o (fun z=>Nat.ne_of_lt (Heap.lt_size e) (List.mem_singleton.mp z)) (Heap.get?_push_of_some _ e),?_,q⟩
  show Value.bool _=Value.bool _
  rw[List.size_toArray,hl,zh7]
end
section
variable {X:Cx}{e e2:Expr}{ta tb:TE}{p kp pos:Pos}
def zgZ (K:PySem.W.Frag):R2:=fun x y H Q=>∃ a ns,x=.ref a∧y=.bl true∧SqL K H a (List.map V.int ns)∧ns.length<64∧∀ (l:Addr) (ms:List Int),H l=none→ms.Perm ns→ms.Pairwise (·≥·)→Q (.ref l) (upd H l (.lst (ms.map V.int)))
theorem zfL (hg:Gl X "sorted") (hm:X.mg "sorted" = none) (ha:PE X e ta) (hd:PE X e2 tb)
  (he:starEach [e] X.env=(false,eval e X.env)::starEach [] X.env:=by rfl)
  (hpl:((backTo pos (starEach [e] X.env)).any (·.1) || (backToKw pos (keywordEach [⟨some "reverse",e2,kp⟩] X.env)).any (·.1.isNone))=false:=by rfl)
  (hall:(backToKw pos (keywordEach [⟨some "reverse",e2,kp⟩] X.env)).all (·.1.isSome)=true:=by rfl) (hks:(backToKw pos (keywordEach [⟨some "reverse",e2,kp⟩] X.env)).filterMap (·.1)=[("reverse":Str)]:=by rfl) :
  PE X (.Call (.Name "sorted" p) [e] [⟨some "reverse",e2,kp⟩] pos) (tOp (zgZ X.K) ta tb):=by
 intro pins s σ H Q I h
 refine wpAny_Call_Name_kw (zaA I hg hm (u:=.builtin "sorted") (by rfl) ?_)
 refine PySem.W.callWith_of (P:=fun _=>True) hpl (fun h _=>⟨.machine,.inr (.inl rfl),.now⟩) (evalArgs_kw2 hall (thn ((pa_cons (hs:=he) ha pa_nil) pos pins s σ H (on1 fun x H1=>tb σ H1 fun y H2=>zgZ X.K x y H2 Q) I h) fun us s1 ⟨vs,H1,I1,r1,q1⟩=>?_) he)
 obtain⟨x,rfl,q1⟩:=zff q1
 refine thn ((zg6 hd zjj) pos pins s1 σ H1 (on1 fun y H2=>zgZ X.K x y H2 Q) I1 q1) fun ws s2 ⟨zs,H2,I2,r2,q2⟩=>⟨trivial,?_⟩
 obtain⟨y,rfl,q2⟩:=zff q2
 obtain⟨u,rfl,ru⟩:=r1.one
 obtain⟨v,rfl,rv⟩:=r2.one
 rw[hks]
 obtain⟨a,ns,rfl,rfl,hq,h64,q⟩:=q2
 cases ru;cases rv
 obtain⟨its,r,pl,_⟩:=I2.list hq
 have hl:its.length=ns.length:=by rw[← r.length,List.length_map]
 show wpAny _ _ (call (.builtin "sorted") [.ref a] [("reverse",.bool true)]) _ _ _
 refine sorted_ints_rev pl.isList (zgq r) (by lia) fun out ms i1 i2 i3=>?_
 obtain⟨ep,he'⟩:=sortedAll_at s2.heap its out
 refine⟨.ref (s2.heap.objs.size+1),_,I2.laid (t':=s2.toks) (o:=.lst (ms.map V.int)) (fun _ _ z=>sortedAll_old z) (Nat.le_succ _) ⟨?_,out.toList,ep,zkE i1,by simpa [seqObj] using he'⟩,rfl,q _ ms (I2.hok.fresh (Nat.le_succ _)) i2 i3⟩
 rw[List.length_map,i2.length_eq]
 exact Nat.le_trans (Nat.le_of_lt h64) (by decide)
end
section
variable {X:Cx}
def rInD:R2:=fun x y H Q=>∃ n d ds,n≤20∧DD H n x d∧DD H n y (.list ds)∧Q (.bl (ds.any fun z=>PyData.eqv z d)) H
theorem zlj (hu:X.A.units+64<cLine):OpR X (compareOp .In) rInD:=by
 intro pins s σ H x y vx vy Q I rx ry ⟨n,d,ds,hn,h1,h2,q⟩
 obtain⟨as,r1⟩:=h1.reads I _ _ _ _ rx
 obtain⟨bs,r2⟩:=h2.reads I _ _ _ _ ry
 have k1:=h1.ok
 have k2:=h2.ok
 exact PySem.SeqAt.in_list_reads r2 r1 k2.1 k1.1 (by have:=k1.2;lia) ⟨.bl _,H,I,rfl,q⟩
end
theorem ziU {K:PySem.W.Frag}{b:Bool}{a:Addr}{xs:List V}{g g1:TG}{wi1:TI}{tt:TT}{te:TE}{l:Addr}{σ:St}{H:Hp}{Q:VK}(Pv:Nat→List V→St→Hp→Prop) (h0:Pv 0 [] σ H)
  (hl:∀ i acc σ H,Pv i acc σ H→H l=some (.lst acc)∧SqB b K H a xs)
  (hs:∀ i acc σ H x T,xs[i]?=some x→H T=none→Pv i acc σ H→g (.ref T) σ (upd H T (.tup [.int i,x])) fun σ3 H3=>wi1 σ3 H3 fun J1 H4 =>
   ∃ W1:Nat→Nat→List V→St→Hp→Prop,(∃ m1,W1 0 m1 acc σ3 H4)∧LCW1 J1 g1 tt te l (fun ac τ G=>Nx xs.length i (Pv (i+1) ac τ G)) W1)
  (hd:∀ acc σ H,Pv xs.length acc σ H→Q (.ref l) H):∃ W:Nat→Nat→List V→St→Hp→Prop,(∃ m,W 0 m [] σ H) ∧
   ∀ i m acc σ' H',W i m acc σ' H'→H' l=some (.lst acc)∧(((Ite K b a).stop i H'∧Q (.ref l) H')∨((Ite K b a).go i H'∧∀ x H2,(Ite K b a).yld i H' x H2→g x σ' H2 fun σ3 H3=>wi1 σ3 H3 fun J1 H4 =>
    ∃ W1:Nat→Nat→List V→St→Hp→Prop,(∃ m1,W1 0 m1 acc σ3 H4)∧LCW1 J1 g1 tt te l (fun ac τ G=>∃ m',m'<m∧W (i+1) m' ac τ G) W1)):=by
 refine⟨fun i m acc σ H=>m=xs.length-i∧i≤xs.length∧Pv i acc σ H,⟨xs.length,by simp,Nat.zero_le _,h0⟩,?_⟩
 rintro i m acc σ H ⟨rfl,hi,p⟩
 obtain⟨q0,q1⟩:=hl i acc σ H p
 refine⟨q0,?_⟩
 by_cases hlt:i<xs.length
 ·refine .inr ⟨⟨xs,_,q1,List.getElem?_eq_getElem hlt⟩,fun v H2 ⟨y,ey,T,hT,e1,e2⟩=>?_⟩
  subst e1 e2
  exact hs i acc σ H y T (ey xs q1) hT p
 ·have e:i=xs.length:=by lia
  subst e
  exact .inl ⟨⟨xs,q1,rfl⟩,hd acc σ H p⟩
theorem zhB {K:PySem.W.Frag}{b:Bool}{a:Addr}{xs:List V}{g:TG}{tt:TT}{te:TE}{l:Addr}{ac:List V}{σ:St}{H:Hp}{Q:List V→St→Hp→Prop}(Pv:Nat→List V→St→Hp→Prop) (h0:Pv 0 ac σ H) (hl:∀ i acc σ H,Pv i acc σ H→H l=some (.lst acc)∧SqB b K H a xs)
  (hs:∀ i x acc σ H T,xs[i]?=some x→H T=none→Pv i acc σ H→g (.ref T) σ (upd H T (.tup [.int i,x])) fun σ3 H3=>tt σ3 H3 fun b H4 =>
   if b=true then te σ3 H4 fun y H5=>H5 l=some (.lst acc)∧acc.length<sizeLine∧Nx xs.length i (Pv (i+1) (acc++[y]) σ3 (upd H5 l (.lst (acc++[y])))) else Nx xs.length i (Pv (i+1) acc σ3 H4))
  (hd:∀ acc σ H,Pv xs.length acc σ H→Q acc σ H):∃ W:Nat→Nat→List V→St→Hp→Prop,(∃ m,W 0 m ac σ H)∧LCW1 (Ite K b a) g tt te l Q W:=by
 refine⟨fun i m acc σ H=>m=xs.length-i∧i≤xs.length∧Pv i acc σ H,⟨_,rfl,Nat.zero_le _,h0⟩,?_⟩
 rintro i m acc σ H ⟨rfl,hi,p⟩
 obtain⟨q0,q1⟩:=hl i acc σ H p
 refine⟨q0,?_⟩
 by_cases hlt:i<xs.length
 ·refine .inr ⟨⟨xs,_,q1,List.getElem?_eq_getElem hlt⟩,fun v H2 ⟨y,ey,T,hT,e1,e2⟩=>?_⟩
  subst e1 e2
  exact hs i y acc σ H T (ey xs q1) hT p
 ·obtain rfl:i=xs.length:=by lia
  exact .inl ⟨⟨xs,q1,rfl⟩,hd acc σ H p⟩
end L2
namespace Bn
open PySem L2 Own
def zcw (f:Nat × Nat):PyData:=.tuple [.int f.1,.int f.2]
theorem zfv {H:Hp}:∀ {ps:List V}{fs:List (Nat × Nat)},Prs H ps fs→ps.length=(fs.map zcw).length∧∀ (j:Nat) (u:V) (e:PyData),ps[j]?=some u→(fs.map zcw)[j]?=some e→DD H 1 u e
 | [],[],_=>⟨rfl,fun j u e h _=>by simp at h⟩
 | [],_::_,h=>h.elim
 | _::_,[],h=>h.elim
 | x::ps,f::fs,⟨⟨t,e,h⟩,r⟩=>by
  obtain⟨a,b⟩:=zfv r
  refine⟨by rw[List.map_cons,List.length_cons,List.length_cons,a],fun j u d hu hd=>?_⟩
  cases j with
  | zero =>
   obtain rfl:x=u:=by simpa using hu
   obtain rfl:zcw f=d:=by simpa using hd
   subst e
   refine DD.tup h rfl fun j u e p q=>?_
   match j,p,q with
   | 0,p,q=>obtain rfl:=Option.some.inj p;obtain rfl:=Option.some.inj q;exact DD.i _
   | 1,p,q=>obtain rfl:=Option.some.inj p;obtain rfl:=Option.some.inj q;exact DD.i _
   | j+2,p,q=>simp at p
  | succ j=>exact b j u d (by simpa using hu) (by simpa using hd)
theorem zi0 (f g:(Nat × Nat)) (h:PyData.eqv (zcw f) (zcw g)=true):f=g:=by
 have:PyData.eqvAll [.int ((f.1:Nat):Int),.int ((f.2:Nat):Int)] [.int ((g.1:Nat):Int),.int ((g.2:Nat):Int)]=true:=by simpa [zcw,PyData.eqv] using h
 simp only[PyData.eqvAll,Bool.and_eq_true,PyData.eqv,beq_iff_eq]at this
 exact Prod.ext (by lia) (by lia)
def big (x y:Int):Int:=if y > x then y else x
theorem zi8 (x y:Int):x≤big x y:=by unfold big;split<;>lia
theorem zkR (x y:Int):y≤big x y:=by unfold big;split<;>lia
def zaj (st:List Int × List Int) (f:Nat × Nat):List Int × List Int :=
 ((st.1.set f.1 (1+big (st.1.getD f.1 0) (st.1.getD f.2 0))).set f.2 (1+big (st.1.getD f.1 0) (st.1.getD f.2 0)),st.2++[1+big (st.1.getD f.1 0) (st.1.getD f.2 0)])
def lay (n:Nat) (fs:List (Nat × Nat)):List Int × List Int:=fs.foldl zaj (List.replicate n 0,[])
theorem zaG {n:Nat}{fs:List (Nat × Nat)}{i:Nat}{f:Nat × Nat}(h:fs[i]?=some f):lay n (fs.take (i+1))=zaj (lay n (fs.take i)) f:=by
 have w:=List.getElem?_eq_some_iff.mp h
 rw[List.take_succ_eq_append_getElem w.1,w.2]
 unfold lay
 rw[List.foldl_append];rfl
theorem zas {n:Nat}:∀ (i:Nat) (fs:List (Nat × Nat)),i≤fs.length→(lay n (fs.take i)).1.length=n∧(lay n (fs.take i)).2.length=i
 | 0,fs,_=>by simp[lay]
 | i+1,fs,h=>by
  have ih:=zas (n:=n) i fs (by lia)
  rw[zaG (List.getElem?_eq_getElem (by lia))]
  unfold zaj
  simp[ih.1,ih.2]
def Tops (fs:List (Nat × Nat)) (fo:List Int) (i lane:Nat) (x:Int):Prop :=
 0≤x∧(∀ j f,j<i→fs[j]?=some f→f.1=lane∨f.2=lane→fo.getD j 0≤x)∧(x=0∨∃ j f,j<i∧fs[j]?=some f∧(f.1=lane∨f.2=lane)∧fo.getD j 0=x)
theorem zdo {fo:List Int}{m:Int}{j:Nat}(h:j<fo.length):(fo++[m]).getD j 0=fo.getD j 0:=by
 rw[List.getD_eq_getElem?_getD,List.getElem?_append_left h,← List.getD_eq_getElem?_getD]
theorem zfp {fo:List Int}{m:Int}{i:Nat}(h:fo.length=i):(fo++[m]).getD i 0=m:=by
 subst h
 rw[List.getD_eq_getElem?_getD,List.getElem?_concat_length];rfl
theorem zaF {n:Nat}{fs:List (Nat × Nat)}(ok:∀ f∈fs,f.1<n∧f.2<n):∀ i,i≤fs.length→∀ lane,lane<n→Tops fs (lay n (fs.take i)).2 i lane ((lay n (fs.take i)).1.getD lane 0)
 | 0,_,lane,hl=>by
  refine⟨?_,fun j f hj=>absurd hj (Nat.not_lt_zero _),.inl ?_⟩<;>simp[lay,hl]
 | i+1,hi,lane,hl=>by
  have il:i<fs.length:=by lia
  have ih:=zaF ok i (by lia)
  have ln:=zas (n:=n) i fs (by lia)
  have ef:=List.getElem?_eq_getElem il
  have okf:=ok fs[i] (List.getElem_mem il)
  rw[zaG ef]
  generalize fs[i]=f at *
  generalize lay n (fs.take i)=st at *
  obtain⟨re,fo⟩:=st
  simp only at ih ln
  show Tops fs (fo++[1+big (re.getD f.1 0) (re.getD f.2 0)]) (i+1) lane (((re.set f.1 _).set f.2 _).getD lane 0)
  have ia:=ih f.1 okf.1
  have ib:=ih f.2 okf.2
  have gl:=zi8 (re.getD f.1 0) (re.getD f.2 0)
  have gr:=zkR (re.getD f.1 0) (re.getD f.2 0)
  generalize hm:1+big (re.getD f.1 0) (re.getD f.2 0)=m at *
  rw[zak (by simp[ln.1,hl]),zak (by rw[ln.1];exact hl)]
  have on:(f.1=lane∨f.2=lane)→re.getD lane 0≤m→Tops fs (fo++[m]) (i+1) lane m:=fun hon hle=>by
   refine⟨by have:=ia.1;lia,fun j g hj hg hg2=>?_,.inr ⟨i,f,Nat.lt_succ_self _,ef,hon,zfp ln.2⟩⟩
   by_cases e:j=i
   ·subst e;rw[zfp ln.2];exact Int.le_refl _
   ·rw[zdo (by lia)]
    have:=(ih lane hl).2.1 j g (by lia) hg hg2
    lia
  by_cases e2:f.2=lane
  ·rw[if_pos e2];exact on (.inr e2) (by subst e2;lia)
  ·rw[if_neg e2]
   by_cases e1:f.1=lane
   ·rw[if_pos e1];exact on (.inl e1) (by subst e1;lia)
   ·rw[if_neg e1]
    have il2:=ih lane hl
    refine⟨il2.1,fun j g hj hg hg2=>?_,?_⟩
    ·by_cases e:j=i
     ·subst e;rw[ef]at hg;obtain rfl:=Option.some.inj hg
      rcases hg2 with z|z
      ·exact absurd z e1
      ·exact absurd z e2
     ·rw[zdo (by lia)];exact il2.2.1 j g (by lia) hg hg2
    ·rcases il2.2.2 with z|⟨j,g,hj,hg,hg2,e⟩
     ·exact .inl z
     ·exact .inr ⟨j,g,by lia,hg,hg2,by rw[zdo (by lia)];exact e⟩
def zlY (g f:Nat × Nat):Bool:=decide (g.1=f.1∨g.1=f.2) || decide (g.2=f.1∨g.2=f.2)
def zmb (fs:List (Nat × Nat)) (fo:List Int) (f:Nat × Nat) (i:Nat):List Int:=((List.range i).filter fun j=>zlY (fs.getD j (0,0)) f).map fun j=>fo.getD j 0
def zau (N:Nt):List Int:=(lay N.lanes N.forks).2
theorem zbS (N:Nt):(zau N).length=N.forks.length:=by
 have:=(zas (n:=N.lanes) N.forks.length N.forks (Nat.le_refl _)).2
 rwa [List.take_length]at this
theorem zhD {n:Nat}{fs:List (Nat × Nat)}(ok:∀ f∈fs,f.1<n∧f.2<n):∀ i,i≤fs.length→∀ z∈(lay n (fs.take i)).2,0≤z
 | 0,_,z,h=>by simp[lay]at h
 | i+1,hi,z,h=>by
  have il:i<fs.length:=by lia
  have ih:=zhD ok i (by lia) z
  have tp:=zaF ok i (by lia) fs[i].1 (ok _ (List.getElem_mem il)).1
  rw[zaG (List.getElem?_eq_getElem il)]at h
  rcases List.mem_append.mp h with w|w
  ·exact ih w
  ·rw[List.mem_singleton.mp w]
   have:=zi8 ((lay n (fs.take i)).1.getD fs[i].1 0) ((lay n (fs.take i)).1.getD fs[i].2 0)
   have:=tp.1
   lia
def pw (e:Nat):Int:=((2 ^ e:Nat):Int)
theorem zjg {i j:Nat}(h:i≤j) {x:Int}(hx:pw j ∣ x):pw i ∣ x:=Int.dvd_trans (Int.natCast_dvd_natCast.mpr (Nat.pow_dvd_pow 2 h)) hx
theorem zg1 (e:Nat):pw (e+1)=2*pw e:=by unfold pw;rw[Nat.pow_succ,Int.natCast_mul];lia
def more (cs xs:List Int) (k:Int):List Int:=(List.range cs.length).map fun i=>cs.getD i 0+k*xs.getD i 0
theorem zbD (cs xs:List Int) (k:Int):(more cs xs k).length=cs.length:=by simp[more]
theorem zbE {cs xs:List Int}{k:Int}{i:Nat}(h:i<cs.length):(more cs xs k).getD i 0=cs.getD i 0+k*xs.getD i 0:=by
 rw[List.getD_eq_getElem?_getD,List.getElem?_eq_getElem (by rw[zbD];exact h)]
 simp[more]
theorem ziZ {xs ys:List Int}(hl:xs.length=ys.length) (h:∀ i,i<xs.length→xs.getD i 0=ys.getD i 0):xs=ys:=by
 refine List.ext_getElem hl fun i h1 h2=>?_
 have:=h i h1
 rwa [List.getD_eq_getElem?_getD,List.getD_eq_getElem?_getD,List.getElem?_eq_getElem h1,List.getElem?_eq_getElem h2]at this
def Left (d n:Nat) (re xs:List Int):Prop:=∀ i,i<n→pw (d-(re.getD i 0).toNat) ∣ xs.getD i 0
theorem zdR {d n:Nat}{re fo xs ts:List Int}{f:Nat × Nat}(h1:f.1<n) (h2:f.2<n) (lr:re.length=n) (lx:xs.length=n) (p1:0≤re.getD f.1 0) (p2:0≤re.getD f.2 0)
  (hm:1+big (re.getD f.1 0) (re.getD f.2 0)≤d) (L:Left d n re xs):(2:Int) ∣ xs.getD f.1 0+xs.getD f.2 0∧Left d n (zaj (re,fo) f).1 (zaO (xs,ts) f).1:=by
 have gl:=zi8 (re.getD f.1 0) (re.getD f.2 0)
 have gr:=zkR (re.getD f.1 0) (re.getD f.2 0)
 generalize hmm:1+big (re.getD f.1 0) (re.getD f.2 0)=m at *
 have e1:pw (d-m.toNat+1) ∣ xs.getD f.1 0:=zjg (by lia) (L f.1 h1)
 have e2:pw (d-m.toNat+1) ∣ xs.getD f.2 0:=zjg (by lia) (L f.2 h2)
 have es:pw (d-m.toNat+1) ∣ xs.getD f.1 0+xs.getD f.2 0:=Int.dvd_add e1 e2
 generalize hs:xs.getD f.1 0+xs.getD f.2 0=S at *
 obtain⟨q,hq⟩:=es
 rw[zg1]at hq
 have half:S / 2=pw (d-m.toNat)*q:=by
  have:S=2*(pw (d-m.toNat)*q):=by rw[hq,Int.mul_assoc]
  lia
 have half1:(S+1) / 2=pw (d-m.toNat)*q:=by
  have:S=2*(pw (d-m.toNat)*q):=by rw[hq,Int.mul_assoc]
  lia
 refine⟨⟨pw (d-m.toNat)*q,by rw[hq,Int.mul_assoc]⟩,fun i hi=>?_⟩
 show pw (d-(((re.set f.1 _).set f.2 _).getD i 0).toNat) ∣ ((xs.set f.1 _).set f.2 _).getD i 0
 rw[zak (by simp[lr,hi]),zak (by rw[lr];exact hi),zak (by simp[lx,hi]),zak (by rw[lx];exact hi)]
 simp only[hs,hmm,half,half1]
 by_cases z2:f.2=i
 ·rw[if_pos z2,if_pos z2];exact Int.dvd_mul_right _ _
 ·rw[if_neg z2,if_neg z2]
  by_cases z1:f.1=i
  ·rw[if_pos z1,if_pos z1];exact Int.dvd_mul_right _ _
  ·rw[if_neg z1,if_neg z1];exact L i hi
theorem zhp {n:Nat}{cs xs ts us:List Int}{k:Int}{f:Nat × Nat}(h1:f.1<n) (h2:f.2<n) (lc:cs.length=n) (lx:xs.length=n) (ev:(2:Int) ∣ xs.getD f.1 0+xs.getD f.2 0) :
  zaO (more cs xs k,ts) f=(more (zaO (cs,ts) f).1 (zaO (xs,us) f).1 k,(zaO (cs,ts) f).2):=by
 obtain⟨q,hq⟩:=ev
 have c1:=zbE (cs:=cs) (xs:=xs) (k:=k) (i:=f.1) (by lia)
 have c2:=zbE (cs:=cs) (xs:=xs) (k:=k) (i:=f.2) (by lia)
 have sum:cs.getD f.1 0+k*xs.getD f.1 0+(cs.getD f.2 0+k*xs.getD f.2 0)=cs.getD f.1 0+cs.getD f.2 0+2*(k*q):=by
  have:k*xs.getD f.1 0+k*xs.getD f.2 0=2*(k*q):=by rw[← Int.mul_add,hq,Int.mul_left_comm]
  lia
 refine Prod.ext ?_ ?_
 ·refine ziZ (by simp[zaO,zbD]) fun i hi=>?_
  have hn:i<n:=by simpa [zaO,zbD,lc] using hi
  rw[zbE (by simp[zaO,lc,hn])]
  show (((more cs xs k).set f.1 _).set f.2 _).getD i 0=((cs.set f.1 _).set f.2 _).getD i 0+k*((xs.set f.1 _).set f.2 _).getD i 0
  rw[zak (by simp[zbD,lc,hn]),zak (by simp[zbD,lc,hn]),zak (by simp[lc,hn]),zak (by rw[lc];exact hn),zak (by simp[lx,hn]),zak (by rw[lx];exact hn)]
  simp only[c1,c2,sum,hq]
  have hf:(2*q) / 2=q:=by lia
  have hf1:(2*q+1) / 2=q:=by lia
  by_cases z2:f.2=i
  ·simp only[if_pos z2,hf];lia
  ·simp only[if_neg z2]
   by_cases z1:f.1=i
   ·simp only[if_pos z1,hf1];lia
   ·simp only[if_neg z1];exact zbE (by lia)
 ·show ts++[_]=ts++[_]
  simp only[c1,c2,sum]
  congr 2;lia
theorem zdO {d n:Nat}{fs:List (Nat × Nat)}(ok:∀ f∈fs,f.1<n∧f.2<n) {cs xs:List Int}{k:Int}(lc:cs.length=n) (lx:xs.length=n) (hd:∀ z∈(lay n fs).2,z≤d) (L0:Left d n (List.replicate n 0) xs) :
  ∀ i,i≤fs.length→flow (fs.take i) (more cs xs k)=(more (flow (fs.take i) cs).1 (flow (fs.take i) xs).1 k,(flow (fs.take i) cs).2)∧Left d n (lay n (fs.take i)).1 (flow (fs.take i) xs).1
 | 0,_=>⟨by simp[flow,za2],by simpa [flow,za2,lay] using L0⟩
 | i+1,hi=>by
  have il:i<fs.length:=by lia
  obtain⟨ih1,ih2⟩:=zdO ok (k:=k) lc lx hd L0 i (by lia)
  have ef:=List.getElem?_eq_getElem il
  have okf:=ok fs[i] (List.getElem_mem il)
  have t1:=zaF ok i (by lia) _ okf.1
  have t2:=zaF ok i (by lia) _ okf.2
  have ln:=zas (n:=n) i fs (by lia)
  have mem:1+big ((lay n (fs.take i)).1.getD fs[i].1 0) ((lay n (fs.take i)).1.getD fs[i].2 0)≤d:=by
   refine hd _ ?_
   have go:∀ j,i+1≤j→j≤fs.length→1+big ((lay n (fs.take i)).1.getD fs[i].1 0) ((lay n (fs.take i)).1.getD fs[i].2 0)∈(lay n (fs.take j)).2:=fun j=>by
    induction j with
    | zero=>intro h;lia
    | succ j ihj =>
     intro h h'
     rw[zaG (List.getElem?_eq_getElem (show j<fs.length by lia))]
     by_cases e:i=j
     ·subst e;unfold zaj;simp
     ·unfold zaj;exact List.mem_append_left _ (ihj (by lia) (by lia))
   have:=go fs.length (by lia) (Nat.le_refl _)
   rwa [List.take_length]at this
  rw[zbf ef,zbf ef,zbf ef,zaG ef,ih1]
  have fl:=zbn (fs.take i) xs
  have fc:=zbn (fs.take i) cs
  have st:=zdR (fo:=(lay n (fs.take i)).2) (ts:=(flow (fs.take i) xs).2) okf.1 okf.2 ln.1 (by lia) t1.1 t2.1 mem ih2
  exact⟨zhp (us:=(flow (fs.take i) xs).2) okf.1 okf.2 (by lia) (by lia) st.1,st.2⟩
def zan (n lane:Nat) (m:Int):List Int:=(List.replicate n (0:Int)).set lane m
theorem zcB (n lane:Nat) (m:Int):(zan n lane m).length=n:=by simp[zan]
theorem zf3 (d n lane:Nat):Left d n (List.replicate n 0) (zan n lane (pw d)):=fun i hi=>by
 unfold zan
 rw[zak (by simp[hi])]
 have z:(List.replicate n (0:Int)).getD i 0=0:=by simp[hi]
 rw[z]
 split
 ·exact Int.dvd_refl _
 ·exact Int.dvd_zero _
theorem zjo {n:Nat}{fs:List (Nat × Nat)}(ok:∀ f∈fs,f.1<n∧f.2<n):∀ i,i≤fs.length→∀ z∈(lay n (fs.take i)).2,z≤i
 | 0,_,z,h=>by simp[lay]at h
 | i+1,hi,z,h=>by
  have il:i<fs.length:=by lia
  have ih:=zjo ok i (by lia)
  have ln:=zas (n:=n) i fs (by lia)
  have okf:=ok _ (List.getElem_mem il)
  have low:∀ lane,lane<n→(lay n (fs.take i)).1.getD lane 0≤i:=fun lane hl=>by
   rcases (zaF ok i (by lia) lane hl).2.2 with w|⟨j,g,ji,_,_,e⟩
   ·lia
   ·rw[← e];exact ih _ (L2.zaH (by lia))
  rw[zaG (List.getElem?_eq_getElem il)]at h
  rcases List.mem_append.mp h with w|w
  ·have:=ih z w;lia
  ·have a:=low _ okf.1
   have b:=low _ okf.2
   have w:=List.mem_singleton.mp w
   have:big ((lay n (fs.take i)).1.getD fs[i].1 0) ((lay n (fs.take i)).1.getD fs[i].2 0)≤i:=by unfold big;split<;>assumption
   lia
def IsTop (N:Nt) (d:Nat):Prop:=(∀ z∈zau N,z≤d)∧(d:Int)∈0::zau N
theorem zjd {N:Nt}(ok:N.Ok) {d:Nat}(h:IsTop N d):d≤128:=by
 have:=zjo (n:=N.lanes) (fs:=N.forks) (fun f hf=>⟨(ok.fk f hf).1,(ok.fk f hf).2.1⟩) N.forks.length (Nat.le_refl _)
 rw[List.take_length]at this
 have fm:=ok.fm
 rcases List.mem_cons.mp h.2 with w|w
 ·lia
 ·have:=this d w;lia
theorem zeY {N:Nt}(ok:N.Ok) {M:Int}(h1:∀ z∈zau N,z≤M) (h2:M∈0::zau N):∃ d:Nat,M=d∧IsTop N d:=by
 have p:0≤M:=by
  rcases List.mem_cons.mp h2 with w|w
  ·lia
  ·have:=zhD (n:=N.lanes) (fs:=N.forks) (fun f hf=>⟨(ok.fk f hf).1,(ok.fk f hf).2.1⟩) N.forks.length (Nat.le_refl _)
   rw[List.take_length]at this
   exact this M w
 obtain⟨d,rfl⟩:=Int.eq_ofNat_of_zero_le p
 exact⟨d,rfl,h1,h2⟩
theorem zkM {N:Nt}(ok:N.Ok) {d:Nat}(h:IsTop N d) {M:Int}(h1:M∈(lay N.lanes N.forks).1) (h2:∀ z∈(lay N.lanes N.forks).1,z≤M):M=d:=by
 have okf:∀ f∈N.forks,f.1<N.lanes∧f.2<N.lanes:=fun f hf=>⟨(ok.fk f hf).1,(ok.fk f hf).2.1⟩
 have tp:=zaF okf N.forks.length (Nat.le_refl _)
 have ln:=zas (n:=N.lanes) N.forks.length N.forks (Nat.le_refl _)
 rw[List.take_length]at tp ln
 have l1:=ok.l1
 obtain⟨x,hx,e⟩:=L2.zbF h1
 have a:M≤d:=by
  rcases (tp x (by lia)).2.2 with w|⟨j,g,ji,eg,on,ej⟩
  ·lia
  ·have:=h.1 _ (L2.zaH (ns:=zau N) (i:=j) (by rw[zbS];exact ji))
   have ej:(zau N).getD j 0=_:=ej
   lia
 have b:(d:Int)≤M:=by
  rcases List.mem_cons.mp h.2 with w|w
  ·have t0:=(tp 0 (by lia)).1
   have:=h2 _ (L2.zaH (ns:=(lay N.lanes N.forks).1) (i:=0) (by lia))
   lia
  ·obtain⟨j,hj,ej⟩:=L2.zbF w
   rw[zbS]at hj
   have f1:=okf _ (List.getElem_mem hj)
   have t:=(tp _ f1.1).2.1 j _ hj (List.getElem?_eq_getElem hj) (.inl rfl)
   have:=h2 _ (L2.zaH (ns:=(lay N.lanes N.forks).1) (i:=N.forks[j].1) (by lia))
   have ej:(lay N.lanes N.forks).2.getD j 0=d:=ej
   lia
 lia
def zaX (xs:List Int) (f:Nat × Nat):List Int:=(xs.set f.1 ((xs.getD f.1 0+xs.getD f.2 0) / 2)).set f.2 ((xs.getD f.1 0+xs.getD f.2 0) / 2)
def zaq (fs:List (Nat × Nat)) (xs:List Int):List Int:=fs.foldl zaX xs
theorem zeK {fs:List (Nat × Nat)}{i:Nat}{f:Nat × Nat}(h:fs[i]?=some f) (xs:List Int):zaq (fs.take (i+1)) xs=zaX (zaq (fs.take i) xs) f:=by
 have w:=List.getElem?_eq_some_iff.mp h
 rw[List.take_succ_eq_append_getElem w.1,w.2]
 unfold zaq
 rw[List.foldl_append];rfl
theorem zii {xs ts:List Int}{f:Nat × Nat}(ev:(2:Int) ∣ xs.getD f.1 0+xs.getD f.2 0):zaX xs f=(zaO (xs,ts) f).1:=by
 obtain⟨q,hq⟩:=ev
 unfold zaX zaO
 simp only[hq]
 rw[show (2*q+1) / 2=q from by lia,show 2*q / 2=q from by lia]
theorem ziV {n:Nat}{fs:List (Nat × Nat)}{i:Nat}(il:i<fs.length):1+big ((lay n (fs.take i)).1.getD fs[i].1 0) ((lay n (fs.take i)).1.getD fs[i].2 0)∈(lay n fs).2:=by
 have go:∀ j,i+1≤j→j≤fs.length→1+big ((lay n (fs.take i)).1.getD fs[i].1 0) ((lay n (fs.take i)).1.getD fs[i].2 0)∈(lay n (fs.take j)).2:=fun j=>by
  induction j with
  | zero=>intro h;lia
  | succ j ihj =>
   intro h h'
   rw[zaG (List.getElem?_eq_getElem (show j<fs.length by lia))]
   by_cases e:i=j
   ·subst e;unfold zaj;simp
   ·unfold zaj;exact List.mem_append_left _ (ihj (by lia) (by lia))
 have:=go fs.length (by lia) (Nat.le_refl _)
 rwa [List.take_length]at this
theorem zcu {N:Nt}(ok:N.Ok) {d lane:Nat}(hd:∀ z∈zau N,z≤d):∀ i,i≤N.forks.length→zaq (N.forks.take i) (zan N.lanes lane (pw d))=(flow (N.forks.take i) (zan N.lanes lane (pw d))).1
 | 0,_=>rfl
 | i+1,hi=>by
  have il:i<N.forks.length:=by lia
  have ef:=List.getElem?_eq_getElem il
  have okf:=ok.fk _ (List.getElem_mem il)
  have okall:∀ f∈N.forks,f.1<N.lanes∧f.2<N.lanes:=fun f hf=>⟨(ok.fk f hf).1,(ok.fk f hf).2.1⟩
  have al:=zcB N.lanes lane (pw d)
  have L:=(zdO (d:=d) (n:=N.lanes) (fs:=N.forks) okall (cs:=zan N.lanes lane (pw d)) (k:=0) al al hd (zf3 d N.lanes lane) i (by lia)).2
  have ln:=zas (n:=N.lanes) i N.forks (by lia)
  have t1:=zaF okall i (by lia) _ okf.1
  have t2:=zaF okall i (by lia) _ okf.2.1
  have fl:=zbn (N.forks.take i) (zan N.lanes lane (pw d))
  have ev:=(zdR (fo:=(lay N.lanes (N.forks.take i)).2) (ts:=(flow (N.forks.take i) (zan N.lanes lane (pw d))).2) okf.1 okf.2.1 ln.1 (by lia) t1.1 t2.1 (hd _ (ziV il)) L).1
  rw[zeK ef,zbf ef,zcu ok hd i (by lia)]
  exact zii (ts:=(flow (N.forks.take i) (zan N.lanes lane (pw d))).2) ev
theorem zbU:∀ (fs:List (Nat × Nat)) (xs:List Int),(zaq fs xs).length=xs.length
 | [],_=>rfl
 | f::fs,xs=>by
  show (zaq fs (zaX xs f)).length=_
  rw[zbU fs];simp[zaX]
theorem zjn:∀ xs:List Int,∃ M,M∈0::xs∧∀ z∈0::xs,z≤M
 | []=>⟨0,List.mem_cons_self,fun z h=>by rw[List.mem_singleton.mp h];exact Int.le_refl _⟩
 | x::xs=>by
  obtain⟨M,h1,h2⟩:=zjn xs
  by_cases c:x≤M
  ·refine⟨M,?_,fun z h=>?_⟩
   ·rcases List.mem_cons.mp h1 with e|e
    ·rw[e];exact List.mem_cons_self
    ·exact List.mem_cons_of_mem _ (List.mem_cons_of_mem _ e)
   ·rcases List.mem_cons.mp h with e|e
    ·rw[e];exact h2 0 List.mem_cons_self
    ·rcases List.mem_cons.mp e with e|e
     ·rw[e];exact c
     ·exact h2 z (List.mem_cons_of_mem _ e)
  ·refine⟨x,List.mem_cons_of_mem _ List.mem_cons_self,fun z h=>?_⟩
   have h0:=h2 0 List.mem_cons_self
   rcases List.mem_cons.mp h with e|e
   ·lia
   ·rcases List.mem_cons.mp e with e|e
    ·lia
    ·have:=h2 z (List.mem_cons_of_mem _ e);lia
theorem zgp {N:Nt}(ok:N.Ok):∃ d,IsTop N d:=by
 obtain⟨M,h1,h2⟩:=zjn (zau N)
 obtain⟨d,_,h⟩:=zeY ok (fun z hz=>h2 z (List.mem_cons_of_mem _ hz)) h1
 exact⟨d,h⟩
def zb4 (xs:List Int) (f:Nat × Nat):List Int :=
 (xs.set f.1 (if xs.getD f.2 0 > xs.getD f.1 0 then xs.getD f.2 0 else xs.getD f.1 0)).set f.2 (if xs.getD f.2 0<xs.getD f.1 0 then xs.getD f.2 0 else xs.getD f.1 0)
def cmpF (fs:List (Nat × Nat)) (xs:List Int):List Int:=fs.foldl zb4 xs
def cmpM (N:Nt) (xs:List Int):List Int:=N.ends.map fun e=>(cmpF N.forks xs).getD e 0
theorem zdB (xs:List Int) (f:Nat × Nat):(zb4 xs f).length=xs.length:=by simp[zb4]
theorem zbo:∀ (fs:List (Nat × Nat)) (xs:List Int),(cmpF fs xs).length=xs.length
 | [],_=>rfl
 | f::fs,xs=>(zbo fs (zb4 xs f)).trans (zdB xs f)
theorem zd1 {fs:List (Nat × Nat)}{i:Nat}{f:Nat × Nat}(h:fs[i]?=some f) (xs:List Int):cmpF (fs.take (i+1)) xs=zb4 (cmpF (fs.take i) xs) f:=by
 have w:=List.getElem?_eq_some_iff.mp h;obtain⟨hi,e⟩:=w
 rw[List.take_succ_eq_append_getElem hi,e]
 unfold cmpF;rw[List.foldl_append];rfl
theorem zdd {xs:List Int}{i:Nat}(h:i<xs.length):xs.set i (xs.getD i 0)=xs:=by
 refine List.ext_getElem (by simp) fun j h1 h2=>?_
 rw[List.getElem_set]
 split
 ·rename_i e;subst e;rw[List.getD_eq_getElem?_getD,List.getElem?_eq_getElem h];rfl
 ·rfl
theorem zeZ {xs:List Int}{f:Nat × Nat}(h:xs.getD f.1 0<xs.getD f.2 0):zb4 xs f=(xs.set f.1 (xs.getD f.2 0)).set f.2 (xs.getD f.1 0):=by
 unfold zb4;rw[if_pos h,if_neg (by lia)]
theorem ze0 {xs:List Int}{f:Nat × Nat}(h:¬ xs.getD f.1 0<xs.getD f.2 0) (h1:f.1<xs.length) (h2:f.2<xs.length):zb4 xs f=xs:=by
 unfold zb4
 rw[if_neg (by lia),zdd h1]
 by_cases e:xs.getD f.2 0<xs.getD f.1 0
 ·rw[if_pos e,zdd h2]
 ·rw[if_neg e,show xs.getD f.1 0=xs.getD f.2 0 by lia,zdd h2]
theorem zgr {xs:List Int}{i j:Nat}(hi:i<xs.length) (hj:j<xs.length) (ne:i≠j):((xs.set i (xs.getD j 0)).set j (xs.getD i 0)).Perm xs:=by
 rw[List.perm_iff_count]
 intro b
 have g:∀ k,k<xs.length→xs.getD k 0=xs[k]!:=fun k hk=>by
  rw[List.getD_eq_getElem?_getD,List.getElem?_eq_getElem hk];simp[hk]
 have ei:xs.getD i 0=xs[i]:=by rw[List.getD_eq_getElem?_getD,List.getElem?_eq_getElem hi];rfl
 have ej:xs.getD j 0=xs[j]:=by rw[List.getD_eq_getElem?_getD,List.getElem?_eq_getElem hj];rfl
 rw[List.count_set (by rw[List.length_set];exact hj),List.count_set hi,List.getElem_set_ne ne,ei,ej]
 have c:(if (xs[i] == b)=true then 1 else 0)≤xs.count b:=by
  split
  ·rename_i e
   have e':xs[i]=b:=by simpa using e
   exact List.count_pos_iff.mpr (e' ▸ List.getElem_mem hi)
  ·exact Nat.zero_le _
 lia
theorem zfE {xs:List Int}{f:Nat × Nat}(h1:f.1<xs.length) (h2:f.2<xs.length) (ne:f.1≠f.2):(zb4 xs f).Perm xs:=by
 by_cases h:xs.getD f.1 0<xs.getD f.2 0
 ·rw[zeZ h];exact zgr h1 h2 ne
 ·rw[ze0 h h1 h2]
theorem zd2:∀ (fs:List (Nat × Nat)) (xs:List Int),(∀ f∈fs,f.1<xs.length∧f.2<xs.length∧f.1≠f.2)→(cmpF fs xs).Perm xs
 | [],xs,_=>.refl _
 | f::fs,xs,h=>by
  have hf:=h f List.mem_cons_self
  refine(zd2 fs (zb4 xs f) fun g hg=>?_).trans (zfE hf.1 hf.2.1 hf.2.2)
  rw[zdB];exact h g (List.mem_cons_of_mem _ hg)
theorem zhZ {N:Nt}(ok:N.Ok) {xs:List Int}(h:xs.length=N.lanes):(cmpM N xs).Perm xs:=by
 refine(ok.en.map _).trans ?_
 have e:N.lanes=(cmpF N.forks xs).length:=by rw[zbo,h]
 rw[e,zbq]
 exact zd2 _ _ fun f hf=>by rw[h];exact ok.fk f hf
theorem zfx {N:Nt}(ok:N.Ok) {xs:List Int}(h:xs.length=N.lanes):(cmpM N xs).length=N.lanes:=by
 rw[(zhZ ok h).length_eq,h]
def Deep (K:PySem.W.Frag) (H:Hp):Nat→V→Prop
 | 0,x=>AnyT K H x
 | n+1,x=>AnyT K H x∧∀ xs,zaZ H x=some xs→xs.length≤1000∧∀ y∈xs,Deep K H n y
theorem Deep.any {K:PySem.W.Frag}{H:Hp}:∀ {n:Nat}{x:V},Deep K H n x→AnyT K H x
 | 0,_,h=>h
 | _+1,_,h=>h.1
def zaw (H:Hp) (many b:Int) (x:V):Bool:=match zaZ H x with
 | some xs=>decide ((xs.length:Int)=many) && xs.all (zam b)
 | none=>false
abbrev zfm:List (Int × Int):=[(1,0),(2,1),(4,3),(8,6),(16,9)]
def zb1 (n:Nat):V:=valI zfm (n:Nat)
theorem zfV (n:Nat):zb1 n=.non∨∃ k:Int,zb1 n=.int k:=by
 unfold zb1 valI
 cases (zfm.find? fun kv=>decide (kv.1=(n:Int)))
 ·exact .inl rfl
 ·exact .inr ⟨_,rfl⟩
def zaS (N:Nt):Bool:=decide (zb1 N.lanes=.non)
def zbz (N:Nt) (d:Nat):Bool:=match zb1 N.lanes with
 | .int k=>decide ((d:Int)<k)
 | _=>false
theorem zcV {N:Nt}{d e:Nat}(h:IsTop N d) (g:IsTop N e):d=e:=by
 obtain⟨a,b⟩:=h
 obtain⟨a',b'⟩:=g
 have x:(d:Int)≤e:=by
  rcases List.mem_cons.mp b with z|z
  ·lia
  ·exact a' _ z
 have y:(e:Int)≤d:=by
  rcases List.mem_cons.mp b' with z|z
  ·lia
  ·exact a _ z
 lia
def zbs (N:Nt) (d lane e:Nat):Int:=(zaL N (zan N.lanes lane (pw d))).getD e 0
def offB (N:Nt) (d lane e:Nat):Bool:=!decide ((N.lanes:Int)*zbs N d lane e=pw d)
def offR (N:Nt) (d lane j:Nat):List (Nat × Nat):=((List.range j).filter (offB N d lane)).map fun e=>(lane,e)
def offL (N:Nt) (d i:Nat):List (Nat × Nat):=(List.range i).flatMap fun lane=>offR N d lane N.lanes
theorem zdL (N:Nt) (d lane j:Nat):offR N d lane (j+1)=offR N d lane j++if offB N d lane j=true then [(lane,j)] else []:=by
 unfold offR
 rw[List.range_succ,List.filter_append,List.map_append]
 congr 1
 by_cases c:offB N d lane j=true
 ·rw[if_pos c,List.filter_cons_of_pos c];rfl
 ·rw[if_neg c,List.filter_cons_of_neg c];rfl
theorem zdM (N:Nt) (d i:Nat):offL N d (i+1)=offL N d i++offR N d i N.lanes:=by
 unfold offL
 rw[List.range_succ,List.flatMap_append,List.flatMap_singleton]
theorem zfi (N:Nt) (d lane j:Nat):(offR N d lane j).length≤j:=by
 unfold offR
 rw[List.length_map]
 exact Nat.le_trans (List.length_filter_le ..) (by rw[List.length_range];exact Nat.le_refl _)
theorem zfj (N:Nt) (d:Nat):∀ i,(offL N d i).length≤i*N.lanes
 | 0=>by simp[offL]
 | i+1=>by
  rw[zdM,List.length_append,Nat.succ_mul]
  have:=zfj N d i
  have:=zfi N d i N.lanes
  lia
theorem zb7 {N:Nt}{d i lane e:Nat}:(lane,e)∈offL N d i↔lane<i∧e<N.lanes∧offB N d lane e=true:=by
 unfold offL offR
 rw[List.mem_flatMap]
 constructor
 ·rintro⟨l,hl,hm⟩
  obtain⟨e',he,z⟩:=List.mem_map.mp hm
  cases z
  obtain⟨a,b⟩:=List.mem_filter.mp he
  exact⟨List.mem_range.mp hl,List.mem_range.mp a,b⟩
 ·rintro⟨a,b,c⟩
  exact⟨lane,List.mem_range.mpr a,List.mem_map.mpr ⟨e,List.mem_filter.mpr ⟨List.mem_range.mpr b,c⟩,rfl⟩⟩
def offV (N:Nt) (d:Nat):V→V→Bool
 | .int i,.int j=>zam N.lanes (.int i) && (zam N.lanes (.int j) && offB N d i.toNat j.toNat)
 | _,_=>false
def zbt (N:Nt) (cs:List Int):Bool:=decide ((cmpM N cs).Pairwise (·≥·))
theorem down_unique:∀ {a b:List Int},a.Perm b→a.Pairwise (·≥·)→b.Pairwise (·≥·)→a=b
 | [],b,p,_,_=>by rw[List.nil_perm.mp p]
 | x::a,[],p,_,_=>by simpa using p.length_eq
 | x::a,y::b,p,ha,hb=>by
  have hx:x∈y::b:=p.mem_iff.mp List.mem_cons_self
  have hy:y∈x::a:=p.mem_iff.mpr List.mem_cons_self
  have e:x=y:=by
   rcases List.mem_cons.mp hx with u1|u1
   ·exact u1
   rcases List.mem_cons.mp hy with u2|u2
   ·exact u2.symm
   ·have:=(List.pairwise_cons.mp ha).1 y u2
    have:=(List.pairwise_cons.mp hb).1 x u1
    lia
  subst e
  rw[down_unique (List.perm_cons x |>.mp p) (List.pairwise_cons.mp ha).2 (List.pairwise_cons.mp hb).2]
theorem zhQ {ns ms:List Int}(p:ms.Perm ns) (s:ms.Pairwise (·≥·)):decide (ns=ms)=decide (ns.Pairwise (·≥·)):=by
 rw[decide_eq_decide]
 constructor
 ·intro e;rw[e];exact s
 ·intro q;exact down_unique p.symm q s
def toI:V→Int
 | .int i=>i
 | _=>0
def zcr (H:Hp) (x:V):List Int:=match zaZ H x with
 | some xs=>xs.map toI
 | none=>[]
theorem zbK {b:Int}{x:V}(h:zam b x=true):∃ i:Int,x=.int i∧0≤i∧i<b:=by
 cases x with
 | int i =>
  refine⟨i,rfl,?_⟩
  simpa [zam] using h
 | _=>exact absurd (show false=true from h) Bool.false_ne_true
theorem zeS {H:Hp}{many b:Int}{x:V}(h:zaw H many b x=true):∃ a,∃ cs:List Int,x=.ref a∧H a=some (.tup (cs.map V.int))∧(cs.length:Int)=many∧zcr H x=cs∧∀ i∈cs,0≤i∧i<b:=by
 unfold zaw at h
 cases e:zaZ H x with
 | none=>rw[e]at h;cases h
 | some xs =>
  rw[e]at h
  obtain⟨a,rfl,ha⟩:=zbl e
  have h:(decide ((xs.length:Int)=many) && xs.all (zam b))=true:=h
  rw[Bool.and_eq_true,List.all_eq_true]at h
  have ex:xs=(xs.map toI).map V.int:=by
   rw[List.map_map]
   conv=>lhs;rw[← List.map_id xs]
   refine List.map_congr_left fun y hy=>?_
   obtain⟨i,rfl,_⟩:=zbK (h.2 y hy)
   rfl
  refine⟨a,xs.map toI,rfl,by rw[← ex];exact ha,by rw[List.length_map];exact of_decide_eq_true h.1,by unfold zcr;rw[e],fun i hi=>?_⟩
  obtain⟨y,hy,rfl⟩:=List.mem_map.mp hi
  obtain⟨j,rfl,r⟩:=zbK (h.2 y hy)
  exact r
def zl9 (H:Hp) (N:Nt) (d:Nat):List V→Bool
 | [y]=>if zaC "lanes" y && zaS N then true else zaC "depth" y && zbz N d
 | [y,z]=>zaC "row" y && (zaw H N.lanes 2 z && !zbt N (zcr H z))
 | [y,z,u]=>zaC "share" y && offV N d z u
 | _=>false
def barV (H:Hp) (N:Nt) (d:Nat) (x:V):Bool:=match zaZ H x with
 | some xs=>zl9 H N d xs
 | none=>false
end Bn
namespace K70
open PySem L2 Own Bn
abbrev zgP:Stmt:=top 22
abbrev zer:Stmt:=top 48
def zbr:Sp:=fun vs H Q _=>∃ n:Nat,vs=[.int (n:Nat)]∧1≤n∧n≤16∧∀ H',Same H H'→Q (zb1 n) H'
theorem ziS:∀ n:Nat,1≤n→n≤16→([V.non,.int 0,.int 1,.non,.int 3,.non,.non,.non,.int 6,.non,.non,.non,.non,.non,.non,.non,.int 9]:List V)[n]?=some (zb1 n)
 | 1,_,_=>rfl
 | 2,_,_=>rfl
 | 3,_,_=>rfl
 | 4,_,_=>rfl
 | 5,_,_=>rfl
 | 6,_,_=>rfl
 | 7,_,_=>rfl
 | 8,_,_=>rfl
 | 9,_,_=>rfl
 | 10,_,_=>rfl
 | 11,_,_=>rfl
 | 12,_,_=>rfl
 | 13,_,_=>rfl
 | 14,_,_=>rfl
 | 15,_,_=>rfl
 | 16,_,_=>rfl
 | n+17,_,h=>by lia
section
variable {P:Program}{w:World}{K:PySem.W.Frag}{mg:Str→Option Value}{base:Heap}
theorem scLd:FnScope ["lanes"] ["lanes"] (zad zgP):=by trivial
theorem ziD {f a:Addr}{fd:FuncData}(F:Fun K "least_depth" "least_depth" zgP f fd) (hM:mg "LEAST_DEPTHS" = some (.ref a)) (hD:DictK K a zfm):FnOk P w K mg base CX0 1 f fd ["lanes"] zbr:=by
 refine F.ok scLd (fun vs H Q E h=>?_) (fun cdv A outer s H vs Q E hr h=>?_)
 ·obtain⟨n,rfl,_⟩:=h
  rfl
 obtain⟨n,rfl,n1,n16,k⟩:=h
 refine⟨_,(@pss_one _ _ _ (@ps_ret _ _ _ _ (@zj7 _ _ _ _ _ _ _ _ _ (by rfl) @hM @hD (@qv _ 0 _ _ (by trivial)) (by decide) (by rfl) (by rfl) (by rfl) (by rfl)))),?_⟩
 exact⟨_,rfl,_,rfl,k H (Same.refl _)⟩
theorem scLl:FnScope ["_law_lanes"] ["_law_lanes"] (zad zer):=by trivial
theorem zhg {f:Addr}{fd:FuncData}(F:Fun K "_law_least" "_law_least" zer f fd):FnOk P w K mg base CX0 1 f fd ["_law_lanes"] zbr:=by
 refine F.ok scLl (fun vs H Q E h=>?_) (fun cdv A outer s H vs Q E hr h=>?_)
 ·obtain⟨n,rfl,_⟩:=h
  rfl
 obtain⟨n,rfl,n1,n16,k⟩:=h
 refine⟨_,(@pss_one _ _ _ (@ps_ret _ _ _ _ (@pe_ix _ _ _ _ _ _ _ ix_list (@pe_lst _ _ _ _ (@pa_cons _ _ _ _ _ pe_non (@pa_cons _ _ _ _ _ pe_int (@pa_cons _ _ _ _ _ pe_int (@pa_cons _ _ _ _ _ pe_non (@pa_cons _ _ _ _ _ pe_int (@pa_cons _ _ _ _ _ pe_non (@pa_cons _ _ _ _ _ pe_non (@pa_cons _ _ _ _ _ pe_non (@pa_cons _ _ _ _ _ pe_int (@pa_cons _ _ _ _ _ pe_non (@pa_cons _ _ _ _ _ pe_non (@pa_cons _ _ _ _ _ pe_non (@pa_cons _ _ _ _ _ pe_non (@pa_cons _ _ _ _ _ pe_non (@pa_cons _ _ _ _ _ pe_non (@pa_cons _ _ _ _ _ pe_non (@pa_cons _ _ _ _ _ pe_int pa_nil (by rfl)) (by rfl)) (by rfl)) (by rfl)) (by rfl)) (by rfl)) (by rfl)) (by rfl)) (by rfl)) (by rfl)) (by rfl)) (by rfl)) (by rfl)) (by rfl)) (by rfl)) (by rfl)) (by rfl))) (@qv _ 0 _ _ (by trivial)) (fun _ _=>rfl)))),?_⟩
 refine⟨(by show 17≤sizeLine;decide),fun l hl=>?_⟩
 exact⟨_,rfl,l,_,_,_,rfl,rfl,SqL.of zab,zaN (ziS n n1 n16),k _ (zaa hl _)⟩
end
abbrev zjT:Stmt:=top 1
def zfF:Sp:=fun vs H Q _=>∃ r fr er ps N c cs,vs=[.ref r,.ref c]∧Nt.Ok N∧NetAt H r fr er ps N∧H c=some (.tup (List.map V.int cs))∧cs.length=N.lanes ∧
 ∀ p H',Same H H'→H' p=some (.tup ((cmpM N cs).map V.int))→Q (.ref p) H'
section
variable {P:Program}{w:World}{K:PySem.W.Frag}{mg:Str→Option Value}{base:Heap}
theorem zlt {er lo l:Addr}{es:List Nat}{ys:List Int}{H:Hp}{Q:VK}{v0:Option V}(he:H er=some (.tup (nums es))) (ho:H lo=some (.lst (ys.map V.int))) (hl:H l=none) (lt:∀ e∈es,e<ys.length) (h16:es.length≤16)
  (hQ:∀ H',Same H H'→H' l=some (.lst ((es.map fun e=>ys.getD e 0).map V.int))→Q (.ref l) H') :
  ∃ W:Nat→Nat→List V→St→Hp→Prop,(∃ m,W 0 m [] [v0,some (.ref lo)] (upd H l (.lst [])))∧LCW (Itt K er) (zbG 0) tYes (tOp (rIxL K) (tVar 1) (tVar 0)) l Q W:=by
 have lol:lo≠l:=zac ho hl
 refine zhy (K:=K) (a:=er) (xs:=nums es) (fun i acc σ H2=>(∃ v,σ=[v,some (.ref lo)])∧Same H H2∧H2 l=some (.lst acc)∧acc=((es.map fun e=>ys.getD e 0).take i).map V.int) ⟨⟨_,rfl⟩,zaa hl _,zab,rfl⟩ (fun i acc σ H2 q=>⟨q.2.2.1,SqT.of (q.2.1 _ _ he)⟩) ?_ ?_
 ·rintro i x acc σ H2 hx ⟨⟨v,rfl⟩,s2,h2,rfl⟩
  have il:i<es.length:=by have:=(List.getElem?_eq_some_iff.mp hx).1;rwa [zag]at this
  have ex:x=.int es[i]:=by
   unfold nums at hx
   rw[List.getElem?_map,List.getElem?_eq_getElem il]at hx;exact(Option.some.inj hx).symm
  subst ex
  refine⟨_,rfl,_,rfl,lo,_,_,_,rfl,rfl,SqL.of (s2 _ _ ho),zaD (lt _ (List.getElem_mem il)),h2,?_,nx (by rw[zag];exact il) ⟨⟨_,rfl⟩,fun b o e=>?_,zab,?_⟩⟩
  ·rw[List.length_map,List.length_take];exact Nat.lt_of_le_of_lt (Nat.min_le_left _ _) (Nat.lt_of_lt_of_le (show i<1000 by lia) (by decide))
  ·rw[zae (zac e hl)];exact s2 b o e
  ·have el:i<(es.map fun e=>ys.getD e 0).length:=by rw[List.length_map];exact il
   have eg:(es.map fun e=>ys.getD e 0)[i]=ys.getD es[i] 0:=by simp
   rw[List.take_succ_eq_append_getElem el,List.map_append,eg];rfl
 ·rintro acc σ H2 ⟨⟨v,rfl⟩,s2,h2,rfl⟩
  refine hQ H2 s2 ?_
  rw[h2,zag,List.take_of_length_le (by rw[List.length_map];exact Nat.le_refl _)]
theorem scCp:FnScope ["net","row","lanes","forks","ends","on_lanes","one","other","greater","lesser"] ["net","row"] (zad zjT):=by trivial
theorem zkn {f:Addr}{fd:FuncData}(F:Fun K "compared" "compared" zjT f fd) (G:Mgs mg):FnOk P w K mg base CX0 1 f fd ["net","row"] zfF:=by
 refine F.ok scCp (fun vs H Q E h=>?_) (fun cdv A outer s H vs Q E hr h=>?_)
 ·obtain⟨r,fr,er,ps,N,c,cs,rfl,_⟩:=h
  rfl
 obtain⟨r,fr,er,ps,N,c,cs,rfl,ok,na,hc,cl,k⟩:=h
 refine⟨_,(@pss_cons _ _ _ _ _ (@ps_asg _ _ _ _ _ _ (@qv _ 0 _ _ (by trivial)) (@zap _ _ _ _ _ _ rfl (@pgs_cons _ _ _ _ _ (@pg_name _ _ 2 _ scCp.nd rfl (.inl rfl) (by first|exact .inl rfl|exact .inr rfl|assumption)) (@pgs_cons _ _ _ _ _ (@pg_name _ _ 3 _ scCp.nd rfl (.inl rfl) (by first|exact .inl rfl|exact .inr rfl|assumption)) (@pgs_cons _ _ _ _ _ (@pg_name _ _ 4 _ scCp.nd rfl (.inl rfl) (by first|exact .inl rfl|exact .inr rfl|assumption)) pgs_nil (by rfl)) (by rfl)) (by rfl)) (by rfl) (by rfl)) (by rfl) (by rfl) (by rfl)) (@pss_cons _ _ _ _ _ (@ps_set _ _ 5 _ _ _ _ scCp.nd rfl (.inr rfl) (@pe_callTy _ _ _ _ _ _ _ _ _ zaU (by rfl) G.list (by rfl) (@pa_cons _ _ _ _ _ (@qv _ 1 _ _ (by trivial)) pa_nil (by rfl)) (by decide) (by decide) (by rfl) (by rfl)) (by rfl) (by first|exact .inl rfl|exact .inr rfl|assumption)) (@pss_cons _ _ _ _ _ (@ps_for _ _ _ _ _ _ _ _ PassesOwn.never rfl (@za8 _ _ _ _ (@qv _ 3 _ _ (by trivial))) (@zap _ _ _ _ _ _ rfl (@pgs_cons _ _ _ _ _ (@pg_name _ _ 6 _ scCp.nd rfl (.inl rfl) (by first|exact .inl rfl|exact .inr rfl|assumption)) (@pgs_cons _ _ _ _ _ (@pg_name _ _ 7 _ scCp.nd rfl (.inl rfl) (by first|exact .inl rfl|exact .inr rfl|assumption)) pgs_nil (by rfl)) (by rfl)) (by rfl) (by rfl)) (@pss_cons _ _ _ _ _ (@ps_set _ _ 8 _ _ _ _ scCp.nd rfl (.inl rfl) (@pe_callB _ _ _ _ _ _ _ _ _ (zbh rfl) (by rfl) G.max (by rfl) (@pa_cons _ _ _ _ _ (@pe_ix _ _ _ _ _ _ _ ix_list (@qv _ 5 _ _ (by trivial)) (@qv _ 6 _ _ (by trivial)) (fun _ _=>rfl)) (@pa_cons _ _ _ _ _ (@pe_ix _ _ _ _ _ _ _ ix_list (@qv _ 5 _ _ (by trivial)) (@qv _ 7 _ _ (by trivial)) (fun _ _=>rfl)) pa_nil (by rfl)) (by rfl)) (by decide) (by decide) (by rfl) (by rfl)) (by rfl) (by first|exact .inl rfl|exact .inr rfl|assumption)) (@pss_cons _ _ _ _ _ (@ps_set _ _ 9 _ _ _ _ scCp.nd rfl (.inl rfl) (@pe_callB _ _ _ _ _ _ _ _ _ (zd4 rfl) (by rfl) G.min (by rfl) (@pa_cons _ _ _ _ _ (@pe_ix _ _ _ _ _ _ _ ix_list (@qv _ 5 _ _ (by trivial)) (@qv _ 6 _ _ (by trivial)) (fun _ _=>rfl)) (@pa_cons _ _ _ _ _ (@pe_ix _ _ _ _ _ _ _ ix_list (@qv _ 5 _ _ (by trivial)) (@qv _ 7 _ _ (by trivial)) (fun _ _=>rfl)) pa_nil (by rfl)) (by rfl)) (by decide) (by decide) (by rfl) (by rfl)) (by rfl) (by first|exact .inl rfl|exact .inr rfl|assumption)) (@pss_cons _ _ _ _ _ (@ps_asg _ _ _ _ _ _ (@qv _ 8 _ _ (by trivial)) (@pg_sub _ _ _ _ _ _ _ (@qv _ 5 _ _ (by trivial)) (@qv _ 6 _ _ (by trivial)) set_list (by intro _;rfl)) (by rfl) (by rfl) (by rfl)) (@pss_one _ _ _ (@ps_asg _ _ _ _ _ _ (@qv _ 9 _ _ (by trivial)) (@pg_sub _ _ _ _ _ _ _ (@qv _ 5 _ _ (by trivial)) (@qv _ 7 _ _ (by trivial)) set_list (by intro _;rfl)) (by rfl) (by rfl) (by rfl)))))) (by intro _;rfl)) (@pss_one _ _ _ (@ps_ret _ _ _ _ (@pe_callTy _ _ _ _ _ _ _ _ _ call_tuple_of (by rfl) G.tuple (by rfl) (@pa_cons _ _ _ _ _ (@pe_lc _ _ _ _ none _ _ _ _ _ _ ["lane","on_lanes"] [none,some 5] rfl (@za8 _ _ _ _ (@qv _ 4 _ _ (by trivial))) (CapOk.of (by kernel_rfl)) (fun _ _ _ _ _=>(@pg_name _ _ 0 _ (show (["lane","on_lanes"]:List Str).Nodup from by decide +kernel) rfl (.inl rfl) (.inr rfl))) (fun _ _ _ _ _=>zaE) (fun _ _ _ _ _=>(@pe_ix _ _ _ _ _ _ (rIxL K) ix_list (@qv _ 1 _ _ (by trivial)) (@qv _ 0 _ _ (by trivial)) (fun _ _=>rfl))) (by intro _;rfl)) pa_nil (by rfl)) (by decide) (by decide) (by rfl) (by rfl))))))),?_⟩
 refine⟨_,rfl,r,_,rfl,SqT.of na.net,rfl,_,_,rfl,_,_,rfl,_,_,rfl,rfl,?_⟩
 refine⟨_,rfl,c,_,rfl,.inr (SqT.of hc),fun lo hlo=>?_⟩
 have s1:=zaa hlo (.lst (cs.map V.int))
 refine⟨_,rfl,fr,rfl,⟨_,SqT.of (s1 _ _ na.forks)⟩,?_⟩
 refine zbV (K:=K) (a:=fr) (xs:=ps) (fun i σ H2=>(∃ v6 v7 v8 v9,σ=[some (.ref r),some (.ref c),some (.int N.lanes),some (.ref fr),some (.ref er),some (.ref lo),v6,v7,v8,v9])∧Same H H2∧H2 lo=some (.lst ((cmpF (N.forks.take i) cs).map V.int)))
  ⟨⟨_,_,_,_,rfl⟩,s1,zab⟩ (fun i σ H2 _ q=>SqT.of (q.2.1 _ _ na.forks)) ?_ ?_
 ·rintro i p σ H2 hp ⟨⟨v6,v7,v8,v9,rfl⟩,s3,h1⟩
  obtain⟨a,g,rfl,eg,ha⟩:=(na.prs.tups (Tups.of s3)).get hp
  have okg:=ok.fk g (List.mem_of_getElem? eg)
  have fl:(cmpF (N.forks.take i) cs).length=N.lanes:=by rw[zbo,cl]
  have fx:=zd1 eg cs
  generalize cmpF (N.forks.take i) cs=st at *
  refine⟨a,_,rfl,SqT.of ha,rfl,_,_,rfl,_,_,rfl,rfl,?_⟩
  refine⟨_,rfl,_,rfl,lo,_,_,_,rfl,rfl,SqL.of h1,zaD (by lia),_,rfl,_,rfl,lo,_,_,_,rfl,rfl,SqL.of h1,zaD (by lia),_,_,rfl,?_⟩
  refine⟨_,rfl,_,rfl,lo,_,_,_,rfl,rfl,SqL.of h1,zaD (by lia),_,rfl,_,rfl,lo,_,_,_,rfl,rfl,SqL.of h1,zaD (by lia),_,_,rfl,?_⟩
  refine⟨_,rfl,_,rfl,_,rfl,lo,_,_,g.1,rfl,rfl,h1,zb5 (by rw[List.length_map];lia),?_⟩
  refine⟨_,rfl,_,rfl,_,rfl,lo,_,_,g.2,rfl,rfl,zab,zb5 (by rw[List.length_set,List.length_map];lia),⟨_,_,_,_,rfl⟩,fun b o e=>?_,?_⟩
  ·rw[zae (zac e hlo),zae (zac e hlo)];exact s3 b o e
  ·rw[zab,fx]
   unfold zb4
   rw[zay,zay]
 ·rintro σ H2 ⟨⟨v6,v7,v8,v9,rfl⟩,s3,h1⟩
  have e:N.forks.take ps.length=N.forks:=by rw[na.prs.len];exact List.take_length
  rw[e]at h1
  refine⟨_,rfl,er,rfl,⟨_,SqT.of (s3 _ _ na.ends)⟩,fun l hl=>?_⟩
  refine zlt (s3 _ _ na.ends) h1 hl (fun e he=>by rw[zbo,cl];exact zdp ok he) (by rw[zb8 ok];exact ok.l16) fun H4 s4 h4=>?_
  exact⟨l,_,rfl,.inl ⟨SqL.of h4,fun q hq=>k q _ ((s3.trans s4).trans (zaa hq _)) zab⟩⟩
end
abbrev zjR:Stmt:=top 13
abbrev zet:Stmt:=top 14
section
variable {P:Program}{w:World}{K:PySem.W.Frag}{mg:Str→Option Value}{base:Heap}
theorem scF:FnScope ["net","counts","on_lanes","turns","one","other","come"] ["net","counts"] (zad zet):=by trivial
theorem zhj {f:Addr}{fd:FuncData}(F:Fun K "flowed" "flowed" zet f fd) (G:Mgs mg):FnOk P w K mg base CX0 1 f fd ["net","counts"] zc7:=by
 refine F.ok scF (fun vs H Q E h=>?_) (fun cdv A outer s H vs Q E hr h=>?_)
 ·obtain⟨r,fr,er,ps,N,c,cs,rfl,_⟩:=h
  rfl
 obtain⟨r,fr,er,ps,N,c,cs,rfl,ok,na,hc,cl,k⟩:=h
 refine⟨_,(@pss_cons _ _ _ _ _ (@ps_set _ _ 2 _ _ _ _ scF.nd rfl (.inl rfl) (@pe_callTy _ _ _ _ _ _ _ _ _ zaU (by rfl) G.list (by rfl) (@pa_cons _ _ _ _ _ (@qv _ 1 _ _ (by trivial)) pa_nil (by rfl)) (by decide) (by decide) (by rfl) (by rfl)) (by rfl) (by first|exact .inl rfl|exact .inr rfl|assumption)) (@pss_cons _ _ _ _ _ (@ps_set _ _ 3 _ _ _ _ scF.nd rfl (.inl rfl) (@pe_lst _ _ _ _ pa_nil) (by rfl) (by first|exact .inl rfl|exact .inr rfl|assumption)) (@pss_cons _ _ _ _ _ (@ps_for _ _ _ _ _ _ _ _ PassesOwn.never rfl (@za8 _ _ _ _ (@pe_ix _ _ _ _ _ _ _ ix_tup (@qv _ 0 _ _ (by trivial)) pe_int (fun _ _=>rfl))) (@zap _ _ _ _ _ _ rfl (@pgs_cons _ _ _ _ _ (@pg_name _ _ 4 _ scF.nd rfl (.inl rfl) (by first|exact .inl rfl|exact .inr rfl|assumption)) (@pgs_cons _ _ _ _ _ (@pg_name _ _ 5 _ scF.nd rfl (.inl rfl) (by first|exact .inl rfl|exact .inr rfl|assumption)) pgs_nil (by rfl)) (by rfl)) (by rfl) (by rfl)) (@pss_cons _ _ _ _ _ (@ps_set _ _ 6 _ _ _ _ scF.nd rfl (.inl rfl) (@pe_op _ _ _ _ _ _ _ _ op_add (@pe_ix _ _ _ _ _ _ _ ix_list (@qv _ 2 _ _ (by trivial)) (@qv _ 4 _ _ (by trivial)) (fun _ _=>rfl)) (@pe_ix _ _ _ _ _ _ _ ix_list (@qv _ 2 _ _ (by trivial)) (@qv _ 5 _ _ (by trivial)) (fun _ _=>rfl))) (by rfl) (by first|exact .inl rfl|exact .inr rfl|assumption)) (@pss_cons _ _ _ _ _ (@ps_asg _ _ _ _ _ _ (@pe_op _ _ _ _ _ _ _ _ op_fdiv (@pe_op _ _ _ _ _ _ _ _ op_add (@qv _ 6 _ _ (by trivial)) pe_int) pe_int) (@pg_sub _ _ _ _ _ _ _ (@qv _ 2 _ _ (by trivial)) (@qv _ 4 _ _ (by trivial)) set_list (by intro _;rfl)) (by rfl) (by rfl) (by rfl)) (@pss_cons _ _ _ _ _ (@ps_asg _ _ _ _ _ _ (@pe_op _ _ _ _ _ _ _ _ op_fdiv (@qv _ 6 _ _ (by trivial)) pe_int) (@pg_sub _ _ _ _ _ _ _ (@qv _ 2 _ _ (by trivial)) (@qv _ 5 _ _ (by trivial)) set_list (by intro _;rfl)) (by rfl) (by rfl) (by rfl)) (@pss_one _ _ _ (@ps_expr _ _ _ _ (@pe_bm _ _ _ _ _ _ _ _ _ _ _ _ PySem.F.plainAttrs_list PySem.F.slot_list_append PySem.F.type_list_append mt_append (@qv _ 3 _ _ (by trivial)) (@pa_cons _ _ _ _ _ (@pe_op _ _ _ _ _ _ _ _ op_mod (@qv _ 6 _ _ (by trivial)) pe_int) pa_nil (by rfl)) (by rfl) (by rfl) (by rfl) (by rfl) (by rfl)) (by rfl)))))) (by intro _;rfl)) (@pss_one _ _ _ (@ps_ret _ _ _ _ (@pe_tup _ _ _ _ _ (@pa_cons _ _ _ _ _ (@qv _ 2 _ _ (by trivial)) (@pa_cons _ _ _ _ _ (@qv _ 3 _ _ (by trivial)) pa_nil (by rfl)) (by rfl)))))))),?_⟩
 refine⟨_,rfl,c,_,rfl,.inr (SqT.of hc),fun lo hlo=>?_⟩
 have s1:=zaa hlo (.lst (cs.map V.int))
 refine⟨(by show 0≤sizeLine;decide),fun lt hlt=>?_⟩
 have s2:=s1.trans (zaa hlt (.lst []))
 have ne:lo≠lt:=zac zab hlt
 refine⟨_,rfl,r,_,_,_,rfl,rfl,SqT.of (s2 _ _ na.net),rfl,fr,rfl,⟨_,SqT.of (s2 _ _ na.forks)⟩,?_⟩
 refine zbV (K:=K) (a:=fr) (xs:=ps) (fun i σ H2=>(∃ v4 v5 v6,σ=[some (.ref r),some (.ref c),some (.ref lo),some (.ref lt),v4,v5,v6])∧Same H H2∧H2 lo=some (.lst ((flow (N.forks.take i) cs).1.map V.int))∧H2 lt=some (.lst ((flow (N.forks.take i) cs).2.map V.int)))
  ⟨⟨_,_,_,rfl⟩,s2,by rw[zae ne];exact zab,zab⟩ (fun i σ H2 _ q=>SqT.of (q.2.1 _ _ na.forks)) ?_ ?_
 ·rintro i p σ H2 hp ⟨⟨v4,v5,v6,rfl⟩,s3,h1,h2⟩
  obtain⟨a,g,rfl,eg,ha⟩:=(na.prs.tups (Tups.of s3)).get hp
  have okg:=ok.fk g (List.mem_of_getElem? eg)
  have fl:(flow (N.forks.take i) cs).1.length=N.lanes:=by rw[zbn,cl]
  have ft:(flow (N.forks.take i) cs).2.length≤128:=by rw[zf0,List.length_take];have:=ok.fm;lia
  have fx:=zbf eg cs
  generalize flow (N.forks.take i) cs=st at *
  refine⟨a,_,rfl,SqT.of ha,rfl,_,_,rfl,_,_,rfl,rfl,?_⟩
  refine⟨_,rfl,_,rfl,lo,_,_,_,rfl,rfl,SqL.of h1,zaD (by lia),_,rfl,_,rfl,lo,_,_,_,rfl,rfl,SqL.of h1,zaD (by lia),_,_,rfl,rfl,?_⟩
  refine⟨_,rfl,_,_,rfl,rfl,_,_,rfl,rfl,⟨by decide,by decide⟩,_,rfl,_,rfl,lo,_,_,g.1,rfl,rfl,h1,zb5 (by rw[List.length_map];lia),?_⟩
  refine⟨_,rfl,_,_,rfl,rfl,⟨by decide,by decide⟩,_,rfl,_,rfl,lo,_,_,g.2,rfl,rfl,zab,zb5 (by rw[List.length_set,List.length_map];lia),?_⟩
  have h3:upd (upd H2 lo (.lst ((st.1.map V.int).set g.1 (.int ((st.1.getD g.1 0+st.1.getD g.2 0+1) / 2))))) lo (.lst (((st.1.map V.int).set g.1 (.int ((st.1.getD g.1 0+st.1.getD g.2 0+1) / 2))).set g.2 (.int ((st.1.getD g.1 0+st.1.getD g.2 0) / 2)))) lt=some (.lst (st.2.map V.int)):=by
   rw[zae ne.symm,zae ne.symm];exact h2
  refine⟨_,rfl,.inl ⟨rfl,_,SqL.of h3⟩,_,rfl,_,_,rfl,rfl,(by show (0:Int)<2;decide),lt,_,_,rfl,rfl,h3,by rw[List.length_map];exact Nat.lt_of_le_of_lt ft (by decide),⟨_,_,_,rfl⟩,fun b o e=>?_,?_,?_⟩
  ·rw[zae (zac (s1 b o e) hlt),zae (zac e hlo),zae (zac e hlo)];exact s3 b o e
  ·rw[zae ne,zab,fx]
   unfold zaO
   rw[zay,zay]
  ·rw[zab,fx]
   unfold zaO
   rw[List.map_append];rfl
 ·rintro σ H2 ⟨⟨v4,v5,v6,rfl⟩,s3,h1,h2⟩
  have e:N.forks.take ps.length=N.forks:=by rw[na.prs.len];exact List.take_length
  rw[e]at h1 h2
  exact⟨_,rfl,_,rfl,(by show 2≤sizeLine;decide),fun p hp=>k p lo lt _ (s3.trans (zaa hp _)) zab (zaa hp _ _ _ h1) (zaa hp _ _ _ h2)⟩
theorem scE:FnScope ["net","counts","on_lanes","turns"] ["net","counts"] (zad zjR):=by trivial
theorem zkl {f fF:Addr}{fd dF:FuncData}(F:Fun K "ends_of" "ends_of" zjR f fd) (G:Mgs mg) (UF:Use P w K mg base "flowed" ["net","counts"] 1 zc7 fF dF):FnOk P w K mg base CX0 2 f fd ["net","counts"] zgB:=by
 refine F.ok scE (fun vs H Q E h=>?_) (fun cdv A outer s H vs Q E hr h=>?_)
 ·obtain⟨r,fr,er,ps,N,c,cs,rfl,_⟩:=h
  rfl
 obtain⟨r,fr,er,ps,N,c,cs,rfl,ok,na,hc,cl,k⟩:=h
 refine⟨_,(@pss_cons _ _ _ _ _ (@ps_asg _ _ _ _ _ _ (@pe_call _ _ _ _ _ _ _ _ _ _ _ _ _ _ _ _ UF.ok hr (by rfl) UF.m UF.kp UF.b .nil pass0 (@pa_cons _ _ _ _ _ (@qv _ 0 _ _ (by trivial)) (@pa_cons _ _ _ _ _ (@qv _ 1 _ _ (by trivial)) pa_nil (by rfl)) (by rfl)) (by decide) (by rfl) (by rfl)) (@zap _ _ _ _ _ _ rfl (@pgs_cons _ _ _ _ _ (@pg_name _ _ 2 _ scE.nd rfl (.inr rfl) (by first|exact .inl rfl|exact .inr rfl|assumption)) (@pgs_cons _ _ _ _ _ (@pg_name _ _ 3 _ scE.nd rfl (.inl rfl) (by first|exact .inl rfl|exact .inr rfl|assumption)) pgs_nil (by rfl)) (by rfl)) (by rfl) (by rfl)) (by rfl) (by rfl) (by rfl)) (@pss_one _ _ _ (@ps_ret _ _ _ _ (@pe_callTy _ _ _ _ _ _ _ _ _ call_tuple_of (by rfl) G.tuple (by rfl) (@pa_cons _ _ _ _ _ (@pe_lc _ _ _ _ none _ _ _ _ _ _ ["lane","on_lanes"] [none,some 2] rfl (@za8 _ _ _ _ (@pe_ix _ _ _ _ _ _ _ ix_tup (@qv _ 0 _ _ (by trivial)) pe_int (fun _ _=>rfl))) (CapOk.of (by kernel_rfl)) (fun _ _ _ _ _=>(@pg_name _ _ 0 _ (show (["lane","on_lanes"]:List Str).Nodup from by decide +kernel) rfl (.inl rfl) (.inr rfl))) (fun _ _ _ _ _=>zaE) (fun _ _ _ _ _=>(@pe_ix _ _ _ _ _ _ (rIxL K) ix_list (@qv _ 1 _ _ (by trivial)) (@qv _ 0 _ _ (by trivial)) (fun _ _=>rfl))) (by intro _;rfl)) pa_nil (by rfl)) (by decide) (by decide) (by rfl) (by rfl))))),?_⟩
 refine⟨_,rfl,_,rfl,r,fr,er,ps,N,c,cs,rfl,ok,na,hc,cl,fun p lo lt H1 s1 hp ho ht=>?_⟩
 refine⟨p,_,rfl,SqT.of hp,rfl,_,_,rfl,_,_,rfl,rfl,?_⟩
 have na1:=na.tups (Tups.of s1)
 refine⟨_,rfl,r,_,_,_,rfl,rfl,SqT.of na1.net,rfl,er,rfl,⟨_,SqT.of na1.ends⟩,fun l hl=>?_⟩
 have lol:lo≠l:=zac ho hl
 refine zhy (K:=K) (a:=er) (xs:=nums N.ends) (fun i acc σ H2=>(∃ v,σ=[v,some (.ref lo)])∧Same H1 H2∧H2 l=some (.lst acc)∧acc=((zaL N cs).take i).map V.int) ⟨⟨_,rfl⟩,zaa hl _,zab,rfl⟩ (fun i acc σ H2 q=>⟨q.2.2.1,SqT.of (q.2.1 _ _ na1.ends)⟩) ?_ ?_
 ·rintro i x acc σ H2 hx ⟨⟨v,rfl⟩,s2,h2,rfl⟩
  have il:i<N.ends.length:=by have:=(List.getElem?_eq_some_iff.mp hx).1;rwa [zag]at this
  have ex:x=.int N.ends[i]:=by
   unfold nums at hx
   rw[List.getElem?_map,List.getElem?_eq_getElem il]at hx;exact(Option.some.inj hx).symm
  subst ex
  have lt':=zdp ok (List.getElem_mem il)
  refine⟨_,rfl,_,rfl,lo,_,_,_,rfl,rfl,SqL.of (s2 _ _ ho),zaD (by rw[zbn,cl];exact lt'),h2,?_,nx (by rw[zag];exact il) ⟨⟨_,rfl⟩,fun b o e=>?_,zab,?_⟩⟩
  ·rw[List.length_map,List.length_take];exact Nat.lt_of_le_of_lt (Nat.min_le_left _ _) (Nat.lt_of_lt_of_le (show i<1000 by have:=zb8 ok;have:=ok.l16;lia) (by decide))
  ·rw[zae (zac e hl)];exact s2 b o e
  ·have el:i<(zaL N cs).length:=by unfold zaL;rw[List.length_map];exact il
   have eg:(zaL N cs)[i]=(flow N.forks cs).1.getD N.ends[i] 0:=by simp[zaL]
   rw[List.take_succ_eq_append_getElem el,List.map_append,eg];rfl
 ·rintro acc σ H2 ⟨⟨v,rfl⟩,s2,h2,rfl⟩
  refine⟨l,_,rfl,.inl ⟨SqL.of h2,fun q hq=>k q _ ((s1.trans s2).trans (zaa hq _)) ?_⟩⟩
  rw[zab,zag,List.take_of_length_le (by unfold zaL;rw[List.length_map];exact Nat.le_refl _)]
end
abbrev zeq:Stmt:=top 9
theorem zeC (n:Nat):(List.replicate n [V.int 0]).flatten=(List.replicate n (0:Int)).map V.int:=by
 induction n with
 | zero=>rfl
 | succ n ih=>rw[List.replicate_succ,List.flatten_cons,ih,List.replicate_succ];rfl
def zb6:Sp:=fun vs H Q _=>∃ r fr er ps N,vs=[.ref r]∧Nt.Ok N∧NetAt H r fr er ps N∧∀ p H',Same H H'→H' p=some (.tup ((zau N).map V.int))→Q (.ref p) H'
section
variable {P:Program}{w:World}{K:PySem.W.Frag}{mg:Str→Option Value}{base:Heap}
theorem scLy:FnScope ["net","lanes","forks","ends","reached","found","one","other","layer"] ["net"] (zad zeq):=by trivial
theorem zhi {f:Addr}{fd:FuncData}(F:Fun K "layers" "layers" zeq f fd) (G:Mgs mg):FnOk P w K mg base CX0 1 f fd ["net"] zb6:=by
 refine F.ok scLy (fun vs H Q E h=>?_) (fun cdv A outer s H vs Q E hr h=>?_)
 ·obtain⟨r,fr,er,ps,N,rfl,_⟩:=h
  rfl
 obtain⟨r,fr,er,ps,N,rfl,ok,na,k⟩:=h
 refine⟨_,(@pss_cons _ _ _ _ _ (@ps_asg _ _ _ _ _ _ (@qv _ 0 _ _ (by trivial)) (@zap _ _ _ _ _ _ rfl (@pgs_cons _ _ _ _ _ (@pg_name _ _ 1 _ scLy.nd rfl (.inl rfl) (by first|exact .inl rfl|exact .inr rfl|assumption)) (@pgs_cons _ _ _ _ _ (@pg_name _ _ 2 _ scLy.nd rfl (.inl rfl) (by first|exact .inl rfl|exact .inr rfl|assumption)) (@pgs_cons _ _ _ _ _ (@pg_name _ _ 3 _ scLy.nd rfl (.inl rfl) (by first|exact .inl rfl|exact .inr rfl|assumption)) pgs_nil (by rfl)) (by rfl)) (by rfl)) (by rfl) (by rfl)) (by rfl) (by rfl) (by rfl)) (@pss_cons _ _ _ _ _ (@ps_set _ _ 4 _ _ _ _ scLy.nd rfl (.inl rfl) (@pe_op _ _ _ _ _ _ _ _ zfe (@pe_lst _ _ _ _ (@pa_cons _ _ _ _ _ pe_int pa_nil (by rfl))) (@qv _ 1 _ _ (by trivial))) (by rfl) (by first|exact .inl rfl|exact .inr rfl|assumption)) (@pss_cons _ _ _ _ _ (@ps_set _ _ 5 _ _ _ _ scLy.nd rfl (.inl rfl) (@pe_lst _ _ _ _ pa_nil) (by rfl) (by first|exact .inl rfl|exact .inr rfl|assumption)) (@pss_cons _ _ _ _ _ (@ps_for _ _ _ _ _ _ _ _ PassesOwn.never rfl (@za8 _ _ _ _ (@qv _ 2 _ _ (by trivial))) (@zap _ _ _ _ _ _ rfl (@pgs_cons _ _ _ _ _ (@pg_name _ _ 6 _ scLy.nd rfl (.inl rfl) (by first|exact .inl rfl|exact .inr rfl|assumption)) (@pgs_cons _ _ _ _ _ (@pg_name _ _ 7 _ scLy.nd rfl (.inl rfl) (by first|exact .inl rfl|exact .inr rfl|assumption)) pgs_nil (by rfl)) (by rfl)) (by rfl) (by rfl)) (@pss_cons _ _ _ _ _ (@ps_set _ _ 8 _ _ _ _ scLy.nd rfl (.inl rfl) (@pe_op _ _ _ _ _ _ _ _ op_add pe_int (@pe_callB _ _ _ _ _ _ _ _ _ (zbh rfl) (by rfl) G.max (by rfl) (@pa_cons _ _ _ _ _ (@pe_ix _ _ _ _ _ _ _ ix_list (@qv _ 4 _ _ (by trivial)) (@qv _ 6 _ _ (by trivial)) (fun _ _=>rfl)) (@pa_cons _ _ _ _ _ (@pe_ix _ _ _ _ _ _ _ ix_list (@qv _ 4 _ _ (by trivial)) (@qv _ 7 _ _ (by trivial)) (fun _ _=>rfl)) pa_nil (by rfl)) (by rfl)) (by decide) (by decide) (by rfl) (by rfl))) (by rfl) (by first|exact .inl rfl|exact .inr rfl|assumption)) (@pss_cons _ _ _ _ _ (@ps_asg _ _ _ _ _ _ (@qv _ 8 _ _ (by trivial)) (@pg_sub _ _ _ _ _ _ _ (@qv _ 4 _ _ (by trivial)) (@qv _ 6 _ _ (by trivial)) set_list (by intro _;rfl)) (by rfl) (by rfl) (by rfl)) (@pss_cons _ _ _ _ _ (@ps_asg _ _ _ _ _ _ (@qv _ 8 _ _ (by trivial)) (@pg_sub _ _ _ _ _ _ _ (@qv _ 4 _ _ (by trivial)) (@qv _ 7 _ _ (by trivial)) set_list (by intro _;rfl)) (by rfl) (by rfl) (by rfl)) (@pss_one _ _ _ (@ps_expr _ _ _ _ (@pe_bm _ _ _ _ _ _ _ _ _ _ _ _ PySem.F.plainAttrs_list PySem.F.slot_list_append PySem.F.type_list_append mt_append (@qv _ 5 _ _ (by trivial)) (@pa_cons _ _ _ _ _ (@qv _ 8 _ _ (by trivial)) pa_nil (by rfl)) (by rfl) (by rfl) (by rfl) (by rfl) (by rfl)) (by rfl)))))) (by intro _;rfl)) (@pss_one _ _ _ (@ps_ret _ _ _ _ (@pe_callTy _ _ _ _ _ _ _ _ _ call_tuple_of (by rfl) G.tuple (by rfl) (@pa_cons _ _ _ _ _ (@qv _ 5 _ _ (by trivial)) pa_nil (by rfl)) (by decide) (by decide) (by rfl) (by rfl)))))))),?_⟩
 have l1:=ok.l1
 have l16:=ok.l16
 have fm:=ok.fm
 have pl:=na.prs.len
 have tn:((N.lanes:Nat):Int).toNat=N.lanes:=by lia
 refine⟨_,rfl,r,_,rfl,SqT.of na.net,rfl,_,_,rfl,_,_,rfl,_,_,rfl,rfl,?_⟩
 refine⟨(by show 1≤sizeLine;decide),fun p1 hp1=>?_⟩
 have s1:=zaa hp1 (.lst [.int 0])
 refine⟨_,rfl,p1,N.lanes,_,rfl,rfl,zab,by lia,by lia,by show 1*_≤sizeLine;rw[sizeLine_eq];lia,fun lr hlr=>?_⟩
 have s2:=s1.trans (zaa hlr (.lst (List.replicate ((N.lanes:Int)).toNat [V.int 0]).flatten))
 have hlr0:H lr=none:=by
  cases z:H lr with
  | none=>rfl
  | some o=>exact absurd (s1 _ _ z) (by rw[hlr];exact fun w=>nomatch w)
 refine⟨(by show 0≤sizeLine;decide),fun lf hlf=>?_⟩
 have s3:=s2.trans (zaa hlf (.lst []))
 have hlf0:H lf=none:=by
  cases z:H lf with
  | none=>rfl
  | some o=>exact absurd (s2 _ _ z) (by rw[hlf];exact fun w=>nomatch w)
 have nrf:lr≠lf:=zac zab hlf
 refine⟨_,rfl,fr,rfl,⟨_,SqT.of (s3 _ _ na.forks)⟩,?_⟩
 refine zbV (K:=K) (a:=fr) (xs:=ps) (fun i σ H2=>(∃ v6 v7 v8,σ=[some (.ref r),some (.int N.lanes),some (.ref fr),some (.ref er),some (.ref lr),some (.ref lf),v6,v7,v8])∧Same H H2∧H2 lr=some (.lst ((lay N.lanes (N.forks.take i)).1.map V.int))∧H2 lf=some (.lst ((lay N.lanes (N.forks.take i)).2.map V.int)))
  ⟨⟨_,_,_,rfl⟩,s3,by rw[zae nrf,zab,tn,zeC];rfl,zab⟩ (fun i σ H2 _ q=>SqT.of (q.2.1 _ _ na.forks)) ?_ ?_
 ·rintro i p σ H2 hp ⟨⟨v6,v7,v8,rfl⟩,s4,h1,h2⟩
  obtain⟨a,g,rfl,eg,ha⟩:=(na.prs.tups (Tups.of s4)).get hp
  have okg:=ok.fk g (List.mem_of_getElem? eg)
  have ig:i<N.forks.length:=(List.getElem?_eq_some_iff.mp eg).1
  have ln:=zas (n:=N.lanes) i N.forks (by lia)
  have lx:=zaG (n:=N.lanes) eg
  generalize lay N.lanes (N.forks.take i)=st at *
  refine⟨a,_,rfl,SqT.of ha,rfl,_,_,rfl,_,_,rfl,rfl,?_⟩
  refine⟨_,rfl,_,rfl,lr,_,_,_,rfl,rfl,SqL.of h1,zaD (by lia),_,rfl,_,rfl,lr,_,_,_,rfl,rfl,SqL.of h1,zaD (by lia),_,_,rfl,_,_,rfl,rfl,?_⟩
  refine⟨_,rfl,_,rfl,_,rfl,lr,_,_,g.1,rfl,rfl,h1,zb5 (by rw[List.length_map];lia),?_⟩
  refine⟨_,rfl,_,rfl,_,rfl,lr,_,_,g.2,rfl,rfl,zab,zb5 (by rw[List.length_set,List.length_map];lia),?_⟩
  have h3:∀ x y,L2.upd (L2.upd H2 lr x) lr y lf=some (.lst (st.2.map V.int)):=fun x y=>by rw[zae nrf.symm,zae nrf.symm];exact h2
  refine⟨_,rfl,.inl ⟨rfl,_,SqL.of (h3 _ _)⟩,_,rfl,lf,_,_,rfl,rfl,h3 _ _,by rw[List.length_map,ln.2];exact Nat.lt_of_lt_of_le (show i<1000 by lia) (by decide),⟨_,_,_,rfl⟩,fun b o e=>?_,?_,?_⟩
  ·rw[zae (zac e hlf0),zae (zac e hlr0),zae (zac e hlr0)];exact s4 b o e
  ·rw[zae nrf,zab,lx]
   unfold zaj
   rw[zay,zay];rfl
  ·rw[zab,lx]
   unfold zaj
   rw[List.map_append];rfl
 ·rintro σ H2 ⟨⟨v6,v7,v8,rfl⟩,s4,h1,h2⟩
  rw[pl,List.take_length]at h2
  exact⟨_,rfl,lf,_,rfl,.inl ⟨SqL.of h2,fun q hq=>k q _ (s4.trans (zaa hq _)) zab⟩⟩
end
abbrev zgU:Stmt:=top 10
def zcf:Sp:=fun vs H Q _=>∃ r fr er ps N,vs=[.ref r]∧Nt.Ok N∧NetAt H r fr er ps N∧∀ M H',Same H H'→M∈0::zau N→(∀ z∈zau N,z≤M)→(zau N=[]→M=0)→(zau N≠[]→M∈zau N)→Q (.int M) H'
section
variable {P:Program}{w:World}{K:PySem.W.Frag}{mg:Str→Option Value}{base:Heap}
theorem scD:FnScope ["net"] ["net"] (zad zgU):=by trivial
theorem ziI {f fY:Addr}{fd dY:FuncData}(F:Fun K "depth" "depth" zgU f fd) (G:Mgs mg) (UY:Use P w K mg base "layers" ["net"] 1 zb6 fY dY):FnOk P w K mg base CX0 2 f fd ["net"] zcf:=by
 refine F.ok scD (fun vs H Q E h=>?_) (fun cdv A outer s H vs Q E hr h=>?_)
 ·obtain⟨r,fr,er,ps,N,rfl,_⟩:=h
  rfl
 obtain⟨r,fr,er,ps,N,rfl,ok,na,k⟩:=h
 refine⟨_,(@pss_one _ _ _ (@ps_ret _ _ _ _ (@zj6 _ _ _ _ _ _ _ _ false rfl (by rfl) G.max (@pe_call _ _ _ _ _ _ _ _ _ _ _ _ _ _ _ _ UY.ok hr (by rfl) UY.m UY.kp UY.b .nil pass0 (@pa_cons _ _ _ _ _ (@qv _ 0 _ _ (by trivial)) pa_nil (by rfl)) (by decide) (by rfl) (by rfl)) pe_int (by rfl) (by rfl) (by rfl) (by rfl)))),?_⟩
 refine⟨_,rfl,r,fr,er,ps,N,rfl,ok,na,fun p H1 s1 hp=>?_⟩
 refine⟨p,zau N,0,rfl,rfl,SqT.of hp,fun e=>k 0 H1 s1 List.mem_cons_self (fun z hz=>by rw[e]at hz;simp at hz) (fun _=>rfl) (fun ne=>absurd e ne),fun ne M hM hz=>k M H1 s1 (List.mem_cons_of_mem _ hM) hz (fun e=>absurd e ne) (fun _=>hM)⟩
end
end K70
namespace Bn
open PySem L2 Own
abbrev Fk:=Nat × Nat
def run {σ α:Type}(step:σ→Fk→σ × α):σ→List Fk→σ × List (α × Fk)
 | s,[]=>(s,[])
 | s,f::fs=>((run step (step s f).1 fs).1,((step s f).2,f)::(run step (step s f).1 fs).2)
theorem zdG {σ α:Type}(step:σ→Fk→σ × α):∀ (s:σ) (fs:List Fk),(run step s fs).2.map Prod.snd=fs
 | _,[]=>rfl
 | s,f::fs=>by
  show f::((run step (step s f).1 fs).2.map Prod.snd)=f::fs
  rw[zdG step]
def layS (re:List Int) (f:Fk):List Int × Int:=((re.set f.1 (1+big (re.getD f.1 0) (re.getD f.2 0))).set f.2 (1+big (re.getD f.1 0) (re.getD f.2 0)),1+big (re.getD f.1 0) (re.getD f.2 0))
theorem zhC:∀ (fs:List Fk) (re fo:List Int),fs.foldl zaj (re,fo)=((run layS re fs).1,fo++(run layS re fs).2.map Prod.fst)
 | [],re,fo=>by
  show (re,fo)=(re,fo++[])
  rw[List.append_nil]
 | f::fs,re,fo=>by
  rw[List.foldl_cons]
  show fs.foldl zaj ((layS re f).1,fo++[(layS re f).2])=_
  rw[zhC fs]
  show (_,fo++[(layS re f).2]++_)=(_,fo++((layS re f).2::_))
  rw[List.append_assoc];rfl
def pz (N:Nt):List (Int × Fk):=(run layS (List.replicate N.lanes 0) N.forks).2
theorem zg0 (N:Nt):(pz N).map Prod.fst=zau N:=by
 unfold zau lay pz
 rw[zhC];rfl
theorem zdg (N:Nt):(pz N).map Prod.snd=N.forks:=zdG _ _ _
def rnk (x:Int × Fk):Int:=x.1*1024+x.2.1*32+x.2.2
def ins (x:Int × Fk):List (Int × Fk)→List (Int × Fk)
 | []=>[x]
 | y::l=>if rnk x≤rnk y then x::y::l else y::ins x l
def zfX:List (Int × Fk)→List (Int × Fk)
 | []=>[]
 | x::l=>ins x (zfX l)
theorem insP (x:Int × Fk):∀ l,(ins x l).Perm (x::l)
 | []=>.refl _
 | y::l=>by
  unfold ins
  split
  ·exact .refl _
  ·exact((insP x l).cons y).trans (List.Perm.swap x y l)
theorem zbm:∀ l,(zfX l).Perm l
 | []=>.refl _
 | x::l=>(insP x _).trans ((zbm l).cons x)
theorem zcP (x:Int × Fk):∀ l:List (Int × Fk),l.Pairwise (fun a b=>rnk a≤rnk b)→(ins x l).Pairwise (fun a b=>rnk a≤rnk b)
 | [],_=>List.pairwise_singleton _ _
 | y::l,h=>by
  obtain⟨h1,h2⟩:=List.pairwise_cons.mp (id h)
  unfold ins
  split
  ·next le =>
   refine List.pairwise_cons.mpr ⟨fun z hz=>?_,h⟩
   rcases List.mem_cons.mp hz with rfl|hz2
   ·exact le
   ·exact Int.le_trans le (h1 z hz2)
  ·next gt =>
   refine List.pairwise_cons.mpr ⟨fun z hz=>?_,zcP x l h2⟩
   rcases List.mem_cons.mp ((insP x l).mem_iff.mp hz) with rfl|hz
   ·lia
   ·exact h1 z hz
theorem zb2:∀ l,(zfX l).Pairwise (fun a b=>rnk a≤rnk b)
 | []=>List.Pairwise.nil
 | x::l=>zcP x _ (zb2 l)
theorem zda {a b:List (Int × Fk)}(p:a.Perm b) (bd:∀ y∈b,y.2.1<32∧y.2.2<32) (sa:a.Pairwise (fun x y=>rnk x≤rnk y)) (sb:b.Pairwise (fun x y=>rnk x≤rnk y)):a=b:=by
 refine List.Perm.eq_of_pairwise (le:=fun x y=>rnk x≤rnk y) (fun x y hx hy h1 h2=>?_) sa sb p
 have bx:=bd x (p.mem_iff.mp hx)
 have by':=bd y hy
 obtain⟨x1,x2,x3⟩:=x
 obtain⟨y1,y2,y3⟩:=y
 unfold rnk at h1 h2
 simp only at h1 h2 bx by'
 have e1:x1=y1:=by lia
 have e2:x2=y2:=by lia
 have e3:x3=y3:=by lia
 rw[e1,e2,e3]
def zcJ (N:Nt):List Fk:=(zfX (pz N)).map Prod.snd
def za7 (N:Nt):Nt:=⟨N.lanes,zcJ N,N.ends⟩
theorem zlb {N:Nt}{y:Int × Fk}(h:y∈pz N):y.2∈N.forks:=by
 rw[← zdg N];exact List.mem_map.mpr ⟨y,h,rfl⟩
theorem zjf {N:Nt}(ok:N.Ok):∀ y∈pz N,y.2.1<32∧y.2.2<32:=fun y hy=>by
 have:=ok.fk y.2 (zlb hy)
 have:=ok.l16
 lia
theorem zcI (N:Nt):(zcJ N).Perm N.forks:=by
 have:=(zbm (pz N)).map Prod.snd
 rwa [zdg]at this
theorem zfc {N:Nt}(ok:N.Ok):(za7 N).Ok:=⟨ok.l1,ok.l16,by
 show (zcJ N).length≤128
 rw[(zcI N).length_eq];exact ok.fm,fun f hf=>ok.fk f ((zcI N).mem_iff.mp hf),ok.en⟩
theorem zcj {N:Nt}(ok:N.Ok) {zs:List (Int × Fk)}(p:zs.Perm (pz N)) (so:zs.Pairwise (fun a b=>rnk a≤rnk b)):zs=zfX (pz N) :=
 zda (p.trans (zbm _).symm) (fun y hy=>zjf ok y ((zbm _).mem_iff.mp hy)) so (zb2 _)
end Bn
namespace Ts
open PySem PyProof.Rows
structure Cmp (prog:Program) (w:World) (A:Around) (s:Shared) (κ:SortKind) (P:Keyed→Prop) (rk:Keyed→Int):Prop where
 ask:∀ (x y:Keyed),P x→P y→∀ {Q:Bool→Shared→Prop}{E:Value→Shared→Prop},Q (decide (rk x<rk y)) s→wpAny (model prog w) A (keyLt' κ x.1 y.1) Q E s
def R (rk:Keyed→Int) (xs:Array Keyed) (i:Nat):Int:=match xs[i]? with
 | some p=>rk p
 | none=>0
theorem R_congr {rk:Keyed→Int}{xs ys:Array Keyed}{i j:Nat}(h:xs[i]?=ys[j]?):R rk xs i=R rk ys j:=by unfold R;rw[h]
def Up (rk:Keyed→Int) (xs:Array Keyed) (lo n:Nat):Prop:=∀ i j,lo≤i→i≤j→j<lo+n→R rk xs i≤R rk xs j
def Dn (rk:Keyed→Int) (xs:Array Keyed) (lo n:Nat):Prop:=∀ i j,lo≤i→i≤j→j<lo+n→R rk xs j≤R rk xs i
structure Bs (κ:SortKind) (P:Keyed→Prop) (a₀:Array Keyed) (st:SortSt):Prop where
 kind:kindOf st=κ
 fail:failedOf st=none
 perm:(arrOf st).Perm a₀
 all:∀ p∈a₀.toList,P p
theorem Bs.size {κ:SortKind}{P:Keyed→Prop}{a₀:Array Keyed}{st:SortSt}(h:Bs κ P a₀ st):(arrOf st).size=a₀.size:=h.perm.size_eq
theorem Bs.at {κ:SortKind}{P:Keyed→Prop}{a₀:Array Keyed}{st:SortSt}(h:Bs κ P a₀ st) {i:Nat}(hi:i<a₀.size) (rk:Keyed→Int):∃ p,(arrOf st)[i]?=some p∧P p∧R rk (arrOf st) i=rk p:=by
 have e:(arrOf st)[i]?=some ((arrOf st)[i]'(by rw[h.size];exact hi)):=getElem?_pos (arrOf st) i (by rw[h.size];exact hi)
 refine⟨_,e,h.all _ ((Array.perm_iff_toList_perm.mp h.perm).mem_iff.mp (by simp)),?_⟩
 unfold R;rw[e]
theorem Bs.arr {κ:SortKind}{P:Keyed→Prop}{a₀:Array Keyed}{st:SortSt}(h:Bs κ P a₀ st) {xs:Array Keyed}(hp:xs.Perm (arrOf st)):Bs κ P a₀ (setArr st xs):=⟨h.kind,h.fail,hp.trans h.perm,h.all⟩
section
variable {prog:Program}{w:World}{A:Around}{E:Value→Shared→Prop}{s:Shared}{κ:SortKind}{P:Keyed→Prop}{rk:Keyed→Int}{a₀:Array Keyed}
theorem zhu (C:Cmp prog w A s κ P rk) {st:SortSt}{x y:Keyed}{Q:Option Bool→SortSt→Prop}(hk:kindOf st=κ) (px:P x) (py:P y) (h:Q (some (decide (rk x<rk y))) st):wpS (model prog w) A E s (lt' x y) Q st:=by
 rw[lt'_eq]
 refine wpS_bind (wpS_get (wpS_bind (wpS_lift (wpAny_attempt ?_))))
 rw[hk]
 exact C.ask x y px py ⟨rfl,wpS_pure h⟩
theorem zbO {r:String}{st:SortSt}{Q:Unit→SortSt→Prop}(h:Q () st):wpS (model prog w) A E s (liftM (rule r):StateT SortSt Sem Unit) Q st:=wpS_lift (wpAny_rule ⟨rfl,h⟩)
theorem zaf {st:SortSt}{arr:Array Keyed}{i:Nat}{p:Keyed}{Q:Keyed→SortSt→Prop}(e:arr[i]?=some p) (h:Q p st):wpS (model prog w) A E s (elem' arr i) Q st:=by
 rw[elem'_eq,e];exact wpS_pure h
theorem zhv (C:Cmp prog w A s κ P rk) {st:SortSt}{i j:Nat}{Q:Option Bool→SortSt→Prop}(hB:Bs κ P a₀ st) (hi:i<a₀.size) (hj:j<a₀.size) (h:Q (some (decide (R rk (arrOf st) i<R rk (arrOf st) j))) st):wpS (model prog w) A E s (ltAt' i j) Q st:=by
 obtain⟨p,e1,pp,r1⟩:=hB.at hi rk
 obtain⟨q,e2,pq,r2⟩:=hB.at hj rk
 rw[r1,r2]at h
 rw[ltAt'_eq]
 exact wpS_bind (wpS_get (wpS_bind (zaf e1 (wpS_bind (zaf e2 (zhu C hB.kind pp pq h))))))
structure Keep (κ:SortKind) (P:Keyed→Prop) (rk:Keyed→Int) (a₀:Array Keyed) (lo:Nat) (st st':SortSt):Prop where
 b:Bs κ P a₀ st'
 pend:pendingOf st'=pendingOf st
 low:∀ k,k<lo→R rk (arrOf st') k=R rk (arrOf st) k
theorem Keep.refl {lo:Nat}{st:SortSt}(h:Bs κ P a₀ st):Keep κ P rk a₀ lo st st:=⟨h,rfl,fun _ _=>rfl⟩
theorem Keep.trans {lo:Nat}{st st1 st2:SortSt}(h:Keep κ P rk a₀ lo st st1) (g:Keep κ P rk a₀ lo st1 st2):Keep κ P rk a₀ lo st st2:=⟨g.b,g.pend.trans h.pend,fun k hk=>(g.low k hk).trans (h.low k hk)⟩
theorem R_mirror {xs:Array Keyed}{i j:Nat}(hj:j≤xs.size) (k:Nat):R rk (mirror xs i j ((j-i) / 2)) k=if i≤k∧k<j then R rk xs (i+j-1-k) else R rk xs k:=by
 have e:=getElem?_mirror_all (xs:=xs) (i:=i) hj k
 split at e
 ·next h=>rw[if_pos h];exact R_congr e
 ·next h=>rw[if_neg h];exact R_congr e
theorem ze8 {lo i j:Nat}{st:SortSt}{Q:Unit→SortSt→Prop}(hB:Bs κ P a₀ st) (hl:lo≤i) (hj:j≤a₀.size)
  (h:∀ st',Keep κ P rk a₀ lo st st'→(∀ k,R rk (arrOf st') k=if i≤k∧k<j then R rk (arrOf st) (i+j-1-k) else R rk (arrOf st) k)→Q () st'):wpS (model prog w) A E s (reverseSlice' i j) Q st:=by
 rw[reverseSlice'_eq]
 refine wpS_modify (h _ ⟨hB.arr (mirror_perm _ _ _ _),rfl,fun k hk=>?_⟩ fun k=>?_)
 ·show R rk (mirror (arrOf st) i j ((j-i) / 2)) k=_
  rw[R_mirror (by rw[hB.size];exact hj),if_neg (by lia)]
 ·exact R_mirror (by rw[hB.size];exact hj) k
theorem zi7 (C:Cmp prog w A s κ P rk) {st:SortSt}{lo nrem:Nat}{Q:Option Nat→SortSt→Prop}(hB:Bs κ P a₀ st) (h1:1≤nrem) (hn:lo+nrem≤a₀.size)
  (h:∀ st' m,Keep κ P rk a₀ lo st st'→1≤m→m≤nrem→Up rk (arrOf st') lo m→Q (some m) st'):wpS (model prog w) A E s (countRun' lo nrem) Q st:=by
 have asc:∀ (st:SortSt) (n0:Nat) {Q':Option (Option Nat) × Nat→SortSt→Prop},Bs κ P a₀ st→1≤n0→Up rk (arrOf st) lo n0 →
   (∀ n,n0≤n→n≤max n0 nrem→Up rk (arrOf st) lo n→(n<nrem→R rk (arrOf st) (lo+n)<R rk (arrOf st) (lo+n-1))→Q' (none,n) st)→
   ∀ f:Nat→Option (Option Nat) × Nat→StateT SortSt Sem (ForInStep (Option (Option Nat) × Nat)),(∀ i n,f i (none,n)=(do
    let some smaller ← ltAt' (lo+n) (lo+n-1)|pure (.done (some none,n))
    if smaller then pure (.done (none,n)) else pure (.yield (none,n+1))))→wpS (model prog w) A E s (forIn [n0:nrem] (none,n0) f) Q' st:=by
  intro st n0 Q' hB h0 hu hq f hf
  refine wpS_forRange (I:=fun i c st'=>st'=st∧c=(none,i)∧n0≤i∧Up rk (arrOf st) lo i) ?_ ?_ ⟨rfl,rfl,Nat.le_refl _,hu⟩
  ·rintro i c st' hi hi2 ⟨rfl,rfl,h3,hu'⟩
   rw[hf]
   refine wpS_bind (zhv C hB (by lia) (by lia) ?_)
   by_cases z:R rk (arrOf st') (lo+i)<R rk (arrOf st') (lo+i-1)
   ·rw[decide_eq_true z]
    exact wpS_pure (hq i h3 (by lia) hu' fun _=>z)
   ·rw[decide_eq_false z]
    refine wpS_pure ⟨rfl,rfl,by lia,fun a b ha hab hb=>?_⟩
    by_cases q:b<lo+i
    ·exact hu' a b ha hab q
    ·obtain rfl:b=lo+i:=by lia
     by_cases q2:a=lo+i
     ·rw[q2];exact Int.le_refl _
     ·have:=hu' a (lo+i-1) ha (by lia) (by lia)
      lia
  ·rintro c st' ⟨rfl,rfl,h3,hu'⟩
   exact hq _ h3 (Nat.le_refl _) hu' fun q=>by lia
 rw[countRun'_eq]
 refine wpS_bind (asc st 1 hB (Nat.le_refl _) (fun a b h1 h2 h3=>by rw[show a=b by lia];exact Int.le_refl _) (fun n n1 n2 hu hs=>?_) _ (fun i n=>rfl))
 dsimp only
 by_cases z:n=nrem
 ·subst z
  rw[if_pos (beq_self_eq_true _)]
  exact wpS_pure (h _ _ (Keep.refl hB) n1 (Nat.le_refl _) hu)
 rw[if_neg (by simpa using z)]
 have nl:n<nrem:=by lia
 have hs:=hs nl
 generalize hT:(bind (liftM (rule "list.sort.descending-run")) _:StateT SortSt Sem (Option Nat))=T
 have tail:∀ st1,Keep κ P rk a₀ lo st st1→Dn rk (arrOf st1) lo n→R rk (arrOf st1) (lo+n)<R rk (arrOf st1) (lo+n-1)→wpS (model prog w) A E s T Q st1:=by
  intro st1 K1 d1 l1
  rw[← hT]
  refine wpS_bind (zbO ?_)
  have last:∀ st2 m,Keep κ P rk a₀ lo st st2→1≤m→m≤nrem→Dn rk (arrOf st2) lo m→∀ st3,Keep κ P rk a₀ lo st2 st3→(∀ k,R rk (arrOf st3) k=if lo≤k∧k<lo+m then R rk (arrOf st2) (lo+(lo+m)-1-k) else R rk (arrOf st2) k)→Up rk (arrOf st3) lo m:=by
   intro st2 m K2 m1 m2 d2 st3 K3 r3 a b ha hab hb
   rw[r3,r3,if_pos ⟨by lia,by lia⟩,if_pos ⟨by lia,by lia⟩]
   exact d2 _ _ (by lia) (by lia) (by lia)
  refine wpS_bind (wpS_mono (wpS_forRange (I:=fun i c st2=>∃ m q,c=(none,m,q)∧m=i∧q+1≤m∧Keep κ P rk a₀ lo st st2∧(i≤nrem→Dn rk (arrOf st2) lo m∧∀ k,lo+m-(q+1)≤k→k<lo+m→R rk (arrOf st2) k=R rk (arrOf st2) (lo+m-1)))
   (Q:=fun c st2=>∃ m q,c=(none,m,q)∧1≤m∧m≤nrem∧q+1≤m∧Keep κ P rk a₀ lo st st2∧Dn rk (arrOf st2) lo m∧∀ k,lo+m-(q+1)≤k→k<lo+m→R rk (arrOf st2) k=R rk (arrOf st2) (lo+m-1)) ?step ?fin ?init) ?post)
  case init =>
   refine⟨n+1,0,rfl,rfl,by lia,K1,fun _=>⟨fun a b ha hab hb=>?_,fun k k1 k2=>by rw[show k=lo+(n+1)-1 by lia]⟩⟩
   by_cases q:b<lo+n
   ·exact d1 a b ha hab q
   ·obtain rfl:b=lo+n:=by lia
    by_cases q2:a=lo+n
    ·rw[q2];exact Int.le_refl _
    ·have:=d1 a (lo+n-1) ha (by lia) (by lia)
     lia
  case fin =>
   rintro c st2 ⟨m,q,rfl,e,hq,K2,hd⟩
   obtain⟨d2,eq2⟩:=hd (by lia)
   exact⟨m,q,rfl,by lia,by lia,hq,K2,d2,eq2⟩
  case step =>
   rintro i c st2 hi hi2 ⟨m,q,rfl,rfl,hq,K2,hd⟩
   obtain⟨d2,eq2⟩:=hd (by lia)
   dsimp only
   refine wpS_bind (zhv C K2.b (by lia) (by lia) ?_)
   have more:∀ st3,Dn rk (arrOf st3) lo m→R rk (arrOf st3) (lo+m)≤R rk (arrOf st3) (lo+m-1)→Dn rk (arrOf st3) lo (m+1):=by
    intro st3 d3 le a b ha hab hb
    by_cases q:b<lo+m
    ·exact d3 a b ha hab q
    ·obtain rfl:b=lo+m:=by lia
     by_cases q2:a=lo+m
     ·rw[q2];exact Int.le_refl _
     ·have:=d3 a (lo+m-1) ha (by lia) (by lia)
      lia
   by_cases z1:R rk (arrOf st2) (lo+m)<R rk (arrOf st2) (lo+m-1)
   ·rw[decide_eq_true z1]
    dsimp only
    rw[if_pos rfl]
    by_cases zq:q > 0
    ·rw[if_pos zq]
     refine wpS_bind (ze8 (rk:=rk) (lo:=lo) K2.b (by lia) (by lia) fun st3 K3 r3=>wpS_pure ?_)
     have same:∀ k,R rk (arrOf st3) k=R rk (arrOf st2) k:=fun k=>by
      rw[r3]
      split
      ·rw[eq2 _ (by lia) (by lia),eq2 k (by lia) (by lia)]
      ·rfl
     refine⟨m+1,0,rfl,rfl,by lia,K2.trans K3,fun _=>⟨more st3 (fun a b ha hab hb=>by rw[same,same];exact d2 a b ha hab hb) (by rw[same,same];lia),fun k k1 k2=>by rw[show k=lo+(m+1)-1 by lia]⟩⟩
    ·rw[if_neg zq]
     exact wpS_pure ⟨m+1,0,rfl,rfl,by lia,K2,fun _=>⟨more st2 d2 (by lia),fun k k1 k2=>by rw[show k=lo+(m+1)-1 by lia]⟩⟩
   ·rw[decide_eq_false z1]
    dsimp only
    rw[if_neg Bool.false_ne_true]
    refine wpS_bind (zhv C K2.b (by lia) (by lia) ?_)
    by_cases z2:R rk (arrOf st2) (lo+m-1)<R rk (arrOf st2) (lo+m)
    ·rw[decide_eq_true z2]
     dsimp only
     rw[if_pos rfl]
     exact wpS_pure ⟨m,q,rfl,by lia,by lia,hq,K2,d2,eq2⟩
    ·rw[decide_eq_false z2]
     dsimp only
     rw[if_neg Bool.false_ne_true]
     have e:R rk (arrOf st2) (lo+m)=R rk (arrOf st2) (lo+m-1):=by lia
     refine wpS_pure ⟨m+1,q+1,rfl,rfl,by lia,K2,fun _=>⟨more st2 d2 (by lia),fun k k1 k2=>?_⟩⟩
     rw[show lo+(m+1)-1=lo+m by lia]
     by_cases q3:k=lo+m
     ·rw[q3]
     ·rw[eq2 k (by lia) (by lia),e]
  case post =>
   rintro c st2 ⟨m,q,rfl,m1,m2,hq,K2,d2,eq2⟩
   dsimp only
   generalize hT2:(bind (reverseSlice' lo (lo+m)) _:StateT SortSt Sem (Option Nat))=T2
   have on:∀ st3,Keep κ P rk a₀ lo st st3→Dn rk (arrOf st3) lo m→wpS (model prog w) A E s T2 Q st3:=by
    intro st3 K3 d3
    rw[← hT2]
    refine wpS_bind (ze8 (rk:=rk) (lo:=lo) K3.b (by lia) (by lia) fun st4 K4 r4=>?_)
    refine wpS_bind (asc st4 m K4.b m1 (last st3 m K3 m1 m2 d3 st4 K4 r4) (fun n' a1 a2 hu' _=>?_) _ (fun i n=>rfl))
    exact wpS_pure (h _ _ (K3.trans K4) (by lia) (by lia) hu')
   by_cases zq:q > 0
   ·rw[if_pos zq]
    refine wpS_bind (ze8 (rk:=rk) (lo:=lo) K2.b (by lia) (by lia) fun st3 K3 r3=>?_)
    have same:∀ k,R rk (arrOf st3) k=R rk (arrOf st2) k:=fun k=>by
     rw[r3]
     split
     ·rw[eq2 _ (by lia) (by lia),eq2 k (by lia) (by lia)]
     ·rfl
    exact on st3 (K2.trans K3) (fun a b ha hab hb=>by rw[same,same];exact d2 a b ha hab hb)
   ·rw[if_neg zq]
    exact on st2 K2 d2
 by_cases z2:n > 1
 ·rw[if_pos z2]
  refine wpS_bind (zhv C hB (by lia) (by lia) ?_)
  by_cases z3:R rk (arrOf st) lo<R rk (arrOf st) (lo+n-1)
  ·rw[decide_eq_true z3]
   exact wpS_pure (h _ _ (Keep.refl hB) n1 (by lia) hu)
  ·rw[decide_eq_false z3]
   dsimp only
   rw[if_neg Bool.false_ne_true]
   refine wpS_bind (ze8 (rk:=rk) (lo:=lo) hB (by lia) (by lia) fun st1 K1 r1=>tail st1 K1 (fun a b ha hab hb=>?_) ?_)
   ·rw[r1,r1,if_pos ⟨by lia,by lia⟩,if_pos ⟨by lia,by lia⟩]
    exact hu _ _ (by lia) (by lia) (by lia)
   ·rw[r1,r1,if_neg (by lia),if_pos ⟨by lia,by lia⟩]
    have:=hu (lo+(lo+n)-1-(lo+n-1)) (lo+n-1) (by lia) (by lia) (by lia)
    have e:lo+(lo+n)-1-(lo+n-1)=lo:=by lia
    rw[e]at this ⊢
    have:=hu lo (lo+n-1) (by lia) (by lia) (by lia)
    lia
 ·rw[if_neg z2]
  exact tail st (Keep.refl hB) (fun a b ha hab hb=>by rw[show a=b by lia];exact Int.le_refl _) hs
end
section
variable {prog:Program}{w:World}{A:Around}{E:Value→Shared→Prop}{s:Shared}{κ:SortKind}{P:Keyed→Prop}{rk:Keyed→Int}{a₀:Array Keyed}
theorem R_bubble {xs:Array Keyed}{src d:Nat}(hs:src<xs.size) (hd:d≤src) (k:Nat):R rk (bubble xs src d) k=if k=src-d then R rk xs src else if src-d<k∧k≤src then R rk xs (k-1) else R rk xs k:=by
 have e:=getElem?_bubble (xs:=xs) hs d hd k
 by_cases h1:k=src-d
 ·rw[if_pos h1]at e ⊢;exact R_congr e
 ·rw[if_neg h1]at e ⊢
  by_cases h2:(src-d<k∧k≤src)
  ·rw[if_pos h2]at e ⊢;exact R_congr e
  ·rw[if_neg h2]at e ⊢;exact R_congr e
theorem zlH (C:Cmp prog w A s κ P rk) {st:SortSt}{lo n ok:Nat}{Q:Bool→SortSt→Prop}(hB:Bs κ P a₀ st) (h1:1≤ok) (hok:ok≤n) (hn:lo+n≤a₀.size) (hu:Up rk (arrOf st) lo ok)
  (h:∀ st',Keep κ P rk a₀ lo st st'→Up rk (arrOf st') lo n→Q true st'):wpS (model prog w) A E s (binarySort' lo n ok) Q st:=by
 rw[binarySort'_eq]
 rw[show max ok 1=ok by lia]
 refine wpS_bind (wpS_mono (wpS_forRange (I:=fun k c st1=>c=(none,())∧Keep κ P rk a₀ lo st st1∧Up rk (arrOf st1) lo (min k n)) (Q:=fun c st1=>c=(none,())∧Keep κ P rk a₀ lo st st1∧Up rk (arrOf st1) lo n) ?step ?fin ?init) ?post)
 case init=>exact⟨rfl,Keep.refl hB,by rwa [Nat.min_eq_left hok]⟩
 case fin =>
  rintro c st1 ⟨rfl,K1,u1⟩
  rw[show min (max ok n) n=n by lia]at u1
  exact⟨rfl,K1,u1⟩
 case post =>
  rintro c st1 ⟨rfl,K1,u1⟩
  exact wpS_pure (h st1 K1 u1)
 case step =>
  rintro k c st1 hk1 hk2 ⟨rfl,K1,u1⟩
  rw[show min k n=k by lia]at u1
  refine wpS_bind (wpS_mono (wpS_forRange (I:=fun x c st2=>st2=st1∧∃ l r,c=(none,l,r)∧l≤r∧r≤k∧r-l≤k-x∧(∀ i,lo≤i→i<lo+l→R rk (arrOf st1) i≤R rk (arrOf st1) (lo+k))∧(∀ i,lo+r≤i→i<lo+k→R rk (arrOf st1) (lo+k)≤R rk (arrOf st1) i))
   (Q:=fun c st2=>st2=st1∧∃ l r,c=(none,l,r)∧l≤k∧(∀ i,lo≤i→i<lo+l→R rk (arrOf st1) i≤R rk (arrOf st1) (lo+k))∧(∀ i,lo+l≤i→i<lo+k→R rk (arrOf st1) (lo+k)≤R rk (arrOf st1) i)) ?istep ?ifin ?iinit) ?ipost)
  case iinit=>exact⟨rfl,0,k,rfl,by lia,by lia,by lia,fun i _ _=>by lia,fun i _ _=>by lia⟩
  case ifin =>
   rintro c st2 ⟨rfl,l,r,rfl,lr,rk',m,h2,h3⟩
   obtain rfl:l=r:=by lia
   exact⟨rfl,l,l,rfl,rk',h2,h3⟩
  case istep =>
   rintro x c st2 _ hx ⟨rfl,l,r,rfl,lr,rk',m,h2,h3⟩
   dsimp only
   by_cases ge:l≥r
   ·rw[if_pos ge]
    obtain rfl:l=r:=by lia
    exact wpS_pure ⟨rfl,l,l,rfl,rk',h2,h3⟩
   ·rw[if_neg ge]
    refine wpS_bind (zhv C K1.b (by lia) (by lia) ?_)
    by_cases z:R rk (arrOf st2) (lo+k)<R rk (arrOf st2) (lo+(l+r) / 2)
    ·rw[decide_eq_true z]
     refine wpS_pure ⟨rfl,l,(l+r) / 2,rfl,by lia,by lia,by lia,h2,fun i i1 i2=>?_⟩
     have:=u1 (lo+(l+r) / 2) i (by lia) i1 (by lia)
     lia
    ·rw[decide_eq_false z]
     refine wpS_pure ⟨rfl,(l+r) / 2+1,r,rfl,by lia,by lia,by lia,fun i i1 i2=>?_,h3⟩
     have:=u1 i (lo+(l+r) / 2) i1 (by lia) (by lia)
     lia
  case ipost =>
   rintro c st2 ⟨rfl,l,r,rfl,lk,h2,h3⟩
   dsimp only
   rw[moveDown'_eq]
   have sz:=K1.b.size
   have rb:∀ j,R rk (arrOf (setArr st2 (bubble (arrOf st2) (lo+k) (lo+k-(lo+l))))) j=if j=lo+l then R rk (arrOf st2) (lo+k) else if lo+l<j∧j≤lo+k then R rk (arrOf st2) (j-1) else R rk (arrOf st2) j:=fun j=>by
    have:=R_bubble (rk:=rk) (xs:=arrOf st2) (src:=lo+k) (d:=lo+k-(lo+l)) (by rw[sz];lia) (by lia) j
    rw[show lo+k-(lo+k-(lo+l))=lo+l by lia]at this
    exact this
   refine wpS_bind (wpS_modify (wpS_pure ⟨rfl,K1.trans ⟨K1.b.arr (bubble_perm _ _ _),rfl,fun j hj=>?_⟩,fun i j hi hij hj=>?_⟩))
   ·rw[rb,if_neg (by lia),if_neg (by lia)]
   ·rw[show min (k+1) n=k+1 by lia]at hj
    rw[rb,rb]
    by_cases a1:i=lo+l
    ·rw[if_pos a1]
     by_cases b1:j=lo+l
     ·rw[if_pos b1];exact Int.le_refl _
     ·rw[if_neg b1,if_pos ⟨by lia,by lia⟩]
      exact h3 _ (by lia) (by lia)
    ·rw[if_neg a1]
     by_cases a2:lo+l<i∧i≤lo+k
     ·rw[if_pos a2,if_neg (by lia),if_pos ⟨by lia,by lia⟩]
      exact u1 _ _ (by lia) (by lia) (by lia)
     ·rw[if_neg a2]
      by_cases b1:j=lo+l
      ·rw[if_pos b1];exact h2 _ hi (by lia)
      ·rw[if_neg b1]
       by_cases b2:lo+l<j∧j≤lo+k
       ·rw[if_pos b2];exact u1 _ _ hi (by lia) (by lia)
       ·rw[if_neg b2];exact u1 _ _ hi hij (by lia)
end
def zkI:Bool→Keyed→Array Keyed→Nat→Nat→Nat→StateT SortSt Sem (Option Nat):=sortPriv% PySem.Builtin.gallop
def bd (left:Bool) (k r:Int):Bool:=if left=true then decide (r<k) else !decide (k<r)
theorem zkS {left:Bool}{k r r':Int}(h:r≤r') (b:bd left k r'=true):bd left k r=true:=by
 unfold bd at *
 cases left
 ·simp only[Bool.false_eq_true,if_false,Bool.not_eq_true',decide_eq_false_iff_not]at *;omega
 ·simp only[if_true,decide_eq_true_eq]at *;omega
section
variable {prog:Program}{w:World}{A:Around}{E:Value→Shared→Prop}{s:Shared}{κ:SortKind}{P:Keyed→Prop}{rk:Keyed→Int}{a₀:Array Keyed}
theorem zh3 (C:Cmp prog w A s κ P rk) {st:SortSt}{left:Bool}{key:Keyed}{arr:Array Keyed}{j:Nat}{Q:Option Bool→SortSt→Prop}(hk:kindOf st=κ) (pk:P key) (hat:∃ p,arr[j]?=some p∧P p) (h:Q (some (bd left (rk key) (R rk arr j))) st) :
  wpS (model prog w) A E s (elem' arr j >>= fun x=>if left=true then lt' x key else (lt' key x >>= fun r=>pure (r.map fun b=>!b))) Q st:=by
 obtain⟨p,e,pp⟩:=hat
 have r:R rk arr j=rk p:=by unfold R;rw[e]
 rw[r]at h
 refine wpS_bind (zaf e ?_)
 unfold bd at h
 cases left
 ·rw[if_neg Bool.false_ne_true]at h ⊢
  exact wpS_bind (zhu C hk pk pp (wpS_pure h))
 ·rw[if_pos rfl]at h ⊢
  exact zhu C hk pp pk h
theorem zaT (C:Cmp prog w A s κ P rk) {st:SortSt}{left:Bool}{key:Keyed}{arr:Array Keyed}{base n hint:Nat}{Q:Option Nat→SortSt→Prop}(hk:kindOf st=κ) (pk:P key) (hat:∀ i,i<n→∃ p,arr[base+i]?=some p∧P p) (hu:Up rk arr base n) (hh:hint<n)
  (h:∀ k,k≤n→(∀ i,i<k→bd left (rk key) (R rk arr (base+i))=true)→(∀ i,k≤i→i<n→bd left (rk key) (R rk arr (base+i))=false)→Q (some k) st):wpS (model prog w) A E s (zkI left key arr base n hint) Q st:=by
 have dn:∀ i j,i≤j→j<n→bd left (rk key) (R rk arr (base+j))=true→bd left (rk key) (R rk arr (base+i))=true:=fun i j h1 h2 b=>zkS (hu _ _ (by omega) (by omega) (by omega)) b
 have up:∀ i j,i≤j→j<n→bd left (rk key) (R rk arr (base+i))=false→bd left (rk key) (R rk arr (base+j))=false:=fun i j h1 h2 b=>by
  cases q:bd left (rk key) (R rk arr (base+j)) with
  | false=>rfl
  | true=>rw[dn i j h1 h2 q]at b;cases b
 refine wpS_bind (zh3 C hk pk (hat hint hh) ?_)
 dsimp only
 have half:∀ (lo hi:Nat) (f:Nat→Option (Option Nat) × Nat × Nat→StateT SortSt Sem (ForInStep (Option (Option Nat) × Nat × Nat))),lo≤hi→hi≤n →
   (∀ i,i<lo→bd left (rk key) (R rk arr (base+i))=true)→(∀ i,hi≤i→i<n→bd left (rk key) (R rk arr (base+i))=false) →
   (∀ x l r (Q':ForInStep (Option (Option Nat) × Nat × Nat)→SortSt→Prop),(r≤l→Q' (.done (none,l,r)) st)→(l<r→r≤n→bd left (rk key) (R rk arr (base+(l+(r-l) / 2)))=true→Q' (.yield (none,l+(r-l) / 2+1,r)) st) →
    (l<r→r≤n→bd left (rk key) (R rk arr (base+(l+(r-l) / 2)))=false→Q' (.yield (none,l,l+(r-l) / 2)) st)→r≤n→wpS (model prog w) A E s (f x (none,l,r)) Q' st) →
   wpS (model prog w) A E s (forIn [:n] (none,lo,hi) f) (fun c st'=>st'=st∧∃ k,c=(none,k,k)∧Q (some k) st) st:=by
  intro lo hi f h1 h2 h3 h4 hf
  refine wpS_forRange (I:=fun x c st'=>st'=st∧∃ l r,c=(none,l,r)∧l≤r∧r≤n∧r-l≤n-x∧(∀ i,i<l→bd left (rk key) (R rk arr (base+i))=true)∧(∀ i,r≤i→i<n→bd left (rk key) (R rk arr (base+i))=false)) ?_ ?_ ⟨rfl,lo,hi,rfl,h1,h2,by omega,h3,h4⟩
  ·rintro x c st' _ hx ⟨rfl,l,r,rfl,lr,rn,m,a1,a2⟩
   refine hf x l r _ (fun z=>?_) (fun z1 z2 b=>?_) (fun z1 z2 b=>?_) rn
   ·obtain rfl:l=r:=by omega
    exact⟨rfl,l,rfl,h l rn a1 a2⟩
   ·exact⟨rfl,_,r,rfl,by omega,rn,by omega,fun i hi'=>dn i _ (by omega) (by omega) b,a2⟩
   ·exact⟨rfl,l,_,rfl,by omega,by omega,by omega,a1,fun i i1 i2=>up _ i i1 i2 b⟩
  ·rintro c st' ⟨rfl,l,r,rfl,lr,rn,m,a1,a2⟩
   obtain rfl:l=r:=by omega
   exact⟨rfl,l,rfl,h l rn a1 a2⟩
 cases hb:bd left (rk key) (R rk arr (base+hint)) with
 | true =>
  rw[if_pos rfl]
  refine wpS_bind (wpS_mono (wpS_forRange (I:=fun x c st'=>st'=st∧∃ l o,c=(none,l,o)∧x+1≤o∧l<o∧hint+l<n∧bd left (rk key) (R rk arr (base+(hint+l)))=true)
   (Q:=fun c st'=>st'=st∧∃ l o,c=(none,l,o)∧l<o∧hint+l<n∧bd left (rk key) (R rk arr (base+(hint+l)))=true∧(o<n-hint→bd left (rk key) (R rk arr (base+(hint+o)))=false)) ?_ ?_ ⟨rfl,0,1,rfl,by omega,by omega,by omega,hb⟩) ?_)
  ·rintro x c st' _ hx ⟨rfl,l,o,rfl,xo,lo',ln,b⟩
   dsimp only
   by_cases z:o≥n-hint
   ·rw[if_pos z]
    exact wpS_pure ⟨rfl,l,o,rfl,lo',ln,b,fun q=>by omega⟩
   ·rw[if_neg z]
    refine wpS_bind (zh3 C hk pk (hat (hint+o) (by omega)) ?_)
    cases q:bd left (rk key) (R rk arr (base+(hint+o))) with
    | true=>exact wpS_pure ⟨rfl,o,2*o+1,rfl,by omega,by omega,by omega,q⟩
    | false=>exact wpS_pure ⟨rfl,l,o,rfl,lo',ln,b,fun _=>q⟩
  ·rintro c st' ⟨rfl,l,o,rfl,xo,lo',ln,b⟩
   exact⟨rfl,l,o,rfl,lo',ln,b,fun q=>by omega⟩
  ·rintro c st' ⟨rfl,l,o,rfl,lo',ln,b,nb⟩
   dsimp only
   refine wpS_bind (wpS_mono (half _ _ _ (by omega) (by omega) (fun i hi'=>dn i _ (by omega) ln b) (fun i i1 i2=>?_) ?_) ?_)
   ·have q:o<n-hint:=by omega
    exact up _ i (by omega) i2 (nb q)
   ·intro x l' r' Q' q1 q2 q3 rn
    dsimp only
    by_cases z:l'≥r'
    ·rw[if_pos z];exact wpS_pure (q1 z)
    ·rw[if_neg z]
     refine wpS_bind (zh3 C hk pk (hat _ (by omega)) ?_)
     cases q:bd left (rk key) (R rk arr (base+(l'+(r'-l') / 2))) with
     | true=>exact wpS_pure (q2 (by omega) rn q)
     | false=>exact wpS_pure (q3 (by omega) rn q)
   ·rintro c st' ⟨rfl,k,rfl,hq⟩
    exact wpS_pure hq
 | false =>
  rw[if_neg Bool.false_ne_true]
  refine wpS_bind (wpS_mono (wpS_forRange (I:=fun x c st'=>st'=st∧∃ l o,c=(none,l,o)∧x+1≤o∧l<o∧l≤hint∧bd left (rk key) (R rk arr (base+(hint-l)))=false)
   (Q:=fun c st'=>st'=st∧∃ l o,c=(none,l,o)∧l<o∧l≤hint∧bd left (rk key) (R rk arr (base+(hint-l)))=false∧(o<hint+1→bd left (rk key) (R rk arr (base+(hint-o)))=true)) ?_ ?_ ⟨rfl,0,1,rfl,by omega,by omega,by omega,hb⟩) ?_)
  ·rintro x c st' _ hx ⟨rfl,l,o,rfl,xo,lo',ln,b⟩
   dsimp only
   by_cases z:o≥hint+1
   ·rw[if_pos z]
    exact wpS_pure ⟨rfl,l,o,rfl,lo',ln,b,fun q=>by omega⟩
   ·rw[if_neg z]
    refine wpS_bind (zh3 C hk pk (hat (hint-o) (by omega)) ?_)
    cases q:bd left (rk key) (R rk arr (base+(hint-o))) with
    | true=>exact wpS_pure ⟨rfl,l,o,rfl,lo',ln,b,fun _=>q⟩
    | false=>exact wpS_pure ⟨rfl,o,2*o+1,rfl,by omega,by omega,by omega,q⟩
  ·rintro c st' ⟨rfl,l,o,rfl,xo,lo',ln,b⟩
   exact⟨rfl,l,o,rfl,lo',ln,b,fun q=>by omega⟩
  ·rintro c st' ⟨rfl,l,o,rfl,lo',ln,b,nb⟩
   dsimp only
   refine wpS_bind (wpS_mono (half _ _ _ (by omega) (by omega) (fun i hi'=>?_) (fun i i1 i2=>up _ i i1 i2 b) ?_) ?_)
   ·have q:o<hint+1:=by omega
    exact dn i _ (by omega) (by omega) (nb q)
   ·intro x l' r' Q' q1 q2 q3 rn
    dsimp only
    by_cases z:l'≥r'
    ·rw[if_pos z];exact wpS_pure (q1 z)
    ·rw[if_neg z]
     refine wpS_bind (zh3 C hk pk (hat _ (by omega)) ?_)
     cases q:bd left (rk key) (R rk arr (base+(l'+(r'-l') / 2))) with
     | true=>exact wpS_pure (q2 (by omega) rn q)
     | false=>exact wpS_pure (q3 (by omega) rn q)
   ·rintro c st' ⟨rfl,k,rfl,hq⟩
    exact wpS_pure hq
end
def Srt (rk:Keyed→Int) (l:List Keyed):Prop:=l.Pairwise fun x y=>rk x≤rk y
structure Lo (rk:Keyed→Int) (T out a b:List Keyed):Prop where
 so:Srt rk out
 sa:Srt rk a
 sb:Srt rk b
 oa:∀ x∈out,∀ y∈a,rk x≤rk y
 ob:∀ x∈out,∀ y∈b,rk x≤rk y
 pm:(out++(a++b)).Perm T
section
variable {rk:Keyed→Int}{T out a b c:List Keyed}
theorem Lo.swap (h:Lo rk T out a b):Lo rk T out b a:=⟨h.so,h.sb,h.sa,h.ob,h.oa,((List.perm_append_comm (l₁:=b) (l₂:=a)).append_left out).trans h.pm⟩
theorem Lo.take (h:Lo rk T out (c++a) b) (le:∀ x∈c,∀ y∈b,rk x≤rk y):Lo rk T (out++c) a b:=by
 obtain⟨s1,s2,s3⟩:=List.pairwise_append.mp h.sa
 refine⟨List.pairwise_append.mpr ⟨h.so,s1,fun x hx y hy=>h.oa x hx y (List.mem_append_left _ hy)⟩,s2,h.sb,fun x hx y hy=>?_,fun x hx y hy=>?_,?_⟩
 ·rcases List.mem_append.mp hx with q|q
  ·exact h.oa x q y (List.mem_append_right _ hy)
  ·exact s3 x q y hy
 ·rcases List.mem_append.mp hx with q|q
  ·exact h.ob x q y hy
  ·exact le x q y hy
 ·have:=h.pm
  rw[List.append_assoc]at this ⊢
  exact this
theorem Lo.end (h:Lo rk T out a []):(out++a).Perm T∧Srt rk (out++a):=by
 have:=h.pm
 rw[List.append_nil]at this
 exact⟨this,List.pairwise_append.mpr ⟨h.so,h.sa,h.oa⟩⟩
theorem Lo.lone (h:Lo rk T out a b) (le:∀ x∈b,∀ y∈a,rk x≤rk y):(out++b++a).Perm T∧Srt rk (out++b++a):=by
 refine⟨?_,List.pairwise_append.mpr ⟨List.pairwise_append.mpr ⟨h.so,h.sb,h.ob⟩,h.sa,fun x hx y hy=>?_⟩⟩
 ·rw[List.append_assoc]
  exact((List.perm_append_comm (l₁:=b) (l₂:=a)).append_left out).trans h.pm
 ·rcases List.mem_append.mp hx with q|q
  ·exact h.oa x q y hy
  ·exact le x q y hy
theorem zeO {arr:Array Keyed}{i:Nat}{p:Keyed}(e:arr[i]?=some p):arr.toList.drop i=p::arr.toList.drop (i+1):=by
 obtain⟨hi,e⟩:=Array.getElem?_eq_some_iff.mp e
 have hl:i<arr.toList.length:=by rw[Array.length_toList];exact hi
 rw[List.drop_eq_getElem_cons hl,Array.getElem_toList,e]
theorem zdq (arr:Array Keyed) (i k:Nat):arr.toList.drop i=(arr.extract i (i+k)).toList++arr.toList.drop (i+k):=by
 rw[Array.toList_extract,List.extract_eq_take_drop,Nat.add_sub_cancel_left,← List.drop_drop,List.take_append_drop]
theorem zcQ (arr:Array Keyed) (i:Nat):(arr.extract i).toList=arr.toList.drop i:=by
 rw[Array.toList_extract,List.extract_eq_take_drop]
 exact List.take_of_length_le (by rw[List.length_drop,Array.length_toList];exact Nat.le_refl _)
theorem zkP {arr:Array Keyed}{i k:Nat}{x:Keyed}(h:x∈(arr.extract i (i+k)).toList):∃ j,j<k∧arr[i+j]?=some x:=by
 rw[Array.toList_extract,List.extract_eq_take_drop,Nat.add_sub_cancel_left]at h
 obtain⟨j,hj⟩:=List.mem_iff_getElem?.mp h
 have jk:j<k:=by
  have:=(List.getElem?_eq_some_iff.mp hj).1
  rw[List.length_take]at this;lia
 rw[List.getElem?_take_of_lt jk,List.getElem?_drop]at hj
 exact⟨j,jk,by rw[← Array.getElem?_toList];exact hj⟩
theorem za3 {arr:Array Keyed}{i:Nat}{x:Keyed}(h:x∈arr.toList.drop i):∃ j,arr[i+j]?=some x:=by
 obtain⟨j,hj⟩:=List.mem_iff_getElem?.mp h
 rw[List.getElem?_drop]at hj
 exact⟨j,by rw[← Array.getElem?_toList];exact hj⟩
theorem R_at {arr:Array Keyed}{i:Nat}{p:Keyed}(e:arr[i]?=some p):R rk arr i=rk p:=by unfold R;rw[e]
theorem zbw {arr:Array Keyed}(h:Srt rk arr.toList) {base n:Nat}(hn:base+n≤arr.size):Up rk arr base n:=by
 intro i j hi hij hj
 have h1:arr[i]?=some arr[i]:=getElem?_pos arr i (by lia)
 have h2:arr[j]?=some arr[j]:=getElem?_pos arr j (by lia)
 rw[R_at h1,R_at h2]
 by_cases z:i=j
 ·subst z;exact Int.le_refl _
 ·have:=List.pairwise_iff_getElem.mp h i j (by rw[Array.length_toList];lia) (by rw[Array.length_toList];lia) (by lia)
  simpa using this
theorem zbd {arr:Array Keyed}{i:Nat}{p:Keyed}(h:Srt rk arr.toList) (e:arr[i]?=some p):∀ y∈arr.toList.drop i,rk p≤rk y:=by
 have hs:Srt rk (arr.toList.drop i):=List.Pairwise.drop h
 rw[zeO e]at hs ⊢
 obtain⟨h1,_⟩:=List.pairwise_cons.mp hs
 intro y hy
 rcases List.mem_cons.mp hy with rfl|q
 ·exact Int.le_refl _
 ·exact h1 y q
end
section
variable {rk:Keyed→Int}{T:List Keyed}{out a b:Array Keyed}{ia ib k:Nat}{p q:Keyed}
abbrev At (rk:Keyed→Int) (T:List Keyed) (out a b:Array Keyed) (ia ib:Nat):Prop:=Lo rk T out.toList (a.toList.drop ia) (b.toList.drop ib)
theorem At.pushA (h:At rk T out a b ia ib) (e:a[ia]?=some p) (le:∀ y∈b.toList.drop ib,rk p≤rk y):At rk T (out.push p) a b (ia+1) ib:=by
 have h':=h
 unfold At at h' ⊢
 rw[zeO e]at h'
 rw[Array.toList_push]
 exact Lo.take (c:=[p]) h' fun x hx y hy=>by rw[List.mem_singleton.mp hx];exact le y hy
theorem At.pushB (h:At rk T out a b ia ib) (e:b[ib]?=some p) (le:∀ y∈a.toList.drop ia,rk p≤rk y):At rk T (out.push p) a b ia (ib+1):=(At.pushA (a:=b) (b:=a) h.swap e le).swap
theorem At.cutA (h:At rk T out a b ia ib) (le:∀ j x,j<k→a[ia+j]?=some x→∀ y∈b.toList.drop ib,rk x≤rk y):At rk T (out++a.extract ia (ia+k)) a b (ia+k) ib:=by
 have h':=h
 unfold At at h' ⊢
 rw[zdq a ia k]at h'
 rw[Array.toList_append]
 exact Lo.take h' fun x hx y hy=>by
  obtain⟨j,jk,e⟩:=zkP hx
  exact le j x jk e y hy
theorem At.cutB (h:At rk T out a b ia ib) (le:∀ j x,j<k→b[ib+j]?=some x→∀ y∈a.toList.drop ia,rk x≤rk y):At rk T (out++b.extract ib (ib+k)) a b ia (ib+k):=(At.cutA (a:=b) (b:=a) h.swap le).swap
theorem At.endB (h:At rk T out a b ia ib) (z:b.size≤ib):(out++a.extract ia++b.extract ib).toList.Perm T∧Srt rk (out++a.extract ia++b.extract ib).toList:=by
 have h':=h
 unfold At at h'
 have e:b.toList.drop ib=[]:=List.drop_eq_nil_iff.mpr (by rw[Array.length_toList];exact z)
 rw[e]at h'
 rw[Array.toList_append,Array.toList_append,zcQ,zcQ,e,List.append_nil]
 exact h'.end
theorem At.endA (h:At rk T out a b ia ib) (z:a.size≤ia):(out++a.extract ia++b.extract ib).toList.Perm T∧Srt rk (out++a.extract ia++b.extract ib).toList:=by
 have h':=h.swap
 have e:a.toList.drop ia=[]:=List.drop_eq_nil_iff.mpr (by rw[Array.length_toList];exact z)
 rw[e]at h'
 rw[Array.toList_append,Array.toList_append,zcQ,zcQ,e,List.append_nil]
 exact h'.end
theorem At.lastA (h:At rk T out a b ia ib) (le:∀ x∈b.toList.drop ib,∀ y∈a.toList.drop ia,rk x≤rk y):(out++b.extract ib++a.extract ia).toList.Perm T∧Srt rk (out++b.extract ib++a.extract ia).toList:=by
 rw[Array.toList_append,Array.toList_append,zcQ,zcQ]
 exact Lo.lone h le
end
def ziM:Array Keyed→Array Keyed→StateT SortSt Sem (Array Keyed):=sortPriv% PySem.Builtin.mergeLo
def zjJ:Nat→StateT SortSt Sem Unit:=sortPriv% PySem.Builtin.setMinGallop
structure Sm (st st':SortSt):Prop where
 kind:kindOf st'=kindOf st
 arr:arrOf st'=arrOf st
 pend:pendingOf st'=pendingOf st
 fail:failedOf st'=failedOf st
theorem Sm.refl (st:SortSt):Sm st st:=⟨rfl,rfl,rfl,rfl⟩
theorem Sm.trans {a b c:SortSt}(h:Sm a b) (g:Sm b c):Sm a c:=⟨g.kind.trans h.kind,g.arr.trans h.arr,g.pend.trans h.pend,g.fail.trans h.fail⟩
section
variable {prog:Program}{w:World}{A:Around}{E:Value→Shared→Prop}{s:Shared}{κ:SortKind}{P:Keyed→Prop}{rk:Keyed→Int}{a₀:Array Keyed}
theorem zcM {st:SortSt}{g:Nat}{Q:Unit→SortSt→Prop}(h:∀ st',Sm st st'→Q () st'):wpS (model prog w) A E s (zjJ g) Q st :=
 wpS_modify (h _ ⟨rfl,rfl,rfl,rfl⟩)
theorem zl1 (C:Cmp prog w A s κ P rk) {st:SortSt}{a b:Array Keyed}{Q:Array Keyed→SortSt→Prop}(hk:kindOf st=κ) (pa:∀ x∈a.toList,P x) (pb:∀ x∈b.toList,P x) (sa:Srt rk a.toList) (sb:Srt rk b.toList) (a1:1≤a.size) (b1:1≤b.size)
  (first:∀ x,b[0]?=some x→∀ y∈a.toList,rk x≤rk y) (last:∀ x,a[a.size-1]?=some x→∀ y∈b.toList,rk y≤rk x)
  (h:∀ r st',Sm st st'→r.toList.Perm (a.toList++b.toList)→Srt rk r.toList→Q r st'):wpS (model prog w) A E s (ziM a b) Q st:=by
 have atA:∀ i,i<a.size→∃ x,a[i]?=some x∧P x:=fun i hi=>⟨_,getElem?_pos a i hi,pa _ (by simp)⟩
 have atB:∀ i,i<b.size→∃ x,b[i]?=some x∧P x:=fun i hi=>⟨_,getElem?_pos b i hi,pb _ (by simp)⟩
 obtain⟨b0,e0,_⟩:=atB 0 b1
 have lone:∀ {out:Array Keyed}{ia ib:Nat},At rk (a.toList++b.toList) out a b ia ib→ia+1=a.size→(out++b.extract ib++a.extract ia).toList.Perm (a.toList++b.toList)∧Srt rk (out++b.extract ib++a.extract ia).toList:=fun {out ia ib} L z=>L.lastA fun x hx y hy=>by
  obtain⟨j,ej⟩:=za3 hy
  have:=(Array.getElem?_eq_some_iff.mp ej).1
  exact last y (by rw[show a.size-1=ia+j by lia];exact ej) x (List.mem_of_mem_drop hx)
 have L0:At rk (a.toList++b.toList) #[b0] a b 0 1:=by
  have e:=zeO e0
  rw[List.drop_zero]at e
  have hb:=sb
  unfold Srt at hb
  rw[e]at hb
  obtain⟨h1,h2⟩:=List.pairwise_cons.mp hb
  refine⟨List.pairwise_singleton _ _,by rw[List.drop_zero];exact sa,h2,fun x hx y hy=>?_,fun x hx y hy=>?_,?_⟩
  ·rw[List.mem_singleton.mp hx];exact first b0 e0 y (List.mem_of_mem_drop hy)
  ·rw[List.mem_singleton.mp hx];exact h1 y hy
  ·rw[List.drop_zero]
   conv=>rhs;rw[e]
   show (b0::(a.toList++b.toList.drop 1)).Perm (a.toList++b0::b.toList.drop 1)
   exact List.perm_middle.symm
 have size:∀ {out:Array Keyed}{ia ib:Nat},At rk (a.toList++b.toList) out a b ia ib→out.size≤a.size+b.size:=fun {out ia ib} L=>by
  have:=L.pm.length_eq
  simp only[List.length_append,Array.length_toList]at this
  lia
 refine wpS_bind (zbO ?_)
 refine wpS_bind (zaf e0 ?_)
 dsimp only
 by_cases z1:1=b.size
 ·rw[if_pos (by simpa using z1)]
  obtain⟨q1,q2⟩:=L0.endB (by lia)
  exact wpS_pure (h _ _ (Sm.refl _) q1 q2)
 rw[if_neg (by simpa using z1)]
 by_cases z2:0+1=a.size
 ·rw[if_pos (by simpa using z2)]
  obtain⟨q1,q2⟩:=lone L0 z2
  exact wpS_pure (h _ _ (Sm.refl _) q1 q2)
 rw[if_neg (by simpa using z2)]
 refine wpS_bind (wpS_get ?_)
 refine wpS_bind (wpS_mono (wpS_forRange (I:=fun i c st1=>Sm st st1∧∃ out ia ib g,c=(none,out,ia,ib,g)∧At rk (a.toList++b.toList) out a b ia ib∧ia+1<a.size∧ib<b.size∧i+1≤out.size)
  (Q:=fun c st1=>Sm st st1∧∃ r x,c=(some r,x)∧r.toList.Perm (a.toList++b.toList)∧Srt rk r.toList) ?step ?fin ⟨Sm.refl _,_,_,_,_,rfl,L0,by lia,by lia,by simp⟩) ?post)
 case post =>
  rintro c st1 ⟨S1,r,x,rfl,q1,q2⟩
  exact wpS_pure (h _ _ S1 q1 q2)
 case fin =>
  rintro c st1 ⟨S1,out,ia,ib,g,rfl,L,_,_,sz⟩
  have:=size L
  lia
 case step =>
  rintro i c st1 _ hi ⟨S1,out,ia,ib,g,rfl,L,la,lb,sz⟩
  dsimp only
  refine wpS_bind (wpS_mono (wpS_forRange (I:=fun j c st2=>st2=st1∧∃ out ia ib ca cb,c=(none,out,ia,ib,ca,cb)∧At rk (a.toList++b.toList) out a b ia ib∧ia+1<a.size∧ib<b.size∧i+1+j≤out.size)
   (Q:=fun c st2=>st2=st1∧((∃ r x,c=(some r,x)∧r.toList.Perm (a.toList++b.toList)∧Srt rk r.toList)∨∃ out ia ib ca cb,c=(none,out,ia,ib,ca,cb)∧At rk (a.toList++b.toList) out a b ia ib∧ia+1<a.size∧ib<b.size∧i+2≤out.size)) ?_ ?_ ⟨rfl,_,_,_,_,_,rfl,L,la,lb,by lia⟩) ?_)
  ·rintro j c st2 _ hj ⟨rfl,out,ia,ib,ca,cb,rfl,L,la,lb,sz⟩
   dsimp only
   obtain⟨x,ex,px⟩:=atA ia (by lia)
   obtain⟨y,ey,py⟩:=atB ib lb
   refine wpS_bind (zaf ey (wpS_bind (zaf ex (wpS_bind (zhu C (S1.kind.trans hk) py px ?_)))))
   by_cases z:rk y<rk x
   ·rw[decide_eq_true z]
    dsimp only
    rw[if_pos rfl]
    have L':=L.pushB ey fun u hu=>Int.le_trans (Int.le_of_lt z) (zbd sa ex u hu)
    refine wpS_bind (zaf ey ?_)
    by_cases zb:ib+1=b.size
    ·rw[if_pos (by simpa using zb)]
     obtain⟨q1,q2⟩:=L'.endB (by lia)
     exact wpS_pure ⟨rfl,.inl ⟨_,_,rfl,q1,q2⟩⟩
    ·rw[if_neg (by simpa using zb)]
     by_cases zg:cb+1≥g
     ·rw[if_pos zg]
      exact wpS_pure ⟨rfl,.inr ⟨_,_,_,_,_,rfl,L',la,by lia,by rw[Array.size_push];lia⟩⟩
     ·rw[if_neg zg]
      exact wpS_pure ⟨rfl,_,_,_,_,_,rfl,L',la,by lia,by rw[Array.size_push];lia⟩
   ·rw[decide_eq_false z]
    dsimp only
    rw[if_neg Bool.false_ne_true]
    have L':=L.pushA ex fun u hu=>Int.le_trans (by lia) (zbd sb ey u hu)
    refine wpS_bind (zaf ex ?_)
    by_cases zb:ia+1+1=a.size
    ·rw[if_pos (by simpa using zb)]
     obtain⟨q1,q2⟩:=lone L' zb
     exact wpS_pure ⟨rfl,.inl ⟨_,_,rfl,q1,q2⟩⟩
    ·rw[if_neg (by simpa using zb)]
     by_cases zg:ca+1≥g
     ·rw[if_pos zg]
      exact wpS_pure ⟨rfl,.inr ⟨_,_,_,_,_,rfl,L',by lia,lb,by rw[Array.size_push];lia⟩⟩
     ·rw[if_neg zg]
      exact wpS_pure ⟨rfl,_,_,_,_,_,rfl,L',by lia,lb,by rw[Array.size_push];lia⟩
  ·rintro c st2 ⟨rfl,out,ia,ib,ca,cb,rfl,L,la,lb,sz⟩
   have:=size L
   lia
  ·rintro c st2 ⟨rfl,⟨r,x,rfl,q1,q2⟩|⟨out,ia,ib,ca,cb,rfl,L,la,lb,sz⟩⟩
   ·exact wpS_pure ⟨S1,r,_,rfl,q1,q2⟩
   dsimp only
   refine wpS_bind (zbO ?_)
   refine wpS_bind (wpS_mono (wpS_forRange (I:=fun j c st3=>Sm st st3∧∃ out ia ib g ca cb,c=(none,out,ia,ib,g,ca,cb)∧At rk (a.toList++b.toList) out a b ia ib∧ia+1<a.size∧ib<b.size∧i+2≤out.size)
    (Q:=fun c st3=>Sm st st3∧((∃ r x,c=(some r,x)∧r.toList.Perm (a.toList++b.toList)∧Srt rk r.toList)∨∃ out ia ib g ca cb,c=(none,out,ia,ib,g,ca,cb)∧At rk (a.toList++b.toList) out a b ia ib∧ia+1<a.size∧ib<b.size∧i+2≤out.size)) ?_ ?_ ⟨S1,_,_,_,_,_,_,rfl,L,la,lb,sz⟩) ?_)
   ·rintro j c st3 _ hj ⟨S3,out,ia,ib,g,ca,cb,rfl,L,la,lb,sz⟩
    dsimp only
    obtain⟨y,ey,py⟩:=atB ib lb
    by_cases zg:g > 1
    ·rw[if_pos zg]
     refine wpS_bind (zcM fun st4 S4=>?_)
     have S4:=S3.trans S4
     refine wpS_bind (zaf ey (wpS_bind (zaT C (S4.kind.trans hk) py (fun t ht=>atA (ia+t) (by lia)) (zbw sa (by lia)) (by lia) fun k hk1 g1 g2=>?_)))
     dsimp only
     have L1:=L.cutA (k:=k) fun t u tk eu v hv=>by
      have:=g1 t tk
      rw[R_at eu]at this
      unfold bd at this
      simp only[Bool.false_eq_true,if_false,Bool.not_eq_true',decide_eq_false_iff_not]at this
      have:=zbd sb ey v hv
      lia
     have hle:∀ u∈a.toList.drop (ia+k),rk y≤rk u:=fun u hu=>by
      obtain⟨t,et⟩:=za3 hu
      have tl:=(Array.getElem?_eq_some_iff.mp et).1
      have:=g2 (k+t) (by lia) (by lia)
      rw[← Nat.add_assoc,R_at et]at this
      unfold bd at this
      simp only[Bool.false_eq_true,if_false,Bool.not_eq_false',decide_eq_true_eq]at this
      lia
     have sz1:i+2≤(out++a.extract ia (ia+k)).size:=by rw[Array.size_append];lia
     by_cases zk:k > 0
     ·rw[if_pos zk]
      by_cases za:ia+k+1=a.size
      ·rw[if_pos (by simpa using za)]
       obtain⟨q1,q2⟩:=lone L1 za
       exact wpS_pure ⟨S4,.inl ⟨_,_,rfl,q1,q2⟩⟩
      rw[if_neg (by simpa using za)]
      by_cases zc:ia+k=a.size
      ·rw[if_pos (by simpa using zc)]
       obtain⟨q1,q2⟩:=L1.endA (by lia)
       exact wpS_pure ⟨S4,.inl ⟨_,_,rfl,q1,q2⟩⟩
      rw[if_neg (by simpa using zc)]
      have la1:ia+k+1<a.size:=by lia
      generalize ia+k=ia1 at L1 hle la1 sz1 ⊢
      generalize out++a.extract ia ia1=out1 at L1 sz1 ⊢
      refine wpS_bind (zaf ey ?_)
      have L2:=L1.pushB ey hle
      by_cases zb:ib+1=b.size
      ·rw[if_pos (by simpa using zb)]
       obtain⟨q1,q2⟩:=L2.endB (by lia)
       exact wpS_pure ⟨S4,.inl ⟨_,_,rfl,q1,q2⟩⟩
      rw[if_neg (by simpa using zb)]
      obtain⟨x1,ex1,px1⟩:=atA _ (Nat.lt_of_succ_lt la1)
      refine wpS_bind (zaf ex1 (wpS_bind (zaT C (S4.kind.trans hk) px1 (fun t ht=>atB (ib+1+t) (by lia)) (zbw sb (by lia)) (by lia) fun k2 hk2 c1 c2=>?_)))
      dsimp only
      have L3:=L2.cutB (k:=k2) fun t u tk eu v hv=>by
       have:=c1 t tk
       rw[R_at eu]at this
       unfold bd at this
       simp only[if_true,decide_eq_true_eq]at this
       have:=zbd sa ex1 v hv
       lia
      have hle2:∀ u∈b.toList.drop (ib+1+k2),rk x1≤rk u:=fun u hu=>by
       obtain⟨t,et⟩:=za3 hu
       have tl:=(Array.getElem?_eq_some_iff.mp et).1
       have:=c2 (k2+t) (by lia) (by lia)
       rw[← Nat.add_assoc,R_at et]at this
       unfold bd at this
       simp only[if_true,decide_eq_false_iff_not]at this
       lia
      have sz2:=sz1
      by_cases zk2:k2 > 0
      ·rw[if_pos zk2]
       by_cases zd:ib+1+k2=b.size
       ·rw[if_pos (by simpa using zd)]
        obtain⟨q1,q2⟩:=L3.endB (by lia)
        exact wpS_pure ⟨S4,.inl ⟨_,_,rfl,q1,q2⟩⟩
       rw[if_neg (by simpa using zd)]
       have lb2:ib+1+k2<b.size:=by lia
       refine wpS_bind (zaf ex1 ?_)
       have L4:=L3.pushA ex1 hle2
       by_cases ze:ia1+1+1=a.size
       ·rw[if_pos (by simpa using ze)]
        obtain⟨q1,q2⟩:=lone L4 ze
        exact wpS_pure ⟨S4,.inl ⟨_,_,rfl,q1,q2⟩⟩
       rw[if_neg (by simpa using ze)]
       split
       ·exact wpS_pure ⟨S4,.inr ⟨_,_,_,_,_,_,rfl,L4,by lia,lb2,by simp only[Array.size_push,Array.size_append];lia⟩⟩
       ·exact wpS_pure ⟨S4,_,_,_,_,_,_,rfl,L4,by lia,lb2,by simp only[Array.size_push,Array.size_append];lia⟩
      ·rw[if_neg zk2]
       obtain rfl:k2=0:=by lia
       rw[Nat.add_zero]at hle2
       refine wpS_bind (zaf ex1 ?_)
       have L4:=L2.pushA ex1 hle2
       by_cases ze:ia1+1+1=a.size
       ·rw[if_pos (by simpa using ze)]
        obtain⟨q1,q2⟩:=lone L4 ze
        exact wpS_pure ⟨S4,.inl ⟨_,_,rfl,q1,q2⟩⟩
       rw[if_neg (by simpa using ze)]
       split
       ·exact wpS_pure ⟨S4,.inr ⟨_,_,_,_,_,_,rfl,L4,by lia,by lia,by simp only[Array.size_push,Array.size_append];lia⟩⟩
       ·exact wpS_pure ⟨S4,_,_,_,_,_,_,rfl,L4,by lia,by lia,by simp only[Array.size_push,Array.size_append];lia⟩
     ·rw[if_neg zk]
      obtain rfl:k=0:=by lia
      have L1:=L
      have la1:=la
      have sz1:=sz
      rw[Nat.add_zero]at hle
      refine wpS_bind (zaf ey ?_)
      have L2:=L1.pushB ey hle
      by_cases zb:ib+1=b.size
      ·rw[if_pos (by simpa using zb)]
       obtain⟨q1,q2⟩:=L2.endB (by lia)
       exact wpS_pure ⟨S4,.inl ⟨_,_,rfl,q1,q2⟩⟩
      rw[if_neg (by simpa using zb)]
      obtain⟨x1,ex1,px1⟩:=atA _ (Nat.lt_of_succ_lt la1)
      refine wpS_bind (zaf ex1 (wpS_bind (zaT C (S4.kind.trans hk) px1 (fun t ht=>atB (ib+1+t) (by lia)) (zbw sb (by lia)) (by lia) fun k2 hk2 c1 c2=>?_)))
      dsimp only
      have L3:=L2.cutB (k:=k2) fun t u tk eu v hv=>by
       have:=c1 t tk
       rw[R_at eu]at this
       unfold bd at this
       simp only[if_true,decide_eq_true_eq]at this
       have:=zbd sa ex1 v hv
       lia
      have hle2:∀ u∈b.toList.drop (ib+1+k2),rk x1≤rk u:=fun u hu=>by
       obtain⟨t,et⟩:=za3 hu
       have tl:=(Array.getElem?_eq_some_iff.mp et).1
       have:=c2 (k2+t) (by lia) (by lia)
       rw[← Nat.add_assoc,R_at et]at this
       unfold bd at this
       simp only[if_true,decide_eq_false_iff_not]at this
       lia
      have sz2:=sz1
      by_cases zk2:k2 > 0
      ·rw[if_pos zk2]
       by_cases zd:ib+1+k2=b.size
       ·rw[if_pos (by simpa using zd)]
        obtain⟨q1,q2⟩:=L3.endB (by lia)
        exact wpS_pure ⟨S4,.inl ⟨_,_,rfl,q1,q2⟩⟩
       rw[if_neg (by simpa using zd)]
       have lb2:ib+1+k2<b.size:=by lia
       refine wpS_bind (zaf ex1 ?_)
       have L4:=L3.pushA ex1 hle2
       by_cases ze:ia+1+1=a.size
       ·rw[if_pos (by simpa using ze)]
        obtain⟨q1,q2⟩:=lone L4 ze
        exact wpS_pure ⟨S4,.inl ⟨_,_,rfl,q1,q2⟩⟩
       rw[if_neg (by simpa using ze)]
       split
       ·exact wpS_pure ⟨S4,.inr ⟨_,_,_,_,_,_,rfl,L4,by lia,lb2,by simp only[Array.size_push,Array.size_append];lia⟩⟩
       ·exact wpS_pure ⟨S4,_,_,_,_,_,_,rfl,L4,by lia,lb2,by simp only[Array.size_push,Array.size_append];lia⟩
      ·rw[if_neg zk2]
       obtain rfl:k2=0:=by lia
       rw[Nat.add_zero]at hle2
       refine wpS_bind (zaf ex1 ?_)
       have L4:=L2.pushA ex1 hle2
       by_cases ze:ia+1+1=a.size
       ·rw[if_pos (by simpa using ze)]
        obtain⟨q1,q2⟩:=lone L4 ze
        exact wpS_pure ⟨S4,.inl ⟨_,_,rfl,q1,q2⟩⟩
       rw[if_neg (by simpa using ze)]
       split
       ·exact wpS_pure ⟨S4,.inr ⟨_,_,_,_,_,_,rfl,L4,by lia,by lia,by simp only[Array.size_push,Array.size_append];lia⟩⟩
       ·exact wpS_pure ⟨S4,_,_,_,_,_,_,rfl,L4,by lia,by lia,by simp only[Array.size_push,Array.size_append];lia⟩
    ·rw[if_neg zg]
     refine wpS_bind (zcM fun st4 S4=>?_)
     have S4:=S3.trans S4
     refine wpS_bind (zaf ey (wpS_bind (zaT C (S4.kind.trans hk) py (fun t ht=>atA (ia+t) (by lia)) (zbw sa (by lia)) (by lia) fun k hk1 g1 g2=>?_)))
     dsimp only
     have L1:=L.cutA (k:=k) fun t u tk eu v hv=>by
      have:=g1 t tk
      rw[R_at eu]at this
      unfold bd at this
      simp only[Bool.false_eq_true,if_false,Bool.not_eq_true',decide_eq_false_iff_not]at this
      have:=zbd sb ey v hv
      lia
     have hle:∀ u∈a.toList.drop (ia+k),rk y≤rk u:=fun u hu=>by
      obtain⟨t,et⟩:=za3 hu
      have tl:=(Array.getElem?_eq_some_iff.mp et).1
      have:=g2 (k+t) (by lia) (by lia)
      rw[← Nat.add_assoc,R_at et]at this
      unfold bd at this
      simp only[Bool.false_eq_true,if_false,Bool.not_eq_false',decide_eq_true_eq]at this
      lia
     have sz1:i+2≤(out++a.extract ia (ia+k)).size:=by rw[Array.size_append];lia
     by_cases zk:k > 0
     ·rw[if_pos zk]
      by_cases za:ia+k+1=a.size
      ·rw[if_pos (by simpa using za)]
       obtain⟨q1,q2⟩:=lone L1 za
       exact wpS_pure ⟨S4,.inl ⟨_,_,rfl,q1,q2⟩⟩
      rw[if_neg (by simpa using za)]
      by_cases zc:ia+k=a.size
      ·rw[if_pos (by simpa using zc)]
       obtain⟨q1,q2⟩:=L1.endA (by lia)
       exact wpS_pure ⟨S4,.inl ⟨_,_,rfl,q1,q2⟩⟩
      rw[if_neg (by simpa using zc)]
      have la1:ia+k+1<a.size:=by lia
      generalize ia+k=ia1 at L1 hle la1 sz1 ⊢
      generalize out++a.extract ia ia1=out1 at L1 sz1 ⊢
      refine wpS_bind (zaf ey ?_)
      have L2:=L1.pushB ey hle
      by_cases zb:ib+1=b.size
      ·rw[if_pos (by simpa using zb)]
       obtain⟨q1,q2⟩:=L2.endB (by lia)
       exact wpS_pure ⟨S4,.inl ⟨_,_,rfl,q1,q2⟩⟩
      rw[if_neg (by simpa using zb)]
      obtain⟨x1,ex1,px1⟩:=atA _ (Nat.lt_of_succ_lt la1)
      refine wpS_bind (zaf ex1 (wpS_bind (zaT C (S4.kind.trans hk) px1 (fun t ht=>atB (ib+1+t) (by lia)) (zbw sb (by lia)) (by lia) fun k2 hk2 c1 c2=>?_)))
      dsimp only
      have L3:=L2.cutB (k:=k2) fun t u tk eu v hv=>by
       have:=c1 t tk
       rw[R_at eu]at this
       unfold bd at this
       simp only[if_true,decide_eq_true_eq]at this
       have:=zbd sa ex1 v hv
       lia
      have hle2:∀ u∈b.toList.drop (ib+1+k2),rk x1≤rk u:=fun u hu=>by
       obtain⟨t,et⟩:=za3 hu
       have tl:=(Array.getElem?_eq_some_iff.mp et).1
       have:=c2 (k2+t) (by lia) (by lia)
       rw[← Nat.add_assoc,R_at et]at this
       unfold bd at this
       simp only[if_true,decide_eq_false_iff_not]at this
       lia
      have sz2:=sz1
      by_cases zk2:k2 > 0
      ·rw[if_pos zk2]
       by_cases zd:ib+1+k2=b.size
       ·rw[if_pos (by simpa using zd)]
        obtain⟨q1,q2⟩:=L3.endB (by lia)
        exact wpS_pure ⟨S4,.inl ⟨_,_,rfl,q1,q2⟩⟩
       rw[if_neg (by simpa using zd)]
       have lb2:ib+1+k2<b.size:=by lia
       refine wpS_bind (zaf ex1 ?_)
       have L4:=L3.pushA ex1 hle2
       by_cases ze:ia1+1+1=a.size
       ·rw[if_pos (by simpa using ze)]
        obtain⟨q1,q2⟩:=lone L4 ze
        exact wpS_pure ⟨S4,.inl ⟨_,_,rfl,q1,q2⟩⟩
       rw[if_neg (by simpa using ze)]
       split
       ·exact wpS_pure ⟨S4,.inr ⟨_,_,_,_,_,_,rfl,L4,by lia,lb2,by simp only[Array.size_push,Array.size_append];lia⟩⟩
       ·exact wpS_pure ⟨S4,_,_,_,_,_,_,rfl,L4,by lia,lb2,by simp only[Array.size_push,Array.size_append];lia⟩
      ·rw[if_neg zk2]
       obtain rfl:k2=0:=by lia
       rw[Nat.add_zero]at hle2
       refine wpS_bind (zaf ex1 ?_)
       have L4:=L2.pushA ex1 hle2
       by_cases ze:ia1+1+1=a.size
       ·rw[if_pos (by simpa using ze)]
        obtain⟨q1,q2⟩:=lone L4 ze
        exact wpS_pure ⟨S4,.inl ⟨_,_,rfl,q1,q2⟩⟩
       rw[if_neg (by simpa using ze)]
       split
       ·exact wpS_pure ⟨S4,.inr ⟨_,_,_,_,_,_,rfl,L4,by lia,by lia,by simp only[Array.size_push,Array.size_append];lia⟩⟩
       ·exact wpS_pure ⟨S4,_,_,_,_,_,_,rfl,L4,by lia,by lia,by simp only[Array.size_push,Array.size_append];lia⟩
     ·rw[if_neg zk]
      obtain rfl:k=0:=by lia
      have L1:=L
      have la1:=la
      have sz1:=sz
      rw[Nat.add_zero]at hle
      refine wpS_bind (zaf ey ?_)
      have L2:=L1.pushB ey hle
      by_cases zb:ib+1=b.size
      ·rw[if_pos (by simpa using zb)]
       obtain⟨q1,q2⟩:=L2.endB (by lia)
       exact wpS_pure ⟨S4,.inl ⟨_,_,rfl,q1,q2⟩⟩
      rw[if_neg (by simpa using zb)]
      obtain⟨x1,ex1,px1⟩:=atA _ (Nat.lt_of_succ_lt la1)
      refine wpS_bind (zaf ex1 (wpS_bind (zaT C (S4.kind.trans hk) px1 (fun t ht=>atB (ib+1+t) (by lia)) (zbw sb (by lia)) (by lia) fun k2 hk2 c1 c2=>?_)))
      dsimp only
      have L3:=L2.cutB (k:=k2) fun t u tk eu v hv=>by
       have:=c1 t tk
       rw[R_at eu]at this
       unfold bd at this
       simp only[if_true,decide_eq_true_eq]at this
       have:=zbd sa ex1 v hv
       lia
      have hle2:∀ u∈b.toList.drop (ib+1+k2),rk x1≤rk u:=fun u hu=>by
       obtain⟨t,et⟩:=za3 hu
       have tl:=(Array.getElem?_eq_some_iff.mp et).1
       have:=c2 (k2+t) (by lia) (by lia)
       rw[← Nat.add_assoc,R_at et]at this
       unfold bd at this
       simp only[if_true,decide_eq_false_iff_not]at this
       lia
      have sz2:=sz1
      by_cases zk2:k2 > 0
      ·rw[if_pos zk2]
       by_cases zd:ib+1+k2=b.size
       ·rw[if_pos (by simpa using zd)]
        obtain⟨q1,q2⟩:=L3.endB (by lia)
        exact wpS_pure ⟨S4,.inl ⟨_,_,rfl,q1,q2⟩⟩
       rw[if_neg (by simpa using zd)]
       have lb2:ib+1+k2<b.size:=by lia
       refine wpS_bind (zaf ex1 ?_)
       have L4:=L3.pushA ex1 hle2
       by_cases ze:ia+1+1=a.size
       ·rw[if_pos (by simpa using ze)]
        obtain⟨q1,q2⟩:=lone L4 ze
        exact wpS_pure ⟨S4,.inl ⟨_,_,rfl,q1,q2⟩⟩
       rw[if_neg (by simpa using ze)]
       split
       ·exact wpS_pure ⟨S4,.inr ⟨_,_,_,_,_,_,rfl,L4,by lia,lb2,by simp only[Array.size_push,Array.size_append];lia⟩⟩
       ·exact wpS_pure ⟨S4,_,_,_,_,_,_,rfl,L4,by lia,lb2,by simp only[Array.size_push,Array.size_append];lia⟩
      ·rw[if_neg zk2]
       obtain rfl:k2=0:=by lia
       rw[Nat.add_zero]at hle2
       refine wpS_bind (zaf ex1 ?_)
       have L4:=L2.pushA ex1 hle2
       by_cases ze:ia+1+1=a.size
       ·rw[if_pos (by simpa using ze)]
        obtain⟨q1,q2⟩:=lone L4 ze
        exact wpS_pure ⟨S4,.inl ⟨_,_,rfl,q1,q2⟩⟩
       rw[if_neg (by simpa using ze)]
       split
       ·exact wpS_pure ⟨S4,.inr ⟨_,_,_,_,_,_,rfl,L4,by lia,by lia,by simp only[Array.size_push,Array.size_append];lia⟩⟩
       ·exact wpS_pure ⟨S4,_,_,_,_,_,_,rfl,L4,by lia,by lia,by simp only[Array.size_push,Array.size_append];lia⟩
   ·rintro c st3 ⟨S3,out,ia,ib,g,ca,cb,rfl,L,la,lb,sz⟩
    exact⟨S3,.inr ⟨_,_,_,_,_,_,rfl,L,la,lb,sz⟩⟩
   ·rintro c st3 ⟨S3,⟨r,x,rfl,q1,q2⟩|⟨out,ia,ib,g,ca,cb,rfl,L,la,lb,sz⟩⟩
    ·exact wpS_pure ⟨S3,r,_,rfl,q1,q2⟩
    dsimp only
    refine wpS_bind (zcM fun st4 S4=>?_)
    exact wpS_pure ⟨S3.trans S4,_,_,_,_,rfl,L,la,lb,by lia⟩
end
def ziN:Array Keyed→Array Keyed→StateT SortSt Sem (Array Keyed):=sortPriv% PySem.Builtin.mergeHi
structure Hi (rk:Keyed→Int) (T a b out:List Keyed):Prop where
 sa:Srt rk a
 sb:Srt rk b
 so:Srt rk out
 ao:∀ x∈a,∀ y∈out,rk x≤rk y
 bo:∀ x∈b,∀ y∈out,rk x≤rk y
 pm:(a++b++out).Perm T
section
variable {rk:Keyed→Int}{T out a b c:List Keyed}
theorem Hi.swap (h:Hi rk T a b out):Hi rk T b a out:=⟨h.sb,h.sa,h.so,h.bo,h.ao,((List.perm_append_comm (l₁:=b) (l₂:=a)).append_right out).trans h.pm⟩
theorem Hi.take (h:Hi rk T (a++c) b out) (le:∀ x∈b,∀ y∈c,rk x≤rk y):Hi rk T a b (c++out):=by
 obtain⟨s1,s2,s3⟩:=List.pairwise_append.mp h.sa
 refine⟨s1,h.sb,List.pairwise_append.mpr ⟨s2,h.so,fun x hx y hy=>h.ao x (List.mem_append_right _ hx) y hy⟩,fun x hx y hy=>?_,fun x hx y hy=>?_,?_⟩
 ·rcases List.mem_append.mp hy with q|q
  ·exact s3 x hx y q
  ·exact h.ao x (List.mem_append_left _ hx) y q
 ·rcases List.mem_append.mp hy with q|q
  ·exact le x hx y q
  ·exact h.bo x hx y q
 ·refine List.Perm.trans ?_ h.pm
  rw[← List.append_assoc]
  refine List.Perm.append_right out ?_
  rw[List.append_assoc,List.append_assoc]
  exact List.Perm.append_left a List.perm_append_comm
theorem Hi.end (h:Hi rk T [] b out):(b++out).Perm T∧Srt rk (b++out):=⟨h.pm,List.pairwise_append.mpr ⟨h.sb,h.so,h.bo⟩⟩
theorem Hi.lone (h:Hi rk T a b out) (le:∀ x∈b,∀ y∈a,rk x≤rk y):(b++a++out).Perm T∧Srt rk (b++a++out):=by
 refine⟨((List.perm_append_comm (l₁:=b) (l₂:=a)).append_right out).trans h.pm,List.pairwise_append.mpr ⟨List.pairwise_append.mpr ⟨h.sb,h.sa,le⟩,h.so,fun x hx y hy=>?_⟩⟩
 rcases List.mem_append.mp hx with q|q
 ·exact h.bo x q y hy
 ·exact h.ao x q y hy
theorem zjA {arr:Array Keyed}{n:Nat}{p:Keyed}(h1:1≤n) (e:arr[n-1]?=some p):arr.toList.take n=arr.toList.take (n-1)++[p]:=by
 obtain⟨hi,e⟩:=Array.getElem?_eq_some_iff.mp e
 have hl:n-1<arr.toList.length:=by rw[Array.length_toList];exact hi
 have:=List.take_succ_eq_append_getElem hl
 rw[Nat.sub_add_cancel h1,Array.getElem_toList,e]at this
 exact this
theorem zie (arr:Array Keyed) {i n:Nat}(h:i≤n):arr.toList.take n=arr.toList.take i++(arr.extract i n).toList:=by
 rw[Array.toList_extract,List.extract_eq_take_drop]
 have:=List.take_add (l:=arr.toList) (i:=i) (j:=n-i)
 rw[show i+(n-i)=n by lia]at this
 exact this
theorem zcx (arr:Array Keyed) (n:Nat):(arr.extract 0 n).toList=arr.toList.take n:=by
 rw[Array.toList_extract,List.extract_eq_take_drop,List.drop_zero,Nat.sub_zero]
theorem zcy {arr:Array Keyed}{i n:Nat}{x:Keyed}(h:x∈(arr.extract i n).toList):∃ j,i≤j∧j<n∧arr[j]?=some x:=by
 rw[Array.toList_extract,List.extract_eq_take_drop]at h
 obtain⟨j,hj⟩:=List.mem_iff_getElem?.mp h
 have jk:j<n-i:=by
  have:=(List.getElem?_eq_some_iff.mp hj).1
  rw[List.length_take]at this;lia
 rw[List.getElem?_take_of_lt jk,List.getElem?_drop]at hj
 exact⟨i+j,by lia,by lia,by rw[← Array.getElem?_toList];exact hj⟩
theorem zaP {arr:Array Keyed}{n:Nat}{x:Keyed}(h:x∈arr.toList.take n):∃ j,j<n∧arr[j]?=some x:=by
 obtain⟨j,hj⟩:=List.mem_iff_getElem?.mp h
 have jk:j<n:=by
  have:=(List.getElem?_eq_some_iff.mp hj).1
  rw[List.length_take]at this;lia
 rw[List.getElem?_take_of_lt jk]at hj
 exact⟨j,jk,by rw[← Array.getElem?_toList];exact hj⟩
theorem zaW {arr:Array Keyed}{n:Nat}{p:Keyed}(h:Srt rk arr.toList) (h1:1≤n) (e:arr[n-1]?=some p):∀ y∈arr.toList.take n,rk y≤rk p:=by
 intro y hy
 obtain⟨j,jn,ej⟩:=zaP hy
 have hn:=(Array.getElem?_eq_some_iff.mp e).1
 have:=zbw h (base:=0) (n:=n) (by lia) j (n-1) (Nat.zero_le _) (by lia) (by lia)
 rw[R_at ej,R_at e]at this
 exact this
end
section
variable {rk:Keyed→Int}{T:List Keyed}{out a b:Array Keyed}{na nb i:Nat}{p q:Keyed}
abbrev Bt (rk:Keyed→Int) (T:List Keyed) (a b out:Array Keyed) (na nb:Nat):Prop:=Hi rk T (a.toList.take na) (b.toList.take nb) out.toList.reverse
theorem Bt.pushA (h:Bt rk T a b out na nb) (h1:1≤na) (e:a[na-1]?=some p) (le:∀ x∈b.toList.take nb,rk x≤rk p):Bt rk T a b (out.push p) (na-1) nb:=by
 have h':=h
 unfold Bt at h' ⊢
 rw[zjA h1 e]at h'
 rw[Array.toList_push,List.reverse_append]
 exact Hi.take (c:=[p]) h' fun x hx y hy=>by rw[List.mem_singleton.mp hy];exact le x hx
theorem Bt.pushB (h:Bt rk T a b out na nb) (h1:1≤nb) (e:b[nb-1]?=some p) (le:∀ x∈a.toList.take na,rk x≤rk p):Bt rk T a b (out.push p) na (nb-1):=(Bt.pushA (a:=b) (b:=a) h.swap h1 e le).swap
theorem Bt.cutA (h:Bt rk T a b out na nb) (hi:i≤na) (le:∀ j x,i≤j→j<na→a[j]?=some x→∀ y∈b.toList.take nb,rk y≤rk x):Bt rk T a b (out++(a.extract i na).reverse) i nb:=by
 have h':=h
 unfold Bt at h' ⊢
 rw[zie a hi]at h'
 rw[Array.toList_append,List.reverse_append,Array.toList_reverse,List.reverse_reverse]
 exact Hi.take h' fun y hy x hx=>by
  obtain⟨j,j1,j2,e⟩:=zcy hx
  exact le j x j1 j2 e y hy
theorem Bt.cutB (h:Bt rk T a b out na nb) (hi:i≤nb) (le:∀ j x,i≤j→j<nb→b[j]?=some x→∀ y∈a.toList.take na,rk y≤rk x):Bt rk T a b (out++(b.extract i nb).reverse) na i:=(Bt.cutA (a:=b) (b:=a) h.swap hi le).swap
theorem Bt.endA (h:Bt rk T a b out 0 nb):(a.extract 0 0++b.extract 0 nb++out.reverse).toList.Perm T∧Srt rk (a.extract 0 0++b.extract 0 nb++out.reverse).toList:=by
 rw[Array.toList_append,Array.toList_append,zcx,zcx,List.take_zero,List.nil_append,Array.toList_reverse]
 exact Hi.end h
theorem Bt.endB (h:Bt rk T a b out na 0):(a.extract 0 na++b.extract 0 0++out.reverse).toList.Perm T∧Srt rk (a.extract 0 na++b.extract 0 0++out.reverse).toList:=by
 rw[Array.toList_append,Array.toList_append,zcx,zcx,List.take_zero,List.append_nil,Array.toList_reverse]
 exact Hi.end h.swap
theorem Bt.lone (h:Bt rk T a b out na nb) (le:∀ x∈b.toList.take nb,∀ y∈a.toList.take na,rk x≤rk y):(b.extract 0 nb++a.extract 0 na++out.reverse).toList.Perm T∧Srt rk (b.extract 0 nb++a.extract 0 na++out.reverse).toList:=by
 rw[Array.toList_append,Array.toList_append,zcx,zcx,Array.toList_reverse]
 exact Hi.lone h le
end
section
variable {prog:Program}{w:World}{A:Around}{E:Value→Shared→Prop}{s:Shared}{κ:SortKind}{P:Keyed→Prop}{rk:Keyed→Int}{a₀:Array Keyed}
theorem zl6 (C:Cmp prog w A s κ P rk) {st:SortSt}{a b:Array Keyed}{Q:Array Keyed→SortSt→Prop}(hk:kindOf st=κ) (pa:∀ x∈a.toList,P x) (pb:∀ x∈b.toList,P x) (sa:Srt rk a.toList) (sb:Srt rk b.toList) (a1:1≤a.size) (b1:1≤b.size)
  (first:∀ x,b[0]?=some x→∀ y∈a.toList,rk x≤rk y) (last:∀ x,a[a.size-1]?=some x→∀ y∈b.toList,rk y≤rk x)
  (h:∀ r st',Sm st st'→r.toList.Perm (a.toList++b.toList)→Srt rk r.toList→Q r st'):wpS (model prog w) A E s (ziN a b) Q st:=by
 have atA:∀ i,i<a.size→∃ x,a[i]?=some x∧P x:=fun i hi=>⟨_,getElem?_pos a i hi,pa _ (by simp)⟩
 have atB:∀ i,i<b.size→∃ x,b[i]?=some x∧P x:=fun i hi=>⟨_,getElem?_pos b i hi,pb _ (by simp)⟩
 obtain⟨z0,e0,_⟩:=atA (a.size-1) (by lia)
 have lone:∀ {out:Array Keyed}{na:Nat},Bt rk (a.toList++b.toList) a b out na 1→(b.extract 0 1++a.extract 0 na++out.reverse).toList.Perm (a.toList++b.toList)∧Srt rk (b.extract 0 1++a.extract 0 na++out.reverse).toList:=fun {out na} L=>L.lone fun x hx y hy=>by
  obtain⟨j,j1,ej⟩:=zaP hx
  exact first x (by rw[show 0=j by lia];exact ej) y (List.mem_of_mem_take hy)
 have L0:Bt rk (a.toList++b.toList) a b #[z0] (a.size-1) b.size:=by
  have w0:Bt rk (a.toList++b.toList) a b #[] a.size b.size:=by
   have e1:a.toList.take a.size=a.toList:=List.take_of_length_le (by rw[Array.length_toList];exact Nat.le_refl _)
   have e2:b.toList.take b.size=b.toList:=List.take_of_length_le (by rw[Array.length_toList];exact Nat.le_refl _)
   unfold Bt
   rw[e1,e2]
   exact⟨sa,sb,List.Pairwise.nil,fun x hx y hy=>by simp at hy,fun x hx y hy=>by simp at hy,by simp⟩
  exact w0.pushA a1 e0 fun x hx=>last z0 e0 x (List.mem_of_mem_take hx)
 have size:∀ {out:Array Keyed}{na nb:Nat},Bt rk (a.toList++b.toList) a b out na nb→out.size≤a.size+b.size:=fun {out na nb} L=>by
  have:=L.pm.length_eq
  simp only[List.length_append,List.length_reverse,Array.length_toList]at this
  lia
 refine wpS_bind (zbO ?_)
 refine wpS_bind (zaf e0 ?_)
 dsimp only
 by_cases z1:a.size-1=0
 ·rw[if_pos (by simpa using z1)]
  rw[z1]at L0 ⊢
  obtain⟨q1,q2⟩:=L0.endA
  exact wpS_pure (h _ _ (Sm.refl _) q1 q2)
 rw[if_neg (by simpa using z1)]
 by_cases z2:b.size=1
 ·rw[if_pos (by simpa using z2)]
  rw[z2]at L0 ⊢
  obtain⟨q1,q2⟩:=lone L0
  exact wpS_pure (h _ _ (Sm.refl _) q1 q2)
 rw[if_neg (by simpa using z2)]
 refine wpS_bind (wpS_get ?_)
 refine wpS_bind (wpS_mono (wpS_forRange (I:=fun i c st1=>Sm st st1∧∃ na nb out g,c=(none,na,nb,out,g)∧Bt rk (a.toList++b.toList) a b out na nb∧1≤na∧na≤a.size∧2≤nb∧nb≤b.size∧i+1≤out.size)
  (Q:=fun c st1=>Sm st st1∧∃ r x,c=(some r,x)∧r.toList.Perm (a.toList++b.toList)∧Srt rk r.toList) ?step ?fin ⟨Sm.refl _,_,_,_,_,rfl,L0,by lia,by lia,by lia,by lia,by simp⟩) ?post)
 case post =>
  rintro c st1 ⟨S1,r,x,rfl,q1,q2⟩
  exact wpS_pure (h _ _ S1 q1 q2)
 case fin =>
  rintro c st1 ⟨S1,na,nb,out,g,rfl,L,_,_,_,_,sz⟩
  have:=size L
  lia
 case step =>
  rintro i c st1 _ hi ⟨S1,na,nb,out,g,rfl,L,la,la',lb,lb',sz⟩
  dsimp only
  refine wpS_bind (wpS_mono (wpS_forRange (I:=fun j c st2=>st2=st1∧∃ na nb out ca cb,c=(none,na,nb,out,ca,cb)∧Bt rk (a.toList++b.toList) a b out na nb∧1≤na∧na≤a.size∧2≤nb∧nb≤b.size∧i+1+j≤out.size)
   (Q:=fun c st2=>st2=st1∧((∃ r x,c=(some r,x)∧r.toList.Perm (a.toList++b.toList)∧Srt rk r.toList)∨∃ na nb out ca cb,c=(none,na,nb,out,ca,cb)∧Bt rk (a.toList++b.toList) a b out na nb∧1≤na∧na≤a.size∧2≤nb∧nb≤b.size∧i+2≤out.size)) ?_ ?_ ⟨rfl,_,_,_,_,_,rfl,L,la,la',lb,lb',by lia⟩) ?_)
  ·rintro j c st2 _ hj ⟨rfl,na,nb,out,ca,cb,rfl,L,la,la',lb,lb',sz⟩
   dsimp only
   obtain⟨x,ex,px⟩:=atA (na-1) (by lia)
   obtain⟨y,ey,py⟩:=atB (nb-1) (by lia)
   refine wpS_bind (zaf ey (wpS_bind (zaf ex (wpS_bind (zhu C (S1.kind.trans hk) py px ?_)))))
   by_cases z:rk y<rk x
   ·rw[decide_eq_true z]
    dsimp only
    rw[if_pos rfl]
    have L':=L.pushA la ex fun u hu=>Int.le_trans (zaW sb (by lia) ey u hu) (Int.le_of_lt z)
    refine wpS_bind (zaf ex ?_)
    by_cases zb:na-1=0
    ·rw[if_pos (by simpa using zb)]
     rw[zb]at L' ⊢
     obtain⟨q1,q2⟩:=L'.endA
     exact wpS_pure ⟨rfl,.inl ⟨_,_,rfl,q1,q2⟩⟩
    ·rw[if_neg (by simpa using zb)]
     by_cases zg:ca+1≥g
     ·rw[if_pos zg]
      exact wpS_pure ⟨rfl,.inr ⟨_,_,_,_,_,rfl,L',by lia,by lia,lb,lb',by rw[Array.size_push];lia⟩⟩
     ·rw[if_neg zg]
      exact wpS_pure ⟨rfl,_,_,_,_,_,rfl,L',by lia,by lia,lb,lb',by rw[Array.size_push];lia⟩
   ·rw[decide_eq_false z]
    dsimp only
    rw[if_neg Bool.false_ne_true]
    have L':=L.pushB (by lia) ey fun u hu=>Int.le_trans (zaW sa la ex u hu) (by lia)
    refine wpS_bind (zaf ey ?_)
    by_cases zb:nb-1=1
    ·rw[if_pos (by simpa using zb)]
     rw[zb]at L' ⊢
     obtain⟨q1,q2⟩:=lone L'
     exact wpS_pure ⟨rfl,.inl ⟨_,_,rfl,q1,q2⟩⟩
    ·rw[if_neg (by simpa using zb)]
     by_cases zg:cb+1≥g
     ·rw[if_pos zg]
      exact wpS_pure ⟨rfl,.inr ⟨_,_,_,_,_,rfl,L',la,la',by lia,by lia,by rw[Array.size_push];lia⟩⟩
     ·rw[if_neg zg]
      exact wpS_pure ⟨rfl,_,_,_,_,_,rfl,L',la,la',by lia,by lia,by rw[Array.size_push];lia⟩
  ·rintro c st2 ⟨rfl,na,nb,out,ca,cb,rfl,L,la,la',lb,lb',sz⟩
   have:=size L
   lia
  ·rintro c st2 ⟨rfl,⟨r,x,rfl,q1,q2⟩|⟨na,nb,out,ca,cb,rfl,L,la,la',lb,lb',sz⟩⟩
   ·exact wpS_pure ⟨S1,r,_,rfl,q1,q2⟩
   dsimp only
   refine wpS_bind (zbO ?_)
   refine wpS_bind (wpS_mono (wpS_forRange (I:=fun j c st3=>Sm st st3∧∃ na nb out g ca cb,c=(none,na,nb,out,g,ca,cb)∧Bt rk (a.toList++b.toList) a b out na nb∧1≤na∧na≤a.size∧2≤nb∧nb≤b.size∧i+2≤out.size)
    (Q:=fun c st3=>Sm st st3∧((∃ r x,c=(some r,x)∧r.toList.Perm (a.toList++b.toList)∧Srt rk r.toList)∨∃ na nb out g ca cb,c=(none,na,nb,out,g,ca,cb)∧Bt rk (a.toList++b.toList) a b out na nb∧1≤na∧na≤a.size∧2≤nb∧nb≤b.size∧i+2≤out.size)) ?_ ?_ ⟨S1,_,_,_,_,_,_,rfl,L,la,la',lb,lb',sz⟩) ?_)
   ·rintro j c st3 _ hj ⟨S3,na,nb,out,g,ca,cb,rfl,L,la,la',lb,lb',sz⟩
    dsimp only
    obtain⟨y,ey,py⟩:=atB (nb-1) (by lia)
    by_cases zg:g > 1
    ·rw[if_pos zg]
     refine wpS_bind (zcM fun st4 S4=>?_)
     have S4:=S3.trans S4
     refine wpS_bind (zaf ey (wpS_bind (zaT C (S4.kind.trans hk) py (fun t ht=>atA (0+t) (by lia)) (zbw sa (by lia)) (by lia) fun k hk1 g1 g2=>?_)))
     dsimp only
     have L1:=L.cutA (i:=k) hk1 fun t u tk tn eu v hv=>by
      have:=g2 t tk tn
      rw[Nat.zero_add,R_at eu]at this
      unfold bd at this
      simp only[Bool.false_eq_true,if_false,Bool.not_eq_false',decide_eq_true_eq]at this
      have:=zaW sb (by lia) ey v hv
      lia
     have hle:∀ u∈a.toList.take k,rk u≤rk y:=fun u hu=>by
      obtain⟨t,tk,et⟩:=zaP hu
      have:=g1 t tk
      rw[Nat.zero_add,R_at et]at this
      unfold bd at this
      simp only[Bool.false_eq_true,if_false,Bool.not_eq_true',decide_eq_false_iff_not]at this
      lia
     have sz1:i+2≤(out++(a.extract k na).reverse).size:=by rw[Array.size_append];lia
     by_cases zk:na-k > 0
     ·rw[if_pos zk]
      by_cases zc:k=0
      ·rw[if_pos (by simpa using zc)]
       subst zc
       obtain⟨q1,q2⟩:=L1.endA
       exact wpS_pure ⟨S4,.inl ⟨_,_,rfl,q1,q2⟩⟩
      rw[if_neg (by simpa using zc)]
      have ka:1≤k:=by lia
      generalize na-k=kk
      generalize out++(a.extract k na).reverse=out1 at L1 sz1 ⊢
      refine wpS_bind (zaf ey ?_)
      have L2:=L1.pushB (by lia) ey hle
      by_cases zb:nb-1=1
      ·rw[if_pos (by simpa using zb)]
       rw[zb]at L2 ⊢
       obtain⟨q1,q2⟩:=lone L2
       exact wpS_pure ⟨S4,.inl ⟨_,_,rfl,q1,q2⟩⟩
      rw[if_neg (by simpa using zb)]
      obtain⟨x1,ex1,px1⟩:=atA (k-1) (by lia)
      refine wpS_bind (zaf ex1 (wpS_bind (zaT C (S4.kind.trans hk) px1 (fun t ht=>atB (0+t) (by lia)) (zbw sb (by lia)) (by lia) fun k2 hk2 c1 c2=>?_)))
      dsimp only
      have L3:=L2.cutB (i:=k2) hk2 fun t u tk tn eu v hv=>by
       have:=c2 t tk tn
       rw[Nat.zero_add,R_at eu]at this
       unfold bd at this
       simp only[if_true,decide_eq_false_iff_not]at this
       have:=zaW sa ka ex1 v hv
       lia
      have hle2:∀ u∈b.toList.take k2,rk u≤rk x1:=fun u hu=>by
       obtain⟨t,tk,et⟩:=zaP hu
       have:=c1 t tk
       rw[Nat.zero_add,R_at et]at this
       unfold bd at this
       simp only[if_true,decide_eq_true_eq]at this
       lia
      by_cases zk2:nb-1-k2 > 0
      ·rw[if_pos zk2]
       by_cases zd:k2=1
       ·rw[if_pos (by simpa using zd)]
        subst zd
        obtain⟨q1,q2⟩:=lone L3
        exact wpS_pure ⟨S4,.inl ⟨_,_,rfl,q1,q2⟩⟩
       rw[if_neg (by simpa using zd)]
       by_cases zf:k2=0
       ·rw[if_pos (by simpa using zf)]
        subst zf
        obtain⟨q1,q2⟩:=L3.endB
        exact wpS_pure ⟨S4,.inl ⟨_,_,rfl,q1,q2⟩⟩
       rw[if_neg (by simpa using zf)]
       refine wpS_bind (zaf ex1 ?_)
       have L4:=L3.pushA ka ex1 hle2
       by_cases ze:k-1=0
       ·rw[if_pos (by simpa using ze)]
        rw[ze]at L4 ⊢
        obtain⟨q1,q2⟩:=L4.endA
        exact wpS_pure ⟨S4,.inl ⟨_,_,rfl,q1,q2⟩⟩
       rw[if_neg (by simpa using ze)]
       split
       ·exact wpS_pure ⟨S4,.inr ⟨_,_,_,_,_,_,rfl,L4,by lia,by lia,by lia,by lia,by simp only[Array.size_push,Array.size_append];lia⟩⟩
       ·exact wpS_pure ⟨S4,_,_,_,_,_,_,rfl,L4,by lia,by lia,by lia,by lia,by simp only[Array.size_push,Array.size_append];lia⟩
      ·rw[if_neg zk2]
       obtain rfl:k2=nb-1:=by lia
       refine wpS_bind (zaf ex1 ?_)
       have L4:=L2.pushA ka ex1 hle2
       by_cases ze:k-1=0
       ·rw[if_pos (by simpa using ze)]
        rw[ze]at L4 ⊢
        obtain⟨q1,q2⟩:=L4.endA
        exact wpS_pure ⟨S4,.inl ⟨_,_,rfl,q1,q2⟩⟩
       rw[if_neg (by simpa using ze)]
       split
       ·exact wpS_pure ⟨S4,.inr ⟨_,_,_,_,_,_,rfl,L4,by lia,by lia,by lia,by lia,by simp only[Array.size_push,Array.size_append];lia⟩⟩
       ·exact wpS_pure ⟨S4,_,_,_,_,_,_,rfl,L4,by lia,by lia,by lia,by lia,by simp only[Array.size_push,Array.size_append];lia⟩
     ·rw[if_neg zk]
      obtain rfl:k=na:=by lia
      have L1:=L
      have ka:=la
      have sz1:=sz
      generalize k-k=kk
      refine wpS_bind (zaf ey ?_)
      have L2:=L1.pushB (by lia) ey hle
      by_cases zb:nb-1=1
      ·rw[if_pos (by simpa using zb)]
       rw[zb]at L2 ⊢
       obtain⟨q1,q2⟩:=lone L2
       exact wpS_pure ⟨S4,.inl ⟨_,_,rfl,q1,q2⟩⟩
      rw[if_neg (by simpa using zb)]
      obtain⟨x1,ex1,px1⟩:=atA (k-1) (by lia)
      refine wpS_bind (zaf ex1 (wpS_bind (zaT C (S4.kind.trans hk) px1 (fun t ht=>atB (0+t) (by lia)) (zbw sb (by lia)) (by lia) fun k2 hk2 c1 c2=>?_)))
      dsimp only
      have L3:=L2.cutB (i:=k2) hk2 fun t u tk tn eu v hv=>by
       have:=c2 t tk tn
       rw[Nat.zero_add,R_at eu]at this
       unfold bd at this
       simp only[if_true,decide_eq_false_iff_not]at this
       have:=zaW sa ka ex1 v hv
       lia
      have hle2:∀ u∈b.toList.take k2,rk u≤rk x1:=fun u hu=>by
       obtain⟨t,tk,et⟩:=zaP hu
       have:=c1 t tk
       rw[Nat.zero_add,R_at et]at this
       unfold bd at this
       simp only[if_true,decide_eq_true_eq]at this
       lia
      by_cases zk2:nb-1-k2 > 0
      ·rw[if_pos zk2]
       by_cases zd:k2=1
       ·rw[if_pos (by simpa using zd)]
        subst zd
        obtain⟨q1,q2⟩:=lone L3
        exact wpS_pure ⟨S4,.inl ⟨_,_,rfl,q1,q2⟩⟩
       rw[if_neg (by simpa using zd)]
       by_cases zf:k2=0
       ·rw[if_pos (by simpa using zf)]
        subst zf
        obtain⟨q1,q2⟩:=L3.endB
        exact wpS_pure ⟨S4,.inl ⟨_,_,rfl,q1,q2⟩⟩
       rw[if_neg (by simpa using zf)]
       refine wpS_bind (zaf ex1 ?_)
       have L4:=L3.pushA ka ex1 hle2
       by_cases ze:k-1=0
       ·rw[if_pos (by simpa using ze)]
        rw[ze]at L4 ⊢
        obtain⟨q1,q2⟩:=L4.endA
        exact wpS_pure ⟨S4,.inl ⟨_,_,rfl,q1,q2⟩⟩
       rw[if_neg (by simpa using ze)]
       split
       ·exact wpS_pure ⟨S4,.inr ⟨_,_,_,_,_,_,rfl,L4,by lia,by lia,by lia,by lia,by simp only[Array.size_push,Array.size_append];lia⟩⟩
       ·exact wpS_pure ⟨S4,_,_,_,_,_,_,rfl,L4,by lia,by lia,by lia,by lia,by simp only[Array.size_push,Array.size_append];lia⟩
      ·rw[if_neg zk2]
       obtain rfl:k2=nb-1:=by lia
       refine wpS_bind (zaf ex1 ?_)
       have L4:=L2.pushA ka ex1 hle2
       by_cases ze:k-1=0
       ·rw[if_pos (by simpa using ze)]
        rw[ze]at L4 ⊢
        obtain⟨q1,q2⟩:=L4.endA
        exact wpS_pure ⟨S4,.inl ⟨_,_,rfl,q1,q2⟩⟩
       rw[if_neg (by simpa using ze)]
       split
       ·exact wpS_pure ⟨S4,.inr ⟨_,_,_,_,_,_,rfl,L4,by lia,by lia,by lia,by lia,by simp only[Array.size_push,Array.size_append];lia⟩⟩
       ·exact wpS_pure ⟨S4,_,_,_,_,_,_,rfl,L4,by lia,by lia,by lia,by lia,by simp only[Array.size_push,Array.size_append];lia⟩
    ·rw[if_neg zg]
     refine wpS_bind (zcM fun st4 S4=>?_)
     have S4:=S3.trans S4
     refine wpS_bind (zaf ey (wpS_bind (zaT C (S4.kind.trans hk) py (fun t ht=>atA (0+t) (by lia)) (zbw sa (by lia)) (by lia) fun k hk1 g1 g2=>?_)))
     dsimp only
     have L1:=L.cutA (i:=k) hk1 fun t u tk tn eu v hv=>by
      have:=g2 t tk tn
      rw[Nat.zero_add,R_at eu]at this
      unfold bd at this
      simp only[Bool.false_eq_true,if_false,Bool.not_eq_false',decide_eq_true_eq]at this
      have:=zaW sb (by lia) ey v hv
      lia
     have hle:∀ u∈a.toList.take k,rk u≤rk y:=fun u hu=>by
      obtain⟨t,tk,et⟩:=zaP hu
      have:=g1 t tk
      rw[Nat.zero_add,R_at et]at this
      unfold bd at this
      simp only[Bool.false_eq_true,if_false,Bool.not_eq_true',decide_eq_false_iff_not]at this
      lia
     have sz1:i+2≤(out++(a.extract k na).reverse).size:=by rw[Array.size_append];lia
     by_cases zk:na-k > 0
     ·rw[if_pos zk]
      by_cases zc:k=0
      ·rw[if_pos (by simpa using zc)]
       subst zc
       obtain⟨q1,q2⟩:=L1.endA
       exact wpS_pure ⟨S4,.inl ⟨_,_,rfl,q1,q2⟩⟩
      rw[if_neg (by simpa using zc)]
      have ka:1≤k:=by lia
      generalize na-k=kk
      generalize out++(a.extract k na).reverse=out1 at L1 sz1 ⊢
      refine wpS_bind (zaf ey ?_)
      have L2:=L1.pushB (by lia) ey hle
      by_cases zb:nb-1=1
      ·rw[if_pos (by simpa using zb)]
       rw[zb]at L2 ⊢
       obtain⟨q1,q2⟩:=lone L2
       exact wpS_pure ⟨S4,.inl ⟨_,_,rfl,q1,q2⟩⟩
      rw[if_neg (by simpa using zb)]
      obtain⟨x1,ex1,px1⟩:=atA (k-1) (by lia)
      refine wpS_bind (zaf ex1 (wpS_bind (zaT C (S4.kind.trans hk) px1 (fun t ht=>atB (0+t) (by lia)) (zbw sb (by lia)) (by lia) fun k2 hk2 c1 c2=>?_)))
      dsimp only
      have L3:=L2.cutB (i:=k2) hk2 fun t u tk tn eu v hv=>by
       have:=c2 t tk tn
       rw[Nat.zero_add,R_at eu]at this
       unfold bd at this
       simp only[if_true,decide_eq_false_iff_not]at this
       have:=zaW sa ka ex1 v hv
       lia
      have hle2:∀ u∈b.toList.take k2,rk u≤rk x1:=fun u hu=>by
       obtain⟨t,tk,et⟩:=zaP hu
       have:=c1 t tk
       rw[Nat.zero_add,R_at et]at this
       unfold bd at this
       simp only[if_true,decide_eq_true_eq]at this
       lia
      by_cases zk2:nb-1-k2 > 0
      ·rw[if_pos zk2]
       by_cases zd:k2=1
       ·rw[if_pos (by simpa using zd)]
        subst zd
        obtain⟨q1,q2⟩:=lone L3
        exact wpS_pure ⟨S4,.inl ⟨_,_,rfl,q1,q2⟩⟩
       rw[if_neg (by simpa using zd)]
       by_cases zf:k2=0
       ·rw[if_pos (by simpa using zf)]
        subst zf
        obtain⟨q1,q2⟩:=L3.endB
        exact wpS_pure ⟨S4,.inl ⟨_,_,rfl,q1,q2⟩⟩
       rw[if_neg (by simpa using zf)]
       refine wpS_bind (zaf ex1 ?_)
       have L4:=L3.pushA ka ex1 hle2
       by_cases ze:k-1=0
       ·rw[if_pos (by simpa using ze)]
        rw[ze]at L4 ⊢
        obtain⟨q1,q2⟩:=L4.endA
        exact wpS_pure ⟨S4,.inl ⟨_,_,rfl,q1,q2⟩⟩
       rw[if_neg (by simpa using ze)]
       split
       ·exact wpS_pure ⟨S4,.inr ⟨_,_,_,_,_,_,rfl,L4,by lia,by lia,by lia,by lia,by simp only[Array.size_push,Array.size_append];lia⟩⟩
       ·exact wpS_pure ⟨S4,_,_,_,_,_,_,rfl,L4,by lia,by lia,by lia,by lia,by simp only[Array.size_push,Array.size_append];lia⟩
      ·rw[if_neg zk2]
       obtain rfl:k2=nb-1:=by lia
       refine wpS_bind (zaf ex1 ?_)
       have L4:=L2.pushA ka ex1 hle2
       by_cases ze:k-1=0
       ·rw[if_pos (by simpa using ze)]
        rw[ze]at L4 ⊢
        obtain⟨q1,q2⟩:=L4.endA
        exact wpS_pure ⟨S4,.inl ⟨_,_,rfl,q1,q2⟩⟩
       rw[if_neg (by simpa using ze)]
       split
       ·exact wpS_pure ⟨S4,.inr ⟨_,_,_,_,_,_,rfl,L4,by lia,by lia,by lia,by lia,by simp only[Array.size_push,Array.size_append];lia⟩⟩
       ·exact wpS_pure ⟨S4,_,_,_,_,_,_,rfl,L4,by lia,by lia,by lia,by lia,by simp only[Array.size_push,Array.size_append];lia⟩
     ·rw[if_neg zk]
      obtain rfl:k=na:=by lia
      have L1:=L
      have ka:=la
      have sz1:=sz
      generalize k-k=kk
      refine wpS_bind (zaf ey ?_)
      have L2:=L1.pushB (by lia) ey hle
      by_cases zb:nb-1=1
      ·rw[if_pos (by simpa using zb)]
       rw[zb]at L2 ⊢
       obtain⟨q1,q2⟩:=lone L2
       exact wpS_pure ⟨S4,.inl ⟨_,_,rfl,q1,q2⟩⟩
      rw[if_neg (by simpa using zb)]
      obtain⟨x1,ex1,px1⟩:=atA (k-1) (by lia)
      refine wpS_bind (zaf ex1 (wpS_bind (zaT C (S4.kind.trans hk) px1 (fun t ht=>atB (0+t) (by lia)) (zbw sb (by lia)) (by lia) fun k2 hk2 c1 c2=>?_)))
      dsimp only
      have L3:=L2.cutB (i:=k2) hk2 fun t u tk tn eu v hv=>by
       have:=c2 t tk tn
       rw[Nat.zero_add,R_at eu]at this
       unfold bd at this
       simp only[if_true,decide_eq_false_iff_not]at this
       have:=zaW sa ka ex1 v hv
       lia
      have hle2:∀ u∈b.toList.take k2,rk u≤rk x1:=fun u hu=>by
       obtain⟨t,tk,et⟩:=zaP hu
       have:=c1 t tk
       rw[Nat.zero_add,R_at et]at this
       unfold bd at this
       simp only[if_true,decide_eq_true_eq]at this
       lia
      by_cases zk2:nb-1-k2 > 0
      ·rw[if_pos zk2]
       by_cases zd:k2=1
       ·rw[if_pos (by simpa using zd)]
        subst zd
        obtain⟨q1,q2⟩:=lone L3
        exact wpS_pure ⟨S4,.inl ⟨_,_,rfl,q1,q2⟩⟩
       rw[if_neg (by simpa using zd)]
       by_cases zf:k2=0
       ·rw[if_pos (by simpa using zf)]
        subst zf
        obtain⟨q1,q2⟩:=L3.endB
        exact wpS_pure ⟨S4,.inl ⟨_,_,rfl,q1,q2⟩⟩
       rw[if_neg (by simpa using zf)]
       refine wpS_bind (zaf ex1 ?_)
       have L4:=L3.pushA ka ex1 hle2
       by_cases ze:k-1=0
       ·rw[if_pos (by simpa using ze)]
        rw[ze]at L4 ⊢
        obtain⟨q1,q2⟩:=L4.endA
        exact wpS_pure ⟨S4,.inl ⟨_,_,rfl,q1,q2⟩⟩
       rw[if_neg (by simpa using ze)]
       split
       ·exact wpS_pure ⟨S4,.inr ⟨_,_,_,_,_,_,rfl,L4,by lia,by lia,by lia,by lia,by simp only[Array.size_push,Array.size_append];lia⟩⟩
       ·exact wpS_pure ⟨S4,_,_,_,_,_,_,rfl,L4,by lia,by lia,by lia,by lia,by simp only[Array.size_push,Array.size_append];lia⟩
      ·rw[if_neg zk2]
       obtain rfl:k2=nb-1:=by lia
       refine wpS_bind (zaf ex1 ?_)
       have L4:=L2.pushA ka ex1 hle2
       by_cases ze:k-1=0
       ·rw[if_pos (by simpa using ze)]
        rw[ze]at L4 ⊢
        obtain⟨q1,q2⟩:=L4.endA
        exact wpS_pure ⟨S4,.inl ⟨_,_,rfl,q1,q2⟩⟩
       rw[if_neg (by simpa using ze)]
       split
       ·exact wpS_pure ⟨S4,.inr ⟨_,_,_,_,_,_,rfl,L4,by lia,by lia,by lia,by lia,by simp only[Array.size_push,Array.size_append];lia⟩⟩
       ·exact wpS_pure ⟨S4,_,_,_,_,_,_,rfl,L4,by lia,by lia,by lia,by lia,by simp only[Array.size_push,Array.size_append];lia⟩
   ·rintro c st3 ⟨S3,na,nb,out,g,ca,cb,rfl,L,la,la',lb,lb',sz⟩
    exact⟨S3,.inr ⟨_,_,_,_,_,_,rfl,L,la,la',lb,lb',sz⟩⟩
   ·rintro c st3 ⟨S3,⟨r,x,rfl,q1,q2⟩|⟨na,nb,out,g,ca,cb,rfl,L,la,la',lb,lb',sz⟩⟩
    ·exact wpS_pure ⟨S3,r,_,rfl,q1,q2⟩
    dsimp only
    refine wpS_bind (zcM fun st4 S4=>?_)
    exact wpS_pure ⟨S3.trans S4,_,_,_,_,rfl,L,la,la',lb,lb',by lia⟩
end
section
variable {rk:Keyed→Int}
theorem zcD (b:Nat):∀ (l:List Keyed) (o:Nat) (arr:Array Keyed),b+o+l.length≤arr.size→(List.foldl (fun (a:Array Keyed) (x:Keyed × Nat)=>a.setIfInBounds (b+x.2) x.1) arr (l.zipIdx o)).toList=arr.toList.take (b+o)++l++arr.toList.drop (b+o+l.length)
 | [],o,arr,_=>by
  show arr.toList=_
  rw[List.append_nil,List.length_nil,Nat.add_zero,List.take_append_drop]
 | x::l,o,arr,h=>by
  rw[List.length_cons]at h
  rw[List.zipIdx_cons,List.foldl_cons,zcD b l (o+1) _ (by rw[Array.size_setIfInBounds];lia)]
  have hl:b+o<arr.toList.length:=by rw[Array.length_toList];lia
  rw[Array.toList_setIfInBounds,← Nat.add_assoc,List.drop_set_of_lt (by lia),List.length_cons,show b+o+1+l.length=b+o+(l.length+1) by lia]
  have e:(arr.toList.set (b+o) x).take (b+o+1)=arr.toList.take (b+o)++[x]:=by
   rw[List.take_succ_eq_append_getElem (by rw[List.length_set];exact hl),List.getElem_set_self,List.take_set_of_le (Nat.le_refl _)]
  rw[e,List.append_assoc (arr.toList.take (b+o)) [x] l]
  rfl
theorem zhX {arr:Array Keyed}{i n j:Nat}(h:i+j<n) (hn:n≤arr.size):(arr.extract i n)[j]?=arr[i+j]?:=by
 rw[Array.getElem?_extract_of_lt (by lia)]
 exact(getElem?_pos arr (i+j) (by lia)).symm
theorem zgw {arr:Array Keyed}{lo n:Nat}(h:Up rk arr lo n) (hn:lo+n≤arr.size):Srt rk (arr.extract lo (lo+n)).toList:=by
 refine List.pairwise_iff_getElem.mpr fun i j hi hj ij=>?_
 have hs:(arr.extract lo (lo+n)).size=n:=by rw[Array.size_extract];lia
 rw[Array.length_toList,hs]at hi hj
 have:=h (lo+i) (lo+j) (by lia) (by lia) (by lia)
 rw[R_at (getElem?_pos arr (lo+i) (by lia)),R_at (getElem?_pos arr (lo+j) (by lia))]at this
 simpa using this
end
section
variable {prog:Program}{w:World}{A:Around}{E:Value→Shared→Prop}{s:Shared}{κ:SortKind}{P:Keyed→Prop}{rk:Keyed→Int}{a₀:Array Keyed}
theorem zma (C:Cmp prog w A s κ P rk) {st:SortSt}{Q:Bool→SortSt→Prop}{i sa na p sb nb q:Nat}(hB:Bs κ P a₀ st) (e1:(pendingOf st)[i]?=some (sa,na,p)) (e2:(pendingOf st)[i+1]?=some (sb,nb,q)) (hs:sb=sa+na) (n1:1≤na) (n2:1≤nb) (hz:sb+nb≤a₀.size)
  (ua:Up rk (arrOf st) sa na) (ub:Up rk (arrOf st) sb nb)
  (h:∀ st',Bs κ P a₀ st'→pendingOf st'=((pendingOf st).setIfInBounds i (sa,na+nb,p)).eraseIdxIfInBounds (i+1)→(∀ k,k<sa∨sb+nb≤k→R rk (arrOf st') k=R rk (arrOf st) k)→Up rk (arrOf st') sa (na+nb)→Q true st'):wpS (model prog w) A E s (mergeAt' i) Q st:=by
 refine wpS_bind (wpS_get ?_)
 dsimp only
 rw[e1,e2]
 dsimp only
 obtain⟨b0,eb0,pb0,rb0⟩:=hB.at (i:=sb) (by lia) rk
 have sz:=hB.size
 have setS:∀ {st1 st2:SortSt}{Q':PUnit→SortSt→Prop},Q' ⟨⟩ st2→wpS (model prog w) A E s (set st2:StateT SortSt Sem PUnit) Q' st1:=fun {st1 st2 Q'} hq=>by
  unfold wpS;rw[StateT.run_set];exact wpAny_pure ⟨rfl,hq⟩
 refine wpS_bind (setS (st2:=SortSt.mk' (kindOf st) (arrOf st) (((pendingOf st).setIfInBounds i (sa,na+nb,p)).eraseIdxIfInBounds (i+1)) (gallopOf st) (failedOf st)) ?_)
 generalize hS1:SortSt.mk' (kindOf st) (arrOf st) (((pendingOf st).setIfInBounds i (sa,na+nb,p)).eraseIdxIfInBounds (i+1)) (gallopOf st) (failedOf st)=st1
 have hB1:Bs κ P a₀ st1:=by rw[← hS1];exact⟨hB.kind,hB.fail,hB.perm,hB.all⟩
 have ea:arrOf st1=arrOf st:=by rw[← hS1]
 have ep:pendingOf st1=((pendingOf st).setIfInBounds i (sa,na+nb,p)).eraseIdxIfInBounds (i+1):=by rw[← hS1]
 have pat:∀ j,j<a₀.size→∃ x,(arrOf st)[j]?=some x∧P x:=fun j hj=>by
  obtain⟨x,ex,px,_⟩:=hB.at hj rk
  exact⟨x,ex,px⟩
 refine wpS_bind (zaf eb0 (wpS_bind (zaT (arr:=arrOf st) C hB1.kind pb0 (fun t ht=>pat (sa+t) (by lia)) ua (by lia) fun k hk1 g1 g2=>?_)))
 dsimp only
 have f1:∀ j,sa≤j→j<sa+k→R rk (arrOf st) j≤rk b0:=fun j j1 j2=>by
  have:=g1 (j-sa) (by lia)
  rw[show sa+(j-sa)=j by lia]at this
  unfold bd at this
  simp only[Bool.false_eq_true,if_false,Bool.not_eq_true',decide_eq_false_iff_not]at this
  lia
 have f2:∀ j,sa+k≤j→j<sb→rk b0≤R rk (arrOf st) j:=fun j j1 j2=>by
  have:=g2 (j-sa) (by lia) (by lia)
  rw[show sa+(j-sa)=j by lia]at this
  unfold bd at this
  simp only[Bool.false_eq_true,if_false,Bool.not_eq_false',decide_eq_true_eq]at this
  lia
 have f0:∀ j,sb≤j→j<sb+nb→rk b0≤R rk (arrOf st) j:=fun j j1 j2=>by rw[← rb0];exact ub _ _ (Nat.le_refl _) j1 j2
 by_cases zk:na-k=0
 ·rw[if_pos (by simpa using zk)]
  refine wpS_pure (h st1 hB1 ep (fun j _=>by rw[ea]) fun x y hx hxy hy=>?_)
  rw[ea]
  by_cases q1:y<sb
  ·exact ua _ _ hx hxy (by lia)
  ·by_cases q2:sb≤x
   ·exact ub _ _ q2 hxy (by lia)
   ·exact Int.le_trans (f1 x hx (by lia)) (f0 y (by lia) (by lia))
 rw[if_neg (by simpa using zk)]
 have ka:sa+k+(na-k)-1=sb-1:=by lia
 rw[ka]
 obtain⟨l0,el0,pl0,rl0⟩:=hB.at (i:=sb-1) (by lia) rk
 refine wpS_bind (zaf el0 (wpS_bind (zaT (arr:=arrOf st) C hB1.kind pl0 (fun t ht=>pat (sb+t) (by lia)) ub (by lia) fun n hn1 c1 c2=>?_)))
 dsimp only
 have f3:∀ j,sb≤j→j<sb+n→R rk (arrOf st) j≤rk l0:=fun j j1 j2=>by
  have:=c1 (j-sb) (by lia)
  rw[show sb+(j-sb)=j by lia]at this
  unfold bd at this
  simp only[if_true,decide_eq_true_eq]at this
  lia
 have f4:∀ j,sb+n≤j→j<sb+nb→rk l0≤R rk (arrOf st) j:=fun j j1 j2=>by
  have:=c2 (j-sb) (by lia) (by lia)
  rw[show sb+(j-sb)=j by lia]at this
  unfold bd at this
  simp only[if_true,decide_eq_false_iff_not]at this
  lia
 have f5:∀ j,sa≤j→j<sb→R rk (arrOf st) j≤rk l0:=fun j j1 j2=>by rw[← rl0];exact ua _ _ j1 (by lia) (by lia)
 by_cases zn:n=0
 ·rw[if_pos (by simpa using zn)]
  refine wpS_pure (h st1 hB1 ep (fun j _=>by rw[ea]) fun x y hx hxy hy=>?_)
  rw[ea]
  by_cases q1:y<sb
  ·exact ua _ _ hx hxy (by lia)
  ·by_cases q2:sb≤x
   ·exact ub _ _ q2 hxy (by lia)
   ·exact Int.le_trans (f5 x hx (by lia)) (f4 y (by lia) (by lia))
 rw[if_neg (by simpa using zn)]
 have sx:((arrOf st).extract (sa+k) sb).size=na-k:=by rw[Array.size_extract];lia
 have sy:((arrOf st).extract sb (sb+n)).size=n:=by rw[Array.size_extract];lia
 have px:∀ x∈((arrOf st).extract (sa+k) sb).toList,P x:=fun x hx=>by
  obtain⟨j,j1,j2,ej⟩:=zcy hx
  obtain⟨y,ey,py⟩:=pat j (by lia)
  rw[ej]at ey;cases ey;exact py
 have py:∀ x∈((arrOf st).extract sb (sb+n)).toList,P x:=fun x hx=>by
  obtain⟨j,j1,j2,ej⟩:=zcy hx
  obtain⟨y,ey,py⟩:=pat j (by lia)
  rw[ej]at ey;cases ey;exact py
 have ox:Srt rk ((arrOf st).extract (sa+k) sb).toList:=by
  have:=zgw (rk:=rk) (arr:=arrOf st) (lo:=sa+k) (n:=na-k) (fun x y hx hxy hy=>ua x y (by lia) hxy (by lia)) (by lia)
  rwa [show sa+k+(na-k)=sb by lia]at this
 have oy:Srt rk ((arrOf st).extract sb (sb+n)).toList:=zgw (fun x y hx hxy hy=>ub x y (by lia) hxy (by lia)) (by lia)
 have first:∀ x,((arrOf st).extract sb (sb+n))[0]?=some x→∀ y∈((arrOf st).extract (sa+k) sb).toList,rk x≤rk y:=fun x ex y hy=>by
  rw[zhX (by lia) (by lia),Nat.add_zero,eb0]at ex
  obtain⟨j,j1,j2,ej⟩:=zcy hy
  have:=f2 j j1 j2
  rw[R_at ej]at this
  cases ex;exact this
 have last:∀ x,((arrOf st).extract (sa+k) sb)[((arrOf st).extract (sa+k) sb).size-1]?=some x→∀ y∈((arrOf st).extract sb (sb+n)).toList,rk y≤rk x:=fun x ex y hy=>by
  rw[sx,zhX (by lia) (by lia),show sa+k+(na-k-1)=sb-1 by lia,el0]at ex
  obtain⟨j,j1,j2,ej⟩:=zcy hy
  have:=f3 j j1 (by lia)
  rw[R_at ej]at this
  cases ex;exact this
 have fin:∀ (m:Array Keyed) (st2:SortSt),Sm st1 st2→m.toList.Perm (((arrOf st).extract (sa+k) sb).toList++((arrOf st).extract sb (sb+n)).toList)→Srt rk m.toList →
   wpS (model prog w) A E s (do
    modify fun s=>setArr s (m.toList.zipIdx.foldl (fun (a:Array Keyed) (x:Keyed × Nat)=>a.setIfInBounds (sa+k+x.2) x.1) (arrOf s))
    let s' ← get
    pure (failedOf s').isNone) Q st2:=by
  intro m st2 S2 pm sm
  have ea2:arrOf st2=arrOf st:=S2.arr.trans ea
  have ml:m.toList.length=na-k+n:=by rw[pm.length_eq,List.length_append,Array.length_toList,Array.length_toList,sx,sy]
  have wl:=zcD (sa+k) m.toList 0 (arrOf st2) (by rw[ea2,sz,ml];lia)
  generalize hW:List.foldl (fun (a:Array Keyed) (x:Keyed × Nat)=>a.setIfInBounds (sa+k+x.2) x.1) (arrOf st2) m.toList.zipIdx=W at wl
  rw[Nat.add_zero,ml,ea2,show sa+k+(na-k+n)=sb+n by lia]at wl
  have cutL:(arrOf st).toList=(arrOf st).toList.take (sa+k)++(((arrOf st).extract (sa+k) sb).toList++((arrOf st).extract sb (sb+n)).toList)++(arrOf st).toList.drop (sb+n):=by
   have d1:=zdq (arrOf st) (sa+k) (na-k)
   rw[show sa+k+(na-k)=sb by lia]at d1
   have d2:=zdq (arrOf st) sb n
   rw[List.append_assoc,List.append_assoc,← d2,← d1,List.take_append_drop]
  have pw:W.Perm (arrOf st):=by
   rw[Array.perm_iff_toList_perm,wl]
   conv=>rhs;rw[cutL]
   exact((pm.append_left _).append_right _)
  have lt0:((arrOf st).toList.take (sa+k)).length=sa+k:=by rw[List.length_take,Array.length_toList,sz];lia
  have wsz:W.size=a₀.size:=by rw[pw.size_eq,sz]
  have out1:∀ j,j<sa+k→R rk W j=R rk (arrOf st) j:=fun j hj=>R_congr (by
   rw[← Array.getElem?_toList,← Array.getElem?_toList,wl,List.append_assoc,List.getElem?_append_left (by rw[lt0];exact hj),List.getElem?_take_of_lt hj])
  have out2:∀ j,sb+n≤j→R rk W j=R rk (arrOf st) j:=fun j hj=>R_congr (by
   rw[← Array.getElem?_toList,← Array.getElem?_toList,wl,List.getElem?_append_right (by rw[List.length_append,lt0,ml];lia),List.length_append,lt0,ml,List.getElem?_drop]
   congr 1;lia)
  have mid:∀ j,sa+k≤j→j<sb+n→∃ x,m[j-(sa+k)]?=some x∧R rk W j=rk x:=fun j j1 j2=>by
   have jl:j-(sa+k)<m.size:=by rw[← Array.length_toList,ml];lia
   refine⟨_,getElem?_pos m _ jl,R_at ?_⟩
   rw[← Array.getElem?_toList,wl,List.append_assoc,List.getElem?_append_right (by rw[lt0];exact j1),lt0,List.getElem?_append_left (by rw[ml];lia),Array.getElem?_toList]
   exact getElem?_pos m _ jl
  have kids:∀ j x,m[j]?=some x→∃ t,((sa+k≤t∧t<sb)∨(sb≤t∧t<sb+n))∧R rk (arrOf st) t=rk x:=fun j x ex=>by
   have hm:x∈m.toList:=by
    obtain⟨hj,e⟩:=Array.getElem?_eq_some_iff.mp ex
    rw[← e];simp
   rcases List.mem_append.mp (pm.mem_iff.mp hm) with u|u
   ·obtain⟨t,t1,t2,et⟩:=zcy u
    exact⟨t,.inl ⟨t1,t2⟩,R_at et⟩
   ·obtain⟨t,t1,t2,et⟩:=zcy u
    exact⟨t,.inr ⟨t1,t2⟩,R_at et⟩
  refine wpS_bind (wpS_modify (wpS_bind (wpS_get (wpS_pure ?_))))
  rw[hW]
  have ff:(failedOf (setArr st2 W)).isNone=true:=by
   show (failedOf st2).isNone=true
   rw[S2.fail,hB1.fail];rfl
  rw[ff]
  refine h _ ⟨S2.kind.trans hB1.kind,S2.fail.trans hB1.fail,pw.trans hB.perm,hB.all⟩ (S2.pend.trans ep) (fun j hj=>?_) fun x y hx hxy hy=>?_
  ·rcases hj with hj|hj
   ·exact out1 j (by lia)
   ·exact out2 j (by lia)
  ·show R rk W x≤R rk W y
   by_cases x1:x<sa+k
   ·rw[out1 x x1]
    by_cases y1:y<sa+k
    ·rw[out1 y y1];exact ua _ _ hx hxy (by lia)
    ·by_cases y2:y<sb+n
     ·obtain⟨v,ev,rv⟩:=mid y (by lia) y2
      obtain⟨t,ht,rt⟩:=kids _ v ev
      rw[rv,← rt]
      rcases ht with ⟨t1,t2⟩|⟨t1,t2⟩
      ·exact ua _ _ hx (by lia) (by lia)
      ·exact Int.le_trans (f1 x hx x1) (f0 t t1 (by lia))
     ·rw[out2 y (by lia)]
      exact Int.le_trans (f1 x hx x1) (f0 y (by lia) (by lia))
   ·by_cases x2:x<sb+n
    ·obtain⟨u,eu,ru⟩:=mid x (by lia) x2
     rw[ru]
     by_cases y2:y<sb+n
     ·obtain⟨v,ev,rv⟩:=mid y (by lia) y2
      rw[rv]
      have:=zbw sm (base:=0) (n:=m.size) (by lia) (x-(sa+k)) (y-(sa+k)) (Nat.zero_le _) (by lia) (by
       have:=(Array.getElem?_eq_some_iff.mp ev).1
       lia)
      rwa [R_at eu,R_at ev]at this
     ·rw[out2 y (by lia)]
      obtain⟨t,ht,rt⟩:=kids _ u eu
      rw[← rt]
      rcases ht with ⟨t1,t2⟩|⟨t1,t2⟩
      ·exact Int.le_trans (f5 t (by lia) t2) (f4 y (by lia) (by lia))
      ·exact ub _ _ t1 (by lia) (by lia)
    ·rw[out2 x (by lia),out2 y (by lia)]
     exact ub _ _ (by lia) hxy (by lia)
 split
 ·exact wpS_bind (zl1 C hB1.kind px py ox oy (by rw[sx];lia) (by rw[sy];lia) first last fun m st2 S2 pm sm=>fin m st2 S2 pm sm)
 ·exact wpS_bind (zl6 C hB1.kind px py ox oy (by rw[sx];lia) (by rw[sy];lia) first last fun m st2 S2 pm sm=>fin m st2 S2 pm sm)
end
abbrev Run:=Nat × Nat × Nat
def Runs:List Run→Nat→Nat→Prop
 | [],u,v=>u=v
 | x::r,u,v=>x.1=u∧1≤x.2.1∧Runs r (u+x.2.1) v
theorem Runs.cut:∀ {l r:List Run}{u v:Nat},Runs (l++r) u v→∃ m,Runs l u m∧Runs r m v
 | [],_,u,_,h=>⟨u,rfl,h⟩
 | x::l,r,u,v,⟨h1,h2,h3⟩=>by
  obtain⟨m,a,b⟩:=Runs.cut (l:=l) (r:=r) h3
  exact⟨m,⟨h1,h2,a⟩,b⟩
theorem Runs.app:∀ {l r:List Run}{u m v:Nat},Runs l u m→Runs r m v→Runs (l++r) u v
 | [],_,_,_,_,h,g=>by cases h;exact g
 | x::l,r,u,m,v,⟨h1,h2,h3⟩,g=>⟨h1,h2,Runs.app h3 g⟩
theorem Runs.len:∀ {l:List Run}{u v:Nat},Runs l u v→u+l.length≤v
 | [],_,_,h=>by cases h;exact Nat.le_refl _
 | x::l,u,v,⟨h1,h2,h3⟩=>by
  have:=Runs.len h3
  rw[List.length_cons];lia
theorem Runs.mem:∀ {l:List Run}{u v:Nat}{x:Run},Runs l u v→x∈l→u≤x.1∧1≤x.2.1∧x.1+x.2.1≤v
 | y::l,u,v,x,⟨h1,h2,h3⟩,hx=>by
  rcases List.mem_cons.mp hx with rfl|hx2
  ·have:=Runs.len h3;lia
  ·have:=Runs.mem h3 hx2;lia
theorem Runs.modify {f:Run→Run}(hf:∀ x,(f x).1=x.1∧(f x).2.1=x.2.1):∀ {l:List Run}{i u v:Nat},Runs l u v→Runs (l.modify i f) u v
 | [],i,_,_,h=>by cases i<;>exact h
 | x::l,0,u,v,⟨h1,h2,h3⟩=>by
  rw[List.modify_zero_cons]
  refine⟨(hf x).1.trans h1,by rw[(hf x).2];exact h2,by rw[(hf x).2];exact h3⟩
 | x::l,i+1,u,v,⟨h1,h2,h3⟩=>by
  rw[List.modify_succ_cons]
  exact⟨h1,h2,Runs.modify hf h3⟩
theorem zbQ {f:Run→Run}(hf:∀ x,(f x).1=x.1∧(f x).2.1=x.2.1):∀ {l:List Run}{i:Nat}{x:Run},x∈l.modify i f→∃ y∈l,x.1=y.1∧x.2.1=y.2.1
 | [],i,x,h=>by cases i<;>simp at h
 | y::l,0,x,h=>by
  rw[List.modify_zero_cons]at h
  rcases List.mem_cons.mp h with rfl|h2
  ·exact⟨y,List.mem_cons_self,(hf y).1,(hf y).2⟩
  ·exact⟨x,List.mem_cons_of_mem _ h2,rfl,rfl⟩
 | y::l,i+1,x,h=>by
  rw[List.modify_succ_cons]at h
  rcases List.mem_cons.mp h with rfl|h2
  ·exact⟨x,List.mem_cons_self,rfl,rfl⟩
  ·obtain⟨z,hz,e⟩:=zbQ hf h2
   exact⟨z,List.mem_cons_of_mem _ hz,e⟩
section
variable {prog:Program}{w:World}{A:Around}{E:Value→Shared→Prop}{s:Shared}{κ:SortKind}{P:Keyed→Prop}{rk:Keyed→Int}{a₀:Array Keyed}
structure Ji (κ:SortKind) (P:Keyed→Prop) (rk:Keyed→Int) (a₀:Array Keyed) (lo:Nat) (st:SortSt):Prop where
 b:Bs κ P a₀ st
 runs:Runs (pendingOf st).toList 0 lo
 up:∀ x∈(pendingOf st).toList,Up rk (arrOf st) x.1 x.2.1
theorem zkr (C:Cmp prog w A s κ P rk) {st:SortSt}{lo i:Nat}{Q:Bool→SortSt→Prop}(J:Ji κ P rk a₀ lo st) (hlo:lo≤a₀.size) (hi:i+1<(pendingOf st).size)
  (h:∀ st',Ji κ P rk a₀ lo st'→(∀ k,lo≤k→R rk (arrOf st') k=R rk (arrOf st) k)→(pendingOf st').size+1=(pendingOf st).size→Q true st'):wpS (model prog w) A E s (mergeAt' i) Q st:=by
 obtain⟨x,ex⟩:∃ x,(pendingOf st)[i]?=some x:=⟨_,getElem?_pos _ i (by lia)⟩
 obtain⟨y,ey⟩:∃ y,(pendingOf st)[i+1]?=some y:=⟨_,getElem?_pos _ (i+1) hi⟩
 have ex':(pendingOf st).toList[i]?=some x:=by rw[Array.getElem?_toList];exact ex
 have ey':(pendingOf st).toList[i+1]?=some y:=by rw[Array.getElem?_toList];exact ey
 obtain⟨hxl,hx⟩:=List.getElem?_eq_some_iff.mp ex'
 obtain⟨hyl,hy⟩:=List.getElem?_eq_some_iff.mp ey'
 have sp:(pendingOf st).toList=(pendingOf st).toList.take i++x::y::(pendingOf st).toList.drop (i+1+1):=by
  rw[← hx,← hy,← List.drop_eq_getElem_cons hyl,← List.drop_eq_getElem_cons hxl,List.take_append_drop]
 have rr:=J.runs
 have up:=J.up
 generalize hpre:(pendingOf st).toList.take i=pre at sp
 generalize hpost:(pendingOf st).toList.drop (i+1+1)=post at sp
 have pl:pre.length=i:=by rw[← hpre,List.length_take];lia
 rw[sp]at rr up
 obtain⟨m,r1,r2⟩:=rr.cut
 obtain⟨s1,n1,s2,n2,r3⟩:=r2
 obtain⟨sa,na,p⟩:=x
 obtain⟨sb,nb,q⟩:=y
 simp only at s1 n1 s2 n2 r3
 have hl:=r3.len
 refine zma C J.b ex ey (by lia) n1 n2 (by lia) (up (sa,na,p) (by simp)) (up (sb,nb,q) (by simp)) fun st' B' ep low u'=>?_
 have el:(pendingOf st').toList=pre++(sa,na+nb,p)::post:=by
  rw[ep,Array.toList_eraseIdxIfInBounds,Array.toList_setIfInBounds,sp,List.set_append_right _ _ (by lia),List.eraseIdx_append_of_length_le (by lia),pl,Nat.sub_self,Nat.add_sub_cancel_left]
  rfl
 refine h st' ⟨B',?_,?_⟩ (fun k hk=>low k (.inr (by lia))) ?_
 ·rw[el]
  refine r1.app ⟨s1,by show 1≤na+nb;lia,?_⟩
  show Runs post (m+(na+nb)) lo
  rw[← Nat.add_assoc];exact r3
 ·rw[el]
  intro z hz
  rcases List.mem_append.mp hz with hz|hz
  ·have b1:=r1.mem hz
   intro c d hc hcd hd
   rw[low c (.inl (by lia)),low d (.inl (by lia))]
   exact up z (List.mem_append_left _ hz) c d hc hcd hd
  ·rcases List.mem_cons.mp hz with rfl|hz
   ·exact u'
   ·have b1:=r3.mem hz
    intro c d hc hcd hd
    rw[low c (.inr (by lia)),low d (.inr (by lia))]
    exact up z (List.mem_append_right _ (by simp[hz])) c d hc hcd hd
 ·rw[← Array.length_toList,← Array.length_toList,el,sp]
  simp only[List.length_append,List.length_cons];lia
theorem zjV (C:Cmp prog w A s κ P rk) {st:SortSt}{Q:Unit→SortSt→Prop}(hB:Bs κ P a₀ st) (hp:pendingOf st = #[])
  (h:∀ st',Bs κ P a₀ st'→Up rk (arrOf st') 0 a₀.size→Q () st'):wpS (model prog w) A E s sortRuns' Q st:=by
 rw[sortRuns'_eq]
 refine wpS_bind (wpS_get ?_)
 dsimp only
 rw[hB.size]
 generalize minRun' a₀.size a₀.size 0=mr
 refine wpS_bind (wpS_mono (wpS_forRange (I:=fun i c st1=>∃ lo,c=(none,lo)∧i≤lo∧lo≤a₀.size∧Ji κ P rk a₀ lo st1)
  (Q:=fun c st1=>∃ lo,c=(none,lo)∧lo=a₀.size∧Ji κ P rk a₀ lo st1) ?step ?fin ?init) ?post)
 case init=>exact⟨0,rfl,Nat.le_refl _,Nat.zero_le _,hB,by rw[hp];rfl,fun x hx=>by rw[hp]at hx;simp at hx⟩
 case fin =>
  rintro c st1 ⟨lo,rfl,h1,h2,J⟩
  exact⟨lo,rfl,by lia,J⟩
 case step =>
  rintro i c st1 _ hi ⟨lo,rfl,h1,h2,J⟩
  dsimp only
  by_cases z:lo≥a₀.size
  ·rw[if_pos z]
   exact wpS_pure ⟨lo,rfl,by lia,J⟩
  rw[if_neg z]
  refine wpS_bind (zi7 C J.b (by lia) (by lia) fun st2 n K2 n1 n2 u2=>?_)
  dsimp only
  have Jk:∀ st3,Keep κ P rk a₀ lo st1 st3→Ji κ P rk a₀ lo st3:=fun st3 K3=>⟨K3.b,by rw[K3.pend];exact J.runs,fun x hx=>by
   rw[K3.pend]at hx
   have:=J.runs.mem hx
   intro c d hc hcd hd
   rw[K3.low c (by lia),K3.low d (by lia)]
   exact J.up x hx c d hc hcd hd⟩
  by_cases zm:n<mr
  ·rw[if_pos zm]
   refine wpS_bind (zbO ?_)
   refine wpS_bind (zlH C K2.b n1 (by lia) (by lia) u2 fun st3 K3 u3=>?_)
   have n1:1≤min (a₀.size-lo) mr:=by lia
   have n2:min (a₀.size-lo) mr≤a₀.size-lo:=by lia
   have J3:=Jk st3 (K2.trans K3)
   generalize min (a₀.size-lo) mr=n at n1 n2 u3 ⊢
   rw[if_neg (show ¬(!true)=true by decide)]
   refine wpS_bind (wpS_get ?_)
   have last:∀ st4,Ji κ P rk a₀ lo st4→Up rk (arrOf st4) lo n→wpS (model prog w) A E s (do
     modify fun st5=>setPending st5 ((pendingOf st5).push (lo,n,0))
     pure (ForInStep.yield ((none:Option Unit),lo+n))) (fun r st'=>match r with|.done c'=>∃ lo,c'=(none,lo)∧lo=a₀.size∧Ji κ P rk a₀ lo st'|.yield c'=>∃ lo,c'=(none,lo)∧i+1≤lo∧lo≤a₀.size∧Ji κ P rk a₀ lo st') st4:=by
    intro st4 J4 u4
    refine wpS_bind (wpS_modify (wpS_pure ⟨lo+n,rfl,by lia,by lia,⟨J4.b.kind,J4.b.fail,J4.b.perm,J4.b.all⟩,?_,?_⟩))
    ·show Runs ((pendingOf st4).push (lo,n,0)).toList 0 (lo+n)
     rw[Array.toList_push]
     exact J4.runs.app ⟨rfl,n1,rfl⟩
    ·show ∀ x∈((pendingOf st4).push (lo,n,0)).toList,Up rk (arrOf st4) x.1 x.2.1
     rw[Array.toList_push]
     intro x hx
     rcases List.mem_append.mp hx with hx1|hx1
     ·exact J4.up x hx1
     ·rw[List.mem_singleton.mp hx1];exact u4
   split
   ·rename_i s1 m1 w1 hb
    refine wpS_bind (wpS_mono (wpS_forRange (I:=fun j c st4=>c=(none,())∧Ji κ P rk a₀ lo st4∧Up rk (arrOf st4) lo n) (Q:=fun c st4=>c=(none,())∧Ji κ P rk a₀ lo st4∧Up rk (arrOf st4) lo n) ?_ (fun c st4 hh=>hh) ⟨rfl,J3,u3⟩) ?_)
    ·rintro j c st4 _ hj ⟨rfl,J4,u4⟩
     refine wpS_bind (wpS_get ?_)
     split
     ·rename_i a1 a2 older ho
      split
      ·exact wpS_pure ⟨rfl,J4,u4⟩
      ·have sz:(pendingOf st4).size > 1:=by
        by_cases q:(pendingOf st4).size > 1
        ·exact q
        ·rw[if_neg q]at ho;cases ho
       refine wpS_bind (zkr C J4 h2 (by lia) fun st5 J5 low5 _=>?_)
       rw[if_neg (show ¬(!true)=true by decide)]
       exact wpS_pure ⟨rfl,J5,fun c d hc hcd hd=>by rw[low5 c hc,low5 d (by lia)];exact u4 c d hc hcd hd⟩
     ·exact wpS_pure ⟨rfl,J4,u4⟩
    ·rintro c st4 ⟨rfl,J4,u4⟩
     dsimp only
     refine wpS_bind (wpS_modify ?_)
     refine last _ ⟨⟨J4.b.kind,J4.b.fail,J4.b.perm,J4.b.all⟩,?_,?_⟩ u4
     ·show Runs ((pendingOf st4).modify _ _).toList 0 lo
      rw[Array.toList_modify]
      refine Runs.modify ?_ J4.runs
      exact fun x=>⟨rfl,rfl⟩
     ·show ∀ x∈((pendingOf st4).modify _ _).toList,Up rk (arrOf st4) x.1 x.2.1
      rw[Array.toList_modify]
      intro x hx
      obtain⟨y,hy,e1,e2⟩:=zbQ (by exact fun x=>⟨rfl,rfl⟩) hx
      rw[e1,e2];exact J4.up y hy
   ·exact last _ J3 u3
  ·rw[if_neg zm]
   have J3:=Jk st2 K2
   have u3:=u2
   generalize st2=st3 at J3 u3 ⊢
   refine wpS_bind (wpS_get ?_)
   have last:∀ st4,Ji κ P rk a₀ lo st4→Up rk (arrOf st4) lo n→wpS (model prog w) A E s (do
     modify fun st5=>setPending st5 ((pendingOf st5).push (lo,n,0))
     pure (ForInStep.yield ((none:Option Unit),lo+n))) (fun r st'=>match r with|.done c'=>∃ lo,c'=(none,lo)∧lo=a₀.size∧Ji κ P rk a₀ lo st'|.yield c'=>∃ lo,c'=(none,lo)∧i+1≤lo∧lo≤a₀.size∧Ji κ P rk a₀ lo st') st4:=by
    intro st4 J4 u4
    refine wpS_bind (wpS_modify (wpS_pure ⟨lo+n,rfl,by lia,by lia,⟨J4.b.kind,J4.b.fail,J4.b.perm,J4.b.all⟩,?_,?_⟩))
    ·show Runs ((pendingOf st4).push (lo,n,0)).toList 0 (lo+n)
     rw[Array.toList_push]
     exact J4.runs.app ⟨rfl,n1,rfl⟩
    ·show ∀ x∈((pendingOf st4).push (lo,n,0)).toList,Up rk (arrOf st4) x.1 x.2.1
     rw[Array.toList_push]
     intro x hx
     rcases List.mem_append.mp hx with hx1|hx1
     ·exact J4.up x hx1
     ·rw[List.mem_singleton.mp hx1];exact u4
   split
   ·rename_i s1 m1 w1 hb
    refine wpS_bind (wpS_mono (wpS_forRange (I:=fun j c st4=>c=(none,())∧Ji κ P rk a₀ lo st4∧Up rk (arrOf st4) lo n) (Q:=fun c st4=>c=(none,())∧Ji κ P rk a₀ lo st4∧Up rk (arrOf st4) lo n) ?_ (fun c st4 hh=>hh) ⟨rfl,J3,u3⟩) ?_)
    ·rintro j c st4 _ hj ⟨rfl,J4,u4⟩
     refine wpS_bind (wpS_get ?_)
     split
     ·rename_i a1 a2 older ho
      split
      ·exact wpS_pure ⟨rfl,J4,u4⟩
      ·have sz:(pendingOf st4).size > 1:=by
        by_cases q:(pendingOf st4).size > 1
        ·exact q
        ·rw[if_neg q]at ho;cases ho
       refine wpS_bind (zkr C J4 h2 (by lia) fun st5 J5 low5 _=>?_)
       rw[if_neg (show ¬(!true)=true by decide)]
       exact wpS_pure ⟨rfl,J5,fun c d hc hcd hd=>by rw[low5 c hc,low5 d (by lia)];exact u4 c d hc hcd hd⟩
     ·exact wpS_pure ⟨rfl,J4,u4⟩
    ·rintro c st4 ⟨rfl,J4,u4⟩
     dsimp only
     refine wpS_bind (wpS_modify ?_)
     refine last _ ⟨⟨J4.b.kind,J4.b.fail,J4.b.perm,J4.b.all⟩,?_,?_⟩ u4
     ·show Runs ((pendingOf st4).modify _ _).toList 0 lo
      rw[Array.toList_modify]
      refine Runs.modify ?_ J4.runs
      exact fun x=>⟨rfl,rfl⟩
     ·show ∀ x∈((pendingOf st4).modify _ _).toList,Up rk (arrOf st4) x.1 x.2.1
      rw[Array.toList_modify]
      intro x hx
      obtain⟨y,hy,e1,e2⟩:=zbQ (by exact fun x=>⟨rfl,rfl⟩) hx
      rw[e1,e2];exact J4.up y hy
   ·exact last _ J3 u3
 case post =>
  rintro c st1 ⟨lo,rfl,rfl,J⟩
  dsimp only
  refine wpS_bind (wpS_mono (wpS_forRange (I:=fun i c st2=>c=(none,())∧Ji κ P rk a₀ a₀.size st2∧(pendingOf st2).size≤a₀.size-i+1)
   (Q:=fun c st2=>c=(none,())∧Ji κ P rk a₀ a₀.size st2∧(pendingOf st2).size≤1) ?_ ?_ ⟨rfl,J,?_⟩) ?_)
  ·rintro i c st2 _ hi ⟨rfl,J2,sz⟩
   refine wpS_bind (wpS_get ?_)
   by_cases z:(pendingOf st2).size≤1
   ·rw[if_pos z]
    exact wpS_pure ⟨rfl,J2,z⟩
   rw[if_neg z]
   have go:∀ t,t+1<(pendingOf st2).size→wpS (model prog w) A E s (mergeAt' t) (fun b st3=>b=true∧Ji κ P rk a₀ a₀.size st3∧(pendingOf st3).size≤a₀.size-(i+1)+1) st2:=fun t ht =>
    zkr C J2 (Nat.le_refl _) ht fun st3 J3 _ sz3=>⟨rfl,J3,by lia⟩
   refine wpS_bind (wpS_mono (go _ ?_) ?_)
   ·repeat' split
    all_goals lia
   ·rintro b st3 ⟨rfl,J3,sz3⟩
    exact wpS_pure ⟨rfl,J3,sz3⟩
  ·rintro c st2 ⟨rfl,J2,sz⟩
   exact⟨rfl,J2,by lia⟩
  ·have:=J.runs.len
   rw[Array.length_toList]at this
   lia
  ·rintro c st2 ⟨rfl,J2,sz⟩
   refine wpS_pure (h st2 J2.b ?_)
   have rr:=J2.runs
   have up:=J2.up
   have ln:(pendingOf st2).toList.length≤1:=by rw[Array.length_toList];exact sz
   match hq:(pendingOf st2).toList,ln with
   | [],_ =>
    rw[hq]at rr
    intro c d hc hcd hd
    have:0=a₀.size:=rr
    lia
   | [x],_ =>
    rw[hq]at rr up
    obtain⟨r1,r2,r3⟩:=rr
    have:0+x.2.1=a₀.size:=r3
    have:=up x (by simp)
    rw[r1,show x.2.1=a₀.size by lia]at this
    exact this
end
section
variable {prog:Program}{w:World}{A:Around}{E:Value→Shared→Prop}{s:Shared}
theorem zgE {a:Addr}{vs:List Value}{n:Nat}{Pp:Fin→Shared→Prop}(ho:s.heap.get? a=some (seqObj "list" vs.toArray n)) (hz:vs.length≤10000) (κ:SortKind) (rv:Value→Int)
  (hkind:∀ h',(∀ c o,c≠a→s.heap.get? c=some o→h'.get? c=some o)→2≤vs.length→∀ {Q:SortKind→Shared→Prop}{E:Value→Shared→Prop},Q κ { s with heap:=h' }→wpAny (model prog w) A (keyKind' vs.toArray) Q E { s with heap:=h' })
  (hcmp:∀ h',(∀ c o,c≠a→s.heap.get? c=some o→h'.get? c=some o)→Cmp prog w A { s with heap:=h' } κ (fun p=>p.1∈vs) (fun p=>rv p.1))
  (h:∀ out:List Value,out.Perm vs→out.Pairwise (fun x y=>rv x≤rv y)→Pp (.done (.ret .none)) { s with heap:=sortedHeap s.heap a vs out.toArray }) :
  wpAny (model prog w) A (Builtin.«list.sort» ⟨[.ref a],[]⟩) Pp E s:=by
 have al:a<s.heap.objs.size:=Heap.lt_size ho
 have ln:vs.toArray.size=vs.length:=List.size_toArray ..
 have sl:vs.length≤sizeLine:=Nat.le_trans hz (by decide)
 rw[list_sort_plain]
 refine wpAny_bind (listItems_at ho rfl (wpAny_bind (listUpdate_at ho rfl ?_ (hsz:=by rw[ln];exact sl))))
 obtain⟨ep,e1⟩:∃ ep,(s.heap.update a (Obj.mapSeq fun _=>#[])).get? a=some (seqObj "list" #[] ep):=⟨_,get?_update_seq ho fun _=>#[]⟩
 refine wpAny_bind (seqEpoch_at e1 rfl (wpAny_bind (wpAny_newTuple (wpAny_bind (wpAny_newList (wpAny_holding ?_))))))
 have e6:(((s.heap.update a (Obj.mapSeq fun _=>#[])).push (seqObj "tuple" vs.toArray 0)).push (seqObj "list" #[] 0)).get? a=some (seqObj "list" #[] ep) :=
  Heap.get?_push_of_some _ (Heap.get?_push_of_some _ e1)
 have old:∀ c o,c≠a→s.heap.get? c=some o→(((s.heap.update a (Obj.mapSeq fun _=>#[])).push (seqObj "tuple" vs.toArray 0)).push (seqObj "list" #[] 0)).get? c=some o:=fun c o nc q =>
  Heap.get?_push_of_some _ (Heap.get?_push_of_some _ ((Heap.get?_update_other _ _ (Ne.symm nc)).trans q))
 show wpAny (model prog w) A _ Pp E { s with heap:=((s.heap.update a (Obj.mapSeq fun _=>#[])).push (seqObj "tuple" vs.toArray 0)).push (seqObj "list" #[] 0) }
 have lo:∀ out:List Value,out.Perm vs→out.toArray.size≤sizeLine+1:=fun out p1=>by rw[List.size_toArray,p1.length_eq];lia
 generalize hH:((s.heap.update a (Obj.mapSeq fun _=>#[])).push (seqObj "tuple" vs.toArray 0)).push (seqObj "list" #[] 0)=h6 at e6 old ⊢
 have back:∀ out:Array Value,sortedHeap s.heap a vs out=h6.update a (Obj.mapSeq fun _=>out):=fun out=>by rw[← hH];rfl
 by_cases few:vs.toArray.size<2
 ·rw[if_pos few,if_pos few]
  refine wpAny_bind (wpAny_pure (?_:wpAny _ _ _ _ _ _))
  refine wpAny_bind (wpAny_pure ?_)
  have em:(vs.toArray.zip vs.toArray).map (·.2)=vs.toArray:=by
   apply Array.ext'
   rw[Array.toList_map,Array.toList_zip]
   exact List.map_snd_zip (Nat.le_refl _)
  have one:vs.Pairwise (fun x y=>rv x≤rv y):=by
   match vs,few with
   | [],_=>exact List.Pairwise.nil
   | [x],_=>exact List.pairwise_singleton _ _
   | _::_::_,z=>simp at z;lia
  have k:=h vs (List.Perm.refl _) one
  rw[back]at k
  dsimp only
  rw[em]
  refine wpAny_bind (seqEpoch_at e6 rfl (wpAny_bind (listUpdate_at e6 rfl ?_ (hsz:=Nat.zero_le _) (hsz2:=lo vs (List.Perm.refl _)))))
  simp only[if_false,bne_self_eq_false,Bool.false_eq_true]
  exact wpAny_pure k
 rw[if_neg few,if_neg few]
 refine wpAny_bind (hkind h6 old (by lia) ?_)
 have C:=hcmp h6 old
 refine wpAny_bind (wpAny_mono (zjV C (a₀:=vs.toArray.zip vs.toArray) (st:=SortSt.mk' κ (vs.toArray.zip vs.toArray) #[] 7 none)
  (Q:=fun _ st'=>Bs κ (fun p=>p.1∈vs) (vs.toArray.zip vs.toArray) st'∧Up (fun p=>rv p.1) (arrOf st') 0 (vs.toArray.zip vs.toArray).size) ⟨rfl,rfl,Array.Perm.refl _,fun p hp=>?_⟩ rfl fun st' b u=>⟨b,u⟩) ?_ fun _ _ e=>e)
 ·have:(vs.toArray.zip vs.toArray).toList=vs.zip vs:=by simp
  rw[this]at hp
  exact(List.of_mem_zip hp).1
 rintro⟨⟨⟩,st'⟩ s' ⟨rfl,b,u⟩
 have pl:(arrOf st').toList.Perm (vs.zip vs):=by
  have:=Array.perm_iff_toList_perm.mp b.perm
  simpa using this
 have same:∀ p∈(arrOf st').toList,p.1=p.2:=fun p hp=>by
  have h1:=pl.mem_iff.mp hp
  obtain⟨i,hi⟩:=List.mem_iff_getElem?.mp h1
  rw[List.getElem?_zip_eq_some]at hi
  have:=hi.1.symm.trans hi.2
  exact Option.some.inj this
 have so:Srt (fun p=>rv p.1) (arrOf st').toList:=by
  have:=zgw (arr:=arrOf st') (lo:=0) (n:=(arrOf st').size) (by rw[b.size];exact u) (by lia)
  rw[Nat.zero_add,zcx,← Array.length_toList,List.take_length]at this
  exact this
 have pm:((arrOf st').toList.map (·.2)).Perm vs:=by
  have:=pl.map (·.2)
  rwa [List.map_snd_zip (Nat.le_refl _)]at this
 have em:(arrOf st').map (·.2)=((arrOf st').toList.map (·.2)).toArray:=by
  apply Array.ext';simp
 have k:=h _ pm (by
  refine List.pairwise_map.mpr (List.Pairwise.imp_of_mem ?_ so)
  intro x y hx hy le
  rw[← same x hx,← same y hy];exact le)
 rw[back]at k
 dsimp only
 rw[em,b.fail]
 refine wpAny_bind (seqEpoch_at e6 rfl (wpAny_bind (listUpdate_at e6 rfl ?_ (hsz:=Nat.zero_le _) (hsz2:=lo _ pm))))
 simp only[if_false,bne_self_eq_false,Bool.false_eq_true]
 exact wpAny_pure k
end
end Ts
namespace Own
open PySem PySem.Spec PyProof.Rows
abbrev IsZipN (h:Heap) (z TI TO t:Addr) (c:Bool):Prop:=h.get? z=some { cls:=.type "zip",dict:=none,data:=.fields #[rawInt t,.bool c,.bool false,.ref TI,.ref TO],slots:=#[] }
section
variable {prog:Program}{w:World}{A:Around}{E:Value→Shared→Prop}{s:Shared}{z TI TO i1 i2:Addr}{f1 f2:List Addr}{n1 n2 k:Nat}{P1 P2:Nat→Value→Prop}{S1 S2:Nat→Heap→Prop}{a b:Value}
theorem zcU {α:Type}{t:Addr}{c:Bool}{o:Obj}{f:Bool→Sem α}{Q:α→Shared→Prop}(hz:IsZipN s.heap z TI TO t c) (ho:s.heap.get? t=some o) (h:∀ h',IsZipN h' z TI TO t true→Heap.SameBut z s.heap h'→wpAny (model prog w) A (f false) Q E { s with heap:=h' }) :
  wpAny (model prog w) A (Builtin.SmallTypes.ownedTupleIsFree (.ref z) >>= f) Q E s:=by
 refine wpAny_bind ?_;unfold Builtin.SmallTypes.ownedTupleIsFree
 refine rf 0 hz rfl rfl ?_
 show wpAny _ _ (loadIfAlive ((t:Int).toNat) >>= _) _ _ _
 rw[Int.toNat_natCast]
 refine wpAny_bind (PySem.W.kdx_alive ho ?_)
 simp only[Bool.false_eq_true,if_false,Option.isNone_some]
 refine rf (x:=.bool c) 1 hz rfl rfl ?_
 have eT:(Value.bool true != Value.bool true)=false:=rfl
 have eF:(Value.bool false != Value.bool true)=true:=rfl
 cases c with
 | true =>
  rw[eT]
  exact wpAny_pure (h s.heap hz (Heap.SameBut.refl _ _))
 | false =>
  rw[eF]
  exact wpAny_bind (wpAny_setField_rec hz (show 1<5 by decide) fun h' z' sb=>wpAny_pure (h h' z' sb))
theorem zf8 {t:Addr}{c:Bool}{o:Obj}(S:Sep z TI TO i1 i2 f1 f2) (D1:Draws prog w A i1 f1 n1 P1 S1) (D2:Draws prog w A i2 f2 n2 P2 S2) {Q:Value→Shared→Prop}
  (hz:IsZipN s.heap z TI TO t c) (ho:s.heap.get? t=some o) (hI:IsPair s.heap TI (.ref i1) (.ref i2)) (d1:S1 k s.heap) (d2:S2 k s.heap) (l1:k<n1) (l2:k<n2)
  (h:∀ x y h' tk,P1 k x→P2 k y→IsZipN h' z TI TO t true→S1 (k+1) h'→S2 (k+1) h'→IsPair h' s.heap.objs.size x y →
   (∀ c o,c∉[z,TO,i1,i2]→s.heap.get? c=some o→h'.get? c=some o)→Q (.ref s.heap.objs.size) { s with heap:=h',toks:=tk }) :
  wpAny (model prog w) A (Builtin.«zip.__next__» ⟨[.ref z],[]⟩) (fun r s'=>∃ v,r=.done (.ret v)∧Q v s') E s:=by
 have nd:=S.all
 simp only[List.nodup_cons,List.mem_cons,List.not_mem_nil,or_false,not_or]at nd
 obtain⟨⟨zI,zO,z1,z2⟩,⟨IO,I1,I2⟩,⟨O1,O2⟩,n12,_⟩:=nd
 refine rf 2 hz rfl rfl (rf 3 hz rfl rfl (wpAny_bind (wpAny_seqItems hI rfl (zcU hz ho fun ha za sa=>?_))))
 rw[if_neg Bool.false_ne_true]
 refine wpAny_bind ?_
 simp only[List.forIn_toArray,List.forIn_cons,List.forIn_nil]
 refine wpAny_bind (wpAny_bind (wpAny_holding (wpAny_bind (D1.item k _ _ _ l1 (D1.frame _ _ _ d1 fun c hc o e=>(sa.2 c fun q=>S.z1 (q ▸ hc)).trans e) fun x hb tb px db sb=>wpAny_pure (wpAny_pure ?_)))))
 have st2:S2 k hb:=D2.frame _ _ _ d2 fun c hm o e=>(sb.2 c fun q=>S.o2 (q ▸ hm)).trans ((sa.2 c fun q=>S.z2 (q ▸ hm)).trans e)
 refine wpAny_bind (wpAny_bind (wpAny_holding (wpAny_bind (D2.item k _ _ _ l2 st2 fun y hd td py dd sd=>wpAny_pure (wpAny_pure (wpAny_pure ?_))))))
 refine wpAny_bind (wpAny_newTuple (wpAny_pure ⟨_,rfl,?_⟩) (hsz:=by show 2≤sizeLine;decide))
 have sz:hd.objs.size=s.heap.objs.size:=by rw[sd.1,sb.1,sa.1]
 show Q (.ref hd.objs.size) _
 rw[sz]
 have zd:IsZipN hd z TI TO t true:=(sd.2 z z2).trans ((sb.2 z z1).trans za)
 have new:(hd.push { cls:=.type "tuple",data:=.seq #[x,y] }).get? s.heap.objs.size=some { cls:=.type "tuple",data:=.seq #[x,y] }:=by rw[← sz];exact Heap.get?_push_size _ rfl
 refine h x y _ td px py (Heap.get?_push_of_some _ zd) ?_ ?_ new fun c o hc e=>?_
 ·exact D1.frame _ _ _ db fun c hm o e=>Heap.get?_push_of_some _ ((sd.2 c fun q=>S.o1 (q ▸ hm)).trans e)
 ·exact D2.frame _ _ _ dd fun c hm o e=>Heap.get?_push_of_some _ e
 ·simp only[List.mem_cons,List.not_mem_nil,or_false,not_or]at hc
  exact Heap.get?_push_of_some _ ((sd.2 c hc.2.2.2).trans ((sb.2 c hc.2.2.1).trans ((sa.2 c hc.1).trans e)))
theorem zdu {t:Addr}{c:Bool}{o:Obj}(S:Sep z TI TO i1 i2 f1 f2) (D1:Draws prog w A i1 f1 n1 P1 S1) {Q:Fin→Shared→Prop}(hz:IsZipN s.heap z TI TO t c) (ho:s.heap.get? t=some o) (hI:IsPair s.heap TI (.ref i1) (.ref i2)) (d1:S1 n1 s.heap)
  (h:∀ h' x,(∀ c o,c∉[z,TO,i1,i2]→s.heap.get? c=some o→h'.get? c=some o)→(∃ o,h'.get? x=some o∧o.cls=.type "StopIteration")→E (.ref x) { s with heap:=h' }):wpAny (model prog w) A (Builtin.«zip.__next__» ⟨[.ref z],[]⟩) Q E s:=by
 refine rf 2 hz rfl rfl (rf 3 hz rfl rfl (wpAny_bind (wpAny_seqItems hI rfl (zcU hz ho fun ha za sa=>?_))))
 rw[if_neg Bool.false_ne_true]
 refine wpAny_bind ?_
 simp only[List.forIn_toArray,List.forIn_cons,List.forIn_nil]
 refine wpAny_bind (wpAny_bind (wpAny_holding (wpAny_bind (D1.done _ _ _ (D1.frame _ _ _ d1 fun c hc o e=>(sa.2 c fun q=>S.z1 (q ▸ hc)).trans e) fun hb x kb ex=>?_))))
 refine h hb x (fun c o hm e=>?_) ex
 simp only[List.mem_cons,List.not_mem_nil,or_false,not_or]at hm
 exact kb c o hm.2.2.1 ((sa.2 c hm.1).trans e)
end
theorem zdv:typeLookup (.type "zip") "__len__" = pure none:=by rw[typeLookup_type,builtinLookup_eq_fast];kernel_rfl
theorem zcC:typeLookup (.type "zip") "__length_hint__" = pure none:=by rw[typeLookup_type,builtinLookup_eq_fast];kernel_rfl
def ZSt (z TI TO i1 i2:Addr) (S1 S2:Nat→Heap→Prop) (k:Nat) (acc:Array Value) (h:Heap):Prop :=
 IsPair h TI (.ref i1) (.ref i2)∧S1 k h∧S2 k h∧((k=0∧IsZip h z TI TO .none∧∃ a b,IsPair h TO a b)∨(1≤k∧∃ t c,acc[0]?=some (.ref t)∧IsZipN h z TI TO t c))
def Kept (far:List Addr) (P1 P2:Nat→Value→Prop) (acc:Array Value) (h:Heap):Prop:=∀ j v,acc[j]?=some v→∃ t x y,v=.ref t∧t∉far∧IsPair h t x y∧P1 j x∧P2 j y
section
variable {prog:Program}{w:World}{A:Around}{E:Value→Shared→Prop}{s:Shared}{z TI TO i1 i2 L:Addr}{f1 f2:List Addr}{n n2 k:Nat}{P1 P2:Nat→Value→Prop}{S1 S2:Nat→Heap→Prop}
theorem zkV {acc:Array Value}(S:Sep z TI TO i1 i2 f1 f2) (D1:Draws prog w A.in1 i1 f1 n P1 S1) (D2:Draws prog w A.in1 i2 f2 n2 P2 S2) (hle:n≤n2) {Q:Option Value→Shared→Prop}(Z:ZSt z TI TO i1 i2 S1 S2 k acc s.heap) (K:Kept [z,TI,TO,i1,i2,L] P1 P2 acc s.heap) (ha:acc.size=k) (hL:L<s.heap.objs.size) (hTO:TO<s.heap.objs.size) (lk:k<n)
  (h:∀ h' tk x y,P1 k x→P2 k y→IsPair h' s.heap.objs.size x y→ZSt z TI TO i1 i2 S1 S2 (k+1) (acc.push (.ref s.heap.objs.size)) h'→Kept [z,TI,TO,i1,i2,L] P1 P2 (acc.push (.ref s.heap.objs.size)) h' →
   (∀ c o,c∉[z,TO,i1,i2]→s.heap.get? c=some o→h'.get? c=some o)→Q (some (.ref s.heap.objs.size)) { s with heap:=h',toks:=tk }):wpAny (model prog w) A (pyNext (.ref z)) Q E s:=by
 obtain⟨hI,d1,d2,st⟩:=Z
 have nd:=S.all
 simp only[List.nodup_cons,List.mem_cons,List.not_mem_nil,or_false,not_or]at nd
 obtain⟨⟨zI,zO,z1,z2⟩,⟨IO,I1,I2⟩,⟨O1,O2⟩,n12,_⟩:=nd
 obtain⟨o1,e1⟩:=D1.live _ _ d1
 obtain⟨o2,e2⟩:=D2.live _ _ d2
 have old:∀ h':Heap,(∀ c o,c∉[z,TO,i1,i2]→s.heap.get? c=some o→h'.get? c=some o)→∀ x y,IsPair h' s.heap.objs.size x y→P1 k x→P2 k y→(∃ oz,s.heap.get? z=some oz)→TO<s.heap.objs.size→Kept [z,TI,TO,i1,i2,L] P1 P2 (acc.push (.ref s.heap.objs.size)) h':=by
  intro h' kk x y new px py ⟨oz,ez⟩ lt j v hv
  by_cases q:j<acc.size
  ·rw[Array.getElem?_push_lt q]at hv
   obtain⟨t,x',y',rfl,nt,ht,p1,p2⟩:=K j v ((getElem?_pos acc j q).trans hv)
   refine⟨t,x',y',rfl,nt,kk t _ (fun m=>nt ?_) ht,p1,p2⟩
   simp only[List.mem_cons,List.not_mem_nil,or_false]at m ⊢
   rcases m with m|m|m|m<;>simp[m]
  ·have jl:j<(acc.push (.ref s.heap.objs.size)).size:=(Array.getElem?_eq_some_iff.mp hv).1
   rw[Array.size_push]at jl
   obtain rfl:j=acc.size:=by lia
   rw[Array.getElem?_push_size]at hv
   obtain rfl:=Option.some.inj hv
   refine⟨_,x,y,rfl,fun m=>?_,new,by rw[ha];exact px,by rw[ha];exact py⟩
   simp only[List.mem_cons,List.not_mem_nil,or_false]at m
   have b1:=Heap.lt_size ez
   have b2:=Heap.lt_size hI
   have b3:=Heap.lt_size e1
   have b4:=Heap.lt_size e2
   rcases m with m|m|m|m|m|m
   ·exact Nat.ne_of_gt b1 m
   ·exact Nat.ne_of_gt b2 m
   ·exact Nat.ne_of_gt lt m
   ·exact Nat.ne_of_gt b3 m
   ·exact Nat.ne_of_gt b4 m
   ·exact Nat.ne_of_gt hL m
 have first:∀ t,acc[0]?=some (Value.ref t)→(acc.push (.ref s.heap.objs.size))[0]?=some (Value.ref t):=fun t e=>by
  have q:=(Array.getElem?_eq_some_iff.mp e).1
  rw[Array.getElem?_push_lt q];exact(getElem?_pos acc 0 q).symm.trans e
 rcases st with ⟨rfl,hz,a,b,hO⟩|⟨k1,t,c,ht,hz⟩
 ·have tyz:s.TypeIs (.ref z) "zip":=⟨_,hz,rfl⟩
  unfold pyNext
  refine wpAny_bind (wpAny_attempt (wpAny_callSpecial?_slot (name:="__next__") tyz F.slot_zip_next (wpAny_call_entry F.slot_zip_next tyz F.entry_zip_next (zcT S D1 D2 hz hI hO d1 d2 lk (by lia)
   fun x y h' tk p1 p2 zh Oh s1 s2 new kk=>wpAny_pure ?_) (F.args_zip_next_1 _))))
  have acc0:acc = #[]:=Array.size_eq_zero_iff.mp ha
  subst acc0
  exact h h' tk x y p1 p2 new ⟨kk TI _ (by simp[Ne.symm zI,IO,I1,I2]) hI,s1,s2,.inr ⟨by lia,s.heap.objs.size,false,rfl,zh⟩⟩ (old h' kk x y new p1 p2 ⟨_,hz⟩ (Heap.lt_size hO)) kk
 ·have tyz:s.TypeIs (.ref z) "zip":=⟨_,hz,rfl⟩
  obtain⟨t',x0,y0,et,nt,ht',_,_⟩:=K 0 _ ht
  cases et
  unfold pyNext
  refine wpAny_bind (wpAny_attempt (wpAny_callSpecial?_slot (name:="__next__") tyz F.slot_zip_next (wpAny_call_entry F.slot_zip_next tyz F.entry_zip_next (zf8 S D1 D2 hz ht' hI d1 d2 lk (by lia)
   fun x y h' tk p1 p2 zh s1 s2 new kk=>wpAny_pure ?_) (F.args_zip_next_1 _))))
  exact h h' tk x y p1 p2 new ⟨kk TI _ (by simp[Ne.symm zI,IO,I1,I2]) hI,s1,s2,.inr ⟨by lia,t,true,first t ht,zh⟩⟩ (old h' kk x y new p1 p2 ⟨_,hz⟩ hTO) kk
theorem zjx {acc:Array Value}(S:Sep z TI TO i1 i2 f1 f2) (D1:Draws prog w A.in1 i1 f1 n P1 S1) {Q:Option Value→Shared→Prop}(Z:ZSt z TI TO i1 i2 S1 S2 n acc s.heap) (K:Kept [z,TI,TO,i1,i2,L] P1 P2 acc s.heap)
  (h:∀ h',(∀ c o,c∉[z,TO,i1,i2]→s.heap.get? c=some o→h'.get? c=some o)→Q none { s with heap:=h' }):wpAny (model prog w) A (pyNext (.ref z)) Q E s:=by
 obtain⟨hI,d1,d2,st⟩:=Z
 rcases st with ⟨rfl,hz,a,b,hO⟩|⟨k1,t,c,ht,hz⟩
 ·have tyz:s.TypeIs (.ref z) "zip":=⟨_,hz,rfl⟩
  unfold pyNext
  refine wpAny_bind (wpAny_attempt (wpAny_callSpecial?_slot (name:="__next__") tyz F.slot_zip_next (wpAny_call_entry F.slot_zip_next tyz F.entry_zip_next (zcS S D1 hz hI d1 fun h' x kk ⟨o,eo,co⟩=>?_) (F.args_zip_next_1 _))))
  exact wpAny_bind (wpAny_isInstance (T:="StopIteration") (b:=true) ⟨o,eo,co⟩ isSubtype_stop (wpAny_pure (h h' kk)))
 ·have tyz:s.TypeIs (.ref z) "zip":=⟨_,hz,rfl⟩
  obtain⟨t',x0,y0,et,nt,ht',_,_⟩:=K 0 _ ht
  cases et
  unfold pyNext
  refine wpAny_bind (wpAny_attempt (wpAny_callSpecial?_slot (name:="__next__") tyz F.slot_zip_next (wpAny_call_entry F.slot_zip_next tyz F.entry_zip_next (zdu S D1 hz ht' hI d1 fun h' x kk ⟨o,eo,co⟩=>?_) (F.args_zip_next_1 _))))
  exact wpAny_bind (wpAny_isInstance (T:="StopIteration") (b:=true) ⟨o,eo,co⟩ isSubtype_stop (wpAny_pure (h h' kk)))
theorem zhR {res:Value}{R:Result→Shared→Prop}{J:Array Value→Shared→Prop}(S:Sep z TI TO i1 i2 f1 f2) (D1:Draws prog w A.in1.in1 i1 f1 n P1 S1) (D2:Draws prog w A.in1.in1 i2 f2 n2 P2 S2) (hle:n≤n2) (nL:L∉[z,TI,TO,i1,i2]++f1++f2) (hn:n≤sizeLine)
  (jn:∀ (acc:Array Value) (s:Shared) (h':Heap) tk x y,J acc s→L<s.heap.objs.size→P1 acc.size x→P2 acc.size y→IsPair h' s.heap.objs.size x y→(∀ c o,c∉[z,TO,i1,i2]→s.heap.get? c=some o→h'.get? c=some o)→J (acc.push (.ref s.heap.objs.size)) { s with heap:=h',toks:=tk })
  (jf:∀ (acc:Array Value) (s:Shared) (h':Heap) tk,J acc s→(∀ c o,c∉[z,TO,i1,i2,L]→s.heap.get? c=some o→h'.get? c=some o)→J acc { s with heap:=h',toks:=tk }) :
  ∀ (m k:Nat) (s:Shared) (acc:Array Value) (c:Nat),k+m=n→acc.size=k→ZSt z TI TO i1 i2 S1 S2 k acc s.heap→Kept [z,TI,TO,i1,i2,L] P1 P2 acc s.heap→s.heap.get? L=some { cls:=.type "list",dict:=none,data:=.seq acc c,slots:=#[] }→TO<s.heap.objs.size→J acc s →
   (∀ h' tk acc' c',acc'.size=n→J acc' { s with heap:=h',toks:=tk }→Kept [z,TI,TO,i1,i2,L] P1 P2 acc' h'→h'.get? L=some { cls:=.type "list",dict:=none,data:=.seq acc' c',slots:=#[] }→(∀ b o,b∉[z,TO,i1,i2,L]→s.heap.get? b=some o→h'.get? b=some o)→R (.ok (.ret res)) { s with heap:=h',toks:=tk }) →
   codeAny (model prog w) A (.builtin "list.extend.loop" ⟨[.ref L,.ref z,res],[]⟩) R s:=by
 simp only[List.mem_append,List.mem_cons,List.not_mem_nil,or_false,not_or]at nL
 obtain⟨⟨⟨Lz,LI,LO,L1,L2⟩,Lf1⟩,Lf2⟩:=nL
 intro m
 induction m with
 | zero =>
  intro k s acc c km ha Z K hs hTO j0 fin
  obtain rfl:k=n:=by lia
  refine codeAny_builtin F.entry_extend_loop (by
   refine Around.under_plainId F.plain_extend_loop _ ▸ (show wpAny _ A.in1 (pyNext (.ref z) >>= _) _ _ _ from wpAny_bind (zjx S D1 Z K fun h' kk=>?_))
   refine wpAny_pure (fin h' s.toks acc c ha (jf acc s h' s.toks j0 fun c o hc e=>kk c o (fun m=>hc (by simp only[List.mem_cons,List.not_mem_nil,or_false]at m ⊢;rcases m with m|m|m|m<;>simp[m])) e) (fun j v hv=>?_) (kk L _ (by simp[Lz,LO,L1,L2]) hs) fun b o hb e=>kk b o (fun m=>hb ?_) e)
   ·obtain⟨t,x,y,rfl,nt,ht,p1,p2⟩:=K j v hv
    refine⟨t,x,y,rfl,nt,kk t _ (fun m=>nt ?_) ht,p1,p2⟩
    simp only[List.mem_cons,List.not_mem_nil,or_false]at m ⊢
    rcases m with m|m|m|m<;>simp[m]
   ·simp only[List.mem_cons,List.not_mem_nil,or_false]at m ⊢
    rcases m with m|m|m|m<;>simp[m])
 | succ m ih =>
  intro k s acc c km ha Z K hs hTO j0 fin
  have Ls:=Heap.lt_size hs
  refine codeAny_builtin F.entry_extend_loop (by
   refine Around.under_plainId F.plain_extend_loop _ ▸ (show wpAny _ A.in1 (pyNext (.ref z) >>= _) _ _ _ from wpAny_bind (zkV (L:=L) S D1 D2 hle Z K ha Ls hTO (by lia) fun h1 tk x y px py new Z1 K1 kk=>?_))
   have hs1:=kk L _ (by simp[Lz,LO,L1,L2]) hs
   show wpAny _ A.in1 (updateSeq L (·.push (.ref s.heap.objs.size)) >>= _) _ _ _
   refine wpAny_bind (wpAny_updateSeq hs1 rfl ?_ (hz:=by rw[ha];lia) (_hz':=by rw[Array.size_push,ha];lia))
   have oth:∀ b o,b≠L→h1.get? b=some o→(h1.update L (Obj.mapSeq (·.push (.ref s.heap.objs.size)))).get? b=some o:=fun b o hb e=>(Heap.get?_update_other _ _ (Ne.symm hb)).trans e
   obtain⟨hI,d1,d2,st⟩:=Z1
   have hs2:=Heap.get?_update_self (Obj.mapSeq (·.push (.ref s.heap.objs.size))) hs1 rfl
   refine wpAny_pure ⟨plainId_quiet F.plain_extend_loop _,ih (k+1) _ (acc.push (.ref s.heap.objs.size)) _ (by lia) (by rw[Array.size_push,ha]) ⟨oth _ _ (Ne.symm LI) hI,D1.frame _ _ _ d1 fun b hb o e=>oth b o (fun q=>Lf1 (q ▸ hb)) e,D2.frame _ _ _ d2 fun b hb o e=>oth b o (fun q=>Lf2 (q ▸ hb)) e,?_⟩ (fun j v hv=>?_) hs2 ?_ (jf _ _ _ tk (jn acc s h1 tk x y j0 Ls (by rw[ha];exact px) (by rw[ha];exact py) new kk) fun c o hc e=>oth c o (fun q=>hc (by simp[q])) e) fun h' tk' acc' c' a1 j1 a2 a3 a4=>fin h' tk' acc' c' a1 j1 a2 a3 fun b o hb e=>a4 b o hb ?_⟩
   ·rcases st with ⟨q,_⟩|⟨q,t,c',e,hz⟩
    ·lia
    ·exact .inr ⟨q,t,c',e,oth _ _ (Ne.symm Lz) hz⟩
   ·obtain⟨t,x,y,rfl,nt,ht,p1,p2⟩:=K1 j v hv
    exact⟨t,x,y,rfl,nt,oth t _ (fun q=>nt (by simp[q])) ht,p1,p2⟩
   ·rw[Heap.size_update]
    obtain⟨t,x,y,e,_,ht,_,_⟩:=K1 acc.size _ Array.getElem?_push_size
    cases e
    exact Nat.lt_trans hTO (Heap.lt_size ht)
   ·simp only[List.mem_cons,List.not_mem_nil,or_false,not_or]at hb
    exact oth b o hb.2.2.2.2 (kk b o (by simp[hb]) e))
theorem zfZ {Q:List Value→Shared→Prop}{J:Array Value→Shared→Prop}(S:Sep z TI TO i1 i2 f1 f2) (D1:Draws prog w A.in1.in1 i1 f1 n P1 S1) (D2:Draws prog w A.in1.in1 i2 f2 n2 P2 S2) (hle:n≤n2) (hz:IsZip s.heap z TI TO .none) (hI:IsPair s.heap TI (.ref i1) (.ref i2)) {a b:Value}(hO:IsPair s.heap TO a b) (d1:S1 0 s.heap) (d2:S2 0 s.heap)
  (low:∀ c∈f1++f2,c<s.heap.objs.size) (hn:n≤sizeLine)
  (jn:∀ (acc:Array Value) (s':Shared) (h':Heap) tk x y,J acc s'→s.heap.objs.size<s'.heap.objs.size→P1 acc.size x→P2 acc.size y→IsPair h' s'.heap.objs.size x y→(∀ c o,c∉[z,TO,i1,i2]→s'.heap.get? c=some o→h'.get? c=some o)→J (acc.push (.ref s'.heap.objs.size)) { s' with heap:=h',toks:=tk })
  (jf:∀ (acc:Array Value) (s':Shared) (h':Heap) tk,J acc s'→(∀ c o,c∉[z,TO,i1,i2,s.heap.objs.size]→s'.heap.get? c=some o→h'.get? c=some o)→J acc { s' with heap:=h',toks:=tk })
  (j0:J #[] s)
  (h:∀ h' tk (acc:Array Value),acc.size=n→J acc { s with heap:=h',toks:=tk }→Kept [z,TI,TO,i1,i2,s.heap.objs.size] P1 P2 acc h'→(∀ b o,b∉[z,TO,i1,i2]→s.heap.get? b=some o→h'.get? b=some o)→s.heap.objs.size<h'.objs.size→Q acc.toList { s with heap:=h',toks:=tk }):wpAny (model prog w) A (collect (.ref z)) Q E s:=by
 obtain⟨o1,e1⟩:=D1.live _ _ d1
 obtain⟨o2,e2⟩:=D2.live _ _ d2
 have nL:s.heap.objs.size∉[z,TI,TO,i1,i2]++f1++f2:=fun m=>by
  simp only[List.mem_append,List.mem_cons,List.not_mem_nil,or_false]at m
  rcases m with ((m|m|m|m|m)|m)|m
  ·exact Nat.ne_of_gt (Heap.lt_size hz) m
  ·exact Nat.ne_of_gt (Heap.lt_size hI) m
  ·exact Nat.ne_of_gt (Heap.lt_size hO) m
  ·exact Nat.ne_of_gt (Heap.lt_size e1) m
  ·exact Nat.ne_of_gt (Heap.lt_size e2) m
  ·exact Nat.lt_irrefl _ (low _ (List.mem_append_left _ m))
  ·exact Nat.lt_irrefl _ (low _ (List.mem_append_right _ m))
 have p1:∀ c o,s.heap.get? c=some o→(s.heap.push (seqObj "list" #[] 0)).get? c=some o:=fun c o e=>Heap.get?_push_of_some _ e
 have tyz:Shared.TypeIs ({ s with heap:=s.heap.push (seqObj "list" #[] 0) }:Shared) (.ref z) "zip":=⟨_,p1 _ _ hz,rfl⟩
 have new:(s.heap.push (seqObj "list" #[] 0)).get? s.heap.objs.size=some (seqObj "list" #[] 0):=Heap.get?_push_size _ rfl
 unfold collect
 refine wpAny_bind (wpAny_runValue (codeAny_builtin entry_proto_collect' (Around.under_plainId F.plain_proto_collect _ ▸ (wpAny_bind (wpAny_newList (wpAny_pure ⟨Code.quiet_builtin _ (by decide +kernel),codeAny_builtin entry_list_iadd' (Around.under_plainId F.plain_list_iadd _ ▸ ?_)⟩))))))
 show wpAny _ A.in1 (Builtin.List.listExtendWith (.ref s.heap.objs.size) (.ref z) (.ref s.heap.objs.size)) _ _ ({ s with heap:=s.heap.push (seqObj "list" #[] 0) }:Shared)
 unfold Builtin.List.listExtendWith;refine wpAny_bind (wpAny_typeOf tyz ?_)
 have no:(Builtin.List.listSameRef (.ref s.heap.objs.size) (.ref z) || Value.type "zip" == Value.type "list" || Value.type "zip" == Value.type "tuple")=false:=by
  have:Builtin.List.listSameRef (.ref s.heap.objs.size) (.ref z)=false:=by simp[Builtin.List.listSameRef,Nat.ne_of_gt (Heap.lt_size hz)]
  rw[this];decide
 rw[no,if_neg Bool.false_ne_true]
 refine wpAny_bind (wpAny_pyIter_zip (p1 _ _ hz) (wpAny_bind (wpAny_holding ?_)))
 unfold Builtin.List.listLengthHint;refine wpAny_bind (wpAny_specialOf tyz zdv ?_)
 show wpAny _ A.in1 (specialOf (Value.ref z) (Str.ofString "__length_hint__") >>= _) _ _ _
 refine wpAny_bind (wpAny_specialOf tyz zcC (wpAny_pure ?_))
 refine wpAny_bind (wpAny_rule (wpAny_bind ?_))
 unfold Builtin.List.listTouch Builtin.List.listUpdate;refine wpAny_bind (wpAny_updateSeq new rfl ?_)
 have n2:=Heap.get?_update_self (Obj.mapSeq (·.push Value.none)) new rfl
 refine wpAny_updateSeq n2 rfl ?_
 have n3:=Heap.get?_update_self (Obj.mapSeq (·.pop)) n2 rfl
 have oth:∀ b o,s.heap.get? b=some o→(((s.heap.push (seqObj "list" #[] 0)).update s.heap.objs.size (Obj.mapSeq (·.push Value.none))).update s.heap.objs.size (Obj.mapSeq (·.pop))).get? b=some o :=
  fun b o e=>by
   have hb:=Nat.ne_of_gt (Heap.lt_size e)
   exact(Heap.get?_update_other _ _ hb).trans ((Heap.get?_update_other _ _ hb).trans (p1 b o e))
 refine wpAny_pure ⟨plainId_quiet F.plain_extend_loop _,zhR (J:=J) (L:=s.heap.objs.size) S D1 D2 hle nL hn jn jf n 0 _ #[] _ (by lia) rfl ⟨oth _ _ hI,D1.frame _ _ _ d1 fun b _ o e=>oth b o e,D2.frame _ _ _ d2 fun b _ o e=>oth b o e,.inl ⟨rfl,oth _ _ hz,_,_,oth _ _ hO⟩⟩ (fun j v hv=>by simp at hv) n3 ?_ (jf #[] s _ s.toks j0 fun c o _ e=>oth c o e) fun h' tk acc' c' a1 j1 a2 a3 a4=>?_⟩
 ·rw[Heap.size_update,Heap.size_update,size_push']
  exact Nat.lt_succ_of_lt (Heap.lt_size hO)
 ·refine wpAny_bind (wpAny_load a3 (wpAny_pure (h h' tk acc' a1 j1 a2 (fun b o hb e=>a4 b o (fun m=>?_) (oth b o e)) (Heap.lt_size a3))))
  simp only[List.mem_cons,List.not_mem_nil,or_false]at m hb
  rcases m with m|m|m|m|m
  ·exact hb (.inl m)
  ·exact hb (.inr (.inl m))
  ·exact hb (.inr (.inr (.inl m)))
  ·exact hb (.inr (.inr (.inr m)))
  ·exact Nat.ne_of_gt (Heap.lt_size e) m.symm
theorem zib {res:Value}{R:Result→Shared→Prop}{J:Array Value→Shared→Prop}{c0:Nat}(S:Sep z TI TO i1 i2 f1 f2) (D1:Draws prog w A.in1.in1 i1 f1 n P1 S1) (D2:Draws prog w A.in1.in1 i2 f2 n2 P2 S2) (hle:n≤n2) (hz:IsZip s.heap z TI TO .none) (hI:IsPair s.heap TI (.ref i1) (.ref i2)) {a b:Value}(hO:IsPair s.heap TO a b) (d1:S1 0 s.heap) (d2:S2 0 s.heap)
  (hL:s.heap.get? L=some (seqObj "list" #[] c0)) (nL:L∉[z,TI,TO,i1,i2]++f1++f2) (hn:n≤sizeLine)
  (jn:∀ (acc:Array Value) (s':Shared) (h':Heap) tk x y,J acc s'→L<s'.heap.objs.size→P1 acc.size x→P2 acc.size y→IsPair h' s'.heap.objs.size x y→(∀ c o,c∉[z,TO,i1,i2]→s'.heap.get? c=some o→h'.get? c=some o)→J (acc.push (.ref s'.heap.objs.size)) { s' with heap:=h',toks:=tk })
  (jf:∀ (acc:Array Value) (s':Shared) (h':Heap) tk,J acc s'→(∀ c o,c∉[z,TO,i1,i2,L]→s'.heap.get? c=some o→h'.get? c=some o)→J acc { s' with heap:=h',toks:=tk })
  (j0:J #[] s)
  (h:∀ h' tk acc' c',acc'.size=n→J acc' { s with heap:=h',toks:=tk }→Kept [z,TI,TO,i1,i2,L] P1 P2 acc' h'→h'.get? L=some (seqObj "list" acc' c')→R (.ok (.ret res)) { s with heap:=h',toks:=tk }) :
  wpAny (model prog w) A.in1 (Builtin.List.listExtendWith (.ref L) (.ref z) res) (fun fin s'=>match fin with|.done f=>R (.ok f) s'|.again c'=>c'.quiet=true∧codeAny (model prog w) A c' R s') (fun e s'=>R (.error e) s') s:=by
 have Lz:L≠z:=fun q=>nL (by simp[q])
 have tyz:s.TypeIs (.ref z) "zip":=⟨_,hz,rfl⟩
 unfold Builtin.List.listExtendWith;refine wpAny_bind (wpAny_typeOf tyz ?_)
 have no:(Builtin.List.listSameRef (.ref L) (.ref z) || Value.type "zip" == Value.type "list" || Value.type "zip" == Value.type "tuple")=false:=by
  have:Builtin.List.listSameRef (.ref L) (.ref z)=false:=by simp[Builtin.List.listSameRef,Lz]
  rw[this];decide
 rw[no,if_neg Bool.false_ne_true]
 refine wpAny_bind (wpAny_pyIter_zip hz (wpAny_bind (wpAny_holding ?_)))
 unfold Builtin.List.listLengthHint;refine wpAny_bind (wpAny_specialOf tyz zdv ?_)
 show wpAny _ A.in1 (specialOf (Value.ref z) (Str.ofString "__length_hint__") >>= _) _ _ _
 refine wpAny_bind (wpAny_specialOf tyz zcC (wpAny_pure ?_))
 refine wpAny_bind (wpAny_rule (wpAny_bind ?_))
 unfold Builtin.List.listTouch Builtin.List.listUpdate;refine wpAny_bind (wpAny_updateSeq hL rfl ?_)
 have m2:=Heap.get?_update_self (Obj.mapSeq (·.push Value.none)) hL rfl
 refine wpAny_updateSeq m2 rfl ?_
 have m3:=Heap.get?_update_self (Obj.mapSeq (·.pop)) m2 rfl
 have oth:∀ b o,b≠L→s.heap.get? b=some o→((s.heap.update L (Obj.mapSeq (·.push Value.none))).update L (Obj.mapSeq (·.pop))).get? b=some o :=
  fun _ _ away was=>(Heap.get?_update_other _ _ (Ne.symm away)).trans ((Heap.get?_update_other _ _ (Ne.symm away)).trans was)
 have ne:=fun c (hc:c∈[z,TI,TO,i1,i2]++f1++f2)=>(fun q=>nL (q ▸ hc):c≠L)
 refine wpAny_pure ⟨plainId_quiet F.plain_extend_loop _,zhR (J:=J) (L:=L) S D1 D2 hle nL hn jn jf n 0 _ #[] _ (by lia) rfl ⟨oth _ _ (ne TI (by simp)) hI,D1.frame _ _ _ d1 fun b hb o e=>oth b o (ne b (by simp[hb])) e,D2.frame _ _ _ d2 fun b hb o e=>oth b o (ne b (by simp[hb])) e,.inl ⟨rfl,oth _ _ (ne z (by simp)) hz,_,_,oth _ _ (ne TO (by simp)) hO⟩⟩ (fun j v hv=>by simp at hv) m3 ?_ (jf #[] s _ s.toks j0 fun c o hc e=>oth c o (fun q=>hc (by simp[q])) e) fun h' tk acc' c' a1 j1 a2 a3 a4=>h h' tk acc' c' a1 j1 a2 a3⟩
 rw[Heap.size_update,Heap.size_update]
 exact Heap.lt_size hO
theorem ziR {Q:Value→Shared→Prop}{J:Array Value→Shared→Prop}(S:Sep z TI TO i1 i2 f1 f2) (D1:Draws prog w A.in1.in1.in1 i1 f1 n P1 S1) (D2:Draws prog w A.in1.in1.in1 i2 f2 n2 P2 S2) (hle:n≤n2) (hz:IsZip s.heap z TI TO .none) (hI:IsPair s.heap TI (.ref i1) (.ref i2)) {a b:Value}(hO:IsPair s.heap TO a b) (d1:S1 0 s.heap) (d2:S2 0 s.heap)
  (low:∀ c∈f1++f2,c<s.heap.objs.size) (hn:n≤sizeLine)
  (jn:∀ (acc:Array Value) (s':Shared) (h':Heap) tk x y,J acc s'→s.heap.objs.size<s'.heap.objs.size→P1 acc.size x→P2 acc.size y→IsPair h' s'.heap.objs.size x y→(∀ c o,c∉[z,TO,i1,i2]→s'.heap.get? c=some o→h'.get? c=some o)→J (acc.push (.ref s'.heap.objs.size)) { s' with heap:=h',toks:=tk })
  (jf:∀ (acc:Array Value) (s':Shared) (h':Heap) tk,J acc s'→(∀ c o,c∉[z,TO,i1,i2,s.heap.objs.size]→s'.heap.get? c=some o→h'.get? c=some o)→J acc { s' with heap:=h',toks:=tk })
  (j0:J #[] s)
  (h:∀ h' tk acc' c',acc'.size=n→J acc' { s with heap:=h',toks:=tk }→Kept [z,TI,TO,i1,i2,s.heap.objs.size] P1 P2 acc' h'→h'.get? s.heap.objs.size=some (seqObj "list" acc' c')→Q (.ref s.heap.objs.size) { s with heap:=h',toks:=tk }):wpAny (model prog w) A (call (.type "list") [.ref z]) Q E s:=by
 obtain⟨o1,e1⟩:=D1.live _ _ d1
 obtain⟨o2,e2⟩:=D2.live _ _ d2
 have nL:s.heap.objs.size∉[z,TI,TO,i1,i2]++f1++f2:=fun m=>by
  simp only[List.mem_append,List.mem_cons,List.not_mem_nil,or_false]at m
  rcases m with ((m|m|m|m|m)|m)|m
  ·exact Nat.ne_of_gt (Heap.lt_size hz) m
  ·exact Nat.ne_of_gt (Heap.lt_size hI) m
  ·exact Nat.ne_of_gt (Heap.lt_size hO) m
  ·exact Nat.ne_of_gt (Heap.lt_size e1) m
  ·exact Nat.ne_of_gt (Heap.lt_size e2) m
  ·exact Nat.lt_irrefl _ (low _ (List.mem_append_left _ m))
  ·exact Nat.lt_irrefl _ (low _ (List.mem_append_right _ m))
 refine callType_codes (Q₁:=fun obj t=>obj=.ref s.heap.objs.size∧t={ s with heap:=s.heap.push (seqObj "list" #[] 0) }) F.called_list (F.typeCall_list_1 _) F.entry_list_init (code_list_new _ ⟨rfl,rfl⟩) fun obj t ht=>?_
 obtain⟨rfl,rfl⟩:=ht
 have new:(s.heap.push (seqObj "list" #[] 0)).get? s.heap.objs.size=some (seqObj "list" #[] 0):=Heap.get?_push_size _ rfl
 have old:∀ c o,s.heap.get? c=some o→((s.heap.push (seqObj "list" #[] 0)).update s.heap.objs.size (Obj.mapSeq (fun _=>(#[]:Array Value)))).get? c=some o:=fun c o e=>(Heap.get?_update_other _ _ (Nat.ne_of_gt (Heap.lt_size e))).trans (Heap.get?_push_of_some _ e)
 have m2:=Heap.get?_update_self (Obj.mapSeq (fun _=>(#[]:Array Value))) new rfl
 refine⟨⟨_,new,rfl⟩,F.args_list_init_2 _ _,?_⟩
 show wpAny _ _ (do let was ← Builtin.List.listItems (.ref s.heap.objs.size);Builtin.List.listUpdate (.ref s.heap.objs.size) (fun _=>#[]);letGo was.toList.reverse;Builtin.List.listExtendWith (.ref s.heap.objs.size) (.ref z) .none) _ _ _
 refine wpAny_bind (m:=Builtin.List.listItems _) ?_
 unfold Builtin.List.listItems;refine wpAny_bind (wpAny_seqItems new rfl (wpAny_pure ?_))
 refine wpAny_bind (m:=updateSeq _ _) (wpAny_updateSeq new rfl (wpAny_bind (wpAny_letGo ?_)))
 refine zib (A:=A.in1) (J:=J) (L:=s.heap.objs.size) S D1 D2 hle (old _ _ hz) (old _ _ hI) (old _ _ hO) (D1.frame _ _ _ d1 fun c _ o e=>old c o e) (D2.frame _ _ _ d2 fun c _ o e=>old c o e) m2 nL hn jn jf (jf #[] s _ s.toks j0 fun c o _ e=>old c o e) fun h' tk acc' c' a1 j1 a2 a3=>?_
 exact⟨rfl,h h' tk acc' c' a1 j1 a2 a3⟩
end
end Own
namespace Own
open PySem PySem.Spec PyProof.Rows Ts
section
variable {prog:Program}{w:World}{A:Around}{E:Value→Shared→Prop}{s:Shared}
theorem zjI {x:Value}{Q:Value→Shared→Prop}
  (h:wpAny (model prog w) A.in1 (collect x) (fun vs s1=>∃ (κ:SortKind) (rv:Value→Int),vs.length≤10000 ∧
   (∀ h':Heap,(∀ c o,s1.heap.get? c=some o→h'.get? c=some o)→2≤vs.length→∀ (A':Around) {Q:SortKind→Shared→Prop}{E:Value→Shared→Prop},Q κ { s1 with heap:=h' }→wpAny (model prog w) A' (keyKind' vs.toArray) Q E { s1 with heap:=h' }) ∧
   (∀ h':Heap,(∀ c o,s1.heap.get? c=some o→h'.get? c=some o)→∀ (A':Around),A'.units≤A.units+8→Cmp prog w A' { s1 with heap:=h' } κ (fun p=>p.1∈vs) (fun p=>rv p.1)) ∧
   ∀ (h':Heap) (l:Addr) (e:Nat) (out:List Value),s1.heap.objs.size≤l→h'.get? l=some (seqObj "list" out.toArray e)→out.Perm vs→out.Pairwise (fun x y=>rv x≤rv y)→(∀ c o,s1.heap.get? c=some o→h'.get? c=some o)→Q (.ref l) { s1 with heap:=h' }) E s) :
  wpAny (model prog w) A (call (.builtin "sorted") [x]) Q E s:=by
 refine Calls.call_function_entry kind_sorted plain_sorted entry_sorted (args_sorted1 _) ?_;unfold Builtin.«sorted»
 refine wpAny_bind (m:=checkCount "sorted" 1 1 _) (wpAny_pure (wpAny_bind (wpAny_mono h (fun vs s1 z=>?_) fun _ _ e=>e)))
 obtain⟨κ,rv,hz,hk,hc,fin⟩:=z
 have sl:vs.length≤sizeLine:=Nat.le_trans hz (by decide)
 refine wpAny_bind (wpAny_newList ?_ (hsz:=sl))
 have new:(s1.heap.push (seqObj "list" vs.toArray 0)).get? s1.heap.objs.size=some (seqObj "list" vs.toArray 0):=Heap.get?_push_size _ rfl
 have up:∀ h':Heap,(∀ c o,c≠s1.heap.objs.size→(s1.heap.push (seqObj "list" vs.toArray 0)).get? c=some o→h'.get? c=some o)→∀ c o,s1.heap.get? c=some o→h'.get? c=some o:=fun h' k c o e=>k c o (Nat.ne_of_lt (Heap.lt_size e)) (Heap.get?_push_of_some _ e)
 refine wpAny_bind (wpAny_holding (wpAny_call_entry slot_list_sort ⟨_,new,rfl⟩ entry_list_sort (zgE new hz κ rv (fun h' k l2=>hk h' (up h' k) l2 _) (fun h' k=>hc h' (up h' k) _ ?_) fun out p1 p2=>⟨_,rfl,?_⟩) (args_list_sort _)))
 ·show A.units+1+1≤A.units+8
  lia
 obtain⟨e,he⟩:=sortedHeap_at (out:=out.toArray) new
 refine wpAny_pure ⟨_,rfl,fin _ _ e out (Nat.le_refl _) he p1 p2 fun c o q=>?_⟩
 have lt:=Heap.lt_size q
 rw[sortedHeap_old (Nat.ne_of_lt lt) (by rw[size_push'];exact Nat.lt_succ_of_lt lt)]
 exact Heap.get?_push_of_some _ q
end
end Own
namespace L2
open PySem PySem.Spec PyProof.Rows Own Ts
inductive Lx (H:Hp):Nat→V→V→Ordering→Prop where
 | int (n:Nat) (i j:Int):Lx H n (.int i) (.int j) (compare i j)
 | row {n:Nat}{a b:Addr}{xs ys:List V}{cs:List Ordering}(ha:H a=some (.tup xs)) (hb:H b=some (.tup ys)) (l1:xs.length=cs.length) (l2:ys.length=cs.length) (h:∀ (i:Nat) u v c,xs[i]?=some u→ys[i]?=some v→cs[i]?=some c→Lx H n u v c) :
   Lx H (n+1) (.ref a) (.ref b) (cs.foldr Ordering.then .eq)
theorem Lx.pair {H:Hp}{n:Nat}{a b:Addr}{x1 x2 y1 y2:V}{c1 c2:Ordering}(ha:H a=some (.tup [x1,x2])) (hb:H b=some (.tup [y1,y2])) (h1:Lx H n x1 y1 c1) (h2:Lx H n x2 y2 c2):Lx H (n+1) (.ref a) (.ref b) (c1.then c2):=by
 have e:c1.then c2=[c1,c2].foldr Ordering.then .eq:=by cases c1<;>cases c2<;>rfl
 rw[e]
 refine .row ha hb rfl rfl fun i u v c hu hv hc=>?_
 rcases i with _|_|i
 ·cases hu;cases hv;cases hc;exact h1
 ·cases hu;cases hv;cases hc;exact h2
 ·simp at hu
theorem zcW:∀ {cs:List Ordering},cs.foldr Ordering.then .eq=.eq↔∀ c∈cs,c=.eq
 | []=>by simp
 | c::cs=>by
  rw[List.foldr_cons]
  constructor
  ·intro h
   cases c<;>simp[Ordering.then]at h
   intro d hd
   rcases List.mem_cons.mp hd with rfl|hd2
   ·rfl
   ·exact zcW.mp h d hd2
  ·intro h
   rw[h c List.mem_cons_self]
   exact zcW.mpr fun d hd=>h d (List.mem_cons_of_mem _ hd)
theorem zef:∀ {cs:List Ordering},cs.foldr Ordering.then .eq≠.eq→∃ (k:Nat) (c:Ordering),cs[k]?=some c∧c≠.eq∧cs.foldr Ordering.then .eq=c∧∀ j:Nat,j<k→cs[j]?=some Ordering.eq
 | [],h=>absurd rfl h
 | c::cs,h=>by
  by_cases z:c=.eq
  ·subst z
   have e:(Ordering.eq::cs).foldr Ordering.then .eq=cs.foldr Ordering.then .eq:=rfl
   rw[e]at h ⊢
   obtain⟨k,d,h1,h2,h3,h4⟩:=zef h
   refine⟨k+1,d,by simpa using h1,h2,h3,fun j hj=>?_⟩
   cases j with
   | zero=>rfl
   | succ j=>simpa using h4 j (by lia)
  ·refine⟨0,c,rfl,z,?_,fun j hj=>by lia⟩
   rw[List.foldr_cons]
   cases c<;>first|rfl|exact absurd rfl z
section
variable {X:Cx}
theorem zcm (i j:Int):(compare i j == .eq)=decide (i=j)∧(compare i j == .lt)=decide (i<j):=by
 rw[show compare i j=compareOfLessAndEq i j from rfl]
 unfold compareOfLessAndEq
 by_cases h1:i<j
 ·rw[if_pos h1,decide_eq_true h1,decide_eq_false (by lia)];exact⟨rfl,rfl⟩
 ·rw[if_neg h1,decide_eq_false h1]
  by_cases h2:i=j
  ·rw[if_pos h2,decide_eq_true h2];exact⟨rfl,rfl⟩
  ·rw[if_neg h2,decide_eq_false h2];exact⟨rfl,rfl⟩
theorem Lx.refl {H:Hp}{n:Nat}{x y:V}{c:Ordering}(h:Lx H n x y c):x=y→c=.eq:=by
 induction h with
 | int n i j =>
  intro e
  cases e
  have:=(zcm i i).1
  rw[decide_eq_true rfl]at this
  simpa using this
 | @row n a b xs ys cs ha hb l1 l2 h ih =>
  intro e
  cases e
  rw[ha]at hb
  cases hb
  refine zcW.mpr fun c hc=>?_
  obtain⟨i,hi⟩:=List.mem_iff_getElem?.mp hc
  have il:=(List.getElem?_eq_some_iff.mp hi).1
  exact ih i _ _ c (List.getElem?_eq_getElem (by lia)) (List.getElem?_eq_getElem (by lia)) hi rfl
theorem zkv {pins:List (Addr × Obj)}{σ:St}{H:Hp}{s:Shared}(I:Inv X pins σ H s) {n:Nat}{x y:V}{c:Ordering}(h:Lx H n x y c):∀ (A:Around) (u v:Value),A.units+n<cLine→RelV x u→RelV y v→SeqAt.EqAt A s u v (c == .eq):=by
 induction h with
 | int n i j =>
  intro A u v _ r1 r2
  have:=zjr (A:=A) (s:=s) (x:=.int j) (y:=.int i) r1 r2 rfl rfl
  rw[(zcm i j).1]
  have e:eqV (.int i) (.int j)=decide (i=j):=by
   show (i == j)=decide (i=j)
   by_cases z:i=j<;>simp[z]
  rwa [e]at this
 | @row n a b xs ys cs ha hb l1 l2 h ih =>
  intro A u v hu r1 r2
  cases r1;cases r2
  by_cases ab:a=b
  ·subst ab
   have:cs.foldr Ordering.then .eq=.eq:=Lx.refl (.row ha hb l1 l2 h) rfl
   rw[this];exact SeqAt.EqAt.same _
  ·obtain⟨its,g1,p1,_⟩:=I.tuple (SqT.of ha)
   obtain⟨jts,g2,p2,_⟩:=I.tuple (SqT.of hb)
   have m1:=g1.length
   have m2:=g2.length
   refine SeqAt.EqAt.of_refs ab ?_
   have e:((List.range (min its.toArray.size jts.toArray.size)).all (fun j=>(cs.getD j .eq) == .eq) && its.toArray.size == jts.toArray.size)=(cs.foldr Ordering.then .eq == .eq):=by
    rw[List.size_toArray,List.size_toArray,← m1,← m2,l1,l2,beq_self_eq_true,Bool.and_true,Nat.min_self]
    by_cases z:cs.foldr Ordering.then .eq=.eq
    ·rw[z]
     refine(List.all_eq_true.mpr fun j hj=>?_).trans rfl
     have jl:=List.mem_range.mp hj
     rw[List.getD_eq_getElem?_getD,List.getElem?_eq_getElem jl,Option.getD_some,zcW.mp z _ (List.getElem_mem jl)];rfl
    ·obtain⟨k,d,h1,h2,h3,_⟩:=zef z
     have kl:=(List.getElem?_eq_some_iff.mp h1).1
     rw[h3]
     have f1:(d == Ordering.eq)=false:=by simpa using h2
     rw[f1]
     refine Bool.eq_false_iff.mpr fun t=>?_
     have:=List.all_eq_true.mp t k (List.mem_range.mpr kl)
     rw[List.getD_eq_getElem?_getD,h1,Option.getD_some,f1]at this
     cases this
   have:=SeqAt.RcAt.tuples (e:=fun j=>(cs.getD j .eq) == .eq) p1 p2 (A:=A) (s:=s) (by lia) (fun j k1 k2=>?_)
   ·rwa [e]at this
   ·have k1':j<xs.length:=by simpa [m1] using k1
    have k2':j<ys.length:=by simpa [m2] using k2
    obtain⟨w1,e1,q1⟩:=g1.get (List.getElem?_eq_getElem k1')
    obtain⟨w2,e2,q2⟩:=g2.get (List.getElem?_eq_getElem k2')
    have z1:its.toArray[j]=w1:=by simpa using (List.getElem?_eq_some_iff.mp e1).2
    have z2:jts.toArray[j]=w2:=by simpa using (List.getElem?_eq_some_iff.mp e2).2
    have kc:j<cs.length:=by lia
    rw[z1,z2,List.getD_eq_getElem?_getD,List.getElem?_eq_getElem kc,Option.getD_some]
    exact ih j _ _ _ (List.getElem?_eq_getElem k1') (List.getElem?_eq_getElem k2') (List.getElem?_eq_getElem kc) A.in1 _ _ (by show A.units+1+n<cLine;lia) q1 q2
theorem zl0 {pins:List (Addr × Obj)}{σ:St}{H:Hp}{s:Shared}(I:Inv X pins σ H s) {n:Nat}{x y:V}{c:Ordering}(h:Lx H n x y c):c≠.eq→∀ (A:Around) (u v:Value),A.units+n<cLine→RelV x u→RelV y v→LtAt A s u v (c == .lt):=by
 induction h with
 | int n i j =>
  intro _ A u v _ ⟨t1,e1⟩ ⟨t2,e2⟩
  subst e1 e2
  rw[(zcm i j).2]
  exact LtAt.ints i j t1 t2
 | @row n a b xs ys cs ha hb l1 l2 h ih =>
  intro ne A u v hu r1 r2
  cases r1;cases r2
  obtain⟨its,g1,p1,_⟩:=I.tuple (SqT.of ha)
  obtain⟨jts,g2,p2,_⟩:=I.tuple (SqT.of hb)
  have m1:=g1.length
  have m2:=g2.length
  obtain⟨k,d,h1,h2,h3,h4⟩:=zef ne
  have kl:=(List.getElem?_eq_some_iff.mp h1).1
  have at_:∀ j (k1:j<its.toArray.size) (k2:j<jts.toArray.size),∃ (j1:j<xs.length) (j2:j<ys.length),RelV xs[j] its.toArray[j]∧RelV ys[j] jts.toArray[j]:=fun j k1 k2=>by
   have k1':j<xs.length:=by simpa [m1] using k1
   have k2':j<ys.length:=by simpa [m2] using k2
   obtain⟨w1,e1,q1⟩:=g1.get (List.getElem?_eq_getElem k1')
   obtain⟨w2,e2,q2⟩:=g2.get (List.getElem?_eq_getElem k2')
   have z1:its.toArray[j]=w1:=by simpa using (List.getElem?_eq_some_iff.mp e1).2
   have z2:jts.toArray[j]=w2:=by simpa using (List.getElem?_eq_some_iff.mp e2).2
   rw[z1,z2]
   exact⟨k1',k2',q1,q2⟩
  rw[h3]
  have b1:k<its.toArray.size:=by rw[List.size_toArray];lia
  have b2:k<jts.toArray.size:=by rw[List.size_toArray];lia
  obtain⟨j1,j2,r1,r2⟩:=at_ k b1 b2
  refine LtAt.tuples (k:=k) p1 p2 (by lia) b1 b2 (fun j k1 k2 hj=>?_) ?_ ?_
  ·obtain⟨j1,j2,r1,r2⟩:=at_ j k1 k2
   exact zkv I (h j _ _ _ (List.getElem?_eq_getElem j1) (List.getElem?_eq_getElem j2) (h4 j hj)) A.in1 _ _ (by show A.units+1+n<cLine;lia) r1 r2
  ·have:=zkv I (h k _ _ _ (List.getElem?_eq_getElem j1) (List.getElem?_eq_getElem j2) h1) A.in1 _ _ (by show A.units+1+n<cLine;lia) r1 r2
   rwa [show (d == Ordering.eq)=false from by simpa using h2]at this
  ·exact ih k _ _ _ (List.getElem?_eq_getElem j1) (List.getElem?_eq_getElem j2) h1 h2 A.in1 _ _ (by show A.units+1+n<cLine;lia) r1 r2
end
def Rk (H:Hp) (xs:List V) (rk:V→Int):Prop:=(∀ x∈xs,∃ i,x=.int i∧rk x=i)∨∃ n,n≤20∧∀ x∈xs,(∃ a f r,x=.ref a∧H a=some (.tup (.int f::r)))∧∀ y∈xs,Lx H n x y (compare (rk x) (rk y))
def vOf:Value→V
 | .int i _=>.int i
 | .ref a=>.ref a
 | _=>.non
theorem zee:∀ {xs:List V}{us:List Value},Vals xs us→(∀ x∈xs,(∃ i,x=.int i)∨∃ a,x=.ref a)→xs=us.map vOf∧∀ u∈us,RelV (vOf u) u
 | _,_,.nil,_=>⟨rfl,fun u hu=>by simp at hu⟩
 | x::xs,u::us,.cons r rs,h=>by
  obtain⟨e,f⟩:=zee rs fun y hy=>h y (List.mem_cons_of_mem _ hy)
  have one:vOf u=x∧RelV (vOf u) u:=by
   rcases h x List.mem_cons_self with ⟨i,rfl⟩|⟨a,rfl⟩
   ·obtain⟨t,rfl⟩:=r;exact⟨rfl,t,rfl⟩
   ·cases r;exact⟨rfl,rfl⟩
  refine⟨by rw[List.map_cons,one.1,← e],fun v hv=>?_⟩
  rcases List.mem_cons.mp hv with rfl|hv2
  ·exact one.2
  ·exact f v hv2
theorem zdx:∀ {us:List Value},(∀ u∈us,RelV (vOf u) u)→Vals (us.map vOf) us
 | [],_=>.nil
 | u::us,h=>.cons (h u List.mem_cons_self) (zdx fun v hv=>h v (List.mem_cons_of_mem _ hv))
theorem Rk.kinds {H:Hp}{xs:List V}{rk:V→Int}(h:Rk H xs rk):∀ x∈xs,(∃ i,x=.int i)∨∃ a,x=.ref a:=fun x hx=>by
 rcases h with h|⟨n,_,h⟩
 ·obtain⟨i,e,_⟩:=h x hx;exact .inl ⟨i,e⟩
 ·obtain⟨⟨a,_,_,e,_⟩,_⟩:=h x hx;exact .inr ⟨a,e⟩
section
variable {prog:Program}{w:World}{A:Around}{E:Value→Shared→Prop}{s:Shared}
theorem zix {u v:Value}{b:Bool}{Q:Bool→Shared→Prop}(l:LtAt A s u v b) (h:Q b s):wpAny (model prog w) A (oneLt' false u v) Q E s:=by
 rw[oneLt'_eq,if_neg Bool.false_ne_true]
 exact wpAny_bind (l prog w _ _ (wpAny_truthy_bool h))
theorem zkD {Q:Bool→Shared→Prop}(cs:List Ordering):∀ (us vs:List Value) (i:Nat),us.length=cs.length→vs.length=cs.length→(∀ (j:Nat) u v c,us[j]?=some u→vs[j]?=some v→cs[j]?=some c→SeqAt.EqAt A s u v (c == .eq)∧(c≠.eq→LtAt A s u v (c == .lt))) →
  (i=0→∀ u v c,us[0]?=some u→vs[0]?=some v→cs[0]?=some c→∃ a b t t',u=.int a t∧v=.int b t'∧c=compare a b)→Q (cs.foldr Ordering.then .eq == .lt) s→PySem.W.KatLex prog w A true false Q (us.zip vs) i s:=by
 induction cs with
 | nil =>
  intro us vs i l1 l2 _ _ q
  rw[List.length_eq_zero_iff.mp l1]
  exact PySem.W.kat_nil q
 | cons c cs ih =>
  intro us vs i l1 l2 h h0 q
  obtain⟨u,us,rfl⟩:∃ u us',us=u::us':=by
   cases us with
   | nil=>simp at l1
   | cons u us=>exact⟨u,us,rfl⟩
  obtain⟨v,vs,rfl⟩:∃ v vs',vs=v::vs':=by
   cases vs with
   | nil=>simp at l2
   | cons v vs=>exact⟨v,vs,rfl⟩
  have hh:=h 0 u v c rfl rfl rfl
  refine PySem.W.kat_cons (hh.1 prog w _ _ ?_)
  by_cases z:c=.eq
  ·subst z
   refine PySem.W.kat_yes (ih us vs (i+1) (by simpa using l1) (by simpa using l2) (fun j u v c a1 a2 a3=>h (j+1) u v c (by simpa using a1) (by simpa using a2) (by simpa using a3)) (fun e=>by lia) q)
  ·have e1:(c == Ordering.eq)=false:=by simpa using z
   have e2:(c::cs).foldr Ordering.then .eq=c:=by
    rw[List.foldr_cons]
    cases c<;>first|rfl|exact absurd rfl z
   rw[e2]at q
   rw[e1]
   refine PySem.W.kat_no ?_
   by_cases i0:i=0
   ·obtain⟨a,b,t,t',rfl,rfl,ec⟩:=h0 i0 u v c rfl rfl rfl
    subst i0
    rw[ec,(zcm a b).2]at q
    exact oneLt_int q
   ·have:(true && i == 0)=false:=by simpa using i0
    rw[this]
    exact zix (hh.2 z) q
end
section
variable {X:Cx}
theorem asks {pins:List (Addr × Obj)}{σ:St}{H:Hp}{s1:Shared}(I:Inv X pins σ H s1) (hu:X.A.units+64<cLine) {xs:List V}{vs:List Value}{rk:V→Int}(r:Vals xs vs) (R:Rk H xs rk) :
  ∃ κ:SortKind,(∀ h':Heap,(∀ c o,s1.heap.get? c=some o→h'.get? c=some o)→2≤vs.length→∀ (A':Around) {Q:SortKind→Shared→Prop}{E:Value→Shared→Prop},Q κ { s1 with heap:=h' }→wpAny (model X.prog X.w) A' (keyKind' vs.toArray) Q E { s1 with heap:=h' }) ∧
   (∀ h':Heap,(∀ c o,s1.heap.get? c=some o→h'.get? c=some o)→∀ (A':Around),A'.units≤X.A.units+8→Cmp X.prog X.w A' { s1 with heap:=h' } κ (fun p=>p.1∈vs) (fun p=>rk (vOf p.1))):=by
 obtain⟨ex,rel⟩:=zee r R.kinds
 have mem:∀ u∈vs,vOf u∈xs:=fun u hu=>by rw[ex];exact List.mem_map.mpr ⟨u,hu,rfl⟩
 rcases R with R|⟨n,hn,R⟩
 ·have nms:∀ u∈vs,∃ i t,u=.int i t∧rk (vOf u)=i:=fun u hu=>by
   obtain⟨i,e,ei⟩:=R _ (mem u hu)
   have ru:=rel u hu
   rw[e]at ru
   obtain⟨t,rfl⟩:=ru
   exact⟨i,t,rfl,ei⟩
  refine⟨oneType',fun h' k l2 A' Q E q=>PySem.W.kas_kind l2 (T:=.type "int") (fun v hv=>?_) (by decide) (by decide) q,fun h' k A' _=>⟨fun x y hx hy Q E q=>?_⟩⟩
  ·obtain⟨i,t,rfl,_⟩:=nms v hv
   exact PySem.W.Looks.of_pure rfl
  ·obtain⟨x1,x2⟩:=x
   obtain⟨y1,y2⟩:=y
   obtain⟨i,t,e1,r1⟩:=nms x1 hx
   obtain⟨j,t',e2,r2⟩:=nms y1 hy
   simp only at q
   rw[r1,r2]at q
   subst e1 e2
   show wpAny _ _ (keyLt' oneType' (.int i t) (.int j t')) _ _ _
   rw[keyLt'_oneType]
   exact oneLt_int q
 ·refine⟨tuples' (Value.type "int" != Value.type "tuple"),fun h' k l2 A' Q E q=>?_,fun h' k A' hA=>⟨fun x y hx hy Q E q=>?_⟩⟩
  ·have I':Inv X pins σ H { s1 with heap:=h',toks:=s1.toks }:=I.kept k
   have kt:∀ us:List Value,(∀ u∈us,vOf u∈xs∧RelV (vOf u) u)→∃ fs,PySem.W.KatTups h' us fs∧fs.length=us.length∧∀ f∈fs,∃ i t,f=Value.int i t:=by
    intro us
    induction us with
    | nil=>intro _;exact⟨[],PySem.W.KatTups.nil,rfl,fun f hf=>by simp at hf⟩
    | cons u us ih =>
     intro h
     obtain⟨fs,k1,k2,k3⟩:=ih fun v hv=>h v (List.mem_cons_of_mem _ hv)
     obtain⟨m1,r1⟩:=h u List.mem_cons_self
     obtain⟨⟨a,f,rr,e,ha⟩,_⟩:=R _ m1
     rw[e]at r1
     cases r1
     obtain⟨its,g,⟨o,eo,co,no,dt⟩,_⟩:=I'.tuple (SqT.of ha)
     obtain⟨f0,ef,⟨t0,rfl⟩⟩:=g.get (i:=0) (x:=.int f) rfl
     exact⟨_,PySem.W.KatTups.cons eo co dt (by simpa using ef) k1,by rw[List.length_cons,List.length_cons,k2],fun f' hf=>by
      rcases List.mem_cons.mp hf with rfl|hf
      ·exact⟨_,_,rfl⟩
      ·exact k3 f' hf⟩
   obtain⟨fs,k1,k2,k3⟩:=kt vs fun u hu=>⟨mem u hu,rel u hu⟩
   refine PySem.W.kat_kind (T:=.type "int") k1 (by lia) (fun v hv=>?_) (by decide) q
   obtain⟨i,t,rfl⟩:=k3 v hv
   exact PySem.W.Looks.of_pure rfl
  ·have I':Inv X pins σ H { s1 with heap:=h',toks:=s1.toks }:=I.kept k
   obtain⟨x1,x2⟩:=x
   obtain⟨y1,y2⟩:=y
   have rx:=rel x1 hx
   have ry:=rel y1 hy
   obtain⟨⟨a,f,xr,ea,ha⟩,lx⟩:=R _ (mem x1 hx)
   obtain⟨⟨b,g,yr,eb,hb⟩,_⟩:=R _ (mem y1 hy)
   have L:=lx _ (mem y1 hy)
   simp only at q
   rw[ea]at rx L q
   rw[eb]at ry L q
   cases rx;cases ry
   generalize hc:compare (rk (V.ref a)) (rk (V.ref b))=c at L
   rw[← (zcm (rk (V.ref a)) (rk (V.ref b))).2,hc]at q
   cases L with
   | @row n _ _ xs' ys' cs ha' hb' l1 l2 hL =>
    rw[ha]at ha';cases ha'
    rw[hb]at hb';cases hb'
    obtain⟨its,g1,⟨o1,eo1,co1,no1,dt1⟩,_⟩:=I'.tuple (SqT.of ha)
    obtain⟨jts,g2,⟨o2,eo2,co2,no2,dt2⟩,_⟩:=I'.tuple (SqT.of hb)
    have m1:=g1.length
    have m2:=g2.length
    show wpAny _ _ (keyLt' (tuples' true) (.ref a) (.ref b)) _ _ _
    refine PySem.W.kat_lt eo1 dt1 eo2 dt2 ?_
    have ds:decide (its.toArray.size<jts.toArray.size)=false:=decide_eq_false (by rw[List.size_toArray,List.size_toArray];lia)
    rw[ds]
    refine zkD cs its jts 0 (by lia) (by lia) (fun j u v c hu' hv hc'=>?_) (fun _ u v c hu' hv hc'=>?_) q
    ·have j1:j<(V.int f::xr).length:=by have:=(List.getElem?_eq_some_iff.mp hu').1;lia
     have j2:j<(V.int g::yr).length:=by have:=(List.getElem?_eq_some_iff.mp hv).1;lia
     obtain⟨u',e1,q1⟩:=g1.get (List.getElem?_eq_getElem j1)
     obtain⟨v',e2,q2⟩:=g2.get (List.getElem?_eq_getElem j2)
     rw[hu']at e1;obtain rfl:=Option.some.inj e1
     rw[hv]at e2;obtain rfl:=Option.some.inj e2
     have LL:=hL j _ _ c (List.getElem?_eq_getElem j1) (List.getElem?_eq_getElem j2) hc'
     exact⟨zkv I' LL A' _ _ (by lia) q1 q2,fun ne=>zl0 I' LL ne A' _ _ (by lia) q1 q2⟩
    ·obtain⟨u',e1,t1,r1⟩:=g1.get (i:=0) (x:=.int f) rfl
     obtain⟨v',e2,t2,r2⟩:=g2.get (i:=0) (x:=.int g) rfl
     rw[hu']at e1;obtain rfl:=Option.some.inj e1
     rw[hv]at e2;obtain rfl:=Option.some.inj e2
     have LL:=hL 0 (.int f) (.int g) c rfl rfl hc'
     cases LL
     exact⟨f,g,t1,t2,r1,r2,rfl⟩
end
section
variable {X:Cx}
end
def Zip2 (H:Hp) (ts xs ys:List V):Prop:=ts.length=xs.length∧∀ (i:Nat) t,ts[i]?=some t→∃ a x y,t=.ref a∧xs[i]?=some x∧ys[i]?=some y∧H a=some (.tup [x,y])
def zif (K:PySem.W.Frag) (b1 b2:Bool) (ta:TA):TE:=fun σ H Q=>ta σ H fun vs H1=>∃ a1 a2 xs ys,vs=[.ref a1,.ref a2]∧SqB b1 K H1 a1 xs∧SqB b2 K H1 a2 ys∧ys.length=xs.length∧xs.length≤10000 ∧
 ∀ ts H2,Same H1 H2→Zip2 H2 ts xs ys→∃ rk,Rk H2 ts rk∧∀ l zs,H2 l=none→zs.Perm ts→zs.Pairwise (fun x y=>rk x≤rk y)→Q (.ref l) (upd H2 l (.lst zs))
theorem zfK {X:Cx}{a b:Expr}{ta:TA}{p p2 pos pos2:Pos}(b1 b2:Bool) (hg:Gl X "sorted") (hm:X.mg "sorted" = none) (hg2:Gl X "zip") (hm2:X.mg "zip" = none) (hc:X.calm=true) (hu:X.A.units+64<cLine) (ha:PA X [a,b] ta)
  (he:starEach [Expr.Call (.Name "zip" p2) [a,b] [] pos2] X.env=[(false,eval (Expr.Call (.Name "zip" p2) [a,b] [] pos2) X.env)]:=by rfl)
  (hs:starEach [a,b] X.env=[(false,eval a X.env),(false,eval b X.env)]:=by rfl) (hs2:starEach [b] X.env=[(false,eval b X.env)]:=by rfl) :
  PE X (.Call (.Name "sorted" p) [.Call (.Name "zip" p2) [a,b] [] pos2] [] pos) (zif X.K b1 b2 ta):=by
 intro pins s σ H Q I h
 refine wpAny_Call_Name_kw (zaA I hg hm (u:=.builtin "sorted") (by rfl) (PyProof.Rows.callWith_builtin1 ?_ he rfl))
 rw[he]
 show wpAny _ _ (spliced ((false,eval (Expr.Call (.Name "zip" p2) [a,b] [] pos2) X.env)::[])) _ _ s
 refine Calls.spliced_cons ?_
 refine Call_ (zaA I hg2 hm2 (u:=.type "zip") (by rfl) (PyProof.Rows.callWith_type1 (thn (ha pos2 pins s σ H _ I h) fun us s1 ⟨vs,H1,I1,r1,q1⟩=>?_) (by rw[hs,hs2]) (by rw[hs2];rfl)))
 obtain⟨a1,a2,xs,ys,rfl,hq1,hq2,hl,hz,q⟩:=q1
 obtain⟨u,v,rfl,ru,rv⟩:=r1.two
 cases ru
 cases rv
 obtain⟨its,rx,pl1⟩:=I1.sq hq1
 obtain⟨jts,ry,pl2⟩:=I1.sq hq2
 have lx:=rx.length
 have ly:=ry.length
 refine callType_new F.called_zip (by decide) (F.typeCall_zip_2 _ _) (F.newCall_zip_2 _ _) (fun obj=>F.args_object_init_3 obj _ _) F.entry_zip_new (zce b1 b2 a1 a2 its.toArray jts.toArray) ⟨pl1,pl2,fun h' z ⟨TI,TO,i1,i2,nd,far,hzz,hI,hO,h1,h2⟩ hk=>⟨⟨_,hzz,rfl⟩,?_⟩⟩
 refine Calls.spliced_nil ?_
 have I2:Inv X pins σ H1 { s1 with heap:=h',toks:=s1.toks }:=I1.kept hk
 have fp:∀ c∈[z,TI,TO,i1,i2],FpOk X pins H1 c:=fun c hc=>I1.fpOk (far c hc) (I1.hok.fresh (far c hc))
 have na1:∀ c∈[z,TI,TO,i1,i2],c≠a1:=fun c hm=>I1.sq_ne hq1 (fp c hm)
 have na2:∀ c∈[z,TI,TO,i1,i2],c≠a2:=fun c hm=>I1.sq_ne hq2 (fp c hm)
 have nd':=nd
 simp only[List.nodup_cons,List.mem_cons,List.not_mem_nil,or_false,not_or]at nd'
 obtain⟨⟨zI,zO,z1,z2⟩,⟨IO,iI1,iI2⟩,⟨O1,O2⟩,n12,_⟩:=nd'
 have S:Sep z TI TO i1 i2 [i1,a1] [i2,a2]:=⟨nd,by simp[z1,na1 z (by simp)],by simp[O1,na1 TO (by simp)],by simp[Ne.symm n12,na1 i2 (by simp)],by simp[z2,na2 z (by simp)],by simp[O2,na2 TO (by simp)],by simp[n12,na2 i1 (by simp)]⟩
 have hd:=I1.ok.hd hc
 have q1':SqO b1 h' a1 its.toArray:=pl1.mv fun o e=>hk _ _ e
 have q2':SqO b2 h' a2 jts.toArray:=pl2.mv fun o e=>hk _ _ e
 have n12s:its.toArray.size=jts.toArray.size:=by rw[List.size_toArray,List.size_toArray];lia
 have D1:=zbI (prog:=X.prog) (w:=X.w) (A:=X.A.in1.in1.in1) hd b1 i1 a1 its.toArray (q1'.ne h1)
 have D2:=zbI (prog:=X.prog) (w:=X.w) (A:=X.A.in1.in1.in1) hd b2 i2 a2 jts.toArray (q2'.ne h2)
 rw[← n12s]at D2
 have low:∀ c∈[i1,a1]++[i2,a2],c<h'.objs.size:=fun c hc=>by
  obtain⟨o1,n1,e1,_⟩:=q1'.ob
  obtain⟨o2,n2,e2,_⟩:=q2'.ob
  simp only[List.cons_append,List.nil_append,List.mem_cons,List.not_mem_nil,or_false]at hc
  rcases hc with rfl|rfl|rfl|rfl
  ·exact Heap.lt_size h1
  ·exact Heap.lt_size e1
  ·exact Heap.lt_size h2
  ·exact Heap.lt_size e2
 have fpL:FpOk X pins H1 h'.objs.size:=I2.fpOk (Nat.le_refl _) (I2.hok.fresh (Nat.le_refl _))
 have lows:∀ c∈[z,TO,i1,i2],c<h'.objs.size:=fun c hc=>by
  simp only[List.mem_cons,List.not_mem_nil,or_false]at hc
  rcases hc with rfl|rfl|rfl|rfl
  ·exact Heap.lt_size hzz
  ·exact Heap.lt_size hO
  ·exact Heap.lt_size h1
  ·exact Heap.lt_size h2
 refine zjI (zfZ (J:=fun acc s'=>∃ (ts:List Addr) (Hk:Hp),Inv X pins σ Hk s'∧Same H1 Hk∧acc.toList=ts.map Value.ref∧(∀ (i:Nat) t,ts[i]?=some t→∃ x y,xs[i]?=some x∧ys[i]?=some y∧Hk t=some (.tup [x,y]))∧(∀ c∈[z,TO,i1,i2,h'.objs.size],FpOk X pins Hk c)) S D1 D2 (Nat.le_refl _) hzz hI hO ⟨h1,q1'⟩ ⟨h2,q2'⟩ low ?_ ?_ ?_ ?_ ?_)
 ·rw[List.size_toArray];exact Nat.le_trans (show _≤10000 by lia) (by decide)
 ·rintro acc s' h2' tk x y ⟨ts,Hk,Ik,sm,ea,ht,fk⟩ lt px py new kk
  have il:acc.size<xs.length:=by
   have b:acc.size<its.toArray.size:=(Array.getElem?_eq_some_iff.mp px).1
   have b2:its.toArray.size=its.length:=List.size_toArray ..
   lia
  obtain⟨u,e1,r1⟩:=rx.get (List.getElem?_eq_getElem il)
  obtain⟨v,e2,r2⟩:=ry.get (List.getElem?_eq_getElem (show acc.size<ys.length by lia))
  have px':its[acc.size]?=some x:=by simpa using px
  have py':jts[acc.size]?=some y:=by simpa using py
  rw[px']at e1;obtain rfl:=Option.some.inj e1
  rw[py']at e2;obtain rfl:=Option.some.inj e2
  have nT:∀ c∈[z,TO,i1,i2,h'.objs.size],c≠s'.heap.objs.size:=fun c hc=>by
   simp only[List.mem_cons,List.not_mem_nil,or_false]at hc
   rcases hc with rfl|rfl|rfl|rfl|rfl
   ·exact Nat.ne_of_lt (Nat.lt_trans (Heap.lt_size hzz) lt)
   ·exact Nat.ne_of_lt (Nat.lt_trans (Heap.lt_size hO) lt)
   ·exact Nat.ne_of_lt (Nat.lt_trans (Heap.lt_size h1) lt)
   ·exact Nat.ne_of_lt (Nat.lt_trans (Heap.lt_size h2) lt)
   ·exact Nat.ne_of_lt lt
  have fk4:∀ c∈[z,TO,i1,i2],FpOk X pins Hk c:=fun c hc=>fk c (by simp only[List.mem_cons,List.not_mem_nil,or_false]at hc ⊢;rcases hc with m|m|m|m<;>simp[m])
  have fr:Hk s'.heap.objs.size=none:=Ik.fresh
  have al:acc.size=ts.length:=by rw[← Array.length_toList,ea,List.length_map]
  refine⟨ts++[s'.heap.objs.size],_,Ik.spunN (fp:=[z,TO,i1,i2]) kk fk4 (Nat.le_refl _) (zcl new r1 r2),sm.trans (zaa fr _),by rw[Array.toList_push,ea,List.map_append];rfl,fun i t hi=>?_,fun c hc=>⟨by rw[zae (nT c hc)];exact(fk c hc).1,(fk c hc).2⟩⟩
  by_cases q:i<ts.length
  ·rw[List.getElem?_append_left q]at hi
   obtain⟨x',y',a1',a2',a3'⟩:=ht i t hi
   exact⟨x',y',a1',a2',zaa fr _ _ _ a3'⟩
  ·have il2:=(List.getElem?_eq_some_iff.mp hi).1
   rw[List.length_append]at il2
   have il3:i=ts.length:=by simp at il2;lia
   subst il3
   rw[List.getElem?_append_right (Nat.le_refl _),Nat.sub_self]at hi
   obtain rfl:s'.heap.objs.size=t:=by simpa using hi
   rw[← al]
   exact⟨_,_,List.getElem?_eq_getElem il,List.getElem?_eq_getElem (show acc.size<ys.length by lia),zab⟩
 ·rintro acc s' h2' tk ⟨ts,Hk,Ik,sm,ea,ht,fk⟩ kk
  exact⟨ts,Hk,Ik.spun (fp:=[z,TO,i1,i2,h'.objs.size]) kk fk,sm,ea,ht,fk⟩
 ·refine⟨[],H1,I2,Same.refl _,rfl,fun i t hi=>by simp at hi,fun c hc=>?_⟩
  simp only[List.mem_cons,List.not_mem_nil,or_false]at hc
  rcases hc with rfl|rfl|rfl|rfl|rfl
  ·exact fp _ (by simp)
  ·exact fp _ (by simp)
  ·exact fp _ (by simp)
  ·exact fp _ (by simp)
  ·exact fpL
 ·rintro h2' tk acc hn ⟨ts,Hk,Ik,sm,ea,ht,fk⟩ _ kk lt
  have tl:ts.length=xs.length:=by
   have:acc.toList.length=ts.length:=by rw[ea,List.length_map]
   rw[Array.length_toList,hn,List.size_toArray]at this;lia
  obtain⟨rk,Rr,fin⟩:=q (ts.map V.ref) Hk sm ⟨by rw[List.length_map];exact tl,fun i t hi=>by
   rw[List.getElem?_map]at hi
   obtain⟨t',e',rfl⟩:=Option.map_eq_some_iff.mp hi
   obtain⟨x,y,a1',a2',a3'⟩:=ht i t' e'
   exact⟨t',x,y,rfl,a1',a2',a3'⟩⟩
  have vr:Vals (ts.map V.ref) acc.toList:=by
   rw[ea]
   clear ht ea tl Rr fin
   induction ts with
   | nil=>exact .nil
   | cons t ts ih=>exact .cons rfl ih
  obtain⟨κ,ak,ac⟩:=asks Ik hu vr Rr
  refine⟨κ,fun u=>rk (vOf u),by rw[Array.length_toList,hn,List.size_toArray];lia,ak,ac,fun h3 l e out lo eo pm so k3=>?_⟩
  obtain⟨ex,rel⟩:=zee vr Rr.kinds
  have vo:Vals (out.map vOf) out:=zdx fun u hu=>rel u (pm.mem_iff.mp hu)
  refine⟨.ref l,_,Ik.laid (t':=tk) (o:=.lst (out.map vOf)) k3 lo ⟨?_,out,e,vo,eo⟩,rfl,fin l _ (Ik.hok.fresh lo) ?_ ?_⟩
  ·rw[List.length_map,pm.length_eq,Array.length_toList,hn,List.size_toArray];exact Nat.le_trans (show _≤10000 by lia) (by decide)
  ·rw[ex];exact pm.map vOf
  ·exact List.pairwise_map.mpr so
end L2
namespace Bn
open PySem L2 Own
theorem atNew {H:Hp}{a:Addr}(_:H a=none) (o:HO):L2.upd H a o a=some o:=zab
def decF (H:Hp):V→Fk
 | .ref g=>match H g with
  | some (.tup [.int a,.int b])=>(a.toNat,b.toNat)
  | _=>(0,0)
 | _=>(0,0)
def dec (H:Hp):V→Int × Fk
 | .ref t=>match H t with
  | some (.tup [.int l,x])=>(l,decF H x)
  | _=>(0,(0,0))
 | _=>(0,(0,0))
theorem zhV {H:Hp}{g:Addr}{f:Fk}(h:H g=some (.tup [.int f.1,.int f.2])):decF H (.ref g)=f:=by
 simp only[decF,h]
 obtain⟨a,b⟩:=f
 simp
theorem zlF {H:Hp}{t g:Addr}{l:Int}{f:Fk}(h:H t=some (.tup [.int l,.ref g])) (hg:H g=some (.tup [.int f.1,.int f.2])):dec H (.ref t)=(l,f):=by
 show (match H t with|some (.tup [.int l,x])=>(l,decF H x)|_=>(0,(0,0)))=(l,f)
 rw[h]
 show (l,decF H (.ref g))=(l,f)
 rw[zhV hg]
def Trp (H:Hp) (x:V) (p:Int × Fk):Prop:=∃ t g,x=.ref t∧H t=some (.tup [.int p.1,.ref g])∧H g=some (.tup [.int p.2.1,.int p.2.2])
theorem Trp.dec {H:Hp}{x:V}{p:Int × Fk}(h:Trp H x p):dec H x=p:=by
 obtain⟨t,g,rfl,h1,h2⟩:=h
 exact zlF h1 h2
theorem za4 {i j:Int}:(compare i j=.lt↔i<j)∧(compare i j=.eq↔i=j)∧(compare i j=.gt↔j<i):=by
 rw[show compare i j=compareOfLessAndEq i j from rfl]
 unfold compareOfLessAndEq
 by_cases h1:i<j
 ·rw[if_pos h1];simp[h1];lia
 ·rw[if_neg h1]
  by_cases h2:i=j
  ·rw[if_pos h2];simp[h2]
  ·rw[if_neg h2];simp[h1,h2];lia
theorem zjt {i j:Int}{c:Ordering}(h:(c=.lt→i<j)∧(c=.eq→i=j)∧(c=.gt→j<i)):compare i j=c:=by
 cases c with
 | lt=>exact za4.1.mpr (h.1 rfl)
 | eq=>exact za4.2.1.mpr (h.2.1 rfl)
 | gt=>exact za4.2.2.mpr (h.2.2 rfl)
theorem cmp2 {a b a' b':Int}(h1:0≤b∧b<32) (h2:0≤b'∧b'<32):compare (a*32+b) (a'*32+b')=(compare a a').then (compare b b'):=by
 apply zjt
 have c1:=@za4 a a'
 have c2:=@za4 b b'
 cases e:compare a a'<;>rw[e]at c1<;>simp at c1
 ·refine⟨fun _=>by lia,fun z=>?_,fun z=>?_⟩<;>cases z
 ·cases f:compare b b'<;>rw[f]at c2<;>simp at c2
  ·refine⟨fun _=>by lia,fun z=>?_,fun z=>?_⟩<;>cases z
  ·refine⟨fun z=>?_,fun _=>by lia,fun z=>?_⟩<;>cases z
  ·refine⟨fun z=>?_,fun z=>?_,fun _=>by lia⟩<;>cases z
 ·refine⟨fun z=>?_,fun z=>?_,fun _=>by lia⟩<;>cases z
theorem zku {H:Hp}{n:Nat}{g g':Addr}{f f':Fk}(h:H g=some (.tup [.int f.1,.int f.2])) (h':H g'=some (.tup [.int f'.1,.int f'.2])) (b:f.2<32) (b':f'.2<32) :
  Lx H (n+1) (.ref g) (.ref g') (compare ((f.1:Int)*32+f.2) ((f'.1:Int)*32+f'.2)):=by
 rw[cmp2 (by lia) (by lia)]
 exact Lx.pair h h' (.int _ _ _) (.int _ _ _)
theorem zlr {H:Hp}{x y:V}{p q:Int × Fk}(hx:Trp H x p) (hy:Trp H y q) (b:p.2.1<32∧p.2.2<32) (b':q.2.1<32∧q.2.2<32):Lx H 2 x y (compare (rnk p) (rnk q)):=by
 obtain⟨t,g,rfl,h1,h2⟩:=hx
 obtain⟨t',g',rfl,h3,h4⟩:=hy
 have e:compare (rnk p) (rnk q)=(compare p.1 q.1).then (compare ((p.2.1:Int)*32+p.2.2) ((q.2.1:Int)*32+q.2.2)):=by
  apply zjt
  have c1:=@za4 p.1 q.1
  have c2:=@za4 ((p.2.1:Int)*32+p.2.2) ((q.2.1:Int)*32+q.2.2)
  unfold rnk
  cases e:compare p.1 q.1<;>rw[e]at c1<;>simp at c1
  ·refine⟨fun _=>by lia,fun z=>?_,fun z=>?_⟩<;>cases z
  ·cases f:compare ((p.2.1:Int)*32+p.2.2) ((q.2.1:Int)*32+q.2.2)<;>rw[f]at c2<;>simp at c2
   ·refine⟨fun _=>by lia,fun z=>?_,fun z=>?_⟩<;>cases z
   ·refine⟨fun z=>?_,fun _=>by lia,fun z=>?_⟩<;>cases z
   ·refine⟨fun z=>?_,fun z=>?_,fun _=>by lia⟩<;>cases z
  ·refine⟨fun z=>?_,fun z=>?_,fun _=>by lia⟩<;>cases z
 rw[e]
 exact Lx.pair h1 h3 (.int _ _ _) (zku h2 h4 b.2 b'.2)
theorem zjw {H:Hp}{ts ps:List V}{ls:List Int}{fs:List Fk}(z:Zip2 H ts (ls.map V.int) ps) (pr:Prs H ps fs):ts.map (dec H)=ls.zip fs∧∀ x∈ts,Trp H x (dec H x):=by
 have pl:=pr.len
 have tl:=z.1
 rw[List.length_map]at tl
 have at_:∀ (i:Nat) t,ts[i]?=some t→∃ l f,ls[i]?=some l∧fs[i]?=some f∧Trp H t (l,f):=fun i t ht=>by
  obtain⟨a,x,y,rfl,hx,hy,ha⟩:=z.2 i t ht
  rw[List.getElem?_map]at hx
  obtain⟨l,hl,rfl⟩:=Option.map_eq_some_iff.mp hx
  obtain⟨g,f,rfl,hf,hg⟩:=pr.get hy
  exact⟨l,f,hl,hf,a,g,rfl,ha,hg⟩
 refine⟨List.ext_getElem? fun i=>?_,fun x hx=>?_⟩
 ·rw[List.getElem?_map]
  cases e:ts[i]? with
  | none =>
   have il:=List.getElem?_eq_none_iff.mp e
   exact(List.getElem?_eq_none_iff.mpr (by rw[List.length_zip];lia)).symm
  | some t =>
   obtain⟨l,f,hl,hf,tr⟩:=at_ i t e
   rw[Option.map_some,tr.dec]
   exact(List.getElem?_zip_eq_some.mpr ⟨hl,hf⟩).symm
 ·obtain⟨i,hi⟩:=List.mem_iff_getElem?.mp hx
  obtain⟨l,f,_,_,tr⟩:=at_ i x hi
  rw[tr.dec];exact tr
def IsFk (H:Hp) (x:V) (f:Fk):Prop:=∃ g,x=.ref g∧H g=some (.tup [.int f.1,.int f.2])
theorem IsFk.dec {H:Hp}{x:V}{f:Fk}(h:IsFk H x f):decF H x=f:=by
 obtain⟨g,rfl,e⟩:=h
 exact zhV e
theorem zji {H:Hp}:∀ {ps:List V},(∀ x∈ps,IsFk H x (decF H x))→Prs H ps (ps.map (decF H))
 | [],_=>trivial
 | x::ps,h=>by
  obtain⟨g,e,hg⟩:=h x List.mem_cons_self
  exact⟨⟨g,e,hg⟩,zji fun y hy=>h y (List.mem_cons_of_mem _ hy)⟩
theorem Prs.app {H:Hp}:∀ {ps qs:List V}{fs gs:List Fk},Prs H ps fs→Prs H qs gs→Prs H (ps++qs) (fs++gs)
 | [],_,[],_,_,h=>h
 | _::_,_,_::_,_,⟨x,r⟩,h=>⟨x,Prs.app r h⟩
theorem zla (N:Nt):pz N=(zau N).zip N.forks:=by
 rw[← zg0,← zdg]
 induction pz N with
 | nil=>rfl
 | cons x l ih=>rw[List.map_cons,List.map_cons,List.zip_cons_cons,← ih]
end Bn
namespace K70
open PySem L2 Own Bn
abbrev zgN:Stmt:=top 11
def zei:Sp:=fun vs H Q _=>∃ r fr er ps N,vs=[.ref r]∧Nt.Ok N∧NetAt H r fr er ps N∧∀ r' fr' ps' H',Same H H'→NetAt H' r' fr' er ps' (za7 N)→Q (.ref r') H'
section
variable {P:Program}{w:World}{K:PySem.W.Frag}{mg:Str→Option Value}{base:Heap}
theorem scPl:FnScope ["net","lanes","forks","ends"] ["net"] (zad zgN):=by trivial
theorem ziB {f fY:Addr}{fd dY:FuncData}(F:Fun K "plain" "plain" zgN f fd) (G:Mgs mg) (UY:Use P w K mg base "layers" ["net"] 1 zb6 fY dY):FnOk P w K mg base CX0 2 f fd ["net"] zei:=by
 refine F.ok scPl (fun vs H Q E h=>?_) (fun cdv A outer s H vs Q E hr h=>?_)
 ·obtain⟨r,fr,er,ps,N,rfl,_⟩:=h
  rfl
 obtain⟨r,fr,er,ps,N,rfl,ok,na,k⟩:=h
 refine⟨_,(@pss_cons _ _ _ _ _ (@ps_asg _ _ _ _ _ _ (@qv _ 0 _ _ (by trivial)) (@zap _ _ _ _ _ _ rfl (@pgs_cons _ _ _ _ _ (@pg_name _ _ 1 _ scPl.nd rfl (.inl rfl) (by first|exact .inl rfl|exact .inr rfl|assumption)) (@pgs_cons _ _ _ _ _ (@pg_name _ _ 2 _ scPl.nd rfl (.inl rfl) (by first|exact .inl rfl|exact .inr rfl|assumption)) (@pgs_cons _ _ _ _ _ (@pg_name _ _ 3 _ scPl.nd rfl (.inl rfl) (by first|exact .inl rfl|exact .inr rfl|assumption)) pgs_nil (by rfl)) (by rfl)) (by rfl)) (by rfl) (by rfl)) (by rfl) (by rfl) (by rfl)) (@pss_one _ _ _ (@ps_ret _ _ _ _ (@pe_tup _ _ _ _ _ (@pa_cons _ _ _ _ _ (@qv _ 1 _ _ (by trivial)) (@pa_cons _ _ _ _ _ (@pe_callTy _ _ _ _ _ _ _ _ _ call_tuple_of (by rfl) G.tuple (by rfl) (@pa_cons _ _ _ _ _ (@pe_lc _ _ _ _ none _ _ _ (gTup K 2 (zcv (zbG 0) (zcv (zbG 1) gNil))) _ _ ["layer","fork"] [none,none] rfl (@zdh _ _ _ _ (@zfK _ _ _ _ _ _ _ _ false false (by rfl) G.sorted (by rfl) G.zip rfl hr.units (@pa_cons _ _ _ _ _ (@pe_call _ _ _ _ _ _ _ _ _ _ _ _ _ _ _ _ UY.ok hr (by rfl) UY.m UY.kp UY.b .nil pass0 (@pa_cons _ _ _ _ _ (@qv _ 0 _ _ (by trivial)) pa_nil (by rfl)) (by decide) (by rfl) (by rfl)) (@pa_cons _ _ _ _ _ (@qv _ 2 _ _ (by trivial)) pa_nil (by rfl)) (by rfl)) (by rfl) (by rfl) (by rfl))) (CapOk.of (by kernel_rfl)) (fun _ _ _ _ _=>(@zap _ _ _ _ _ _ rfl (@pgs_cons _ _ _ _ _ (@pg_name _ _ 0 _ (show (["layer","fork"]:List Str).Nodup from by decide +kernel) rfl (.inl rfl) (.inr rfl)) (@pgs_cons _ _ _ _ _ (@pg_name _ _ 1 _ (show (["layer","fork"]:List Str).Nodup from by decide +kernel) rfl (.inl rfl) (.inr rfl)) pgs_nil (by rfl)) (by rfl)) (by rfl) (by rfl))) (fun _ _ _ _ _=>zaE) (fun _ _ _ _ _=>(@qv _ 1 _ _ (by trivial))) (by intro _;rfl)) pa_nil (by rfl)) (by decide) (by decide) (by rfl) (by rfl)) (@pa_cons _ _ _ _ _ (@qv _ 3 _ _ (by trivial)) pa_nil (by rfl)) (by rfl)) (by rfl)))))),?_⟩
 have fm:=ok.fm
 have pl:=na.prs.len
 have ll:=zbS N
 refine⟨_,rfl,r,_,rfl,SqT.of na.net,rfl,_,_,rfl,_,_,rfl,_,_,rfl,rfl,?_⟩
 refine⟨_,rfl,_,rfl,r,fr,er,ps,N,rfl,ok,na,fun p H1 s1 hp=>?_⟩
 have na1:=na.tups (Tups.of s1)
 refine⟨_,rfl,p,fr,_,ps,rfl,SqT.of hp,SqT.of na1.forks,by rw[List.length_map];lia,by rw[List.length_map];lia,fun ts H2 s2 z2=>?_⟩
 have na2:=na1.tups (Tups.of s2)
 obtain⟨te,tr⟩:=zjw z2 na2.prs
 rw[← zla]at te
 have low:∀ x∈ts,(dec H2 x).2.1<32∧(dec H2 x).2.2<32:=fun x hx=>zjf ok _ (by rw[← te];exact List.mem_map.mpr ⟨x,hx,rfl⟩)
 refine⟨fun x=>rnk (dec H2 x),.inr ⟨2,by decide,fun x hx=>⟨?_,fun y hy=>zlr (tr x hx) (tr y hy) (low x hx) (low y hy)⟩⟩,fun l zs hl pm so=>?_⟩
 ·obtain⟨t,g,rfl,h1,_⟩:=tr x hx
  exact⟨t,_,_,rfl,h1⟩
 have s3:=zaa hl (.lst zs)
 have zl:zs.length=N.forks.length:=by rw[pm.length_eq,z2.1,List.length_map];exact ll
 have ze:zs.map (dec H2)=zfX (pz N):=zcj ok (by rw[← te];exact pm.map _) (List.pairwise_map.mpr so)
 have trz:∀ x∈zs,Trp H2 x (dec H2 x):=fun x hx=>tr x (pm.mem_iff.mp hx)
 refine⟨l,rfl,⟨_,SqL.of (atNew hl (.lst zs))⟩,fun lq hlq=>?_⟩
 refine zkA (K:=K) (a:=l) (xs:=zs) (fun j acc σ H4=>(∃ v0 v1,σ=[v0,v1])∧Same H2 H4∧H4 l=some (.lst zs)∧H4 lq=some (.lst acc)∧acc.length=j∧Prs H4 acc ((zs.take j).map fun x=>(dec H2 x).2)) ⟨⟨_,_,rfl⟩,s3.trans (zaa hlq _),zaa hlq _ _ _ (atNew hl (.lst zs)),zab,rfl,trivial⟩ (fun j acc σ H4 q=>⟨q.2.2.2.1,SqL.of q.2.2.1⟩) ?_ ?_
 ·rintro j x acc σ H4 hx ⟨⟨v0,v1,rfl⟩,s4,l4,h4,al,pr⟩
  have jl:=(List.getElem?_eq_some_iff.mp hx).1
  obtain⟨t,g,e,h1,h2⟩:=trz x (List.mem_of_getElem? hx)
  have ne:lq≠l:=by rintro rfl;rw[atNew hl (.lst zs)]at hlq;cases hlq
  have keep:Same H2 (upd H4 lq (.lst (acc++[.ref g]))):=fun b o e=>by rw[zae (zac (s3 b o e) hlq)];exact s4 b o e
  refine⟨t,_,e,SqT.of (s4 _ _ h1),rfl,_,_,rfl,_,_,rfl,rfl,_,rfl,h4,Nat.lt_of_lt_of_le (show _<1000 by lia) (by decide),nx jl ⟨⟨_,_,rfl⟩,keep,by rw[zae ne.symm];exact l4,zab,by simp[al],?_⟩⟩
  have xe:zs[j]=x:=(List.getElem?_eq_some_iff.mp hx).2
  rw[List.take_succ_eq_append_getElem jl,List.map_append,xe]
  exact Prs.add (f:=(dec H2 x).2) (keep _ _ h2) (pr.tups (Tups.lst h4))
 ·rintro acc σ H4 ⟨⟨v0,v1,rfl⟩,s4,l4,h4,al,pr⟩
  rw[List.take_length]at pr
  have pe:(zs.map fun x=>(dec H2 x).2)=zcJ N:=by
   unfold zcJ
   rw[← ze,List.map_map];rfl
  rw[pe]at pr
  refine⟨lq,_,rfl,.inl ⟨SqL.of h4,fun q hq=>?_⟩⟩
  have s5:=zaa hq (.tup acc)
  refine⟨_,rfl,(by show 3≤sizeLine;decide),fun r' hr'=>?_⟩
  have s6:=zaa hr' (.tup [.int N.lanes,.ref q,.ref er])
  refine k r' q acc _ ((((s1.trans s2).trans s4).trans s5).trans s6) ⟨atNew hr' _,s6 _ _ (atNew hq _),pr.tups (Tups.of (s5.trans s6)),?_⟩
  exact s6 _ _ (s5 _ _ (s4 _ _ na2.ends))
end
end K70
namespace Bn
open PySem L2 Own
end Bn
namespace L2
open PySem PySem.Spec PyProof.Rows Own Ts
section
variable {X:Cx}{pins:List (Addr × Obj)}{σ:St}{H:Hp}{s:Shared}
theorem Inv.adopt {T:Addr}{o:HO}(I:Inv X pins σ H s) (hf:FpOk X pins H T) (new:ObjOk X.prog X.w (upd H T o) s.heap T o):Inv X pins σ (upd H T o) s:=by
 have hn:=hf.1
 have J:Inv X pins σ (upd H T o) { s with heap:=s.heap,gens:=s.gens,drawn:=s.drawn,toks:=s.toks }:=by
  refine I.step (ch:=[T]) (fun b hb=>?_) (fun b u _ _ _ e _=>e) (fun b u _ _ _ e _=>⟨u.slots,e⟩) (fun b u hc _ n=>by rw[zae fun q=>hc (List.mem_singleton.mpr q)];exact n)
   (fun b u _ e=>⟨u,e⟩) (fun b xs e=>by rw[zae (zac e hn)];exact e) (fun b u x e=>by rw[zae (zac e hn)];exact e) (fun b ps e=>⟨#[],by rw[zae (zac e hn),e];simp⟩) (fun m hm=>hm) (fun b u e=>?_) I.bare
  ·have only:=List.mem_singleton.mp hb
   subst only
   exact⟨hf.2.2.2.1,hf.2.1,hf.2.2.2.2.1,hf.2.2.2.2.2⟩
  ·by_cases hb:b=T
   ·subst hb;rw[zab]at e;cases e;exact new
   ·rw[zae hb]at e
    exact(I.hok b u e).stay (fun c v _ q=>q) (fun c q=>by rw[zae (zac q hn)];exact q) fun c xs q=>by rw[zae (zac q hn)];exact q
 exact J
end
def zjC (K:PySem.W.Frag) (b1 b2:Bool) (ta:TA):TE:=fun σ H Q=>ta σ H fun vs H1=>∃ a1 a2 xs ys,vs=[.ref a1,.ref a2]∧SqB b1 K H1 a1 xs∧SqB b2 K H1 a2 ys∧xs.length≤ys.length∧xs.length≤10000 ∧
 ∀ l ts H2,Same H1 H2→H1 l=none→H2 l=none→Zip2 H2 ts xs ys→Q (.ref l) (upd H2 l (.lst ts))
theorem zck {X:Cx}{a b:Expr}{ta:TA}{p p2 pos pos2:Pos}(b1 b2:Bool) (hg:Gl X "list") (hm:X.mg "list" = none) (hg2:Gl X "zip") (hm2:X.mg "zip" = none) (hc:X.calm=true) (ha:PA X [a,b] ta)
  (he:starEach [Expr.Call (.Name "zip" p2) [a,b] [] pos2] X.env=[(false,eval (Expr.Call (.Name "zip" p2) [a,b] [] pos2) X.env)]:=by rfl)
  (hs:starEach [a,b] X.env=[(false,eval a X.env),(false,eval b X.env)]:=by rfl) (hs2:starEach [b] X.env=[(false,eval b X.env)]:=by rfl) :
  PE X (.Call (.Name "list" p) [.Call (.Name "zip" p2) [a,b] [] pos2] [] pos) (zjC X.K b1 b2 ta):=by
 intro pins s σ H Q I h
 refine wpAny_Call_Name_kw (zaA I hg hm (u:=.type "list") (by rfl) (PyProof.Rows.callWith_type1 ?_ he rfl))
 rw[he]
 refine Calls.spliced_cons ?_
 refine Call_ (zaA I hg2 hm2 (u:=.type "zip") (by rfl) (PyProof.Rows.callWith_type1 (thn (ha pos2 pins s σ H _ I h) fun us s1 ⟨vs,H1,I1,r1,q1⟩=>?_) (by rw[hs,hs2]) (by rw[hs2];rfl)))
 obtain⟨a1,a2,xs,ys,rfl,hq1,hq2,hl,hz,q⟩:=q1
 obtain⟨u,v,rfl,ru,rv⟩:=r1.two
 cases ru
 cases rv
 obtain⟨its,rx,pl1⟩:=I1.sq hq1
 obtain⟨jts,ry,pl2⟩:=I1.sq hq2
 have lx:=rx.length
 have ly:=ry.length
 refine callType_new F.called_zip (by decide) (F.typeCall_zip_2 _ _) (F.newCall_zip_2 _ _) (fun obj=>F.args_object_init_3 obj _ _) F.entry_zip_new (zce b1 b2 a1 a2 its.toArray jts.toArray) ⟨pl1,pl2,fun h' z ⟨TI,TO,i1,i2,nd,far,hzz,hI,hO,h1,h2⟩ hk=>⟨⟨_,hzz,rfl⟩,?_⟩⟩
 refine Calls.spliced_nil ?_
 have I2:Inv X pins σ H1 { s1 with heap:=h',toks:=s1.toks }:=I1.kept hk
 have fp:∀ c∈[z,TI,TO,i1,i2],FpOk X pins H1 c:=fun c hc=>I1.fpOk (far c hc) (I1.hok.fresh (far c hc))
 have na1:∀ c∈[z,TI,TO,i1,i2],c≠a1:=fun c hm=>I1.sq_ne hq1 (fp c hm)
 have na2:∀ c∈[z,TI,TO,i1,i2],c≠a2:=fun c hm=>I1.sq_ne hq2 (fp c hm)
 have nd':=nd
 simp only[List.nodup_cons,List.mem_cons,List.not_mem_nil,or_false,not_or]at nd'
 obtain⟨⟨zI,zO,z1,z2⟩,⟨IO,iI1,iI2⟩,⟨O1,O2⟩,n12,_⟩:=nd'
 have S:Sep z TI TO i1 i2 [i1,a1] [i2,a2]:=⟨nd,by simp[z1,na1 z (by simp)],by simp[O1,na1 TO (by simp)],by simp[Ne.symm n12,na1 i2 (by simp)],by simp[z2,na2 z (by simp)],by simp[O2,na2 TO (by simp)],by simp[n12,na2 i1 (by simp)]⟩
 have hd:=I1.ok.hd hc
 have q1':SqO b1 h' a1 its.toArray:=pl1.mv fun o e=>hk _ _ e
 have q2':SqO b2 h' a2 jts.toArray:=pl2.mv fun o e=>hk _ _ e
 have D1:=zbI (prog:=X.prog) (w:=X.w) (A:=X.A.in1.in1.in1) hd b1 i1 a1 its.toArray (q1'.ne h1)
 have D2:=zbI (prog:=X.prog) (w:=X.w) (A:=X.A.in1.in1.in1) hd b2 i2 a2 jts.toArray (q2'.ne h2)
 have low:∀ c∈[i1,a1]++[i2,a2],c<h'.objs.size:=fun c hc=>by
  obtain⟨o1,n1,e1,_⟩:=q1'.ob
  obtain⟨o2,n2,e2,_⟩:=q2'.ob
  simp only[List.cons_append,List.nil_append,List.mem_cons,List.not_mem_nil,or_false]at hc
  rcases hc with rfl|rfl|rfl|rfl
  ·exact Heap.lt_size h1
  ·exact Heap.lt_size e1
  ·exact Heap.lt_size h2
  ·exact Heap.lt_size e2
 have fpL:FpOk X pins H1 h'.objs.size:=I2.fpOk (Nat.le_refl _) (I2.hok.fresh (Nat.le_refl _))
 refine ziR (J:=fun acc s'=>∃ (ts:List Addr) (Hk:Hp),Inv X pins σ Hk s'∧Same H1 Hk∧acc.toList=ts.map Value.ref∧(∀ (i:Nat) t,ts[i]?=some t→∃ x y,xs[i]?=some x∧ys[i]?=some y∧Hk t=some (.tup [x,y]))∧(∀ c∈[z,TO,i1,i2,h'.objs.size],FpOk X pins Hk c)) S D1 D2 (by rw[List.size_toArray,List.size_toArray];lia) hzz hI hO ⟨h1,q1'⟩ ⟨h2,q2'⟩ low ?_ ?_ ?_ ?_ ?_
 ·rw[List.size_toArray];exact Nat.le_trans (show _≤10000 by lia) (by decide)
 ·rintro acc s' h2' tk x y ⟨ts,Hk,Ik,sm,ea,ht,fk⟩ lt px py new kk
  have il:acc.size<xs.length:=by
   have b:acc.size<its.toArray.size:=(Array.getElem?_eq_some_iff.mp px).1
   have b2:its.toArray.size=its.length:=List.size_toArray ..
   lia
  obtain⟨u,e1,r1⟩:=rx.get (List.getElem?_eq_getElem il)
  obtain⟨v,e2,r2⟩:=ry.get (List.getElem?_eq_getElem (show acc.size<ys.length by lia))
  have px':its[acc.size]?=some x:=by simpa using px
  have py':jts[acc.size]?=some y:=by simpa using py
  rw[px']at e1;obtain rfl:=Option.some.inj e1
  rw[py']at e2;obtain rfl:=Option.some.inj e2
  have nT:∀ c∈[z,TO,i1,i2,h'.objs.size],c≠s'.heap.objs.size:=fun c hc=>by
   simp only[List.mem_cons,List.not_mem_nil,or_false]at hc
   rcases hc with rfl|rfl|rfl|rfl|rfl
   ·exact Nat.ne_of_lt (Nat.lt_trans (Heap.lt_size hzz) lt)
   ·exact Nat.ne_of_lt (Nat.lt_trans (Heap.lt_size hO) lt)
   ·exact Nat.ne_of_lt (Nat.lt_trans (Heap.lt_size h1) lt)
   ·exact Nat.ne_of_lt (Nat.lt_trans (Heap.lt_size h2) lt)
   ·exact Nat.ne_of_lt lt
  have fk4:∀ c∈[z,TO,i1,i2],FpOk X pins Hk c:=fun c hc=>fk c (by simp only[List.mem_cons,List.not_mem_nil,or_false]at hc ⊢;rcases hc with m|m|m|m<;>simp[m])
  have fr:Hk s'.heap.objs.size=none:=Ik.fresh
  have al:acc.size=ts.length:=by rw[← Array.length_toList,ea,List.length_map]
  refine⟨ts++[s'.heap.objs.size],_,Ik.spunN (fp:=[z,TO,i1,i2]) kk fk4 (Nat.le_refl _) (zcl new r1 r2),sm.trans (zaa fr _),by rw[Array.toList_push,ea,List.map_append];rfl,fun i t hi=>?_,fun c hc=>⟨by rw[zae (nT c hc)];exact(fk c hc).1,(fk c hc).2⟩⟩
  by_cases q:i<ts.length
  ·rw[List.getElem?_append_left q]at hi
   obtain⟨x',y',a1',a2',a3'⟩:=ht i t hi
   exact⟨x',y',a1',a2',zaa fr _ _ _ a3'⟩
  ·have il2:=(List.getElem?_eq_some_iff.mp hi).1
   rw[List.length_append]at il2
   have il3:i=ts.length:=by simp at il2;lia
   subst il3
   rw[List.getElem?_append_right (Nat.le_refl _),Nat.sub_self]at hi
   obtain rfl:s'.heap.objs.size=t:=by simpa using hi
   rw[← al]
   exact⟨_,_,List.getElem?_eq_getElem il,List.getElem?_eq_getElem (show acc.size<ys.length by lia),zab⟩
 ·rintro acc s' h2' tk ⟨ts,Hk,Ik,sm,ea,ht,fk⟩ kk
  exact⟨ts,Hk,Ik.spun (fp:=[z,TO,i1,i2,h'.objs.size]) kk fk,sm,ea,ht,fk⟩
 ·refine⟨[],H1,I2,Same.refl _,rfl,fun i t hi=>by simp at hi,fun c hc=>?_⟩
  simp only[List.mem_cons,List.not_mem_nil,or_false]at hc
  rcases hc with rfl|rfl|rfl|rfl|rfl
  ·exact fp _ (by simp)
  ·exact fp _ (by simp)
  ·exact fp _ (by simp)
  ·exact fp _ (by simp)
  ·exact fpL
 ·rintro h2' tk acc c' an ⟨ts,Hk,Ik,sm,ea,ht,fk⟩ K a3
  have fL:=fk h'.objs.size (by simp)
  have tl:ts.length=xs.length:=by
   have:acc.size=ts.length:=by rw[← Array.length_toList,ea,List.length_map]
   have b2:its.toArray.size=its.length:=List.size_toArray ..
   lia
  have vals:∀ l:List Addr,Vals (l.map V.ref) (l.map Value.ref):=fun l=>by
   induction l with
   | nil=>exact .nil
   | cons x l ih=>exact .cons rfl ih
  have new:ObjOk X.prog X.w (upd Hk h'.objs.size (.lst (ts.map V.ref))) h2' h'.objs.size (.lst (ts.map V.ref)):=⟨by rw[List.length_map,tl];exact Nat.le_trans hz (by decide),ts.map Value.ref,c',vals ts,by rw[a3,← ea]⟩
  refine⟨.ref _,_,Ik.adopt fL new,rfl,q h'.objs.size (ts.map V.ref) Hk sm fpL.1 fL.1 ⟨by rw[List.length_map];exact tl,fun i t hi=>?_⟩⟩
  rw[List.getElem?_map]at hi
  obtain⟨t',et,rfl⟩:=Option.map_eq_some_iff.mp hi
  obtain⟨x,y,e1,e2,e3⟩:=ht i t' et
  exact⟨t',x,y,rfl,e1,e2,e3⟩
end L2
namespace L2
open PySem PySem.Spec PyProof.Rows Own
section
variable {X:Cx}{tg:Expr}
end
end L2
namespace Bn
open PySem L2 Own
def zaM:Nat→List Nat→List Fk
 | 0,_=>[]
 | m+1,row=>if row.length<2 then [] else (row.take (row.length / 2)).zip row.reverse++zaM m (row.take (row.length / 2))++zaM m (row.drop (row.length / 2))
def zbP (k:Nat):Nt:=⟨2 ^ k,(List.replicate k (zaM k (List.range (2 ^ k)))).flatten,List.range (2 ^ k)⟩
def rowF (size b:Nat):List Fk:=(List.range (size / 2)).map fun i=>(b*size+i,b*size+size-1-i)
def zlu (k j:Nat):List Fk:=(List.range (2 ^ j)).flatMap (rowF (2 ^ (k-j)))
def zlL (k:Nat):List Fk:=(List.range k).flatMap (zlu k)
def dueN (k:Nat):Nt:=⟨2 ^ k,(List.replicate k (zlL k)).flatten,List.range (2 ^ k)⟩
theorem zfG:∀ k,k<5→(zbP k).forks.length≤128∧∀ f∈(zbP k).forks,f.1<2 ^ k∧f.2<2 ^ k∧f.1≠f.2:=by decide +kernel
theorem zgY {k:Nat}(h:k<5):(zbP k).Ok:=by
 obtain⟨a,b⟩:=zfG k h
 refine⟨Nat.one_le_two_pow,?_,a,b,.refl _⟩
 show 2 ^ k≤2 ^ 4
 exact Nat.pow_le_pow_right (show 0<2 by decide) (show k≤4 by lia)
theorem zdH:∀ k,k<5→zcJ (zbP k)=(dueN k).forks:=by decide +kernel
theorem zfH {k:Nat}(h:k<5):za7 (zbP k)=dueN k:=by
 unfold za7
 rw[zdH k h];rfl
theorem zbi:∀ (m:Nat) (row:List Nat),(zaM m row).length≤m*row.length
 | 0,_=>Nat.zero_le _
 | m+1,row=>by
  unfold zaM
  split
  ·exact Nat.zero_le _
  ·rw[List.length_append,List.length_append,List.length_zip,List.length_take]
   have a:=zbi m (row.take (row.length / 2))
   have b:=zbi m (row.drop (row.length / 2))
   rw[List.length_take]at a
   rw[List.length_drop]at b
   have c:m*min (row.length / 2) row.length+m*(row.length-row.length / 2)=m*row.length:=by
    rw[← Nat.mul_add];congr 1;lia
   rw[Nat.succ_mul]
   lia
theorem zew {H:Hp}{ts:List V}{a b:List Nat}(z:Zip2 H ts (nums a) (nums b)) (hl:a.length≤b.length):Prs H ts (a.zip b):=by
 have tl:=z.1
 rw[zag]at tl
 have all:∀ (i:Nat) t,ts[i]?=some t→IsFk H t ((a.zip b).getD i (0,0)):=fun i t ht=>by
  obtain⟨c,x,y,rfl,hx,hy,hc⟩:=z.2 i t ht
  unfold nums at hx hy
  rw[List.getElem?_map]at hx hy
  obtain⟨x',ex,rfl⟩:=Option.map_eq_some_iff.mp hx
  obtain⟨y',ey,rfl⟩:=Option.map_eq_some_iff.mp hy
  have both:(a.zip b)[i]?=some (x',y'):=List.getElem?_zip_eq_some.mpr ⟨ex,ey⟩
  rw[List.getD_eq_getElem?_getD,both]
  exact⟨c,rfl,hc⟩
 have mp:ts.map (decF H)=a.zip b:=by
  refine List.ext_getElem? fun i=>?_
  rw[List.getElem?_map]
  cases e:ts[i]? with
  | none =>
   have il:=List.getElem?_eq_none_iff.mp e
   exact(List.getElem?_eq_none_iff.mpr (by rw[List.length_zip];lia)).symm
  | some t =>
   have il:=(List.getElem?_eq_some_iff.mp e).1
   rw[Option.map_some,(all i t e).dec,List.getD_eq_getElem?_getD,List.getElem?_eq_getElem (by rw[List.length_zip];lia)];rfl
 rw[← mp]
 refine zji fun x hx=>?_
 obtain⟨i,hi⟩:=List.mem_iff_getElem?.mp hx
 rw[(all i x hi).dec]
 exact all i x hi
end Bn
namespace K70
open PySem L2 Own Bn
abbrev sPow:Stmt:=top 17
abbrev zgM:Stmt:=top 36
abbrev zde:Stmt:=top 37
def zjG:Sp:=fun vs H Q _=>∃ m:Nat,vs=[.int m]∧m≤20∧Q (.int ((2 ^ m:Nat):Int)) H
def zc2:Sp:=fun vs H Q _=>∃ m:Nat,vs=[.int m]∧m≤10∧∀ l,H l=none→Q (.ref l) (upd H l (.lst (nums (List.range (2 ^ m)))))
def zby:Sp:=fun vs H Q _=>∃ (p c lf le:Addr) (ps:List V) (fs:List Fk) (row es:List Nat),vs=[.ref p,.ref c]∧H p=some (.lst (nums row))∧H c=some (.tup [.ref lf,.ref le])∧H lf=some (.lst ps)∧Prs H ps fs∧H le=some (.lst (nums es))∧Nt.Ok ⟨row.length,fs,es⟩ ∧
 ∀ r' fr' er' ps' H',Same H H'→NetAt H' r' fr' er' ps' (za7 ⟨row.length,fs,es⟩)→Q (.ref r') H'
section
variable {P:Program}{w:World}{K:PySem.W.Frag}{mg:Str→Option Value}{base:Heap}
theorem scP2:FnScope ["many","power","doubling"] ["many"] (zad sPow):=by trivial
theorem zll {f:Addr}{fd:FuncData}(F:Fun K "power_of_two" "power_of_two" sPow f fd) (G:Mgs mg):FnOk P w K mg base CX0 1 f fd ["many"] zjG:=by
 refine F.ok scP2 (fun vs H Q E h=>?_) (fun cdv A outer s H vs Q E hr h=>?_)
 ·obtain⟨m,rfl,_⟩:=h
  rfl
 obtain⟨m,rfl,hm,k⟩:=h
 refine⟨_,(@pss_cons _ _ _ _ _ (@ps_set _ _ 1 _ _ _ _ scP2.nd rfl (.inl rfl) pe_int (by rfl) (by first|exact .inl rfl|exact .inr rfl|assumption)) (@pss_cons _ _ _ _ _ (@ps_for _ _ _ _ _ _ _ _ PassesOwn.never rfl (@pi_range1 _ _ _ _ _ _ rfl G.range (@pa_cons _ _ _ _ _ (@qv _ 0 _ _ (by trivial)) pa_nil (by rfl)) (by rfl)) (@pg_name _ _ 2 _ scP2.nd rfl (.inl rfl) (by first|exact .inl rfl|exact .inr rfl|assumption)) (@pss_one _ _ _ (@zjh _ _ 1 _ _ _ _ _ _ scP2.nd rfl (.inl rfl) pe_int zhG (by first|exact .inl rfl|exact .inr rfl|assumption))) (by intro _;rfl)) (@pss_one _ _ _ (@ps_ret _ _ _ _ (@qv _ 1 _ _ (by trivial)))))),?_⟩
 refine⟨_,rfl,m,rfl,by lia,by lia,zav (lo:=0) (n:=((m:Nat):Int).toNat) (fun i σ H2=>H2=H∧∃ v2,σ=[some (.int m),some (.int ((2 ^ i:Nat):Int)),v2]) ⟨rfl,_,rfl⟩ ?_ ?_⟩
 ·rintro i σ H2 hi ⟨rfl,v2,rfl⟩
  refine⟨_,rfl,_,_,rfl,rfl,.inr ⟨by decide,by decide⟩,rfl,some (.int (0+(i:Nat))),?_⟩
  rw[← show ((2 ^ i:Nat):Int)*2=((2 ^ (i+1):Nat):Int) from by rw[Nat.pow_succ,Int.natCast_mul];rfl];rfl
 ·rintro σ H2 ⟨rfl,v2,rfl⟩
  refine⟨_,rfl,?_⟩
  rw[show ((m:Nat):Int).toNat=m from by lia]
  exact k
theorem scRo:FnScope ["k"] ["k"] (zad zgM):=by trivial
theorem ziA {f fP:Addr}{fd dP:FuncData}(F:Fun K "row_of" "row_of" zgM f fd) (G:Mgs mg) (UP:Use P w K mg base "power_of_two" ["many"] 1 zjG fP dP):FnOk P w K mg base CX0 2 f fd ["k"] zc2:=by
 refine F.ok scRo (fun vs H Q E h=>?_) (fun cdv A outer s H vs Q E hr h=>?_)
 ·obtain⟨m,rfl,_⟩:=h
  rfl
 obtain⟨m,rfl,hm,k⟩:=h
 refine⟨_,(@pss_one _ _ _ (@ps_ret _ _ _ _ (@zg9 _ _ _ _ _ _ _ rfl (by rfl) G.list (by rfl) G.range (@pa_cons _ _ _ _ _ (@pe_call _ _ _ _ _ _ _ _ _ _ _ _ _ _ _ _ UP.ok hr (by rfl) UP.m UP.kp UP.b .nil pass0 (@pa_cons _ _ _ _ _ (@qv _ 0 _ _ (by trivial)) pa_nil (by rfl)) (by decide) (by rfl) (by rfl)) pa_nil (by rfl)) (by rfl) (by rfl)))),?_⟩
 have b:2 ^ m≤2 ^ 10:=Nat.pow_le_pow_right (by decide) hm
 exact⟨_,rfl,m,rfl,by lia,2 ^ m,rfl,Nat.le_trans b (by decide),fun l hl=>k l hl⟩
theorem scMn:FnScope ["row","made","forks","ends"] ["row","made"] (zad zde):=by trivial
theorem zfO {f fP:Addr}{fd dP:FuncData}(F:Fun K "net_of" "net_of" zde f fd) (G:Mgs mg) (UP:Use P w K mg base "plain" ["net"] 2 zei fP dP):FnOk P w K mg base CX0 3 f fd ["row","made"] zby:=by
 refine F.ok scMn (fun vs H Q E h=>?_) (fun cdv A outer s H vs Q E hr h=>?_)
 ·obtain⟨p,c,lf,le,ps,fs,row,es,rfl,_⟩:=h
  rfl
 obtain⟨p,c,lf,le,ps,fs,row,es,rfl,hp,hc,hlf,pr,hle,ok,k⟩:=h
 refine⟨_,(@pss_cons _ _ _ _ _ (@ps_asg _ _ _ _ _ _ (@qv _ 1 _ _ (by trivial)) (@zap _ _ _ _ _ _ rfl (@pgs_cons _ _ _ _ _ (@pg_name _ _ 2 _ scMn.nd rfl (.inl rfl) (by first|exact .inl rfl|exact .inr rfl|assumption)) (@pgs_cons _ _ _ _ _ (@pg_name _ _ 3 _ scMn.nd rfl (.inl rfl) (by first|exact .inl rfl|exact .inr rfl|assumption)) pgs_nil (by rfl)) (by rfl)) (by rfl) (by rfl)) (by rfl) (by rfl) (by rfl)) (@pss_one _ _ _ (@ps_ret _ _ _ _ (@pe_call _ _ _ _ _ _ _ _ _ _ _ _ _ _ _ _ UP.ok hr (by rfl) UP.m UP.kp UP.b .nil pass0 (@pa_cons _ _ _ _ _ (@pe_tup _ _ _ _ _ (@pa_cons _ _ _ _ _ (@pe_callB _ _ _ _ _ _ _ _ _ call_len_seq (by rfl) G.len PySem.boot_len (@pa_cons _ _ _ _ _ (@qv _ 0 _ _ (by trivial)) pa_nil (by rfl)) (by decide) (by decide) (by rfl) (by rfl)) (@pa_cons _ _ _ _ _ (@pe_callTy _ _ _ _ _ _ _ _ _ call_tuple_of (by rfl) G.tuple (by rfl) (@pa_cons _ _ _ _ _ (@qv _ 2 _ _ (by trivial)) pa_nil (by rfl)) (by decide) (by decide) (by rfl) (by rfl)) (@pa_cons _ _ _ _ _ (@pe_callTy _ _ _ _ _ _ _ _ _ call_tuple_of (by rfl) G.tuple (by rfl) (@pa_cons _ _ _ _ _ (@qv _ 3 _ _ (by trivial)) pa_nil (by rfl)) (by decide) (by decide) (by rfl) (by rfl)) pa_nil (by rfl)) (by rfl)) (by rfl))) pa_nil (by rfl)) (by decide) (by rfl) (by rfl))))),?_⟩
 refine⟨_,rfl,c,_,rfl,SqT.of hc,rfl,_,_,rfl,_,_,rfl,rfl,?_⟩
 refine⟨_,rfl,p,_,rfl,.inl (SqL.of hp),_,rfl,lf,_,rfl,.inl ⟨SqL.of hlf,fun fr hfr=>?_⟩⟩
 have s1:=zaa hfr (.tup ps)
 refine⟨_,rfl,le,_,rfl,.inl ⟨SqL.of (s1 _ _ hle),fun er her=>?_⟩⟩
 have s2:=zaa her (.tup (nums es))
 refine⟨(by show 3≤sizeLine;decide),fun r hr'=>?_⟩
 have s3:=zaa hr' (.tup [.int ((nums row).length:Nat),.ref fr,.ref er])
 have n3:L2.upd (L2.upd (L2.upd H fr (.tup ps)) er (.tup (nums es))) r (.tup [.int ((nums row).length:Nat),.ref fr,.ref er]) r=some (.tup [.int (row.length:Nat),.ref fr,.ref er]):=by rw[zab,zag]
 refine⟨r,fr,er,ps,⟨row.length,fs,es⟩,rfl,ok,⟨n3,s3 _ _ (s2 _ _ (atNew hfr _)),pr.tups (Tups.of ((s1.trans s2).trans s3)),s3 _ _ (atNew her _)⟩,fun r' fr' ps' H' s' n'=>k r' fr' er ps' H' (((s1.trans s2).trans s3).trans s') n'⟩
end
abbrev zen:Stmt:=top 16
abbrev zgW:Stmt:=top 18
def ze2:Sp:=fun vs H Q _=>∃ m:Nat,vs=[.int m]∧m≤1000∧Q (.int (pw m)) H
def zem:Sp:=fun vs H Q _=>∃ (lanes lane:Nat) (many:Int),vs=[.int lanes,.int lane,.int many]∧lane<lanes∧lanes≤16∧∀ p H',Same H H'→H' p=some (.tup ((zan lanes lane many).map V.int))→Q (.ref p) H'
def zc0:Sp:=fun vs H Q _=>∃ r fr er ps N,vs=[.ref r]∧Nt.Ok N∧NetAt H r fr er ps N∧∀ p (d:Nat) ss H',Same H H'→IsTop N d→H' p=some (.tup ss)→ss.length=N.lanes→(∀ lane,lane<N.lanes→∃ a,ss[lane]?=some (.ref a)∧H' a=some (.tup ((zaL N (zan N.lanes lane (pw d))).map V.int)))→Q (.ref p) H'
section
variable {P:Program}{w:World}{K:PySem.W.Frag}{mg:Str→Option Value}{base:Heap}
theorem scP3:FnScope ["many","power","doubling"] ["many"] (zad sPow):=by trivial
theorem zkh {f:Addr}{fd:FuncData}(F:Fun K "power_of_two" "power_of_two" sPow f fd) (G:Mgs mg):FnOk P w K mg base CX0 1 f fd ["many"] ze2:=by
 refine F.ok scP3 (fun vs H Q E h=>?_) (fun cdv A outer s H vs Q E hr h=>?_)
 ·obtain⟨m,rfl,_⟩:=h
  rfl
 obtain⟨m,rfl,hm,k⟩:=h
 refine⟨_,(@pss_cons _ _ _ _ _ (@ps_set _ _ 1 _ _ _ _ scP3.nd rfl (.inl rfl) pe_int (by rfl) (by first|exact .inl rfl|exact .inr rfl|assumption)) (@pss_cons _ _ _ _ _ (@ps_for _ _ _ _ _ _ _ _ PassesOwn.never rfl (@pi_range1 _ _ _ _ _ _ rfl G.range (@pa_cons _ _ _ _ _ (@qv _ 0 _ _ (by trivial)) pa_nil (by rfl)) (by rfl)) (@pg_name _ _ 2 _ scP3.nd rfl (.inl rfl) (by first|exact .inl rfl|exact .inr rfl|assumption)) (@pss_one _ _ _ (@zjh _ _ 1 _ _ _ _ _ _ scP3.nd rfl (.inl rfl) pe_int zhG (by first|exact .inl rfl|exact .inr rfl|assumption))) (by intro _;rfl)) (@pss_one _ _ _ (@ps_ret _ _ _ _ (@qv _ 1 _ _ (by trivial)))))),?_⟩
 refine⟨_,rfl,m,rfl,by lia,by lia,zav (lo:=0) (n:=((m:Nat):Int).toNat) (fun i σ H2=>H2=H∧∃ v2,σ=[some (.int m),some (.int (pw i)),v2]) ⟨rfl,_,rfl⟩ ?_ ?_⟩
 ·rintro i σ H2 hi ⟨rfl,v2,rfl⟩
  refine⟨_,rfl,_,_,rfl,rfl,.inr ⟨by decide,by decide⟩,rfl,some (.int (0+(i:Nat))),?_⟩
  rw[← show pw i*2=pw (i+1) from by rw[zg1,Int.mul_comm]];rfl
 ·rintro σ H2 ⟨rfl,v2,rfl⟩
  refine⟨_,rfl,?_⟩
  rw[show ((m:Nat):Int).toNat=m from by lia]
  exact k
theorem scA2:FnScope ["lanes","lane","many","counts"] ["lanes","lane","many"] (zad zgW):=by trivial
theorem ziK {f:Addr}{fd:FuncData}(F:Fun K "alone" "alone" zgW f fd) (G:Mgs mg):FnOk P w K mg base CX0 1 f fd ["lanes","lane","many"] zem:=by
 refine F.ok scA2 (fun vs H Q E h=>?_) (fun cdv A outer s H vs Q E hr h=>?_)
 ·obtain⟨lanes,lane,many,rfl,_⟩:=h
  rfl
 obtain⟨lanes,lane,many,rfl,hl,l16,k⟩:=h
 refine⟨_,(@pss_cons _ _ _ _ _ (@ps_set _ _ 3 _ _ _ _ scA2.nd rfl (.inl rfl) (@pe_op _ _ _ _ _ _ _ _ zfe (@pe_lst _ _ _ _ (@pa_cons _ _ _ _ _ pe_int pa_nil (by rfl))) (@qv _ 0 _ _ (by trivial))) (by rfl) (by first|exact .inl rfl|exact .inr rfl|assumption)) (@pss_cons _ _ _ _ _ (@ps_asg _ _ _ _ _ _ (@qv _ 2 _ _ (by trivial)) (@pg_sub _ _ _ _ _ _ _ (@qv _ 3 _ _ (by trivial)) (@qv _ 1 _ _ (by trivial)) set_list (by intro _;rfl)) (by rfl) (by rfl) (by rfl)) (@pss_one _ _ _ (@ps_ret _ _ _ _ (@pe_callTy _ _ _ _ _ _ _ _ _ call_tuple_of (by rfl) G.tuple (by rfl) (@pa_cons _ _ _ _ _ (@qv _ 3 _ _ (by trivial)) pa_nil (by rfl)) (by decide) (by decide) (by rfl) (by rfl)))))),?_⟩
 have tn:((lanes:Nat):Int).toNat=lanes:=by lia
 refine⟨(by show 1≤sizeLine;decide),fun p1 hp1=>?_⟩
 have s1:=zaa hp1 (.lst [.int 0])
 refine⟨_,rfl,p1,lanes,_,rfl,rfl,zab,by lia,by lia,by show 1*_≤sizeLine;rw[sizeLine_eq];lia,fun lc hlc=>?_⟩
 have hlc0:H lc=none:=by
  cases z:H lc with
  | none=>rfl
  | some o=>exact absurd (s1 _ _ z) (by rw[hlc];exact fun w=>nomatch w)
 rw[tn,zeC]
 refine⟨_,rfl,_,rfl,_,rfl,lc,_,_,lane,rfl,rfl,zab,zb5 (by simp;lia),?_⟩
 refine⟨_,rfl,lc,_,rfl,.inl ⟨SqL.of zab,fun p hp=>k p _ (fun b o e=>?_) ?_⟩⟩
 ·rw[zae (zac (o:=o) (by rw[zae (zac e hlc0),zae (zac e hlc0)];exact s1 _ _ e) hp),zae (zac e hlc0),zae (zac e hlc0)];exact s1 _ _ e
 ·rw[zab,zay];rfl
theorem scS:FnScope ["net","lanes","balls"] ["net"] (zad zen):=by trivial
theorem zhc {f fD fP fA fE:Addr}{fd dD dP dA dE:FuncData}(F:Fun K "shares" "shares" zen f fd) (G:Mgs mg) (UD:Use P w K mg base "depth" ["net"] 2 zcf fD dD) (UP:Use P w K mg base "power_of_two" ["many"] 1 ze2 fP dP) (UA:Use P w K mg base "alone" ["lanes","lane","many"] 1 zem fA dA)
  (UE:Use P w K mg base "ends_of" ["net","counts"] 2 zgB fE dE):FnOk P w K mg base CX0 3 f fd ["net"] zc0:=by
 refine F.ok scS (fun vs H Q E h=>?_) (fun cdv A outer s H vs Q E hr h=>?_)
 ·obtain⟨r,fr,er,ps,N,rfl,_⟩:=h
  rfl
 obtain⟨r,fr,er,ps,N,rfl,ok,na,k⟩:=h
 have hr1:Room 1 _:=hr.mono (by decide)
 refine⟨_,(@pss_cons _ _ _ _ _ (@ps_set _ _ 1 _ _ _ _ scS.nd rfl (.inr rfl) (@pe_ix _ _ _ _ _ _ _ ix_tup (@qv _ 0 _ _ (by trivial)) pe_int (fun _ _=>rfl)) (by rfl) (by first|exact .inl rfl|exact .inr rfl|assumption)) (@pss_cons _ _ _ _ _ (@ps_set _ _ 2 _ _ _ _ scS.nd rfl (.inr rfl) (@pe_call _ _ _ _ _ _ _ _ _ _ _ _ _ _ _ _ UP.ok hr1 (by rfl) UP.m UP.kp UP.b .nil pass0 (@pa_cons _ _ _ _ _ (@pe_call _ _ _ _ _ _ _ _ _ _ _ _ _ _ _ _ UD.ok hr (by rfl) UD.m UD.kp UD.b .nil pass0 (@pa_cons _ _ _ _ _ (@qv _ 0 _ _ (by trivial)) pa_nil (by rfl)) (by decide) (by rfl) (by rfl)) pa_nil (by rfl)) (by decide) (by rfl) (by rfl)) (by rfl) (by first|exact .inl rfl|exact .inr rfl|assumption)) (@pss_one _ _ _ (@ps_ret _ _ _ _ (@pe_callTy _ _ _ _ _ _ _ _ _ call_tuple_of (by rfl) G.tuple (by rfl) (@pa_cons _ _ _ _ _ (@pe_lc _ _ _ _ none _ _ _ _ _ _ ["lane","net","lanes","balls"] [none,some 0,some 1,some 2] rfl (@pi_range1 _ _ _ _ _ _ rfl G.range (@pa_cons _ _ _ _ _ (@qv _ 1 _ _ (by trivial)) pa_nil (by rfl)) (by rfl)) (CapOk.of (by kernel_rfl)) (fun _ _ _ _ _=>(@pg_name _ _ 0 _ (show (["lane","net","lanes","balls"]:List Str).Nodup from by decide +kernel) rfl (.inl rfl) (.inr rfl))) (fun _ _ _ _ _=>zaE) (fun _ _ _ _ _=>(@pe_call _ _ _ _ _ _ _ _ _ _ _ _ _ _ _ _ UE.ok hr (by rfl) UE.m UE.kp UE.b .nil pass0 (@pa_cons _ _ _ _ _ (@qv _ 1 _ _ (by trivial)) (@pa_cons _ _ _ _ _ (@pe_call _ _ _ _ _ _ _ _ _ _ _ _ _ _ _ _ UA.ok hr1 (by rfl) UA.m UA.kp UA.b .nil pass0 (@pa_cons _ _ _ _ _ (@qv _ 2 _ _ (by trivial)) (@pa_cons _ _ _ _ _ (@qv _ 0 _ _ (by trivial)) (@pa_cons _ _ _ _ _ (@qv _ 3 _ _ (by trivial)) pa_nil (by rfl)) (by rfl)) (by rfl)) (by decide) (by rfl) (by rfl)) pa_nil (by rfl)) (by rfl)) (by decide) (by rfl) (by rfl))) (by intro _;rfl)) pa_nil (by rfl)) (by decide) (by decide) (by rfl) (by rfl)))))),?_⟩
 have l16:=ok.l16
 refine⟨_,rfl,r,_,_,_,rfl,rfl,SqT.of na.net,rfl,?_⟩
 refine⟨_,rfl,r,fr,er,ps,N,rfl,ok,na,fun M H1 s1 hM hz _ _=>?_⟩
 obtain⟨d,rfl,tp⟩:=zeY ok hz hM
 have d128:=zjd ok tp
 refine⟨d,rfl,by lia,?_⟩
 have na1:=na.tups (Tups.of s1)
 refine⟨_,rfl,N.lanes,rfl,by lia,by lia,fun l hl=>?_⟩
 refine zdn (lo:=0) (n:=((N.lanes:Nat):Int).toNat) (fun i acc σ H2=>(∃ v,σ=[v,some (.ref r),some (.int N.lanes),some (.int (pw d))])∧Same H1 H2∧H2 l=some (.lst acc)∧acc.length=i∧∀ lane,lane<i→∃ a,acc[lane]?=some (.ref a)∧H2 a=some (.tup ((zaL N (zan N.lanes lane (pw d))).map V.int))) ⟨⟨_,rfl⟩,zaa hl _,zab,rfl,fun lane h=>absurd h (Nat.not_lt_zero _)⟩ (fun i acc σ H2 q=>q.2.2.1) ?_ ?_
 ·rintro i acc σ H2 hi ⟨⟨v,rfl⟩,s2,h2,al,ha⟩
  have il:i<N.lanes:=by lia
  refine⟨_,rfl,_,rfl,_,rfl,_,rfl,N.lanes,i,pw d,by rw[Int.zero_add];rfl,il,l16,fun c H3 s3 hc=>?_⟩
  refine⟨r,fr,er,ps,N,c,_,rfl,ok,na1.tups (Tups.of (s2.trans s3)),hc,zcB _ _ _,fun e H4 s4 he=>?_⟩
  have h4:=s4 _ _ (s3 _ _ h2)
  refine⟨h4,by rw[al];exact Nat.lt_of_lt_of_le (show i<1000 by lia) (by decide),nx (by lia) ⟨⟨_,rfl⟩,fun b o z=>?_,zab,by simp[al],fun lane hlane=>?_⟩⟩
  ·rw[zae (zac z hl)];exact s4 _ _ (s3 _ _ (s2 b o z))
  ·by_cases z:lane=i
   ·subst z
    exact⟨e,by rw[List.getElem?_append_right (by lia),al,Nat.sub_self];rfl,Tups.lst h4 _ _ he⟩
   ·obtain⟨a,ea,ha'⟩:=ha lane (by lia)
    exact⟨a,by rw[List.getElem?_append_left (by lia)];exact ea,Tups.lst h4 _ _ (s4 _ _ (s3 _ _ ha'))⟩
 ·rintro acc σ H2 ⟨⟨v,rfl⟩,s2,h2,al,ha⟩
  have tn:((N.lanes:Nat):Int).toNat=N.lanes:=by lia
  rw[tn]at al ha
  refine⟨l,_,rfl,.inl ⟨SqL.of h2,fun q hq=>?_⟩⟩
  have s3:=zaa hq (.tup acc)
  exact k q d acc _ ((s1.trans s2).trans s3) tp zab al fun lane hl=>by
   obtain⟨a,ea,ha'⟩:=ha lane hl
   exact⟨a,ea,s3 _ _ ha'⟩
end
abbrev zjS:Stmt:=top 47
def zgC:Sp:=fun vs H Q _=>∃ r fr er ps N,vs=[.ref r]∧Nt.Ok N∧NetAt H r fr er ps N∧∀ M H',Same H H'→M∈(lay N.lanes N.forks).1→(∀ z∈(lay N.lanes N.forks).1,z≤M)→Q (.int M) H'
section
variable {P:Program}{w:World}{K:PySem.W.Frag}{mg:Str→Option Value}{base:Heap}
theorem scQ:FnScope ["_law_net","_law_deep_here","_law_one","_law_other","_law_layer"] ["_law_net"] (zad zjS):=by trivial
theorem zkm {f:Addr}{fd:FuncData}(F:Fun K "_law_deep" "_law_deep" zjS f fd) (G:Mgs mg):FnOk P w K mg base CX0 1 f fd ["_law_net"] zgC:=by
 refine F.ok scQ (fun vs H Q E h=>?_) (fun cdv A outer s H vs Q E hr h=>?_)
 ·obtain⟨r,fr,er,ps,N,rfl,_⟩:=h
  rfl
 obtain⟨r,fr,er,ps,N,rfl,ok,na,k⟩:=h
 refine⟨_,(@pss_cons _ _ _ _ _ (@ps_set _ _ 1 _ _ _ _ scQ.nd rfl (.inl rfl) (@pe_op _ _ _ _ _ _ _ _ zfe (@pe_lst _ _ _ _ (@pa_cons _ _ _ _ _ pe_int pa_nil (by rfl))) (@pe_ix _ _ _ _ _ _ _ ix_tup (@qv _ 0 _ _ (by trivial)) pe_int (fun _ _=>rfl))) (by rfl) (by first|exact .inl rfl|exact .inr rfl|assumption)) (@pss_cons _ _ _ _ _ (@ps_for _ _ _ _ _ _ _ _ PassesOwn.never rfl (@za8 _ _ _ _ (@pe_ix _ _ _ _ _ _ _ ix_tup (@qv _ 0 _ _ (by trivial)) pe_int (fun _ _=>rfl))) (@zap _ _ _ _ _ _ rfl (@pgs_cons _ _ _ _ _ (@pg_name _ _ 2 _ scQ.nd rfl (.inl rfl) (by first|exact .inl rfl|exact .inr rfl|assumption)) (@pgs_cons _ _ _ _ _ (@pg_name _ _ 3 _ scQ.nd rfl (.inl rfl) (by first|exact .inl rfl|exact .inr rfl|assumption)) pgs_nil (by rfl)) (by rfl)) (by rfl) (by rfl)) (@pss_cons _ _ _ _ _ (@ps_set _ _ 4 _ _ _ _ scQ.nd rfl (.inl rfl) (@pe_op _ _ _ _ _ _ _ _ op_add pe_int (@pe_callB _ _ _ _ _ _ _ _ _ (zbh rfl) (by rfl) G.max (by rfl) (@pa_cons _ _ _ _ _ (@pe_ix _ _ _ _ _ _ _ ix_list (@qv _ 1 _ _ (by trivial)) (@qv _ 2 _ _ (by trivial)) (fun _ _=>rfl)) (@pa_cons _ _ _ _ _ (@pe_ix _ _ _ _ _ _ _ ix_list (@qv _ 1 _ _ (by trivial)) (@qv _ 3 _ _ (by trivial)) (fun _ _=>rfl)) pa_nil (by rfl)) (by rfl)) (by decide) (by decide) (by rfl) (by rfl))) (by rfl) (by first|exact .inl rfl|exact .inr rfl|assumption)) (@pss_one _ _ _ (@ps_asg _ _ _ _ _ _ (@pe_tup _ _ _ _ _ (@pa_cons _ _ _ _ _ (@qv _ 4 _ _ (by trivial)) (@pa_cons _ _ _ _ _ (@qv _ 4 _ _ (by trivial)) pa_nil (by rfl)) (by rfl))) (@zap _ _ _ _ _ _ rfl (@pgs_cons _ _ _ _ _ (@pg_sub _ _ _ _ _ _ _ (@qv _ 1 _ _ (by trivial)) (@qv _ 2 _ _ (by trivial)) set_list (by intro _;rfl)) (@pgs_cons _ _ _ _ _ (@pg_sub _ _ _ _ _ _ _ (@qv _ 1 _ _ (by trivial)) (@qv _ 3 _ _ (by trivial)) set_list (by intro _;rfl)) pgs_nil (by rfl)) (by rfl)) (by rfl) (by rfl)) (by rfl) (by rfl) (by rfl)))) (by intro _;rfl)) (@pss_one _ _ _ (@ps_ret _ _ _ _ (@pe_callB _ _ _ _ _ _ _ _ _ (call_maxB rfl true) (by rfl) G.max (by rfl) (@pa_cons _ _ _ _ _ (@qv _ 1 _ _ (by trivial)) pa_nil (by rfl)) (by decide) (by decide) (by rfl) (by rfl)))))),?_⟩
 have l1:=ok.l1
 have l16:=ok.l16
 have fm:=ok.fm
 have pl:=na.prs.len
 have tn:((N.lanes:Nat):Int).toNat=N.lanes:=by lia
 refine⟨(by show 1≤sizeLine;decide),fun p1 hp1=>?_⟩
 have s1:=zaa hp1 (.lst [.int 0])
 refine⟨_,rfl,r,_,_,_,rfl,rfl,SqT.of (s1 _ _ na.net),rfl,p1,N.lanes,_,rfl,rfl,zab,by lia,by lia,by show 1*_≤sizeLine;rw[sizeLine_eq];lia,fun lr hlr=>?_⟩
 have s2:=s1.trans (zaa hlr (.lst (List.replicate ((N.lanes:Int)).toNat [V.int 0]).flatten))
 have hlr0:H lr=none:=by
  cases z:H lr with
  | none=>rfl
  | some o=>exact absurd (s1 _ _ z) (by rw[hlr];exact fun w=>nomatch w)
 refine⟨_,rfl,r,_,_,_,rfl,rfl,SqT.of (s2 _ _ na.net),rfl,fr,rfl,⟨_,SqT.of (s2 _ _ na.forks)⟩,?_⟩
 refine zbV (K:=K) (a:=fr) (xs:=ps) (fun i σ H2=>(∃ v2 v3 v4,σ=[some (.ref r),some (.ref lr),v2,v3,v4])∧Same H H2∧H2 lr=some (.lst ((lay N.lanes (N.forks.take i)).1.map V.int)))
  ⟨⟨_,_,_,rfl⟩,s2,by rw[zab,tn,zeC];rfl⟩ (fun i σ H2 _ q=>SqT.of (q.2.1 _ _ na.forks)) ?_ ?_
 ·rintro i p σ H2 hp ⟨⟨v2,v3,v4,rfl⟩,s4,h1⟩
  obtain⟨a,g,rfl,eg,ha⟩:=(na.prs.tups (Tups.of s4)).get hp
  have okg:=ok.fk g (List.mem_of_getElem? eg)
  have ig:i<N.forks.length:=(List.getElem?_eq_some_iff.mp eg).1
  have ln:=zas (n:=N.lanes) i N.forks (by lia)
  have lx:=zaG (n:=N.lanes) eg
  generalize lay N.lanes (N.forks.take i)=st at *
  refine⟨a,_,rfl,SqT.of ha,rfl,_,_,rfl,_,_,rfl,rfl,?_⟩
  refine⟨_,rfl,_,rfl,lr,_,_,_,rfl,rfl,SqL.of h1,zaD (by lia),_,rfl,_,rfl,lr,_,_,_,rfl,rfl,SqL.of h1,zaD (by lia),_,_,rfl,_,_,rfl,rfl,?_⟩
  refine⟨_,rfl,_,rfl,(by show 2≤sizeLine;decide),fun t ht=>?_⟩
  have st':=zaa ht (.tup [.int (1+big (st.1.getD g.1 0) (st.1.getD g.2 0)),.int (1+big (st.1.getD g.1 0) (st.1.getD g.2 0))])
  have h1':=st' _ _ h1
  refine⟨t,_,rfl,SqT.of zab,rfl,_,_,rfl,_,rfl,_,rfl,lr,_,_,g.1,rfl,rfl,h1',zb5 (by rw[List.length_map];lia),_,_,rfl,_,rfl,_,rfl,lr,_,_,g.2,rfl,rfl,zab,zb5 (by rw[List.length_set,List.length_map];lia),rfl,⟨_,_,_,rfl⟩,fun b o e=>?_,?_⟩
  ·rw[zae (zac e hlr0),zae (zac e hlr0)];exact st' _ _ (s4 b o e)
  ·rw[zab,lx]
   unfold zaj
   rw[zay,zay];rfl
 ·rintro σ H2 ⟨⟨v2,v3,v4,rfl⟩,s4,h1⟩
  have ln:=zas (n:=N.lanes) N.forks.length N.forks (Nat.le_refl _)
  rw[pl,List.take_length]at h1
  rw[List.take_length]at ln
  exact⟨_,rfl,lr,_,rfl,SqL.of h1,by lia,fun M hM hz=>k M H2 s4 hM hz⟩
end
abbrev zgK:Stmt:=top 3
abbrev zgV:Stmt:=top 4
abbrev zgQ:Stmt:=top 6
def zeg (K:PySem.W.Frag):Sp:=fun vs H Q _=>∃ x,vs=[x]∧AnyT K H x∧Q (.bl (zkW x)) H
def zel (K:PySem.W.Frag):Sp:=fun vs H Q _=>∃ x b,vs=[x,.int b]∧AnyT K H x∧Q (.bl (zam b x)) H
def zc6 (K:PySem.W.Frag):Sp:=fun vs H Q _=>∃ x m,vs=[x,.int m]∧AnyT K H x∧Q (.bl (rowV H m x)) H
section
variable {P:Program}{w:World}{K:PySem.W.Frag}{mg:Str→Option Value}{base:Heap}
theorem scKw:FnScope ["thing"] ["thing"] (zad zgK):=by trivial
theorem ziy {f:Addr}{fd:FuncData}(F:Fun K "is_whole" "is_whole" zgK f fd) (G:Mgs mg):FnOk P w K mg base CX0 1 f fd ["thing"] (zeg K):=by
 refine F.ok scKw (fun vs H Q E h=>?_) (fun cdv A outer s H vs Q E hr h=>?_)
 ·obtain⟨x,rfl,_⟩:=h
  rfl
 obtain⟨x,rfl,ax,k⟩:=h
 refine⟨_,(@pss_one _ _ _ (@ps_ret _ _ _ _ (@pe_and _ _ _ _ _ _ _ (@pe_callB _ _ _ _ _ _ _ _ _ zat (by rfl) G.isi (by rfl) (@pa_cons _ _ _ _ _ (@qv _ 0 _ _ (by trivial)) (@pa_cons _ _ _ _ _ (@zaB _ _ (.ty "int") (.type "int") _ (by rfl) G.int (by rfl) rfl (by decide) (by decide)) pa_nil (by rfl)) (by rfl)) (by decide) (by decide) (by rfl) (by rfl)) (@pe_one _ _ _ _ _ (@zjk _ _ _ _ (@pe_callB _ _ _ _ _ _ _ _ _ zat (by rfl) G.isi (by rfl) (@pa_cons _ _ _ _ _ (@qv _ 0 _ _ (by trivial)) (@pa_cons _ _ _ _ _ (@zaB _ _ (.ty "bool") (.type "bool") _ (by rfl) G.bool (by rfl) rfl (by decide) (by decide)) pa_nil (by rfl)) (by rfl)) (by decide) (by decide) (by rfl) (by rfl))))))),?_⟩
 obtain⟨t,I⟩:=ax.isi
 refine⟨_,rfl,_,"int",_,_,rfl,I.ty,I.int,_,rfl,?_⟩
 cases x with
 | int i=>exact iteT ⟨_,rfl,_,"bool",_,_,rfl,I.ty,I.bool,_,rfl,k⟩
 | bl b=>exact iteT ⟨_,rfl,_,"bool",_,_,rfl,I.ty,I.bool,_,rfl,k⟩
 | non=>exact iteF k
 | str z=>exact iteF k
 | flt z=>exact iteF k
 | byt z=>exact iteF k
 | ref z=>exact iteF k
 | ty z=>exact iteF k
theorem scKb:FnScope ["thing","bound"] ["thing","bound"] (zad zgV):=by trivial
theorem ziJ {f fW:Addr}{fd dW:FuncData}(F:Fun K "is_below" "is_below" zgV f fd) (G:Mgs mg) (UW:Use P w K mg base "is_whole" ["thing"] 1 (zeg K) fW dW):FnOk P w K mg base CX0 2 f fd ["thing","bound"] (zel K):=by
 refine F.ok scKb (fun vs H Q E h=>?_) (fun cdv A outer s H vs Q E hr h=>?_)
 ·obtain⟨x,b,rfl,_⟩:=h
  rfl
 obtain⟨x,b,rfl,ax,k⟩:=h
 refine⟨_,(@pss_one _ _ _ (@ps_ret _ _ _ _ (@pe_and _ _ _ _ _ _ _ (@pe_call _ _ _ _ _ _ _ _ _ _ _ _ _ _ _ _ UW.ok hr (by rfl) UW.m UW.kp UW.b .nil pass0 (@pa_cons _ _ _ _ _ (@qv _ 0 _ _ (by trivial)) pa_nil (by rfl)) (by decide) (by rfl) (by rfl)) (@pe_one _ _ _ _ _ (@ziu _ _ _ _ _ _ _ _ _ _ _ _ zlU zdi pe_int (@qv _ 0 _ _ (by trivial)) (@qv _ 1 _ _ (by trivial)) (by with_unfolding_all rfl)))))),?_⟩
 refine⟨_,rfl,_,rfl,ax,_,rfl,?_⟩
 cases x with
 | int i =>
  refine iteT ⟨_,rfl,_,_,rfl,rfl,_,rfl,?_⟩
  have e:zam b (.int i)=(decide (0≤i) && decide (i<b)):=rfl
  rw[e]at k
  by_cases z:(0:Int)≤i
  ·rw[decide_eq_true z]at k ⊢
   exact iteT ⟨_,rfl,_,_,rfl,rfl,k⟩
  ·rw[decide_eq_false z]at k ⊢
   exact iteF k
 | bl z=>exact iteF k
 | non=>exact iteF k
 | str z=>exact iteF k
 | flt z=>exact iteF k
 | byt z=>exact iteF k
 | ref z=>exact iteF k
 | ty z=>exact iteF k
theorem scKr:FnScope ["thing","many"] ["thing","many"] (zad zgQ):=by trivial
theorem ziE {f:Addr}{fd:FuncData}(F:Fun K "is_row" "is_row" zgQ f fd) (G:Mgs mg):FnOk P w K mg base CX0 1 f fd ["thing","many"] (zc6 K):=by
 refine F.ok scKr (fun vs H Q E h=>?_) (fun cdv A outer s H vs Q E hr h=>?_)
 ·obtain⟨x,m,rfl,_⟩:=h
  rfl
 obtain⟨x,m,rfl,ax,k⟩:=h
 refine⟨_,(@pss_one _ _ _ (@ps_ret _ _ _ _ (@pe_and _ _ _ _ _ _ _ (@pe_callB _ _ _ _ _ _ _ _ _ zat (by rfl) G.isi (by rfl) (@pa_cons _ _ _ _ _ (@qv _ 0 _ _ (by trivial)) (@pa_cons _ _ _ _ _ (@zaB _ _ (.ty "tuple") (.type "tuple") _ (by rfl) G.tuple (by rfl) rfl (by decide) (by decide)) pa_nil (by rfl)) (by rfl)) (by decide) (by decide) (by rfl) (by rfl)) (@pe_one _ _ _ _ _ (@pe_cmpR _ _ _ _ _ _ _ _ op_eq (@pe_callB _ _ _ _ _ _ _ _ _ call_len_seq (by rfl) G.len PySem.boot_len (@pa_cons _ _ _ _ _ (@qv _ 0 _ _ (by trivial)) pa_nil (by rfl)) (by decide) (by decide) (by rfl) (by rfl)) (@qv _ 1 _ _ (by trivial)) (nomark _)))))),?_⟩
 obtain⟨t,I⟩:=ax.isi
 refine⟨_,rfl,_,"tuple",_,_,rfl,I.ty,I.tup,_,rfl,?_⟩
 cases z:zaZ H x with
 | none =>
  have e:rowV H m x=false:=by unfold rowV;rw[z]
  rw[e]at k
  exact iteF k
 | some xs =>
  have e:rowV H m x=decide ((xs.length:Int)=m):=by unfold rowV;rw[z]
  rw[e]at k
  obtain⟨a,rfl,ha⟩:=zbl z
  exact iteT ⟨_,rfl,a,_,rfl,.inr (SqT.of ha),_,rfl,rfl,by rw[zeJ];exact k⟩
end
abbrev zci:Stmt:=top 7
def zbk (K:PySem.W.Frag):Sp:=fun vs H Q _=>∃ x,∃ many b:Int,vs=[x,.int many,.int b]∧Deep K H 1 x∧many≤16∧∀ H',Same H H'→Q (.bl (zaw H many b x)) H'
section
variable {P:Program}{w:World}{K:PySem.W.Frag}{mg:Str→Option Value}{base:Heap}
theorem scAb:FnScope ["thing","many","bound"] ["thing","many","bound"] (zad zci):=by trivial
theorem zeB {f fR fB:Addr}{fd dR dB:FuncData}(F:Fun K "are_below" "are_below" zci f fd) (G:Mgs mg) (UR:Use P w K mg base "is_row" ["thing","many"] 1 (zc6 K) fR dR) (UB:Use P w K mg base "is_below" ["thing","bound"] 2 (zel K) fB dB):FnOk P w K mg base CX0 3 f fd ["thing","many","bound"] (zbk K):=by
 refine F.ok scAb (fun vs H Q E h=>?_) (fun cdv A outer s H vs Q E hr h=>?_)
 ·obtain⟨x,many,b,rfl,_⟩:=h
  rfl
 obtain⟨x,many,b,rfl,dx,m16,k⟩:=h
 have hr1:Room 1 _:=hr.mono (by decide)
 refine⟨_,(@pss_one _ _ _ (@ps_ret _ _ _ _ (@pe_and _ _ _ _ _ _ _ (@pe_call _ _ _ _ _ _ _ _ _ _ _ _ _ _ _ _ UR.ok hr1 (by rfl) UR.m UR.kp UR.b .nil pass0 (@pa_cons _ _ _ _ _ (@qv _ 0 _ _ (by trivial)) (@pa_cons _ _ _ _ _ (@qv _ 1 _ _ (by trivial)) pa_nil (by rfl)) (by rfl)) (by decide) (by rfl) (by rfl)) (@pe_one _ _ _ _ _ (@pe_callB _ _ _ _ _ _ _ _ _ (zd7 rfl true) (by rfl) G.all (by rfl) (@pa_cons _ _ _ _ _ (@pe_lc _ _ _ _ none _ _ _ _ _ _ ["number","bound"] [none,some 2] rfl (@za8 _ _ _ _ (@qv _ 0 _ _ (by trivial))) (CapOk.of (by kernel_rfl)) (fun _ _ _ _ _=>(@pg_name _ _ 0 _ (show (["number","bound"]:List Str).Nodup from by decide +kernel) rfl (.inl rfl) (.inr rfl))) (fun _ _ _ _ _=>zaE) (fun _ _ _ _ _=>(@pe_call _ _ _ _ _ _ _ _ _ _ _ _ _ _ _ _ UB.ok hr (by rfl) UB.m UB.kp UB.b .nil pass0 (@pa_cons _ _ _ _ _ (@qv _ 0 _ _ (by trivial)) (@pa_cons _ _ _ _ _ (@qv _ 1 _ _ (by trivial)) pa_nil (by rfl)) (by rfl)) (by decide) (by rfl) (by rfl))) (by intro _;rfl)) pa_nil (by rfl)) (by decide) (by decide) (by rfl) (by rfl)))))),?_⟩
 refine⟨_,rfl,_,rfl,x,many,rfl,dx.any,_,rfl,?_⟩
 cases z:zaZ H x with
 | none =>
  have e:rowV H many x=false:=by unfold rowV;rw[z]
  have e2:zaw H many b x=false:=by unfold zaw;rw[z]
  rw[e]
  rw[e2]at k
  exact iteF (k H (Same.refl H))
 | some xs =>
  have e:rowV H many x=decide ((xs.length:Int)=many):=by unfold rowV;rw[z]
  have e2:zaw H many b x=(decide ((xs.length:Int)=many) && xs.all (zam b)):=by unfold zaw;rw[z]
  rw[e]
  rw[e2]at k
  obtain⟨a,rfl,ha⟩:=zbl z
  by_cases lm:(xs.length:Int)=many
  ·rw[decide_eq_true lm]at k ⊢
   refine iteT ⟨_,rfl,a,rfl,⟨_,SqT.of ha⟩,fun l hl=>?_⟩
   refine zhy (K:=K) (a:=a) (xs:=xs) (fun i acc σ H2=>(∃ v,σ=[v,some (.int b)])∧Same H H2∧H2 l=some (.lst acc)∧acc=((xs.take i).map (zam b)).map V.bl) ⟨⟨_,rfl⟩,zaa hl _,zab,rfl⟩ (fun i acc σ H2 q=>⟨q.2.2.1,SqT.of (q.2.1 _ _ ha)⟩) ?_ ?_
   ·rintro i y acc σ H2 hy ⟨⟨v,rfl⟩,s2,h2,rfl⟩
    have il:=(List.getElem?_eq_some_iff.mp hy).1
    refine⟨_,rfl,_,rfl,y,b,rfl,AnyT.same s2 (((dx.2 xs z).2 y (List.mem_of_getElem? hy))),?_⟩
    refine⟨h2,?_,nx il ⟨⟨_,rfl⟩,fun c o e=>?_,zab,?_⟩⟩
    ·rw[List.length_map,List.length_map,List.length_take];exact Nat.lt_of_le_of_lt (Nat.min_le_left _ _) (Nat.lt_of_lt_of_le (show i<1000 by lia) (by decide))
    ·rw[zae (zac e hl)];exact s2 c o e
    ·have ye:xs[i]=y:=(List.getElem?_eq_some_iff.mp hy).2
     rw[List.take_succ_eq_append_getElem il,List.map_append,List.map_append,ye];rfl
   ·rintro acc σ H2 ⟨⟨v,rfl⟩,s2,h2,rfl⟩
    rw[List.take_length]at h2
    refine⟨l,xs.map (zam b),rfl,SqL.of h2,?_⟩
    rw[List.all_map]
    exact k H2 s2
  ·rw[decide_eq_false lm]at k ⊢
   exact iteF (k H (Same.refl H))
end
abbrev zgO:Stmt:=top 24
abbrev zjN:Stmt:=top 25
abbrev sOff:Stmt:=top 26
abbrev zgT:Stmt:=top 29
abbrev zgR:Stmt:=top 32
abbrev zgL:Stmt:=top 31
abbrev zjK:Stmt:=top 5
def ze1 (K:PySem.W.Frag):Sp:=fun vs H Q _=>∃ x w,vs=[x,.str w]∧AnyT K H x∧Q (.bl (zaC w x)) H
def zc4:Sp:=fun vs H Q _=>∃ r fr er ps N,vs=[.ref r]∧Nt.Ok N∧NetAt H r fr er ps N∧∀ H',Same H H'→Q (.bl (zaS N)) H'
def zdC:Sp:=fun vs H Q _=>∃ r fr er ps N d,vs=[.ref r]∧Nt.Ok N∧NetAt H r fr er ps N∧IsTop N d∧∀ H',Same H H'→Q (.bl (zbz N d)) H'
def zij:Sp:=fun vs H Q _=>∃ r fr er ps N d,vs=[.ref r]∧Nt.Ok N∧NetAt H r fr er ps N∧IsTop N d∧∀ p ts H',Same H H'→H' p=some (.lst ts)→Prs H' ts (offL N d N.lanes)→Q (.ref p) H'
def zc8:Sp:=fun vs H Q _=>∃ r fr er ps N c cs,vs=[.ref r,.ref c]∧Nt.Ok N∧NetAt H r fr er ps N∧H c=some (.tup (List.map V.int cs))∧cs.length=N.lanes∧∀ H',Same H H'→Q (.bl (zbt N cs)) H'
def zej (K:PySem.W.Frag):Sp:=fun vs H Q _=>∃ r fr er ps N d t y z,vs=[.ref r,.ref t]∧Nt.Ok N∧NetAt H r fr er ps N∧IsTop N d∧H t=some (.tup [y,z])∧AnyT K H y∧AnyT K H z∧∀ H',Same H H'→Q (.bl (offV N d y z)) H'
def zeh (K:PySem.W.Frag):Sp:=fun vs H Q _=>∃ r fr er ps N d x,vs=[.ref r,x]∧Nt.Ok N∧NetAt H r fr er ps N∧IsTop N d∧Deep K H 2 x∧∀ H',Same H H'→Q (.bl (barV H N d x)) H'
section
variable {P:Program}{w:World}{K:PySem.W.Frag}{mg:Str→Option Value}{base:Heap}
theorem scKd:FnScope ["thing","word"] ["thing","word"] (zad zjK):=by trivial
theorem zke {f:Addr}{fd:FuncData}(F:Fun K "is_word" "is_word" zjK f fd) (G:Mgs mg):FnOk P w K mg base CX0 1 f fd ["thing","word"] (ze1 K):=by
 refine F.ok scKd (fun vs H Q E h=>?_) (fun cdv A outer s H vs Q E hr h=>?_)
 ·obtain⟨x,b,rfl,_⟩:=h
  rfl
 obtain⟨x,b,rfl,ax,k⟩:=h
 refine⟨_,(@pss_one _ _ _ (@ps_ret _ _ _ _ (@pe_and _ _ _ _ _ _ _ (@pe_callB _ _ _ _ _ _ _ _ _ zat (by rfl) G.isi (by rfl) (@pa_cons _ _ _ _ _ (@qv _ 0 _ _ (by trivial)) (@pa_cons _ _ _ _ _ (@zaB _ _ (.ty "str") (.type "str") _ (by rfl) G.str (by rfl) rfl (by decide) (by decide)) pa_nil (by rfl)) (by rfl)) (by decide) (by decide) (by rfl) (by rfl)) (@pe_one _ _ _ _ _ (@pe_cmpR _ _ _ _ _ _ _ _ op_eq (@qv _ 0 _ _ (by trivial)) (@qv _ 1 _ _ (by trivial)) (nomark _)))))),?_⟩
 obtain⟨t,I⟩:=ax.isi
 refine⟨_,rfl,_,"str",_,_,rfl,I.ty,I.str,_,rfl,?_⟩
 cases x with
 | str z=>exact iteT ⟨_,rfl,_,rfl,rfl,by rw[zjE];exact k⟩
 | bl z=>exact iteF k
 | non=>exact iteF k
 | int z=>exact iteF k
 | flt z=>exact iteF k
 | byt z=>exact iteF k
 | ref z=>exact iteF k
 | ty z=>exact iteF k
theorem scNd:FnScope ["net"] ["net"] (zad zgO):=by trivial
theorem ziC {f fL:Addr}{fd dL:FuncData}(F:Fun K "has_no_depth" "has_no_depth" zgO f fd) (UL:Use P w K mg base "least_depth" ["lanes"] 1 zbr fL dL):FnOk P w K mg base CX0 2 f fd ["net"] zc4:=by
 refine F.ok scNd (fun vs H Q E h=>?_) (fun cdv A outer s H vs Q E hr h=>?_)
 ·obtain⟨r,fr,er,ps,N,rfl,_⟩:=h
  rfl
 obtain⟨r,fr,er,ps,N,rfl,ok,na,k⟩:=h
 refine⟨_,(@pss_one _ _ _ (@ps_ret _ _ _ _ (@pe_cmpR _ _ _ _ _ _ _ _ op_isN (@pe_call _ _ _ _ _ _ _ _ _ _ _ _ _ _ _ _ UL.ok hr (by rfl) UL.m UL.kp UL.b .nil pass0 (@pa_cons _ _ _ _ _ (@pe_ix _ _ _ _ _ _ _ ix_tup (@qv _ 0 _ _ (by trivial)) pe_int (fun _ _=>rfl)) pa_nil (by rfl)) (by decide) (by rfl) (by rfl)) pe_non (by rfl)))),?_⟩
 exact⟨_,rfl,r,_,0,_,rfl,rfl,SqT.of na.net,rfl,N.lanes,rfl,ok.l1,ok.l16,fun H1 s1=>⟨rfl,k H1 s1⟩⟩
theorem scSh:FnScope ["net","least"] ["net"] (zad zjN):=by trivial
theorem zkg {f fL fD:Addr}{fd dL dD:FuncData}(F:Fun K "is_shallow" "is_shallow" zjN f fd) (UL:Use P w K mg base "least_depth" ["lanes"] 1 zbr fL dL) (UD:Use P w K mg base "depth" ["net"] 2 zcf fD dD):FnOk P w K mg base CX0 3 f fd ["net"] zdC:=by
 refine F.ok scSh (fun vs H Q E h=>?_) (fun cdv A outer s H vs Q E hr h=>?_)
 ·obtain⟨r,fr,er,ps,N,d,rfl,_⟩:=h
  rfl
 obtain⟨r,fr,er,ps,N,d,rfl,ok,na,td,k⟩:=h
 have hr1:Room 1 _:=hr.mono (by decide)
 refine⟨_,(@pss_cons _ _ _ _ _ (@ps_set _ _ 1 _ _ _ _ scSh.nd rfl (.inl rfl) (@pe_call _ _ _ _ _ _ _ _ _ _ _ _ _ _ _ _ UL.ok hr1 (by rfl) UL.m UL.kp UL.b .nil pass0 (@pa_cons _ _ _ _ _ (@pe_ix _ _ _ _ _ _ _ ix_tup (@qv _ 0 _ _ (by trivial)) pe_int (fun _ _=>rfl)) pa_nil (by rfl)) (by decide) (by rfl) (by rfl)) (by rfl) (by first|exact .inl rfl|exact .inr rfl|assumption)) (@pss_one _ _ _ (@ps_ret _ _ _ _ (@pe_and _ _ _ _ _ _ _ (@pe_cmpR _ _ _ _ _ _ _ _ op_notN (@qv _ 1 _ _ (by trivial)) pe_non (by rfl)) (@pe_one _ _ _ _ _ (@pe_cmpR _ _ _ _ _ _ _ _ zdi (@pe_call _ _ _ _ _ _ _ _ _ _ _ _ _ _ _ _ UD.ok hr (by rfl) UD.m UD.kp UD.b .nil pass0 (@pa_cons _ _ _ _ _ (@qv _ 0 _ _ (by trivial)) pa_nil (by rfl)) (by decide) (by rfl) (by rfl)) (@qv _ 1 _ _ (by trivial)) (nomark _))))))),?_⟩
 refine⟨_,rfl,r,_,0,_,rfl,rfl,SqT.of na.net,rfl,N.lanes,rfl,ok.l1,ok.l16,fun H1 s1=>?_⟩
 unfold zbz at k
 rcases zfV N.lanes with e|⟨m,e⟩
 ·rw[e]at k ⊢
  exact⟨_,rfl,rfl,_,rfl,iteF (k H1 s1)⟩
 ·rw[e]at k ⊢
  refine⟨_,rfl,rfl,_,rfl,iteT ?_⟩
  refine⟨_,rfl,r,fr,er,ps,N,rfl,ok,na.tups (Tups.of s1),fun M H2 s2 m1 m2 m3 m4=>?_⟩
  obtain⟨e2,hM,t2⟩:=zeY ok m2 m1
  obtain rfl:=zcV td t2
  subst hM
  exact⟨_,rfl,_,_,rfl,rfl,k H2 (s1.trans s2)⟩
theorem scOf:FnScope ["net","balls"] ["net"] (zad sOff):=by trivial
theorem zlm {f fS fP fD:Addr}{fd dS dP dD:FuncData}(F:Fun K "off_shares" "off_shares" sOff f fd) (G:Mgs mg) (US:Use P w K mg base "shares" ["net"] 3 zc0 fS dS) (UP:Use P w K mg base "power_of_two" ["many"] 1 ze2 fP dP) (UD:Use P w K mg base "depth" ["net"] 2 zcf fD dD):FnOk P w K mg base CX0 4 f fd ["net"] zij:=by
 refine F.ok scOf (fun vs H Q E h=>?_) (fun cdv A outer s H vs Q E hr h=>?_)
 ·obtain⟨r,fr,er,ps,N,d,rfl,_⟩:=h
  rfl
 obtain⟨r,fr,er,ps,N,d,rfl,ok,na,td,k⟩:=h
 have hr1:Room 1 _:=hr.mono (by decide)
 have hr2:Room 2 _:=hr.mono (by decide)
 refine⟨_,(@pss_cons _ _ _ _ _ (@ps_set _ _ 1 _ _ _ _ scOf.nd rfl (.inr rfl) (@pe_call _ _ _ _ _ _ _ _ _ _ _ _ _ _ _ _ UP.ok hr1 (by rfl) UP.m UP.kp UP.b .nil pass0 (@pa_cons _ _ _ _ _ (@pe_call _ _ _ _ _ _ _ _ _ _ _ _ _ _ _ _ UD.ok hr2 (by rfl) UD.m UD.kp UD.b .nil pass0 (@pa_cons _ _ _ _ _ (@qv _ 0 _ _ (by trivial)) pa_nil (by rfl)) (by decide) (by rfl) (by rfl)) pa_nil (by rfl)) (by decide) (by rfl) (by rfl)) (by rfl) (by first|exact .inl rfl|exact .inr rfl|assumption)) (@pss_one _ _ _ (@ps_ret _ _ _ _ (@zjl _ _ _ _ _ _ (some _) _ _ _ (zlB K false (zdy (tVar 1) tNil)) (gTup K 2 (zcv (zbG 0) (zcv (zbG 1) gNil))) (gTup K 2 (zcv (zbG 2) (zcv (zbG 3) gNil))) _ _ ["lane","share","end","many","balls","net"] [none,none,none,none,some 1,some 0] rfl (@zg8 _ _ _ _ _ _ _ _ false rfl G.enum (@pa_cons _ _ _ _ _ (@pe_call _ _ _ _ _ _ _ _ _ _ _ _ _ _ _ _ US.ok hr (by rfl) US.m US.kp US.b .nil pass0 (@pa_cons _ _ _ _ _ (@qv _ 0 _ _ (by trivial)) pa_nil (by rfl)) (by decide) (by rfl) (by rfl)) pa_nil (by rfl)) (by rfl)) (CapOk.of (by kernel_rfl)) (fun _ _ _ _ _=>(@zap _ _ _ _ _ _ rfl (@pgs_cons _ _ _ _ _ (@pg_name _ _ 0 _ (show (["lane","share","end","many","balls","net"]:List Str).Nodup from by decide +kernel) rfl (.inl rfl) (.inr rfl)) (@pgs_cons _ _ _ _ _ (@pg_name _ _ 1 _ (show (["lane","share","end","many","balls","net"]:List Str).Nodup from by decide +kernel) rfl (.inl rfl) (.inr rfl)) pgs_nil (by rfl)) (by rfl)) (by rfl) (by rfl))) (fun _ _ _ _ _=>(@zg8 _ _ _ _ _ _ _ _ false rfl G.enum (@pa_cons _ _ _ _ _ (@qv _ 1 _ _ (by trivial)) pa_nil (by rfl)) (by rfl))) (fun _ _ _ _ _=>(@zap _ _ _ _ _ _ rfl (@pgs_cons _ _ _ _ _ (@pg_name _ _ 2 _ (show (["lane","share","end","many","balls","net"]:List Str).Nodup from by decide +kernel) rfl (.inl rfl) (.inr rfl)) (@pgs_cons _ _ _ _ _ (@pg_name _ _ 3 _ (show (["lane","share","end","many","balls","net"]:List Str).Nodup from by decide +kernel) rfl (.inl rfl) (.inr rfl)) pgs_nil (by rfl)) (by rfl)) (by rfl) (by rfl))) (fun _ _ _ _ _=>(@zg2 _ _ _ (@pt_cmpR _ _ _ _ _ _ _ _ zli (@pe_op _ _ _ _ _ _ _ _ op_mul (@pe_ix _ _ _ _ _ _ (rIxT K) ix_tup (@qv _ 5 _ _ (by trivial)) pe_int (fun _ _=>rfl)) (@qv _ 3 _ _ (by trivial))) (@qv _ 4 _ _ (by trivial)) (nomark _)))) (fun _ _ _ _ _=>(@pe_tup _ _ _ _ _ (@pa_cons _ _ _ _ _ (@qv _ 0 _ _ (by trivial)) (@pa_cons _ _ _ _ _ (@qv _ 2 _ _ (by trivial)) pa_nil (by rfl)) (by rfl)))) (by intro _;rfl) (by intro _ _;rfl))))),?_⟩
 have l16:=ok.l16
 have d128:=zjd ok td
 refine⟨_,rfl,r,fr,er,ps,N,rfl,ok,na,fun M H1 s1 m1 m2 m3 m4=>?_⟩
 obtain⟨e2,hM,t2⟩:=zeY ok m2 m1
 obtain rfl:=zcV td t2
 subst hM
 refine⟨d,rfl,by lia,?_⟩
 refine⟨_,rfl,r,fr,er,ps,N,rfl,ok,na.tups (Tups.of s1),fun p e ss H2 s2 te hp ssl rows=>⟨p,ss,rfl,SqT.of hp,fun l hl=>?_⟩⟩
 obtain rfl:=zcV td te
 have u2:=s1.trans s2
 have na2:=na.tups (Tups.of u2)
 refine ziU (K:=K) (b:=false) (a:=p) (xs:=ss) (fun i acc σ H3=>(∃ v0 v1 v2 v3,σ=[v0,v1,v2,v3,some (.int (pw d)),some (.ref r)])∧Same H2 H3∧H3 l=some (.lst acc)∧Prs H3 acc (offL N d i)) ⟨⟨_,_,_,_,rfl⟩,zaa hl _,zab,trivial⟩ (fun i acc σ H3 z=>⟨z.2.2.1,SqT.of (z.2.1 _ _ hp)⟩) ?_ ?_
 ·rintro i acc σ H3 x T hx hT ⟨⟨v0,v1,v2,v3,rfl⟩,s3,h3,pr3⟩
  have il:i<N.lanes:=by have:=(List.getElem?_eq_some_iff.mp hx).1;lia
  obtain⟨a,ea,ha⟩:=rows i il
  obtain rfl:=Option.some.inj (hx.symm.trans ea)
  have sT:=zaa hT (.tup [.int i,.ref a])
  have s4:=s3.trans sT
  have lT:l≠T:=zac h3 hT
  have el:(zaL N (zan N.lanes i (pw d))).length=N.lanes:=by unfold zaL;rw[List.length_map,ok.en.length_eq,List.length_range]
  refine⟨T,_,rfl,SqT.of zab,rfl,_,_,rfl,_,_,rfl,rfl,?_⟩
  refine⟨_,rfl,a,_,rfl,SqT.of (s4 _ _ ha),?_⟩
  refine zhB (K:=K) (b:=false) (a:=a) (xs:=(zaL N (zan N.lanes i (pw d))).map V.int) (fun j acc σ H5=>(∃ v2 v3,σ=[some (.int i),some (.ref a),v2,v3,some (.int (pw d)),some (.ref r)])∧Same H2 H5∧H5 l=some (.lst acc)∧Prs H5 acc (offL N d i++offR N d i j)) ⟨⟨_,_,rfl⟩,s4,sT _ _ h3,?_⟩ (fun j acc σ H5 z=>⟨z.2.2.1,SqT.of (z.2.1 _ _ ha)⟩) ?_ ?_
  ·show Prs _ acc (offL N d i++[])
   rw[List.append_nil];exact pr3.tups (Tups.of sT)
  ·rintro j y acc σ H5 T2 hy hT2 ⟨⟨v2,v3,rfl⟩,s5,h5,pr5⟩
   have jl:j<(zaL N (zan N.lanes i (pw d))).length:=by have:=(List.getElem?_eq_some_iff.mp hy).1;rwa [List.length_map]at this
   have ey:y=.int (zbs N d i j):=by
    rw[List.getElem?_map,List.getElem?_eq_getElem jl]at hy
    unfold zbs
    rw[List.getD_eq_getElem?_getD,List.getElem?_eq_getElem jl]
    exact(Option.some.inj hy).symm
   subst ey
   have sT2:=zaa hT2 (.tup [.int j,.int (zbs N d i j)])
   have s6:=s5.trans sT2
   have na6:=na2.tups (Tups.of s6)
   refine⟨T2,_,rfl,SqT.of zab,rfl,_,_,rfl,_,_,rfl,rfl,?_⟩
   refine⟨_,rfl,r,_,0,_,rfl,rfl,SqT.of na6.net,rfl,_,rfl,_,_,rfl,rfl,.inl ⟨by lia,by lia⟩,_,rfl,rfl,_,rfl,?_⟩
   have eb:(!decide (V.int ((N.lanes:Int)*zbs N d i j)=V.int (pw d)))=offB N d i j:=by
    unfold offB
    rw[zeJ]
   rw[eb]
   have bound:=zfj N d i
   have bound2:=zfi N d i j
   have b3:i*N.lanes≤16*16:=Nat.mul_le_mul (by lia) l16
   have pl:=pr5.len
   rw[List.length_append]at pl
   refine ite2 (fun c=>?_) (fun c=>?_)
   ·refine⟨_,rfl,_,rfl,(by show 2≤sizeLine;decide),fun t ht=>?_⟩
    have st:=zaa ht (.tup [.int i,.int j])
    have h7:=st _ _ (sT2 _ _ h5)
    refine⟨h7,by rw[pl,sizeLine_eq];rw[el]at jl;lia,nx (by rw[List.length_map];exact jl) ⟨⟨_,_,rfl⟩,fun b o e=>?_,zab,?_⟩⟩
    ·rw[zae (zac e hl)];exact st _ _ (s6 _ _ e)
    ·rw[zdL,if_pos c,← List.append_assoc]
     exact((pr5.tups (Tups.of (sT2.trans st))).tups (Tups.lst h7)).add (Tups.lst h7 _ _ zab)
   ·refine nx (by rw[List.length_map];exact jl) ⟨⟨_,_,rfl⟩,s6,sT2 _ _ h5,?_⟩
    rw[zdL,if_neg c,List.append_nil]
    exact pr5.tups (Tups.of sT2)
  ·rintro acc σ H5 ⟨⟨v2,v3,rfl⟩,s5,h5,pr5⟩
   rw[List.length_map,el,← zdM]at pr5
   exact nx (by rw[ssl];exact il) ⟨⟨_,_,_,_,rfl⟩,s5,h5,pr5⟩
 ·rintro acc σ H3 ⟨_,s3,h3,pr3⟩
  rw[ssl]at pr3
  exact k l acc H3 (u2.trans s3) h3 pr3
theorem scFa:FnScope ["net","row","told"] ["net","row"] (zad zgT):=by trivial
theorem ziH {f fC:Addr}{fd dC:FuncData}(F:Fun K "falls" "falls" zgT f fd) (G:Mgs mg) (UC:Use P w K mg base "compared" ["net","row"] 1 zfF fC dC):FnOk P w K mg base CX0 2 f fd ["net","row"] zc8:=by
 refine F.ok scFa (fun vs H Q E h=>?_) (fun cdv A outer s H vs Q E hr h=>?_)
 ·obtain⟨r,fr,er,ps,N,c,cs,rfl,_⟩:=h
  rfl
 obtain⟨r,fr,er,ps,N,c,cs,rfl,ok,na,hc,cl,k⟩:=h
 refine⟨_,(@pss_cons _ _ _ _ _ (@ps_set _ _ 2 _ _ _ _ scFa.nd rfl (.inl rfl) (@pe_callTy _ _ _ _ _ _ _ _ _ zaU (by rfl) G.list (by rfl) (@pa_cons _ _ _ _ _ (@pe_call _ _ _ _ _ _ _ _ _ _ _ _ _ _ _ _ UC.ok hr (by rfl) UC.m UC.kp UC.b .nil pass0 (@pa_cons _ _ _ _ _ (@qv _ 0 _ _ (by trivial)) (@pa_cons _ _ _ _ _ (@qv _ 1 _ _ (by trivial)) pa_nil (by rfl)) (by rfl)) (by decide) (by rfl) (by rfl)) pa_nil (by rfl)) (by decide) (by decide) (by rfl) (by rfl)) (by rfl) (by first|exact .inl rfl|exact .inr rfl|assumption)) (@pss_one _ _ _ (@ps_ret _ _ _ _ (@pe_cmpR _ _ _ _ _ _ _ _ (zkc hr.units0) (@qv _ 2 _ _ (by trivial)) (@zfL _ _ _ _ _ _ _ _ (by rfl) G.sorted (@qv _ 2 _ _ (by trivial)) pe_bl (by rfl) (by rfl) (by rfl) (by rfl)) (nomark _))))),?_⟩
 have l16:=ok.l16
 have el:=zfx ok cl
 refine⟨_,rfl,_,rfl,r,fr,er,ps,N,c,cs,rfl,ok,na,hc,cl,fun p H1 s1 h1=>?_⟩
 refine⟨p,_,rfl,.inr (SqT.of h1),fun l hl=>?_⟩
 have s2:=zaa hl (.lst ((cmpM N cs).map V.int))
 refine⟨_,rfl,_,rfl,l,cmpM N cs,rfl,rfl,SqL.of zab,by lia,fun l2 ms hl2 pm sm=>?_⟩
 have s3:=zaa hl2 (.lst (ms.map V.int))
 refine⟨l,l2,cmpM N cs,ms,rfl,rfl,SqL.of (s3 _ _ zab),SqL.of zab,?_⟩
 rw[zhQ pm sm]
 exact k _ ((s1.trans s2).trans s3)
theorem scIo:FnScope ["net","thing"] ["net","thing"] (zad zgR):=by trivial
theorem ziF {f fB fO:Addr}{fd dB dO:FuncData}(F:Fun K "is_off_share" "is_off_share" zgR f fd) (UB:Use P w K mg base "are_below" ["thing","many","bound"] 3 (zbk K) fB dB) (UO:Use P w K mg base "off_shares" ["net"] 4 zij fO dO):FnOk P w K mg base CX0 5 f fd ["net","thing"] (zej K):=by
 refine F.ok scIo (fun vs H Q E h=>?_) (fun cdv A outer s H vs Q E hr h=>?_)
 ·obtain⟨r,fr,er,ps,N,d,t,y,z,rfl,_⟩:=h
  rfl
 obtain⟨r,fr,er,ps,N,d,t,y,z,rfl,ok,na,td,ht,ay,az,k⟩:=h
 have hr3:Room 3 _:=hr.mono (by decide)
 refine⟨_,(@pss_one _ _ _ (@ps_ret _ _ _ _ (@pe_and _ _ _ _ _ _ _ (@pe_call _ _ _ _ _ _ _ _ _ _ _ _ _ _ _ _ UB.ok hr3 (by rfl) UB.m UB.kp UB.b .nil pass0 (@pa_cons _ _ _ _ _ (@qv _ 1 _ _ (by trivial)) (@pa_cons _ _ _ _ _ pe_int (@pa_cons _ _ _ _ _ (@pe_ix _ _ _ _ _ _ _ ix_tup (@qv _ 0 _ _ (by trivial)) pe_int (fun _ _=>rfl)) pa_nil (by rfl)) (by rfl)) (by rfl)) (by decide) (by rfl) (by rfl)) (@pe_one _ _ _ _ _ (@pe_cmpR _ _ _ _ _ _ _ _ (zlj hr.units) (@qv _ 1 _ _ (by trivial)) (@pe_call _ _ _ _ _ _ _ _ _ _ _ _ _ _ _ _ UO.ok hr (by rfl) UO.m UO.kp UO.b .nil pass0 (@pa_cons _ _ _ _ _ (@qv _ 0 _ _ (by trivial)) pa_nil (by rfl)) (by decide) (by rfl) (by rfl)) (by rfl)))))),?_⟩
 have dp:Deep K H 1 (.ref t):=⟨⟨_,.tup ht,_,rfl⟩,fun xs e=>by
  rw[zaz ht]at e
  obtain rfl:=Option.some.inj e
  refine⟨by show 2≤1000;decide,fun u hu=>?_⟩
  simp only[List.mem_cons,List.not_mem_nil,or_false]at hu
  rcases hu with rfl|rfl
  ·exact ay
  ·exact az⟩
 refine⟨_,rfl,_,rfl,r,_,0,_,rfl,rfl,SqT.of na.net,rfl,.ref t,2,N.lanes,rfl,dp,by decide,fun H1 s1=>⟨_,rfl,?_⟩⟩
 have eb:zaw H 2 N.lanes (.ref t)=(zam N.lanes y && zam N.lanes z):=by
  unfold zaw
  rw[zaz ht]
  show (decide (((([y,z]:List V).length:Nat):Int)=2) && [y,z].all (zam N.lanes))=_
  simp
 rw[eb]
 by_cases c:(zam N.lanes y && zam N.lanes z)=true
 ·rw[c]
  rw[Bool.and_eq_true]at c
  obtain⟨i,rfl,i0,i1⟩:=zbK c.1
  obtain⟨j,rfl,j0,j1⟩:=zbK c.2
  obtain⟨i,rfl⟩:=Int.eq_ofNat_of_zero_le i0
  obtain⟨j,rfl⟩:=Int.eq_ofNat_of_zero_le j0
  refine iteT ⟨_,rfl,_,rfl,r,fr,er,ps,N,d,rfl,ok,na.tups (Tups.of s1),td,fun p ts H2 s2 hp pr=>?_⟩
  have u2:=s1.trans s2
  obtain⟨f1,f2⟩:=zfv pr
  refine⟨2,zcw (i,j),(offL N d N.lanes).map zcw,by decide,?_,DD.lst hp f1 f2,?_⟩
  ·refine DD.tup (u2 _ _ ht) rfl fun q u e p1 p2=>?_
   match q,p1,p2 with
   | 0,p1,p2=>obtain rfl:=Option.some.inj p1;obtain rfl:=Option.some.inj p2;exact DD.i _
   | 1,p1,p2=>obtain rfl:=Option.some.inj p1;obtain rfl:=Option.some.inj p2;exact DD.i _
   | q+2,p1,p2=>simp at p1
  ·have ea:(((offL N d N.lanes).map zcw).any fun z=>PyData.eqv z (zcw (i,j)))=offV N d (.int (i:Nat)) (.int (j:Nat)):=by
    show _=(zam N.lanes (.int (i:Nat)) && (zam N.lanes (.int (j:Nat)) && offB N d (i:Int).toNat (j:Int).toNat))
    rw[c.1,c.2,Bool.true_and,Bool.true_and,Int.toNat_natCast,Int.toNat_natCast,List.any_map,Bool.eq_iff_iff,List.any_eq_true]
    constructor
    ·rintro⟨g,hg,e⟩
     obtain rfl:=zi0 g (i,j) e
     exact(zb7.mp hg).2.2
    ·intro e
     exact⟨(i,j),zb7.mpr ⟨by lia,by lia,e⟩,by simp[zcw,PyData.eqv,PyData.eqvAll]⟩
   rw[ea]
   exact k H2 u2
 ·have c':(zam N.lanes y && zam N.lanes z)=false:=by simpa using c
  rw[c']
  have ez:offV N d y z=false:=by
   cases y with
   | int i =>
    cases z with
    | int j =>
     show (zam N.lanes (.int i) && (zam N.lanes (.int j) && _))=false
     rw[← Bool.and_assoc,c'];rfl
    | _=>rfl
   | _=>rfl
  refine iteF ?_
  have:=k H1 s1
  rwa [ez]at this
end
theorem zbc {H:Hp}{x:V}{xs:List V}(h:zaZ H x=some xs) (m:Int):rowV H m x=decide ((xs.length:Int)=m):=by unfold rowV;rw[h]
section
variable {P:Program}{w:World}{K:PySem.W.Frag}{mg:Str→Option Value}{base:Heap}
theorem scSb:FnScope ["net","thing"] ["net","thing"] (zad zgL):=by trivial
theorem ziz {f fR fW fN fH fB fF fO:Addr}{fd dR dW dN dH dB dF dO:FuncData}(F:Fun K "shows_bar" "shows_bar" zgL f fd) (UR:Use P w K mg base "is_row" ["thing","many"] 1 (zc6 K) fR dR) (UW:Use P w K mg base "is_word" ["thing","word"] 1 (ze1 K) fW dW) (UN:Use P w K mg base "has_no_depth" ["net"] 2 zc4 fN dN) (UH:Use P w K mg base "is_shallow" ["net"] 3 zdC fH dH)
  (UB:Use P w K mg base "are_below" ["thing","many","bound"] 3 (zbk K) fB dB) (UF:Use P w K mg base "falls" ["net","row"] 2 zc8 fF dF) (UO:Use P w K mg base "is_off_share" ["net","thing"] 5 (zej K) fO dO):FnOk P w K mg base CX0 6 f fd ["net","thing"] (zeh K):=by
 refine F.ok scSb (fun vs H Q E h=>?_) (fun cdv A outer s H vs Q E hr h=>?_)
 ·obtain⟨r,fr,er,ps,N,d,x,rfl,_⟩:=h
  rfl
 obtain⟨r,fr,er,ps,N,d,x,rfl,ok,na,td,dx,k⟩:=h
 have hr1:Room 1 _:=hr.mono (by decide)
 have hr2:Room 2 _:=hr.mono (by decide)
 have hr3:Room 3 _:=hr.mono (by decide)
 refine⟨_,(@pss_cons _ _ _ _ _ (@ps_if _ _ _ _ _ _ _ _ (@pt_val _ _ _ (@pe_call _ _ _ _ _ _ _ _ _ _ _ _ _ _ _ _ UR.ok hr1 (by rfl) UR.m UR.kp UR.b .nil pass0 (@pa_cons _ _ _ _ _ (@qv _ 1 _ _ (by trivial)) (@pa_cons _ _ _ _ _ pe_int pa_nil (by rfl)) (by rfl)) (by decide) (by rfl) (by rfl)) (by intro _;rfl)) (@pss_one _ _ _ (@ps_ret _ _ _ _ (@pe_or _ _ _ _ _ _ _ (@pe_and _ _ _ _ _ _ _ (@pe_call _ _ _ _ _ _ _ _ _ _ _ _ _ _ _ _ UW.ok hr1 (by rfl) UW.m UW.kp UW.b .nil pass0 (@pa_cons _ _ _ _ _ (@pe_ix _ _ _ _ _ _ _ ix_tup (@qv _ 1 _ _ (by trivial)) pe_int (fun _ _=>rfl)) (@pa_cons _ _ _ _ _ pe_str pa_nil (by rfl)) (by rfl)) (by decide) (by rfl) (by rfl)) (@pe_one _ _ _ _ _ (@pe_call _ _ _ _ _ _ _ _ _ _ _ _ _ _ _ _ UN.ok hr2 (by rfl) UN.m UN.kp UN.b .nil pass0 (@pa_cons _ _ _ _ _ (@qv _ 0 _ _ (by trivial)) pa_nil (by rfl)) (by decide) (by rfl) (by rfl)))) (@pe_one _ _ _ _ _ (@pe_and _ _ _ _ _ _ _ (@pe_call _ _ _ _ _ _ _ _ _ _ _ _ _ _ _ _ UW.ok hr1 (by rfl) UW.m UW.kp UW.b .nil pass0 (@pa_cons _ _ _ _ _ (@pe_ix _ _ _ _ _ _ _ ix_tup (@qv _ 1 _ _ (by trivial)) pe_int (fun _ _=>rfl)) (@pa_cons _ _ _ _ _ pe_str pa_nil (by rfl)) (by rfl)) (by decide) (by rfl) (by rfl)) (@pe_one _ _ _ _ _ (@pe_call _ _ _ _ _ _ _ _ _ _ _ _ _ _ _ _ UH.ok hr3 (by rfl) UH.m UH.kp UH.b .nil pass0 (@pa_cons _ _ _ _ _ (@qv _ 0 _ _ (by trivial)) pa_nil (by rfl)) (by decide) (by rfl) (by rfl)))))))) pss_nil) (@pss_cons _ _ _ _ _ (@ps_if _ _ _ _ _ _ _ _ (@pt_val _ _ _ (@pe_call _ _ _ _ _ _ _ _ _ _ _ _ _ _ _ _ UR.ok hr1 (by rfl) UR.m UR.kp UR.b .nil pass0 (@pa_cons _ _ _ _ _ (@qv _ 1 _ _ (by trivial)) (@pa_cons _ _ _ _ _ pe_int pa_nil (by rfl)) (by rfl)) (by decide) (by rfl) (by rfl)) (by intro _;rfl)) (@pss_one _ _ _ (@ps_ret _ _ _ _ (@pe_and _ _ _ _ _ _ _ (@pe_call _ _ _ _ _ _ _ _ _ _ _ _ _ _ _ _ UW.ok hr1 (by rfl) UW.m UW.kp UW.b .nil pass0 (@pa_cons _ _ _ _ _ (@pe_ix _ _ _ _ _ _ _ ix_tup (@qv _ 1 _ _ (by trivial)) pe_int (fun _ _=>rfl)) (@pa_cons _ _ _ _ _ pe_str pa_nil (by rfl)) (by rfl)) (by decide) (by rfl) (by rfl)) (@pe_and _ _ _ _ _ _ _ (@pe_call _ _ _ _ _ _ _ _ _ _ _ _ _ _ _ _ UB.ok hr3 (by rfl) UB.m UB.kp UB.b .nil pass0 (@pa_cons _ _ _ _ _ (@pe_ix _ _ _ _ _ _ _ ix_tup (@qv _ 1 _ _ (by trivial)) pe_int (fun _ _=>rfl)) (@pa_cons _ _ _ _ _ (@pe_ix _ _ _ _ _ _ _ ix_tup (@qv _ 0 _ _ (by trivial)) pe_int (fun _ _=>rfl)) (@pa_cons _ _ _ _ _ pe_int pa_nil (by rfl)) (by rfl)) (by rfl)) (by decide) (by rfl) (by rfl)) (@pe_one _ _ _ _ _ (@zjk _ _ _ _ (@pe_call _ _ _ _ _ _ _ _ _ _ _ _ _ _ _ _ UF.ok hr2 (by rfl) UF.m UF.kp UF.b .nil pass0 (@pa_cons _ _ _ _ _ (@qv _ 0 _ _ (by trivial)) (@pa_cons _ _ _ _ _ (@pe_ix _ _ _ _ _ _ _ ix_tup (@qv _ 1 _ _ (by trivial)) pe_int (fun _ _=>rfl)) pa_nil (by rfl)) (by rfl)) (by decide) (by rfl) (by rfl)))))))) pss_nil) (@pss_one _ _ _ (@ps_ret _ _ _ _ (@pe_and _ _ _ _ _ _ _ (@pe_call _ _ _ _ _ _ _ _ _ _ _ _ _ _ _ _ UR.ok hr1 (by rfl) UR.m UR.kp UR.b .nil pass0 (@pa_cons _ _ _ _ _ (@qv _ 1 _ _ (by trivial)) (@pa_cons _ _ _ _ _ pe_int pa_nil (by rfl)) (by rfl)) (by decide) (by rfl) (by rfl)) (@pe_and _ _ _ _ _ _ _ (@pe_call _ _ _ _ _ _ _ _ _ _ _ _ _ _ _ _ UW.ok hr1 (by rfl) UW.m UW.kp UW.b .nil pass0 (@pa_cons _ _ _ _ _ (@pe_ix _ _ _ _ _ _ _ ix_tup (@qv _ 1 _ _ (by trivial)) pe_int (fun _ _=>rfl)) (@pa_cons _ _ _ _ _ pe_str pa_nil (by rfl)) (by rfl)) (by decide) (by rfl) (by rfl)) (@pe_one _ _ _ _ _ (@pe_call _ _ _ _ _ _ _ _ _ _ _ _ _ _ _ _ UO.ok hr (by rfl) UO.m UO.kp UO.b .nil pass0 (@pa_cons _ _ _ _ _ (@qv _ 0 _ _ (by trivial)) (@pa_cons _ _ _ _ _ (@pe_slice _ _ _ _ _ _ _ _ _ _ zdc (@qv _ 1 _ _ (by trivial)) (@po_some _ _ _ pe_int) po_none) pa_nil (by rfl)) (by rfl)) (by decide) (by rfl) (by rfl))))))))),?_⟩
 refine⟨_,rfl,x,1,rfl,dx.any,_,rfl,?_⟩
 unfold barV at k
 cases z:zaZ H x with
 | none =>
  have e:∀ m,rowV H m x=false:=fun m=>by unfold rowV;rw[z]
  rw[z]at k
  rw[e]
  refine iteF ⟨_,rfl,x,2,rfl,dx.any,_,rfl,?_⟩
  rw[e]
  refine iteF ⟨_,rfl,x,3,rfl,dx.any,_,rfl,?_⟩
  rw[e]
  exact iteF (k H (Same.refl H))
 | some xs =>
  obtain⟨a,rfl,ha⟩:=zbl z
  obtain⟨_,dxs⟩:=dx.2 xs z
  rw[z]at k
  rw[zbc z]
  match xs,ha,z,dxs,k with
  | [],ha,z,dxs,k =>
   refine iteF ⟨_,rfl,.ref a,2,rfl,dx.any,_,rfl,?_⟩
   rw[zbc z]
   refine iteF ⟨_,rfl,.ref a,3,rfl,dx.any,_,rfl,?_⟩
   rw[zbc z]
   exact iteF (k H (Same.refl H))
  | [y],ha,z,dxs,k =>
   have dy:=dxs y (by simp)
   refine iteT ⟨_,rfl,a,_,0,_,rfl,rfl,SqT.of ha,rfl,y,"lanes",rfl,dy.any,_,rfl,?_⟩
   have k:∀ H',Same H H'→Q (.bl (if (zaC "lanes" y && zaS N)=true then true else zaC "depth" y && zbz N d)) H':=k
   have rest:∀ H1,Same H H1→(∀ H',Same H H'→Q (.bl (zaC "depth" y && zbz N d)) H')→(zk5 (zig (ze1 K) [] E0 (zdy (tOp (rIxT K) (tVar 1) (tC (.int 0))) (zdy (tC (.str "depth")) tNil))) (zig zdC [] E0 (zdy (tVar 0) tNil))) [some (.ref r),some (.ref a)] H1 Q:=fun H1 s1 kk=>by
    refine⟨_,rfl,a,_,0,_,rfl,rfl,SqT.of (s1 _ _ ha),rfl,y,"depth",rfl,AnyT.same s1 dy.any,_,rfl,?_⟩
    cases c:zaC "depth" y with
    | false =>
     rw[c]at kk
     exact iteF (kk H1 s1)
    | true =>
     rw[c]at kk
     exact iteT ⟨_,rfl,r,fr,er,ps,N,d,rfl,ok,na.tups (Tups.of s1),td,fun H2 s2=>kk H2 (s1.trans s2)⟩
   cases c:zaC "lanes" y with
   | false =>
    rw[c]at k
    exact iteF ⟨_,rfl,iteF (rest H (Same.refl H) k)⟩
   | true =>
    rw[c]at k
    refine iteT ⟨_,rfl,r,fr,er,ps,N,rfl,ok,na,fun H1 s1=>⟨_,rfl,?_⟩⟩
    cases c2:zaS N with
    | true =>
     rw[c2]at k
     exact iteT (k H1 s1)
    | false =>
     rw[c2]at k
     exact iteF (rest H1 s1 k)
  | [y,u],ha,z,dxs,k =>
   have dy:=dxs y (by simp)
   have du:=dxs u (by simp)
   refine iteF ⟨_,rfl,.ref a,2,rfl,dx.any,_,rfl,?_⟩
   rw[zbc z]
   refine iteT ⟨_,rfl,a,_,0,_,rfl,rfl,SqT.of ha,rfl,y,"row",rfl,dy.any,_,rfl,?_⟩
   have k:∀ H',Same H H'→Q (.bl (zaC "row" y && (zaw H N.lanes 2 u && !zbt N (zcr H u)))) H':=k
   cases c:zaC "row" y with
   | false =>
    rw[c]at k
    exact iteF (k H (Same.refl H))
   | true =>
    rw[c]at k
    have l16:=ok.l16
    refine iteT ⟨_,rfl,a,_,1,_,rfl,rfl,SqT.of ha,rfl,_,rfl,r,_,0,_,rfl,rfl,SqT.of na.net,rfl,u,N.lanes,2,rfl,du,by lia,fun H1 s1=>⟨_,rfl,?_⟩⟩
    cases c2:zaw H N.lanes 2 u with
    | false =>
     rw[c2]at k
     exact iteF (k H1 s1)
    | true =>
     rw[c2]at k
     obtain⟨b,cs,rfl,hb,cl,ei,_⟩:=zeS c2
     rw[ei]at k
     refine iteT ⟨_,rfl,_,rfl,a,_,1,_,rfl,rfl,SqT.of (s1 _ _ ha),rfl,r,fr,er,ps,N,b,cs,rfl,ok,na.tups (Tups.of s1),s1 _ _ hb,by lia,fun H2 s2=>⟨_,rfl,?_⟩⟩
     exact k H2 (s1.trans s2)
  | [y,u,v],ha,z,dxs,k =>
   have dy:=dxs y (by simp)
   have du:=dxs u (by simp)
   have dv:=dxs v (by simp)
   refine iteF ⟨_,rfl,.ref a,2,rfl,dx.any,_,rfl,?_⟩
   rw[zbc z]
   refine iteF ⟨_,rfl,.ref a,3,rfl,dx.any,_,rfl,?_⟩
   rw[zbc z]
   refine iteT ⟨_,rfl,a,_,0,_,rfl,rfl,SqT.of ha,rfl,y,"share",rfl,dy.any,_,rfl,?_⟩
   have k:∀ H',Same H H'→Q (.bl (zaC "share" y && offV N d u v)) H':=k
   cases c:zaC "share" y with
   | false =>
    rw[c]at k
    exact iteF (k H (Same.refl H))
   | true =>
    rw[c]at k
    refine iteT ⟨_,rfl,_,rfl,_,rfl,a,_,rfl,ha,fun t H1 s1 h1=>?_⟩
    refine⟨r,fr,er,ps,N,d,t,u,v,rfl,ok,na.tups (Tups.of s1),td,h1,AnyT.same s1 du.any,AnyT.same s1 dv.any,fun H2 s2=>k H2 (s1.trans s2)⟩
  | y::u::v::t::rest,ha,z,dxs,k =>
   have n1:decide ((((y::u::v::t::rest:List V).length:Nat):Int)=1)=false:=decide_eq_false (by simp only[List.length_cons];lia)
   have n2:decide ((((y::u::v::t::rest:List V).length:Nat):Int)=2)=false:=decide_eq_false (by simp only[List.length_cons];lia)
   have n3:decide ((((y::u::v::t::rest:List V).length:Nat):Int)=3)=false:=decide_eq_false (by simp only[List.length_cons];lia)
   rw[n1]
   refine iteF ⟨_,rfl,.ref a,2,rfl,dx.any,_,rfl,?_⟩
   rw[zbc z,n2]
   refine iteF ⟨_,rfl,.ref a,3,rfl,dx.any,_,rfl,?_⟩
   rw[zbc z,n3]
   exact iteF (k H (Same.refl H))
end
end K70
namespace Bn
open PySem L2 Own
def zim:List Int→Bool
 | x::y::l=>decide (x<y) || zim (y::l)
 | _=>false
theorem ze7:∀ xs:List Int,(List.zipWith (fun a b=>decide (a<b)) xs (xs.drop 1)).any id=zim xs
 | []=>rfl
 | [x]=>rfl
 | x::y::l=>by
  have:=ze7 (y::l)
  show (decide (x<y) || (List.zipWith (fun a b=>decide (a<b)) (y::l) ((y::l).drop 1)).any id)=_
  rw[this];rfl
theorem zcH:∀ xs:List Int,zim xs = !decide (xs.Pairwise (·≥·))
 | []=>by rw[decide_eq_true List.Pairwise.nil];rfl
 | [x]=>by rw[decide_eq_true (List.pairwise_singleton _ _)];rfl
 | x::y::l=>by
  have ih:=zcH (y::l)
  show (decide (x<y) || zim (y::l))=_
  rw[ih]
  by_cases c:(y::l).Pairwise (·≥·)
  ·rw[decide_eq_true c]
   by_cases z:x<y
   ·rw[decide_eq_true z,decide_eq_false (fun q=>by have:=(List.pairwise_cons.mp q).1 y List.mem_cons_self;lia)];rfl
   ·rw[decide_eq_false z,decide_eq_true (List.pairwise_cons.mpr ⟨fun u hu=>by
     rcases List.mem_cons.mp hu with e|hu
     ·lia
     ·have:=(List.pairwise_cons.mp c).1 u hu
      lia,c⟩)];rfl
  ·rw[decide_eq_false c,decide_eq_false fun q=>c (List.pairwise_cons.mp q).2]
   simp
theorem zh8 {n lane:Nat}(h:lane<n) (m:Int):(zan n lane m).sum=m:=by
 unfold zan
 have z:∀ k:Nat,(List.replicate k (0:Int)).sum=0:=fun k=>by
  induction k with
  | zero=>rfl
  | succ k ih=>rw[List.replicate_succ,List.sum_cons,ih];rfl
 rw[zcX _ _ _ (by rw[List.length_replicate];exact h),z,List.getD_eq_getElem?_getD,List.getElem?_replicate,if_pos h]
 show 0-0+m=m
 lia
theorem zgH {N:Nt}(ok:N.Ok) {lane:Nat}(h:lane<N.lanes) (m:Int):(zaL N (zan N.lanes lane m)).sum=m:=by
 rw[zi3 ok (by unfold zan;rw[List.length_set,List.length_replicate]),zh8 h]
def ThK (H:Hp) (N:Nt) (d:Nat) (x:V) (b:Bool):Prop:=∃ t,x=.ref t∧((H t=some (.tup [.str "lanes"])∧b=zaS N)∨(H t=some (.tup [.str "depth"])∧b=zbz N d) ∨
 (∃ i j:Nat,i<N.lanes∧j<N.lanes∧H t=some (.tup [.str "share",.int i,.int j])∧b=offB N d i j) ∨
 ∃ c,∃ cs:List Int,H t=some (.tup [.str "row",.ref c])∧H c=some (.tup (cs.map V.int))∧cs.length=N.lanes∧(∀ i∈cs,0≤i∧i<2)∧b = !zbt N cs)
theorem zh5 {K:PySem.W.Frag}{H:Hp}(z:Str):AnyT K H (.str z):=⟨_,.str z,_,rfl⟩
theorem zh6 {K:PySem.W.Frag}{H:Hp}(z:Int):AnyT K H (.int z):=⟨_,.int z,_,rfl⟩
theorem zb9 {K:PySem.W.Frag}{H:Hp}(z:Str):∀ n,Deep K H n (.str z)
 | 0=>zh5 z
 | n+1=>⟨zh5 z,fun xs e=>by cases e⟩
theorem zdr {K:PySem.W.Frag}{H:Hp}(z:Int):∀ n,Deep K H n (.int z)
 | 0=>zh6 z
 | n+1=>⟨zh6 z,fun xs e=>by cases e⟩
theorem zbJ {K:PySem.W.Frag}{H:Hp}{a:Addr}{xs:List V}{n:Nat}(h:H a=some (.tup xs)) (l:xs.length≤1000) (d:∀ y∈xs,Deep K H n y):Deep K H (n+1) (.ref a):=⟨⟨_,.tup h,_,rfl⟩,fun ys e=>by
 rw[zaz h]at e
 obtain rfl:=Option.some.inj e
 exact⟨l,d⟩⟩
theorem ThK.deep {K:PySem.W.Frag}{H:Hp}{N:Nt}{d:Nat}{x:V}{b:Bool}(ok:N.Ok) (h:ThK H N d x b):Deep K H 2 x:=by
 obtain⟨t,rfl,h⟩:=h
 have l16:=ok.l16
 rcases h with ⟨h,e⟩|⟨h,e⟩|⟨i,j,hi,hj,h,e⟩|⟨c,cs,h,hc,cl,cb,e⟩
 ·refine zbJ h (by show 1≤1000;decide) fun y hy=>?_
  rw[List.mem_singleton.mp hy];exact zb9 _ _
 ·refine zbJ h (by show 1≤1000;decide) fun y hy=>?_
  rw[List.mem_singleton.mp hy];exact zb9 _ _
 ·refine zbJ h (by show 3≤1000;decide) fun y hy=>?_
  simp only[List.mem_cons,List.not_mem_nil,or_false]at hy
  rcases hy with rfl|rfl|rfl
  ·exact zb9 _ _
  ·exact zdr _ _
  ·exact zdr _ _
 ·refine zbJ h (by show 2≤1000;decide) fun y hy=>?_
  simp only[List.mem_cons,List.not_mem_nil,or_false]at hy
  rcases hy with rfl|rfl
  ·exact zb9 _ _
  ·refine zbJ hc (by rw[List.length_map];lia) fun z hz=>?_
   obtain⟨i,_,rfl⟩:=List.mem_map.mp hz
   exact zdr _ _
theorem w_ne:zaC "lanes" (.str "depth")=false∧zaC "lanes" (.str "lanes")=true∧zaC "depth" (.str "lanes")=false∧zaC "depth" (.str "depth")=true∧zaC "share" (.str "share")=true∧zaC "row" (.str "row")=true:=by decide +kernel
theorem ThK.bar {H:Hp}{N:Nt}{d:Nat}{x:V}{b:Bool}(h:ThK H N d x b):barV H N d x=b:=by
 obtain⟨t,rfl,h⟩:=h
 obtain⟨w1,w2,w3,w4,w5,w6⟩:=w_ne
 unfold barV
 rcases h with ⟨h,rfl⟩|⟨h,rfl⟩|⟨i,j,hi,hj,h,rfl⟩|⟨c,cs,h,hc,cl,cb,rfl⟩
 ·rw[zaz h]
  show (if (zaC "lanes" (.str "lanes") && zaS N)=true then true else zaC "depth" (.str "lanes") && zbz N d)=_
  rw[w2,w3,Bool.true_and,Bool.false_and]
  cases zaS N<;>rfl
 ·rw[zaz h]
  show (if (zaC "lanes" (.str "depth") && zaS N)=true then true else zaC "depth" (.str "depth") && zbz N d)=_
  rw[w1,w4,Bool.true_and,Bool.false_and];rfl
 ·rw[zaz h]
  show (zaC "share" (.str "share") && offV N d (.int i) (.int j))=_
  rw[w5,Bool.true_and]
  show (zam N.lanes (.int i) && (zam N.lanes (.int j) && offB N d (i:Int).toNat (j:Int).toNat))=_
  have b1:zam N.lanes (.int (i:Nat))=true:=by simp[zam];lia
  have b2:zam N.lanes (.int (j:Nat))=true:=by simp[zam];lia
  rw[b1,b2,Int.toNat_natCast,Int.toNat_natCast];rfl
 ·rw[zaz h]
  show (zaC "row" (.str "row") && (zaw H N.lanes 2 (.ref c) && !zbt N (zcr H (.ref c))))=_
  have e1:zaw H N.lanes 2 (.ref c)=true:=by
   unfold zaw
   rw[zaz hc]
   show (decide ((((cs.map V.int).length:Nat):Int)=N.lanes) && (cs.map V.int).all (zam 2))=true
   rw[List.length_map,cl,decide_eq_true rfl,Bool.true_and,List.all_eq_true]
   intro y hy
   obtain⟨i,hi,rfl⟩:=List.mem_map.mp hy
   have:=cb i hi
   simp[zam];lia
  have e2:zcr H (.ref c)=cs:=by
   unfold zcr
   rw[zaz hc]
   show (cs.map V.int).map toI=cs
   rw[List.map_map]
   exact List.map_id cs
  rw[w6,e1,e2,Bool.true_and,Bool.true_and]
end Bn
namespace Own
open PySem PySem.Spec PyProof.Rows
abbrev IsZipC (h:Heap) (z TI TO:Addr) (own:Value) (c:Bool):Prop:=h.get? z=some { cls:=.type "zip",dict:=none,data:=.fields #[own,.bool c,.bool false,.ref TI,.ref TO],slots:=#[] }
section
variable {prog:Program}{w:World}{A:Around}{E:Value→Shared→Prop}{s:Shared}{z TI TO i1 i2:Addr}{f1 f2:List Addr}{n1 n2 k:Nat}{P1 P2:Nat→Value→Prop}{S1 S2:Nat→Heap→Prop}{a b:Value}
theorem zhW {a:Addr}{Q:Option Obj→Shared→Prop}(ho:s.heap.get? a=none) (h:Q none s):wpAny (model prog w) A (loadIfAlive a) Q E s:=by
 have h':Q (s.heap.get? a) s:=ho.symm ▸ h
 exact fun _ _ _=>h'
theorem zeU {α:Type}{t:Addr}{c:Bool}{f:Bool→Sem α}{Q:α→Shared→Prop}(hz:IsZipN s.heap z TI TO t c) (ho:s.heap.get? t=none) (h:wpAny (model prog w) A (f true) Q E s) :
  wpAny (model prog w) A (Builtin.SmallTypes.ownedTupleIsFree (.ref z) >>= f) Q E s:=by
 refine wpAny_bind ?_;unfold Builtin.SmallTypes.ownedTupleIsFree
 refine rf 0 hz rfl rfl ?_
 show wpAny _ _ (loadIfAlive ((t:Int).toNat) >>= _) _ _ _
 rw[Int.toNat_natCast]
 refine wpAny_bind (zhW ho ?_)
 simp only[Option.isNone_none,if_true]
 exact wpAny_pure h
theorem zga (S:Sep z TI TO i1 i2 f1 f2) (D1:Draws prog w A i1 f1 n1 P1 S1) (D2:Draws prog w A i2 f2 n2 P2 S2) {Q:Value→Shared→Prop}
  {t:Addr}{c1:Bool}(hz:IsZipN s.heap z TI TO t c1) (hn:s.heap.get? t=none) (hI:IsPair s.heap TI (.ref i1) (.ref i2)) (hO:IsPair s.heap TO a b) (d1:S1 k s.heap) (d2:S2 k s.heap) (l1:k<n1) (l2:k<n2)
  (h:∀ x y h' tk,P1 k x→P2 k y→IsZip h' z TI TO (rawInt s.heap.objs.size)→IsPair h' TO x y→S1 (k+1) h'→S2 (k+1) h'→IsPair h' s.heap.objs.size x y →
   (∀ c o,c∉[z,TO,i1,i2]→s.heap.get? c=some o→h'.get? c=some o)→Q (.ref s.heap.objs.size) { s with heap:=h',toks:=tk }) :
  wpAny (model prog w) A (Builtin.«zip.__next__» ⟨[.ref z],[]⟩) (fun r s'=>∃ v,r=.done (.ret v)∧Q v s') E s:=by
 have nd:=S.all
 simp only[List.nodup_cons,List.mem_cons,List.not_mem_nil,or_false,not_or]at nd
 obtain⟨⟨zI,zO,z1,z2⟩,⟨IO,I1,I2⟩,⟨O1,O2⟩,n12,_⟩:=nd
 refine rf 2 hz rfl rfl (rf 3 hz rfl rfl (wpAny_bind (wpAny_seqItems hI rfl (zeU hz hn ?_))))
 rw[if_pos rfl]
 refine wpAny_bind (wpAny_rule (rf 4 hz rfl rfl (wpAny_bind (wpAny_setField_rec hz (show 0<5 by decide) fun ha za sa=>wpAny_bind ?_))))
 have za':IsZipC ha z TI TO .ellipsis c1:=za;simp only[List.zipIdx_cons,List.zipIdx_nil,List.forIn_cons,List.forIn_nil]
 refine wpAny_bind (wpAny_bind (wpAny_onRaise (wpAny_bind (D1.item k _ _ _ l1 (D1.frame _ _ _ d1 fun c hc o e=>(sa.2 c fun q=>S.z1 (q ▸ hc)).trans e) fun x hb tb px db sb=>wpAny_pure ?_))))
 have Ob:IsPair hb TO a b:=(sb.2 TO O1).trans ((sa.2 TO (Ne.symm zO)).trans hO)
 refine wpAny_bind (wpAny_seqItems Ob rfl (wpAny_bind (wpAny_updateSeq_pair Ob fun hc Oc sc=>wpAny_bind (wpAny_letGo (wpAny_pure ?_)))))
 have Oc':IsPair hc TO x b:=Oc
 have st2:S2 k hc:=D2.frame _ _ _ d2 fun c hm o e=>(sc.2 c fun q=>S.t2 (q ▸ hm)).trans ((sb.2 c fun q=>S.o2 (q ▸ hm)).trans ((sa.2 c fun q=>S.z2 (q ▸ hm)).trans e))
 refine wpAny_bind (wpAny_bind (wpAny_onRaise (wpAny_bind (D2.item k _ _ _ l2 st2 fun y hd td py dd sd=>wpAny_pure ?_))))
 have Od:IsPair hd TO x b:=(sd.2 TO O2).trans Oc'
 refine wpAny_bind (wpAny_seqItems Od rfl (wpAny_bind (wpAny_updateSeq_pair Od fun he Oe se=>wpAny_bind (wpAny_letGo (wpAny_pure (wpAny_pure ?_))))))
 have Oe':IsPair he TO x y:=Oe
 refine wpAny_bind (wpAny_seqItems Oe' rfl (wpAny_bind (wpAny_newTuple (wpAny_bind ?_))))
 have sz:he.objs.size=s.heap.objs.size:=by rw[se.1,sd.1,sc.1,sb.1,sa.1]
 have ze:IsZipC he z TI TO .ellipsis c1:=(se.2 z zO).trans ((sd.2 z z2).trans ((sc.2 z zO).trans ((sb.2 z z1).trans za')))
 have zn:he.objs.size≠z:=Nat.ne_of_gt (Heap.lt_size ze)
 unfold Builtin.SmallTypes.ownedTupleHandOut;refine wpAny_bind (wpAny_setField_rec (Heap.get?_push_of_some _ ze) (show 0<5 by decide) fun hf zf sf=>wpAny_setField_rec zf (show 1<5 by decide) fun hg zg sg=>wpAny_pure ⟨_,rfl,?_⟩)
 have up:∀ c o,c≠z→he.get? c=some o→hg.get? c=some o:=fun c o q e=>(sg.2 c q).trans ((sf.2 c q).trans (Heap.get?_push_of_some _ e))
 have new:IsPair hg he.objs.size x y:=(sg.2 _ zn).trans ((sf.2 _ zn).trans (Heap.get?_push_size _ rfl))
 have zg':IsZip hg z TI TO (rawInt he.objs.size):=zg
 rw[sz]at new zg'
 show Q (.ref he.objs.size) _
 rw[sz]
 refine h x y hg td px py zg' (up _ _ (Ne.symm zO) Oe') ?_ ?_ new fun c o hc e=>?_
 ·exact D1.frame _ _ _ db fun c hm o e=>up c o (fun q=>S.z1 (q ▸ hm)) ((se.2 c fun q=>S.t1 (q ▸ hm)).trans ((sd.2 c fun q=>S.o1 (q ▸ hm)).trans ((sc.2 c fun q=>S.t1 (q ▸ hm)).trans e)))
 ·exact D2.frame _ _ _ dd fun c hm o e=>up c o (fun q=>S.z2 (q ▸ hm)) ((se.2 c fun q=>S.t2 (q ▸ hm)).trans e)
 ·simp only[List.mem_cons,List.not_mem_nil,or_false,not_or]at hc
  obtain⟨c1,c2,c3,c4⟩:=hc
  exact up c o c1 ((se.2 c c2).trans ((sd.2 c c4).trans ((sc.2 c c2).trans ((sb.2 c c3).trans ((sa.2 c c1).trans e)))))
theorem zf5 (S:Sep z TI TO i1 i2 f1 f2) (D1:Draws prog w A i1 f1 n1 P1 S1) {Q:Fin→Shared→Prop}{t:Addr}{c1:Bool}(hz:IsZipN s.heap z TI TO t c1) (hn:s.heap.get? t=none) (hI:IsPair s.heap TI (.ref i1) (.ref i2)) (d1:S1 n1 s.heap)
  (h:∀ h' x,(∀ c o,c∉[z,TO,i1,i2]→s.heap.get? c=some o→h'.get? c=some o)→(∃ o,h'.get? x=some o∧o.cls=.type "StopIteration")→E (.ref x) { s with heap:=h' }):wpAny (model prog w) A (Builtin.«zip.__next__» ⟨[.ref z],[]⟩) Q E s:=by
 have nd:=S.all
 simp only[List.nodup_cons,List.mem_cons,List.not_mem_nil,or_false,not_or]at nd
 obtain⟨⟨zI,zO,z1,z2⟩,⟨IO,I1,I2⟩,⟨O1,O2⟩,n12,_⟩:=nd
 refine rf 2 hz rfl rfl (rf 3 hz rfl rfl (wpAny_bind (wpAny_seqItems hI rfl (zeU hz hn ?_))))
 rw[if_pos rfl]
 refine wpAny_bind (wpAny_rule (rf 4 hz rfl rfl (wpAny_bind (wpAny_setField_rec hz (show 0<5 by decide) fun ha za sa=>wpAny_bind ?_))))
 have za':IsZipC ha z TI TO .ellipsis c1:=za;simp only[List.zipIdx_cons,List.zipIdx_nil,List.forIn_cons,List.forIn_nil]
 refine wpAny_bind (wpAny_bind (wpAny_onRaise (wpAny_bind (D1.done _ _ _ (D1.frame _ _ _ d1 fun c hc o e=>(sa.2 c fun q=>S.z1 (q ▸ hc)).trans e) fun hb x kb ⟨ox,ex,cx⟩=>?_))))
 have zb:IsZipC hb z TI TO .ellipsis c1:=kb z _ z1 za'
 have xz:x≠z:=fun q=>by rw[q,zb]at ex;cases ex;exact absurd (show Value.type "zip" = Value.type "StopIteration" from cx) (by decide)
 refine wpAny_setField_rec zb (show 0<5 by decide) fun hc _ sc=>h hc x (fun c o hm e=>?_) ⟨ox,(sc.2 x xz).trans ex,cx⟩
 simp only[List.mem_cons,List.not_mem_nil,or_false,not_or]at hm
 exact(sc.2 c hm.1).trans (kb c o hm.2.2.1 ((sa.2 c hm.1).trans e))
theorem zf9 {t:Addr}{c:Bool}{o:Obj}(S:Sep z TI TO i1 i2 f1 f2) (D1:Draws prog w A i1 f1 n1 P1 S1) (D2:Draws prog w A i2 f2 n2 P2 S2) {Q:Value→Shared→Prop}
  (hz:IsZipN s.heap z TI TO t c) (ho:s.heap.get? t=some o) (hI:IsPair s.heap TI (.ref i1) (.ref i2)) (d1:S1 k s.heap) (d2:S2 k s.heap) (l1:k<n1) (l2:k<n2)
  (h:∀ x y h' tk,P1 k x→P2 k y→IsZipN h' z TI TO t true→S1 (k+1) h'→S2 (k+1) h'→IsPair h' s.heap.objs.size x y →
   (∀ c o,c∉[z,i1,i2]→s.heap.get? c=some o→h'.get? c=some o)→Q (.ref s.heap.objs.size) { s with heap:=h',toks:=tk }) :
  wpAny (model prog w) A (Builtin.«zip.__next__» ⟨[.ref z],[]⟩) (fun r s'=>∃ v,r=.done (.ret v)∧Q v s') E s:=by
 have nd:=S.all
 simp only[List.nodup_cons,List.mem_cons,List.not_mem_nil,or_false,not_or]at nd
 obtain⟨⟨zI,zO,z1,z2⟩,⟨IO,I1,I2⟩,⟨O1,O2⟩,n12,_⟩:=nd
 refine rf 2 hz rfl rfl (rf 3 hz rfl rfl (wpAny_bind (wpAny_seqItems hI rfl (zcU hz ho fun ha za sa=>?_))))
 rw[if_neg Bool.false_ne_true]
 refine wpAny_bind ?_
 simp only[List.forIn_toArray,List.forIn_cons,List.forIn_nil]
 refine wpAny_bind (wpAny_bind (wpAny_holding (wpAny_bind (D1.item k _ _ _ l1 (D1.frame _ _ _ d1 fun c hc o e=>(sa.2 c fun q=>S.z1 (q ▸ hc)).trans e) fun x hb tb px db sb=>wpAny_pure (wpAny_pure ?_)))))
 have st2:S2 k hb:=D2.frame _ _ _ d2 fun c hm o e=>(sb.2 c fun q=>S.o2 (q ▸ hm)).trans ((sa.2 c fun q=>S.z2 (q ▸ hm)).trans e)
 refine wpAny_bind (wpAny_bind (wpAny_holding (wpAny_bind (D2.item k _ _ _ l2 st2 fun y hd td py dd sd=>wpAny_pure (wpAny_pure (wpAny_pure ?_))))))
 refine wpAny_bind (wpAny_newTuple (wpAny_pure ⟨_,rfl,?_⟩) (hsz:=by show 2≤sizeLine;decide))
 have sz:hd.objs.size=s.heap.objs.size:=by rw[sd.1,sb.1,sa.1]
 show Q (.ref hd.objs.size) _
 rw[sz]
 have zd:IsZipN hd z TI TO t true:=(sd.2 z z2).trans ((sb.2 z z1).trans za)
 have new:(hd.push { cls:=.type "tuple",data:=.seq #[x,y] }).get? s.heap.objs.size=some { cls:=.type "tuple",data:=.seq #[x,y] }:=by rw[← sz];exact Heap.get?_push_size _ rfl
 refine h x y _ td px py (Heap.get?_push_of_some _ zd) ?_ ?_ new fun c o hc e=>?_
 ·exact D1.frame _ _ _ db fun c hm o e=>Heap.get?_push_of_some _ ((sd.2 c fun q=>S.o1 (q ▸ hm)).trans e)
 ·exact D2.frame _ _ _ dd fun c hm o e=>Heap.get?_push_of_some _ e
 ·simp only[List.mem_cons,List.not_mem_nil,or_false,not_or]at hc
  exact Heap.get?_push_of_some _ ((sd.2 c hc.2.2).trans ((sb.2 c hc.2.1).trans ((sa.2 c hc.1).trans e)))
def AnyZip (h:Heap) (z TI TO:Addr):Prop:=IsZip h z TI TO .none∨∃ t c,IsZipN h z TI TO t c
theorem AnyZip.obj {h:Heap}(x:AnyZip h z TI TO):∃ o,h.get? z=some o∧o.cls=.type "zip"∧∀ v,o.data≠.cell v:=by
 rcases x with x|⟨t,c,x⟩
 ·exact⟨_,x,rfl,fun v q=>by cases q⟩
 ·exact⟨_,x,rfl,fun v q=>by cases q⟩
theorem zgb (S:Sep z TI TO i1 i2 f1 f2) (D1:Draws prog w A i1 f1 n1 P1 S1) (D2:Draws prog w A i2 f2 n2 P2 S2) {Q:Value→Shared→Prop}
  (hz:AnyZip s.heap z TI TO) (hI:IsPair s.heap TI (.ref i1) (.ref i2)) (hO:IsPair s.heap TO a b) (d1:S1 k s.heap) (d2:S2 k s.heap) (l1:k<n1) (l2:k<n2)
  (h:∀ x y h' tk,P1 k x→P2 k y→AnyZip h' z TI TO→(∃ a b,IsPair h' TO a b)→S1 (k+1) h'→S2 (k+1) h'→IsPair h' s.heap.objs.size x y →
   (∀ c o,c∉[z,TO,i1,i2]→s.heap.get? c=some o→h'.get? c=some o)→Q (.ref s.heap.objs.size) { s with heap:=h',toks:=tk }) :
  wpAny (model prog w) A (Builtin.«zip.__next__» ⟨[.ref z],[]⟩) (fun r s'=>∃ v,r=.done (.ret v)∧Q v s') E s:=by
 rcases hz with hz|⟨t,c,hz⟩
 ·exact zcT S D1 D2 hz hI hO d1 d2 l1 l2 fun x y h' tk px py zz zo q1 q2 nw kk=>h x y h' tk px py (.inr ⟨_,_,zz⟩) ⟨_,_,zo⟩ q1 q2 nw kk
 ·cases et:s.heap.get? t with
  | none=>exact zga S D1 D2 hz et hI hO d1 d2 l1 l2 fun x y h' tk px py zz zo q1 q2 nw kk=>h x y h' tk px py (.inr ⟨_,_,zz⟩) ⟨_,_,zo⟩ q1 q2 nw kk
  | some o =>
   have nd:=S.all
   simp only[List.nodup_cons,List.mem_cons,List.not_mem_nil,or_false,not_or]at nd
   obtain⟨⟨zI,zO,z1,z2⟩,⟨IO,I1,I2⟩,⟨O1,O2⟩,n12,_⟩:=nd
   refine zf9 S D1 D2 hz et hI d1 d2 l1 l2 fun x y h' tk px py zz q1 q2 nw kk=>h x y h' tk px py (.inr ⟨_,_,zz⟩) ⟨_,_,kk TO _ (by simp[Ne.symm zO,O1,O2]) hO⟩ q1 q2 nw fun c o hc e=>kk c o (fun m=>hc ?_) e
   simp only[List.mem_cons,List.not_mem_nil,or_false]at m ⊢
   rcases m with m|m|m
   ·exact .inl m
   ·exact .inr (.inr (.inl m))
   ·exact .inr (.inr (.inr m))
theorem zf6 (S:Sep z TI TO i1 i2 f1 f2) (D1:Draws prog w A i1 f1 n1 P1 S1) {Q:Fin→Shared→Prop}(hz:AnyZip s.heap z TI TO) (hI:IsPair s.heap TI (.ref i1) (.ref i2)) (d1:S1 n1 s.heap)
  (h:∀ h' x,(∀ c o,c∉[z,TO,i1,i2]→s.heap.get? c=some o→h'.get? c=some o)→(∃ o,h'.get? x=some o∧o.cls=.type "StopIteration")→E (.ref x) { s with heap:=h' }):wpAny (model prog w) A (Builtin.«zip.__next__» ⟨[.ref z],[]⟩) Q E s:=by
 rcases hz with hz|⟨t,c,hz⟩
 ·exact zcS S D1 hz hI d1 h
 ·cases et:s.heap.get? t with
  | none=>exact zf5 S D1 hz et hI d1 h
  | some o=>exact zdu S D1 hz et hI d1 h
theorem zhE {s:Shared}{E:Value→Shared→Prop}{Q:Value→Shared→Prop}(hz:AnyZip s.heap z TI TO) (h:Q (.ref z) s):wpAny (model prog w) A (pyIter (.ref z)) Q E s:=by
 obtain⟨oz,ez,cz,_⟩:=hz.obj
 have ty:s.TypeIs (.ref z) "zip":=⟨oz,ez,cz⟩
 exact wpAny_pyIter_slot ty F.slot_zip_iter (wpAny_call_entry F.slot_zip_iter ty F.entry_zip_iter (show wpAny _ _ (ret (.ref z)) _ _ s from wpAny_pure ⟨_,rfl,"zip",_,ty,F.slot_zip_next.lookup,h⟩) (F.args_zip_iter_1 _))
end
end Own
namespace L2
open PySem PySem.Spec PyProof.Rows Own
theorem zgk {P:Program}{w:World}{K:PySem.W.Frag}{y1:Str}{p1:Pos}(b1 b2:Bool) (a1 a2 z TI TO i1 i2:Addr) (nd:[z,TI,TO,i1,i2].Nodup) :
  Turn P w K (.Name y1 p1) (Itz K b1 b2 a1 a2) [z,TI,TO,i1,i2] z (fun i h=>AnyZip h z TI TO∧IsPair h TI (.ref i1) (.ref i2)∧(∃ a b,IsPair h TO a b)∧RIt b1 h i1 a1 i∧RIt b2 h i2 a2 i) where
 mem:=List.mem_cons_self
 obj:=fun i h ⟨hz,hI,⟨a,b,hO⟩,h1,h2⟩ c hc=>by
  simp only[List.mem_cons,List.not_mem_nil,or_false]at hc
  rcases hc with rfl|rfl|rfl|rfl|rfl
  ·obtain⟨o,e,_,d⟩:=hz.obj;exact⟨o,e,d⟩
  ·exact⟨_,hI,fun v q=>by cases q⟩
  ·exact⟨_,hO,fun v q=>by cases q⟩
  ·exact⟨_,h1,fun v q=>by cases q⟩
  ·exact⟨_,h2,fun v q=>by cases q⟩
 keep:=fun i h h' ⟨hz,hI,⟨a,b,hO⟩,h1,h2⟩ kk=>⟨hz.imp (fun q=>kk z (by simp) _ q) (fun ⟨t,c,q⟩=>⟨t,c,kk z (by simp) _ q⟩),kk TI (by simp) _ hI,⟨a,b,kk TO (by simp) _ hO⟩,kk i1 (by simp) _ h1,kk i2 (by simp) _ h2⟩
 item:=by
  intro X hP hw hK hc i pins s σ H E I hf ⟨hz,hI,⟨a,b,hO⟩,h1,h2⟩ ⟨xs,ys,x,y,q1,q2,hx,hy⟩
  subst hP hw hK
  obtain⟨u1,r1,p1⟩:=I.sq q1
  obtain⟨u2,r2,p2⟩:=I.sq q2
  obtain⟨v1,e1,rx⟩:=r1.get hx
  obtain⟨v2,e2,ry⟩:=r2.get hy
  have nd':=nd
  simp only[List.nodup_cons,List.mem_cons,List.not_mem_nil,or_false,not_or]at nd'
  obtain⟨⟨zI,zO,z1,z2⟩,⟨IO,I1,I2⟩,⟨O1,O2⟩,n12,_⟩:=nd'
  have na1:∀ c∈[z,TI,TO,i1,i2],c≠a1:=fun c hm=>I.sq_ne q1 (hf c hm)
  have na2:∀ c∈[z,TI,TO,i1,i2],c≠a2:=fun c hm=>I.sq_ne q2 (hf c hm)
  have S:Sep z TI TO i1 i2 [i1,a1] [i2,a2]:=⟨nd,by simp[z1,na1 z (by simp)],by simp[O1,na1 TO (by simp)],by simp[Ne.symm n12,na1 i2 (by simp)],by simp[z2,na2 z (by simp)],by simp[O2,na2 TO (by simp)],by simp[n12,na2 i1 (by simp)]⟩
  have hd:=I.ok.hd hc
  have D1:=zbI (prog:=X.prog) (w:=X.w) (A:=X.A.in1) hd b1 i1 a1 u1.toArray (p1.ne h1)
  have D2:=zbI (prog:=X.prog) (w:=X.w) (A:=X.A.in1) hd b2 i2 a2 u2.toArray (p2.ne h2)
  obtain⟨oz,ez,cz,dz⟩:=hz.obj
  have tyz:s.TypeIs (.ref z) "zip":=⟨oz,ez,cz⟩
  unfold pyNext
  refine wpAny_bind (wpAny_attempt (wpAny_callSpecial?_slot (name:="__next__") tyz F.slot_zip_next (wpAny_call_entry F.slot_zip_next tyz F.entry_zip_next (zgb S D1 D2 hz hI hO ⟨h1,p1⟩ ⟨h2,p2⟩ (by simpa using (List.getElem?_eq_some_iff.mp e1).1) (by simpa using (List.getElem?_eq_some_iff.mp e2).1)
   fun w1 w2 h' tk hw1 hw2 zh ⟨oa,ob,Oh⟩ d1 d2 new hk=>wpAny_pure ?_) (F.args_zip_next_1 _))))
  obtain rfl:v1=w1:=Option.some.inj (e1.symm.trans (by simpa using hw1))
  obtain rfl:v2=w2:=Option.some.inj (e2.symm.trans (by simpa using hw2))
  refine⟨_,rfl,wpAny_pure ?_⟩
  have nz:s.heap.objs.size≠z:=Nat.ne_of_gt (Heap.lt_size ez)
  have far:∀ c∈[z,TI,TO,i1,i2],c≠s.heap.objs.size:=fun c hm=>by
   simp only[List.mem_cons,or_false,List.not_mem_nil]at hm
   rcases hm with rfl|rfl|rfl|rfl|rfl
   ·exact Nat.ne_of_lt (Heap.lt_size ez)
   ·exact Nat.ne_of_lt (Heap.lt_size hI)
   ·exact Nat.ne_of_lt (Heap.lt_size hO)
   ·exact Nat.ne_of_lt (Heap.lt_size h1)
   ·exact Nat.ne_of_lt (Heap.lt_size h2)
  refine⟨.ref s.heap.objs.size,_,I.spunN (fp:=[z,TI,TO,i1,i2]) (fun c o hm q=>?_) hf (Nat.le_refl _) (zcl new rx ry),rfl,⟨x,y,fun l hl=>by rw[I.sq_inj hl q1];exact hx,fun l hl=>by rw[I.sq_inj hl q2];exact hy,_,I.fresh,rfl,rfl⟩,
   ⟨zh,hk TI _ (by simp[Ne.symm zI,IO,I1,I2]) hI,⟨_,_,Oh⟩,d1.1,d2.1⟩,fun c hm=>by rw[zae (far c hm),(hf c hm).1]⟩
  simp only[List.mem_cons,List.not_mem_nil,or_false,not_or]at hm
  exact hk c o (by simp[hm]) q
 done:=by
  intro X hP hw hK hc i pins s σ H E I hf ⟨hz,hI,⟨a,b,hO⟩,h1,h2⟩ ⟨xs,q1,hx⟩
  subst hP hw hK
  obtain⟨u1,r1,p1⟩:=I.sq q1
  have nd':=nd
  simp only[List.nodup_cons,List.mem_cons,List.not_mem_nil,or_false,not_or]at nd'
  obtain⟨⟨zI,zO,z1,z2⟩,⟨IO,I1,I2⟩,⟨O1,O2⟩,n12,_⟩:=nd'
  have na1:∀ c∈[z,TI,TO,i1,i2],c≠a1:=fun c hm=>I.sq_ne q1 (hf c hm)
  have S:Sep z TI TO i1 i2 [i1,a1] [i2]:=⟨nd,by simp[z1,na1 z (by simp)],by simp[O1,na1 TO (by simp)],by simp[Ne.symm n12,na1 i2 (by simp)],by simp[z2],by simp[O2],by simp[n12]⟩
  have hsz:i=u1.toArray.size:=by rw[List.size_toArray,← r1.length,hx]
  obtain⟨oz,ez,cz,dz⟩:=hz.obj
  have tyz:s.TypeIs (.ref z) "zip":=⟨oz,ez,cz⟩
  unfold pyNext
  refine wpAny_bind (wpAny_attempt (wpAny_callSpecial?_slot (name:="__next__") tyz F.slot_zip_next (wpAny_call_entry F.slot_zip_next tyz F.entry_zip_next
   (zf6 S (zbI (prog:=X.prog) (w:=X.w) (A:=X.A.in1) (I.ok.hd hc) b1 i1 a1 u1.toArray (p1.ne h1)) hz hI ⟨by rw[← hsz];exact h1,p1⟩ fun h' x hk ⟨o,eo,co⟩=>?_) (F.args_zip_next_1 _))))
  refine wpAny_bind (wpAny_isInstance (T:="StopIteration") (b:=true) ⟨o,eo,co⟩ isSubtype_stop (wpAny_pure ⟨rfl,I.spun (t':=s.toks) (fp:=[z,TI,TO,i1,i2]) (fun c o hm q=>hk c o ?_ q) hf⟩))
  simp only[List.mem_cons,List.not_mem_nil,or_false,not_or]at hm ⊢
  exact⟨hm.1,hm.2.2.1,hm.2.2.2.1,hm.2.2.2.2⟩
 self:=fun _ _ _ _ _ st h=>zhE st.1 h
theorem zj5 {X:Cx}{a b:Expr}{ta:TA}{p pos p1:Pos}{y1:Str}(b1 b2:Bool) (hg:Gl X "zip") (hm:X.mg "zip" = none) (ha:PA X [a,b] ta) (hs:starEach [a,b] X.env=[(false,eval a X.env),(false,eval b X.env)]:=by rfl) (hs2:starEach [b] X.env=[(false,eval b X.env)]:=by rfl) :
  PI X (.Name y1 p1) (.Call (.Name "zip" p) [a,b] [] pos) (iZip X.K b1 b2 ta):=by
 intro pins s σ H R I h
 refine Call_ (zaA I hg hm (u:=.type "zip") (by rfl) (PyProof.Rows.callWith_type1 (thn (ha pos pins s σ H _ I h) fun us s1 ⟨vs,H1,I1,r1,q1⟩=>?_) (by rw[hs,hs2]) (by rw[hs2];rfl)))
 obtain⟨a1,a2,xs,ys,rfl,hq1,hq2,q⟩:=q1
 obtain⟨u,v,rfl,ru,rv⟩:=r1.two
 cases ru
 cases rv
 obtain⟨its,_,pl1⟩:=I1.sq hq1
 obtain⟨jts,_,pl2⟩:=I1.sq hq2
 refine callType_new F.called_zip (by decide) (F.typeCall_zip_2 _ _) (F.newCall_zip_2 _ _) (fun obj=>F.args_object_init_3 obj _ _) F.entry_zip_new (zce b1 b2 a1 a2 its.toArray jts.toArray) ⟨pl1,pl2,fun h' z ⟨TI,TO,i1,i2,nd,far,hz,hI,hO,h1,h2⟩ hk=>⟨⟨_,hz,rfl⟩,?_⟩⟩
 exact wpAny_pyIter_zip hz ⟨_,[z,TI,TO,i1,i2],_,_,H1,rfl,I1.kept (t':=s1.toks) hk,zgk b1 b2 a1 a2 z TI TO i1 i2 nd,⟨.inl hz,hI,⟨_,_,hO⟩,h1,h2⟩,fun c hc=>I1.fpOk (far c hc) (I1.hok.fresh (far c hc)),q⟩
theorem zkC {K:PySem.W.Frag}{b1 b2:Bool}{a1 a2:Addr}{xs ys:List V}(hxy:xs.length=ys.length) {g g1:TG}{wi1:TI}{tt:TT}{te:TE}{l:Addr}{σ:St}{H:Hp}{Q:VK}(Pv:Nat→List V→St→Hp→Prop) (h0:Pv 0 [] σ H)
  (hl:∀ i acc σ H,Pv i acc σ H→H l=some (.lst acc)∧SqB b1 K H a1 xs∧SqB b2 K H a2 ys)
  (hs:∀ i acc σ H x y T,xs[i]?=some x→ys[i]?=some y→H T=none→Pv i acc σ H→g (.ref T) σ (upd H T (.tup [x,y])) fun σ3 H3=>wi1 σ3 H3 fun J1 H4 =>
   ∃ W1:Nat→Nat→List V→St→Hp→Prop,(∃ m1,W1 0 m1 acc σ3 H4)∧LCW1 J1 g1 tt te l (fun ac τ G=>Nx xs.length i (Pv (i+1) ac τ G)) W1)
  (hd:∀ acc σ H,Pv xs.length acc σ H→Q (.ref l) H):∃ W:Nat→Nat→List V→St→Hp→Prop,(∃ m,W 0 m [] σ H) ∧
   ∀ i m acc σ' H',W i m acc σ' H'→H' l=some (.lst acc)∧(((Itz K b1 b2 a1 a2).stop i H'∧Q (.ref l) H')∨((Itz K b1 b2 a1 a2).go i H'∧∀ x H2,(Itz K b1 b2 a1 a2).yld i H' x H2→g x σ' H2 fun σ3 H3=>wi1 σ3 H3 fun J1 H4 =>
    ∃ W1:Nat→Nat→List V→St→Hp→Prop,(∃ m1,W1 0 m1 acc σ3 H4)∧LCW1 J1 g1 tt te l (fun ac τ G=>∃ m',m'<m∧W (i+1) m' ac τ G) W1)):=by
 refine⟨fun i m acc σ H=>m=xs.length-i∧i≤xs.length∧Pv i acc σ H,⟨xs.length,by simp,Nat.zero_le _,h0⟩,?_⟩
 rintro i m acc σ H ⟨rfl,hi,p⟩
 obtain⟨q0,q1,q2⟩:=hl i acc σ H p
 refine⟨q0,?_⟩
 by_cases hlt:i<xs.length
 ·refine .inr ⟨⟨xs,ys,_,_,q1,q2,List.getElem?_eq_getElem hlt,List.getElem?_eq_getElem (by lia)⟩,fun v H2 ⟨x,y,ex,ey,T,hT,e1,e2⟩=>?_⟩
  subst e1 e2
  exact hs i acc σ H x y T (ex xs q1) (ey ys q2) hT p
 ·have e:i=xs.length:=by lia
  subst e
  exact .inl ⟨⟨xs,q1,rfl⟩,hd acc σ H p⟩
theorem zhA {K:PySem.W.Frag}{a:Addr}{zs:List V}{g:TG}{te:TE}{l:Addr}{ac:List V}{σ:St}{H:Hp}{Q:List V→St→Hp→Prop}(Pv:Nat→List V→St→Hp→Prop) (h0:Pv 0 ac σ H) (hl:∀ i acc σ H,Pv i acc σ H→H l=some (.lst acc)∧SqT K H a zs)
  (hs:∀ i x acc σ H,zs[i]?=some x→Pv i acc σ H→g x σ H fun σ3 H3=>te σ3 H3 fun y H5=>H5 l=some (.lst acc)∧acc.length<sizeLine∧Nx zs.length i (Pv (i+1) (acc++[y]) σ3 (upd H5 l (.lst (acc++[y])))))
  (hd:∀ acc σ H,Pv zs.length acc σ H→Q acc σ H):∃ W:Nat→Nat→List V→St→Hp→Prop,(∃ m,W 0 m ac σ H)∧LCW1 (Itt K a) g tYes te l Q W:=by
 refine⟨fun i m acc σ H=>m=zs.length-i∧i≤zs.length∧Pv i acc σ H,⟨_,rfl,Nat.zero_le _,h0⟩,?_⟩
 rintro i m acc σ H ⟨rfl,hi,p⟩
 obtain⟨q0,q1⟩:=hl i acc σ H p
 refine⟨q0,?_⟩
 by_cases hlt:i<zs.length
 ·refine .inr ⟨⟨zs,zs[i],q1,List.getElem?_eq_getElem hlt⟩,fun x H2 ⟨e,y⟩=>?_⟩
  subst e
  exact hs i x acc σ _ (y zs q1) p
 ·obtain rfl:i=zs.length:=by lia
  exact .inl ⟨⟨zs,q1,Nat.le_refl _⟩,hd acc σ H p⟩
def zaJ {α:Type}(xs ys:List α):List α:=(xs.zip ys).flatMap fun p=>[p.1,p.2]
theorem zbL {α:Type}:∀ (xs ys:List α),xs.length=ys.length→(zaJ xs ys).length=2*xs.length
 | [],[],_=>rfl
 | x::xs,y::ys,h=>by
  have h':xs.length=ys.length:=by simpa using h
  have:=zbL xs ys h'
  show (zaJ xs ys).length+2=2*(xs.length+1)
  rw[this];lia
theorem zfA {α β:Type}(f:α→β) (xs ys:List α):zaJ (xs.map f) (ys.map f)=(zaJ xs ys).map f:=by
 induction xs generalizing ys with
 | nil=>rfl
 | cons x xs ih =>
  cases ys with
  | nil=>rfl
  | cons y ys =>
   show f x::f y::zaJ (xs.map f) (ys.map f)=f x::f y::(zaJ xs ys).map f
   rw[ih ys]
theorem zbH {α β:Type}{f g:α→Option β}:∀ (l:List α),(∀ x∈l,f x=g x)→l.filterMap f=l.filterMap g
 | [],_=>rfl
 | x::l,h=>by
  have e:=zbH l fun y hy=>h y (List.mem_cons_of_mem _ hy)
  simp only[List.filterMap_cons,h x List.mem_cons_self,e]
def by2 {α:Type}(off:Nat) (xs:List α):List α:=(List.range ((xs.length+1-off) / 2)).filterMap fun k=>xs[off+2*k]?
theorem zeR {α:Type}(off:Nat) (ho:off≤1) (xs:List α):(by2 off xs).length=(xs.length+1-off) / 2:=by
 unfold by2
 have e:(List.range ((xs.length+1-off) / 2)).filterMap (fun k=>xs[off+2*k]?)=(List.range ((xs.length+1-off) / 2)).pmap (fun k (h:k<(xs.length+1-off) / 2)=>xs[off+2*k]'(by lia)) (fun k h=>List.mem_range.mp h):=by
  rw[List.pmap_eq_map_attach,← List.filterMap_eq_map]
  conv=>lhs;rw[← List.attach_map_subtype_val (List.range ((xs.length+1-off) / 2)),List.filterMap_map]
  refine zbH _ fun k hk=>?_
  have:=List.mem_range.mp k.2
  show xs[off+2*k.1]?=some _
  rw[List.getElem?_eq_getElem (by lia)]
 rw[e,List.length_pmap,List.length_range]
theorem zkQ {α β:Type}(f:α→β) (off:Nat) (xs:List α):by2 off (xs.map f)=(by2 off xs).map f:=by
 unfold by2
 rw[List.length_map,List.map_filterMap]
 refine zbH _ fun k _=>?_
 rw[List.getElem?_map]
theorem zgf {xs:List V}{us:List Value}(r:Vals xs us) (ix:List Nat):Vals (ix.filterMap fun k=>xs[k]?) (ix.filterMap fun k=>us[k]?):=by
 induction ix with
 | nil=>exact .nil
 | cons i ix ih =>
  cases e:xs[i]? with
  | none =>
   have e2:us[i]?=none:=List.getElem?_eq_none_iff.mpr (by rw[← r.length];exact List.getElem?_eq_none_iff.mp e)
   rw[List.filterMap_cons_none e,List.filterMap_cons_none e2];exact ih
  | some x =>
   obtain⟨u,e2,ru⟩:=r.get e
   rw[List.filterMap_cons_some e,List.filterMap_cons_some e2];exact .cons ru ih
theorem zir (items:Array Value):slicePick items none none (some 2)=((List.range ((items.size+1) / 2)).filterMap fun k=>items.toList[2*k]?).toArray:=by
 have b:sliceBounds none none (some 2) items.size=(0,(items.size:Int),2):=rfl
 have c:sliceRange 0 (items.size:Int) 2=(List.range ((items.size+1) / 2)).map fun k=>2*k:=by
  unfold sliceRange
  have h2:(2:Int) > 0:=by decide
  by_cases h:(0:Int)<items.size
  ·have e:(((items.size:Int)-0+2-1) / 2).toNat=(items.size+1) / 2:=by lia
   simp only[h2,if_true,h,e]
   apply List.map_congr_left;intro k _;lia
  ·have e:items.size=0:=by lia
   rw[e];rfl
 unfold slicePick
 rw[b]
 show ((sliceRange 0 (items.size:Int) 2).filterMap (items[·]?)).toArray=_
 rw[c,List.filterMap_map]
 refine congrArg List.toArray (zbH _ fun k _=>?_)
 simp
theorem zg7 (items:Array Value):slicePick items (some 1) none (some 2)=((List.range (items.size / 2)).filterMap fun k=>items.toList[1+2*k]?).toArray:=by
 have b:sliceBounds (some 1) none (some 2) items.size=(max 0 (min 1 (items.size:Int)),(items.size:Int),2):=rfl
 have c:sliceRange (max 0 (min 1 (items.size:Int))) (items.size:Int) 2=(List.range (items.size / 2)).map fun k=>1+2*k:=by
  unfold sliceRange
  have h2:(2:Int) > 0:=by decide
  by_cases h:(1:Int)<items.size
  ·have m:max 0 (min 1 (items.size:Int))=1:=by lia
   rw[m]
   have e:(((items.size:Int)-1+2-1) / 2).toNat=items.size / 2:=by lia
   simp only[h2,if_true,h,e]
   apply List.map_congr_left;intro k _;lia
  ·have e:items.size=0∨items.size=1:=by lia
   rcases e with e|e<;>rw[e]<;>rfl
 unfold slicePick
 rw[b]
 show ((sliceRange (max 0 (min 1 (items.size:Int))) (items.size:Int) 2).filterMap (items[·]?)).toArray=_
 rw[c,List.filterMap_map]
 refine congrArg List.toArray (zbH _ fun k _=>?_)
 simp
def tBy2 (K:PySem.W.Frag) (te:TE) (tl ts:TO):TE:=fun σ H Q=>te σ H fun x H1=>tl σ H1 fun lo H2=>ts σ H2 fun o H3=>o=some 2∧∃ off a xs,((lo=none∧off=0)∨(lo=some 1∧off=1))∧x=.ref a∧SqL K H3 a xs∧∀ p,H3 p=none→Q (.ref p) (upd H3 p (.lst (by2 off xs)))
theorem zfd {X:Cx}{e st:Expr}{lo:Option Expr}{te:TE}{tl ts:TO}{p2 pos:Pos}(he:PE X e te) (hl:PO X lo tl) (hs:PO X (some st) ts):PE X (.Subscript e (.Slice lo none (some st) p2) pos) (tBy2 X.K te tl ts):=by
 intro pins s σ H Q I h
 refine Subscript_ (thn (he pins s σ H _ I h) fun v s1 ⟨x,H1,I1,r1,q1⟩=>wpAny_Slice (thn (hl pins s1 σ H1 _ I1 q1) fun vl s0 ⟨ol,H0,I0,pl,q0⟩=>?_))
 rw[evalPart_none]
 refine wpAny_pure (thn (hs pins s0 σ H0 _ I0 q0) fun vst s2 ⟨o,H2,I2,po,q2⟩=>?_)
 obtain⟨rfl,off,a,xs,hoff,rfl,hq,k⟩:=q2
 cases r1
 have I3:Inv X pins σ H2 { s2 with heap:=s2.heap.push { cls:=.type "slice",data:=.fields #[vl,.none,vst] } }:=I2.kept (t':=s2.toks) fun b ob q=>Heap.get?_push_of_some _ q
 obtain⟨its,r,ht,hz⟩:=I3.list hq
 have hlen:=r.length
 show wpAny (model X.prog X.w) X.A (subscriptTail e (.Slice lo none (some st) p2) (.ref a) (.ref s2.heap.objs.size)) (EP X pins σ Q) X.xe { s2 with heap:=s2.heap.push { cls:=.type "slice",data:=.fields #[vl,.none,vst] } }
 refine tail_any (ops:=[.ref a,.ref s2.heap.objs.size]) ht.isList.typeIs slot_list_getitem.lookup (wpAny_getItem_list_slice ht.isList (Heap.IsSliceOf.new ..) pl .none po (by simp) ?_ (by rw[List.size_toArray]<;>lia)) (by with_unfolding_all rfl)
 have pk:slicePick its.toArray ol none (some 2)=((List.range ((its.length+1-off) / 2)).filterMap fun k=>its[off+2*k]?).toArray:=by
  rcases hoff with ⟨rfl,rfl⟩|⟨rfl,rfl⟩
  ·rw[zir];simp only[List.size_toArray,Nat.sub_zero,Nat.zero_add]
  ·rw[zg7];simp only[List.size_toArray,Nat.add_sub_cancel]
 rw[pk]
 have ho1:off≤1:=by rcases hoff with ⟨_,rfl⟩|⟨_,rfl⟩<;>decide
 have vv:Vals (by2 off xs) ((List.range ((its.length+1-off) / 2)).filterMap fun k=>its[off+2*k]?):=by
  have:=zgf r ((List.range ((its.length+1-off) / 2)).map fun k=>off+2*k)
  rw[List.filterMap_map,List.filterMap_map]at this
  unfold by2
  rw[hlen];exact this
 refine⟨.ref _,_,I3.laid (t':=s2.toks) (o:=.lst (by2 off xs)) (fun b ob q=>Heap.get?_push_of_some _ q) (Nat.le_refl _) ⟨by rw[zeR off ho1];lia,_,0,vv,?_⟩,rfl,k _ (I3.hok.fresh (Nat.le_refl _))⟩
 exact Heap.get?_push_size _ rfl
theorem zg3 {X:Cx}{i:Nat}{y:Str}{elt tg iter tg1 iter1:Expr}{o:Option Expr}{scope:Scope}{pos spos py:Pos}{wi wi1:TI}{g g1:TG}{tt:TT}{te:TE}{N':List Str}{cap:List (Option Nat)}
  (hN:X.N.Nodup) (hi':X.N[i]?=some y) (hy:X.env.scope.names.lookup y=some .local) (hc:X.calm=true) (hi:PI X tg iter wi) (ck:CapOk X.N N' X.env.scope scope cap)
  (hg:∀ C s₀ H₀ fp pins,PG (zar X N' scope C s₀ H₀ fp pins) tg g)
  (hi1:∀ C s₀ H₀ fp pins,PI (zar X N' scope C s₀ H₀ fp pins) tg1 iter1 wi1)
  (hg1:∀ C s₀ H₀ fp pins,PG (zar X N' scope C s₀ H₀ fp pins) tg1 g1)
  (ht:∀ C s₀ H₀ fp pins,PTo (zar X N' scope C s₀ H₀ fp pins) o tt)
  (he:∀ C s₀ H₀ fp pins,PE (zar X N' scope C s₀ H₀ fp pins) elt te)
  (hs:∀ x,foldedSetIterable iter X.env x=pure x:=by intro _;rfl)
  (hs1:∀ C x,foldedSetIterable iter1 (compEnvC scope (clOf X.env.cells scope.names []) C X.env) x=pure x:=by intro _ _;rfl)
  (hsw:swapsWith (.ListComp elt [⟨tg,iter,[],0⟩,⟨tg1,iter1,o.toList,0⟩] scope pos) (some (.Name y py)) spos.line X.env=pure true:=by with_unfolding_all rfl) :
  PS X (.Assign [.Name y py] (.ListComp elt [⟨tg,iter,[],0⟩,⟨tg1,iter1,o.toList,0⟩] scope pos) spos) (tAsg (tLC2 cap wi g wi1 g1 tt te) (zbG i)):=by
 intro pins s σ H D I h
 rw[exec_Assign_Name_used y py _ spos hsw]
 refine wpAny_bind (wpAny_standAt (wpAny_bind (wpAny_bind (thn (zfn (use:=some (assign (.Name y py) X.env)) (Q0:=fun _ z=>SP X pins D .next z) hc hi ck hg hi1 hg1 ht he hs hs1 I h fun l C H4 s5 m I5 q hn f=>?_) fun _ z hz=>wpAny_pure (wpAny_pure hz)))))
 refine wpAny_assign_Name (zdz (v:=.ref l) I5 hN hi' (.inl hy) rfl (fun s6 I6 ⟨b,sb,hb⟩=>?_) (.inr hy))
 have apart:C≠b:=by
  rcases hb with z|z
  ·exact z ▸ f.2.1
  ·exact fun q=>f.2.2.2.2.1 y b z q.symm
 exact⟨m,hn.sameBut sb apart,fun h' sb'=>⟨_,H4,I6.gone f sb',q⟩⟩
theorem ziT {K:PySem.W.Frag}{a:Addr}{xs:List V}{g g1:TG}{wi1:TI}{tt:TT}{te:TE}{l:Addr}{σ:St}{H:Hp}{Q:VK}(Pv:Nat→List V→St→Hp→Prop) (h0:Pv 0 [] σ H)
  (hl:∀ i acc σ H,Pv i acc σ H→H l=some (.lst acc)∧SqL K H a xs)
  (hs:∀ i acc σ H x,xs[i]?=some x→Pv i acc σ H→g x σ H fun σ3 H3=>wi1 σ3 H3 fun J1 H4 =>
   ∃ W1:Nat→Nat→List V→St→Hp→Prop,(∃ m1,W1 0 m1 acc σ3 H4)∧LCW1 J1 g1 tt te l (fun ac τ G=>Nx xs.length i (Pv (i+1) ac τ G)) W1)
  (hd:∀ acc σ H,Pv xs.length acc σ H→Q (.ref l) H):∃ W:Nat→Nat→List V→St→Hp→Prop,(∃ m,W 0 m [] σ H) ∧
   ∀ i m acc σ' H',W i m acc σ' H'→H' l=some (.lst acc)∧(((Itl K a).stop i H'∧Q (.ref l) H')∨((Itl K a).go i H'∧∀ x H2,(Itl K a).yld i H' x H2→g x σ' H2 fun σ3 H3=>wi1 σ3 H3 fun J1 H4 =>
    ∃ W1:Nat→Nat→List V→St→Hp→Prop,(∃ m1,W1 0 m1 acc σ3 H4)∧LCW1 J1 g1 tt te l (fun ac τ G=>∃ m',m'<m∧W (i+1) m' ac τ G) W1)):=by
 refine⟨fun i m acc σ H=>m=xs.length-i∧i≤xs.length∧Pv i acc σ H,⟨xs.length,by simp,Nat.zero_le _,h0⟩,?_⟩
 rintro i m acc σ H ⟨rfl,hi,p⟩
 obtain⟨q0,q1⟩:=hl i acc σ H p
 refine⟨q0,?_⟩
 by_cases hlt:i<xs.length
 ·refine .inr ⟨⟨xs,xs[i],q1,List.getElem?_eq_getElem hlt⟩,fun x H2 ⟨e,y⟩=>?_⟩
  subst e
  exact hs i acc σ _ x (y xs q1) p
 ·obtain rfl:i=xs.length:=by lia
  exact .inl ⟨⟨xs,q1,Nat.le_refl _⟩,hd acc σ H p⟩
end L2
namespace Bn
open PySem L2 Own
def Rws (H:Hp):List V→List (List Int)→Prop
 | [],[]=>True
 | x::xs,c::cs=>(∃ a,x=.ref a∧H a=some (.tup (c.map V.int)))∧Rws H xs cs
 | _,_=>False
theorem Rws.tups {H H':Hp}(s:Tups H H'):∀ {xs:List V}{cs:List (List Int)},Rws H xs cs→Rws H' xs cs
 | [],[],_=>trivial
 | [],_::_,h=>h.elim
 | _::_,[],h=>h.elim
 | _::_,_::_,⟨⟨a,e,h⟩,r⟩=>⟨⟨a,e,s _ _ h⟩,Rws.tups s r⟩
theorem Rws.add {H:Hp}{a:Addr}{c:List Int}(h:H a=some (.tup (c.map V.int))):∀ {xs:List V}{cs:List (List Int)},Rws H xs cs→Rws H (xs++[.ref a]) (cs++[c])
 | [],[],_=>⟨⟨a,rfl,h⟩,trivial⟩
 | [],_::_,z=>z.elim
 | _::_,[],z=>z.elim
 | _::_,_::_,⟨e,r⟩=>⟨e,Rws.add h r⟩
theorem Rws.len {H:Hp}:∀ {xs:List V}{cs:List (List Int)},Rws H xs cs→xs.length=cs.length
 | [],[],_=>rfl
 | [],_::_,h=>h.elim
 | _::_,[],h=>h.elim
 | _::_,_::_,⟨_,r⟩=>congrArg (· + 1) (Rws.len r)
theorem Rws.get {H:Hp}:∀ {xs:List V}{cs:List (List Int)}{i:Nat}{x:V},Rws H xs cs→xs[i]?=some x→∃ a c,x=.ref a∧cs[i]?=some c∧H a=some (.tup (c.map V.int))
 | [],[],_,_,_,h=>by simp at h
 | [],_::_,_,_,z,_=>z.elim
 | _::_,[],_,_,z,_=>z.elim
 | x::xs,c::cs,0,y,⟨⟨a,e,h⟩,_⟩,g=>by
  obtain rfl:x=y:=by simpa using g
  exact⟨a,c,e,rfl,h⟩
 | x::xs,c::cs,i+1,y,⟨_,r⟩,g=>by
  obtain⟨a,d,p,q,h⟩:=Rws.get (i:=i) r (show xs[i]?=some y by simpa using g)
  exact⟨a,d,p,by simpa using q,h⟩
def zai:Nat→List (List Int)
 | 0=>[[]]
 | n+1=>(zai n).flatMap fun r=>[r++[0],r++[1]]
theorem za5:∀ n,(zai n).length=2 ^ n
 | 0=>rfl
 | n+1=>by
  have z:∀ l:List (List Int),(l.flatMap fun r=>[r++[0],r++[1]]).length=2*l.length:=fun l=>by
   induction l with
   | nil=>rfl
   | cons r l ih=>rw[List.flatMap_cons,List.length_append,ih];show 2+2*l.length=2*(l.length+1);lia
  show ((zai n).flatMap _).length=_
  rw[z,za5 n,Nat.pow_succ];lia
theorem zaV:∀ (n:Nat) (r:List Int),r∈zai n→r.length=n∧∀ i∈r,0≤i∧i<2
 | 0,r,h=>by
  obtain rfl:r=[]:=by simpa [zai] using h
  exact⟨rfl,fun i hi=>by simp at hi⟩
 | n+1,r,h=>by
  obtain⟨q,hq,hr⟩:=List.mem_flatMap.mp h
  obtain⟨l,b⟩:=zaV n q hq
  simp only[List.mem_cons,List.not_mem_nil,or_false]at hr
  rcases hr with rfl|rfl
  ·refine⟨by rw[List.length_append,l];rfl,fun i hi=>?_⟩
   rcases List.mem_append.mp hi with hi|hi
   ·exact b i hi
   ·rw[List.mem_singleton.mp hi];decide
  ·refine⟨by rw[List.length_append,l];rfl,fun i hi=>?_⟩
   rcases List.mem_append.mp hi with hi|hi
   ·exact b i hi
   ·rw[List.mem_singleton.mp hi];decide
def zaK (N:Nt):Option (List Int):=if 8<N.lanes then none else (zai N.lanes).find? fun r=>!zbt N r
def zjY:List (Nat × Nat)→Option (List Int)→PyData
 | (i,j)::_,_=>.tuple [.str "share",.int i,.int j]
 | [],some cs=>.tuple [.str "row",.tuple (cs.map PyData.int)]
 | [],none=>.none
def barD (N:Nt) (d:Nat):PyData:=if zaS N=true then .tuple [.str "lanes"] else if zbz N d=true then .tuple [.str "depth"] else zjY (offL N d N.lanes) (zaK N)
def BarIs (H:Hp) (N:Nt) (d:Nat) (x:V):Prop:=DD H 2 x (barD N d)∧((x=.non∧barD N d=.none)∨ThK H N d x true)
theorem zfu {H:Hp}{n:Nat}{z:Str}(h:(PyData.str z).canLay0=true):DD H n (.str z) (.str z):=DD.fl (.inr (.inl ⟨z,rfl,rfl,h⟩))
theorem zlK:(PyData.str "lanes").canLay0=true∧(PyData.str "depth").canLay0=true∧(PyData.str "share").canLay0=true∧(PyData.str "row").canLay0=true:=by decide +kernel
theorem dd1 {H:Hp}{n:Nat}{t:Addr}{x:V}{d:PyData}(h:H t=some (.tup [x])) (a:DD H n x d):DD H (n+1) (.ref t) (.tuple [d]):=DD.tup h rfl fun j u e p q=>by
 match j,p,q with
 | 0,p,q=>obtain rfl:=Option.some.inj p;obtain rfl:=Option.some.inj q;exact a
 | j+1,p,q=>simp at p
theorem dd2 {H:Hp}{n:Nat}{t:Addr}{x y:V}{d e:PyData}(h:H t=some (.tup [x,y])) (a:DD H n x d) (b:DD H n y e):DD H (n+1) (.ref t) (.tuple [d,e]):=DD.tup h rfl fun j u e p q=>by
 match j,p,q with
 | 0,p,q=>obtain rfl:=Option.some.inj p;obtain rfl:=Option.some.inj q;exact a
 | 1,p,q=>obtain rfl:=Option.some.inj p;obtain rfl:=Option.some.inj q;exact b
 | j+2,p,q=>simp at p
theorem dd3 {H:Hp}{n:Nat}{t:Addr}{x y z:V}{d e f:PyData}(h:H t=some (.tup [x,y,z])) (a:DD H n x d) (b:DD H n y e) (c:DD H n z f):DD H (n+1) (.ref t) (.tuple [d,e,f]):=DD.tup h rfl fun j u e p q=>by
 match j,p,q with
 | 0,p,q=>obtain rfl:=Option.some.inj p;obtain rfl:=Option.some.inj q;exact a
 | 1,p,q=>obtain rfl:=Option.some.inj p;obtain rfl:=Option.some.inj q;exact b
 | 2,p,q=>obtain rfl:=Option.some.inj p;obtain rfl:=Option.some.inj q;exact c
 | j+3,p,q=>simp at p
theorem zdY {N:Nt}{cs:List Int}(h:zaK N=some cs):cs.length=N.lanes∧(∀ i∈cs,0≤i∧i<2)∧zbt N cs=false:=by
 unfold zaK at h
 split at h
 ·cases h
 ·have m:=List.mem_of_find?_eq_some h
  have q:=List.find?_some h
  obtain⟨a,b⟩:=zaV _ _ m
  exact⟨a,b,by simpa using q⟩
end Bn
namespace K70
open PySem L2 Own Bn
abbrev zeo:Stmt:=top 28
abbrev zgS:Stmt:=top 27
abbrev sBar:Stmt:=top 23
def zc1:Sp:=fun vs H Q _=>∃ n:Nat,vs=[.int n]∧n≤8∧∀ p ts H',Same H H'→H' p=some (.lst ts)→Rws H' ts (zai n)→Q (.ref p) H'
def zek:Sp:=fun vs H Q _=>∃ r fr er ps N,vs=[.ref r]∧Nt.Ok N∧NetAt H r fr er ps N∧(∀ H',Same H H'→zaK N=none→Q .non H')∧∀ a cs H',Same H H'→zaK N=some cs→H' a=some (.tup (cs.map V.int))→Q (.ref a) H'
def zjH:Sp:=fun vs H Q _=>∃ r fr er ps N d,vs=[.ref r]∧Nt.Ok N∧NetAt H r fr er ps N∧IsTop N d∧∀ x H',Same H H'→BarIs H' N d x→Q x H'
section
variable {P:Program}{w:World}{K:PySem.W.Frag}{mg:Str→Option Value}{base:Heap}
theorem scRw:FnScope ["lanes","rows","lane"] ["lanes"] (zad zeo):=by trivial
theorem zhe {f:Addr}{fd:FuncData}(F:Fun K "rows_of" "rows_of" zeo f fd) (G:Mgs mg):FnOk P w K mg base CX0 1 f fd ["lanes"] zc1:=by
 refine F.ok scRw (fun vs H Q E h=>?_) (fun cdv A outer s H vs Q E hr h=>?_)
 ·obtain⟨n,rfl,_⟩:=h
  rfl
 obtain⟨n,rfl,n8,k⟩:=h
 refine⟨_,(@pss_cons _ _ _ _ _ (@ps_set _ _ 1 _ _ _ _ scRw.nd rfl (.inl rfl) (@pe_lst _ _ _ _ (@pa_cons _ _ _ _ _ (@pe_tup _ _ _ _ _ pa_nil) pa_nil (by rfl))) (by rfl) (by first|exact .inl rfl|exact .inr rfl|assumption)) (@pss_cons _ _ _ _ _ (@ps_for _ _ _ _ _ _ _ _ PassesOwn.never rfl (@pi_range1 _ _ _ _ _ _ rfl G.range (@pa_cons _ _ _ _ _ (@qv _ 0 _ _ (by trivial)) pa_nil (by rfl)) (by rfl)) (@pg_name _ _ 2 _ scRw.nd rfl (.inl rfl) (by first|exact .inl rfl|exact .inr rfl|assumption)) (@pss_one _ _ _ (@zg3 _ 1 _ _ _ _ _ _ none _ _ _ _ _ (iTup K (tTup (zdy (tC (.int 0)) (zdy (tC (.int 1)) tNil)))) _ _ _ _ ["row","number"] [none,none] scRw.nd rfl rfl rfl (@zdh _ _ _ _ (@qv _ 1 _ _ (by trivial))) (CapOk.of (by kernel_rfl)) (fun _ _ _ _ _=>(@pg_name _ _ 0 _ (show (["row","number"]:List Str).Nodup from by decide +kernel) rfl (.inl rfl) (.inr rfl))) (fun _ _ _ _ _=>(@za8 _ _ _ _ (@pe_tup _ _ _ _ _ (@pa_cons _ _ _ _ _ pe_int (@pa_cons _ _ _ _ _ pe_int pa_nil (by rfl)) (by rfl))))) (fun _ _ _ _ _=>(@pg_name _ _ 1 _ (show (["row","number"]:List Str).Nodup from by decide +kernel) rfl (.inl rfl) (.inr rfl))) (fun _ _ _ _ _=>zaE) (fun _ _ _ _ _=>(@pe_op _ _ _ _ _ _ _ _ zdj (@qv _ 0 _ _ (by trivial)) (@pe_tup _ _ _ _ _ (@pa_cons _ _ _ _ _ (@qv _ 1 _ _ (by trivial)) pa_nil (by rfl))))) (by intro _;rfl) (by intro _ _;rfl) (by with_unfolding_all rfl))) (by intro _;rfl)) (@pss_one _ _ _ (@ps_ret _ _ _ _ (@qv _ 1 _ _ (by trivial)))))),?_⟩
 refine⟨(by show 0≤sizeLine;decide),fun t0 ht0=>?_⟩
 have s1:=zaa ht0 (.tup [])
 refine⟨(by show 1≤sizeLine;decide),fun l0 hl0=>?_⟩
 have s2:=zaa hl0 (.lst [.ref t0])
 refine⟨_,rfl,n,rfl,by lia,by lia,?_⟩
 refine zav (lo:=0) (n:=((n:Nat):Int).toNat) (fun i σ H2=>∃ p ts,(∃ v2,σ=[some (.int n),some (.ref p),v2])∧Same H H2∧H2 p=some (.lst ts)∧Rws H2 ts (zai i)) ⟨l0,[.ref t0],⟨_,rfl⟩,s1.trans s2,zab,⟨t0,rfl,s2 _ _ (atNew ht0 _)⟩,trivial⟩ ?_ ?_
 ·rintro i σ H2 hi ⟨p,ts,⟨v2,rfl⟩,sm,hp,rw'⟩
  have i8:i<8:=by lia
  have tl:ts.length=2 ^ i:=by rw[rw'.len,za5]
  have pb:2 ^ i≤2 ^ 8:=Nat.pow_le_pow_right (by decide) (by lia)
  have p8:2 ^ 8=256:=rfl
  refine⟨_,rfl,p,rfl,⟨_,SqL.of hp⟩,fun l hl=>?_⟩
  refine ziT (K:=K) (a:=p) (xs:=ts) (Q:=fun x H1=>∃ p' ts',(∃ v2',[some (.int n),some x,some (.int (0+(i:Nat)))]=[some (.int n),some (.ref p'),v2'])∧Same H H1∧H1 p'=some (.lst ts')∧Rws H1 ts' (zai (i+1))) (fun j acc σ H3=>(∃ v0 v1,σ=[v0,v1])∧Same H2 H3∧H3 l=some (.lst acc)∧Rws H3 acc (((zai i).take j).flatMap fun r=>[r++[0],r++[1]])) ⟨⟨_,_,rfl⟩,zaa hl _,zab,trivial⟩ (fun j acc σ H3 z=>⟨z.2.2.1,SqL.of (z.2.1 _ _ hp)⟩) ?_ ?_
  ·rintro j acc σ H3 x hx ⟨⟨v0,v1,rfl⟩,s3,h3,r3⟩
   obtain⟨a,c,rfl,hc,ha⟩:=(rw'.tups (Tups.of s3)).get hx
   have jl:=(List.getElem?_eq_some_iff.mp hc).1
   have cl:=(zaV i c (List.mem_of_getElem? hc)).1
   have l3:acc.length=2*j:=by
    have z:∀ l:List (List Int),(l.flatMap fun r=>[r++[0],r++[1]]).length=2*l.length:=fun l=>by
     induction l with
     | nil=>rfl
     | cons r l ih=>rw[List.flatMap_cons,List.length_append,ih];show 2+2*l.length=2*(l.length+1);lia
    rw[r3.len,z,List.length_take]
    have:=za5 i
    lia
   have jb:j<2 ^ i:=by have:=za5 i;lia
   refine⟨(by show 2≤sizeLine;decide),fun tt htt=>?_⟩
   have s4:=zaa htt (.tup [.int 0,.int 1])
   refine⟨tt,rfl,⟨_,SqT.of (atNew htt _)⟩,?_⟩
   refine zhA (K:=K) (a:=tt) (zs:=[.int 0,.int 1]) (fun z acc σ H5=>(∃ v1,σ=[some (.ref a),v1])∧Same H2 H5∧H5 l=some (.lst acc)∧H5 tt=some (.tup [.int 0,.int 1])∧acc.length=2*j+z∧Rws H5 acc ((((zai i).take j).flatMap fun r=>[r++[0],r++[1]])++([c++[0],c++[1]]).take z)) ⟨⟨_,rfl⟩,s3.trans s4,s4 _ _ h3,atNew htt _,l3,?_⟩ (fun z acc σ H5 q=>⟨q.2.2.1,SqT.of q.2.2.2.1⟩) ?_ ?_
   ·rw[List.take_zero,List.append_nil];exact r3.tups (Tups.of s4)
   ·rintro z y acc σ H5 hy ⟨⟨v1,rfl⟩,s5,h5,ht5,l5,r5⟩
    have zl:z<2:=(List.getElem?_eq_some_iff.mp hy).1
    obtain⟨b,rfl,eb⟩:∃ b:Int,y=.int b∧([c++[0],c++[1]]).take (z+1)=([c++[0],c++[1]]).take z++[c++[b]]:=by
     match z,hy with
     | 0,hy=>exact⟨0,(Option.some.inj hy).symm,rfl⟩
     | 1,hy=>exact⟨1,(Option.some.inj hy).symm,rfl⟩
     | z+2,hy=>simp at hy
    have ha5:=s5 _ _ (rw'.get hx |> fun ⟨a',c',e',_,h'⟩=>show H2 a=some (.tup (c.map V.int)) from by
     obtain⟨a2,c2,e2,hc2,h2⟩:=rw'.get hx
     cases e2
     rw[hc]at hc2
     obtain rfl:=Option.some.inj hc2
     exact h2)
    refine⟨_,rfl,_,rfl,(by show 1≤sizeLine;decide),fun t ht=>?_⟩
    have s6:=zaa ht (.tup [.int b])
    refine⟨a,t,_,_,rfl,rfl,s6 _ _ ha5,atNew ht _,by rw[List.length_map,cl,sizeLine_eq];show _+1≤_;lia,fun t2 H7 s7 h7=>?_⟩
    have u7:=s6.trans s7
    have h57:=u7 _ _ h5
    have e7:c.map V.int++[V.int b]=(c++[b]).map V.int:=by rw[List.map_append];rfl
    rw[e7]at h7
    refine⟨h57,by rw[l5,sizeLine_eq];lia,nx (by exact zl) ⟨⟨_,rfl⟩,fun q o e=>?_,zab,?_,by rw[List.length_append,l5];rfl,?_⟩⟩
    ·rw[zae (zac e hl)];exact u7 _ _ (s5 _ _ e)
    ·rw[zae (zlX ht5 h5 (fun q=>by cases q))];exact u7 _ _ ht5
    ·rw[eb,← List.append_assoc]
     exact((r5.tups (Tups.of u7)).tups (Tups.lst h57)).add (Tups.lst h57 _ _ h7)
   ·rintro acc σ H5 ⟨⟨v1,rfl⟩,s5,h5,ht5,l5,r5⟩
    refine nx (by rw[tl];exact jb) ⟨⟨_,_,rfl⟩,s5,h5,?_⟩
    have e:(zai i).take (j+1)=(zai i).take j++[c]:=by
     rw[List.take_succ_eq_append_getElem jl,(List.getElem?_eq_some_iff.mp hc).2]
    rw[e,List.flatMap_append,List.flatMap_singleton]
    exact r5
  ·rintro acc σ H3 ⟨_,s3,h3,r3⟩
   have e:(zai i).take ts.length=zai i:=by rw[rw'.len];exact List.take_length
   rw[e]at r3
   exact⟨l,acc,⟨_,rfl⟩,sm.trans s3,h3,r3⟩
 ·rintro σ H2 ⟨p,ts,⟨v2,rfl⟩,sm,hp,rw'⟩
  rw[Int.toNat_natCast]at rw'
  exact⟨_,rfl,k p ts H2 sm hp rw'⟩
theorem scFr:FnScope ["net","row"] ["net"] (zad zgS):=by trivial
theorem ziG {f fR fF:Addr}{fd dR dF:FuncData}{tk:Tok}(F:Fun K "first_row" "first_row" zgS f fd) (hM:mg "MOST_LANES_FOR_ROWS" = some (.int 8 tk)) (UR:Use P w K mg base "rows_of" ["lanes"] 1 zc1 fR dR) (UF:Use P w K mg base "falls" ["net","row"] 2 zc8 fF dF):FnOk P w K mg base CX0 3 f fd ["net"] zek:=by
 refine F.ok scFr (fun vs H Q E h=>?_) (fun cdv A outer s H vs Q E hr h=>?_)
 ·obtain⟨r,fr,er,ps,N,rfl,_⟩:=h
  rfl
 obtain⟨r,fr,er,ps,N,rfl,ok,na,kn,ks⟩:=h
 have hr1:Room 1 _:=hr.mono (by decide)
 refine⟨_,(@pss_cons _ _ _ _ _ (@ps_if _ _ _ _ _ _ _ _ (@pt_cmpR _ _ _ _ _ _ _ _ zkb (@pe_ix _ _ _ _ _ _ _ ix_tup (@qv _ 0 _ _ (by trivial)) pe_int (fun _ _=>rfl)) (@zex _ _ (.int 8) _ _ (by rfl) @hM ⟨_,rfl⟩ (by decide)) (nomark _)) (@pss_one _ _ _ (@ps_ret _ _ _ _ pe_non)) pss_nil) (@pss_cons _ _ _ _ _ (@ps_for _ _ _ _ _ _ _ _ PassesOwn.never rfl (@zdh _ _ _ _ (@pe_call _ _ _ _ _ _ _ _ _ _ _ _ _ _ _ _ UR.ok hr1 (by rfl) UR.m UR.kp UR.b .nil pass0 (@pa_cons _ _ _ _ _ (@pe_ix _ _ _ _ _ _ _ ix_tup (@qv _ 0 _ _ (by trivial)) pe_int (fun _ _=>rfl)) pa_nil (by rfl)) (by decide) (by rfl) (by rfl))) (@pg_name _ _ 1 _ scFr.nd rfl (.inl rfl) (by first|exact .inl rfl|exact .inr rfl|assumption)) (@pss_one _ _ _ (@ps_if _ _ _ _ _ _ _ _ (@pt_not _ _ _ _ (@pt_val _ _ _ (@pe_call _ _ _ _ _ _ _ _ _ _ _ _ _ _ _ _ UF.ok hr (by rfl) UF.m UF.kp UF.b .nil pass0 (@pa_cons _ _ _ _ _ (@qv _ 0 _ _ (by trivial)) (@pa_cons _ _ _ _ _ (@qv _ 1 _ _ (by trivial)) pa_nil (by rfl)) (by rfl)) (by decide) (by rfl) (by rfl)) (by intro _;rfl))) (@pss_one _ _ _ (@ps_ret _ _ _ _ (@qv _ 1 _ _ (by trivial)))) pss_nil)) (by intro _;rfl)) (@pss_one _ _ _ (@ps_ret _ _ _ _ pe_non)))),?_⟩
 refine⟨_,rfl,r,_,0,_,rfl,rfl,SqT.of na.net,rfl,_,_,rfl,rfl,_,rfl,ite2 (fun c=>?_) (fun c=>?_)⟩
 ·have:8<N.lanes:=by have:=of_decide_eq_true c;lia
  exact kn H (Same.refl H) (by unfold zaK;rw[if_pos this])
 ·have c8:¬ 8<N.lanes:=fun z=>c (decide_eq_true (by lia))
  have ef:zaK N=(zai N.lanes).find? fun r=>!zbt N r:=by unfold zaK;rw[if_neg c8]
  refine⟨_,rfl,r,_,0,_,rfl,rfl,SqT.of na.net,rfl,N.lanes,rfl,by lia,fun p ts H1 s1 hp rw'=>?_⟩
  refine⟨p,rfl,⟨_,SqL.of hp⟩,?_⟩
  refine zfq (K:=K) (a:=p) (xs:=ts) (fun i σ H2=>(∃ v1,σ=[some (.ref r),v1])∧Same H1 H2∧((zai N.lanes).take i).find? (fun r=>!zbt N r)=none) ⟨⟨_,rfl⟩,Same.refl _,rfl⟩ (fun i σ H2 _ z=>SqL.of (z.2.1 _ _ hp)) ?_ ?_
  ·rintro i x σ H2 hx ⟨⟨v1,rfl⟩,s2,nf⟩
   obtain⟨a,cs,rfl,hc,ha⟩:=(rw'.tups (Tups.of s2)).get hx
   have il:=(List.getElem?_eq_some_iff.mp hc).1
   have cl:=(zaV N.lanes cs (List.mem_of_getElem? hc)).1
   have et:(zai N.lanes).take (i+1)=(zai N.lanes).take i++[cs]:=by
    rw[List.take_succ_eq_append_getElem il,(List.getElem?_eq_some_iff.mp hc).2]
   have u2:=s1.trans s2
   refine⟨_,rfl,_,rfl,r,fr,er,ps,N,a,cs,rfl,ok,na.tups (Tups.of u2),ha,cl,fun H3 s3=>⟨_,rfl,?_⟩⟩
   cases e:zbt N cs with
   | true =>
    refine iteF ⟨⟨_,rfl⟩,s2.trans s3,?_⟩
    rw[et,List.find?_append,nf]
    simp[e]
   | false =>
    refine iteT ⟨_,rfl,ks a cs H3 (u2.trans s3) ?_ (s3 _ _ ha)⟩
    have e2:((zai N.lanes).take (i+1)).find? (fun r=>!zbt N r)=some cs:=by
     rw[et,List.find?_append,nf]
     simp[e]
    rw[ef,← List.take_append_drop (i+1) (zai N.lanes),List.find?_append,e2];rfl
  ·rintro σ H2 ⟨⟨v1,rfl⟩,s2,nf⟩
   have e:(zai N.lanes).take ts.length=zai N.lanes:=by rw[rw'.len];exact List.take_length
   rw[e]at nf
   exact kn H2 (s1.trans s2) (ef.trans nf)
theorem scBa:FnScope ["net","uneven_shares","lane","end","row"] ["net"] (zad sBar):=by trivial
theorem zlo {f fN fH fO fF:Addr}{fd dN dH dO dF:FuncData}(F:Fun K "bar" "bar" sBar f fd) (UN:Use P w K mg base "has_no_depth" ["net"] 2 zc4 fN dN) (UH:Use P w K mg base "is_shallow" ["net"] 3 zdC fH dH) (UO:Use P w K mg base "off_shares" ["net"] 4 zij fO dO) (UF:Use P w K mg base "first_row" ["net"] 3 zek fF dF):FnOk P w K mg base CX0 5 f fd ["net"] zjH:=by
 refine F.ok scBa (fun vs H Q E h=>?_) (fun cdv A outer s H vs Q E hr h=>?_)
 ·obtain⟨r,fr,er,ps,N,d,rfl,_⟩:=h
  rfl
 obtain⟨r,fr,er,ps,N,d,rfl,ok,na,td,k⟩:=h
 have hr2:Room 2 _:=hr.mono (by decide)
 have hr3:Room 3 _:=hr.mono (by decide)
 refine⟨_,(@pss_cons _ _ _ _ _ (@ps_if _ _ _ _ _ _ _ _ (@pt_val _ _ _ (@pe_call _ _ _ _ _ _ _ _ _ _ _ _ _ _ _ _ UN.ok hr2 (by rfl) UN.m UN.kp UN.b .nil pass0 (@pa_cons _ _ _ _ _ (@qv _ 0 _ _ (by trivial)) pa_nil (by rfl)) (by decide) (by rfl) (by rfl)) (by intro _;rfl)) (@pss_one _ _ _ (@ps_ret _ _ _ _ (@pe_tup _ _ _ _ _ (@pa_cons _ _ _ _ _ pe_str pa_nil (by rfl))))) pss_nil) (@pss_cons _ _ _ _ _ (@ps_if _ _ _ _ _ _ _ _ (@pt_val _ _ _ (@pe_call _ _ _ _ _ _ _ _ _ _ _ _ _ _ _ _ UH.ok hr3 (by rfl) UH.m UH.kp UH.b .nil pass0 (@pa_cons _ _ _ _ _ (@qv _ 0 _ _ (by trivial)) pa_nil (by rfl)) (by decide) (by rfl) (by rfl)) (by intro _;rfl)) (@pss_one _ _ _ (@ps_ret _ _ _ _ (@pe_tup _ _ _ _ _ (@pa_cons _ _ _ _ _ pe_str pa_nil (by rfl))))) pss_nil) (@pss_cons _ _ _ _ _ (@ps_set _ _ 1 _ _ _ _ scBa.nd rfl (.inl rfl) (@pe_call _ _ _ _ _ _ _ _ _ _ _ _ _ _ _ _ UO.ok hr (by rfl) UO.m UO.kp UO.b .nil pass0 (@pa_cons _ _ _ _ _ (@qv _ 0 _ _ (by trivial)) pa_nil (by rfl)) (by decide) (by rfl) (by rfl)) (by rfl) (by first|exact .inl rfl|exact .inr rfl|assumption)) (@pss_cons _ _ _ _ _ (@ps_if _ _ _ _ _ _ _ _ (@pt_truth _ _ _ (@qv _ 1 _ _ (by trivial)) (fun _=>rfl)) (@pss_cons _ _ _ _ _ (@ps_asg _ _ _ _ _ _ (@pe_ix _ _ _ _ _ _ _ ix_list (@qv _ 1 _ _ (by trivial)) pe_int (fun _ _=>rfl)) (@zap _ _ _ _ _ _ rfl (@pgs_cons _ _ _ _ _ (@pg_name _ _ 2 _ scBa.nd rfl (.inl rfl) (by first|exact .inl rfl|exact .inr rfl|assumption)) (@pgs_cons _ _ _ _ _ (@pg_name _ _ 3 _ scBa.nd rfl (.inl rfl) (by first|exact .inl rfl|exact .inr rfl|assumption)) pgs_nil (by rfl)) (by rfl)) (by rfl) (by rfl)) (by rfl) (by rfl) (by rfl)) (@pss_one _ _ _ (@ps_ret _ _ _ _ (@pe_tup _ _ _ _ _ (@pa_cons _ _ _ _ _ pe_str (@pa_cons _ _ _ _ _ (@qv _ 2 _ _ (by trivial)) (@pa_cons _ _ _ _ _ (@qv _ 3 _ _ (by trivial)) pa_nil (by rfl)) (by rfl)) (by rfl)))))) pss_nil) (@pss_cons _ _ _ _ _ (@ps_set _ _ 4 _ _ _ _ scBa.nd rfl (.inl rfl) (@pe_call _ _ _ _ _ _ _ _ _ _ _ _ _ _ _ _ UF.ok hr3 (by rfl) UF.m UF.kp UF.b .nil pass0 (@pa_cons _ _ _ _ _ (@qv _ 0 _ _ (by trivial)) pa_nil (by rfl)) (by decide) (by rfl) (by rfl)) (by rfl) (by first|exact .inl rfl|exact .inr rfl|assumption)) (@pss_cons _ _ _ _ _ (@ps_if _ _ _ _ _ _ _ _ (@pt_cmpR _ _ _ _ _ _ _ _ op_notN (@qv _ 4 _ _ (by trivial)) pe_non (by rfl)) (@pss_one _ _ _ (@ps_ret _ _ _ _ (@pe_tup _ _ _ _ _ (@pa_cons _ _ _ _ _ pe_str (@pa_cons _ _ _ _ _ (@qv _ 4 _ _ (by trivial)) pa_nil (by rfl)) (by rfl))))) pss_nil) (@pss_one _ _ _ (@ps_ret _ _ _ _ pe_non)))))))),?_⟩
 obtain⟨y1,y2,y3,y4⟩:=zlK
 refine⟨_,rfl,r,fr,er,ps,N,rfl,ok,na,fun H1 s1=>⟨_,rfl,?_⟩⟩
 cases e1:zaS N with
 | true =>
  refine iteT ⟨(by show 1≤sizeLine;decide),fun t ht=>k _ _ (s1.trans (zaa ht _)) ⟨?_,.inr ⟨t,rfl,.inl ⟨atNew ht _,e1.symm⟩⟩⟩⟩
  unfold barD
  rw[if_pos e1]
  exact dd1 (atNew ht _) (zfu y1)
 | false =>
  have na1:=na.tups (Tups.of s1)
  refine iteF ⟨_,rfl,r,fr,er,ps,N,d,rfl,ok,na1,td,fun H2 s2=>⟨_,rfl,?_⟩⟩
  have u2:=s1.trans s2
  cases e2:zbz N d with
  | true =>
   refine iteT ⟨(by show 1≤sizeLine;decide),fun t ht=>k _ _ (u2.trans (zaa ht _)) ⟨?_,.inr ⟨t,rfl,.inr (.inl ⟨atNew ht _,e2.symm⟩)⟩⟩⟩
   unfold barD
   rw[if_neg (by rw[e1];exact Bool.false_ne_true),if_pos e2]
   exact dd1 (atNew ht _) (zfu y2)
  | false =>
   have na2:=na.tups (Tups.of u2)
   refine iteF ⟨_,rfl,r,fr,er,ps,N,d,rfl,ok,na2,td,fun p ts H3 s3 hp pr=>?_⟩
   have u3:=u2.trans s3
   have eD:barD N d=zjY (offL N d N.lanes) (zaK N):=by
    unfold barD
    rw[if_neg (by rw[e1];exact Bool.false_ne_true),if_neg (by rw[e2];exact Bool.false_ne_true)]
   refine⟨_,rfl,_,.inl ⟨_,SqL.of hp,rfl⟩,?_⟩
   cases eo:offL N d N.lanes with
   | cons g rest =>
    rw[eo]at pr eD
    match ts,hp,pr with
    | [],_,pr=>exact pr.elim
    | x::ts,hp,⟨⟨t,ex,ht⟩,_⟩ =>
     subst ex
     obtain⟨i,j⟩:=g
     have mem:(i,j)∈offL N d N.lanes:=by rw[eo];exact List.mem_cons_self
     obtain⟨mi,mj,mo⟩:=zb7.mp mem
     refine iteT ⟨_,rfl,p,_,0,_,rfl,rfl,SqL.of hp,zaN (j:=0) rfl,?_⟩
     refine⟨t,_,rfl,SqT.of ht,rfl,_,_,rfl,_,_,rfl,rfl,?_⟩
     refine⟨_,rfl,_,rfl,(by show 3≤sizeLine;decide),fun t2 ht2=>k _ _ (u3.trans (zaa ht2 _)) ⟨?_,.inr ⟨t2,rfl,.inr (.inr (.inl ⟨i,j,mi,mj,atNew ht2 _,mo.symm⟩))⟩⟩⟩
     rw[eD]
     exact dd3 (atNew ht2 _) (zfu y3) (DD.i _) (DD.i _)
   | nil =>
    rw[eo]at pr eD
    match ts,hp,pr with
    | _::_,_,pr=>exact pr.elim
    | [],hp,_ =>
     have na3:=na.tups (Tups.of u3)
     refine iteF ⟨_,rfl,r,fr,er,ps,N,rfl,ok,na3,fun H4 s4 ef=>?_,fun a cs H4 s4 ef ha=>?_⟩
     ·rw[ef]at eD
      exact⟨_,rfl,rfl,_,rfl,iteF (k _ _ (u3.trans s4) ⟨by rw[eD];exact DD.fl (.inr (.inr (.inr ⟨rfl,rfl⟩))),.inl ⟨rfl,eD⟩⟩)⟩
     ·rw[ef]at eD
      obtain⟨cl,cb,cf⟩:=zdY ef
      refine⟨_,rfl,rfl,_,rfl,iteT ⟨_,rfl,(by show 2≤sizeLine;decide),fun t ht=>k _ _ ((u3.trans s4).trans (zaa ht _)) ⟨?_,.inr ⟨t,rfl,.inr (.inr (.inr ⟨a,cs,atNew ht _,zaa ht _ _ _ ha,cl,cb,by rw[cf];rfl⟩))⟩⟩⟩⟩
      rw[eD]
      exact dd2 (atNew ht _) (zfu y4) (zkO (zaa ht _ _ _ ha))
end
end K70
namespace Own
open PySem PySem.Spec PyProof.Rows
section
variable {prog:Program}{w:World}{A:Around}{E:Value→Shared→Prop}{s:Shared}{z TI TO i1 i2:Addr}{f1 f2:List Addr}{n1 n2:Nat}{P1 P2:Nat→Value→Prop}{S1 S2:Nat→Heap→Prop}{a b:Value}
theorem zf7 (S:Sep z TI TO i1 i2 f1 f2) (D1:Draws prog w A i1 f1 n1 P1 S1) (D2:Draws prog w A i2 f2 n2 P2 S2) {Q:Fin→Shared→Prop}(hz:IsZip s.heap z TI TO .none) (hI:IsPair s.heap TI (.ref i1) (.ref i2)) (hO:IsPair s.heap TO a b) (d1:S1 n2 s.heap) (d2:S2 n2 s.heap) (l1:n2<n1)
  (h:∀ h' x tk,(∀ c o,c∉[z,TO,i1,i2]→s.heap.get? c=some o→h'.get? c=some o)→(∃ o,h'.get? x=some o∧o.cls=.type "StopIteration")→E (.ref x) { s with heap:=h',toks:=tk }):wpAny (model prog w) A (Builtin.«zip.__next__» ⟨[.ref z],[]⟩) Q E s:=by
 have nd:=S.all
 simp only[List.nodup_cons,List.mem_cons,List.not_mem_nil,or_false,not_or]at nd
 obtain⟨⟨zI,zO,z1,z2⟩,⟨IO,I1,I2⟩,⟨O1,O2⟩,n12,_⟩:=nd
 refine rf 2 hz rfl rfl (rf 3 hz rfl rfl (wpAny_bind (wpAny_seqItems hI rfl (wpAny_bind (rf 0 hz rfl rfl (wpAny_pure ?_))))))
 simp only[if_true]
 refine wpAny_bind (wpAny_rule (rf 4 hz rfl rfl (wpAny_bind (wpAny_setField_rec hz (show 0<5 by decide) fun ha za sa=>wpAny_bind ?_))))
 have za':IsZip ha z TI TO .ellipsis:=za;simp only[List.zipIdx_cons,List.zipIdx_nil,List.forIn_cons,List.forIn_nil]
 refine wpAny_bind (wpAny_bind (wpAny_onRaise (wpAny_bind (D1.item n2 _ _ _ l1 (D1.frame _ _ _ d1 fun c hc o e=>(sa.2 c fun q=>S.z1 (q ▸ hc)).trans e) fun x hb tb px db sb=>wpAny_pure ?_))))
 have Ob:IsPair hb TO a b:=(sb.2 TO O1).trans ((sa.2 TO (Ne.symm zO)).trans hO)
 refine wpAny_bind (wpAny_seqItems Ob rfl (wpAny_bind (wpAny_updateSeq_pair Ob fun hc Oc sc=>wpAny_bind (wpAny_letGo (wpAny_pure ?_)))))
 have st2:S2 n2 hc:=D2.frame _ _ _ d2 fun c hm o e=>(sc.2 c fun q=>S.t2 (q ▸ hm)).trans ((sb.2 c fun q=>S.o2 (q ▸ hm)).trans ((sa.2 c fun q=>S.z2 (q ▸ hm)).trans e))
 refine wpAny_bind (wpAny_bind (wpAny_onRaise (wpAny_bind (D2.done _ _ _ st2 fun hd y kd ⟨ox,ex,cx⟩=>?_))))
 have zc:IsZip hc z TI TO .ellipsis:=(sc.2 z zO).trans ((sb.2 z z1).trans za')
 have zd:IsZip hd z TI TO .ellipsis:=kd z _ z2 zc
 have yz:y≠z:=fun q=>by rw[q,zd]at ex;cases ex;exact absurd (show Value.type "zip" = Value.type "StopIteration" from cx) (by decide)
 refine wpAny_setField_rec zd (show 0<5 by decide) fun he _ se=>h he y _ (fun c o hm e=>?_) ⟨ox,(se.2 y yz).trans ex,cx⟩
 simp only[List.mem_cons,List.not_mem_nil,or_false,not_or]at hm
 exact(se.2 c hm.1).trans (kd c o hm.2.2.2 ((sc.2 c hm.2.1).trans ((sb.2 c hm.2.2.1).trans ((sa.2 c hm.1).trans e))))
end
end Own
namespace L2
open PySem PySem.Spec PyProof.Rows Own
def Itq (K:PySem.W.Frag) (b1 b2:Bool) (a1 a2:Addr):It :=
 ⟨(Itz K b1 b2 a1 a2).go,(Itz K b1 b2 a1 a2).yld,fun i H=>(Itz K b1 b2 a1 a2).stop i H∨∃ xs ys,SqB b1 K H a1 xs∧SqB b2 K H a2 ys∧ys.length=i∧i<xs.length⟩
theorem zgj {P:Program}{w:World}{K:PySem.W.Frag}{es:List Expr}{k1} {p1:Pos}(b1 b2:Bool) (a1 a2 z TI TO i1 i2:Addr) (nd:[z,TI,TO,i1,i2].Nodup) :
  Turn P w K (.Tuple es k1 p1) (Itq K b1 b2 a1 a2) [z,TI,TO,i1,i2] z (fun i h=>IsZip h z TI TO .none∧IsPair h TI (.ref i1) (.ref i2)∧(∃ a b,IsPair h TO a b)∧RIt b1 h i1 a1 i∧RIt b2 h i2 a2 i) where
 mem:=(za1 (P:=P) (w:=w) (K:=K) (es:=es) (k1:=k1) (p1:=p1) b1 b2 a1 a2 z TI TO i1 i2 nd).mem
 obj:=(za1 (P:=P) (w:=w) (K:=K) (es:=es) (k1:=k1) (p1:=p1) b1 b2 a1 a2 z TI TO i1 i2 nd).obj
 keep:=(za1 (P:=P) (w:=w) (K:=K) (es:=es) (k1:=k1) (p1:=p1) b1 b2 a1 a2 z TI TO i1 i2 nd).keep
 item:=(za1 (P:=P) (w:=w) (K:=K) (es:=es) (k1:=k1) (p1:=p1) b1 b2 a1 a2 z TI TO i1 i2 nd).item
 done:=by
  intro X hP hw hK hc i pins s σ H E I hf st hs
  rcases hs with hs|⟨xs,ys,q1,q2,hy,hx⟩
  ·exact(za1 (P:=P) (w:=w) (K:=K) (es:=es) (k1:=k1) (p1:=p1) b1 b2 a1 a2 z TI TO i1 i2 nd).done X hP hw hK hc i pins s σ H E I hf st hs
  obtain⟨hz,hI,⟨a,b,hO⟩,h1,h2⟩:=st
  subst hP hw hK
  obtain⟨u1,r1,p1⟩:=I.sq q1
  obtain⟨u2,r2,p2⟩:=I.sq q2
  have nd':=nd
  simp only[List.nodup_cons,List.mem_cons,List.not_mem_nil,or_false,not_or]at nd'
  obtain⟨⟨zI,zO,z1,z2⟩,⟨IO,I1,I2⟩,⟨O1,O2⟩,n12,_⟩:=nd'
  have na1:∀ c∈[z,TI,TO,i1,i2],c≠a1:=fun c hm=>I.sq_ne q1 (hf c hm)
  have na2:∀ c∈[z,TI,TO,i1,i2],c≠a2:=fun c hm=>I.sq_ne q2 (hf c hm)
  have S:Sep z TI TO i1 i2 [i1,a1] [i2,a2]:=⟨nd,by simp[z1,na1 z (by simp)],by simp[O1,na1 TO (by simp)],by simp[Ne.symm n12,na1 i2 (by simp)],by simp[z2,na2 z (by simp)],by simp[O2,na2 TO (by simp)],by simp[n12,na2 i1 (by simp)]⟩
  have hsz:i=u2.toArray.size:=by rw[List.size_toArray,← r2.length,hy]
  have l1:u2.toArray.size<u1.toArray.size:=by rw[← hsz,List.size_toArray,← r1.length];exact hx
  have hd:=I.ok.hd hc
  have tyz:s.TypeIs (.ref z) "zip":=⟨_,hz,rfl⟩
  unfold pyNext
  refine wpAny_bind (wpAny_attempt (wpAny_callSpecial?_slot (name:="__next__") tyz F.slot_zip_next (wpAny_call_entry F.slot_zip_next tyz F.entry_zip_next
   (zf7 S (zbI (prog:=X.prog) (w:=X.w) (A:=X.A.in1) hd b1 i1 a1 u1.toArray (p1.ne h1)) (zbI (prog:=X.prog) (w:=X.w) (A:=X.A.in1) hd b2 i2 a2 u2.toArray (p2.ne h2)) hz hI hO ⟨by rw[← hsz];exact h1,p1⟩ ⟨by rw[← hsz];exact h2,p2⟩ l1 fun h' x tk hk ⟨o,eo,co⟩=>?_) (F.args_zip_next_1 _))))
  refine wpAny_bind (wpAny_isInstance (T:="StopIteration") (b:=true) ⟨o,eo,co⟩ isSubtype_stop (wpAny_pure ⟨rfl,I.spun (t':=tk) (fp:=[z,TI,TO,i1,i2]) (fun c o hm q=>hk c o ?_ q) hf⟩))
  simp only[List.mem_cons,List.not_mem_nil,or_false,not_or]at hm ⊢
  exact⟨hm.1,hm.2.2.1,hm.2.2.2.1,hm.2.2.2.2⟩
 self:=(za1 (P:=P) (w:=w) (K:=K) (es:=es) (k1:=k1) (p1:=p1) b1 b2 a1 a2 z TI TO i1 i2 nd).self
def zl3 (K:PySem.W.Frag) (b1 b2:Bool) (ta:TA):TI:=fun σ H R=>ta σ H fun vs H1=>∃ a1 a2 xs ys,vs=[.ref a1,.ref a2]∧SqB b1 K H1 a1 xs∧SqB b2 K H1 a2 ys∧R (Itq K b1 b2 a1 a2) H1
theorem zj4 {X:Cx}{a b:Expr}{ta:TA}{p pos p1:Pos}{es:List Expr}{k1} (b1 b2:Bool) (hg:Gl X "zip") (hm:X.mg "zip" = none) (ha:PA X [a,b] ta) (hs:starEach [a,b] X.env=[(false,eval a X.env),(false,eval b X.env)]:=by rfl) (hs2:starEach [b] X.env=[(false,eval b X.env)]:=by rfl) :
  PI X (.Tuple es k1 p1) (.Call (.Name "zip" p) [a,b] [] pos) (zl3 X.K b1 b2 ta):=by
 intro pins s σ H R I h
 refine Call_ (zaA I hg hm (u:=.type "zip") (by rfl) (PyProof.Rows.callWith_type1 (thn (ha pos pins s σ H _ I h) fun us s1 ⟨vs,H1,I1,r1,q1⟩=>?_) (by rw[hs,hs2]) (by rw[hs2];rfl)))
 obtain⟨a1,a2,xs,ys,rfl,hq1,hq2,q⟩:=q1
 obtain⟨u,v,rfl,ru,rv⟩:=r1.two
 cases ru
 cases rv
 obtain⟨its,_,pl1⟩:=I1.sq hq1
 obtain⟨jts,_,pl2⟩:=I1.sq hq2
 refine callType_new F.called_zip (by decide) (F.typeCall_zip_2 _ _) (F.newCall_zip_2 _ _) (fun obj=>F.args_object_init_3 obj _ _) F.entry_zip_new (zce b1 b2 a1 a2 its.toArray jts.toArray) ⟨pl1,pl2,fun h' z ⟨TI,TO,i1,i2,nd,far,hz,hI,hO,h1,h2⟩ hk=>⟨⟨_,hz,rfl⟩,?_⟩⟩
 exact wpAny_pyIter_zip hz ⟨_,[z,TI,TO,i1,i2],_,_,H1,rfl,I1.kept (t':=s1.toks) hk,zgj b1 b2 a1 a2 z TI TO i1 i2 nd,⟨hz,hI,⟨_,_,hO⟩,h1,h2⟩,fun c hc=>I1.fpOk (far c hc) (I1.hok.fresh (far c hc)),q⟩
theorem zkz {K:PySem.W.Frag}{b1 b2:Bool}{a1 a2:Addr}{xs ys:List V}(hxy:ys.length≤xs.length) {g:TG}{te:TE}{l:Addr}{σ:St}{H:Hp}{Q:VK}(Pv:Nat→List V→St→Hp→Prop) (h0:Pv 0 [] σ H)
  (hl:∀ i acc σ H,Pv i acc σ H→H l=some (.lst acc)∧SqB b1 K H a1 xs∧SqB b2 K H a2 ys)
  (hs:∀ i acc σ H x y T,xs[i]?=some x→ys[i]?=some y→H T=none→Pv i acc σ H→g (.ref T) σ (upd H T (.tup [x,y])) fun σ3 H3=>te σ3 H3 fun z H5=>H5 l=some (.lst acc)∧acc.length<sizeLine∧Nx ys.length i (Pv (i+1) (acc++[z]) σ3 (upd H5 l (.lst (acc++[z])))))
  (hd:∀ acc σ H,Pv ys.length acc σ H→Q (.ref l) H):∃ W:Nat→Nat→List V→St→Hp→Prop,(∃ m,W 0 m [] σ H)∧LCW (Itq K b1 b2 a1 a2) g tYes te l Q W:=by
 refine⟨fun i m acc σ H=>m=ys.length-i∧i≤ys.length∧Pv i acc σ H,⟨ys.length,by simp,Nat.zero_le _,h0⟩,?_⟩
 rintro i m acc σ H ⟨rfl,hi,p⟩
 obtain⟨q0,q1,q2⟩:=hl i acc σ H p
 refine⟨q0,?_⟩
 by_cases hlt:i<ys.length
 ·refine .inr ⟨⟨xs,ys,_,_,q1,q2,List.getElem?_eq_getElem (by lia),List.getElem?_eq_getElem hlt⟩,fun v H2 ⟨x,y,ex,ey,T,hT,e1,e2⟩=>?_⟩
  subst e1 e2
  exact hs i acc σ H x y T (ex xs q1) (ey ys q2) hT p
 ·have e:i=ys.length:=by lia
  subst e
  by_cases eq:xs.length=ys.length
  ·exact .inl ⟨.inl ⟨xs,q1,eq⟩,hd acc σ H p⟩
  ·exact .inl ⟨.inr ⟨xs,ys,q1,q2,rfl,by lia⟩,hd acc σ H p⟩
end L2
namespace K70
open PySem L2 Own Bn
abbrev sPut:Stmt:=top 49
abbrev zeu:Stmt:=top 50
def zc9:Sp:=fun vs H Q _=>∃ c,∃ cs:List Int,vs=[.ref c]∧H c=some (.tup (cs.map V.int))∧cs.length≤16∧∀ H',Same H H'→Q (.bl (!decide (cs.Pairwise (·≥·)))) H'
section
variable {P:Program}{w:World}{K:PySem.W.Frag}{mg:Str→Option Value}{base:Heap}
theorem scPu:FnScope ["_law_net","_law_row","_law_lanes","_law_one","_law_other"] ["_law_net","_law_row"] (zad sPut):=by trivial
theorem zlk {f:Addr}{fd:FuncData}(F:Fun K "_law_put" "_law_put" sPut f fd) (G:Mgs mg):FnOk P w K mg base CX0 1 f fd ["_law_net","_law_row"] zfF:=by
 refine F.ok scPu (fun vs H Q E h=>?_) (fun cdv A outer s H vs Q E hr h=>?_)
 ·obtain⟨r,fr,er,ps,N,c,cs,rfl,_⟩:=h
  rfl
 obtain⟨r,fr,er,ps,N,c,cs,rfl,ok,na,hc,cl,k⟩:=h
 refine⟨_,(@pss_cons _ _ _ _ _ (@ps_set _ _ 2 _ _ _ _ scPu.nd rfl (.inr rfl) (@pe_callTy _ _ _ _ _ _ _ _ _ zaU (by rfl) G.list (by rfl) (@pa_cons _ _ _ _ _ (@qv _ 1 _ _ (by trivial)) pa_nil (by rfl)) (by decide) (by decide) (by rfl) (by rfl)) (by rfl) (by first|exact .inl rfl|exact .inr rfl|assumption)) (@pss_cons _ _ _ _ _ (@ps_for _ _ _ _ _ _ _ _ PassesOwn.never rfl (@za8 _ _ _ _ (@pe_ix _ _ _ _ _ _ _ ix_tup (@qv _ 0 _ _ (by trivial)) pe_int (fun _ _=>rfl))) (@zap _ _ _ _ _ _ rfl (@pgs_cons _ _ _ _ _ (@pg_name _ _ 3 _ scPu.nd rfl (.inl rfl) (by first|exact .inl rfl|exact .inr rfl|assumption)) (@pgs_cons _ _ _ _ _ (@pg_name _ _ 4 _ scPu.nd rfl (.inl rfl) (by first|exact .inl rfl|exact .inr rfl|assumption)) pgs_nil (by rfl)) (by rfl)) (by rfl) (by rfl)) (@pss_one _ _ _ (@ps_if _ _ _ _ _ _ _ _ (@pt_cmpR _ _ _ _ _ _ _ _ zdi (@pe_ix _ _ _ _ _ _ _ ix_list (@qv _ 2 _ _ (by trivial)) (@qv _ 3 _ _ (by trivial)) (fun _ _=>rfl)) (@pe_ix _ _ _ _ _ _ _ ix_list (@qv _ 2 _ _ (by trivial)) (@qv _ 4 _ _ (by trivial)) (fun _ _=>rfl)) (nomark _)) (@pss_one _ _ _ (@ps_asg _ _ _ _ _ _ (@pe_tup _ _ _ _ _ (@pa_cons _ _ _ _ _ (@pe_ix _ _ _ _ _ _ _ ix_list (@qv _ 2 _ _ (by trivial)) (@qv _ 4 _ _ (by trivial)) (fun _ _=>rfl)) (@pa_cons _ _ _ _ _ (@pe_ix _ _ _ _ _ _ _ ix_list (@qv _ 2 _ _ (by trivial)) (@qv _ 3 _ _ (by trivial)) (fun _ _=>rfl)) pa_nil (by rfl)) (by rfl))) (@zap _ _ _ _ _ _ rfl (@pgs_cons _ _ _ _ _ (@pg_sub _ _ _ _ _ _ _ (@qv _ 2 _ _ (by trivial)) (@qv _ 3 _ _ (by trivial)) set_list (by intro _;rfl)) (@pgs_cons _ _ _ _ _ (@pg_sub _ _ _ _ _ _ _ (@qv _ 2 _ _ (by trivial)) (@qv _ 4 _ _ (by trivial)) set_list (by intro _;rfl)) pgs_nil (by rfl)) (by rfl)) (by rfl) (by rfl)) (by rfl) (by rfl) (by rfl))) pss_nil)) (by intro _;rfl)) (@pss_one _ _ _ (@ps_ret _ _ _ _ (@pe_callTy _ _ _ _ _ _ _ _ _ call_tuple_of (by rfl) G.tuple (by rfl) (@pa_cons _ _ _ _ _ (@pe_lc _ _ _ _ none _ _ _ _ _ _ ["_law_lane","_law_lanes"] [none,some 2] rfl (@za8 _ _ _ _ (@pe_ix _ _ _ _ _ _ _ ix_tup (@qv _ 0 _ _ (by trivial)) pe_int (fun _ _=>rfl))) (CapOk.of (by kernel_rfl)) (fun _ _ _ _ _=>(@pg_name _ _ 0 _ (show (["_law_lane","_law_lanes"]:List Str).Nodup from by decide +kernel) rfl (.inl rfl) (.inr rfl))) (fun _ _ _ _ _=>zaE) (fun _ _ _ _ _=>(@pe_ix _ _ _ _ _ _ (rIxL K) ix_list (@qv _ 1 _ _ (by trivial)) (@qv _ 0 _ _ (by trivial)) (fun _ _=>rfl))) (by intro _;rfl)) pa_nil (by rfl)) (by decide) (by decide) (by rfl) (by rfl)))))),?_⟩
 refine⟨_,rfl,c,_,rfl,.inr (SqT.of hc),fun lo hlo=>?_⟩
 have s1:=zaa hlo (.lst (cs.map V.int))
 refine⟨_,rfl,r,_,_,_,rfl,rfl,SqT.of (s1 _ _ na.net),rfl,fr,rfl,⟨_,SqT.of (s1 _ _ na.forks)⟩,?_⟩
 refine zbV (K:=K) (a:=fr) (xs:=ps) (fun i σ H2=>(∃ v3 v4,σ=[some (.ref r),some (.ref c),some (.ref lo),v3,v4])∧Same H H2∧H2 lo=some (.lst ((cmpF (N.forks.take i) cs).map V.int)))
  ⟨⟨_,_,rfl⟩,s1,zab⟩ (fun i σ H2 _ q=>SqT.of (q.2.1 _ _ na.forks)) ?_ ?_
 ·rintro i p σ H2 hp ⟨⟨v3,v4,rfl⟩,s3,h1⟩
  obtain⟨a,g,rfl,eg,ha⟩:=(na.prs.tups (Tups.of s3)).get hp
  have okg:=ok.fk g (List.mem_of_getElem? eg)
  have fl:(cmpF (N.forks.take i) cs).length=N.lanes:=by rw[zbo,cl]
  have fx:=zd1 eg cs
  generalize cmpF (N.forks.take i) cs=st at *
  refine⟨a,_,rfl,SqT.of ha,rfl,_,_,rfl,_,_,rfl,rfl,?_⟩
  refine⟨_,rfl,_,rfl,lo,_,_,_,rfl,rfl,SqL.of h1,zaD (by lia),_,rfl,_,rfl,lo,_,_,_,rfl,rfl,SqL.of h1,zaD (by lia),_,_,rfl,rfl,_,rfl,ite2 (fun z=>?_) (fun z=>?_)⟩
  ·have z':=of_decide_eq_true z
   refine⟨_,rfl,_,rfl,lo,_,_,_,rfl,rfl,SqL.of h1,zaD (by lia),_,rfl,_,rfl,lo,_,_,_,rfl,rfl,SqL.of h1,zaD (by lia),(by show 2≤sizeLine;decide),fun t ht=>?_⟩
   have nt:lo≠t:=zac h1 ht
   have h1':upd H2 t (.tup [.int (st.getD g.2 0),.int (st.getD g.1 0)]) lo=some (.lst (st.map V.int)):=by rw[zae nt];exact h1
   refine⟨t,_,rfl,SqT.of zab,rfl,_,_,rfl,?_⟩
   refine⟨_,rfl,_,rfl,lo,_,_,g.1,rfl,rfl,h1',zb5 (by rw[List.length_map];lia),?_⟩
   refine⟨_,_,rfl,_,rfl,_,rfl,lo,_,_,g.2,rfl,rfl,zab,zb5 (by rw[List.length_set,List.length_map];lia),rfl,⟨_,_,rfl⟩,fun b o e=>?_,?_⟩
   ·rw[zae (zac e hlo),zae (zac e hlo)];exact zaa ht _ _ _ (s3 b o e)
   ·rw[zab,fx,zeZ z']
    rw[zay,zay]
  ·refine⟨⟨_,_,rfl⟩,s3,?_⟩
   rw[h1,fx,ze0 (f:=g) (fun q=>z (decide_eq_true q)) (by lia) (by lia)]
 ·rintro σ H2 ⟨⟨v3,v4,rfl⟩,s3,h1⟩
  have e:N.forks.take ps.length=N.forks:=by rw[na.prs.len];exact List.take_length
  rw[e]at h1
  refine⟨_,rfl,r,_,_,_,rfl,rfl,SqT.of (s3 _ _ na.net),rfl,er,rfl,⟨_,SqT.of (s3 _ _ na.ends)⟩,fun l hl=>?_⟩
  refine zlt (s3 _ _ na.ends) h1 hl (fun e he=>by rw[zbo,cl];exact zdp ok he) (by rw[zb8 ok];exact ok.l16) fun H4 s4 h4=>?_
  exact⟨l,_,rfl,.inl ⟨SqL.of h4,fun q hq=>k q _ ((s3.trans s4).trans (zaa hq _)) zab⟩⟩
theorem scBr:FnScope ["_law_row"] ["_law_row"] (zad zeu):=by trivial
theorem zhk {f:Addr}{fd:FuncData}(F:Fun K "_law_breaks" "_law_breaks" zeu f fd) (G:Mgs mg) (GA:MgA mg):FnOk P w K mg base CX0 1 f fd ["_law_row"] zc9:=by
 refine F.ok scBr (fun vs H Q E h=>?_) (fun cdv A outer s H vs Q E hr h=>?_)
 ·obtain⟨c,cs,rfl,_⟩:=h
  rfl
 obtain⟨c,cs,rfl,hc,c16,k⟩:=h
 refine⟨_,(@pss_one _ _ _ (@ps_ret _ _ _ _ (@pe_callB _ _ _ _ _ _ _ _ _ (zh2 rfl true) (by rfl) GA.any (by rfl) (@pa_cons _ _ _ _ _ (@pe_lc _ _ _ _ none _ _ _ (gTup K 2 (zcv (zbG 0) (zcv (zbG 1) gNil))) _ _ ["_law_one","_law_other"] [none,none] rfl (@zj4 _ _ _ _ _ _ _ _ _ false false rfl G.zip (@pa_cons _ _ _ _ _ (@qv _ 0 _ _ (by trivial)) (@pa_cons _ _ _ _ _ (@pe_slice _ _ _ _ _ _ _ _ _ _ zdc (@qv _ 0 _ _ (by trivial)) (@po_some _ _ _ pe_int) po_none) pa_nil (by rfl)) (by rfl)) (by rfl) (by rfl)) (CapOk.of (by kernel_rfl)) (fun _ _ _ _ _=>(@zap _ _ _ _ _ _ rfl (@pgs_cons _ _ _ _ _ (@pg_name _ _ 0 _ (show (["_law_one","_law_other"]:List Str).Nodup from by decide +kernel) rfl (.inl rfl) (.inr rfl)) (@pgs_cons _ _ _ _ _ (@pg_name _ _ 1 _ (show (["_law_one","_law_other"]:List Str).Nodup from by decide +kernel) rfl (.inl rfl) (.inr rfl)) pgs_nil (by rfl)) (by rfl)) (by rfl) (by rfl))) (fun _ _ _ _ _=>zaE) (fun _ _ _ _ _=>(@pe_cmpR _ _ _ _ _ _ _ _ zdi (@qv _ 0 _ _ (by trivial)) (@qv _ 1 _ _ (by trivial)) (nomark _))) (by intro _;rfl)) pa_nil (by rfl)) (by decide) (by decide) (by rfl) (by rfl)))),?_⟩
 refine⟨_,rfl,_,rfl,_,rfl,c,_,rfl,hc,fun c2 H1 s1 h1=>?_⟩
 have e1:cutV (cs.map V.int) (some 1) none=(cs.drop 1).map V.int:=by
  cases cs with
  | nil=>rfl
  | cons x cs=>exact(zcb ((x::cs).map V.int) 1 (by simp)).trans (List.map_drop).symm
 rw[e1]at h1
 refine⟨c,c2,_,_,rfl,SqT.of (s1 _ _ hc),SqT.of h1,fun l hl=>?_⟩
 have zl:(List.zipWith (fun a b:Int=>decide (a<b)) cs (cs.drop 1)).length=(cs.drop 1).length:=by rw[List.length_zipWith,List.length_drop];lia
 refine zkz (K:=K) (b1:=false) (b2:=false) (a1:=c) (a2:=c2) (xs:=cs.map V.int) (ys:=(cs.drop 1).map V.int) (by rw[List.length_map,List.length_map,List.length_drop];lia) (fun i acc σ H2=>(∃ v0 v1,σ=[v0,v1])∧Same H1 H2∧H2 l=some (.lst acc)∧acc=((List.zipWith (fun a b:Int=>decide (a<b)) cs (cs.drop 1)).take i).map V.bl) ⟨⟨_,_,rfl⟩,zaa hl _,zab,rfl⟩ (fun i acc σ H2 z=>⟨z.2.2.1,SqT.of (z.2.1 _ _ (s1 _ _ hc)),SqT.of (z.2.1 _ _ h1)⟩) ?_ ?_
 ·rintro i acc σ H2 x y T hx hy hT ⟨⟨v0,v1,rfl⟩,s2,h2,rfl⟩
  rw[List.getElem?_map]at hx hy
  cases zx:cs[i]? with
  | none=>rw[zx]at hx;cases hx
  | some a =>
   cases zy:(cs.drop 1)[i]? with
   | none=>rw[zy]at hy;cases hy
   | some b =>
    rw[zx]at hx
    rw[zy]at hy
    obtain rfl:=Option.some.inj hx
    obtain rfl:=Option.some.inj hy
    have il:=(List.getElem?_eq_some_iff.mp zy).1
    have sT:=zaa hT (.tup [.int a,.int b])
    refine⟨T,_,rfl,SqT.of zab,rfl,_,_,rfl,_,_,rfl,rfl,?_⟩
    refine⟨_,rfl,_,rfl,_,_,rfl,rfl,sT _ _ h2,?_,nx (by rw[List.length_map];exact il) ⟨⟨_,_,rfl⟩,fun b o e=>?_,zab,?_⟩⟩
    ·rw[List.length_map,List.length_take,zl,sizeLine_eq];rw[List.length_drop]at il ⊢;lia
    ·rw[zae (zac e hl)];exact sT _ _ (s2 _ _ e)
    ·have iz:i<(List.zipWith (fun a b:Int=>decide (a<b)) cs (cs.drop 1)).length:=by rw[zl];exact il
     rw[List.take_succ_eq_append_getElem iz,List.map_append]
     congr 1
     have e2:(List.zipWith (fun a b:Int=>decide (a<b)) cs (cs.drop 1))[i]?=some (decide (a<b)):=by rw[List.getElem?_zipWith,zx,zy]
     rw[(List.getElem?_eq_some_iff.mp e2).2];rfl
 ·rintro acc σ H2 ⟨_,s2,h2,rfl⟩
  rw[List.length_map,← zl,List.take_length]at h2
  refine⟨l,_,rfl,SqL.of h2,?_⟩
  rw[ze7,zcH]
  exact k H2 (s1.trans s2)
end
abbrev zil:Stmt:=top 52
def Eq2 (H:Hp):Nat→V→V→Prop
 | 0,x,y=>x=y∧zeN x=true
 | n+1,x,y=>(x=y∧zeN x=true)∨∃ a b xs ys,x=.ref a∧y=.ref b∧H a=some (.tup xs)∧H b=some (.tup ys)∧xs.length=ys.length∧xs.length≤1000∧∀ (i:Nat) (u v:V),xs[i]?=some u→ys[i]?=some v→Eq2 H n u v
theorem Eq2.same {H H':Hp}(s:Same H H'):∀ {n:Nat}{x y:V},Eq2 H n x y→Eq2 H' n x y
 | 0,_,_,h=>h
 | n+1,_,_,h=>by
  rcases h with h|⟨a,b,xs,ys,e1,e2,h1,h2,h3,h4,h5⟩
  ·exact .inl h
  ·exact .inr ⟨a,b,xs,ys,e1,e2,s _ _ h1,s _ _ h2,h3,h4,fun i u v p q=>Eq2.same s (h5 i u v p q)⟩
theorem Eq2.flat {H:Hp}{n:Nat}{x:V}(h:zeN x=true):Eq2 H n x x:=by
 cases n
 ·exact⟨rfl,h⟩
 ·exact .inl ⟨rfl,h⟩
def zdD (n:Nat):Sp:=fun vs H Q _=>∃ x y,vs=[x,y]∧Eq2 H n x y∧∀ H',Same H H'→Q (.bl true) H'
section
variable {P:Program}{w:World}{K:PySem.W.Frag}{mg:Str→Option Value}{base:Heap}
theorem scM:FnScope ["_law_found","_law_due"] ["_law_found","_law_due"] (zad zil):=by trivial
theorem nd2:(["_law_one","_law_other"]:List Str).Nodup:=by decide +kernel
theorem zfg {f:Addr}{fd:FuncData}(F:Fun K "_law_same" "_law_same" zil f fd) (G:Mgs mg) (bS:Binds K fd ["_law_found","_law_due"] []) (mS:mg "_law_same" = some (.ref f)) (n:Nat)
  (GS:FnOk P w K mg base CX0 n f fd ["_law_found","_law_due"] (fun vs H Q E=>∃ m,n=m+1∧zdD m vs H Q E)):FnOk P w K mg base CX0 (n+1) f fd ["_law_found","_law_due"] (zdD n):=by
  refine F.ok scM (fun vs H Q E h=>?_) (fun cdv A outer s H vs Q E hr h=>?_)
  ·obtain⟨x,y,rfl,_⟩:=h
   rfl
  obtain⟨x,y,rfl,he,k⟩:=h
  refine⟨_,pss_cons (ps_if (pt_val (pe_callB zat (by rfl) G.isi (by rfl) (pa_cons (pv 1) (pa_cons (zaB (v:=.ty "tuple") (u:=.type "tuple") (by rfl) G.tuple (by rfl) rfl) pa_nil))))
    (pss_cons (ps_if (zj3 (pt_not (pt_val (pe_callB zat (by rfl) G.isi (by rfl) (pa_cons (pv 0) (pa_cons (zaB (v:=.ty "tuple") (u:=.type "tuple") (by rfl) G.tuple (by rfl) rfl) pa_nil)))))
      (pw_or1 (pt_cmpR zli (pe_callB call_len_seq (by rfl) G.len PySem.boot_len (pa_cons (pv 0) pa_nil)) (pe_callB call_len_seq (by rfl) G.len PySem.boot_len (pa_cons (pv 1) pa_nil)) (nomark _)))).pt
      (pss_one (ps_ret pe_bl)) pss_nil)
     (pss_one (ps_ret (pe_callB (zd7 rfl true) (by rfl) G.all (by rfl) (pa_cons (pe_lc (o:=none) (g:=gTup K 2 (zcv (zbG 0) (zcv (zbG 1) gNil))) (N':=["_law_one","_law_other"]) (cap:=[none,none]) rfl (zlc false false rfl G.zip (pa_cons (pv 0) (pa_cons (pv 1) pa_nil)))
      (CapOk.of (by kernel_rfl))
      (fun _ _ _ _ _=>zap rfl (pgs_cons (pg_name (i:=0) nd2 rfl (.inl rfl) (.inr rfl)) (pgs_cons (pg_name (i:=1) nd2 rfl (.inl rfl) (.inr rfl)) pgs_nil)))
      (fun _ _ _ _ _=>zaE)
      (fun _ _ _ _ _=>pe_call GS hr rfl mS F.kp bS .nil pass0 (pa_cons (pv 0) (pa_cons (pv 1) pa_nil)))) pa_nil)))))
    pss_nil)
   (pss_cons (ps_if (pt_cmpR op_isN (pv 1) pe_non (by rfl)) (pss_one (ps_ret (pe_cmpR op_isN (pv 0) pe_non (by rfl)))) pss_nil)
   (pss_cons (ps_if (pt_val (pe_callB zat (by rfl) G.isi (by rfl) (pa_cons (pv 1) (pa_cons (zaB (v:=.ty "str") (u:=.type "str") (by rfl) G.str (by rfl) rfl) pa_nil))))
     (pss_one (ps_ret (pe_and (pe_callB zat (by rfl) G.isi (by rfl) (pa_cons (pv 0) (pa_cons (zaB (v:=.ty "str") (u:=.type "str") (by rfl) G.str (by rfl) rfl) pa_nil))) (pe_one (pe_cmpR op_eq (pv 0) (pv 1) (nomark _)))))) pss_nil)
   (pss_cons (ps_if (zj3 (pt_val (pe_callB zat (by rfl) G.isi (by rfl) (pa_cons (pv 1) (pa_cons (zaB (v:=.ty "bool") (u:=.type "bool") (by rfl) G.bool (by rfl) rfl) pa_nil))))
     (pw_or1 (pt_val (pe_callB zat (by rfl) G.isi (by rfl) (pa_cons (pv 0) (pa_cons (zaB (v:=.ty "bool") (u:=.type "bool") (by rfl) G.bool (by rfl) rfl) pa_nil)))))).pt
     (pss_one (ps_ret (pe_and (pe_callB zat (by rfl) G.isi (by rfl) (pa_cons (pv 0) (pa_cons (zaB (v:=.ty "bool") (u:=.type "bool") (by rfl) G.bool (by rfl) rfl) pa_nil)))
      (pe_and (pe_callB zat (by rfl) G.isi (by rfl) (pa_cons (pv 1) (pa_cons (zaB (v:=.ty "bool") (u:=.type "bool") (by rfl) G.bool (by rfl) rfl) pa_nil))) (pe_one (pe_cmpR op_eq (pv 0) (pv 1) (nomark _))))))) pss_nil)
   (pss_one (ps_ret (pe_and (pe_callB zat (by rfl) G.isi (by rfl) (pa_cons (pv 0) (pa_cons (zaB (v:=.ty "int") (u:=.type "int") (by rfl) G.int (by rfl) rfl) pa_nil))) (pe_one (pe_cmpR op_eq (pv 0) (pv 1) (nomark _))))))))),?_⟩
  have flat:(x=y∧zeN x=true)∨∃ m,n=m+1∧∃ a b xs ys,x=.ref a∧y=.ref b∧H a=some (.tup xs)∧H b=some (.tup ys)∧xs.length=ys.length∧xs.length≤1000∧∀ (i:Nat) (u v:V),xs[i]?=some u→ys[i]?=some v→Eq2 H m u v:=by
   cases n with
   | zero=>exact .inl he
   | succ m =>
    rcases he with he|he
    ·exact .inl he
    ·exact .inr ⟨m,rfl,he⟩
  rcases flat with ⟨rfl,fl⟩|⟨m,rfl,a,b,xs,ys,rfl,rfl,ha,hb,hl,h1000,hxy⟩
  ·cases x with
   | non=>exact⟨_,rfl,_,"tuple",_,false,rfl,.non,rfl,_,rfl,iteF ⟨_,rfl,rfl,_,rfl,iteT ⟨_,rfl,rfl,k H (Same.refl H)⟩⟩⟩
   | bl c =>
    refine⟨_,rfl,_,"tuple",_,false,rfl,.bl c,rfl,_,rfl,iteF ⟨_,rfl,rfl,_,rfl,iteF ⟨_,rfl,_,"str",_,false,rfl,.bl c,rfl,_,rfl,iteF ⟨_,rfl,_,"bool",_,true,rfl,.bl c,rfl,_,rfl,iteT (iteT ?_)⟩⟩⟩⟩
    refine⟨_,rfl,_,"bool",_,true,rfl,.bl c,rfl,_,rfl,iteT ⟨_,rfl,_,"bool",_,true,rfl,.bl c,rfl,_,rfl,iteT ⟨_,rfl,_,rfl,rfl,?_⟩⟩⟩
    rw[decide_eq_true rfl];exact k H (Same.refl H)
   | int i =>
    refine⟨_,rfl,_,"tuple",_,false,rfl,.int i,rfl,_,rfl,iteF ⟨_,rfl,rfl,_,rfl,iteF ⟨_,rfl,_,"str",_,false,rfl,.int i,rfl,_,rfl,iteF ⟨_,rfl,_,"bool",_,false,rfl,.int i,rfl,_,rfl,iteF ?_⟩⟩⟩⟩
    refine⟨_,rfl,_,"bool",_,false,rfl,.int i,rfl,_,rfl,iteF ⟨_,rfl,_,"int",_,true,rfl,.int i,rfl,_,rfl,iteT ⟨_,rfl,_,rfl,rfl,?_⟩⟩⟩
    rw[decide_eq_true rfl];exact k H (Same.refl H)
   | str z =>
    refine⟨_,rfl,_,"tuple",_,false,rfl,.str z,rfl,_,rfl,iteF ⟨_,rfl,rfl,_,rfl,iteF ?_⟩⟩
    refine⟨_,rfl,_,"str",_,true,rfl,.str z,rfl,_,rfl,iteT ⟨_,rfl,_,"str",_,true,rfl,.str z,rfl,_,rfl,iteT ⟨_,rfl,_,rfl,rfl,?_⟩⟩⟩
    rw[decide_eq_true rfl];exact k H (Same.refl H)
   | byt _=>cases fl
   | flt _=>cases fl
   | ref _=>cases fl
   | ty _=>cases fl
  ·refine⟨_,rfl,_,"tuple",_,true,rfl,.tup hb,rfl,_,rfl,iteT ?_⟩
   refine⟨_,rfl,_,"tuple",_,true,rfl,.tup ha,rfl,_,rfl,iteF ?_⟩
   refine⟨_,rfl,a,_,rfl,.inr (SqT.of ha),_,rfl,b,_,rfl,.inr (SqT.of hb),rfl,_,rfl,?_⟩
   refine zl2 (by rw[hl]) ?_
   refine⟨_,rfl,_,rfl,a,b,xs,ys,rfl,SqT.of ha,SqT.of hb,fun l hl0=>?_⟩
   refine zls (K:=K) (b1:=false) (b2:=false) hl (fun i acc σ H'=>acc=List.map V.bl (List.replicate i true)∧(∃ u v,σ=[u,v])∧Same H H'∧H' l=some (.lst acc)) ⟨rfl,⟨none,none,rfl⟩,zaa hl0 _,zab⟩
    (fun i acc σ H' p=>⟨p.2.2.2,SqT.of (p.2.2.1 _ _ ha),SqT.of (p.2.2.1 _ _ hb)⟩) ?_ ?_
   ·rintro i acc σ H' u v T hu hv hT ⟨rfl,⟨p,q,rfl⟩,hS,hL⟩
    have hi:i<xs.length:=(List.getElem?_eq_some_iff.mp hu).1
    have sT:Same H (upd H' T (.tup [u,v])):=hS.trans (zaa hT _)
    refine⟨T,_,rfl,SqT.of zab,rfl,_,_,rfl,_,_,rfl,rfl,?_⟩
    refine⟨_,rfl,_,rfl,m,rfl,u,v,rfl,(hxy i u v hu hv).same sT,fun H5 s5=>⟨?_,?_,nx hi ⟨?_,⟨_,_,rfl⟩,fun b o e=>?_,zab⟩⟩⟩
    ·exact s5 _ _ (by rw[zae (zac hL hT)];exact hL)
    ·rw[List.length_map,List.length_replicate];exact zgF (by lia)
    ·rw[List.replicate_succ',List.map_append];rfl
    ·rw[zae (zac e hl0)];exact s5 _ _ (sT b o e)
   ·rintro acc σ H' ⟨rfl,_,hS,hL⟩
    refine⟨l,List.replicate xs.length true,rfl,SqL.of hL,?_⟩
    have e:(List.replicate xs.length true).all id=true:=by
     rw[List.all_eq_true];intro z hz;rw[List.eq_of_mem_replicate hz];rfl
    rw[e];exact k H' hS
theorem zhd {f:Addr}{fd:FuncData}(F:Fun K "_law_same" "_law_same" zil f fd) (G:Mgs mg) (bS:Binds K fd ["_law_found","_law_due"] []) (mS:mg "_law_same" = some (.ref f)):∀ n:Nat,FnOk P w K mg base CX0 (n+1) f fd ["_law_found","_law_due"] (zdD n)
 | 0=>zfg F G bS mS 0 ⟨fun vs H Q E ⟨m,h,_⟩=>by lia,fun A outer s H args us vs Q E _ _ _ _ ⟨m,h,_⟩=>by lia⟩
 | m+1=>zfg F G bS mS (m+1) ((zhd F G bS mS m).imp fun vs H Q E ⟨m',h,q⟩=>by cases h;exact q)
end
theorem zi1 {H:Hp}{a b:Addr}{xs:List Int}(h1:H a=some (.tup (xs.map V.int))) (h2:H b=some (.tup (xs.map V.int))) (hl:xs.length≤1000):Eq2 H 1 (.ref a) (.ref b) :=
 .inr ⟨a,b,_,_,rfl,rfl,h1,h2,rfl,by rw[List.length_map];exact hl,fun i u v hu hv=>by
  rw[hu]at hv
  obtain rfl:=Option.some.inj hv
  refine⟨rfl,?_⟩
  rw[List.getElem?_map]at hu
  cases e:xs[i]? with
  | none=>rw[e]at hu;cases hu
  | some z=>rw[e]at hu;obtain rfl:=Option.some.inj hu;rfl⟩
abbrev zes:Stmt:=top 53
def zaI (n i:Nat):List Int:=(List.range n).map fun j=>((i / 2 ^ (n-1-j)%2:Nat):Int)
theorem zgX:∀ n∈([1,2,4,8]:List Nat),zai n=(List.range (2 ^ n)).map (zaI n):=by decide +kernel
def zc5:Sp:=fun vs H Q _=>∃ r fr er ps N,vs=[.ref r]∧Nt.Ok N∧N.lanes∈([1,2,4,8]:List Nat)∧NetAt H r fr er ps N∧(∀ H',Same H H'→zaK N=none→Q .non H')∧∀ a cs H',Same H H'→zaK N=some cs→H' a=some (.tup (cs.map V.int))→Q (.ref a) H'
section
variable {P:Program}{w:World}{K:PySem.W.Frag}{mg:Str→Option Value}{base:Heap}
theorem scFi:FnScope ["_law_net","_law_number","_law_row"] ["_law_net"] (zad zes):=by trivial
theorem zhh {f fP fB:Addr}{fd dP dB:FuncData}(F:Fun K "_law_first" "_law_first" zes f fd) (G:Mgs mg) (UP:Use P w K mg base "_law_put" ["_law_net","_law_row"] 1 zfF fP dP) (UB:Use P w K mg base "_law_breaks" ["_law_row"] 1 zc9 fB dB):FnOk P w K mg base CX0 2 f fd ["_law_net"] zc5:=by
 refine F.ok scFi (fun vs H Q E h=>?_) (fun cdv A outer s H vs Q E hr h=>?_)
 ·obtain⟨r,fr,er,ps,N,rfl,_⟩:=h
  rfl
 obtain⟨r,fr,er,ps,N,rfl,ok,lm,na,kn,ks⟩:=h
 refine⟨_,(@pss_cons _ _ _ _ _ (@ps_for _ _ _ _ _ _ _ _ PassesOwn.never rfl (@pi_range1 _ _ _ _ _ _ rfl G.range (@pa_cons _ _ _ _ _ (@pe_op _ _ _ _ _ _ _ _ zjm pe_int (@pe_ix _ _ _ _ _ _ _ ix_tup (@qv _ 0 _ _ (by trivial)) pe_int (fun _ _=>rfl))) pa_nil (by rfl)) (by rfl)) (@pg_name _ _ 1 _ scFi.nd rfl (.inr rfl) (by first|exact .inl rfl|exact .inr rfl|assumption)) (@pss_cons _ _ _ _ _ (@ps_set _ _ 2 _ _ _ _ scFi.nd rfl (.inl rfl) (@pe_callTy _ _ _ _ _ _ _ _ _ call_tuple_of (by rfl) G.tuple (by rfl) (@pa_cons _ _ _ _ _ (@pe_lc _ _ _ _ none _ _ _ _ _ _ ["_law_place","_law_number","_law_net"] [none,some 1,some 0] rfl (@pi_range1 _ _ _ _ _ _ rfl G.range (@pa_cons _ _ _ _ _ (@pe_ix _ _ _ _ _ _ _ ix_tup (@qv _ 0 _ _ (by trivial)) pe_int (fun _ _=>rfl)) pa_nil (by rfl)) (by rfl)) (CapOk.of (by kernel_rfl)) (fun _ _ _ _ _=>(@pg_name _ _ 0 _ (show (["_law_place","_law_number","_law_net"]:List Str).Nodup from by decide +kernel) rfl (.inl rfl) (.inr rfl))) (fun _ _ _ _ _=>zaE) (fun _ _ _ _ _=>(@pe_op _ _ _ _ _ _ _ _ op_mod (@pe_op _ _ _ _ _ _ _ _ op_fdiv (@qv _ 1 _ _ (by trivial)) (@pe_op _ _ _ _ _ _ _ _ zjm pe_int (@pe_op _ _ _ _ _ _ _ _ zhb (@pe_op _ _ _ _ _ _ _ _ zhb (@pe_ix _ _ _ _ _ _ (rIxT K) ix_tup (@qv _ 2 _ _ (by trivial)) pe_int (fun _ _=>rfl)) pe_int) (@qv _ 0 _ _ (by trivial))))) pe_int)) (by intro _;rfl)) pa_nil (by rfl)) (by decide) (by decide) (by rfl) (by rfl)) (by rfl) (by first|exact .inl rfl|exact .inr rfl|assumption)) (@pss_one _ _ _ (@ps_if _ _ _ _ _ _ _ _ (@pt_val _ _ _ (@pe_call _ _ _ _ _ _ _ _ _ _ _ _ _ _ _ _ UB.ok hr (by rfl) UB.m UB.kp UB.b .nil pass0 (@pa_cons _ _ _ _ _ (@pe_call _ _ _ _ _ _ _ _ _ _ _ _ _ _ _ _ UP.ok hr (by rfl) UP.m UP.kp UP.b .nil pass0 (@pa_cons _ _ _ _ _ (@qv _ 0 _ _ (by trivial)) (@pa_cons _ _ _ _ _ (@qv _ 2 _ _ (by trivial)) pa_nil (by rfl)) (by rfl)) (by decide) (by rfl) (by rfl)) pa_nil (by rfl)) (by decide) (by rfl) (by rfl)) (by intro _;rfl)) (@pss_one _ _ _ (@ps_ret _ _ _ _ (@qv _ 2 _ _ (by trivial)))) pss_nil))) (by intro _;rfl)) (@pss_one _ _ _ (@ps_ret _ _ _ _ pe_non))),?_⟩
 have l8:1≤N.lanes∧N.lanes≤8:=(show ∀ n∈([1,2,4,8]:List Nat),1≤n∧n≤8 from by decide) _ lm
 obtain⟨M,hM⟩:∃ M:Nat,M=2 ^ N.lanes:=⟨_,rfl⟩
 have p256:M≤256:=by rw[hM];exact(show ∀ n∈([1,2,4,8]:List Nat),2 ^ n≤256 from by decide) _ lm
 have ef:zaK N=((List.range M).map (zaI N.lanes)).find? fun r=>!zbt N r:=by
  unfold zaK
  rw[if_neg (by lia),zgX _ lm,hM]
 have e1:((1:Int)*2 ^ ((N.lanes:Nat):Int).toNat)=((M:Nat):Int):=by
  rw[hM,Int.toNat_natCast,Int.one_mul,Int.natCast_pow];rfl
 refine⟨_,rfl,r,_,0,_,rfl,rfl,SqT.of na.net,rfl,_,_,rfl,rfl,⟨by lia,by lia,by decide⟩,?_⟩
 refine⟨_,rfl,by rw[e1];lia,by rw[e1];lia,?_⟩
 rw[e1]
 refine zav (lo:=0) (n:=((M:Nat):Int).toNat) (fun i σ H2=>(∃ v1 v2,σ=[some (.ref r),v1,v2])∧Same H H2∧(((List.range M).map (zaI N.lanes)).take i).find? (fun r=>!zbt N r)=none) ⟨⟨_,_,rfl⟩,Same.refl _,rfl⟩ ?_ ?_
 ·rintro i σ H2 hi ⟨⟨v1,v2,rfl⟩,s2,nf⟩
  have il:i<M:=by lia
  have na2:=na.tups (Tups.of s2)
  have et:((List.range M).map (zaI N.lanes)).take (i+1)=((List.range M).map (zaI N.lanes)).take i++[zaI N.lanes i]:=by
   rw[List.take_succ_eq_append_getElem (by rw[List.length_map,List.length_range];exact il),List.getElem_map,List.getElem_range]
  rw[show (0:Int)+(i:Nat)=(i:Nat) from Int.zero_add _]
  refine⟨_,rfl,r,_,0,_,rfl,rfl,SqT.of na2.net,rfl,N.lanes,rfl,by lia,by lia,fun lc hlc=>?_⟩
  refine zdn (lo:=0) (n:=((N.lanes:Nat):Int).toNat) (fun z acc σ H3=>(∃ v0,σ=[v0,some (.int (i:Nat)),some (.ref r)])∧Same H2 H3∧H3 lc=some (.lst acc)∧acc=((zaI N.lanes i).take z).map V.int) ⟨⟨_,rfl⟩,zaa hlc _,zab,by rw[List.take_zero];rfl⟩ (fun z acc σ H3 w=>w.2.2.1) ?_ ?_
  ·rintro z acc σ H3 hz ⟨⟨v0,rfl⟩,s3,h3,ea⟩
   have zl:z<N.lanes:=by lia
   have bl:(zaI N.lanes i).length=N.lanes:=by unfold zaI;rw[List.length_map,List.length_range]
   have na3:=na2.tups (Tups.of s3)
   have e2:((N.lanes:Nat):Int)-1-(0+(z:Nat))=((N.lanes-1-z:Nat):Int):=by lia
   have e3:((1:Int)*2 ^ ((N.lanes-1-z:Nat):Int).toNat)=((2 ^ (N.lanes-1-z):Nat):Int):=by
    rw[Int.toNat_natCast,Int.one_mul,Int.natCast_pow];rfl
   have p0:0<2 ^ (N.lanes-1-z):=Nat.pow_pos (by decide)
   refine⟨_,rfl,_,rfl,r,_,0,_,rfl,rfl,SqT.of na3.net,rfl,_,_,rfl,rfl,_,rfl,_,_,rfl,rfl,_,_,rfl,rfl,⟨by rw[e2];lia,by rw[e2];lia,by decide⟩,_,_,rfl,rfl,?_,_,_,rfl,rfl,(by show (0:Int)<2;decide),?_⟩
   ·rw[e2,e3]
    exact⟨by lia,by have:2 ^ (N.lanes-1-z)≤2 ^ 7:=Nat.pow_le_pow_right (by decide) (by lia);lia⟩
   have ey:(((i:Nat):Int) / (1*2 ^ (((N.lanes:Nat):Int)-1-(0+(z:Nat))).toNat))%2=((i / 2 ^ (N.lanes-1-z)%2:Nat):Int):=by
    rw[e2,e3,Int.natCast_emod,Int.natCast_ediv];rfl
   have zb:(zaI N.lanes i)[z]?=some ((i / 2 ^ (N.lanes-1-z)%2:Nat):Int):=by
    unfold zaI
    rw[List.getElem?_map,List.getElem?_range zl];rfl
   dsimp only
   rw[ey]
   refine⟨h3,by rw[ea,List.length_map,List.length_take,sizeLine_eq];lia,nx hz ⟨⟨_,rfl⟩,fun b o e=>?_,zab,?_⟩⟩
   ·rw[zae (zac e hlc)];exact s3 _ _ e
   ·obtain⟨h,e⟩:=List.getElem?_eq_some_iff.mp zb
    rw[ea,List.take_succ_eq_append_getElem h,List.map_append,e];rfl
  ·rintro acc σ H3 ⟨⟨v0,rfl⟩,s3,h3,ea⟩
   have bl:(zaI N.lanes i).length=N.lanes:=by unfold zaI;rw[List.length_map,List.length_range]
   rw[Int.toNat_natCast,List.take_of_length_le (by lia)]at ea
   subst ea
   refine⟨lc,_,rfl,.inl ⟨SqL.of h3,fun tc htc=>?_⟩⟩
   have s4:=zaa htc (.tup ((zaI N.lanes i).map V.int))
   have a4:=atNew htc (.tup ((zaI N.lanes i).map V.int))
   generalize L2.upd H3 tc _=H4 at s4 a4 ⊢
   have u4:=(s2.trans s3).trans s4
   refine⟨_,rfl,_,rfl,r,fr,er,ps,N,tc,zaI N.lanes i,rfl,ok,na.tups (Tups.of u4),a4,bl,fun c2 H5 s5 h5=>?_⟩
   refine⟨c2,_,rfl,h5,by rw[zfx ok bl];exact ok.l16,fun H6 s6=>⟨_,rfl,?_⟩⟩
   have u6:=(u4.trans s5).trans s6
   cases e:zbt N (zaI N.lanes i) with
   | true =>
    have:decide ((cmpM N (zaI N.lanes i)).Pairwise (·≥·))=true:=e
    rw[this]
    refine iteF ⟨⟨_,_,rfl⟩,u6,?_⟩
    rw[et,List.find?_append,nf]
    simp[e]
   | false =>
    have:decide ((cmpM N (zaI N.lanes i)).Pairwise (·≥·))=false:=e
    rw[this]
    refine iteT ⟨_,rfl,ks tc _ H6 u6 ?_ (s6 _ _ (s5 _ _ a4))⟩
    have e2:(((List.range M).map (zaI N.lanes)).take (i+1)).find? (fun r=>!zbt N r)=some (zaI N.lanes i):=by
     rw[et,List.find?_append,nf]
     simp[e]
    rw[ef,← List.take_append_drop (i+1) ((List.range M).map (zaI N.lanes)),List.find?_append,e2];rfl
 ·rintro σ H2 ⟨⟨v1,v2,rfl⟩,s2,nf⟩
  rw[Int.toNat_natCast]at nf
  have e:((List.range M).map (zaI N.lanes)).take M=(List.range M).map (zaI N.lanes):=List.take_of_length_le (by rw[List.length_map,List.length_range];exact Nat.le_refl _)
  rw[e]at nf
  exact kn H2 s2 (ef.trans nf)
end
abbrev sBy:Stmt:=top 41
def spBy:Sp:=fun vs H Q _=>∃ p1 p2 xs ys,vs=[.ref p1,.ref p2]∧H p1=some (.lst xs)∧H p2=some (.lst ys)∧xs.length=ys.length∧xs.length≤1000∧∀ l H',Same H H'→H' l=some (.lst (zaJ xs ys))→Q (.ref l) H'
theorem zfz {α:Type}(xs ys:List α) (i:Nat) (x y:α) (hx:xs[i]?=some x) (hy:ys[i]?=some y):zaJ (xs.take (i+1)) (ys.take (i+1))=zaJ (xs.take i) (ys.take i)++[x,y]:=by
 obtain⟨ix,ex⟩:=List.getElem?_eq_some_iff.mp hx
 obtain⟨iy,ey⟩:=List.getElem?_eq_some_iff.mp hy
 rw[List.take_succ_eq_append_getElem ix,List.take_succ_eq_append_getElem iy,ex,ey]
 unfold zaJ
 rw[List.zip_append (by rw[List.length_take,List.length_take];lia),List.flatMap_append]
 rfl
section
variable {P:Program}{w:World}{K:PySem.W.Frag}{mg:Str→Option Value}{base:Heap}
theorem scBt:FnScope ["one","other"] ["one","other"] (zad sBy):=by trivial
theorem zlW {f:Addr}{fd:FuncData}(F:Fun K "by_turns" "by_turns" sBy f fd) (G:Mgs mg):FnOk P w K mg base CX0 1 f fd ["one","other"] spBy:=by
 refine F.ok scBt (fun vs H Q E h=>?_) (fun cdv A outer s H vs Q E hr h=>?_)
 ·obtain⟨p1,p2,xs,ys,rfl,_⟩:=h
  rfl
 obtain⟨p1,p2,xs,ys,rfl,h1,h2,hxy,hz,k⟩:=h
 refine⟨_,(@pss_one _ _ _ (@ps_ret _ _ _ _ (@zjl _ _ _ _ _ _ none _ _ _ (iTup K (tVar 0)) _ _ _ _ ["pair","thing"] [none,none] rfl (@zj5 _ _ _ _ _ _ _ _ true true rfl G.zip (@pa_cons _ _ _ _ _ (@qv _ 0 _ _ (by trivial)) (@pa_cons _ _ _ _ _ (@qv _ 1 _ _ (by trivial)) pa_nil (by rfl)) (by rfl)) (by rfl) (by rfl)) (CapOk.of (by kernel_rfl)) (fun _ _ _ _ _=>(@pg_name _ _ 0 _ (show (["pair","thing"]:List Str).Nodup from by decide +kernel) rfl (.inl rfl) (.inr rfl))) (fun _ _ _ _ _=>(@za8 _ _ _ _ (@qv _ 0 _ _ (by trivial)))) (fun _ _ _ _ _=>(@pg_name _ _ 1 _ (show (["pair","thing"]:List Str).Nodup from by decide +kernel) rfl (.inl rfl) (.inr rfl))) (fun _ _ _ _ _=>zaE) (fun _ _ _ _ _=>(@qv _ 1 _ _ (by trivial))) (by intro _;rfl) (by intro _ _;rfl)))),?_⟩
 refine⟨_,rfl,_,rfl,p1,p2,xs,ys,rfl,SqL.of h1,SqL.of h2,fun l hl=>?_⟩
 refine zkC hxy (fun i acc σ H2=>(∃ v0 v1,σ=[v0,v1])∧Same H H2∧H2 l=some (.lst acc)∧acc=zaJ (xs.take i) (ys.take i)) ⟨⟨_,_,rfl⟩,zaa hl _,zab,rfl⟩ (fun i acc σ H2 z=>⟨z.2.2.1,SqL.of (z.2.1 _ _ h1),SqL.of (z.2.1 _ _ h2)⟩) ?_ ?_
 ·rintro i acc σ H2 x y T hx hy hT ⟨⟨v0,v1,rfl⟩,s2,hl2,e2⟩
  have ix:=(List.getElem?_eq_some_iff.mp hx).1
  have al:acc.length≤2000:=by
   rw[e2,zbL _ _ (by rw[List.length_take,List.length_take,hxy]),List.length_take];lia
  refine⟨_,rfl,T,rfl,⟨_,.inl (.inl (atNew hT _))⟩,?_⟩
  have lT:l≠T:=zac hl2 hT
  refine zhA (zs:=[x,y]) (fun j ac τ G=>(∃ v1,τ=[some (.ref T),v1])∧Same H G∧G T=some (.tup [x,y])∧G l=some (.lst ac)∧ac=acc++[x,y].take j) ⟨⟨_,rfl⟩,s2.trans (zaa hT _),atNew hT _,zaa hT _ _ _ hl2,(List.append_nil _).symm⟩ (fun j ac τ G z=>⟨z.2.2.2.1,.inl (.inl z.2.2.1)⟩) ?_ ?_
  ·rintro j u ac τ G hu ⟨⟨v1,rfl⟩,s3,hT3,hl3,e3⟩
   have jl:=(List.getElem?_eq_some_iff.mp hu).1
   refine⟨_,rfl,hl3,?_,nx jl ⟨⟨_,rfl⟩,fun c o e=>?_,?_,zab,?_⟩⟩
   ·rw[e3,List.length_append,List.length_take,sizeLine_eq]
    simp only[List.length_cons,List.length_nil]at jl ⊢
    lia
   ·rw[zae (zac e hl)];exact s3 c o e
   ·rw[zae (Ne.symm lT)];exact hT3
   ·obtain⟨_,eu⟩:=List.getElem?_eq_some_iff.mp hu
    rw[e3,List.append_assoc,List.take_succ_eq_append_getElem jl,eu]
  ·rintro ac τ G ⟨⟨v1,rfl⟩,s3,hT3,hl3,e3⟩
   refine nx ix ⟨⟨_,_,rfl⟩,s3,hl3,?_⟩
   rw[e3,e2,zfz xs ys i x y hx hy];rfl
 ·rintro acc σ H2 ⟨_,s2,hl2,e2⟩
  refine k l H2 s2 ?_
  rw[hl2,e2,List.take_length,hxy,List.take_length]
end
end K70
namespace L2
open PySem PySem.Spec PyProof.Rows Own
theorem FnOk.any {P:Program}{w:World}{K:PySem.W.Frag}{mg:Str→Option Value}{base:Heap}{CX:CXT}{k:Nat}{f:Addr}{fd:FuncData}{ps:List Str}{sp:Nat→Sp}(M:Nat) (F:∀ m,m≤M→FnOk P w K mg base CX k f fd ps (sp m)) :
  FnOk P w K mg base CX k f fd ps (fun vs H Q E=>∃ m,m≤M∧sp m vs H Q E) :=
 ⟨fun vs H Q E ⟨m,hm,q⟩=>(F m hm).len vs H Q E q,fun A outer s H args us vs Q E hr he hb hv ⟨m,hm,q⟩=>(F m hm).run A outer s H args us vs Q E hr he hb hv q⟩
end L2
namespace Bn
open PySem L2 Own
def za9:Nat→List Nat→List Nat→List Fk × List Nat
 | 0,a,b=>(a.zip b,a++b)
 | m+1,a,b=>((za9 m (by2 0 a) (by2 1 b)).1++(za9 m (by2 1 a) (by2 0 b)).1++(za9 m (by2 0 a) (by2 1 b)).2.zip (za9 m (by2 1 a) (by2 0 b)).2,zaJ (za9 m (by2 0 a) (by2 1 b)).2 (za9 m (by2 1 a) (by2 0 b)).2)
def zaQ:Nat→List Nat→List Fk × List Nat
 | 0,row=>([],row)
 | m+1,row=>((zaQ m (row.take (row.length / 2))).1++(zaQ m (row.drop (row.length / 2))).1++(za9 m (zaQ m (row.take (row.length / 2))).2 (zaQ m (row.drop (row.length / 2))).2).1,(za9 m (zaQ m (row.take (row.length / 2))).2 (zaQ m (row.drop (row.length / 2))).2).2)
theorem zeW {m n:Nat}(h:n=2 ^ (m+1)):n / 2=2 ^ m∧n-n / 2=2 ^ m∧n / 2≤n:=by
 rw[Nat.pow_succ]at h;lia
theorem zfo {m:Nat}{row:List Nat}(h:row.length=2 ^ (m+1)):(row.take (row.length / 2)).length=2 ^ m∧(row.drop (row.length / 2)).length=2 ^ m:=by
 obtain⟨a,b,c⟩:=zeW h
 rw[List.length_take,List.length_drop]
 exact⟨by rw[Nat.min_eq_left c];exact a,b⟩
theorem zcd {α:Type}{m:Nat}{a:List α}(h:a.length=2 ^ (m+1)):(by2 0 a).length=2 ^ m∧(by2 1 a).length=2 ^ m:=by
 rw[zeR 0 (by decide),zeR 1 (by decide),h,Nat.pow_succ]
 lia
theorem za0:∀ (m:Nat) (a b:List Nat),a.length=2 ^ m→b.length=2 ^ m→(za9 m a b).2.length=2 ^ (m+1)∧(za9 m a b).1.length=(m+1)*2 ^ m
 | 0,a,b,ha,hb=>by
  show (a++b).length=_∧(a.zip b).length=_
  rw[List.length_append,List.length_zip,ha,hb];exact⟨rfl,rfl⟩
 | m+1,a,b,ha,hb=>by
  obtain⟨a0,a1⟩:=zcd ha
  obtain⟨b0,b1⟩:=zcd hb
  obtain⟨x1,x2⟩:=za0 m _ _ a0 b1
  obtain⟨y1,y2⟩:=za0 m _ _ a1 b0
  show (zaJ _ _).length=_∧(_++_++List.zip _ _).length=_
  rw[zbL _ _ (x1.trans y1.symm),List.length_append,List.length_append,List.length_zip,x1,y1,x2,y2,Nat.min_self]
  have e:(m+1)*2 ^ m+(m+1)*2 ^ m=(m+1)*2 ^ (m+1):=by rw[← Nat.two_mul,Nat.pow_succ,Nat.mul_left_comm,Nat.mul_comm 2 (2 ^ m)]
  refine⟨by rw[Nat.pow_succ 2 (m+1),Nat.mul_comm],?_⟩
  rw[e,← Nat.succ_mul]
def zcF:Nat→Nat
 | 0=>0
 | m+1=>zcF m+zcF m+(m+1)*2 ^ m
theorem zbY:∀ m,m≤10→zcF m≤100000∧(m+1)*2 ^ m≤20000:=by decide +kernel
theorem zbx:∀ (m:Nat) (row:List Nat),row.length=2 ^ m→(zaQ m row).2.length=2 ^ m∧(zaQ m row).1.length=zcF m
 | 0,row,h=>⟨h,rfl⟩
 | m+1,row,h=>by
  obtain⟨a,b⟩:=zfo h
  obtain⟨x1,x2⟩:=zbx m _ a
  obtain⟨y1,y2⟩:=zbx m _ b
  obtain⟨z1,z2⟩:=za0 m _ _ x1 y1
  refine⟨z1,?_⟩
  show (List.append (List.append _ _) _).length=zcF m+zcF m+(m+1)*2 ^ m
  rw[List.append_eq,List.append_eq,List.length_append,List.length_append,z2,x2,y2]
def za6 (k:Nat):Nt:=⟨2 ^ k,(zaQ k (List.range (2 ^ k))).1,(zaQ k (List.range (2 ^ k))).2⟩
theorem zgv:∀ k,k<5→(za6 k).forks.length≤128∧(∀ f∈(za6 k).forks,f.1<2 ^ k∧f.2<2 ^ k∧f.1≠f.2)∧(za6 k).ends.Perm (List.range (2 ^ k)):=by decide +kernel
theorem zdT {k:Nat}(h:k<5):1≤2 ^ k∧2 ^ k≤16:=⟨Nat.one_le_two_pow,Nat.pow_le_pow_right (show 0<2 by decide) (show k≤4 by lia)⟩
theorem zcZ {k:Nat}(h:k<5):(za6 k).Ok:=let ⟨a,b,c⟩:=zgv k h;⟨(zdT h).1,(zdT h).2,a,b,c⟩
end Bn
namespace K70
open PySem L2 Own Bn
abbrev zbB:Stmt:=top 38
def zbb (m:Nat):Sp:=fun vs H Q _=>∃ p1 p2 a b,vs=[.ref p1,.ref p2]∧H p1=some (.lst (nums a))∧H p2=some (.lst (nums b))∧a.length=2 ^ m∧b.length=2 ^ m∧m≤8∧∀ c lf le ps H',Same H H'→H' c=some (.tup [.ref lf,.ref le])→H' lf=some (.lst ps)→Prs H' ps (za9 m a b).1→H' le=some (.lst (nums (za9 m a b).2))→Q (.ref c) H'
theorem zlp (row:List Nat) (i:Nat) (h:i≤row.length):cutV (nums row) none (some (i:Int))=nums (row.take i):=by
 rw[zca _ _ (by rw[zag];exact h)]
 unfold nums
 rw[List.map_take]
theorem zlq (row:List Nat) (i:Nat) (h:i≤row.length):cutV (nums row) (some (i:Int)) none=nums (row.drop i):=by
 rw[zcb _ _ (by rw[zag];exact h)]
 unfold nums
 rw[List.map_drop]
theorem zkt (a b:List Nat):zaJ (nums a) (nums b)=nums (zaJ a b):=by unfold nums;exact zfA _ a b
theorem ziO (off:Nat) (a:List Nat):by2 off (nums a)=nums (by2 off a):=by unfold nums;exact zkQ _ off a
theorem zlZ (a b:List Nat):nums a++nums b=nums (a++b):=by unfold nums;exact(List.map_append ..).symm
section
variable {P:Program}{w:World}{K:PySem.W.Frag}{mg:Str→Option Value}{base:Heap}
theorem scMo:FnScope ["one","other","first_forks","first_ends","second_forks","second_ends","last_forks"] ["one","other"] (zad zbB):=by trivial
theorem zcp {f fB:Addr}{fd dB:FuncData}(F:Fun K "merger_of" "merger_of" zbB f fd) (G:Mgs mg) (UB:Use P w K mg base "by_turns" ["one","other"] 1 spBy fB dB) (bS:Binds K fd ["one","other"] []) (mS:mg "merger_of" = some (.ref f)) (n:Nat)
  (GS:FnOk P w K mg base CX0 (n+1) f fd ["one","other"] (fun vs H Q E=>∃ m,n=m+1∧zbb m vs H Q E)):FnOk P w K mg base CX0 (n+2) f fd ["one","other"] (zbb n):=by
 have UT:Use P w K mg base "merger_of" ["one","other"] (n+1) (fun vs H Q E=>∃ m,n=m+1∧zbb m vs H Q E) f fd:=⟨GS,bS,F.kp,mS⟩
 refine F.ok scMo (fun vs H Q E h=>?_) (fun cdv A outer s H vs Q E hr h=>?_)
 ·obtain⟨p1,p2,a,b,rfl,_⟩:=h
  rfl
 obtain⟨p1,p2,a,b,rfl,h1,h2,al,bl,n20,k⟩:=h
 have hr1:Room 1 _:=hr.mono (by lia)
 refine⟨_,(@pss_cons _ _ _ _ _ (@ps_if _ _ _ _ _ _ _ _ (@pt_cmpR _ _ _ _ _ _ _ _ zdi (@pe_callB _ _ _ _ _ _ _ _ _ call_len_seq (by rfl) G.len PySem.boot_len (@pa_cons _ _ _ _ _ (@qv _ 0 _ _ (by trivial)) pa_nil (by rfl)) (by decide) (by decide) (by rfl) (by rfl)) pe_int (nomark _)) (@pss_one _ _ _ (@ps_ret _ _ _ _ (@pe_tup _ _ _ _ _ (@pa_cons _ _ _ _ _ (@zck _ _ _ _ _ _ _ _ true true (by rfl) G.list (by rfl) G.zip rfl (@pa_cons _ _ _ _ _ (@qv _ 0 _ _ (by trivial)) (@pa_cons _ _ _ _ _ (@qv _ 1 _ _ (by trivial)) pa_nil (by rfl)) (by rfl)) (by rfl) (by rfl) (by rfl)) (@pa_cons _ _ _ _ _ (@pe_op _ _ _ _ _ _ _ _ zcn (@qv _ 0 _ _ (by trivial)) (@qv _ 1 _ _ (by trivial))) pa_nil (by rfl)) (by rfl))))) pss_nil) (@pss_cons _ _ _ _ _ (@ps_asg _ _ _ _ _ _ (@pe_call _ _ _ _ _ _ _ _ _ _ _ _ _ _ _ _ UT.ok hr (by rfl) UT.m UT.kp UT.b .nil pass0 (@pa_cons _ _ _ _ _ (@zfd _ _ _ _ _ _ _ _ _ (@qv _ 0 _ _ (by trivial)) po_none (@po_some _ _ _ pe_int)) (@pa_cons _ _ _ _ _ (@zfd _ _ _ _ _ _ _ _ _ (@qv _ 1 _ _ (by trivial)) (@po_some _ _ _ pe_int) (@po_some _ _ _ pe_int)) pa_nil (by rfl)) (by rfl)) (by decide) (by rfl) (by rfl)) (@zap _ _ _ _ _ _ rfl (@pgs_cons _ _ _ _ _ (@pg_name _ _ 2 _ scMo.nd rfl (.inl rfl) (by first|exact .inl rfl|exact .inr rfl|assumption)) (@pgs_cons _ _ _ _ _ (@pg_name _ _ 3 _ scMo.nd rfl (.inl rfl) (by first|exact .inl rfl|exact .inr rfl|assumption)) pgs_nil (by rfl)) (by rfl)) (by rfl) (by rfl)) (by rfl) (by rfl) (by rfl)) (@pss_cons _ _ _ _ _ (@ps_asg _ _ _ _ _ _ (@pe_call _ _ _ _ _ _ _ _ _ _ _ _ _ _ _ _ UT.ok hr (by rfl) UT.m UT.kp UT.b .nil pass0 (@pa_cons _ _ _ _ _ (@zfd _ _ _ _ _ _ _ _ _ (@qv _ 0 _ _ (by trivial)) (@po_some _ _ _ pe_int) (@po_some _ _ _ pe_int)) (@pa_cons _ _ _ _ _ (@zfd _ _ _ _ _ _ _ _ _ (@qv _ 1 _ _ (by trivial)) po_none (@po_some _ _ _ pe_int)) pa_nil (by rfl)) (by rfl)) (by decide) (by rfl) (by rfl)) (@zap _ _ _ _ _ _ rfl (@pgs_cons _ _ _ _ _ (@pg_name _ _ 4 _ scMo.nd rfl (.inl rfl) (by first|exact .inl rfl|exact .inr rfl|assumption)) (@pgs_cons _ _ _ _ _ (@pg_name _ _ 5 _ scMo.nd rfl (.inl rfl) (by first|exact .inl rfl|exact .inr rfl|assumption)) pgs_nil (by rfl)) (by rfl)) (by rfl) (by rfl)) (by rfl) (by rfl) (by rfl)) (@pss_cons _ _ _ _ _ (@ps_set _ _ 6 _ _ _ _ scMo.nd rfl (.inl rfl) (@zck _ _ _ _ _ _ _ _ true true (by rfl) G.list (by rfl) G.zip rfl (@pa_cons _ _ _ _ _ (@qv _ 3 _ _ (by trivial)) (@pa_cons _ _ _ _ _ (@qv _ 5 _ _ (by trivial)) pa_nil (by rfl)) (by rfl)) (by rfl) (by rfl) (by rfl)) (by rfl) (by first|exact .inl rfl|exact .inr rfl|assumption)) (@pss_one _ _ _ (@ps_ret _ _ _ _ (@pe_tup _ _ _ _ _ (@pa_cons _ _ _ _ _ (@pe_op _ _ _ _ _ _ _ _ zcn (@pe_op _ _ _ _ _ _ _ _ zcn (@qv _ 2 _ _ (by trivial)) (@qv _ 4 _ _ (by trivial))) (@qv _ 6 _ _ (by trivial))) (@pa_cons _ _ _ _ _ (@pe_call _ _ _ _ _ _ _ _ _ _ _ _ _ _ _ _ UB.ok hr1 (by rfl) UB.m UB.kp UB.b .nil pass0 (@pa_cons _ _ _ _ _ (@qv _ 3 _ _ (by trivial)) (@pa_cons _ _ _ _ _ (@qv _ 5 _ _ (by trivial)) pa_nil (by rfl)) (by rfl)) (by decide) (by rfl) (by rfl)) pa_nil (by rfl)) (by rfl))))))))),?_⟩
 have na:=zag a
 have nb:=zag b
 have p8:2 ^ n≤2 ^ 8:=Nat.pow_le_pow_right (by decide) n20
 have e8:2 ^ 8=256:=rfl
 refine⟨_,rfl,p1,_,rfl,.inl (SqL.of h1),_,_,rfl,rfl,_,rfl,?_⟩
 cases n with
 | zero =>
  have al1:a.length=1:=al
  have bl1:b.length=1:=bl
  rw[decide_eq_true (show (((nums a).length:Nat):Int)<2 by lia)]
  refine iteT ⟨_,rfl,_,rfl,p1,p2,_,_,rfl,SqL.of h1,SqL.of h2,by lia,by lia,fun lz ts H2 s3 n1 n2 z=>?_⟩
  have pz:=zew z (by lia)
  have s4:=zaa n2 (.lst ts)
  have u4:=s3.trans s4
  refine⟨_,rfl,_,rfl,p1,p2,_,_,rfl,rfl,u4 _ _ h1,u4 _ _ h2,by rw[sizeLine_eq];lia,fun l5 hl5=>⟨(by show 2≤sizeLine;decide),fun c hc=>?_⟩⟩
  have s5:=zaa hl5 (.lst (nums a++nums b))
  have s6:=zaa hc (.tup [.ref lz,.ref l5])
  refine k c lz l5 ts _ ((u4.trans s5).trans s6) (atNew hc _) (s6 _ _ (s5 _ _ (atNew n2 _))) (((pz.tups (Tups.of s4)).tups (Tups.of s5)).tups (Tups.of s6)) ?_
  rw[s6 _ _ (atNew hl5 _),zlZ];rfl
 | succ m =>
  obtain⟨a0,a1⟩:=zcd al
  obtain⟨b0,b1⟩:=zcd bl
  have pw:2 ^ (m+1)=2 ^ m*2:=Nat.pow_succ ..
  have p0:=Nat.one_le_two_pow (n:=m)
  rw[decide_eq_false (show ¬(((nums a).length:Nat):Int)<2 by lia)]
  refine iteF ⟨_,rfl,2,rfl,rfl,0,p1,_,.inl ⟨rfl,rfl⟩,rfl,SqL.of h1,fun q1 hq1=>?_⟩
  rw[ziO]
  have s1:=zaa hq1 (.lst (nums (by2 0 a)))
  refine⟨_,rfl,1,rfl,2,rfl,rfl,1,p2,_,.inr ⟨rfl,rfl⟩,rfl,SqL.of (s1 _ _ h2),fun q2 hq2=>?_⟩
  rw[ziO]
  have s2:=zaa hq2 (.lst (nums (by2 1 b)))
  refine⟨m,rfl,q1,q2,by2 0 a,by2 1 b,rfl,s2 _ _ (atNew hq1 _),atNew hq2 _,a0,b1,by lia,fun c3 lf3 le3 ps3 H3 s3 hc3 hf3 pr3 he3=>?_⟩
  have u3:=(s1.trans s2).trans s3
  refine⟨c3,_,rfl,SqT.of hc3,rfl,_,_,rfl,_,_,rfl,rfl,?_⟩
  refine⟨_,rfl,1,rfl,2,rfl,rfl,1,p1,_,.inr ⟨rfl,rfl⟩,rfl,SqL.of (u3 _ _ h1),fun q4 hq4=>?_⟩
  rw[ziO]
  have s4:=zaa hq4 (.lst (nums (by2 1 a)))
  refine⟨_,rfl,2,rfl,rfl,0,p2,_,.inl ⟨rfl,rfl⟩,rfl,SqL.of (s4 _ _ (u3 _ _ h2)),fun q5 hq5=>?_⟩
  rw[ziO]
  have s5:=zaa hq5 (.lst (nums (by2 0 b)))
  refine⟨m,rfl,q4,q5,by2 1 a,by2 0 b,rfl,s5 _ _ (atNew hq4 _),atNew hq5 _,a1,b0,by lia,fun c6 lf6 le6 ps6 H6 s6 hc6 hf6 pr6 he6=>?_⟩
  have u6:=(s4.trans s5).trans s6
  refine⟨c6,_,rfl,SqT.of hc6,rfl,_,_,rfl,_,_,rfl,rfl,?_⟩
  obtain⟨xl,xf⟩:=za0 m _ _ a0 b1
  obtain⟨yl,yf⟩:=za0 m _ _ a1 b0
  have bd:=(zbY m (by lia)).2
  have pl3:=pr3.len
  have pl6:=pr6.len
  refine⟨_,rfl,_,rfl,le3,le6,_,_,rfl,SqL.of (u6 _ _ he3),SqL.of he6,by rw[zag,zag,xl,yl];exact Nat.le_refl _,by rw[zag,xl];lia,fun lz ts H7 s7 n1 n2 z=>?_⟩
  have pz:=zew z (by rw[xl,yl];exact Nat.le_refl _)
  have s8:=zaa n2 (.lst ts)
  have u8:=s7.trans s8
  have tl:=pz.len
  rw[List.length_zip,xl,yl,Nat.min_self]at tl
  refine⟨_,rfl,_,rfl,lf3,lf6,_,_,rfl,rfl,u8 _ _ (u6 _ _ hf3),u8 _ _ hf6,by rw[sizeLine_eq];lia,fun l9 hl9=>?_⟩
  have s9:=zaa hl9 (.lst (ps3++ps6))
  refine⟨_,rfl,l9,lz,_,_,rfl,rfl,atNew hl9 _,s9 _ _ (atNew n2 _),by rw[sizeLine_eq,List.length_append];lia,fun l10 hl10=>?_⟩
  have s10:=zaa hl10 (.lst ((ps3++ps6)++ts))
  have u10:=(u8.trans s9).trans s10
  refine⟨_,rfl,_,rfl,le3,le6,_,_,rfl,u10 _ _ (u6 _ _ he3),u10 _ _ he6,by rw[zag,zag,xl,yl],by rw[zag,xl];lia,fun l11 H11 s11 h11=>?_⟩
  rw[zkt]at h11
  refine⟨(by show 2≤sizeLine;decide),fun c hc=>?_⟩
  have s12:=zaa hc (.tup [.ref l10,.ref l11])
  refine k c l10 l11 _ _ ((u3.trans u6).trans ((u10.trans s11).trans s12)) (atNew hc _) (s12 _ _ (s11 _ _ (atNew hl10 _))) ?_ (s12 _ _ h11)
  refine Prs.tups (Tups.of ((s9.trans s10).trans (s11.trans s12))) ?_
  exact Prs.app (Prs.app ((pr3.tups (Tups.of u6)).tups (Tups.of u8)) (pr6.tups (Tups.of u8))) (pz.tups (Tups.of s8))
theorem zcL {f fB:Addr}{fd dB:FuncData}(F:Fun K "merger_of" "merger_of" zbB f fd) (G:Mgs mg) (UB:Use P w K mg base "by_turns" ["one","other"] 1 spBy fB dB) (bS:Binds K fd ["one","other"] []) (mS:mg "merger_of" = some (.ref f)):∀ n:Nat,FnOk P w K mg base CX0 (n+2) f fd ["one","other"] (zbb n)
 | 0=>zcp F G UB bS mS 0 ⟨fun vs H Q E ⟨m,h,_⟩=>by lia,fun A outer s H args us vs Q E _ _ _ _ ⟨m,h,_⟩=>by lia⟩
 | m+1=>zcp F G UB bS mS (m+1) ((zcL F G UB bS mS m).imp fun vs H Q E ⟨m',h,q⟩=>by cases h;exact q)
abbrev zaY:Sp:=fun vs H Q E=>∃ m,m≤4∧zbb m vs H Q E
theorem zeA {f fB:Addr}{fd dB:FuncData}(F:Fun K "merger_of" "merger_of" zbB f fd) (G:Mgs mg) (UB:Use P w K mg base "by_turns" ["one","other"] 1 spBy fB dB) (bS:Binds K fd ["one","other"] []) (mS:mg "merger_of" = some (.ref f)):FnOk P w K mg base CX0 6 f fd ["one","other"] zaY :=
 FnOk.any 4 fun m hm=>(zcL F G UB bS mS m).mono (by lia)
end
abbrev zbA:Stmt:=top 39
abbrev zch:Stmt:=top 34
def zba (m:Nat):Sp:=fun vs H Q _=>∃ p row,vs=[.ref p]∧H p=some (.lst (nums row))∧row.length=2 ^ m∧m≤4∧∀ c lf le ps H',Same H H'→H' c=some (.tup [.ref lf,.ref le])→H' lf=some (.lst ps)→Prs H' ps (zaQ m row).1→H' le=some (.lst (nums (zaQ m row).2))→Q (.ref c) H'
def zbj:Sp:=fun vs H Q _=>∃ k:Nat,vs=[.int k]∧k<5∧∀ r' fr' er' ps' H',Same H H'→NetAt H' r' fr' er' ps' (za7 (za6 k))→Q (.ref r') H'
section
variable {P:Program}{w:World}{K:PySem.W.Frag}{mg:Str→Option Value}{base:Heap}
theorem scSo:FnScope ["row","half","first_forks","first_ends","second_forks","second_ends","last_forks","ends"] ["row"] (zad zbA):=by trivial
theorem zco {f fB:Addr}{fd dB:FuncData}(F:Fun K "stairway_of" "stairway_of" zbA f fd) (G:Mgs mg) (UM:Use P w K mg base "merger_of" ["one","other"] 6 zaY fB dB) (bS:Binds K fd ["row"] []) (mS:mg "stairway_of" = some (.ref f)) (n:Nat)
  (GS:FnOk P w K mg base CX0 (n+6) f fd ["row"] (fun vs H Q E=>∃ m,n=m+1∧zba m vs H Q E)):FnOk P w K mg base CX0 (n+7) f fd ["row"] (zba n):=by
 have UT:Use P w K mg base "stairway_of" ["row"] (n+6) (fun vs H Q E=>∃ m,n=m+1∧zba m vs H Q E) f fd:=⟨GS,bS,F.kp,mS⟩
 refine F.ok scSo (fun vs H Q E h=>?_) (fun cdv A outer s H vs Q E hr h=>?_)
 ·obtain⟨p,row,rfl,_⟩:=h
  rfl
 obtain⟨p,row,rfl,hp,rl,n20,k⟩:=h
 have hr6:Room 6 _:=hr.mono (by lia)
 refine⟨_,(@pss_cons _ _ _ _ _ (@ps_if _ _ _ _ _ _ _ _ (@pt_cmpR _ _ _ _ _ _ _ _ zdi (@pe_callB _ _ _ _ _ _ _ _ _ call_len_seq (by rfl) G.len PySem.boot_len (@pa_cons _ _ _ _ _ (@qv _ 0 _ _ (by trivial)) pa_nil (by rfl)) (by decide) (by decide) (by rfl) (by rfl)) pe_int (nomark _)) (@pss_one _ _ _ (@ps_ret _ _ _ _ (@pe_tup _ _ _ _ _ (@pa_cons _ _ _ _ _ (@pe_lst _ _ _ _ pa_nil) (@pa_cons _ _ _ _ _ (@qv _ 0 _ _ (by trivial)) pa_nil (by rfl)) (by rfl))))) pss_nil) (@pss_cons _ _ _ _ _ (@ps_set _ _ 1 _ _ _ _ scSo.nd rfl (.inl rfl) (@pe_op _ _ _ _ _ _ _ _ op_fdiv (@pe_callB _ _ _ _ _ _ _ _ _ call_len_seq (by rfl) G.len PySem.boot_len (@pa_cons _ _ _ _ _ (@qv _ 0 _ _ (by trivial)) pa_nil (by rfl)) (by decide) (by decide) (by rfl) (by rfl)) pe_int) (by rfl) (by first|exact .inl rfl|exact .inr rfl|assumption)) (@pss_cons _ _ _ _ _ (@ps_asg _ _ _ _ _ _ (@pe_call _ _ _ _ _ _ _ _ _ _ _ _ _ _ _ _ UT.ok hr (by rfl) UT.m UT.kp UT.b .nil pass0 (@pa_cons _ _ _ _ _ (@pe_slice _ _ _ _ _ _ _ _ _ _ sl_list (@qv _ 0 _ _ (by trivial)) po_none (@po_some _ _ _ (@qv _ 1 _ _ (by trivial)))) pa_nil (by rfl)) (by decide) (by rfl) (by rfl)) (@zap _ _ _ _ _ _ rfl (@pgs_cons _ _ _ _ _ (@pg_name _ _ 2 _ scSo.nd rfl (.inl rfl) (by first|exact .inl rfl|exact .inr rfl|assumption)) (@pgs_cons _ _ _ _ _ (@pg_name _ _ 3 _ scSo.nd rfl (.inl rfl) (by first|exact .inl rfl|exact .inr rfl|assumption)) pgs_nil (by rfl)) (by rfl)) (by rfl) (by rfl)) (by rfl) (by rfl) (by rfl)) (@pss_cons _ _ _ _ _ (@ps_asg _ _ _ _ _ _ (@pe_call _ _ _ _ _ _ _ _ _ _ _ _ _ _ _ _ UT.ok hr (by rfl) UT.m UT.kp UT.b .nil pass0 (@pa_cons _ _ _ _ _ (@pe_slice _ _ _ _ _ _ _ _ _ _ sl_list (@qv _ 0 _ _ (by trivial)) (@po_some _ _ _ (@qv _ 1 _ _ (by trivial))) po_none) pa_nil (by rfl)) (by decide) (by rfl) (by rfl)) (@zap _ _ _ _ _ _ rfl (@pgs_cons _ _ _ _ _ (@pg_name _ _ 4 _ scSo.nd rfl (.inl rfl) (by first|exact .inl rfl|exact .inr rfl|assumption)) (@pgs_cons _ _ _ _ _ (@pg_name _ _ 5 _ scSo.nd rfl (.inl rfl) (by first|exact .inl rfl|exact .inr rfl|assumption)) pgs_nil (by rfl)) (by rfl)) (by rfl) (by rfl)) (by rfl) (by rfl) (by rfl)) (@pss_cons _ _ _ _ _ (@ps_asg _ _ _ _ _ _ (@pe_call _ _ _ _ _ _ _ _ _ _ _ _ _ _ _ _ UM.ok hr6 (by rfl) UM.m UM.kp UM.b .nil pass0 (@pa_cons _ _ _ _ _ (@qv _ 3 _ _ (by trivial)) (@pa_cons _ _ _ _ _ (@qv _ 5 _ _ (by trivial)) pa_nil (by rfl)) (by rfl)) (by decide) (by rfl) (by rfl)) (@zap _ _ _ _ _ _ rfl (@pgs_cons _ _ _ _ _ (@pg_name _ _ 6 _ scSo.nd rfl (.inl rfl) (by first|exact .inl rfl|exact .inr rfl|assumption)) (@pgs_cons _ _ _ _ _ (@pg_name _ _ 7 _ scSo.nd rfl (.inl rfl) (by first|exact .inl rfl|exact .inr rfl|assumption)) pgs_nil (by rfl)) (by rfl)) (by rfl) (by rfl)) (by rfl) (by rfl) (by rfl)) (@pss_one _ _ _ (@ps_ret _ _ _ _ (@pe_tup _ _ _ _ _ (@pa_cons _ _ _ _ _ (@pe_op _ _ _ _ _ _ _ _ zcn (@pe_op _ _ _ _ _ _ _ _ zcn (@qv _ 2 _ _ (by trivial)) (@qv _ 4 _ _ (by trivial))) (@qv _ 6 _ _ (by trivial))) (@pa_cons _ _ _ _ _ (@qv _ 7 _ _ (by trivial)) pa_nil (by rfl)) (by rfl)))))))))),?_⟩
 have nl:=zag row
 have p8:2 ^ n≤2 ^ 4:=Nat.pow_le_pow_right (by decide) n20
 have e8:2 ^ 4=16:=rfl
 refine⟨_,rfl,p,_,rfl,.inl (SqL.of hp),_,_,rfl,rfl,_,rfl,?_⟩
 cases n with
 | zero =>
  have rl1:row.length=1:=rl
  rw[decide_eq_true (show (((nums row).length:Nat):Int)<2 by lia)]
  refine iteT ⟨(by show 0≤sizeLine;decide),fun l hl=>⟨_,rfl,(by show 2≤sizeLine;decide),fun c hc=>?_⟩⟩
  have s1:=zaa hl (.lst [])
  have s2:=zaa hc (.tup [.ref l,.ref p])
  exact k c l p [] _ (s1.trans s2) (atNew hc _) (s2 _ _ (atNew hl _)) trivial (s2 _ _ (s1 _ _ hp))
 | succ m =>
  obtain⟨t1,t2,t3⟩:=zeW rl
  obtain⟨la,lb⟩:=zfo rl
  have pw:2 ^ (m+1)=2 ^ m*2:=Nat.pow_succ ..
  have p0:=Nat.one_le_two_pow (n:=m)
  rw[decide_eq_false (show ¬(((nums row).length:Nat):Int)<2 by lia)]
  refine iteF ⟨_,rfl,p,_,rfl,.inl (SqL.of hp),_,_,rfl,rfl,⟨by decide,by decide⟩,?_⟩
  have eh:(((nums row).length:Nat):Int) / 2=((row.length / 2:Nat):Int):=by rw[nl];lia
  simp only[eh]
  refine⟨_,rfl,_,rfl,_,rfl,p,_,rfl,SqL.of hp,fun p1 hp1=>?_⟩
  rw[zlp row _ t3]
  have s1:=zaa hp1 (.lst (nums (row.take (row.length / 2))))
  refine⟨m,rfl,p1,row.take (row.length / 2),rfl,atNew hp1 _,la,by lia,fun c2 lf2 le2 ps2 H2 s2 hc2 hf2 pr2 he2=>?_⟩
  have u2:=s1.trans s2
  refine⟨c2,_,rfl,SqT.of hc2,rfl,_,_,rfl,_,_,rfl,rfl,?_⟩
  refine⟨_,rfl,_,rfl,_,rfl,p,_,rfl,SqL.of (u2 _ _ hp),fun p3 hp3=>?_⟩
  rw[zlq row _ t3]
  have s3:=zaa hp3 (.lst (nums (row.drop (row.length / 2))))
  refine⟨m,rfl,p3,row.drop (row.length / 2),rfl,atNew hp3 _,lb,by lia,fun c4 lf4 le4 ps4 H4 s4 hc4 hf4 pr4 he4=>?_⟩
  have u4:=s3.trans s4
  refine⟨c4,_,rfl,SqT.of hc4,rfl,_,_,rfl,_,_,rfl,rfl,?_⟩
  obtain⟨xl,xf⟩:=zbx m _ la
  obtain⟨yl,yf⟩:=zbx m _ lb
  obtain⟨zl,zf⟩:=za0 m _ _ xl yl
  have pl2:=pr2.len
  have pl4:=pr4.len
  obtain⟨bd1,bd2⟩:=zbY m (by lia)
  refine⟨_,rfl,_,rfl,m,by lia,le2,le4,_,_,rfl,u4 _ _ he2,he4,xl,yl,by lia,fun c6 lf6 le6 ps6 H6 s6 hc6 hf6 pr6 he6=>?_⟩
  refine⟨c6,_,rfl,SqT.of hc6,rfl,_,_,rfl,_,_,rfl,rfl,?_⟩
  have pl6:=pr6.len
  refine⟨_,rfl,_,rfl,lf2,lf4,_,_,rfl,rfl,s6 _ _ (u4 _ _ hf2),s6 _ _ hf4,by rw[sizeLine_eq];lia,fun l7 hl7=>?_⟩
  have s7:=zaa hl7 (.lst (ps2++ps4))
  refine⟨_,rfl,l7,lf6,_,_,rfl,rfl,atNew hl7 _,s7 _ _ hf6,by rw[sizeLine_eq,List.length_append];lia,fun l8 hl8=>?_⟩
  have s8:=zaa hl8 (.lst ((ps2++ps4)++ps6))
  refine⟨_,rfl,(by show 2≤sizeLine;decide),fun c hc=>?_⟩
  have s9:=zaa hc (.tup [.ref l8,.ref le6])
  have u9:=(s7.trans s8).trans s9
  refine k c l8 le6 _ _ ((u2.trans u4).trans (s6.trans u9)) (atNew hc _) (s9 _ _ (atNew hl8 _)) ?_ (u9 _ _ he6)
  refine Prs.tups (Tups.of u9) ?_
  exact Prs.app (Prs.app ((pr2.tups (Tups.of u4)).tups (Tups.of s6)) (pr4.tups (Tups.of s6))) pr6
theorem zcK {f fB:Addr}{fd dB:FuncData}(F:Fun K "stairway_of" "stairway_of" zbA f fd) (G:Mgs mg) (UM:Use P w K mg base "merger_of" ["one","other"] 6 zaY fB dB) (bS:Binds K fd ["row"] []) (mS:mg "stairway_of" = some (.ref f)):∀ n:Nat,FnOk P w K mg base CX0 (n+7) f fd ["row"] (zba n)
 | 0=>zco F G UM bS mS 0 ⟨fun vs H Q E ⟨m,h,_⟩=>by lia,fun A outer s H args us vs Q E _ _ _ _ ⟨m,h,_⟩=>by lia⟩
 | m+1=>zco F G UM bS mS (m+1) ((zcK F G UM bS mS m).imp fun vs H Q E ⟨m',h,q⟩=>by cases h;exact q)
abbrev zbM:Sp:=fun vs H Q E=>∃ m,m≤4∧zba m vs H Q E
theorem zez {f fB:Addr}{fd dB:FuncData}(F:Fun K "stairway_of" "stairway_of" zbA f fd) (G:Mgs mg) (UM:Use P w K mg base "merger_of" ["one","other"] 6 zaY fB dB) (bS:Binds K fd ["row"] []) (mS:mg "stairway_of" = some (.ref f)):FnOk P w K mg base CX0 11 f fd ["row"] zbM :=
 FnOk.any 4 fun m hm=>(zcK F G UM bS mS m).mono (by lia)
theorem scSw:FnScope ["k","row"] ["k"] (zad zch):=by trivial
theorem zey {f fR fT fM:Addr}{fd dR dT dM:FuncData}(F:Fun K "stairway" "stairway" zch f fd) (UR:Use P w K mg base "row_of" ["k"] 2 zc2 fR dR) (UT:Use P w K mg base "stairway_of" ["row"] 11 zbM fT dT) (UM:Use P w K mg base "net_of" ["row","made"] 3 zby fM dM):FnOk P w K mg base CX0 12 f fd ["k"] zbj:=by
 refine F.ok scSw (fun vs H Q E h=>?_) (fun cdv A outer s H vs Q E hr h=>?_)
 ·obtain⟨k,rfl,_⟩:=h
  rfl
 obtain⟨k,rfl,k5,q⟩:=h
 have hr2:Room 2 _:=hr.mono (by decide)
 have hr3:Room 3 _:=hr.mono (by decide)
 refine⟨_,(@pss_cons _ _ _ _ _ (@ps_set _ _ 1 _ _ _ _ scSw.nd rfl (.inl rfl) (@pe_call _ _ _ _ _ _ _ _ _ _ _ _ _ _ _ _ UR.ok hr2 (by rfl) UR.m UR.kp UR.b .nil pass0 (@pa_cons _ _ _ _ _ (@qv _ 0 _ _ (by trivial)) pa_nil (by rfl)) (by decide) (by rfl) (by rfl)) (by rfl) (by first|exact .inl rfl|exact .inr rfl|assumption)) (@pss_one _ _ _ (@ps_ret _ _ _ _ (@pe_call _ _ _ _ _ _ _ _ _ _ _ _ _ _ _ _ UM.ok hr3 (by rfl) UM.m UM.kp UM.b .nil pass0 (@pa_cons _ _ _ _ _ (@qv _ 1 _ _ (by trivial)) (@pa_cons _ _ _ _ _ (@pe_call _ _ _ _ _ _ _ _ _ _ _ _ _ _ _ _ UT.ok hr (by rfl) UT.m UT.kp UT.b .nil pass0 (@pa_cons _ _ _ _ _ (@qv _ 1 _ _ (by trivial)) pa_nil (by rfl)) (by decide) (by rfl) (by rfl)) pa_nil (by rfl)) (by rfl)) (by decide) (by rfl) (by rfl))))),?_⟩
 refine⟨_,rfl,k,rfl,by lia,fun p hp=>?_⟩
 have s1:=zaa hp (.lst (nums (List.range (2 ^ k))))
 refine⟨_,rfl,_,rfl,k,by lia,p,List.range (2 ^ k),rfl,atNew hp _,List.length_range,by lia,fun c lf le ps H2 s2 hc hf pr he=>?_⟩
 have eN:(⟨(List.range (2 ^ k)).length,(zaQ k (List.range (2 ^ k))).1,(zaQ k (List.range (2 ^ k))).2⟩:Nt)=za6 k:=by rw[List.length_range];rfl
 refine⟨p,c,lf,le,ps,_,List.range (2 ^ k),_,rfl,s2 _ _ (atNew hp _),hc,hf,pr,he,by rw[eN];exact zcZ k5,fun r' fr' er' ps' H' s' n'=>?_⟩
 rw[eN]at n'
 exact q r' fr' er' ps' H' ((s1.trans s2).trans s') n'
end
abbrev ze5:Stmt:=top 40
abbrev zep:Stmt:=top 35
def zbN (m:Nat):Sp:=fun vs H Q _=>∃ p row,vs=[.ref p]∧H p=some (.lst (nums row))∧row.length≤2 ^ m∧row.length≤1000∧m≤20∧∀ l ps H',Same H H'→H' l=some (.lst ps)→Prs H' ps (zaM m row)→Q (.ref l) H'
def zc3:Sp:=fun vs H Q _=>∃ k:Nat,vs=[.int k]∧k<5∧∀ r' fr' er' ps' H',Same H H'→NetAt H' r' fr' er' ps' (dueN k)→Q (.ref r') H'
theorem zfw (row:List Nat) (i:Nat) (h:i≤row.length):cutV (nums row) none (some (i:Int))=nums (row.take i):=by
 rw[zca _ _ (by rw[zag];exact h)]
 unfold nums
 rw[List.map_take]
theorem zi6 (row:List Nat) (i:Nat) (h:i≤row.length):cutV (nums row) (some (i:Int)) none=nums (row.drop i):=by
 rw[zcb _ _ (by rw[zag];exact h)]
 unfold nums
 rw[List.map_drop]
section
variable {P:Program}{w:World}{K:PySem.W.Frag}{mg:Str→Option Value}{base:Heap}
theorem scBk:FnScope ["row","half"] ["row"] (zad ze5):=by trivial
theorem zdK {f:Addr}{fd:FuncData}(F:Fun K "block_of" "block_of" ze5 f fd) (G:Mgs mg) (bS:Binds K fd ["row"] []) (mS:mg "block_of" = some (.ref f)) (n:Nat)
  (GS:FnOk P w K mg base CX0 n f fd ["row"] (fun vs H Q E=>∃ m,n=m+1∧zbN m vs H Q E)):FnOk P w K mg base CX0 (n+1) f fd ["row"] (zbN n):=by
 have UB:Use P w K mg base "block_of" ["row"] n (fun vs H Q E=>∃ m,n=m+1∧zbN m vs H Q E) f fd:=⟨GS,bS,F.kp,mS⟩
 refine F.ok scBk (fun vs H Q E h=>?_) (fun cdv A outer s H vs Q E hr h=>?_)
 ·obtain⟨p,row,rfl,_⟩:=h
  rfl
 obtain⟨p,row,rfl,hp,rl,r1000,n20,k⟩:=h
 refine⟨_,(@pss_cons _ _ _ _ _ (@ps_if _ _ _ _ _ _ _ _ (@pt_cmpR _ _ _ _ _ _ _ _ zdi (@pe_callB _ _ _ _ _ _ _ _ _ call_len_seq (by rfl) G.len PySem.boot_len (@pa_cons _ _ _ _ _ (@qv _ 0 _ _ (by trivial)) pa_nil (by rfl)) (by decide) (by decide) (by rfl) (by rfl)) pe_int (nomark _)) (@pss_one _ _ _ (@ps_ret _ _ _ _ (@pe_lst _ _ _ _ pa_nil))) pss_nil) (@pss_cons _ _ _ _ _ (@ps_set _ _ 1 _ _ _ _ scBk.nd rfl (.inl rfl) (@pe_op _ _ _ _ _ _ _ _ op_fdiv (@pe_callB _ _ _ _ _ _ _ _ _ call_len_seq (by rfl) G.len PySem.boot_len (@pa_cons _ _ _ _ _ (@qv _ 0 _ _ (by trivial)) pa_nil (by rfl)) (by decide) (by decide) (by rfl) (by rfl)) pe_int) (by rfl) (by first|exact .inl rfl|exact .inr rfl|assumption)) (@pss_one _ _ _ (@ps_ret _ _ _ _ (@pe_op _ _ _ _ _ _ _ _ zcn (@pe_op _ _ _ _ _ _ _ _ zcn (@zck _ _ _ _ _ _ _ _ true true (by rfl) G.list (by rfl) G.zip rfl (@pa_cons _ _ _ _ _ (@pe_slice _ _ _ _ _ _ _ _ _ _ sl_list (@qv _ 0 _ _ (by trivial)) po_none (@po_some _ _ _ (@qv _ 1 _ _ (by trivial)))) (@pa_cons _ _ _ _ _ (@zlf _ _ _ _ _ _ _ (@qv _ 0 _ _ (by trivial)) (@po_some _ _ _ (@zle _ _ _ _ _ _ zjc pe_int))) pa_nil (by rfl)) (by rfl)) (by rfl) (by rfl) (by rfl)) (@pe_call _ _ _ _ _ _ _ _ _ _ _ _ _ _ _ _ UB.ok hr (by rfl) UB.m UB.kp UB.b .nil pass0 (@pa_cons _ _ _ _ _ (@pe_slice _ _ _ _ _ _ _ _ _ _ sl_list (@qv _ 0 _ _ (by trivial)) po_none (@po_some _ _ _ (@qv _ 1 _ _ (by trivial)))) pa_nil (by rfl)) (by decide) (by rfl) (by rfl))) (@pe_call _ _ _ _ _ _ _ _ _ _ _ _ _ _ _ _ UB.ok hr (by rfl) UB.m UB.kp UB.b .nil pass0 (@pa_cons _ _ _ _ _ (@pe_slice _ _ _ _ _ _ _ _ _ _ sl_list (@qv _ 0 _ _ (by trivial)) (@po_some _ _ _ (@qv _ 1 _ _ (by trivial))) po_none) pa_nil (by rfl)) (by decide) (by rfl) (by rfl))))))),?_⟩
 have nl:=zag row
 refine⟨_,rfl,p,_,rfl,.inl (SqL.of hp),_,_,rfl,rfl,_,rfl,?_⟩
 by_cases c:row.length<2
 ·rw[decide_eq_true (show (((nums row).length:Nat):Int)<2 by lia)]
  refine iteT ⟨(by show 0≤sizeLine;decide),fun l hl=>k l [] _ (zaa hl _) (atNew hl _) ?_⟩
  have e:zaM n row=[]:=by
   cases n with
   | zero=>rfl
   | succ m=>unfold zaM;rw[if_pos c]
  rw[e];trivial
 rw[decide_eq_false (show ¬(((nums row).length:Nat):Int)<2 by lia)]
 obtain⟨m,rfl⟩:∃ m,n=m+1:=by
  cases n with
  | zero=>rw[show 2 ^ 0=1 from rfl]at rl;lia
  | succ m=>exact⟨m,rfl⟩
 rw[Nat.pow_succ]at rl
 refine iteF ⟨_,rfl,p,_,rfl,.inl (SqL.of hp),_,_,rfl,rfl,⟨by decide,by decide⟩,?_⟩
 have eh:(((nums row).length:Nat):Int) / 2=((row.length / 2:Nat):Int):=by rw[nl];lia
 simp only[eh]
 have hh:row.length / 2≤row.length:=by lia
 refine⟨_,rfl,_,rfl,_,rfl,p,_,rfl,SqL.of hp,fun p1 hp1=>?_⟩
 rw[zfw row _ hh]
 have s1:=zaa hp1 (.lst (nums (row.take (row.length / 2))))
 refine⟨_,rfl,_,rfl,_,rfl,rfl,p,_,rfl,SqL.of (s1 _ _ hp),fun p2 hp2=>?_⟩
 have er:(nums row).reverse=nums row.reverse:=by unfold nums;rw[List.map_reverse]
 rw[er]
 have s2:=zaa hp2 (.lst (nums row.reverse))
 refine⟨p1,p2,_,_,rfl,SqL.of (s2 _ _ (atNew hp1 _)),SqL.of (atNew hp2 _),by rw[zag,zag,List.length_take,List.length_reverse];lia,by rw[zag,List.length_take];lia,fun lz ts H2 s3 n1 n2 z=>?_⟩
 have pz:=zew z (by rw[List.length_take,List.length_reverse];lia)
 have s4:=zaa n2 (.lst ts)
 have u4:=((s1.trans s2).trans s3).trans s4
 have pz4:=pz.tups (Tups.of s4)
 have hz4:=atNew n2 (.lst ts)
 have tl:=pz.len
 rw[List.length_zip,List.length_take,List.length_reverse]at tl
 generalize upd H2 lz (.lst ts)=H4 at s4 u4 pz4 hz4
 have hp4:=u4 _ _ hp
 refine⟨_,rfl,_,rfl,_,rfl,p,_,rfl,SqL.of hp4,fun p5 hp5=>?_⟩
 rw[zfw row _ hh]
 have s5:=zaa hp5 (.lst (nums (row.take (row.length / 2))))
 refine⟨m,rfl,p5,row.take (row.length / 2),rfl,atNew hp5 _,by rw[List.length_take];lia,by rw[List.length_take];lia,by lia,fun l6 ps6 H6 s6 h6 pr6=>?_⟩
 have u6:=s5.trans s6
 have b6:=zbi m (row.take (row.length / 2))
 rw[List.length_take]at b6
 have b6':m*min (row.length / 2) row.length≤20*1000:=Nat.mul_le_mul (by lia) (by lia)
 have pl6:=pr6.len
 refine⟨lz,l6,_,_,rfl,rfl,u6 _ _ hz4,h6,by rw[sizeLine_eq];lia,fun l7 hl7=>?_⟩
 have s7:=zaa hl7 (.lst (ts++ps6))
 have pr7:=(Prs.app (pz4.tups (Tups.of u6)) pr6).tups (Tups.of s7)
 have h7:=atNew hl7 (.lst (ts++ps6))
 have u7:=u4.trans (u6.trans s7)
 generalize upd H6 l7 _=H7 at s7 pr7 h7 u7
 have hp7:=u7 _ _ hp
 refine⟨_,rfl,_,rfl,_,rfl,p,_,rfl,SqL.of hp7,fun p8 hp8=>?_⟩
 rw[zi6 row _ hh]
 have s8:=zaa hp8 (.lst (nums (row.drop (row.length / 2))))
 refine⟨m,rfl,p8,row.drop (row.length / 2),rfl,atNew hp8 _,by rw[List.length_drop];lia,by rw[List.length_drop];lia,by lia,fun l9 ps9 H9 s9 h9 pr9=>?_⟩
 have u9:=s8.trans s9
 have b9:=zbi m (row.drop (row.length / 2))
 rw[List.length_drop]at b9
 have b9':m*(row.length-row.length / 2)≤20*1000:=Nat.mul_le_mul (by lia) (by lia)
 have pl9:=pr9.len
 refine⟨l7,l9,_,_,rfl,rfl,u9 _ _ h7,h9,by rw[List.length_append,sizeLine_eq];lia,fun l10 hl10=>?_⟩
 have s10:=zaa hl10 (.lst ((ts++ps6)++ps9))
 have pr10:=(Prs.app (pr7.tups (Tups.of u9)) pr9).tups (Tups.of s10)
 refine k l10 _ _ (u7.trans (u9.trans s10)) (atNew hl10 _) ?_
 have e:zaM (m+1) row=(row.take (row.length / 2)).zip row.reverse++zaM m (row.take (row.length / 2))++zaM m (row.drop (row.length / 2)):=by
  conv=>lhs;unfold zaM
  rw[if_neg c]
 rw[e];exact pr10
theorem zfh {f:Addr}{fd:FuncData}(F:Fun K "block_of" "block_of" ze5 f fd) (G:Mgs mg) (bS:Binds K fd ["row"] []) (mS:mg "block_of" = some (.ref f)):∀ n:Nat,FnOk P w K mg base CX0 (n+1) f fd ["row"] (zbN n)
 | 0=>zdK F G bS mS 0 ⟨fun vs H Q E ⟨m,h,_⟩=>by lia,fun A outer s H args us vs Q E _ _ _ _ ⟨m,h,_⟩=>by lia⟩
 | m+1=>zdK F G bS mS (m+1) ((zfh F G bS mS m).imp fun vs H Q E ⟨m',h,q⟩=>by cases h;exact q)
theorem zf2:∀ k,k<5→zaM 4 (List.range (2 ^ k))=zaM k (List.range (2 ^ k)):=by decide +kernel
theorem zg4 {H:Hp}{ps:List V}{fs:List Fk}(h:Prs H ps fs):∀ n:Nat,Prs H (List.replicate n ps).flatten (List.replicate n fs).flatten
 | 0=>trivial
 | n+1=>by
  rw[List.replicate_succ,List.replicate_succ,List.flatten_cons,List.flatten_cons]
  exact Prs.app h (zg4 h n)
theorem scRd:FnScope ["k","row"] ["k"] (zad zep):=by trivial
theorem zhf {f fR fB fM:Addr}{fd dR dB dM:FuncData}(F:Fun K "rounds" "rounds" zep f fd) (UR:Use P w K mg base "row_of" ["k"] 2 zc2 fR dR) (UB:Use P w K mg base "block_of" ["row"] 5 (zbN 4) fB dB) (UM:Use P w K mg base "net_of" ["row","made"] 3 zby fM dM):FnOk P w K mg base CX0 6 f fd ["k"] zc3:=by
 refine F.ok scRd (fun vs H Q E h=>?_) (fun cdv A outer s H vs Q E hr h=>?_)
 ·obtain⟨k,rfl,_⟩:=h
  rfl
 obtain⟨k,rfl,k5,q⟩:=h
 have hr2:Room 2 _:=hr.mono (by decide)
 have hr3:Room 3 _:=hr.mono (by decide)
 refine⟨_,(@pss_cons _ _ _ _ _ (@ps_set _ _ 1 _ _ _ _ scRd.nd rfl (.inl rfl) (@pe_call _ _ _ _ _ _ _ _ _ _ _ _ _ _ _ _ UR.ok hr2 (by rfl) UR.m UR.kp UR.b .nil pass0 (@pa_cons _ _ _ _ _ (@qv _ 0 _ _ (by trivial)) pa_nil (by rfl)) (by decide) (by rfl) (by rfl)) (by rfl) (by first|exact .inl rfl|exact .inr rfl|assumption)) (@pss_one _ _ _ (@ps_ret _ _ _ _ (@pe_call _ _ _ _ _ _ _ _ _ _ _ _ _ _ _ _ UM.ok hr3 (by rfl) UM.m UM.kp UM.b .nil pass0 (@pa_cons _ _ _ _ _ (@qv _ 1 _ _ (by trivial)) (@pa_cons _ _ _ _ _ (@pe_tup _ _ _ _ _ (@pa_cons _ _ _ _ _ (@pe_op _ _ _ _ _ _ _ _ zfe (@pe_call _ _ _ _ _ _ _ _ _ _ _ _ _ _ _ _ UB.ok hr (by rfl) UB.m UB.kp UB.b .nil pass0 (@pa_cons _ _ _ _ _ (@qv _ 1 _ _ (by trivial)) pa_nil (by rfl)) (by decide) (by rfl) (by rfl)) (@qv _ 0 _ _ (by trivial))) (@pa_cons _ _ _ _ _ (@qv _ 1 _ _ (by trivial)) pa_nil (by rfl)) (by rfl))) pa_nil (by rfl)) (by rfl)) (by decide) (by rfl) (by rfl))))),?_⟩
 have p16:2 ^ k≤2 ^ 4:=Nat.pow_le_pow_right (by decide) (by lia)
 refine⟨_,rfl,k,rfl,by lia,fun p hp=>?_⟩
 have s1:=zaa hp (.lst (nums (List.range (2 ^ k))))
 refine⟨_,rfl,_,rfl,p,List.range (2 ^ k),rfl,atNew hp _,by rw[List.length_range];exact p16,by rw[List.length_range];exact Nat.le_trans p16 (by decide),by decide,fun l ps H2 s2 hl pr=>?_⟩
 rw[zf2 k k5]at pr
 have pl:=pr.len
 have bl:=zbi k (List.range (2 ^ k))
 rw[List.length_range]at bl
 have b2:k*2 ^ k≤4*2 ^ 4:=Nat.mul_le_mul (by lia) p16
 have b3:ps.length*k≤(4*2 ^ 4)*4:=Nat.mul_le_mul (by lia) (by lia)
 refine⟨_,rfl,l,k,ps,rfl,rfl,hl,by lia,by lia,by rw[Int.toNat_natCast,sizeLine_eq];lia,fun l2 hl2=>?_⟩
 rw[Int.toNat_natCast]
 have s3:=zaa hl2 (.lst (List.replicate k ps).flatten)
 refine⟨_,rfl,(by show 2≤sizeLine;decide),fun c hc=>?_⟩
 have s4:=zaa hc (.tup [.ref l2,.ref p])
 have hp4:=s4 _ _ (s3 _ _ (s2 _ _ (atNew hp (.lst (nums (List.range (2 ^ k)))))))
 have okr:=zgY k5
 have eN:(⟨(List.range (2 ^ k)).length,(List.replicate k (zaM k (List.range (2 ^ k)))).flatten,List.range (2 ^ k)⟩:Nt)=zbP k:=by rw[List.length_range];rfl
 refine⟨p,c,l2,p,_,_,List.range (2 ^ k),List.range (2 ^ k),rfl,hp4,atNew hc _,s4 _ _ (atNew hl2 _),(zg4 pr k).tups (Tups.of (s3.trans s4)),hp4,by rw[eN];exact okr,fun r' fr' er' ps' H' s' n'=>?_⟩
 rw[eN,zfH k5]at n'
 exact q r' fr' er' ps' H' ((((s1.trans s2).trans s3).trans s4).trans s') n'
end
end K70
namespace Bn
def Alk (lanes g:Nat) (xs:List Int):Prop:=∀ x,x<lanes→x / g%2=0→xs.getD x 0=xs.getD (x+g) 0
theorem zeL (fs:List (Nat × Nat)) (f:Nat × Nat) (xs:List Int):zaq (fs++[f]) xs=zaX (zaq fs xs) f:=by
 unfold zaq;rw[List.foldl_append];rfl
structure Mid (lanes far j:Nat) (b cur:List Int):Prop where
 len:cur.length=lanes
 met:∀ x,x<lanes→x / far%2=0→x<j→cur.getD x 0=(b.getD x 0+b.getD (x+far) 0) / 2∧cur.getD (x+far) 0=(b.getD x 0+b.getD (x+far) 0) / 2
 not:∀ x,x<lanes→x / far%2=0→j≤x→cur.getD x 0=b.getD x 0∧cur.getD (x+far) 0=b.getD (x+far) 0
theorem Mid.start {lanes far:Nat}{b:List Int}(l:b.length=lanes):Mid lanes far 0 b b:=⟨l,fun x _ _ h=>absurd h (Nat.not_lt_zero _),fun _ _ _ _=>⟨rfl,rfl⟩⟩
theorem Mid.skip {lanes far j:Nat}{b cur:List Int}(h:Mid lanes far j b cur) (z:j / far%2≠0):Mid lanes far (j+1) b cur:=by
 refine⟨h.len,fun x xl xb xj=>h.met x xl xb ?_,fun x xl xb xj=>h.not x xl xb (by lia)⟩
 by_cases e:x=j
 ·subst e;exact absurd xb z
 ·lia
theorem zju {x far:Nat}(hf:0<far) (h:x / far%2=0):(x+far) / far%2=1:=by
 rw[Nat.add_div_right x hf];lia
theorem Mid.step {lanes far j:Nat}{b cur:List Int}{f:Nat × Nat}(hf:0<far) (h:Mid lanes far j b cur) (jb:j / far%2=0) (jl:j+far<lanes) (ef:f=(j,j+far)∨f=(j+far,j)):Mid lanes far (j+1) b (zaX cur f):=by
 have hl:=h.len
 obtain⟨n1,n2⟩:=h.not j (by lia) jb (Nat.le_refl _)
 have upj:=zju hf jb
 have st:∀ x,x<lanes→(zaX cur f).getD x 0=if x=j∨x=j+far then (b.getD j 0+b.getD (j+far) 0) / 2 else cur.getD x 0:=fun x xl=>by
  rcases ef with rfl|rfl
  ·unfold zaX
   rw[zak (by rw[List.length_set];lia),zak (by lia),n1,n2]
   dsimp only
   by_cases e1:j+far=x
   ·rw[if_pos e1,if_pos (.inr e1.symm)]
   ·rw[if_neg e1]
    by_cases e2:j=x
    ·rw[if_pos e2,if_pos (.inl e2.symm)]
    ·rw[if_neg e2,if_neg (by lia)]
  ·unfold zaX
   rw[zak (by rw[List.length_set];lia),zak (by lia),n1,n2]
   dsimp only
   by_cases e1:j=x
   ·rw[if_pos e1,if_pos (.inl e1.symm),Int.add_comm]
   ·rw[if_neg e1]
    by_cases e2:j+far=x
    ·rw[if_pos e2,if_pos (.inr e2.symm),Int.add_comm]
    ·rw[if_neg e2,if_neg (by lia)]
 have nb:∀ x,x / far%2=0→x≠j→(x≠j+far∧x+far≠j∧x+far≠j+far):=fun x xb ne=>by
  refine⟨fun e=>?_,fun e=>?_,by lia⟩
  ·rw[e]at xb;lia
  ·have:=zju hf xb;rw[e]at this;lia
 have out:∀ x,lanes≤x→(zaX cur f).getD x 0=cur.getD x 0:=fun x xl=>by
  rw[List.getD_eq_getElem?_getD,List.getD_eq_getElem?_getD,List.getElem?_eq_none (by unfold zaX;rw[List.length_set,List.length_set];lia),List.getElem?_eq_none (by lia)]
 have off:∀ x,x≠j→x≠j+far→(zaX cur f).getD x 0=cur.getD x 0:=fun x e1 e2=>by
  by_cases xl:x<lanes
  ·rw[st x xl,if_neg (by lia)]
  ·exact out x (by lia)
 refine⟨by unfold zaX;rw[List.length_set,List.length_set];exact hl,fun x xl xb xj=>?_,fun x xl xb xj=>?_⟩
 ·by_cases e:x=j
  ·subst e
   rw[st x xl,if_pos (.inl rfl),st (x+far) jl,if_pos (.inr rfl)]
   exact⟨rfl,rfl⟩
  ·obtain⟨a1,a2,a3⟩:=nb x xb e
   rw[off x e a1,off (x+far) a2 a3]
   exact h.met x xl xb (by lia)
 ·have e:x≠j:=by lia
  obtain⟨a1,a2,a3⟩:=nb x xb e
  rw[off x e a1,off (x+far) a2 a3]
  exact h.not x xl xb (by lia)
theorem zl8:∀ lanes∈[1,2,4,8],∀ g∈[1,2,4],∀ f∈[1,2,4],g<lanes→f<lanes→g≠f→∀ x,x<lanes→x / g%2=0 →
  (x / f%2=0∧(x+g) / f%2=0∧(x+f) / g%2=0∧x+g<lanes∧x+f<lanes)∨(f≤x∧(x-f) / f%2=0∧(x-f) / g%2=0∧(x-f+g) / f%2=0∧x-f+g<lanes):=by decide
theorem Mid.both {lanes far:Nat}{b cur:List Int}(h:Mid lanes far lanes b cur):Alk lanes far cur:=fun x xl xb=>by
 obtain⟨a1,a2⟩:=h.met x xl xb xl
 rw[a1,a2]
theorem Mid.keeps {lanes far g:Nat}{b cur:List Int}(h:Mid lanes far lanes b cur) (lm:lanes∈[1,2,4,8]) (gm:g∈[1,2,4]) (fm:far∈[1,2,4]) (gl:g<lanes) (fl:far<lanes) (ne:g≠far) (a:Alk lanes g b):Alk lanes g cur:=fun x xl xb=>by
 rcases zl8 lanes lm g gm far fm gl fl ne x xl xb with ⟨c1,c2,c3,c4,c5⟩|⟨c1,c2,c3,c4,c5⟩
 ·rw[(h.met x xl c1 xl).1,(h.met (x+g) c4 c2 c4).1,a x xl xb,a (x+far) c5 c3,show x+far+g=x+g+far by lia]
 ·have e1:x=(x-far)+far:=by lia
  have e2:x+g=(x-far+g)+far:=by lia
  have m1:=(h.met (x-far) (by lia) c2 (by lia)).2
  have m2:=(h.met (x-far+g) c5 c4 c5).2
  rw[← e1]at m1
  rw[← e2]at m2
  rw[m1,m2,a (x-far) (by lia) c3,a x xl xb]
theorem zkw:∀ lanes∈[1,2,4,8],∀ x,x<lanes→0<x→∃ g∈[1,2,4],g<lanes∧g≤x∧0<g∧(x-g) / g%2=0:=by decide
theorem zeT {lanes:Nat}{xs:List Int}(lm:lanes∈[1,2,4,8]) (h:∀ g∈[1,2,4],g<lanes→Alk lanes g xs):∀ n x,x≤n→x<lanes→xs.getD x 0=xs.getD 0 0
 | 0,x,xn,_=>by rw[show x=0 by lia]
 | n+1,x,xn,xl=>by
  by_cases z:x=0
  ·rw[z]
  ·obtain⟨g,gm,gl,gx,g0,gb⟩:=zkw lanes lm x xl (by lia)
   have e:=h g gm gl (x-g) (by lia) gb
   rw[show x-g+g=x by lia]at e
   rw[← e]
   exact zeT lm h n (x-g) (by lia) (by lia)
def Lvl (lanes:Nat) (fs:List (Nat × Nat)) (done:Nat→Prop):Prop:=∀ c:List Int,c.length=lanes→∀ g∈([1,2,4]:List Nat),g<lanes→done g→Alk lanes g (zaq fs c)
theorem zfU {N:Nt}(ok:N.Ok) (lm:N.lanes∈[1,2,4,8]) (h:Lvl N.lanes N.forks fun _=>True) {d:Nat}(td:IsTop N d) (lane:Nat):∀ i,i<N.lanes→(zaL N (zan N.lanes lane (pw d))).getD i 0=(flow N.forks (zan N.lanes lane (pw d))).1.getD 0 0:=fun i il=>by
 have el:=zb8 ok
 have hf:=zcu (lane:=lane) ok td.1 N.forks.length (Nat.le_refl _)
 rw[List.take_length]at hf
 have e:(zaL N (zan N.lanes lane (pw d))).getD i 0=(flow N.forks (zan N.lanes lane (pw d))).1.getD (N.ends[i]'(by lia)) 0:=by
  unfold zaL
  rw[List.getD_eq_getElem?_getD,List.getElem?_map,List.getElem?_eq_getElem (by lia)];rfl
 rw[e,← hf]
 exact zeT lm (fun g gm gl=>h _ (zcB _ _ _) g gm gl trivial) _ _ (Nat.le_refl _) (zdp ok (List.getElem_mem _))
end Bn
namespace Bn
open PySem L2 Own
end Bn
namespace L2
open PySem PySem.Spec PyProof.Rows Own
end L2
namespace Bn
open PySem L2 Own
end Bn
namespace L2
open PySem PySem.Spec PyProof.Rows Own
section
variable {X:Cx}
end
end L2
namespace Bn
open PySem L2 Own
end Bn
namespace L2
open PySem PySem.Spec PyProof.Rows Own
end L2
namespace Bn
open PySem L2 Own
end Bn
namespace L2
open PySem PySem.Spec PyProof.Rows Own
end L2
namespace Bn
open PySem L2 Own
section
variable {n s p c u:Addr}
end
end Bn
namespace L2
open PySem
end L2
namespace Bn
open PySem L2 Own
def dl (lane l:Nat):Int:=if l=lane then 1 else 0
def isAt (p:Nat × Nat→Bool):Option (Nat × Nat)→Bool
 | some o=>p o
 | none=>false
def cnt (os:List (Option (Nat × Nat))) (p:Nat × Nat→Bool):Int:=(os.countP (isAt p):Nat)
def zf1 (N:Nt) (i:Nat):Nt:=⟨N.lanes,N.forks.take i++[((N.forks.getD i (0,0)).2,(N.forks.getD i (0,0)).1)]++N.forks.drop (i+1),N.ends⟩
def Fair (N:Nt):Prop:=∀ d,IsTop N d→zaS N=false∧zbz N d=false∧offL N d N.lanes=[]
def zd0 (N:Nt) (d:Nat):Bool:=decide (∀ z∈zau N,z≤d) && decide ((d:Int)∈0::zau N) && !zaS N && !zbz N d && decide (offL N d N.lanes=[])
theorem zbW {N:Nt}{d:Nat}(h:zd0 N d=true):Fair N:=fun e te=>by
 unfold zd0 at h
 simp only[Bool.and_eq_true,decide_eq_true_eq,Bool.not_eq_true']at h
 obtain⟨⟨⟨⟨a,b⟩,c⟩,f⟩,g⟩:=h
 obtain rfl:=zcV te ⟨a,b⟩
 exact⟨c,f,g⟩
theorem zcE:∀ k,k<4→zd0 (za7 (za6 k)) (k*(k+1) / 2)=true∧∀ i,i<(za7 (za6 k)).forks.length→zd0 (zf1 (za7 (za6 k)) i) (k*(k+1) / 2)=true:=by decide +kernel
theorem zfs:∀ k,k<4→zd0 (dueN k) (k*k)=true∧∀ i,i<(dueN k).forks.length→zd0 (zf1 (dueN k) i) (k*k)=true:=by decide +kernel
def zed:Nt:=⟨16,([8,4,2,1,8,4,2,1,8,4,2,1]:List Nat).flatMap fun far=>((List.range 16).filter fun l=>decide (l / far%2=0)).map fun l=>(l,l+far),List.range 16⟩
theorem zgd:zd0 zed 12=true:=by decide +kernel
theorem zhM:zd0 (za7 (za6 4)) 10=true:=by decide +kernel
end Bn
namespace L2
open PySem PySem.Spec PyProof.Rows Own
theorem zhq (l:Addr) (o:Obj) (vs:List Value) (n:Nat) (t:Tok) (hc:o.cls=.type "tuple") (hd:o.data=.seq vs.toArray n) (hk:vs.length≤10000) :
  Meets (Builtin.«tuple.__mul__» ⟨[.ref l,.int 3 t],[]⟩) (fun _ R s=>s.heap.get? l=some o ∧
   (vs=[]→R (.ok (.ret (.ref l))) s)∧(vs≠[]→R (.ok (.ret (.ref s.heap.objs.size))) { s with heap:=s.heap.push { cls:=.type "tuple",data:=.seq (vs++vs++vs).toArray } })) :=
 .of_wp fun prog w A R s h=>by
  cases s with
  | mk hp gs dr tk os =>
  obtain⟨hl,g1,g2⟩:=h
  have ty:Shared.TypeIs ⟨hp,gs,dr,tk,os⟩ (.ref l) "tuple":=⟨o,hl,hc⟩
  wp_walk using wpAny_seqItems hl hd,wpAny_typeOf ty
  have c1:¬(decide ((3:Int) < -2 ^ 63) || decide ((3:Int)≥2 ^ 63))=true:=by decide
  try rw[if_neg c1]
  wp_walk using wpAny_seqItems hl hd,wpAny_typeOf ty
  by_cases v0:vs=[]
  ·have c2:(vs.toArray.isEmpty || (3:Int) == 1)=true:=by subst v0;rfl
   rw[if_pos c2]
   wp_walk using wpAny_typeOf ty
   exact⟨_,rfl,g1 v0⟩
  ·have ie:vs.toArray.isEmpty=false:=by cases vs with
    | nil=>exact absurd rfl v0
    | cons a b=>rfl
   have c2:¬(vs.toArray.isEmpty || (3:Int) == 1)=true:=by rw[ie];decide
   rw[if_neg c2]
   have sz:vs.toArray.size=vs.length:=List.size_toArray ..
   have c3:¬(decide ((3:Int)≤0) || vs.toArray.isEmpty)=true:=by rw[ie];decide
   have c4:¬((vs.toArray.size:Int)*(3:Int) > (2 ^ 63-1) / 8):=by rw[sz];lia
   have c5:¬ Builtin.Tuple.tupleTooMany ((vs.toArray.size:Int)*(3:Int))=true:=by
    unfold Builtin.Tuple.tupleTooMany
    rw[sz,decide_eq_false (by rw[sizeLine_eq];lia)];exact Bool.false_ne_true
   rw[if_neg c3,if_neg c4,if_neg c5]
   have e:List.foldl (fun x1 x2=>x1++x2) (#[]:Array Value) (List.replicate (3:Int).toNat vs.toArray)=(vs++vs++vs).toArray:=by
    show ((#[]++vs.toArray)++vs.toArray)++vs.toArray=_
    apply Array.ext';simp
   rw[e]
   refine wpAny_bind (m:=Builtin.Tuple.tupleExact _) (wpAny_newObj_type (wpAny_pure ⟨_,rfl,g2 v0⟩) ?_)
   show (vs++vs++vs).toArray.size≤sizeLine
   rw[List.size_toArray,List.length_append,List.length_append,sizeLine_eq];lia
section
variable {X:Cx}
theorem zlg:OpR X (binaryOp .Mult) (fun x y H Q=>∃ a xs,x=.ref a∧y=.int 3∧H a=some (.tup xs)∧xs.length≤10000∧∀ r H',Same H H'→H' r=some (.tup (xs++xs++xs))→Q (.ref r) H'):=by
 intro pins s σ H x y vx vy Q I rx ry h
 obtain⟨a,xs,rfl,rfl,ha,hk,q⟩:=h
 cases rx
 obtain⟨t,rfl⟩:=ry
 obtain⟨_,its,r,⟨⟨c,dd,d,sl⟩,eo,c1,n1,d1,nd⟩⟩:=(show ObjOk X.prog X.w H s.heap a (.tup xs) from I.hok a _ ha)
 simp only at c1 d1 nd
 subst c1 d1 nd
 have hl:=r.length
 refine wpAny_binaryOp_repeat_ref (T:="tuple") (U:="int") (by decide) ⟨_,eo,rfl⟩ (fun s'=>typeIs_int s' 3 t) zeD F.fills_int_mul F.slot_int_rmul zfI F.slot_int_index.lookup
  (call_meets F.slot_int_rmul (typeIs_int s 3 t) F.entry_int_rmul (F.args_int_rmul_2 _ _) (zi5 3 t a none sl _ n1)
   ⟨eo,rfl,⟨_,eo,rfl⟩,call_meets F.slot_tuple_mul ⟨_,eo,rfl⟩ F.entry_tuple_mul (F.args_tuple_mul_2 _ _) (zhq a _ its n1 t rfl rfl (by lia)) ⟨eo,fun e=>?_,fun e=>?_⟩⟩)
 ·have x0:xs=[]:=List.length_eq_zero_iff.mp (by rw[hl,e];rfl)
  exact⟨.ref a,H,I,rfl,q a H (Same.refl H) (by rw[ha,x0];rfl)⟩
 ·have hz:(xs++xs++xs).length≤sizeLine:=by rw[List.length_append,List.length_append,sizeLine_eq];lia
  exact⟨.ref s.heap.objs.size,_,I.laid (t':=s.toks) (o:=.tup (xs++xs++xs)) (fun b ob z=>Heap.get?_push_of_some _ z) (Nat.le_refl _) ⟨hz,_,(r.append r).append r,TupX.new _ _⟩,rfl,q _ _ (zaa (I.hok.fresh (Nat.le_refl _)) _) zab⟩
end
end L2
namespace L2
open PySem PySem.Spec PyProof.Rows
def zjD (f1 f2:Addr) (sp1 sp2:Sp) (E1 E2:XK) (te:TE) (t:TA):TE:=fun σ H Q=>te σ H fun g H1=>(g=.ref f1∧t σ H1 fun vs H2=>sp1 (vs++[]) H2 Q E1)∨(g=.ref f2∧t σ H1 fun vs H2=>sp2 (vs++[]) H2 Q E2)
theorem zkK (o i:Expr) (q:Pos) (as:List Expr) (ks:List Keyword) (pos:Pos) (env:Env):eval (.Call (.Subscript o i q) as ks pos) env=(do
 let f ← eval (.Subscript o i q) env
 callWith pos f [] (backTo pos (starEach as env)) (backToKw pos (keywordEach ks env))):=rfl
theorem zha {X:Cx}{k1 k2:Nat}{f1 f2:Addr}{d1 d2:FuncData}{ps1 ps2:List Str}{sp1 sp2:Sp}{E1 E2:XK}{o i e:Expr}{es:List Expr}{q pos:Pos}{te:TE}{t:TA}(hf:PE X (.Subscript o i q) te)
  (F1:FnOk X.prog X.w X.K X.mg X.base CX0 k1 f1 d1 ps1 sp1) (hr1:Room k1 X.A) (hk1:PySem.W.keepIn X.K (.ref f1)=true) (hb1:Binds X.K d1 ps1 []) (hx1:Passes CX0 X E1)
  (F2:FnOk X.prog X.w X.K X.mg X.base CX0 k2 f2 d2 ps2 sp2) (hr2:Room k2 X.A) (hk2:PySem.W.keepIn X.K (.ref f2)=true) (hb2:Binds X.K d2 ps2 []) (hx2:Passes CX0 X E2)
  (ha:PA X (e::es) t) (he:starEach (e::es) X.env=(false,eval e X.env)::starEach es X.env:=by rfl) (hpl:(backTo pos (starEach es X.env)).any (·.1)=false:=by rfl) :
  PE X (.Call (.Subscript o i q) (e::es) [] pos) (zjD f1 f2 sp1 sp2 E1 E2 te t):=by
 intro pins s σ H Q I h
 rw[zkK]
 refine wpAny_bind (thn (hf pins s σ H _ I h) fun g s1 ⟨v,H1,I1,rv,alt⟩=>?_)
 rcases alt with ⟨ev,q1⟩|⟨ev,q1⟩
 ·subst ev
  obtain rfl:g=.ref f1:=rv
  exact PySem.W.callWith_K (h₀:=X.base) I1.ok.mod.kin hk1 (thn (ha pos pins s1 σ H1 _ I1 q1) fun us s2 ⟨vs,H2,I2,r,z⟩=>⟨I2.kIn,ze6 F1 hr1 hb1 .nil hx1 I2 r z⟩) he hpl
 ·subst ev
  obtain rfl:g=.ref f2:=rv
  exact PySem.W.callWith_K (h₀:=X.base) I1.ok.mod.kin hk2 (thn (ha pos pins s1 σ H1 _ I1 q1) fun us s2 ⟨vs,H2,I2,r,z⟩=>⟨I2.kIn,ze6 F2 hr2 hb2 .nil hx2 I2 r z⟩) he hpl
end L2
namespace Bn
open PySem L2 Own
def goes (n:Nat):Option (Nat × Nat)→Nat
 | none=>0
 | some o=>n+1-o.2
end Bn
namespace L2
open PySem PySem.Spec PyProof.Rows Own Bn
section
variable {X:Cx}
theorem zka (hu:X.A.units+64<cLine):OpR X (compareOp .NotEq) (fun x y H Q=>∃ a b xs,x=.ref a∧y=.ref b∧SqT X.K H a xs∧SqT X.K H b []∧Q (.bl (!xs.isEmpty)) H):=by
 intro pins s σ H x y v u Q I rx ry h
 obtain⟨a,b,xs,rfl,rfl,ha,hb,q⟩:=h
 cases rx;cases ry
 obtain⟨its,r1,p1,_⟩:=I.tuple ha
 obtain⟨jts,r2,p2,_⟩:=I.tuple hb
 cases r2
 have l1:=r1.length
 refine SeqAt.RcNeAt.tuples (e:=fun _=>true) p1 p2 (by lia) (fun j k1 k2=>absurd k2 (Nat.not_lt_zero _)) X.prog X.w _ _ ?_
 refine⟨.bl (!xs.isEmpty),H,I,?_,q⟩
 rw[zi9,List.size_toArray,← l1]
 show Value.bool _=Value.bool _
 cases xs<;>simp
end
end L2
namespace K70
open PySem L2 Own Bn
abbrev zjL:Stmt:=top 54
abbrev zjM:Stmt:=top 55
def zgx:Sp:=fun vs H Q _=>vs=[]∧∀ r fr er ps H',Same H H'→NetAt H' r fr er ps zed→Q (.ref r) H'
def zgy:Sp:=fun vs H Q _=>∃ l:Addr,vs=[.ref l]∧PkAt H l∧∀ r fr er ps N H',Nt.Ok N→N.lanes∈([1,2,4,8]:List Nat)→Fair N→NetAt H' r fr er ps N→PkAt H' l→But l H H'→Q (.ref r) H'
def farF (far i:Nat):List (Nat × Nat):=((List.range i).filter fun l=>decide (l / far%2=0)).map fun l=>(l,l+far)
theorem zdZ (far i:Nat):farF far (i+1)=farF far i++if decide (i / far%2=0)=true then [(i,i+far)] else []:=by
 unfold farF
 rw[List.range_succ,List.filter_append,List.map_append]
 congr 1
 by_cases c:decide (i / far%2=0)=true
 ·rw[if_pos c,List.filter_cons_of_pos (by exact c)];rfl
 ·rw[if_neg c,List.filter_cons_of_neg (by exact c)];rfl
theorem zfr (far i:Nat):(farF far i).length≤i:=by
 unfold farF
 rw[List.length_map]
 exact Nat.le_trans (List.length_filter_le ..) (by rw[List.length_range];exact Nat.le_refl _)
theorem zi4:∀ k,k<5→1≤2 ^ k∧2 ^ k≤16∧(dueN k).forks.length≤128∧(∀ f∈(dueN k).forks,f.1<2 ^ k∧f.2<2 ^ k∧f.1≠f.2):=by decide +kernel
theorem zkL (k:Nat) (h:k<5):(dueN k).Ok:=let ⟨a,b,c,d⟩:=zi4 k h;⟨a,b,c,d,.refl _⟩
abbrev fars:List Nat:=[8,4,2,1,8,4,2,1,8,4,2,1]
theorem zjz:zed.forks=(fars.take 12).flatMap fun far=>farF far 16:=rfl
theorem zgI {t u:TS}{D:Ends}{σ:St}{H:Hp}(G:St→Hp→Prop) (key:∀ σ H,G σ H→u D σ H) (h:(∀ σ H,G σ H→u D σ H)→t { D with nx:=u D } σ H):tSeq t u D σ H:=h key
theorem zjp:∀ k,k<4→2 ^ k∈([1,2,4,8]:List Nat):=by decide
theorem zfa {H:Hp}:∀ (i:Nat) {ps:List V}{fs:List (Nat × Nat)},Prs H ps fs→Prs H (ps.take i) (fs.take i)
 | 0,_,_,_=>trivial
 | _+1,[],[],_=>trivial
 | i+1,p::ps,f::fs,h=>⟨h.1,zfa i h.2⟩
theorem zfb {H:Hp}:∀ (i:Nat) {ps:List V}{fs:List (Nat × Nat)},Prs H ps fs→Prs H (ps.drop i) (fs.drop i)
 | 0,_,_,h=>h
 | _+1,[],[],_=>trivial
 | i+1,p::ps,f::fs,h=>zfb i h.2
theorem zkJ {N:Nt}(ok:N.Ok) {i:Nat}(hi:i<N.forks.length):(zf1 N i).Ok:=by
 have e:N.forks.getD i (0,0)=N.forks[i]:=by rw[List.getD_eq_getElem?_getD,List.getElem?_eq_getElem hi];rfl
 have fi:=ok.fk _ (List.getElem_mem hi)
 refine⟨ok.l1,ok.l16,?_,fun f hf=>?_,ok.en⟩
 ·show (N.forks.take i++[_]++N.forks.drop (i+1)).length≤128
  have:=ok.fm
  rw[List.length_append,List.length_append,List.length_take,List.length_drop]
  show _+1+_≤_
  lia
 ·have hf':f∈N.forks.take i++[((N.forks.getD i (0,0)).2,(N.forks.getD i (0,0)).1)]++N.forks.drop (i+1):=hf
  rcases List.mem_append.mp hf' with z|z
  ·rcases List.mem_append.mp z with z|z
   ·exact ok.fk f (List.mem_of_mem_take z)
   ·rw[List.mem_singleton.mp z,e];exact⟨fi.2.1,fi.1,fun h=>fi.2.2 h.symm⟩
  ·exact ok.fk f (List.mem_of_mem_drop z)
section
variable {P:Program}{w:World}{K:PySem.W.Frag}{mg:Str→Option Value}{base:Heap}
theorem scTq:FnScope ["_law_left_here","_law_lanes","_law_forks","_law_ends","_law_at"] ["_law_left_here"] (zad zjM):=by trivial
theorem zfN {f fK fS fR:Addr}{fd dK dS dR:FuncData}(F:Fun K "_law_told_way" "_law_told_way" zjM f fd) (G:Mgs mg) (UK:Use P w K mg base "_law_pick" ["_law_left_here","_law_many"] 1 zdE fK dK) (US:Use P w K mg base "stairway" ["k"] 12 zbj fS dS) (UR:Use P w K mg base "rounds" ["k"] 6 zc3 fR dR):FnOk P w K mg base CX0 13 f fd ["_law_left_here"] zgy:=by
 refine F.ok scTq (fun vs H Q E h=>?_) (fun cdv A outer s H vs Q E hr h=>?_)
 ·obtain⟨l,rfl,_⟩:=h
  rfl
 obtain⟨l,rfl,S,k⟩:=h
 have hr1:Room 1 _:=hr.mono (by decide)
 have hr6:Room 6 _:=hr.mono (by decide)
 refine⟨_,(@pss_cons _ _ _ _ _ (@ps_asg _ _ _ _ _ _ (@zha _ _ _ _ _ _ _ _ _ _ _ _ _ _ _ _ _ _ _ _ _ (@pe_ix _ _ _ _ _ _ _ ix_list (@pe_lst _ _ _ _ (@pa_cons _ _ _ _ _ (@zex _ _ (.ref _) _ _ (by rfl) US.m rfl (by decide)) (@pa_cons _ _ _ _ _ (@zex _ _ (.ref _) _ _ (by rfl) UR.m rfl (by decide)) pa_nil (by rfl)) (by rfl))) (@pe_call _ _ _ _ _ _ _ _ _ _ _ _ _ _ _ _ UK.ok hr1 (by rfl) UK.m UK.kp UK.b .nil pass0 (@pa_cons _ _ _ _ _ (@qv _ 0 _ _ (by trivial)) (@pa_cons _ _ _ _ _ pe_int pa_nil (by rfl)) (by rfl)) (by decide) (by rfl) (by rfl)) (fun _ _=>rfl)) US.ok hr US.kp US.b pass0 UR.ok hr6 UR.kp UR.b pass0 (@pa_cons _ _ _ _ _ (@pe_call _ _ _ _ _ _ _ _ _ _ _ _ _ _ _ _ UK.ok hr1 (by rfl) UK.m UK.kp UK.b .nil pass0 (@pa_cons _ _ _ _ _ (@qv _ 0 _ _ (by trivial)) (@pa_cons _ _ _ _ _ pe_int pa_nil (by rfl)) (by rfl)) (by decide) (by rfl) (by rfl)) pa_nil (by rfl)) (by rfl) (by rfl)) (@zap _ _ _ _ _ _ rfl (@pgs_cons _ _ _ _ _ (@pg_name _ _ 1 _ scTq.nd rfl (.inl rfl) (by first|exact .inl rfl|exact .inr rfl|assumption)) (@pgs_cons _ _ _ _ _ (@pg_name _ _ 2 _ scTq.nd rfl (.inl rfl) (by first|exact .inl rfl|exact .inr rfl|assumption)) (@pgs_cons _ _ _ _ _ (@pg_name _ _ 3 _ scTq.nd rfl (.inl rfl) (by first|exact .inl rfl|exact .inr rfl|assumption)) pgs_nil (by rfl)) (by rfl)) (by rfl)) (by rfl) (by rfl)) (by rfl) (by rfl) (by rfl)) (@pss_cons _ _ _ _ _ (@ps_if _ _ _ _ _ _ _ _ (@pw_and _ _ _ _ _ _ _ (@pt_cmpR _ _ _ _ _ _ _ _ (zka hr.units) (@qv _ 2 _ _ (by trivial)) (@pe_tup _ _ _ _ _ pa_nil) (nomark _)) (@pw_and1 _ _ _ _ (@pt_cmpR _ _ _ _ _ _ _ _ op_eq (@pe_call _ _ _ _ _ _ _ _ _ _ _ _ _ _ _ _ UK.ok hr1 (by rfl) UK.m UK.kp UK.b .nil pass0 (@pa_cons _ _ _ _ _ (@qv _ 0 _ _ (by trivial)) (@pa_cons _ _ _ _ _ pe_int pa_nil (by rfl)) (by rfl)) (by decide) (by rfl) (by rfl)) pe_int (nomark _)))).pt (@pss_cons _ _ _ _ _ (@ps_set _ _ 4 _ _ _ _ scTq.nd rfl (.inl rfl) (@pe_call _ _ _ _ _ _ _ _ _ _ _ _ _ _ _ _ UK.ok hr1 (by rfl) UK.m UK.kp UK.b .nil pass0 (@pa_cons _ _ _ _ _ (@qv _ 0 _ _ (by trivial)) (@pa_cons _ _ _ _ _ (@pe_callB _ _ _ _ _ _ _ _ _ call_len_seq (by rfl) G.len PySem.boot_len (@pa_cons _ _ _ _ _ (@qv _ 2 _ _ (by trivial)) pa_nil (by rfl)) (by decide) (by decide) (by rfl) (by rfl)) pa_nil (by rfl)) (by rfl)) (by decide) (by rfl) (by rfl)) (by rfl) (by first|exact .inl rfl|exact .inr rfl|assumption)) (@pss_one _ _ _ (@ps_set _ _ 2 _ _ _ _ scTq.nd rfl (.inl rfl) (@pe_op _ _ _ _ _ _ _ _ zdj (@pe_op _ _ _ _ _ _ _ _ zdj (@pe_slice _ _ _ _ _ _ _ _ _ _ zdc (@qv _ 2 _ _ (by trivial)) po_none (@po_some _ _ _ (@qv _ 4 _ _ (by trivial)))) (@pe_tup _ _ _ _ _ (@pa_cons _ _ _ _ _ (@zj8 _ _ _ _ _ _ _ (@pe_ix _ _ _ _ _ _ _ ix_tup (@qv _ 2 _ _ (by trivial)) (@qv _ 4 _ _ (by trivial)) (fun _ _=>rfl)) (@po_some _ _ _ (@zle _ _ _ _ _ _ zjc pe_int))) pa_nil (by rfl)))) (@pe_slice _ _ _ _ _ _ _ _ _ _ zdc (@qv _ 2 _ _ (by trivial)) (@po_some _ _ _ (@pe_op _ _ _ _ _ _ _ _ op_add (@qv _ 4 _ _ (by trivial)) pe_int)) po_none)) (by rfl) (by first|exact .inl rfl|exact .inr rfl|assumption)))) pss_nil) (@pss_one _ _ _ (@ps_ret _ _ _ _ (@pe_tup _ _ _ _ _ (@pa_cons _ _ _ _ _ (@qv _ 1 _ _ (by trivial)) (@pa_cons _ _ _ _ _ (@qv _ 2 _ _ (by trivial)) (@pa_cons _ _ _ _ _ (@qv _ 3 _ _ (by trivial)) pa_nil (by rfl)) (by rfl)) (by rfl))))))),?_⟩
 refine zgI (fun σ H2=>∃ r fr er ps N,σ=[some (.ref l),some (.int (N.lanes:Nat)),some (.ref fr),some (.ref er),none]∧Nt.Ok N∧N.lanes∈([1,2,4,8]:List Nat)∧Fair N∧(∀ i,i<N.forks.length→Fair (zf1 N i))∧NetAt H2 r fr er ps N∧PkAt H2 l∧But l H H2) ?_ ?_
 rotate_left
 ·intro go
  refine⟨(by show 2≤sizeLine;decide),fun lx hlx=>?_⟩
  have sx:=zaa hlx (.lst [.ref fS,.ref fR])
  have nlx:=S.ne hlx
  refine⟨_,rfl,l,2,rfl,by decide,by decide,S.keep sx,fun a H1 ha S1 B1=>?_⟩
  have hx1:=B1 lx _ (atNew hlx _) nlx.symm
  have B01:=(But.of sx).trans B1
  rcases (show a=0∨a=1 by lia) with rfl|rfl
  ·refine⟨lx,_,_,_,rfl,rfl,SqL.of hx1,zaN (j:=0) rfl,.inl ⟨rfl,?_⟩⟩
   refine⟨_,rfl,l,4,rfl,by decide,by decide,S1,fun b H2 hb S2 B2=>?_⟩
   refine⟨b,rfl,by lia,fun r fr er ps H3 s3 n3=>?_⟩
   have b4:b<4:=by lia
   refine⟨r,_,rfl,SqT.of n3.net,rfl,_,_,rfl,_,_,rfl,_,_,rfl,rfl,go _ _ ⟨r,fr,er,ps,_,rfl,zfc (zcZ (by lia)),zjp b b4,zbW (zcE b b4).1,fun i hi=>zbW ((zcE b b4).2 i hi),n3,S2.keep s3,(B01.trans B2).trans (But.of s3)⟩⟩
  ·refine⟨lx,_,_,_,rfl,rfl,SqL.of hx1,zaN (j:=1) rfl,.inr ⟨rfl,?_⟩⟩
   refine⟨_,rfl,l,4,rfl,by decide,by decide,S1,fun b H2 hb S2 B2=>?_⟩
   refine⟨b,rfl,by lia,fun r fr er ps H3 s3 n3=>?_⟩
   have b4:b<4:=by lia
   refine⟨r,_,rfl,SqT.of n3.net,rfl,_,_,rfl,_,_,rfl,_,_,rfl,rfl,go _ _ ⟨r,fr,er,ps,_,rfl,zkL b (by lia),zjp b b4,zbW (zfs b b4).1,fun i hi=>zbW ((zfs b b4).2 i hi),n3,S2.keep s3,(B01.trans B2).trans (But.of s3)⟩⟩
 rintro σ H2 ⟨r,fr,er,ps,N,rfl,ok,lm,fa,ff,na,S2,B2⟩
 have l16:=ok.l16
 have fm:=ok.fm
 have pl:=na.prs.len
 refine zgI (fun σ H3=>∃ fr' ps' N' v4,σ=[some (.ref l),some (.int (N.lanes:Nat)),some (.ref fr'),some (.ref er),v4]∧Nt.Ok N'∧N'.lanes=N.lanes∧N'.ends=N.ends∧Fair N'∧H3 fr'=some (.tup ps')∧Prs H3 ps' N'.forks∧PkAt H3 l∧But l H2 H3) ?_ ?_
 rotate_left
 ·intro go
  refine⟨_,rfl,(by show 0≤sizeLine;decide),fun te hte=>?_⟩
  have s3:=zaa hte (.tup [])
  refine⟨fr,te,ps,rfl,rfl,SqT.of (s3 _ _ na.forks),SqT.of (atNew hte _),_,rfl,?_⟩
  have S3:=S2.keep s3
  have na3:=na.tups (Tups.of s3)
  generalize L2.upd H2 te _=H3 at s3 S3 na3 ⊢
  have B3:=But.of (l:=l) s3
  have stay:∀ H4 v4,PkAt H4 l→But l H3 H4→_:=fun H4 v4 S4 B4=>go [some (.ref l),some (.int (N.lanes:Nat)),some (.ref fr),some (.ref er),v4] H4 ⟨fr,ps,N,v4,rfl,ok,rfl,rfl,fa,B4.tups S3 _ _ na3.forks,na3.prs.tups (B4.tups S3),S4,B3.trans B4⟩
  cases hps:ps.isEmpty with
  | true=>exact iteF (iteF (stay H3 _ S3 (But.of (Same.refl _))))
  | false =>
   refine iteT ⟨_,rfl,l,2,rfl,by decide,by decide,S3,fun a H4 ha S4 B4=>⟨rfl,_,rfl,?_⟩⟩
   by_cases c:a=0
   ·rw[decide_eq_true (by rw[c];rfl)]
    have na4:=na3.tups (B4.tups S3)
    have p0:0<ps.length:=by
     cases ps with
     | nil=>cases hps
     | cons x y=>exact Nat.succ_pos _
    refine iteT ⟨_,rfl,_,rfl,fr,_,rfl,.inr (SqT.of na4.forks),l,_,rfl,by lia,by lia,S4,fun i H5 hi S5 B5=>?_⟩
    have na5:=na4.tups (B5.tups S4)
    have il:i<ps.length:=by lia
    have il':i<N.forks.length:=by lia
    refine⟨_,rfl,_,rfl,i,rfl,fr,ps,rfl,na5.forks,fun s1 H6 q6 h6=>?_⟩
    rw[zca ps i (by lia)]at h6
    have na6:=na5.tups (Tups.of q6)
    obtain⟨b,g,eb,eg,hb⟩:=na6.prs.get (i:=i) (p:=ps[i]) (List.getElem?_eq_getElem il)
    have ei:ps[i]?=some (.ref b):=by rw[List.getElem?_eq_getElem il,eb]
    refine⟨_,rfl,_,rfl,fr,ps,_,_,rfl,rfl,SqT.of na6.forks,zaN ei,1,rfl,-1,rfl,rfl,b,_,_,rfl,SqT.of hb,fun t1 ht1=>?_⟩
    have q7:=zaa ht1 (.tup [.int (g.2:Nat),.int (g.1:Nat)])
    refine⟨(by show 1≤sizeLine;decide),fun t2 ht2=>?_⟩
    have q8:=zaa ht2 (.tup [.ref t1])
    have q78:=q7.trans q8
    refine⟨s1,t2,_,_,rfl,rfl,q78 _ _ h6,atNew ht2 _,by rw[List.length_take,sizeLine_eq];show _+1≤_;lia,fun s2 H9 q9 h9=>?_⟩
    have na9:=na6.tups (Tups.of (q78.trans q9))
    have ei1:((i:Nat):Int)+1=((i+1:Nat):Int):=by lia
    refine⟨_,rfl,_,rfl,_,_,rfl,rfl,?_⟩
    refine⟨_,rfl,fr,ps,rfl,na9.forks,fun s3 H10 q10 h10=>?_⟩
    rw[ei1,zcb ps (i+1) (by lia)]at h10
    have dl:=List.length_drop (i:=i+1) (l:=ps)
    have tl:=List.length_take (i:=i) (l:=ps)
    refine⟨s2,s3,_,_,rfl,rfl,q10 _ _ h9,h10,by rw[List.length_append,dl,tl,sizeLine_eq];show _+1+_≤_;lia,fun s4 H11 q11 h11=>?_⟩
    have u11:=((q78.trans q9).trans q10).trans q11
    have u911:=(q9.trans q10).trans q11
    have eg':N.forks.getD i (0,0)=g:=by rw[List.getD_eq_getElem?_getD,eg];rfl
    have pr:Prs H11 (ps.take i++[.ref t1]++ps.drop (i+1)) (zf1 N i).forks:=by
     show Prs H11 _ (N.forks.take i++[((N.forks.getD i (0,0)).2,(N.forks.getD i (0,0)).1)]++N.forks.drop (i+1))
     rw[eg']
     have p11:=na6.prs.tups (Tups.of u11)
     exact Prs.app (Prs.app (zfa _ p11) ⟨⟨t1,rfl,u911 _ _ (q8 _ _ (atNew ht1 _))⟩,trivial⟩) (zfb _ p11)
    exact go _ _ ⟨s4,_,zf1 N i,_,rfl,zkJ ok il',rfl,rfl,ff i il',h11,pr,(S5.keep q6).keep u11,((B3.trans B4).trans B5).trans (But.of (q6.trans u11))⟩
   ·rw[decide_eq_false (by intro y;have:=V.int.inj y;lia)]
    exact iteF (stay H4 _ S4 B4)
 rintro σ H3 ⟨fr',ps',N',v4,rfl,ok',eN,eE,fa',hf,pr,S3,B3⟩
 have e3:=B3.tups S2 _ _ na.ends
 refine⟨_,rfl,_,rfl,_,rfl,(by show 3≤sizeLine;decide),fun r' hr'=>?_⟩
 have s4:=zaa hr' (.tup [.int (N.lanes:Nat),.ref fr',.ref er])
 refine k r' fr' er ps' N' _ ok' (by rw[eN];exact lm) fa' ⟨?_,s4 _ _ hf,pr.tups (Tups.of s4),?_⟩ (S3.keep s4) ((B2.trans B3).trans (But.of s4))
 ·rw[eN];exact atNew hr' _
 ·rw[eE];exact s4 _ _ e3
theorem scWd:FnScope ["_law_forks","_law_far"] [] (zad zjL):=by trivial
theorem zkf {f:Addr}{fd:FuncData}(F:Fun K "_law_wide" "_law_wide" zjL f fd) (G:Mgs mg):FnOk P w K mg base CX0 1 f fd [] zgx:=by
 refine F.ok scWd (fun vs H Q E h=>?_) (fun cdv A outer s H vs Q E hr h=>?_)
 ·obtain⟨rfl,_⟩:=h
  rfl
 obtain⟨rfl,k⟩:=h
 refine⟨_,(@pss_cons _ _ _ _ _ (@ps_set _ _ 0 _ _ _ _ scWd.nd rfl (.inl rfl) (@pe_lst _ _ _ _ pa_nil) (by rfl) (by first|exact .inl rfl|exact .inr rfl|assumption)) (@pss_cons _ _ _ _ _ (@ps_for _ _ _ _ _ _ _ _ PassesOwn.never rfl (@za8 _ _ _ _ (@pe_op _ _ _ _ _ _ _ _ zlg (@pe_tup _ _ _ _ _ (@pa_cons _ _ _ _ _ pe_int (@pa_cons _ _ _ _ _ pe_int (@pa_cons _ _ _ _ _ pe_int (@pa_cons _ _ _ _ _ pe_int pa_nil (by rfl)) (by rfl)) (by rfl)) (by rfl))) pe_int)) (@pg_name _ _ 1 _ scWd.nd rfl (.inr rfl) (by first|exact .inl rfl|exact .inr rfl|assumption)) (@pss_one _ _ _ (@ps_expr _ _ _ _ (@pe_bm _ _ _ _ _ _ _ _ _ _ _ _ PySem.F.plainAttrs_list PySem.F.slot_list_extend PySem.F.type_list_extend zho (@qv _ 0 _ _ (by trivial)) (@pa_cons _ _ _ _ _ (@pe_lc _ _ _ _ (some _) _ _ _ _ _ _ ["_law_lane","_law_far"] [none,some 1] rfl (@pi_range1 _ _ _ _ _ _ rfl G.range (@pa_cons _ _ _ _ _ pe_int pa_nil (by rfl)) (by rfl)) (CapOk.of (by kernel_rfl)) (fun _ _ _ _ _=>(@pg_name _ _ 0 _ (show (["_law_lane","_law_far"]:List Str).Nodup from by decide +kernel) rfl (.inl rfl) (.inr rfl))) (fun _ _ _ _ _=>(@zg2 _ _ _ (@pt_cmpR _ _ _ _ _ _ _ _ op_eq (@pe_op _ _ _ _ _ _ _ _ op_mod (@pe_op _ _ _ _ _ _ _ _ op_fdiv (@qv _ 0 _ _ (by trivial)) (@qv _ 1 _ _ (by trivial))) pe_int) pe_int (nomark _)))) (fun _ _ _ _ _=>(@pe_tup _ _ _ _ _ (@pa_cons _ _ _ _ _ (@qv _ 0 _ _ (by trivial)) (@pa_cons _ _ _ _ _ (@pe_op _ _ _ _ _ _ _ _ op_add (@qv _ 0 _ _ (by trivial)) (@qv _ 1 _ _ (by trivial))) pa_nil (by rfl)) (by rfl)))) (by intro _;rfl)) pa_nil (by rfl)) (by rfl) (by rfl) (by rfl) (by rfl) (by rfl)) (by rfl))) (by intro _;rfl)) (@pss_one _ _ _ (@ps_ret _ _ _ _ (@pe_tup _ _ _ _ _ (@pa_cons _ _ _ _ _ pe_int (@pa_cons _ _ _ _ _ (@pe_callTy _ _ _ _ _ _ _ _ _ call_tuple_of (by rfl) G.tuple (by rfl) (@pa_cons _ _ _ _ _ (@qv _ 0 _ _ (by trivial)) pa_nil (by rfl)) (by decide) (by decide) (by rfl) (by rfl)) (@pa_cons _ _ _ _ _ (@pe_tupRng _ _ _ _ _ _ _ rfl (by rfl) G.tuple (by rfl) G.range (@pa_cons _ _ _ _ _ pe_int pa_nil (by rfl)) (by rfl) (by rfl)) pa_nil (by rfl)) (by rfl)) (by rfl))))))),?_⟩
 refine⟨(by show 0≤sizeLine;decide),fun lf hlf=>?_⟩
 have s0:=zaa hlf (.lst [])
 refine⟨(by show 4≤sizeLine;decide),fun t0 ht0=>?_⟩
 have s1:=zaa ht0 (.tup [.int 8,.int 4,.int 2,.int 1])
 refine⟨t0,_,rfl,rfl,atNew ht0 _,by show 4≤10000;decide,fun t1 H2 s2 h2=>?_⟩
 have u2:=s1.trans s2
 have hl2:=u2 _ _ (atNew hlf (.lst []))
 have nt:lf≠t1:=fun e=>by rw[e,h2]at hl2;cases hl2
 refine⟨t1,rfl,⟨_,SqT.of h2⟩,?_⟩
 refine zbV (K:=K) (a:=t1) (xs:=nums fars) (fun i σ H3=>(∃ v1,σ=[some (.ref lf),v1])∧Same H H3∧H3 t1=some (.tup (nums fars))∧∃ ps,H3 lf=some (.lst ps)∧Prs H3 ps ((fars.take i).flatMap fun far=>farF far 16)∧ps.length≤16*i) ⟨⟨_,rfl⟩,(s0.trans u2),h2,[],hl2,trivial,Nat.le_refl _⟩ (fun i σ H3 _ q=>SqT.of q.2.2.1) ?_ ?_
 ·rintro i x σ H3 hx ⟨⟨v1,rfl⟩,s3,h3,ps,hp3,pr3,pl⟩
  have il:i<12:=(List.getElem?_eq_some_iff.mp hx).1
  obtain⟨far,rfl,efar,f1,f8⟩:∃ far:Nat,x=.int far∧fars.take (i+1)=fars.take i++[far]∧1≤far∧far≤8:=by
   have ef:(nums fars)[i]?=some (.int (fars[i]'il:Nat)):=by unfold nums;rw[List.getElem?_map,List.getElem?_eq_getElem il];rfl
   rw[ef]at hx
   have bd:∀ f∈fars,1≤f∧f≤8:=by decide
   exact⟨fars[i],(Option.some.inj hx).symm,List.take_succ_eq_append_getElem il,bd _ (List.getElem_mem il)⟩
  refine⟨_,rfl,.inl ⟨rfl,_,SqL.of hp3⟩,16,rfl,by decide,by decide,fun lc hlc=>?_⟩
  have nlc:lf≠lc:=zac hp3 hlc
  refine zhz (lo:=0) (n:=(16:Int).toNat) (fun z acc σ H4=>(∃ v0,σ=[v0,some (.int (far:Nat))])∧Same H3 H4∧H4 lc=some (.lst acc)∧Prs H4 acc (farF far z)) ⟨⟨_,rfl⟩,zaa hlc _,zab,trivial⟩ (fun z acc σ H4 w=>w.2.2.1) ?_ ?_
  ·rintro z acc σ H4 hz ⟨⟨v0,rfl⟩,s4,h4,pr4⟩
   have zl:z<16:=hz
   rw[show (0:Int)+(z:Nat)=(z:Nat) from Int.zero_add _]
   refine⟨_,rfl,_,rfl,_,_,rfl,rfl,⟨by lia,by lia⟩,_,_,rfl,rfl,(by show (0:Int)<2;decide),rfl,_,rfl,?_⟩
   have ec:decide (V.int ((((z:Nat):Int) / ((far:Nat):Int))%2)=V.int 0)=decide (z / far%2=0):=by
    rw[zeJ,decide_eq_decide]
    have:((((z:Nat):Int) / ((far:Nat):Int))%2)=((z / far%2:Nat):Int):=by rw[Int.natCast_emod,Int.natCast_ediv];rfl
    rw[this];lia
   dsimp only
   rw[ec]
   have al:=pr4.len
   have fl:=zfr far z
   refine ite2 (fun c=>?_) (fun c=>?_)
   ·refine⟨_,rfl,_,rfl,_,rfl,_,_,rfl,rfl,(by show 2≤sizeLine;decide),fun t ht=>?_⟩
    have ez:((z:Nat):Int)+((far:Nat):Int)=((z+far:Nat):Int):=by lia
    dsimp only
    rw[ez]
    have st:=zaa ht (.tup [.int (z:Nat),.int ((z+far:Nat):Int)])
    have h5:=st _ _ h4
    refine⟨h5,by rw[al,sizeLine_eq];lia,nx hz ⟨⟨_,rfl⟩,fun b o e=>?_,zab,?_⟩⟩
    ·rw[zae (zac e hlc)];exact st _ _ (s4 _ _ e)
    ·rw[zdZ,if_pos c]
     exact((pr4.tups (Tups.of st)).tups (Tups.lst h5)).add (Tups.lst h5 _ _ zab)
   ·refine nx hz ⟨⟨_,rfl⟩,s4,h4,?_⟩
    rw[zdZ,if_neg c,List.append_nil]
    exact pr4
  ·rintro acc σ H4 ⟨⟨v0,rfl⟩,s4,h4,pr4⟩
   have pr4':Prs H4 acc (farF far 16):=pr4
   have al:=pr4'.len
   have fl:=zfr far 16
   have hp4:=s4 _ _ hp3
   refine⟨lf,lc,ps,acc,rfl,rfl,hp4,h4,by rw[sizeLine_eq];lia,?_⟩
   have tl:=Tups.lst (ys:=ps++acc) hp4
   refine⟨⟨_,rfl⟩,fun b o e=>?_,?_,ps++acc,zab,?_,?_⟩
   ·rw[zae (zac e hlf)];exact s4 _ _ (s3 _ _ e)
   ·exact tl _ _ (s4 _ _ h3)
   ·rw[efar,List.flatMap_append,List.flatMap_singleton]
    exact Prs.app ((pr3.tups (Tups.of s4)).tups tl) (pr4'.tups tl)
   ·rw[List.length_append];lia
 ·rintro σ H3 ⟨⟨v1,rfl⟩,s3,h3,ps,hp3,pr3,pl⟩
  refine⟨_,rfl,lf,_,rfl,.inl ⟨SqL.of hp3,fun fr hfr=>?_⟩⟩
  have q1:=zaa hfr (.tup ps)
  refine⟨16,rfl,by decide,fun e1 he1=>?_⟩
  have q2:=zaa he1 (.tup (nums (List.range 16)))
  refine⟨(by show 3≤sizeLine;decide),fun r hr'=>?_⟩
  have q3:=zaa hr' (.tup [.int 16,.ref fr,.ref e1])
  have u:=(q1.trans q2).trans q3
  have pr3':Prs H3 ps zed.forks:=by rw[zjz];exact pr3
  exact k r fr e1 ps _ (s3.trans u) ⟨atNew hr' _,q3 _ _ (q2 _ _ (atNew hfr _)),pr3'.tups (Tups.of u),q3 _ _ (atNew he1 (.tup (nums (List.range 16))))⟩
end
abbrev zjQ:Stmt:=top 46
def zgA:Sp:=fun vs H Q _=>∃ l:Addr,vs=[.ref l,.int 3]∧PkAt H l∧∀ r fr er ps N H',Nt.Ok N→(N.forks.length≤54∧N.lanes∈([1,2,4,8]:List Nat))→Lvl N.lanes N.forks (fun _=>True)→NetAt H' r fr er ps N→PkAt H' l→But l H H'→Q (.ref r) H'
theorem zjq:∀ lanes∈[1,2,4,8],∀ x∈[1,2,4],x<lanes→∀ lane,lane<lanes→lane / x%2=0→lane+x<lanes:=by decide
theorem zk8:∀ p,p<4→∀ x∈([1,2,4]:List Nat).take p,x∈([1,2,4]:List Nat)∧x<([1,2,4,8]:List Nat).getD p 0:=by decide
theorem zfQ (es:List Nat) (k:Nat):(nums es).eraseIdx k=nums (es.eraseIdx k):=by
 unfold nums
 rw[List.eraseIdx_eq_take_drop_succ,List.eraseIdx_eq_take_drop_succ,List.map_append,List.map_take,List.map_drop]
theorem zjb {H H8:Hp}{l lf t:Addr}{ps:List V}{fs:List (Nat × Nat)}{lanes:Nat}{f':Nat × Nat}(nlf:l≠lf) (flf:Frs l H lf) (S8:PkAt H8 l) (B8:But l H H8) (h8:H8 lf=some (.lst ps)) (p8:Prs H8 ps fs) (e8:H8 t=some (.tup [.int f'.1,.int f'.2]))
  (fok:∀ f∈fs,f.1<lanes∧f.2<lanes∧f.1≠f.2) (ok8:f'.1<lanes∧f'.2<lanes∧f'.1≠f'.2) {m:Nat}(hm:fs.length+1≤m) :
  PkAt (L2.upd H8 lf (.lst (ps++[.ref t]))) l∧But l H (L2.upd H8 lf (.lst (ps++[.ref t])))∧∃ ps2 fs2,(L2.upd H8 lf (.lst (ps++[.ref t]))) lf=some (.lst ps2)∧Prs (L2.upd H8 lf (.lst (ps++[.ref t]))) ps2 fs2∧fs2.length≤m∧∀ f∈fs2,f.1<lanes∧f.2<lanes∧f.1≠f.2 :=
 ⟨S8.upd nlf,B8.upd flf,ps++[.ref t],fs++[f'],zab,(p8.tups (Tups.lst h8)).add (Tups.lst h8 _ _ e8),by rw[List.length_append];exact hm,fun f hf=>by
  rcases List.mem_append.mp hf with z|z
  ·exact fok f z
  ·rw[List.mem_singleton.mp z];exact ok8⟩
theorem zia {H H8:Hp}{l lf t:Addr}{ps:List V}{fs:List (Nat × Nat)}{lanes:Nat}{f':Nat × Nat}(nlf:l≠lf) (flf:Frs l H lf) (S8:PkAt H8 l) (B8:But l H H8) (h8:H8 lf=some (.lst ps)) (p8:Prs H8 ps fs) (e8:H8 t=some (.tup [.int f'.1,.int f'.2]))
  (fok:∀ f∈fs,f.1<lanes∧f.2<lanes∧f.1≠f.2) (ok8:f'.1<lanes∧f'.2<lanes∧f'.1≠f'.2) {m:Nat}(hm:fs.length+1≤m) {R:List (Nat × Nat)→Prop}(hR:R (fs++[f'])) :
  PkAt (L2.upd H8 lf (.lst (ps++[.ref t]))) l∧But l H (L2.upd H8 lf (.lst (ps++[.ref t])))∧∃ ps2 fs2,(L2.upd H8 lf (.lst (ps++[.ref t]))) lf=some (.lst ps2)∧Prs (L2.upd H8 lf (.lst (ps++[.ref t]))) ps2 fs2∧fs2.length≤m∧(∀ f∈fs2,f.1<lanes∧f.2<lanes∧f.1≠f.2)∧R fs2 :=
 ⟨S8.upd nlf,B8.upd flf,ps++[.ref t],fs++[f'],zab,(p8.tups (Tups.lst h8)).add (Tups.lst h8 _ _ e8),by rw[List.length_append];exact hm,fun f hf=>(List.mem_append.mp hf).elim (fok f) (fun z=>by rw[List.mem_singleton.mp z];exact ok8),hR⟩
theorem zjW:∀ p,p<4→∀ g∈([1,2,4]:List Nat),g<([1,2,4,8]:List Nat).getD p 0→g∈([1,2,4]:List Nat).take p:=by decide
theorem zhm {row:List Nat}{kk g:Nat}(kl:kk<row.length) (h:g∉row.eraseIdx kk) (ne:g≠row[kk]):g∉row:=fun m=>by
 obtain⟨i,il,e⟩:=List.mem_iff_getElem.mp m
 refine h (List.mem_eraseIdx_iff_getElem.mpr ⟨i,il,?_,e⟩)
 rintro rfl
 exact ne e.symm
theorem ze3 {H:Hp}{ps:List V}{fs:List (Nat × Nat)}(p:Prs H ps fs) (h:fs.length≤900):ps.length<sizeLine:=by rw[p.len];exact Nat.lt_of_lt_of_le (show fs.length<1000 by lia) (by decide)
section
variable {P:Program}{w:World}{K:PySem.W.Frag}{mg:Str→Option Value}{base:Heap}
theorem scV:FnScope ["_law_left_here","_law_most","_law_power","_law_lanes","_law_forks","_law_turn","_law_k","_law_one","_law_row","_law_far","_law_lane","_law_ends"] ["_law_left_here","_law_most"] (zad zjQ):=by trivial
theorem zkk {f fK:Addr}{fd dK:FuncData}(F:Fun K "_law_even_net" "_law_even_net" zjQ f fd) (G:Mgs mg) (UK:Use P w K mg base "_law_pick" ["_law_left_here","_law_many"] 1 zdE fK dK):FnOk P w K mg base CX0 2 f fd ["_law_left_here","_law_most"] zgA:=by
 refine F.ok scV (fun vs H Q E h=>?_) (fun cdv A outer s H vs Q E hr h=>?_)
 ·obtain⟨l,rfl,_⟩:=h
  rfl
 obtain⟨l,rfl,S,k⟩:=h
 refine⟨_,(@pss_cons _ _ _ _ _ (@ps_set _ _ 2 _ _ _ _ scV.nd rfl (.inl rfl) (@pe_call _ _ _ _ _ _ _ _ _ _ _ _ _ _ _ _ UK.ok hr (by rfl) UK.m UK.kp UK.b .nil pass0 (@pa_cons _ _ _ _ _ (@qv _ 0 _ _ (by trivial)) (@pa_cons _ _ _ _ _ pe_int pa_nil (by rfl)) (by rfl)) (by decide) (by rfl) (by rfl)) (by rfl) (by first|exact .inl rfl|exact .inr rfl|assumption)) (@pss_cons _ _ _ _ _ (@ps_set _ _ 3 _ _ _ _ scV.nd rfl (.inl rfl) (@pe_ix _ _ _ _ _ _ _ ix_list (@pe_lst _ _ _ _ (@pa_cons _ _ _ _ _ pe_int (@pa_cons _ _ _ _ _ pe_int (@pa_cons _ _ _ _ _ pe_int (@pa_cons _ _ _ _ _ pe_int pa_nil (by rfl)) (by rfl)) (by rfl)) (by rfl))) (@qv _ 2 _ _ (by trivial)) (fun _ _=>rfl)) (by rfl) (by first|exact .inl rfl|exact .inr rfl|assumption)) (@pss_cons _ _ _ _ _ (@ps_set _ _ 4 _ _ _ _ scV.nd rfl (.inl rfl) (@pe_lst _ _ _ _ pa_nil) (by rfl) (by first|exact .inl rfl|exact .inr rfl|assumption)) (@pss_cons _ _ _ _ _ (@ps_for _ _ _ _ _ _ _ _ PassesOwn.never rfl (@pi_range1 _ _ _ _ _ _ rfl G.range (@pa_cons _ _ _ _ _ (@pe_op _ _ _ _ _ _ _ _ op_add pe_int (@pe_call _ _ _ _ _ _ _ _ _ _ _ _ _ _ _ _ UK.ok hr (by rfl) UK.m UK.kp UK.b .nil pass0 (@pa_cons _ _ _ _ _ (@qv _ 0 _ _ (by trivial)) (@pa_cons _ _ _ _ _ pe_int pa_nil (by rfl)) (by rfl)) (by decide) (by rfl) (by rfl))) pa_nil (by rfl)) (by rfl)) (@pg_name _ _ 5 _ scV.nd rfl (.inl rfl) (by first|exact .inl rfl|exact .inr rfl|assumption)) (@pss_cons _ _ _ _ _ (@ps_for _ _ _ _ _ _ _ _ PassesOwn.never rfl (@pi_range1 _ _ _ _ _ _ rfl G.range (@pa_cons _ _ _ _ _ (@pe_op _ _ _ _ _ _ _ _ op_mul (@pe_call _ _ _ _ _ _ _ _ _ _ _ _ _ _ _ _ UK.ok hr (by rfl) UK.m UK.kp UK.b .nil pass0 (@pa_cons _ _ _ _ _ (@qv _ 0 _ _ (by trivial)) (@pa_cons _ _ _ _ _ (@pe_op _ _ _ _ _ _ _ _ op_add pe_int (@qv _ 1 _ _ (by trivial))) pa_nil (by rfl)) (by rfl)) (by decide) (by rfl) (by rfl)) (@pe_callTy _ _ _ _ _ _ _ _ _ zd6 (by rfl) G.int (by rfl) (@pa_cons _ _ _ _ _ (@pe_cmpR _ _ _ _ _ _ _ _ zkb (@qv _ 3 _ _ (by trivial)) pe_int (nomark _)) pa_nil (by rfl)) (by decide) (by decide) (by rfl) (by rfl))) pa_nil (by rfl)) (by rfl)) (@pg_name _ _ 6 _ scV.nd rfl (.inl rfl) (by first|exact .inl rfl|exact .inr rfl|assumption)) (@pss_cons _ _ _ _ _ (@ps_set _ _ 7 _ _ _ _ scV.nd rfl (.inl rfl) (@pe_call _ _ _ _ _ _ _ _ _ _ _ _ _ _ _ _ UK.ok hr (by rfl) UK.m UK.kp UK.b .nil pass0 (@pa_cons _ _ _ _ _ (@qv _ 0 _ _ (by trivial)) (@pa_cons _ _ _ _ _ (@qv _ 3 _ _ (by trivial)) pa_nil (by rfl)) (by rfl)) (by decide) (by rfl) (by rfl)) (by rfl) (by first|exact .inl rfl|exact .inr rfl|assumption)) (@pss_one _ _ _ (@ps_expr _ _ _ _ (@pe_bm _ _ _ _ _ _ _ _ _ _ _ _ PySem.F.plainAttrs_list PySem.F.slot_list_append PySem.F.type_list_append mt_append (@qv _ 4 _ _ (by trivial)) (@pa_cons _ _ _ _ _ (@pe_tup _ _ _ _ _ (@pa_cons _ _ _ _ _ (@qv _ 7 _ _ (by trivial)) (@pa_cons _ _ _ _ _ (@pe_op _ _ _ _ _ _ _ _ op_mod (@pe_op _ _ _ _ _ _ _ _ op_add (@pe_op _ _ _ _ _ _ _ _ op_add (@qv _ 7 _ _ (by trivial)) pe_int) (@pe_call _ _ _ _ _ _ _ _ _ _ _ _ _ _ _ _ UK.ok hr (by rfl) UK.m UK.kp UK.b .nil pass0 (@pa_cons _ _ _ _ _ (@qv _ 0 _ _ (by trivial)) (@pa_cons _ _ _ _ _ (@pe_op _ _ _ _ _ _ _ _ zhb (@qv _ 3 _ _ (by trivial)) pe_int) pa_nil (by rfl)) (by rfl)) (by decide) (by rfl) (by rfl))) (@qv _ 3 _ _ (by trivial))) pa_nil (by rfl)) (by rfl))) pa_nil (by rfl)) (by rfl) (by rfl) (by rfl) (by rfl) (by rfl)) (by rfl)))) (by intro _;rfl)) (@pss_cons _ _ _ _ _ (@ps_set _ _ 8 _ _ _ _ scV.nd rfl (.inl rfl) (@pe_slice _ _ _ _ _ _ _ _ _ _ sl_list (@pe_lst _ _ _ _ (@pa_cons _ _ _ _ _ pe_int (@pa_cons _ _ _ _ _ pe_int (@pa_cons _ _ _ _ _ pe_int pa_nil (by rfl)) (by rfl)) (by rfl))) po_none (@po_some _ _ _ (@qv _ 2 _ _ (by trivial)))) (by rfl) (by first|exact .inl rfl|exact .inr rfl|assumption)) (@pss_one _ _ _ (@ps_while _ _ _ _ _ _ PassesOwn.never (@pt_cmpR _ _ _ _ _ _ _ _ (op_neE hr.units0) (@qv _ 8 _ _ (by trivial)) (@pe_lst _ _ _ _ pa_nil) (nomark _)) (@pss_cons _ _ _ _ _ (@ps_set _ _ 9 _ _ _ _ scV.nd rfl (.inl rfl) (@pe_bm _ _ _ _ _ _ _ _ _ _ _ _ PySem.F.plainAttrs_list PySem.F.slot_list_pop PySem.F.type_list_pop mt_popAt (@qv _ 8 _ _ (by trivial)) (@pa_cons _ _ _ _ _ (@pe_call _ _ _ _ _ _ _ _ _ _ _ _ _ _ _ _ UK.ok hr (by rfl) UK.m UK.kp UK.b .nil pass0 (@pa_cons _ _ _ _ _ (@qv _ 0 _ _ (by trivial)) (@pa_cons _ _ _ _ _ (@pe_callB _ _ _ _ _ _ _ _ _ call_len_seq (by rfl) G.len PySem.boot_len (@pa_cons _ _ _ _ _ (@qv _ 8 _ _ (by trivial)) pa_nil (by rfl)) (by decide) (by decide) (by rfl) (by rfl)) pa_nil (by rfl)) (by rfl)) (by decide) (by rfl) (by rfl)) pa_nil (by rfl)) (by rfl) (by rfl) (by rfl) (by rfl) (by rfl)) (by rfl) (by first|exact .inl rfl|exact .inr rfl|assumption)) (@pss_one _ _ _ (@ps_for _ _ _ _ _ _ _ _ PassesOwn.never rfl (@pi_range1 _ _ _ _ _ _ rfl G.range (@pa_cons _ _ _ _ _ (@qv _ 3 _ _ (by trivial)) pa_nil (by rfl)) (by rfl)) (@pg_name _ _ 10 _ scV.nd rfl (.inl rfl) (by first|exact .inl rfl|exact .inr rfl|assumption)) (@pss_one _ _ _ (@ps_if _ _ _ _ _ _ _ _ (@pt_cmpR _ _ _ _ _ _ _ _ op_eq (@pe_op _ _ _ _ _ _ _ _ op_mod (@pe_op _ _ _ _ _ _ _ _ op_fdiv (@qv _ 10 _ _ (by trivial)) (@qv _ 9 _ _ (by trivial))) pe_int) pe_int (nomark _)) (@pss_one _ _ _ (@ps_expr _ _ _ _ (@pe_bm _ _ _ _ _ _ _ _ _ _ _ _ PySem.F.plainAttrs_list PySem.F.slot_list_append PySem.F.type_list_append mt_append (@qv _ 4 _ _ (by trivial)) (@pa_cons _ _ _ _ _ (@pe_ix _ _ _ _ _ _ _ ix_list (@pe_lst _ _ _ _ (@pa_cons _ _ _ _ _ (@pe_tup _ _ _ _ _ (@pa_cons _ _ _ _ _ (@qv _ 10 _ _ (by trivial)) (@pa_cons _ _ _ _ _ (@pe_op _ _ _ _ _ _ _ _ op_add (@qv _ 10 _ _ (by trivial)) (@qv _ 9 _ _ (by trivial))) pa_nil (by rfl)) (by rfl))) (@pa_cons _ _ _ _ _ (@pe_tup _ _ _ _ _ (@pa_cons _ _ _ _ _ (@pe_op _ _ _ _ _ _ _ _ op_add (@qv _ 10 _ _ (by trivial)) (@qv _ 9 _ _ (by trivial))) (@pa_cons _ _ _ _ _ (@qv _ 10 _ _ (by trivial)) pa_nil (by rfl)) (by rfl))) pa_nil (by rfl)) (by rfl))) (@pe_op _ _ _ _ _ _ _ _ op_fdiv (@pe_call _ _ _ _ _ _ _ _ _ _ _ _ _ _ _ _ UK.ok hr (by rfl) UK.m UK.kp UK.b .nil pass0 (@pa_cons _ _ _ _ _ (@qv _ 0 _ _ (by trivial)) (@pa_cons _ _ _ _ _ pe_int pa_nil (by rfl)) (by rfl)) (by decide) (by rfl) (by rfl)) pe_int) (fun _ _=>rfl)) pa_nil (by rfl)) (by rfl) (by rfl) (by rfl) (by rfl) (by rfl)) (by rfl))) pss_nil)) (by intro _;rfl)))))))) (by intro _;rfl)) (@pss_cons _ _ _ _ _ (@ps_set _ _ 11 _ _ _ _ scV.nd rfl (.inl rfl) (@pe_lst _ _ _ _ pa_nil) (by rfl) (by first|exact .inl rfl|exact .inr rfl|assumption)) (@pss_cons _ _ _ _ _ (@ps_for _ _ _ _ _ _ _ _ PassesOwn.never rfl (@pi_range1 _ _ _ _ _ _ rfl G.range (@pa_cons _ _ _ _ _ (@qv _ 3 _ _ (by trivial)) pa_nil (by rfl)) (by rfl)) (@pg_name _ _ 10 _ scV.nd rfl (.inl rfl) (by first|exact .inl rfl|exact .inr rfl|assumption)) (@pss_one _ _ _ (@ps_expr _ _ _ _ (@pe_bm _ _ _ _ _ _ _ _ _ _ _ _ PySem.F.plainAttrs_list PySem.F.slot_list_insert PySem.F.type_list_insert mt_insert (@qv _ 11 _ _ (by trivial)) (@pa_cons _ _ _ _ _ (@pe_call _ _ _ _ _ _ _ _ _ _ _ _ _ _ _ _ UK.ok hr (by rfl) UK.m UK.kp UK.b .nil pass0 (@pa_cons _ _ _ _ _ (@qv _ 0 _ _ (by trivial)) (@pa_cons _ _ _ _ _ (@pe_op _ _ _ _ _ _ _ _ op_add (@pe_callB _ _ _ _ _ _ _ _ _ call_len_seq (by rfl) G.len PySem.boot_len (@pa_cons _ _ _ _ _ (@qv _ 11 _ _ (by trivial)) pa_nil (by rfl)) (by decide) (by decide) (by rfl) (by rfl)) pe_int) pa_nil (by rfl)) (by rfl)) (by decide) (by rfl) (by rfl)) (@pa_cons _ _ _ _ _ (@qv _ 10 _ _ (by trivial)) pa_nil (by rfl)) (by rfl)) (by rfl) (by rfl) (by rfl) (by rfl) (by rfl)) (by rfl))) (by intro _;rfl)) (@pss_one _ _ _ (@ps_ret _ _ _ _ (@pe_tup _ _ _ _ _ (@pa_cons _ _ _ _ _ (@qv _ 3 _ _ (by trivial)) (@pa_cons _ _ _ _ _ (@pe_callTy _ _ _ _ _ _ _ _ _ call_tuple_of (by rfl) G.tuple (by rfl) (@pa_cons _ _ _ _ _ (@qv _ 4 _ _ (by trivial)) pa_nil (by rfl)) (by decide) (by decide) (by rfl) (by rfl)) (@pa_cons _ _ _ _ _ (@pe_ix _ _ _ _ _ _ _ ix_list (@pe_lst _ _ _ _ (@pa_cons _ _ _ _ _ (@pe_callTy _ _ _ _ _ _ _ _ _ call_tuple_of (by rfl) G.tuple (by rfl) (@pa_cons _ _ _ _ _ (@qv _ 11 _ _ (by trivial)) pa_nil (by rfl)) (by decide) (by decide) (by rfl) (by rfl)) (@pa_cons _ _ _ _ _ (@pe_tupRng _ _ _ _ _ _ _ rfl (by rfl) G.tuple (by rfl) G.range (@pa_cons _ _ _ _ _ (@qv _ 3 _ _ (by trivial)) pa_nil (by rfl)) (by rfl) (by rfl)) pa_nil (by rfl)) (by rfl))) (@pe_call _ _ _ _ _ _ _ _ _ _ _ _ _ _ _ _ UK.ok hr (by rfl) UK.m UK.kp UK.b .nil pass0 (@pa_cons _ _ _ _ _ (@qv _ 0 _ _ (by trivial)) (@pa_cons _ _ _ _ _ pe_int pa_nil (by rfl)) (by rfl)) (by decide) (by rfl) (by rfl)) (fun _ _=>rfl)) pa_nil (by rfl)) (by rfl)) (by rfl))))))))))),?_⟩
 refine⟨_,rfl,l,4,rfl,by decide,by decide,S,fun pw H1 hpw S1 B1=>?_⟩
 have pl4:pw<4:=by lia
 refine⟨(by show 4≤sizeLine;decide),fun p hp=>?_⟩
 have s2:=zaa hp (.lst [.int 1,.int 2,.int 4,.int 8])
 have S2:=S1.keep s2
 have B2:But l H _:=B1.trans (But.of s2)
 obtain⟨lanes,elanes⟩:∃ lanes,lanes=([1,2,4,8]:List Nat).getD pw 0:=⟨_,rfl⟩
 have hat:atI (nums [1,2,4,8]) ((pw:Nat):Int)=some (.int lanes):=by
  rw[zkT (by show pw<4;lia),elanes,List.getD_eq_getElem?_getD,List.getElem?_eq_getElem (by show pw<4;lia)];rfl
 have lmem:lanes∈([1,2,4,8]:List Nat):=by
  rw[elanes,List.getD_eq_getElem?_getD,List.getElem?_eq_getElem (by show pw<4;lia)];exact List.getElem_mem _
 have lb:∀ n∈([1,2,4,8]:List Nat),1≤n∧n≤8:=by decide
 obtain⟨l1,l8⟩:=lb lanes lmem
 refine⟨_,rfl,p,_,_,_,rfl,rfl,SqL.of zab,hat,?_⟩
 generalize L2.upd H1 p (.lst [.int 1,.int 2,.int 4,.int 8])=H2 at *
 refine⟨(by show 0≤sizeLine;decide),fun lf hlf=>?_⟩
 have nlf:=S2.ne hlf
 have flf:=B2.frs hlf
 refine⟨_,rfl,l,2,rfl,by decide,by decide,S2.upd nlf,fun tv H3 htv S3 B3=>⟨_,_,rfl,rfl,?_⟩⟩
 have h3:H3 lf=some (.lst []):=B3 lf _ zab nlf.symm
 refine⟨_,rfl,by lia,by lia,?_⟩
 refine zav (lo:=0) (n:=(1+((tv:Nat):Int)).toNat) (fun i σ H4=>(∃ w5 w6 w7 w8 w9 w10 w11,σ=[some (.ref l),some (.int 3),some (.int pw),some (.int lanes),some (.ref lf),w5,w6,w7,w8,w9,w10,w11])∧PkAt H4 l∧But l H H4∧∃ ps fs,H4 lf=some (.lst ps)∧Prs H4 ps fs∧fs.length≤27*i∧(∀ f∈fs,f.1<lanes∧f.2<lanes∧f.1≠f.2)∧(0<i→Lvl lanes fs fun _=>True))
  ⟨⟨_,_,_,_,_,_,_,rfl⟩,S3,(B2.upd flf).trans B3,[],[],h3,trivial,Nat.le_refl _,fun f hf=>by simp at hf,fun h=>absurd h (Nat.lt_irrefl _)⟩ ?_ ?_
 ·rintro i σ H4 hi ⟨⟨w5,w6,w7,w8,w9,w10,w11,rfl⟩,S4,B4,ps,fs,h4,p4,len,fok,_⟩
  have i2:i<2:=by lia
  refine⟨_,rfl,_,rfl,_,_,rfl,rfl,l,4,rfl,by decide,by decide,S4,fun kv H5 hkv S5 B5=>?_⟩
  refine⟨_,rfl,_,_,rfl,rfl,.inr ⟨_,rfl,_,_,rfl,rfl,.inl ⟨by lia,by lia⟩,?_⟩⟩
  have cb:((kv:Int)*(if decide ((1:Int)<lanes)=true then 1 else 0))=((if 1<lanes then kv else 0:Nat):Int):=by
   by_cases z:1<lanes
   ·rw[if_pos (decide_eq_true (by lia)),if_pos z];lia
   ·rw[if_neg (by rw[decide_eq_false (by lia)];exact Bool.false_ne_true),if_neg z];lia
  have cl:(if 1<lanes then kv else 0)≤3:=by split<;>lia
  refine⟨_,rfl,by rw[cb];lia,by rw[cb];lia,?_⟩
  rw[cb]
  generalize hcnt:(if 1<lanes then kv else 0)=cnt at cl
  refine zav (lo:=0) (n:=((cnt:Nat):Int).toNat) (fun j σ H6=>(∃ w6 w7 w8 w9 w10 w11,σ=[some (.ref l),some (.int 3),some (.int pw),some (.int lanes),some (.ref lf),some (.int (0+(i:Nat))),w6,w7,w8,w9,w10,w11])∧PkAt H6 l∧But l H H6∧∃ ps fs,H6 lf=some (.lst ps)∧Prs H6 ps fs∧fs.length≤27*i+j∧∀ f∈fs,f.1<lanes∧f.2<lanes∧f.1≠f.2)
   ⟨⟨_,_,_,_,_,_,rfl⟩,S5,B4.trans B5,ps,fs,B5 lf _ h4 nlf.symm,p4.tups (B5.tups S4),len,fok⟩ ?_ ?_
  ·rintro j σ H6 hj ⟨⟨w6,w7,w8,w9,w10,w11,rfl⟩,S6,B6,ps,fs,h6,p6,len,fok⟩
   have jc:j<cnt:=by lia
   have l2:1<lanes:=by
    by_cases z:1<lanes
    ·exact z
    ·rw[if_neg z]at hcnt;lia
   refine⟨_,rfl,_,rfl,l,lanes,rfl,by lia,by lia,S6,fun one H7 ho S7 B7=>?_⟩
   have h7:=B7 lf _ h6 nlf.symm
   refine⟨_,rfl,.inl ⟨rfl,_,SqL.of h7⟩,_,rfl,_,rfl,_,_,rfl,rfl,_,rfl,_,rfl,_,_,rfl,rfl,l,_,rfl,by lia,by lia,S7,fun d H8 hd S8 B8=>?_⟩
   refine⟨_,_,rfl,rfl,_,rfl,_,_,rfl,rfl,by lia,(by show 2≤sizeLine;decide),fun t ht=>?_⟩
   obtain⟨ok1,ok2⟩:=ziv (one:=one) (d:=d) (lanes:=lanes) (by lia) (by lia)
   have ec:((one:Int)+1+d)%lanes=(((one+1+d)%lanes:Nat):Int):=by rw[Int.natCast_emod,Int.natCast_add,Int.natCast_add];rfl
   have st:=zaa ht (.tup [.int one,.int (((one:Int)+1+d)%lanes)])
   have h9:=st _ _ (B8 lf _ h7 nlf.symm)
   have p9:=(p6.tups ((B7.tups S6).trans (B8.tups S7))).tups (Tups.of st)
   exact⟨lf,_,_,rfl,rfl,h9,ze3 p9 (by lia),⟨_,_,_,_,_,_,rfl⟩,zjb (f':=(one,(one+1+d)%lanes)) nlf flf (S8.keep st) (((B6.trans B7).trans B8).trans (But.of st)) h9 p9 (by rw[← ec];exact zab) fok ⟨by show one<lanes;lia,ok1,ok2⟩ (by lia)⟩
  rintro σ H6 ⟨⟨w6,w7,w8,w9,w10,w11,rfl⟩,S6,B6,ps,fs,h6,p6,len,fok⟩
  refine⟨(by show 3≤sizeLine;decide),fun p3 hp3=>?_⟩
  have s7:=zaa hp3 (.lst [.int 1,.int 2,.int 4])
  refine⟨_,rfl,_,rfl,p3,_,rfl,SqL.of zab,fun lw hlw=>?_⟩
  rw[zca _ pw (by show pw≤3;lia)]
  have s8:=s7.trans (zaa hlw (.lst (([.int 1,.int 2,.int 4]:List V).take pw)))
  have nlw:=(S6.keep s7).ne hlw
  have nfw:lf≠lw:=zac (s7 _ _ h6) hlw
  have flw:=(B6.trans (But.of s7)).frs hlw
  refine⟨fun m σ H9=>(∃ w6 w7 w9 w10 w11,σ=[some (.ref l),some (.int 3),some (.int pw),some (.int lanes),some (.ref lf),some (.int (0+(i:Nat))),w6,w7,some (.ref lw),w9,w10,w11])∧m≤3∧PkAt H9 l∧But l H H9∧∃ row:List Nat,(row.length=m∧H9 lw=some (.lst (nums row))∧∀ x∈row,x∈([1,2,4]:List Nat)∧x<lanes)∧∃ ps fs,H9 lf=some (.lst ps)∧Prs H9 ps fs∧fs.length≤27*i+3+8*(3-m)∧(∀ f∈fs,f.1<lanes∧f.2<lanes∧f.1≠f.2)∧Lvl lanes fs (fun g=>g∉row),
   ⟨_,⟨_,_,_,_,_,rfl⟩,?_,S6.keep s8,B6.trans (But.of s8),([1,2,4]:List Nat).take pw,⟨rfl,?_,?_⟩,ps,fs,s8 _ _ h6,p6.tups (Tups.of s8),by lia,fok,fun c _ g gm gl gn=>absurd (zjW pw pl4 g gm (by rw[← elanes];exact gl)) gn⟩,?_⟩
  ·rw[List.length_take];exact Nat.min_le_right _ _
  ·rw[zab];unfold nums;rw[List.map_take];rfl
  ·intro x hx
   have:=zk8 pw pl4 x hx
   rw[elanes];exact this
  rintro m σ H9 ⟨⟨w6,w7,w9,w10,w11,rfl⟩,m3,S9,B9,row,⟨rl,hrow,rok⟩,ps,fs,h9,p9,len,fok,lv⟩
  refine⟨_,rfl,(by show 0≤sizeLine;decide),fun e he=>?_⟩
  have s10:=zaa he (.lst [])
  refine⟨lw,e,_,rfl,rfl,SqL.of (s10 _ _ hrow),SqL.of zab,_,rfl,?_⟩
  generalize L2.upd H9 e (.lst [])=H10 at *
  have S10:=S9.keep s10
  have B10:But l H H10:=B9.trans (But.of s10)
  have h10:=s10 _ _ h9
  have p10:=p9.tups (Tups.of s10)
  have hrow10:=s10 _ _ hrow
  by_cases rn:row=[]
  ·rw[show (!(nums row).isEmpty)=false by rw[rn];rfl]
   exact iteF ⟨⟨_,_,_,_,_,_,_,rfl⟩,S10,B10,ps,fs,h10,p10,by lia,fok,fun _ c hc g gm gl _=>lv c hc g gm gl (by rw[rn];exact List.not_mem_nil)⟩
  have rp:0<row.length:=List.length_pos_iff.mpr rn
  rw[show (!(nums row).isEmpty)=true by cases row with
   | nil=>exact absurd rfl rn
   | cons a b=>rfl]
  refine iteT ⟨_,fun σ' H' hN=>⟨m-1,by lia,hN⟩,?_⟩
  refine⟨_,rfl,.inl ⟨rfl,_,SqL.of hrow10⟩,_,rfl,_,rfl,lw,_,rfl,.inl (SqL.of hrow10),l,_,rfl,by rw[zag];lia,by rw[zag];lia,S10,fun kk H11 hk S11 B11=>?_⟩
  rw[zag]at hk
  have kl:kk<row.length:=by lia
  have hrow11:=B11 lw _ hrow10 nlw.symm
  refine⟨lw,_,_,kk,.int row[kk],rfl,rfl,hrow11,by lia,by lia,?_,?_,?_⟩
  ·exact(zeI (zb5 (xs:=nums row) (i:=kk) (by rw[zag];exact kl))).1
  ·unfold nums;rw[List.getElem?_map,List.getElem?_eq_getElem kl];rfl
  have rk:=rok _ (List.getElem_mem kl)
  have fp:1≤row[kk]∧row[kk]≤4:=by
   have:∀ x∈([1,2,4]:List Nat),1≤x∧x≤4:=by decide
   exact this _ rk.1
  generalize hfar:row[kk]=far at *
  have T12:=(B11.tups S10).trans (Tups.lst (ys:=(nums row).eraseIdx kk) hrow11)
  obtain⟨fs0,efs0⟩:∃ z,z=fs:=⟨_,rfl⟩
  refine⟨_,rfl,lanes,rfl,by lia,by lia,?_⟩
  refine zav (lo:=0) (n:=((lanes:Nat):Int).toNat) (fun j σ H12=>(∃ w6 w7 w10 w11,σ=[some (.ref l),some (.int 3),some (.int pw),some (.int lanes),some (.ref lf),some (.int (0+(i:Nat))),w6,w7,some (.ref lw),some (.int far),w10,w11])∧H12 lw=some (.lst (nums (row.eraseIdx kk)))∧PkAt H12 l∧But l H H12∧∃ ps fs,H12 lf=some (.lst ps)∧Prs H12 ps fs∧fs.length≤27*i+3+8*(3-m)+j∧(∀ f∈fs,f.1<lanes∧f.2<lanes∧f.1≠f.2)∧∀ c:List Int,c.length=lanes→Mid lanes far j (zaq fs0 c) (zaq fs c))
   ⟨⟨_,_,_,_,rfl⟩,by rw[zab,zfQ],S11.upd nlw,(B10.trans B11).upd flw,ps,fs,by rw[zae nfw];exact B11 lf _ h10 nlf.symm,p10.tups T12,len,fok,fun c hc=>by rw[efs0];exact Mid.start (by rw[zbU];exact hc)⟩ ?_ ?_
  ·rintro j σ H12 hj ⟨⟨w6,w7,w10,w11,rfl⟩,hw12,S12,B12,ps,fs,h12,p12,len,fok,mid⟩
   have jl:j<lanes:=by lia
   rw[Int.zero_add]
   refine⟨_,rfl,_,rfl,_,_,rfl,rfl,⟨by lia,by lia⟩,_,_,rfl,rfl,(by show (0:Int)<2;decide),rfl,_,rfl,?_⟩
   have ev:((j:Int) / far%2)=((j / far%2:Nat):Int):=by rw[Int.natCast_emod,Int.natCast_ediv];rfl
   dsimp only
   by_cases z:j / far%2=0
   ·rw[show decide (V.int ((j:Int) / far%2)=V.int 0)=true from decide_eq_true (by rw[ev,z];rfl)]
    have fl:=zjq lanes lmem far rk.1 rk.2 j jl z
    refine iteT ⟨_,rfl,.inl ⟨rfl,_,SqL.of h12⟩,_,rfl,_,rfl,_,rfl,_,_,rfl,rfl,(by show 2≤sizeLine;decide),fun t1 ht1=>?_⟩
    have q1:=zaa ht1 (.tup [.int j,.int ((j:Int)+far)])
    refine⟨_,rfl,_,rfl,_,_,rfl,rfl,_,rfl,(by show 2≤sizeLine;decide),fun t2 ht2=>?_⟩
    have q2:=zaa ht2 (.tup [.int ((j:Int)+far),.int j])
    refine⟨(by show 2≤sizeLine;decide),fun q hq=>?_⟩
    have q3:=zaa hq (.lst [.ref t1,.ref t2])
    have q123:=(q1.trans q2).trans q3
    have S13:=S12.keep q123
    have nq:q≠l:=((S12.keep (q1.trans q2)).ne hq).symm
    refine⟨_,rfl,l,4,rfl,by decide,by decide,S13,fun v H14 hv S14 B14=>⟨_,_,rfl,rfl,⟨by decide,by decide⟩,?_⟩⟩
    have T14:=B14.tups S13
    have g1:=T14 _ _ (q3 _ _ (q2 _ _ (show L2.upd H12 t1 _ t1=_ from zab)))
    have g2:=T14 _ _ (q3 _ _ (show L2.upd (L2.upd H12 t1 _) t2 _ t2=_ from zab))
    have h14:=B14 lf _ (q123 _ _ h12) nlf.symm
    have w14:=B14 lw _ (q123 _ _ hw12) nlw.symm
    have p14:=(p12.tups (Tups.of q123)).tups T14
    have ev2:((v:Int) / 3)=((v / 3:Nat):Int):=by rw[Int.natCast_ediv];rfl
    obtain⟨t',f2,hat4,e4,ok4,ef4⟩:∃ (t':Addr) (f2:Nat × Nat),atI [V.ref t1,V.ref t2] ((v:Int) / 3)=some (.ref t')∧H14 t'=some (.tup [.int f2.1,.int f2.2])∧(f2.1<lanes∧f2.2<lanes∧f2.1≠f2.2)∧(f2=(j,j+far)∨f2=(j+far,j)):=by
     rw[ev2]
     have v3:v / 3=0∨v / 3=1:=by lia
     rcases v3 with e|e
     ·rw[e];exact⟨t1,(j,j+far),zaN rfl,g1,⟨jl,fl,by show j≠j+far;lia⟩,.inl rfl⟩
     ·rw[e];exact⟨t2,(j+far,j),zaN rfl,g2,⟨fl,jl,by show j+far≠j;lia⟩,.inr rfl⟩
    have af:=zia (m:=27*i+3+8*(3-m)+(j+1)) (R:=fun fs=>∀ c:List Int,c.length=lanes→Mid lanes far (j+1) (zaq fs0 c) (zaq fs c)) nlf flf S14 ((B12.trans (But.of q123)).trans B14) h14 p14 e4 fok ok4 (by lia) (fun c hc=>by rw[zeL];exact(mid c hc).step (by lia) z fl ef4)
    exact⟨q,_,_,_,rfl,rfl,SqL.of (B14 q _ zab nq),hat4,lf,_,_,rfl,rfl,h14,ze3 p14 (by lia),⟨_,_,_,_,rfl⟩,by rw[zae nfw.symm];exact w14,af⟩
   ·rw[show decide (V.int ((j:Int) / far%2)=V.int 0)=false from decide_eq_false (by intro y;have:=V.int.inj y;lia)]
    exact iteF ⟨⟨_,_,_,_,rfl⟩,hw12,S12,B12,ps,fs,h12,p12,by lia,fok,fun c hc=>(mid c hc).skip z⟩
  ·rintro σ H12 ⟨⟨w6,w7,w10,w11,rfl⟩,hw12,S12,B12,ps,fs,h12,p12,len,fok,mid⟩
   refine⟨⟨_,_,_,_,_,rfl⟩,by lia,S12,B12,row.eraseIdx kk,⟨?_,hw12,fun x hx=>rok x (List.mem_of_mem_eraseIdx hx)⟩,ps,fs,h12,p12,by lia,fok,fun c hc g gm gl gn=>?_⟩
   ·rw[List.length_eraseIdx,if_pos kl];lia
   ·have md:=mid c hc
    rw[show ((lanes:Nat):Int).toNat=lanes from by lia]at md
    by_cases e:g=far
    ·rw[e];exact md.both
    ·exact md.keeps lmem gm rk.1 gl rk.2 e (by rw[efs0];exact lv c hc g gm gl (zhm kl gn (by rw[hfar];exact e)))
 rintro σ H4 ⟨⟨w5,w6,w7,w8,w9,w10,w11,rfl⟩,S4,B4,ps,fs,h4,p4,len,fok,lv4⟩
 have lv:=lv4 (by lia)
 have f60:fs.length≤54:=by lia
 have fl:fs.length≤128:=by lia
 refine⟨(by show 0≤sizeLine;decide),fun le hle=>?_⟩
 have nle:=S4.ne hle
 have nfe:lf≠le:=zac h4 hle
 have fle:=B4.frs hle
 refine⟨_,rfl,lanes,rfl,by lia,by lia,zav (lo:=0) (n:=((lanes:Nat):Int).toNat) (fun i σ H5=>(∃ w10,σ=[some (.ref l),some (.int 3),some (.int pw),some (.int lanes),some (.ref lf),w5,w6,w7,w8,w9,w10,some (.ref le)])∧PkAt H5 l∧But l H H5∧H5 lf=some (.lst ps)∧Prs H5 ps fs∧∃ es:List Nat,H5 le=some (.lst (nums es))∧es.Perm (List.range i))
   ⟨⟨_,rfl⟩,S4.upd nle,B4.upd fle,by rw[zae nfe];exact h4,p4.tups (Tups.of (zaa hle _)),[],zab,.nil⟩ ?_ ?_⟩
 ·rintro i σ H5 hi ⟨⟨w10,rfl⟩,S5,B5,h5,p5,es,h6,pe⟩
  have il:i<lanes:=by lia
  have el:es.length=i:=by rw[pe.length_eq,List.length_range]
  refine⟨_,rfl,.inl ⟨rfl,_,SqL.of h6⟩,_,rfl,_,rfl,le,_,rfl,.inl (SqL.of h6),_,_,rfl,rfl,l,_,rfl,by lia,by rw[zag];lia,S5,fun v H7 hv S7 B7=>?_⟩
  have h7:=B7 le _ h6 nle.symm
  rw[zag]at hv
  refine⟨_,rfl,le,_,_,v,rfl,rfl,h7,by rw[zag];lia,by rw[zag];lia,⟨_,rfl⟩,S7.upd nle,(B5.trans B7).upd fle,?_,?_,es.take v++i::es.drop v,?_,ziX pe⟩
  ·rw[zae nfe];exact B7 lf _ h5 nlf.symm
  ·exact(p5.tups (B7.tups S5)).tups (Tups.lst h7)
  ·rw[zab,Int.zero_add,ziL]
 rintro σ H5 ⟨⟨w10,rfl⟩,S5,B5,h5,p5,es,h6,pe⟩
 have pe':es.Perm (List.range lanes):=by
  have e:((lanes:Nat):Int).toNat=lanes:=by lia
  rw[e]at pe;exact pe
 refine⟨_,rfl,_,rfl,lf,_,rfl,.inl ⟨SqL.of h5,fun fr hfr=>?_⟩⟩
 have s1:=zaa hfr (.tup ps)
 refine⟨_,rfl,le,_,rfl,.inl ⟨SqL.of (s1 _ _ h6),fun e1 he1=>?_⟩⟩
 have s2':=s1.trans (zaa he1 (.tup (nums es)))
 refine⟨_,rfl,lanes,rfl,by lia,fun e2 he2=>?_⟩
 have s3:=s2'.trans (zaa he2 (if false=true then HO.lst (upTo lanes) else .tup (upTo lanes)))
 refine⟨(by show 2≤sizeLine;decide),fun q hq=>?_⟩
 have s4:=s3.trans (zaa hq (.lst [.ref e1,.ref e2]))
 have B6:But l H _:=B5.trans (But.of s4)
 refine⟨_,rfl,l,2,rfl,by decide,by decide,S5.keep s4,fun v H7 hv S7 B7=>?_⟩
 have nq:q≠l:=((S5.keep s3).ne hq).symm
 have hq7:=B7 q _ zab nq
 have T7:=B7.tups (S5.keep s4)
 have g1:H7 e1=some (.tup (nums es)):=T7 _ _ ((((Tups.of (zaa he2 _)).trans (Tups.of (zaa hq _)))) _ _ zab)
 have g2:H7 e2=some (.tup (nums (List.range lanes))):=T7 _ _ ((Tups.of (zaa hq _)) _ _ zab)
 have g0:H7 fr=some (.tup ps):=T7 _ _ ((((Tups.of (zaa he1 _)).trans (Tups.of (zaa he2 _))).trans (Tups.of (zaa hq _))) _ _ zab)
 have pr:=(p5.tups (Tups.of s4)).tups T7
 obtain⟨er,en,hat',hen,hpe⟩:∃ (er:Addr) (en:List Nat),atI [V.ref e1,V.ref e2] ((v:Nat):Int)=some (.ref er)∧H7 er=some (.tup (nums en))∧en.Perm (List.range lanes):=by
  have vl:v<2:=by lia
  rcases v with _|_|v
  ·exact⟨e1,es,zaN rfl,g1,pe'⟩
  ·exact⟨e2,_,zaN rfl,g2,.refl _⟩
  ·lia
 refine⟨q,_,_,_,rfl,rfl,SqL.of hq7,hat',(by show 3≤sizeLine;decide),fun r hr'=>?_⟩
 have s5:=zaa hr' (.tup [.int lanes,.ref fr,.ref er])
 exact k r fr er ps ⟨lanes,fs,en⟩ _ ⟨l1,by show lanes≤16;lia,fl,fok,hpe⟩ ⟨f60,lmem⟩ lv ⟨zab,s5 _ _ g0,pr.tups (Tups.of s5),s5 _ _ hen⟩ (S7.keep s5) ((B6.trans B7).trans (But.of s5))
end
end K70
namespace Bn
open PySem L2 Own
theorem ze9 (xs:List Int) (i x:Nat) (v:Int):(xs.set i v).getD x 0=if i=x∧x<xs.length then v else xs.getD x 0:=by
 rw[List.getD_eq_getElem?_getD,List.getElem?_set,List.getD_eq_getElem?_getD]
 by_cases c:i=x
 ·subst c
  by_cases d:i<xs.length
  ·rw[if_pos rfl,if_pos d,if_pos ⟨rfl,d⟩];rfl
  ·rw[if_pos rfl,if_neg d,if_neg fun z=>d z.2,List.getElem?_eq_none (by lia)]
 ·rw[if_neg c,if_neg fun z=>c z.1]
theorem zeH (st:List Int × List Int) (f:Nat × Nat):(zaj st f).1.length=st.1.length:=by
 unfold zaj
 rw[List.length_set,List.length_set]
theorem zfW (st:List Int × List Int) (f:Nat × Nat) (x:Nat):st.1.getD x 0≤(zaj st f).1.getD x 0∧(x<st.1.length→f.1=x∨f.2=x→st.1.getD x 0+1≤(zaj st f).1.getD x 0):=by
 unfold zaj
 dsimp only
 rw[ze9,ze9,List.length_set]
 have b1:=zi8 (st.1.getD f.1 0) (st.1.getD f.2 0)
 have b2:=zkR (st.1.getD f.1 0) (st.1.getD f.2 0)
 generalize big (st.1.getD f.1 0) (st.1.getD f.2 0)=m at b1 b2 ⊢
 by_cases c2:f.2=x∧x<st.1.length
 ·rw[if_pos c2]
  rw[c2.1]at b2
  exact⟨by lia,fun _ _=>by lia⟩
 ·rw[if_neg c2]
  by_cases c1:f.1=x∧x<st.1.length
  ·rw[if_pos c1]
   rw[c1.1]at b1
   exact⟨by lia,fun _ _=>by lia⟩
  ·rw[if_neg c1]
   exact⟨Int.le_refl _,fun l z=>(z.elim (fun z=>c1 ⟨z,l⟩) fun z=>c2 ⟨z,l⟩).elim⟩
theorem zhN:∀ (L:List (Nat × Nat)) (st:List Int × List Int) (x:Nat),(L.foldl zaj st).1.length=st.1.length∧st.1.getD x 0≤(L.foldl zaj st).1.getD x 0∧(x<st.1.length→(∃ f∈L,f.1=x∨f.2=x)→st.1.getD x 0+1≤(L.foldl zaj st).1.getD x 0)
 | [],st,x=>⟨rfl,Int.le_refl _,fun _ ⟨f,hf,_⟩=>(List.not_mem_nil hf).elim⟩
 | f::L,st,x=>by
  obtain⟨a,b,c⟩:=zhN L (zaj st f) x
  obtain⟨d,e⟩:=zfW st f x
  have ln:=zeH st f
  rw[List.foldl_cons]
  refine⟨a.trans ln,Int.le_trans d b,fun xl ⟨g,hg,on⟩=>?_⟩
  rcases List.mem_cons.mp hg with rfl|hg
  ·exact Int.le_trans (e xl on) b
  ·have:=c (by rw[ln];exact xl) ⟨g,hg,on⟩
   lia
def ring (n o:Nat):List (Nat × Nat):=(List.range (n / 2)).map fun j=>((o+2*j)%n,(o+2*j+1)%n)
theorem zio:∀ n∈([2,4,8,16]:List Nat),∀ o,o<n→∀ x,x<n→∃ f∈ring n o,f.1=x∨f.2=x:=by decide +kernel
theorem zjX:∀ n∈([2,4,8,16]:List Nat),∀ o,o<n→∀ f∈ring n o,f.1<n∧f.2<n∧f.1≠f.2:=by decide +kernel
theorem zin (n o:Nat):(ring n o).length=n / 2:=by
 unfold ring
 rw[List.length_map,List.length_range]
theorem zlE {n o:Nat}{fs:List (Nat × Nat)}(hn:n∈([2,4,8,16]:List Nat)) (ho:o<n) {M M':Int}(h1:M∈(lay n fs).1) (h2:∀ z∈(lay n (fs++ring n o)).1,z≤M'):M+1≤M':=by
 obtain⟨x,hx,e⟩:=L2.zbF h1
 have ln:=(zas (n:=n) fs.length fs (Nat.le_refl _)).1
 rw[List.take_length]at ln
 have ap:lay n (fs++ring n o)=(ring n o).foldl zaj (lay n fs):=by
  unfold lay
  rw[List.foldl_append]
 obtain⟨a,_,c⟩:=zhN (ring n o) (lay n fs) x
 have u:=c hx (zio n hn o ho x (by lia))
 have v:=h2 ((lay n (fs++ring n o)).1.getD x 0) (L2.zaH (by rw[ap,a];exact hx))
 rw[ap]at v
 lia
end Bn
namespace K70
open PySem L2 Own Bn
abbrev zdf:Stmt:=top 51
def IsMax (N:Nt) (M:Int):Prop:=M∈(lay N.lanes N.forks).1∧∀ z∈(lay N.lanes N.forks).1,z≤M
def leastN (n:Nat):Nat:=if n=2 then 1 else if n=4 then 3 else if n=8 then 6 else if n=16 then 9 else 0
def zcg:Sp:=fun vs H Q _=>∃ l:Addr,vs=[.ref l]∧PkAt H l∧∀ r fr er ps N H',Nt.Ok N→N.lanes∈([1,2,4,8]:List Nat)→(∀ M,IsMax N M→(leastN N.lanes:Int)≤M)→Lvl N.lanes N.forks (fun _=>True)→NetAt H' r fr er ps N→PkAt H' l→But l H H'→Q (.ref r) H'
structure DnI (H0:Hp) (l:Addr) (most:Nat) (N:Nt) (fr er:Addr) (ps:List V) (H:Hp):Prop where
 f:H fr=some (.tup ps)
 p:Prs H ps N.forks
 e:H er=some (.tup (nums N.ends))
 ok:Nt.Ok N
 ln:N.lanes∈([1,2,4,8]:List Nat)
 lv:Lvl N.lanes N.forks (fun _=>True)
 few:N.forks.length≤most
 pk:PkAt H l
 bu:But l H0 H
theorem DnI.keep {H0 H H':Hp}{l fr er:Addr}{most:Nat}{N:Nt}{ps:List V}(d:DnI H0 l most N fr er ps H) (s:Same H H'):DnI H0 l most N fr er ps H':=⟨s _ _ d.f,d.p.tups (Tups.of s),s _ _ d.e,d.ok,d.ln,d.lv,d.few,d.pk.keep s,d.bu.trans (But.of s)⟩
theorem DnI.take {H0 H H':Hp}{l fr er:Addr}{most:Nat}{N:Nt}{ps:List V}(d:DnI H0 l most N fr er ps H) (b:But l H H') (k:PkAt H' l):DnI H0 l most N fr er ps H':=⟨b.tups d.pk _ _ d.f,d.p.tups (b.tups d.pk),b.tups d.pk _ _ d.e,d.ok,d.ln,d.lv,d.few,k,d.bu.trans b⟩
theorem zgt {lanes:Nat}{v:Int}{xs:List Int}{f:Nat × Nat}(hl:xs.length=lanes) (hv:∀ i,i<lanes→xs.getD i 0=v) (h1:f.1<lanes) (h2:f.2<lanes):(zaX xs f).length=lanes∧∀ i,i<lanes→(zaX xs f).getD i 0=v:=by
 have e:(v+v) / 2=v:=by lia
 unfold zaX
 refine⟨by rw[List.length_set,List.length_set];exact hl,fun i hi=>?_⟩
 rw[hv _ h1,hv _ h2,e,ze9,ze9]
 split
 ·rfl
 split
 ·rfl
 ·exact hv i hi
theorem zdW {lanes:Nat}{v:Int}:∀ (gs:List (Nat × Nat)) {xs:List Int},xs.length=lanes→(∀ i,i<lanes→xs.getD i 0=v)→(∀ f∈gs,f.1<lanes∧f.2<lanes)→∀ i,i<lanes→(gs.foldl zaX xs).getD i 0=v
 | [],_,_,hv,_=>hv
 | g::gs,xs,hl,hv,hg=>by
  obtain⟨a,b⟩:=zgt hl hv (hg g List.mem_cons_self).1 (hg g List.mem_cons_self).2
  exact zdW gs a b (fun f hf=>hg f (List.mem_cons_of_mem _ hf))
theorem ziP {lanes:Nat}{fs gs:List (Nat × Nat)}(lm:lanes∈([1,2,4,8]:List Nat)) (h:Lvl lanes fs fun _=>True) (hg:∀ f∈gs,f.1<lanes∧f.2<lanes):Lvl lanes (fs++gs) fun _=>True:=fun c hc g gm gl _ x xl xb=>by
 have al:=zeT lm (fun g gm gl=>h c hc g gm gl trivial)
 have hl:(zaq fs c).length=lanes:=by rw[zbU,hc]
 have fl:=zdW gs hl (fun i hi=>al i i (Nat.le_refl _) hi) hg
 have e:zaq (fs++gs) c=gs.foldl zaX (zaq fs c):=by unfold zaq;rw[List.foldl_append]
 rw[e,fl x xl,fl (x+g) (zjq lanes lm g gm gl x xl xb)]
theorem zdS:∀ n∈([1,2,4,8]:List Nat),zb1 n=.int (leastN n:Nat):=fun n h=>by
 simp only[List.mem_cons,List.mem_nil_iff,or_false]at h
 rcases h with rfl|rfl|rfl|rfl<;>rfl
theorem zcN:∀ n∈([1,2,4,8]:List Nat),leastN n≤9:=by decide
theorem zhx:∀ n∈([1,2,4,8]:List Nat),0<leastN n→n∈([2,4,8]:List Nat):=by decide
theorem zhr {N:Nt}(ok:Nt.Ok N) {M:Int}(h:IsMax N M):0≤M:=by
 have tp:=zaF (n:=N.lanes) (fun f hf=>⟨(ok.fk f hf).1,(ok.fk f hf).2.1⟩) N.forks.length (Nat.le_refl _)
 rw[List.take_length]at tp
 have l1:=ok.l1
 have ln:=zas (n:=N.lanes) N.forks.length N.forks (Nat.le_refl _)
 rw[List.take_length]at ln
 have:=h.2 _ (L2.zaH (ns:=(lay N.lanes N.forks).1) (i:=0) (by lia))
 have t0:=(tp 0 (by lia)).1
 lia
theorem zks {N:Nt}{M M':Int}(h:IsMax N M) (g:IsMax N M'):M=M':=Int.le_antisymm (g.2 _ h.1) (h.2 _ g.1)
theorem DnI.mono {H0 H:Hp}{l fr er:Addr}{m m':Nat}{N:Nt}{ps:List V}(d:DnI H0 l m N fr er ps H) (h:m≤m'):DnI H0 l m' N fr er ps H:=⟨d.f,d.p,d.e,d.ok,d.ln,d.lv,Nat.le_trans d.few h,d.pk,d.bu⟩
section
variable {P:Program}{w:World}{K:PySem.W.Frag}{mg:Str→Option Value}{base:Heap}
theorem scDn:FnScope ["_law_left_here","_law_lanes","_law_forks","_law_ends","_law_turn","_law_one"] ["_law_left_here"] (zad zdf):=by trivial
theorem zfP {f fE fK fD fL:Addr}{fd dE dK dD dL:FuncData}(F:Fun K "_law_deep_net" "_law_deep_net" zdf f fd) (G:Mgs mg) (UE:Use P w K mg base "_law_even_net" ["_law_left_here","_law_most"] 2 zgA fE dE) (UK:Use P w K mg base "_law_pick" ["_law_left_here","_law_many"] 1 zdE fK dK) (UD:Use P w K mg base "_law_deep" ["_law_net"] 1 zgC fD dD) (UL:Use P w K mg base "_law_least" ["_law_lanes"] 1 zbr fL dL):FnOk P w K mg base CX0 3 f fd ["_law_left_here"] zcg:=by
 refine F.ok scDn (fun vs H Q E h=>?_) (fun cdv A outer s H vs Q E hr h=>?_)
 ·obtain⟨l,rfl,_⟩:=h
  rfl
 obtain⟨l,rfl,S,k⟩:=h
 have hr1:Room 1 _:=hr.mono (by decide)
 have hr2:Room 2 _:=hr.mono (by decide)
 refine⟨_,(@pss_cons _ _ _ _ _ (@ps_asg _ _ _ _ _ _ (@pe_call _ _ _ _ _ _ _ _ _ _ _ _ _ _ _ _ UE.ok hr2 (by rfl) UE.m UE.kp UE.b .nil pass0 (@pa_cons _ _ _ _ _ (@qv _ 0 _ _ (by trivial)) (@pa_cons _ _ _ _ _ pe_int pa_nil (by rfl)) (by rfl)) (by decide) (by rfl) (by rfl)) (@zap _ _ _ _ _ _ rfl (@pgs_cons _ _ _ _ _ (@pg_name _ _ 1 _ scDn.nd rfl (.inr rfl) (by first|exact .inl rfl|exact .inr rfl|assumption)) (@pgs_cons _ _ _ _ _ (@pg_name _ _ 2 _ scDn.nd rfl (.inl rfl) (by first|exact .inl rfl|exact .inr rfl|assumption)) (@pgs_cons _ _ _ _ _ (@pg_name _ _ 3 _ scDn.nd rfl (.inl rfl) (by first|exact .inl rfl|exact .inr rfl|assumption)) pgs_nil (by rfl)) (by rfl)) (by rfl)) (by rfl) (by rfl)) (by rfl) (by rfl) (by rfl)) (@pss_cons _ _ _ _ _ (@ps_for _ _ _ _ _ _ _ _ PassesOwn.never rfl (@pi_range1 _ _ _ _ _ _ rfl G.range (@pa_cons _ _ _ _ _ pe_int pa_nil (by rfl)) (by rfl)) (@pg_name _ _ 4 _ scDn.nd rfl (.inl rfl) (by first|exact .inl rfl|exact .inr rfl|assumption)) (@pss_one _ _ _ (@ps_if _ _ _ _ _ _ _ _ (@pt_cmpR _ _ _ _ _ _ _ _ zdi (@pe_call _ _ _ _ _ _ _ _ _ _ _ _ _ _ _ _ UD.ok hr1 (by rfl) UD.m UD.kp UD.b .nil pass0 (@pa_cons _ _ _ _ _ (@pe_tup _ _ _ _ _ (@pa_cons _ _ _ _ _ (@qv _ 1 _ _ (by trivial)) (@pa_cons _ _ _ _ _ (@qv _ 2 _ _ (by trivial)) (@pa_cons _ _ _ _ _ (@qv _ 3 _ _ (by trivial)) pa_nil (by rfl)) (by rfl)) (by rfl))) pa_nil (by rfl)) (by decide) (by rfl) (by rfl)) (@pe_call _ _ _ _ _ _ _ _ _ _ _ _ _ _ _ _ UL.ok hr1 (by rfl) UL.m UL.kp UL.b .nil pass0 (@pa_cons _ _ _ _ _ (@qv _ 1 _ _ (by trivial)) pa_nil (by rfl)) (by decide) (by rfl) (by rfl)) (nomark _)) (@pss_cons _ _ _ _ _ (@ps_set _ _ 5 _ _ _ _ scDn.nd rfl (.inr rfl) (@pe_call _ _ _ _ _ _ _ _ _ _ _ _ _ _ _ _ UK.ok hr1 (by rfl) UK.m UK.kp UK.b .nil pass0 (@pa_cons _ _ _ _ _ (@qv _ 0 _ _ (by trivial)) (@pa_cons _ _ _ _ _ (@qv _ 1 _ _ (by trivial)) pa_nil (by rfl)) (by rfl)) (by decide) (by rfl) (by rfl)) (by rfl) (by first|exact .inl rfl|exact .inr rfl|assumption)) (@pss_one _ _ _ (@ps_set _ _ 2 _ _ _ _ scDn.nd rfl (.inl rfl) (@pe_op _ _ _ _ _ _ _ _ zdj (@qv _ 2 _ _ (by trivial)) (@pe_callTy _ _ _ _ _ _ _ _ _ call_tuple_of (by rfl) G.tuple (by rfl) (@pa_cons _ _ _ _ _ (@pe_lc _ _ _ _ none _ _ _ _ _ _ ["_law_j","_law_lanes","_law_one"] [none,some 1,some 5] rfl (@pi_range1 _ _ _ _ _ _ rfl G.range (@pa_cons _ _ _ _ _ (@pe_op _ _ _ _ _ _ _ _ op_fdiv (@qv _ 1 _ _ (by trivial)) pe_int) pa_nil (by rfl)) (by rfl)) (CapOk.of (by kernel_rfl)) (fun _ _ _ _ _=>(@pg_name _ _ 0 _ (show (["_law_j","_law_lanes","_law_one"]:List Str).Nodup from by decide +kernel) rfl (.inl rfl) (.inr rfl))) (fun _ _ _ _ _=>zaE) (fun _ _ _ _ _=>(@pe_tup _ _ _ _ _ (@pa_cons _ _ _ _ _ (@pe_op _ _ _ _ _ _ _ _ op_mod (@pe_op _ _ _ _ _ _ _ _ op_add (@qv _ 2 _ _ (by trivial)) (@pe_op _ _ _ _ _ _ _ _ op_mul pe_int (@qv _ 0 _ _ (by trivial)))) (@qv _ 1 _ _ (by trivial))) (@pa_cons _ _ _ _ _ (@pe_op _ _ _ _ _ _ _ _ op_mod (@pe_op _ _ _ _ _ _ _ _ op_add (@pe_op _ _ _ _ _ _ _ _ op_add (@qv _ 2 _ _ (by trivial)) (@pe_op _ _ _ _ _ _ _ _ op_mul pe_int (@qv _ 0 _ _ (by trivial)))) pe_int) (@qv _ 1 _ _ (by trivial))) pa_nil (by rfl)) (by rfl)))) (by intro _;rfl)) pa_nil (by rfl)) (by decide) (by decide) (by rfl) (by rfl))) (by rfl) (by first|exact .inl rfl|exact .inr rfl|assumption)))) pss_nil)) (by intro _;rfl)) (@pss_one _ _ _ (@ps_ret _ _ _ _ (@pe_tup _ _ _ _ _ (@pa_cons _ _ _ _ _ (@qv _ 1 _ _ (by trivial)) (@pa_cons _ _ _ _ _ (@qv _ 2 _ _ (by trivial)) (@pa_cons _ _ _ _ _ (@qv _ 3 _ _ (by trivial)) pa_nil (by rfl)) (by rfl)) (by rfl))))))),?_⟩
 refine⟨_,rfl,l,rfl,S,fun r fr er ps N H1 ok few lv na S1 B1=>?_⟩
 refine⟨r,_,rfl,SqT.of na.net,rfl,_,_,rfl,_,_,rfl,_,_,rfl,rfl,?_⟩
 have d5:DnI H l 54 N fr er ps H1:=⟨na.forks,na.prs,na.ends,ok,few.2,lv,few.1,S1,B1⟩
 refine⟨10,rfl,by lia,by lia,?_⟩
 refine zav (lo:=0) (n:=10) (fun t σ H6=>∃ N fr er ps v4 v5,∃ a:Nat,σ=[some (.ref l),some (.int (N.lanes:Nat)),some (.ref fr),some (.ref er),v4,v5]∧DnI H l (55+8*a) N fr er ps H6∧(∀ M,IsMax N M→(a:Int)≤M)∧(t≤a∨∀ M,IsMax N M→(leastN N.lanes:Int)≤M)) ⟨N,fr,er,ps,_,_,0,rfl,d5.mono (by lia),fun M h=>zhr d5.ok h,.inl (Nat.le_refl _)⟩ ?_ ?_
 ·clear d5
  rintro t σ H6 ht ⟨N,fr,er,ps,v4,v5,a,rfl,d6,low,alt⟩
  refine⟨_,rfl,_,rfl,_,rfl,by show 3≤sizeLine;decide,fun r hr'=>?_⟩
  have q7:=zaa hr' (.tup [.int (N.lanes:Nat),.ref fr,.ref er])
  have d7:=d6.keep q7
  refine⟨r,fr,er,ps,N,rfl,d7.ok,⟨atNew hr' _,d7.f,d7.p,d7.e⟩,fun M H8 s8 m1 m2=>?_⟩
  have d8:=d7.keep s8
  have im:IsMax N M:=⟨m1,m2⟩
  refine⟨_,rfl,N.lanes,rfl,d8.ok.l1,d8.ok.l16,fun H9 s9=>?_⟩
  have d9:=d8.keep s9
  rw[zdS _ d9.ln]
  refine⟨_,_,rfl,rfl,_,rfl,?_⟩
  dsimp only
  by_cases c:M<(leastN N.lanes:Nat)
  ·rw[decide_eq_true c]
   refine iteT ?_
   have mp:=zhr d9.ok im
   have n9:=zcN _ d9.ln
   have l4:=zhx _ d9.ln (by lia)
   have l5:N.lanes∈([2,4,8,16]:List Nat):=(show ∀ n∈([2,4,8]:List Nat),n∈([2,4,8,16]:List Nat) from by decide) _ l4
   have l2:2≤N.lanes:=(show ∀ n∈([2,4,8]:List Nat),2≤n from by decide) _ l4
   have l16:=d9.ok.l16
   have aM:=low M im
   have few:=d9.few
   have pl:=d9.p.len
   refine⟨_,rfl,_,rfl,l,_,rfl,by lia,by lia,d9.pk,fun one H10 ho S10 B10=>?_⟩
   have d10:=d9.take B10 S10
   refine⟨_,rfl,_,rfl,_,_,rfl,rfl,⟨by decide,by decide⟩,?_⟩
   have e2:((N.lanes:Nat):Int) / 2=((N.lanes / 2:Nat):Int):=by lia
   dsimp only
   rw[e2]
   refine⟨_,rfl,by lia,by lia,fun lg hlg=>?_⟩
   refine zdn (lo:=0) (n:=((N.lanes / 2:Nat):Int).toNat) (fun q acc σ H11=>(∃ v0,σ=[v0,some (.int (N.lanes:Nat)),some (.int (one:Nat))])∧Same H10 H11∧H11 lg=some (.lst acc)∧Prs H11 acc ((List.range q).map fun j=>((one+2*j)%N.lanes,(one+2*j+1)%N.lanes))) ⟨⟨_,rfl⟩,zaa hlg _,zab,trivial⟩ (fun q acc σ H11 z=>z.2.2.1) ?_ ?_
   ·rintro q acc σ H11 hq ⟨⟨v0,rfl⟩,s11,h11,p11⟩
    have al:=p11.len
    rw[List.length_map,List.length_range]at al
    refine⟨_,rfl,_,rfl,_,_,rfl,rfl,.inl ⟨by lia,by lia⟩,_,_,rfl,rfl,_,rfl,_,_,rfl,rfl,by lia,?_⟩
    refine⟨_,rfl,_,rfl,_,_,rfl,rfl,.inl ⟨by lia,by lia⟩,_,_,rfl,rfl,_,_,rfl,rfl,_,rfl,_,_,rfl,rfl,by lia,by show 2≤sizeLine;decide,fun tp htp=>?_⟩
    dsimp only
    have w1:((one:Nat):Int)+2*(0+(q:Nat))=((one+2*q:Nat):Int):=by lia
    have w2:((one+2*q:Nat):Int)+1=((one+2*q+1:Nat):Int):=by lia
    rw[w1,w2]
    have st:=zaa htp (.tup [.int (((one+2*q:Nat):Int)%(N.lanes:Nat)),.int (((one+2*q+1:Nat):Int)%(N.lanes:Nat))])
    have ht:=atNew htp (.tup [.int (((one+2*q:Nat):Int)%(N.lanes:Nat)),.int (((one+2*q+1:Nat):Int)%(N.lanes:Nat))])
    generalize L2.upd H11 tp (.tup [.int (((one+2*q:Nat):Int)%(N.lanes:Nat)),.int (((one+2*q+1:Nat):Int)%(N.lanes:Nat))])=H12 at st ht ⊢
    have h12:=st _ _ h11
    refine⟨h12,by rw[sizeLine_eq];lia,nx (by lia) ⟨⟨_,rfl⟩,fun b o e=>?_,zab,?_⟩⟩
    ·rw[zae (zac e hlg)];exact st _ _ (s11 b o e)
    ·rw[List.range_succ,List.map_append]
     have tl:Tups H12 (L2.upd H12 lg (.lst (acc++[.ref tp]))):=Tups.lst h12
     refine Prs.add (f:=((one+2*q)%N.lanes,(one+2*q+1)%N.lanes)) ?_ ((p11.tups (Tups.of st)).tups tl)
     rw[tl _ _ ht]
     rfl
   ·rintro acc σ H11 ⟨⟨v0,rfl⟩,s11,h11,p11⟩
    have d11:=d10.keep s11
    have al:=p11.len
    rw[List.length_map,List.length_range]at al
    refine⟨lg,_,rfl,.inl ⟨SqL.of h11,fun p hp=>?_⟩⟩
    have q12:=zaa hp (.tup acc)
    have d12:=d11.keep q12
    refine⟨fr,p,_,_,rfl,rfl,d12.f,atNew hp _,by rw[sizeLine_eq];lia,fun r2 H13 q13 h13=>?_⟩
    have d13:=d12.keep q13
    have p13:Prs H13 acc (ring N.lanes one):=(p11.tups (Tups.of q12)).tups (Tups.of q13)
    have rl:=zin N.lanes one
    have rok:=zjX _ l5 one (by lia)
    refine⟨⟨N.lanes,N.forks++ring N.lanes one,N.ends⟩,r2,er,_,_,_,a+1,rfl,⟨h13,Prs.app d13.p p13,d13.e,⟨d9.ok.l1,d9.ok.l16,?_,fun f hf=>?_,d9.ok.en⟩,d9.ln,ziP d9.ln d9.lv (fun f hf=>⟨(rok f hf).1,(rok f hf).2.1⟩),?_,d13.pk,d13.bu⟩,fun M' h=>?_,?_⟩
    ·show (N.forks++ring N.lanes one).length≤128
     rw[List.length_append,rl];lia
    ·rcases List.mem_append.mp (show f∈N.forks++ring N.lanes one from hf) with z|z
     ·exact d9.ok.fk f z
     ·exact rok f z
    ·show (N.forks++ring N.lanes one).length≤55+8*(a+1)
     rw[List.length_append,rl];lia
    ·have:=zlE l5 (show one<N.lanes by lia) im.1 h.2
     lia
    ·rcases alt with z|z
     ·exact .inl (by lia)
     ·exact absurd (z M im) (by lia)
  ·rw[decide_eq_false c]
   exact iteF ⟨N,fr,er,ps,_,_,a,rfl,d9,low,.inr fun M' h=>by rw[← zks im h];lia⟩
 rintro σ H6 ⟨N,fr,er,ps,v4,v5,a,rfl,d6,low,alt⟩
 have fin:∀ M,IsMax N M→(leastN N.lanes:Int)≤M:=fun M h=>by
  rcases alt with z|z
  ·have:=low M h
   have:=zcN _ d6.ln
   lia
  ·exact z M h
 refine⟨_,rfl,_,rfl,_,rfl,by show 3≤sizeLine;decide,fun r hr'=>?_⟩
 have q7:=zaa hr' (.tup [.int (N.lanes:Nat),.ref fr,.ref er])
 have d7:=d6.keep q7
 exact k r fr er ps N _ d7.ok d7.ln fin d7.lv ⟨atNew hr' _,d7.f,d7.p,d7.e⟩ d7.pk d7.bu
end
abbrev sLaw:Stmt:=top 56
def zik (K:PySem.W.Frag):Sp:=fun vs H Q _=>∃ (a:Addr) (ns:List Int),vs=[.ref a]∧SqL K H a (ns.map V.int)∧ns.length≤63∧∀ H',Q (.bl true) H'
theorem zjF {K:PySem.W.Frag}{H H1 H2:Hp}{a l:Addr}{xs:List V}(h:SqL K H a xs) (hl:H l=none) (s:Same H H1) (B:But l H1 H2):SqL K H2 a xs:=by
 rcases h with (h|⟨o,h⟩)|h
 ·exact .inl (.inl (B _ _ (s _ _ h) (zac h hl)))
 ·exact .inl (.inr ⟨o,B _ _ (s _ _ h) (zac h hl)⟩)
 ·exact .inr h
theorem nxt {D:Ends}{σ:St}{H:Hp}(h:D.nx σ H):zk3 D σ H:=h
theorem zhL:∀ {l:List Int},l≠[]→∃ M∈l,∀ z∈l,z≤M
 | [],h=>absurd rfl h
 | [x],_=>⟨x,List.mem_cons_self,fun z hz=>by rw[List.mem_singleton.mp hz];exact Int.le_refl _⟩
 | x::y::l,_=>by
  obtain⟨M,hM,hm⟩:=zhL (l:=y::l) (by simp)
  by_cases c:x≤M
  ·refine⟨M,List.mem_cons_of_mem _ hM,fun z hz=>?_⟩
   rcases List.mem_cons.mp hz with rfl|hin
   ·exact c
   ·exact hm z hin
  ·refine⟨x,List.mem_cons_self,fun z hz=>?_⟩
   rcases List.mem_cons.mp hz with rfl|hin
   ·exact Int.le_refl _
   ·have:=hm z hin;lia
theorem zgs {v:Int}:∀ {l:List Int},(∀ i,i<l.length→l.getD i 0=v)→l.sum=l.length*v
 | [],_=>by simp
 | x::l,h=>by
  have h0:x=v:=h 0 (Nat.succ_pos _)
  have:=zgs (l:=l) (v:=v) fun i hi=>h (i+1) (Nat.succ_lt_succ hi)
  rw[List.sum_cons,this,h0,List.length_cons,Int.natCast_add,Int.add_mul]
  lia
theorem ziQ {N:Nt}(ok:N.Ok) (hl:N.lanes∈([1,2,4,8]:List Nat)) (hm:∀ M,IsMax N M→(leastN N.lanes:Int)≤M) (lv:Lvl N.lanes N.forks fun _=>True):Fair N:=fun d td=>by
 have l1:=ok.l1
 have ln:=zas (n:=N.lanes) N.forks.length N.forks (Nat.le_refl _)
 rw[List.take_length]at ln
 obtain⟨M,m1,m2⟩:=zhL (l:=(lay N.lanes N.forks).1) (fun e=>by rw[e]at ln;simp at ln;lia)
 have le:=hm M ⟨m1,m2⟩
 obtain rfl:=zkM ok td m1 m2
 have e:=zdS N.lanes hl
 have z1:zaS N=false:=by
  unfold zaS
  rw[e]
  exact decide_eq_false (fun z=>by cases z)
 have z2:zbz N d=false:=by
  unfold zbz
  rw[e]
  exact decide_eq_false (by lia)
 refine⟨z1,z2,?_⟩
 cases ho:offL N d N.lanes with
 | nil=>rfl
 | cons g gs =>
  exfalso
  obtain⟨a,b,c⟩:=zb7.mp (show g∈offL N d N.lanes by rw[ho];exact List.mem_cons_self)
  have el:(zaL N (zan N.lanes g.1 (pw d))).length=N.lanes:=by unfold zaL;rw[List.length_map,ok.en.length_eq,List.length_range]
  have ls:=zfU ok hl lv td g.1
  have sm:=zgH ok a (pw d)
  have sa:=zgs (l:=zaL N (zan N.lanes g.1 (pw d))) (v:=(flow N.forks (zan N.lanes g.1 (pw d))).1.getD 0 0) (fun i hi=>ls i (by lia))
  rw[sa,el]at sm
  have e:(N.lanes:Int)*zbs N d g.1 g.2=pw d:=by
   unfold zbs
   rw[ls g.2 b];exact sm
  unfold offB at c
  rw[e,decide_eq_true rfl]at c
  exact absurd c Bool.false_ne_true
theorem zkN {H:Hp}{n:Nat}{x:V}{z:Str}(h:DD H n x (.str z)):x=.str z:=by
 have f:FlD x (.str z):=by
  cases n with
  | zero=>exact h
  | succ n =>
   rcases h with h|⟨a,xs,ds,_,_,h,_⟩
   ·exact h
   ·rcases h with ⟨e,_⟩|⟨e,_⟩<;>cases e
 rcases f with ⟨i,_,e⟩|⟨z',e',e,_⟩|⟨b,_,e⟩|⟨_,e⟩
 ·cases e
 ·cases e;exact e'
 ·cases e
 ·cases e
theorem zlG {H:Hp}{n:Nat}{x:V}{z:Int}(h:DD H n x (.int z)):x=.int z:=by
 have f:FlD x (.int z):=by
  cases n with
  | zero=>exact h
  | succ n =>
   rcases h with h|⟨a,xs,ds,_,_,h,_⟩
   ·exact h
   ·rcases h with ⟨e,_⟩|⟨e,_⟩<;>cases e
 rcases f with ⟨i,e',e⟩|⟨z',_,e,_⟩|⟨b,_,e⟩|⟨_,e⟩
 ·cases e;exact e'
 ·cases e
 ·cases e
 ·cases e
theorem zds {H:Hp}{n:Nat}{x:V}(h:DD H n x .none):x=.non:=by
 have f:FlD x .none:=by
  cases n with
  | zero=>exact h
  | succ n =>
   rcases h with h|⟨a,xs,ds,_,_,h,_⟩
   ·exact h
   ·rcases h with ⟨e,_⟩|⟨e,_⟩<;>cases e
 rcases f with ⟨i,_,e⟩|⟨z',_,e,_⟩|⟨b,_,e⟩|⟨e,_⟩
 ·cases e
 ·cases e
 ·cases e
 ·exact e
theorem zft {H:Hp}{n:Nat}{x:V}{ds:List PyData}(h:DD H (n+1) x (.tuple ds)):∃ a xs,x=.ref a∧H a=some (.tup xs)∧xs.length=ds.length∧∀ (j:Nat) (u:V) (e:PyData),xs[j]?=some u→ds[j]?=some e→DD H n u e:=by
 rcases h with h|⟨a,xs,ds',e1,hl,h,f⟩
 ·rcases h with ⟨i,_,e⟩|⟨z',_,e,_⟩|⟨b,_,e⟩|⟨_,e⟩<;>cases e
 ·rcases h with ⟨e,h⟩|⟨e,_⟩
  ·cases e
   exact⟨a,xs,e1,h,hl,f⟩
  ·cases e
theorem dd_row {H:Hp}{x:V}{cs:List Int}(h:DD H 2 x (.tuple [.str "row",.tuple (cs.map PyData.int)])):∃ t c,x=.ref t∧H t=some (.tup [.str "row",.ref c])∧H c=some (.tup (cs.map V.int)):=by
 obtain⟨t,xs,rfl,ht,hl,f⟩:=zft h
 match xs,hl,ht,f with
 | [u,v],_,ht,f =>
  have e0:=zkN (f 0 _ _ rfl rfl)
  obtain⟨c,ys,e1,hc,hl,g⟩:=zft (f 1 _ _ rfl rfl)
  subst e0 e1
  refine⟨t,c,rfl,ht,?_⟩
  rw[hc]
  congr 2
  apply List.ext_getElem?
  intro j
  by_cases c:j<ys.length
  ·have jc:j<cs.length:=by rw[hl,List.length_map]at c;exact c
   rw[List.getElem?_eq_getElem c]
   have:=zlG (g j ys[j] (.int cs[j]) (List.getElem?_eq_getElem c) (by rw[List.getElem?_map,List.getElem?_eq_getElem jc];rfl))
   rw[this,List.getElem?_map,List.getElem?_eq_getElem jc];rfl
  ·rw[List.getElem?_eq_none (by lia),List.getElem?_eq_none (by rw[hl,List.length_map]at c;rw[List.length_map];lia)]
theorem zgc:Nt.Ok zed:=⟨by decide,by decide,by decide +kernel,by decide +kernel,.refl _⟩
section
variable {P:Program}{w:World}{K:PySem.W.Frag}{mg:Str→Option Value}{base:Heap}
theorem scW:FnScope ["_law_script","_law_k","_law_left_here","_law_net","_law_row","_law_due"] ["_law_script"] (zad sLaw):=by trivial
theorem zln {f fL fD fT fF fA fB fM fW fS:Addr}{fd dL dD dT dF dA dB dM dW dS:FuncData}(F:Fun K "law" "law" sLaw f fd) (G:Mgs mg) (UL:Use P w K mg base "_law_left" ["_law_script","_law_k"] 2 (zgz K) fL dL) (UD:Use P w K mg base "_law_deep_net" ["_law_left_here"] 3 zcg fD dD) (UT:Use P w K mg base "_law_told_way" ["_law_left_here"] 13 zgy fT dT) (UF:Use P w K mg base "_law_first" ["_law_net"] 2 zc5 fF dF) (UA:Use P w K mg base "bar" ["net"] 5 zjH fA dA)
  (UB:Use P w K mg base "shows_bar" ["net","thing"] 6 (zeh K) fB dB) (UM:Use P w K mg base "_law_same" ["_law_found","_law_due"] 3 (zdD 2) fM dM) (UW:Use P w K mg base "_law_wide" [] 1 zgx fW dW) (US:Use P w K mg base "stairway" ["k"] 12 zbj fS dS):FnOk P w K mg base CX0 14 f fd ["_law_script"] (zik K):=by
 refine F.ok scW (fun vs H Q E h=>?_) (fun cdv A outer s H vs Q E hr h=>?_)
 ·obtain⟨a,ns,rfl,_⟩:=h
  rfl
 obtain⟨a,ns,rfl,hS,h63,k⟩:=h
 have hr1:Room 1 _:=hr.mono (by decide)
 have hr2:Room 2 _:=hr.mono (by decide)
 have hr3:Room 3 _:=hr.mono (by decide)
 have hr5:Room 5 _:=hr.mono (by decide)
 have hr6:Room 6 _:=hr.mono (by decide)
 have hr12:Room 12 _:=hr.mono (by decide)
 refine⟨_,(@pss_cons _ _ _ _ _ (@ps_for _ _ _ _ _ _ _ _ PassesOwn.never rfl (@pi_range1 _ _ _ _ _ _ rfl G.range (@pa_cons _ _ _ _ _ (@pe_callB _ _ _ _ _ _ _ _ _ (zbh rfl) (by rfl) G.max (by rfl) (@pa_cons _ _ _ _ _ pe_int (@pa_cons _ _ _ _ _ (@pe_callB _ _ _ _ _ _ _ _ _ (zd4 rfl) (by rfl) G.min (by rfl) (@pa_cons _ _ _ _ _ pe_int (@pa_cons _ _ _ _ _ (@pe_callB _ _ _ _ _ _ _ _ _ call_len_seq (by rfl) G.len PySem.boot_len (@pa_cons _ _ _ _ _ (@qv _ 0 _ _ (by trivial)) pa_nil (by rfl)) (by decide) (by decide) (by rfl) (by rfl)) pa_nil (by rfl)) (by rfl)) (by decide) (by decide) (by rfl) (by rfl)) pa_nil (by rfl)) (by rfl)) (by decide) (by decide) (by rfl) (by rfl)) pa_nil (by rfl)) (by rfl)) (@pg_name _ _ 1 _ scW.nd rfl (.inl rfl) (by first|exact .inl rfl|exact .inr rfl|assumption)) (@pss_cons _ _ _ _ _ (@ps_set _ _ 2 _ _ _ _ scW.nd rfl (.inl rfl) (@pe_call _ _ _ _ _ _ _ _ _ _ _ _ _ _ _ _ UL.ok hr2 (by rfl) UL.m UL.kp UL.b .nil pass0 (@pa_cons _ _ _ _ _ (@qv _ 0 _ _ (by trivial)) (@pa_cons _ _ _ _ _ (@qv _ 1 _ _ (by trivial)) pa_nil (by rfl)) (by rfl)) (by decide) (by rfl) (by rfl)) (by rfl) (by first|exact .inl rfl|exact .inr rfl|assumption)) (@pss_one _ _ _ (@ps_for _ _ _ _ _ _ _ _ PassesOwn.never rfl (@zdh _ _ _ _ (@pe_lst _ _ _ _ (@pa_cons _ _ _ _ _ (@pe_call _ _ _ _ _ _ _ _ _ _ _ _ _ _ _ _ UD.ok hr3 (by rfl) UD.m UD.kp UD.b .nil pass0 (@pa_cons _ _ _ _ _ (@qv _ 2 _ _ (by trivial)) pa_nil (by rfl)) (by decide) (by rfl) (by rfl)) (@pa_cons _ _ _ _ _ (@pe_call _ _ _ _ _ _ _ _ _ _ _ _ _ _ _ _ UT.ok hr (by rfl) UT.m UT.kp UT.b .nil pass0 (@pa_cons _ _ _ _ _ (@qv _ 2 _ _ (by trivial)) pa_nil (by rfl)) (by decide) (by rfl) (by rfl)) pa_nil (by rfl)) (by rfl)))) (@pg_name _ _ 3 _ scW.nd rfl (.inl rfl) (by first|exact .inl rfl|exact .inr rfl|assumption)) (@pss_cons _ _ _ _ _ (@ps_set _ _ 4 _ _ _ _ scW.nd rfl (.inl rfl) (@pe_call _ _ _ _ _ _ _ _ _ _ _ _ _ _ _ _ UF.ok hr2 (by rfl) UF.m UF.kp UF.b .nil pass0 (@pa_cons _ _ _ _ _ (@qv _ 3 _ _ (by trivial)) pa_nil (by rfl)) (by decide) (by rfl) (by rfl)) (by rfl) (by first|exact .inl rfl|exact .inr rfl|assumption)) (@pss_cons _ _ _ _ _ (@ps_set _ _ 5 _ _ _ _ scW.nd rfl (.inl rfl) (@zit _ _ _ _ _ _ _ _ (@pt_cmpR _ _ _ _ _ _ _ _ op_isN (@qv _ 4 _ _ (by trivial)) pe_non (by rfl)) pe_non (@pe_tup _ _ _ _ _ (@pa_cons _ _ _ _ _ pe_str (@pa_cons _ _ _ _ _ (@qv _ 4 _ _ (by trivial)) pa_nil (by rfl)) (by rfl)))) (by rfl) (by first|exact .inl rfl|exact .inr rfl|assumption)) (@pss_cons _ _ _ _ _ (@ps_if _ _ _ _ _ _ _ _ (@zj3 _ _ _ _ _ _ _ (@pt_not _ _ _ _ (@pt_val _ _ _ (@pe_call _ _ _ _ _ _ _ _ _ _ _ _ _ _ _ _ UM.ok hr3 (by rfl) UM.m UM.kp UM.b .nil pass0 (@pa_cons _ _ _ _ _ (@pe_call _ _ _ _ _ _ _ _ _ _ _ _ _ _ _ _ UA.ok hr5 (by rfl) UA.m UA.kp UA.b .nil pass0 (@pa_cons _ _ _ _ _ (@qv _ 3 _ _ (by trivial)) pa_nil (by rfl)) (by decide) (by rfl) (by rfl)) (@pa_cons _ _ _ _ _ (@qv _ 5 _ _ (by trivial)) pa_nil (by rfl)) (by rfl)) (by decide) (by rfl) (by rfl)) (by intro _;rfl))) (@pw_or1 _ _ _ _ (@pt_not _ _ _ _ (@pt_val _ _ _ (@pe_call _ _ _ _ _ _ _ _ _ _ _ _ _ _ _ _ UM.ok hr3 (by rfl) UM.m UM.kp UM.b .nil pass0 (@pa_cons _ _ _ _ _ (@pe_call _ _ _ _ _ _ _ _ _ _ _ _ _ _ _ _ UA.ok hr5 (by rfl) UA.m UA.kp UA.b .nil pass0 (@pa_cons _ _ _ _ _ (@qv _ 3 _ _ (by trivial)) pa_nil (by rfl)) (by decide) (by rfl) (by rfl)) (@pa_cons _ _ _ _ _ (@qv _ 5 _ _ (by trivial)) pa_nil (by rfl)) (by rfl)) (by decide) (by rfl) (by rfl)) (by intro _;rfl))))).pt (@pss_one _ _ _ (@ps_ret _ _ _ _ pe_bl)) pss_nil) (@pss_one _ _ _ (@ps_if _ _ _ _ _ _ _ _ (@pw_and _ _ _ _ _ _ _ (@pt_cmpR _ _ _ _ _ _ _ _ op_notN (@qv _ 5 _ _ (by trivial)) pe_non (by rfl)) (@pw_and1 _ _ _ _ (@pt_cmpR _ _ _ _ _ _ _ _ op_notB (@pe_call _ _ _ _ _ _ _ _ _ _ _ _ _ _ _ _ UB.ok hr6 (by rfl) UB.m UB.kp UB.b .nil pass0 (@pa_cons _ _ _ _ _ (@qv _ 3 _ _ (by trivial)) (@pa_cons _ _ _ _ _ (@qv _ 5 _ _ (by trivial)) pa_nil (by rfl)) (by rfl)) (by decide) (by rfl) (by rfl)) pe_bl (by rfl)))).pt (@pss_one _ _ _ (@ps_ret _ _ _ _ pe_bl)) pss_nil))))) (by intro _;rfl)))) (by intro _;rfl)) (@pss_one _ _ _ (@ps_ret _ _ _ _ (@pe_and _ _ _ _ _ _ _ (@pe_cmpR _ _ _ _ _ _ _ _ op_isN (@pe_call _ _ _ _ _ _ _ _ _ _ _ _ _ _ _ _ UA.ok hr5 (by rfl) UA.m UA.kp UA.b .nil pass0 (@pa_cons _ _ _ _ _ (@pe_call0 _ _ _ _ _ _ _ _ _ _ _ _ _ UW.ok hr1 (by rfl) UW.m UW.kp UW.b .nil pass0 (by decide)) pa_nil (by rfl)) (by decide) (by rfl) (by rfl)) pe_non (by rfl)) (@pe_one _ _ _ _ _ (@pe_cmpR _ _ _ _ _ _ _ _ op_isN (@pe_call _ _ _ _ _ _ _ _ _ _ _ _ _ _ _ _ UA.ok hr5 (by rfl) UA.m UA.kp UA.b .nil pass0 (@pa_cons _ _ _ _ _ (@pe_call _ _ _ _ _ _ _ _ _ _ _ _ _ _ _ _ US.ok hr12 (by rfl) US.m US.kp US.b .nil pass0 (@pa_cons _ _ _ _ _ pe_int pa_nil (by rfl)) (by decide) (by rfl) (by rfl)) pa_nil (by rfl)) (by decide) (by rfl) (by rfl)) pe_non (by rfl))))))),?_⟩
 refine⟨_,rfl,a,_,rfl,.inl hS,_,_,rfl,_,_,rfl,_,rfl,?_,?_,?_⟩
 ·split<;>split<;>lia
 ·rw[List.length_map];split<;>split<;>lia
 refine zav (lo:=0) (fun i σ H2=>(∃ v1 v2 v3 v4 v5,σ=[some (.ref a),v1,v2,v3,v4,v5])∧SqL K H2 a (ns.map V.int)) ⟨⟨_,_,_,_,_,rfl⟩,hS⟩ ?_ ?_
 ·rintro i σ H2 hi ⟨⟨v1,v2,v3,v4,v5,rfl⟩,hS2⟩
  have ib:i<31:=by
   have:(if (if ((ns.map V.int).length:Int)<10 then ((ns.map V.int).length:Int) else 10) > 4 then (if ((ns.map V.int).length:Int)<10 then ((ns.map V.int).length:Int) else 10) else 4)≤30:=by split<;>split<;>lia
   lia
  refine⟨_,rfl,_,rfl,a,ns,_,rfl,hS2,h63,by lia,by lia,fun l H3 hl s3 S3=>?_⟩
  refine⟨_,rfl,l,rfl,S3,fun r1 fr1 er1 ps1 N1 H4 ok1 lm1 mx1 lv1 na1 S4 B4=>?_⟩
  refine⟨_,rfl,l,rfl,S4,fun r2 fr2 er2 ps2 N2 H5 ok2 lm2 fa2 na2 S5 B5=>?_⟩
  refine⟨(by show 2≤sizeLine;decide),fun ln hln=>?_⟩
  have s6:=zaa hln (.lst [.ref r1,.ref r2])
  have e6:=atNew hln (.lst [.ref r1,.ref r2])
  have n1:=(na1.tups (B5.tups S4)).tups (Tups.of s6)
  have n2:=na2.tups (Tups.of s6)
  have B36:=(B4.trans B5).trans (But.of s6)
  generalize L2.upd H5 ln _=H6 at s6 e6 n1 n2 B36 ⊢
  refine⟨ln,rfl,⟨_,SqL.of e6⟩,?_⟩
  refine zfq (K:=K) (a:=ln) (xs:=[.ref r1,.ref r2]) (fun q σ H7=>(∃ v3 v4 v5,σ=[some (.ref a),some (.int (0+(i:Nat))),some (.ref l),v3,v4,v5])∧Same H6 H7) ⟨⟨_,_,_,rfl⟩,Same.refl _⟩ (fun q σ H7 _ z=>SqL.of (z.2 _ _ e6)) ?_ ?_
  ·rintro q x σ H7 hx ⟨⟨v3,v4,v5,rfl⟩,s7⟩
   obtain⟨r,fr,er,ps,N,rfl,ok,lm,fa,na⟩:∃ r fr er ps N,x=.ref r∧Nt.Ok N∧N.lanes∈([1,2,4,8]:List Nat)∧Fair N∧NetAt H7 r fr er ps N:=by
    match q,hx with
    | 0,hx=>exact⟨r1,fr1,er1,ps1,N1,(Option.some.inj hx).symm,ok1,lm1,ziQ ok1 lm1 mx1 lv1,n1.tups (Tups.of s7)⟩
    | 1,hx=>exact⟨r2,fr2,er2,ps2,N2,(Option.some.inj hx).symm,ok2,lm2,fa2,n2.tups (Tups.of s7)⟩
    | q+2,hx=>simp at hx
   obtain⟨d,td⟩:=zgp ok
   obtain⟨z1,z2,z3⟩:=fa d td
   have eB:barD N d=zjY [] (zaK N):=by
    unfold barD
    rw[z1,z2,z3,if_neg Bool.false_ne_true,if_neg Bool.false_ne_true]
   refine⟨_,rfl,r,fr,er,ps,N,rfl,ok,lm,na,fun H8 s8 ef=>?_,fun c cs H8 s8 ef hc=>?_⟩
   ·rw[ef]at eB
    refine⟨_,rfl,rfl,_,rfl,iteT ?_⟩
    refine⟨_,rfl,r,fr,er,ps,N,d,rfl,ok,na.tups (Tups.of s8),td,fun x H9 s9 bx=>?_⟩
    obtain rfl:=zds (by have:=bx.1;rwa [eB]at this)
    refine⟨_,rfl,_,_,rfl,Eq2.flat rfl,fun H10 s10=>⟨_,rfl,iteF ?_⟩⟩
    have u10:=(s8.trans s9).trans s10
    refine⟨_,rfl,r,fr,er,ps,N,d,rfl,ok,na.tups (Tups.of u10),td,fun x H11 s11 bx=>?_⟩
    obtain rfl:=zds (by have:=bx.1;rwa [eB]at this)
    refine⟨_,rfl,_,_,rfl,Eq2.flat rfl,fun H12 s12=>⟨_,rfl,iteF ?_⟩⟩
    refine⟨_,rfl,rfl,_,rfl,iteF (iteF (nxt ⟨⟨_,_,_,rfl⟩,((s7.trans u10).trans s11).trans s12⟩))⟩
   ·rw[ef]at eB
    obtain⟨cl,cb,cf⟩:=zdY ef
    refine⟨_,rfl,rfl,_,rfl,iteF ⟨_,rfl,(by show 2≤sizeLine;decide),fun t ht=>?_⟩⟩
    have s9:=zaa ht (.tup [.str "row",.ref c])
    have at9:=atNew ht (.tup [.str "row",.ref c])
    have hc9:=s9 _ _ hc
    generalize L2.upd H8 t _=H9 at s9 at9 hc9 ⊢
    have u9:=s8.trans s9
    have same:∀ x H',Same H9 H'→BarIs H' N d x→Eq2 H' 2 x (.ref t):=fun x H' s' bx=>by
     have dx:=bx.1
     rw[eB]at dx
     obtain⟨t',c',rfl,ht',hc'⟩:=dd_row dx
     refine .inr ⟨t',t,_,_,rfl,rfl,ht',s' _ _ at9,rfl,by show 2≤1000;decide,fun q u v hu hv=>?_⟩
     match q,hu,hv with
     | 0,hu,hv=>obtain rfl:=Option.some.inj hu;obtain rfl:=Option.some.inj hv;exact Eq2.flat rfl
     | 1,hu,hv=>obtain rfl:=Option.some.inj hu;obtain rfl:=Option.some.inj hv;exact zi1 hc' (s' _ _ hc9) (by have:=ok.l16;lia)
     | q+2,hu,hv=>simp at hu
    refine⟨_,rfl,r,fr,er,ps,N,d,rfl,ok,na.tups (Tups.of u9),td,fun x H10 s10 bx=>?_⟩
    refine⟨_,rfl,_,_,rfl,same x H10 s10 bx,fun H11 s11=>⟨_,rfl,iteF ?_⟩⟩
    have u11:=s10.trans s11
    refine⟨_,rfl,r,fr,er,ps,N,d,rfl,ok,(na.tups (Tups.of u9)).tups (Tups.of u11),td,fun x H12 s12 bx=>?_⟩
    refine⟨_,rfl,_,_,rfl,same x H12 (u11.trans s12) bx,fun H13 s13=>⟨_,rfl,iteF ?_⟩⟩
    have u13:=(u11.trans s12).trans s13
    have th:ThK H13 N d (.ref t) true:=⟨t,rfl,.inr (.inr (.inr ⟨c,cs,u13 _ _ at9,u13 _ _ hc9,cl,cb,by rw[cf];rfl⟩))⟩
    refine⟨_,rfl,rfl,_,rfl,iteT ⟨_,rfl,_,rfl,r,fr,er,ps,N,d,.ref t,rfl,ok,(na.tups (Tups.of u9)).tups (Tups.of u13),td,th.deep ok,fun H14 s14=>?_⟩⟩
    rw[th.bar]
    exact⟨_,_,rfl,rfl,_,rfl,iteF (nxt ⟨⟨_,_,_,rfl⟩,((s7.trans u9).trans u13).trans s14⟩)⟩
  ·rintro σ H7 ⟨⟨v3,v4,v5,rfl⟩,s7⟩
   exact⟨⟨_,_,_,_,_,rfl⟩,zjF hS2 hl s3 (B36.trans (But.of s7))⟩
 rintro σ H2 ⟨⟨v1,v2,v3,v4,v5,rfl⟩,_⟩
 refine⟨rfl,fun r fr er ps H3 s3 n3=>?_⟩
 obtain⟨d1,td1⟩:=zgp zgc
 obtain⟨z1,z2,z3⟩:=zbW zgd d1 td1
 have e1:barD zed d1=.none:=by
  unfold barD
  rw[z1,z2,z3,if_neg Bool.false_ne_true,if_neg Bool.false_ne_true];rfl
 refine⟨r,fr,er,ps,zed,d1,rfl,zgc,n3,td1,fun x H4 s4 bx=>?_⟩
 obtain rfl:=zds (by have:=bx.1;rwa [e1]at this)
 refine⟨rfl,_,rfl,iteT ?_⟩
 have ok4:=zfc (zcZ (k:=4) (by decide))
 obtain⟨d2,td2⟩:=zgp ok4
 obtain⟨y1,y2,y3⟩:=zbW zhM d2 td2
 have e2:barD (za7 (za6 4)) d2=.none:=by
  unfold barD
  rw[y1,y2,y3,if_neg Bool.false_ne_true,if_neg Bool.false_ne_true]
  have:zaK (za7 (za6 4))=none:=if_pos (by decide +kernel)
  rw[this];rfl
 refine⟨4,rfl,by decide,fun r' fr' er' ps' H5 s5 n5=>?_⟩
 refine⟨r',fr',er',ps',_,d2,rfl,ok4,n5,td2,fun x H6 s6 bx=>?_⟩
 obtain rfl:=zds (by have:=bx.1;rwa [e2]at this)
 exact⟨rfl,k _⟩
end
structure FnAt (K:PySem.W.Frag) (x:Str) (st:Stmt) (f:Addr) (fd:FuncData):Prop where
 ns:PySem.W.nsIn K mainGlobals x=some (some (.ref f))
 fn:Fun K x x st f fd
theorem zal {K:PySem.W.Frag}{x:Str}{st:Stmt}{f:Addr}{oc:Value}{od an:Option Addr}{osl:Array (Option Value)}{kV doc pm cdv ct:Value}(a:PySem.W.nsIn K mainGlobals x=some (some (.ref f)))
  (l:K.lookup f=some ⟨oc,od,.func (PySem.W.fnOf x x (zbX st) (zbu st) (zad st) .none kV doc pm an cdv ct),osl⟩) (c:PySem.W.codeIn K cdv x=true) (k:PySem.W.keepIn K (.ref f)=true):FnAt K x st f (PySem.W.fnOf x x (zbX st) (zbu st) (zad st) .none kV doc pm an cdv ct):=⟨a,zlD l c k⟩
theorem us0 {us:List Value}(h:us.length=0):us=[]:=List.eq_nil_of_length_eq_zero h
theorem us1 {us:List Value}(h:us.length=1):∃ u0,us=[u0]:=by
 match us,h with
 | [u0],_=>exact⟨u0,rfl⟩
theorem us2 {us:List Value}(h:us.length=2):∃ u0 u1,us=[u0,u1]:=by
 match us,h with
 | [u0,u1],_=>exact⟨u0,u1,rfl⟩
theorem us3 {us:List Value}(h:us.length=3):∃ u0 u1 u2,us=[u0,u1,u2]:=by
 match us,h with
 | [u0,u1,u2],_=>exact⟨u0,u1,u2,rfl⟩
set_option maxHeartbeats 4000001 in
theorem zlI {l:PySem.W.OpenLaw}{w:World}{K:PySem.W.Frag}{h:Heap}{mg:Str→Option Value}{fa f1 f2 f3 f4 f5 f6 f7 f8 f9 f10 f11 f12 f13 f14 f15 f16 f17 f18 f19 f20 f21 f22 f23 f24 f25 f26 f27 f28 f29 f30 f31 f32 f33 f34 f35 f36 f37 f38 f39 f40 f41 f42 f43 f44 f45 f46:Addr}{d1 d2 d3 d4 d5 d6 d7 d8 d9 d10 d11 d12 d13 d14 d15 d16 d17 d18 d19 d20 d21 d22 d23 d24 d25 d26 d27 d28 d29 d30 d31 d32 d33 d34 d35 d36 d37 d38 d39 d40 d41 d42 d43 d44 d45 d46:FuncData}(X:K.In h) (G:h.Ns mainGlobals mg) (hfa:mg "law" = some (.ref fa))
  (A1:FnAt K "_law_cell_at" zjU f1 d1)
  (A2:FnAt K "_law_left" zjP f2 d2)
  (A3:FnAt K "_law_pick" zjO f3 d3)
  (A4:FnAt K "_law_even_net" zjQ f4 d4)
  (A5:FnAt K "layers" zeq f5 d5)
  (A6:FnAt K "plain" zgN f6 d6)
  (A7:FnAt K "depth" zgU f7 d7)
  (A8:FnAt K "power_of_two" sPow f8 d8)
  (A9:FnAt K "row_of" zgM f9 d9)
  (A10:FnAt K "net_of" zde f10 d10)
  (A11:FnAt K "block_of" ze5 f11 d11)
  (A12:FnAt K "rounds" zep f12 d12)
  (A13:FnAt K "by_turns" sBy f13 d13)
  (A14:FnAt K "merger_of" zbB f14 d14)
  (A15:FnAt K "stairway_of" zbA f15 d15)
  (A16:FnAt K "stairway" zch f16 d16)
  (A17:FnAt K "flowed" zet f17 d17)
  (A18:FnAt K "ends_of" zjR f18 d18)
  (A19:FnAt K "alone" zgW f19 d19)
  (A20:FnAt K "shares" zen f20 d20)
  (A21:FnAt K "_law_deep" zjS f21 d21)
  (A22:FnAt K "is_whole" zgK f22 d22)
  (A23:FnAt K "is_below" zgV f23 d23)
  (A24:FnAt K "is_row" zgQ f24 d24)
  (A25:FnAt K "are_below" zci f25 d25)
  (A26:FnAt K "is_word" zjK f26 d26)
  (A27:FnAt K "compared" zjT f27 d27)
  (A28:FnAt K "least_depth" zgP f28 d28)
  (A29:FnAt K "has_no_depth" zgO f29 d29)
  (A30:FnAt K "is_shallow" zjN f30 d30)
  (A31:FnAt K "off_shares" sOff f31 d31)
  (A32:FnAt K "falls" zgT f32 d32)
  (A33:FnAt K "is_off_share" zgR f33 d33)
  (A34:FnAt K "shows_bar" zgL f34 d34)
  (A35:FnAt K "_law_least" zer f35 d35)
  (A36:FnAt K "rows_of" zeo f36 d36)
  (A37:FnAt K "first_row" zgS f37 d37)
  (A38:FnAt K "bar" sBar f38 d38)
  (A39:FnAt K "_law_put" sPut f39 d39)
  (A40:FnAt K "_law_breaks" zeu f40 d40)
  (A41:FnAt K "_law_deep_net" zdf f41 d41)
  (A42:FnAt K "_law_same" zil f42 d42)
  (A43:FnAt K "_law_first" zes f43 d43)
  (A44:FnAt K "_law_wide" zjL f44 d44)
  (A45:FnAt K "_law_told_way" zjM f45 d45)
  (A46:FnAt K "law" sLaw f46 d46)
  (z1:PySem.W.nsIn K mainGlobals "len" = some none)
  (z2:PySem.W.nsIn K mainGlobals "range" = some none)
  (z3:PySem.W.nsIn K mainGlobals "tuple" = some none)
  (z4:PySem.W.nsIn K mainGlobals "enumerate" = some none)
  (z5:PySem.W.nsIn K mainGlobals "abs" = some none)
  (z6:PySem.W.nsIn K mainGlobals "zip" = some none)
  (z7:PySem.W.nsIn K mainGlobals "isinstance" = some none)
  (z8:PySem.W.nsIn K mainGlobals "all" = some none)
  (z9:PySem.W.nsIn K mainGlobals "sum" = some none)
  (z10:PySem.W.nsIn K mainGlobals "bool" = some none)
  (z11:PySem.W.nsIn K mainGlobals "int" = some none)
  (z12:PySem.W.nsIn K mainGlobals "str" = some none)
  (z13:PySem.W.nsIn K mainGlobals "max" = some none)
  (z14:PySem.W.nsIn K mainGlobals "min" = some none)
  (z15:PySem.W.nsIn K mainGlobals "sorted" = some none)
  (z16:PySem.W.nsIn K mainGlobals "list" = some none)
  (z17:PySem.W.nsIn K mainGlobals "any" = some none)
  {pD0:Addr}{ka0_0 kb0_0 ka0_1 kb0_1 ka0_2 kb0_2 ka0_3 kb0_3 ka0_4 kb0_4:Tok}{epD0:Nat}(zD0:PySem.W.nsIn K mainGlobals "LEAST_DEPTHS" = some (some (.ref pD0)))
  (lD0:K.lookup pD0=some ⟨.type "dict",none,.dict #[⟨1,.int 1 ka0_0,.int 0 kb0_0⟩,⟨2,.int 2 ka0_1,.int 1 kb0_1⟩,⟨4,.int 4 ka0_2,.int 3 kb0_2⟩,⟨8,.int 8 ka0_3,.int 6 kb0_3⟩,⟨16,.int 16 ka0_4,.int 9 kb0_4⟩] epD0,#[]⟩) (nD0:(pD0 == sysModules)=false)
  {tk0:Tok}(zk0:PySem.W.nsIn K mainGlobals "MOST_LANES_FOR_ROWS" = some (some (.int 8 tk0)))
  (zd:PySem.W.nsIn K cStatics "sys.int_max_str_digits" = some none)
  : ∃ fd:FuncData,(∀ (s:Shared) (v:Value),BindsTo s fd ⟨[v],[]⟩ [("_law_script",v)])∧∀ base:Heap,K.In base→base.Ns mainGlobals mg→FnOk l.prog w K mg base CX0 14 fa fd ["_law_script"] (zik K):=by
 have e:=hfa.symm.trans (PySem.W.mg_of X G A46.ns)
 cases e
 have M:Mgs mg:=⟨PySem.W.mg_none_of X G z1,PySem.W.mg_none_of X G z2,PySem.W.mg_none_of X G z3,PySem.W.mg_none_of X G z4,PySem.W.mg_none_of X G z5,PySem.W.mg_none_of X G z6,PySem.W.mg_none_of X G z7,PySem.W.mg_none_of X G z8,PySem.W.mg_none_of X G z9,PySem.W.mg_none_of X G z10,PySem.W.mg_none_of X G z11,PySem.W.mg_none_of X G z12,PySem.W.mg_none_of X G z13,PySem.W.mg_none_of X G z14,PySem.W.mg_none_of X G z15,PySem.W.mg_none_of X G z16⟩
 have M2:MgA mg:=⟨PySem.W.mg_none_of X G z17⟩
 have kc0:=PySem.W.mg_of X G zk0
 have b1:=A1.fn.binds (ps:=["_law_script","_law_k"]) fun _ _ _ _ _ _ us hl=>by obtain⟨u0,u1,rfl⟩:=us2 hl;rfl
 have m1:=PySem.W.mg_of X G A1.ns
 have b2:=A2.fn.binds (ps:=["_law_script","_law_k"]) fun _ _ _ _ _ _ us hl=>by obtain⟨u0,u1,rfl⟩:=us2 hl;rfl
 have m2:=PySem.W.mg_of X G A2.ns
 have b3:=A3.fn.binds (ps:=["_law_left_here","_law_many"]) fun _ _ _ _ _ _ us hl=>by obtain⟨u0,u1,rfl⟩:=us2 hl;rfl
 have m3:=PySem.W.mg_of X G A3.ns
 have b4:=A4.fn.binds (ps:=["_law_left_here","_law_most"]) fun _ _ _ _ _ _ us hl=>by obtain⟨u0,u1,rfl⟩:=us2 hl;rfl
 have m4:=PySem.W.mg_of X G A4.ns
 have b5:=A5.fn.binds (ps:=["net"]) fun _ _ _ _ _ _ us hl=>by obtain⟨u0,rfl⟩:=us1 hl;rfl
 have m5:=PySem.W.mg_of X G A5.ns
 have b6:=A6.fn.binds (ps:=["net"]) fun _ _ _ _ _ _ us hl=>by obtain⟨u0,rfl⟩:=us1 hl;rfl
 have m6:=PySem.W.mg_of X G A6.ns
 have b7:=A7.fn.binds (ps:=["net"]) fun _ _ _ _ _ _ us hl=>by obtain⟨u0,rfl⟩:=us1 hl;rfl
 have m7:=PySem.W.mg_of X G A7.ns
 have b8:=A8.fn.binds (ps:=["many"]) fun _ _ _ _ _ _ us hl=>by obtain⟨u0,rfl⟩:=us1 hl;rfl
 have m8:=PySem.W.mg_of X G A8.ns
 have b9:=A9.fn.binds (ps:=["k"]) fun _ _ _ _ _ _ us hl=>by obtain⟨u0,rfl⟩:=us1 hl;rfl
 have m9:=PySem.W.mg_of X G A9.ns
 have b10:=A10.fn.binds (ps:=["row","made"]) fun _ _ _ _ _ _ us hl=>by obtain⟨u0,u1,rfl⟩:=us2 hl;rfl
 have m10:=PySem.W.mg_of X G A10.ns
 have b11:=A11.fn.binds (ps:=["row"]) fun _ _ _ _ _ _ us hl=>by obtain⟨u0,rfl⟩:=us1 hl;rfl
 have m11:=PySem.W.mg_of X G A11.ns
 have b12:=A12.fn.binds (ps:=["k"]) fun _ _ _ _ _ _ us hl=>by obtain⟨u0,rfl⟩:=us1 hl;rfl
 have m12:=PySem.W.mg_of X G A12.ns
 have b13:=A13.fn.binds (ps:=["one","other"]) fun _ _ _ _ _ _ us hl=>by obtain⟨u0,u1,rfl⟩:=us2 hl;rfl
 have m13:=PySem.W.mg_of X G A13.ns
 have b14:=A14.fn.binds (ps:=["one","other"]) fun _ _ _ _ _ _ us hl=>by obtain⟨u0,u1,rfl⟩:=us2 hl;rfl
 have m14:=PySem.W.mg_of X G A14.ns
 have b15:=A15.fn.binds (ps:=["row"]) fun _ _ _ _ _ _ us hl=>by obtain⟨u0,rfl⟩:=us1 hl;rfl
 have m15:=PySem.W.mg_of X G A15.ns
 have b16:=A16.fn.binds (ps:=["k"]) fun _ _ _ _ _ _ us hl=>by obtain⟨u0,rfl⟩:=us1 hl;rfl
 have m16:=PySem.W.mg_of X G A16.ns
 have b17:=A17.fn.binds (ps:=["net","counts"]) fun _ _ _ _ _ _ us hl=>by obtain⟨u0,u1,rfl⟩:=us2 hl;rfl
 have m17:=PySem.W.mg_of X G A17.ns
 have b18:=A18.fn.binds (ps:=["net","counts"]) fun _ _ _ _ _ _ us hl=>by obtain⟨u0,u1,rfl⟩:=us2 hl;rfl
 have m18:=PySem.W.mg_of X G A18.ns
 have b19:=A19.fn.binds (ps:=["lanes","lane","many"]) fun _ _ _ _ _ _ us hl=>by obtain⟨u0,u1,u2,rfl⟩:=us3 hl;rfl
 have m19:=PySem.W.mg_of X G A19.ns
 have b20:=A20.fn.binds (ps:=["net"]) fun _ _ _ _ _ _ us hl=>by obtain⟨u0,rfl⟩:=us1 hl;rfl
 have m20:=PySem.W.mg_of X G A20.ns
 have b21:=A21.fn.binds (ps:=["_law_net"]) fun _ _ _ _ _ _ us hl=>by obtain⟨u0,rfl⟩:=us1 hl;rfl
 have m21:=PySem.W.mg_of X G A21.ns
 have b22:=A22.fn.binds (ps:=["thing"]) fun _ _ _ _ _ _ us hl=>by obtain⟨u0,rfl⟩:=us1 hl;rfl
 have m22:=PySem.W.mg_of X G A22.ns
 have b23:=A23.fn.binds (ps:=["thing","bound"]) fun _ _ _ _ _ _ us hl=>by obtain⟨u0,u1,rfl⟩:=us2 hl;rfl
 have m23:=PySem.W.mg_of X G A23.ns
 have b24:=A24.fn.binds (ps:=["thing","many"]) fun _ _ _ _ _ _ us hl=>by obtain⟨u0,u1,rfl⟩:=us2 hl;rfl
 have m24:=PySem.W.mg_of X G A24.ns
 have b25:=A25.fn.binds (ps:=["thing","many","bound"]) fun _ _ _ _ _ _ us hl=>by obtain⟨u0,u1,u2,rfl⟩:=us3 hl;rfl
 have m25:=PySem.W.mg_of X G A25.ns
 have b26:=A26.fn.binds (ps:=["thing","word"]) fun _ _ _ _ _ _ us hl=>by obtain⟨u0,u1,rfl⟩:=us2 hl;rfl
 have m26:=PySem.W.mg_of X G A26.ns
 have b27:=A27.fn.binds (ps:=["net","row"]) fun _ _ _ _ _ _ us hl=>by obtain⟨u0,u1,rfl⟩:=us2 hl;rfl
 have m27:=PySem.W.mg_of X G A27.ns
 have b28:=A28.fn.binds (ps:=["lanes"]) fun _ _ _ _ _ _ us hl=>by obtain⟨u0,rfl⟩:=us1 hl;rfl
 have m28:=PySem.W.mg_of X G A28.ns
 have b29:=A29.fn.binds (ps:=["net"]) fun _ _ _ _ _ _ us hl=>by obtain⟨u0,rfl⟩:=us1 hl;rfl
 have m29:=PySem.W.mg_of X G A29.ns
 have b30:=A30.fn.binds (ps:=["net"]) fun _ _ _ _ _ _ us hl=>by obtain⟨u0,rfl⟩:=us1 hl;rfl
 have m30:=PySem.W.mg_of X G A30.ns
 have b31:=A31.fn.binds (ps:=["net"]) fun _ _ _ _ _ _ us hl=>by obtain⟨u0,rfl⟩:=us1 hl;rfl
 have m31:=PySem.W.mg_of X G A31.ns
 have b32:=A32.fn.binds (ps:=["net","row"]) fun _ _ _ _ _ _ us hl=>by obtain⟨u0,u1,rfl⟩:=us2 hl;rfl
 have m32:=PySem.W.mg_of X G A32.ns
 have b33:=A33.fn.binds (ps:=["net","thing"]) fun _ _ _ _ _ _ us hl=>by obtain⟨u0,u1,rfl⟩:=us2 hl;rfl
 have m33:=PySem.W.mg_of X G A33.ns
 have b34:=A34.fn.binds (ps:=["net","thing"]) fun _ _ _ _ _ _ us hl=>by obtain⟨u0,u1,rfl⟩:=us2 hl;rfl
 have m34:=PySem.W.mg_of X G A34.ns
 have b35:=A35.fn.binds (ps:=["_law_lanes"]) fun _ _ _ _ _ _ us hl=>by obtain⟨u0,rfl⟩:=us1 hl;rfl
 have m35:=PySem.W.mg_of X G A35.ns
 have b36:=A36.fn.binds (ps:=["lanes"]) fun _ _ _ _ _ _ us hl=>by obtain⟨u0,rfl⟩:=us1 hl;rfl
 have m36:=PySem.W.mg_of X G A36.ns
 have b37:=A37.fn.binds (ps:=["net"]) fun _ _ _ _ _ _ us hl=>by obtain⟨u0,rfl⟩:=us1 hl;rfl
 have m37:=PySem.W.mg_of X G A37.ns
 have b38:=A38.fn.binds (ps:=["net"]) fun _ _ _ _ _ _ us hl=>by obtain⟨u0,rfl⟩:=us1 hl;rfl
 have m38:=PySem.W.mg_of X G A38.ns
 have b39:=A39.fn.binds (ps:=["_law_net","_law_row"]) fun _ _ _ _ _ _ us hl=>by obtain⟨u0,u1,rfl⟩:=us2 hl;rfl
 have m39:=PySem.W.mg_of X G A39.ns
 have b40:=A40.fn.binds (ps:=["_law_row"]) fun _ _ _ _ _ _ us hl=>by obtain⟨u0,rfl⟩:=us1 hl;rfl
 have m40:=PySem.W.mg_of X G A40.ns
 have b41:=A41.fn.binds (ps:=["_law_left_here"]) fun _ _ _ _ _ _ us hl=>by obtain⟨u0,rfl⟩:=us1 hl;rfl
 have m41:=PySem.W.mg_of X G A41.ns
 have b42:=A42.fn.binds (ps:=["_law_found","_law_due"]) fun _ _ _ _ _ _ us hl=>by obtain⟨u0,u1,rfl⟩:=us2 hl;rfl
 have m42:=PySem.W.mg_of X G A42.ns
 have b43:=A43.fn.binds (ps:=["_law_net"]) fun _ _ _ _ _ _ us hl=>by obtain⟨u0,rfl⟩:=us1 hl;rfl
 have m43:=PySem.W.mg_of X G A43.ns
 have b44:=A44.fn.binds (ps:=[]) fun _ _ _ _ _ _ us hl=>by obtain rfl:=us0 hl;rfl
 have m44:=PySem.W.mg_of X G A44.ns
 have b45:=A45.fn.binds (ps:=["_law_left_here"]) fun _ _ _ _ _ _ us hl=>by obtain⟨u0,rfl⟩:=us1 hl;rfl
 have m45:=PySem.W.mg_of X G A45.ns
 have hM0:=PySem.W.mg_of X G zD0
 have hD0:DictK K pD0 zfm:=⟨⟨_,_,_,lD0,⟨rfl,rfl,rfl⟩,rfl,.cons rfl (.cons rfl (.cons rfl (.cons rfl (.cons rfl (.nil)))))⟩,by decide,nD0⟩
 obtain⟨oc,od,kV,doc,pm,an,cdv,ct,osl,ed,_,_⟩:=id A46.fn.ex
 refine⟨d46,fun s v=>by rw[ed];exact .of_eq rfl,fun base _ _=>?_⟩
 have U1:Use l.prog w K mg base "_law_cell_at" ["_law_script","_law_k"] 1 (zgD K) f1 d1:=⟨zko A1.fn M,b1,A1.fn.kp,m1⟩
 have U2:Use l.prog w K mg base "_law_left" ["_law_script","_law_k"] 2 (zgz K) f2 d2:=⟨zkj A2.fn M zd U1,b2,A2.fn.kp,m2⟩
 have U3:Use l.prog w K mg base "_law_pick" ["_law_left_here","_law_many"] 1 zdE f3 d3:=⟨zki A3.fn,b3,A3.fn.kp,m3⟩
 have U4:Use l.prog w K mg base "_law_even_net" ["_law_left_here","_law_most"] 2 zgA f4 d4:=⟨zkk A4.fn M U3,b4,A4.fn.kp,m4⟩
 have U5:Use l.prog w K mg base "layers" ["net"] 1 zb6 f5 d5:=⟨zhi A5.fn M,b5,A5.fn.kp,m5⟩
 have U6:Use l.prog w K mg base "plain" ["net"] 2 zei f6 d6:=⟨ziB A6.fn M U5,b6,A6.fn.kp,m6⟩
 have U7:Use l.prog w K mg base "depth" ["net"] 2 zcf f7 d7:=⟨ziI A7.fn M U5,b7,A7.fn.kp,m7⟩
 have U8:Use l.prog w K mg base "power_of_two" ["many"] 1 zjG f8 d8:=⟨zll A8.fn M,b8,A8.fn.kp,m8⟩
 have U9:Use l.prog w K mg base "row_of" ["k"] 2 zc2 f9 d9:=⟨ziA A9.fn M U8,b9,A9.fn.kp,m9⟩
 have U10:Use l.prog w K mg base "net_of" ["row","made"] 3 zby f10 d10:=⟨zfO A10.fn M U6,b10,A10.fn.kp,m10⟩
 have U11:Use l.prog w K mg base "block_of" ["row"] 5 (zbN 4) f11 d11:=⟨zfh A11.fn M b11 m11 4,b11,A11.fn.kp,m11⟩
 have U12:Use l.prog w K mg base "rounds" ["k"] 6 zc3 f12 d12:=⟨zhf A12.fn U9 U11 U10,b12,A12.fn.kp,m12⟩
 have U13:Use l.prog w K mg base "by_turns" ["one","other"] 1 spBy f13 d13:=⟨zlW A13.fn M,b13,A13.fn.kp,m13⟩
 have U14:Use l.prog w K mg base "merger_of" ["one","other"] 6 zaY f14 d14:=⟨zeA A14.fn M U13 b14 m14,b14,A14.fn.kp,m14⟩
 have U15:Use l.prog w K mg base "stairway_of" ["row"] 11 zbM f15 d15:=⟨zez A15.fn M U14 b15 m15,b15,A15.fn.kp,m15⟩
 have U16:Use l.prog w K mg base "stairway" ["k"] 12 zbj f16 d16:=⟨zey A16.fn U9 U15 U10,b16,A16.fn.kp,m16⟩
 have U17:Use l.prog w K mg base "flowed" ["net","counts"] 1 zc7 f17 d17:=⟨zhj A17.fn M,b17,A17.fn.kp,m17⟩
 have U18:Use l.prog w K mg base "ends_of" ["net","counts"] 2 zgB f18 d18:=⟨zkl A18.fn M U17,b18,A18.fn.kp,m18⟩
 have U8_b:Use l.prog w K mg base "power_of_two" ["many"] 1 ze2 f8 d8:=⟨zkh A8.fn M,b8,A8.fn.kp,m8⟩
 have U19:Use l.prog w K mg base "alone" ["lanes","lane","many"] 1 zem f19 d19:=⟨ziK A19.fn M,b19,A19.fn.kp,m19⟩
 have U20:Use l.prog w K mg base "shares" ["net"] 3 zc0 f20 d20:=⟨zhc A20.fn M U7 U8_b U19 U18,b20,A20.fn.kp,m20⟩
 have U21:Use l.prog w K mg base "_law_deep" ["_law_net"] 1 zgC f21 d21:=⟨zkm A21.fn M,b21,A21.fn.kp,m21⟩
 have U22:Use l.prog w K mg base "is_whole" ["thing"] 1 (zeg K) f22 d22:=⟨ziy A22.fn M,b22,A22.fn.kp,m22⟩
 have U23:Use l.prog w K mg base "is_below" ["thing","bound"] 2 (zel K) f23 d23:=⟨ziJ A23.fn M U22,b23,A23.fn.kp,m23⟩
 have U24:Use l.prog w K mg base "is_row" ["thing","many"] 1 (zc6 K) f24 d24:=⟨ziE A24.fn M,b24,A24.fn.kp,m24⟩
 have U25:Use l.prog w K mg base "are_below" ["thing","many","bound"] 3 (zbk K) f25 d25:=⟨zeB A25.fn M U24 U23,b25,A25.fn.kp,m25⟩
 have U26:Use l.prog w K mg base "is_word" ["thing","word"] 1 (ze1 K) f26 d26:=⟨zke A26.fn M,b26,A26.fn.kp,m26⟩
 have U27:Use l.prog w K mg base "compared" ["net","row"] 1 zfF f27 d27:=⟨zkn A27.fn M,b27,A27.fn.kp,m27⟩
 have U28:Use l.prog w K mg base "least_depth" ["lanes"] 1 zbr f28 d28:=⟨ziD A28.fn hM0 hD0,b28,A28.fn.kp,m28⟩
 have U35:Use l.prog w K mg base "_law_least" ["_law_lanes"] 1 zbr f35 d35:=⟨zhg A35.fn,b35,A35.fn.kp,m35⟩
 have U29:Use l.prog w K mg base "has_no_depth" ["net"] 2 zc4 f29 d29:=⟨ziC A29.fn U28,b29,A29.fn.kp,m29⟩
 have U30:Use l.prog w K mg base "is_shallow" ["net"] 3 zdC f30 d30:=⟨zkg A30.fn U28 U7,b30,A30.fn.kp,m30⟩
 have U31:Use l.prog w K mg base "off_shares" ["net"] 4 zij f31 d31:=⟨zlm A31.fn M U20 U8_b U7,b31,A31.fn.kp,m31⟩
 have U32:Use l.prog w K mg base "falls" ["net","row"] 2 zc8 f32 d32:=⟨ziH A32.fn M U27,b32,A32.fn.kp,m32⟩
 have U33:Use l.prog w K mg base "is_off_share" ["net","thing"] 5 (zej K) f33 d33:=⟨ziF A33.fn U25 U31,b33,A33.fn.kp,m33⟩
 have U34:Use l.prog w K mg base "shows_bar" ["net","thing"] 6 (zeh K) f34 d34:=⟨ziz A34.fn U24 U26 U29 U30 U25 U32 U33,b34,A34.fn.kp,m34⟩
 have U36:Use l.prog w K mg base "rows_of" ["lanes"] 1 zc1 f36 d36:=⟨zhe A36.fn M,b36,A36.fn.kp,m36⟩
 have U37:Use l.prog w K mg base "first_row" ["net"] 3 zek f37 d37:=⟨ziG A37.fn kc0 U36 U32,b37,A37.fn.kp,m37⟩
 have U38:Use l.prog w K mg base "bar" ["net"] 5 zjH f38 d38:=⟨zlo A38.fn U29 U30 U31 U37,b38,A38.fn.kp,m38⟩
 have U39:Use l.prog w K mg base "_law_put" ["_law_net","_law_row"] 1 zfF f39 d39:=⟨zlk A39.fn M,b39,A39.fn.kp,m39⟩
 have U40:Use l.prog w K mg base "_law_breaks" ["_law_row"] 1 zc9 f40 d40:=⟨zhk A40.fn M M2,b40,A40.fn.kp,m40⟩
 have U41:Use l.prog w K mg base "_law_deep_net" ["_law_left_here"] 3 zcg f41 d41:=⟨zfP A41.fn M U4 U3 U21 U35,b41,A41.fn.kp,m41⟩
 have U42:Use l.prog w K mg base "_law_same" ["_law_found","_law_due"] 3 (zdD 2) f42 d42:=⟨zhd A42.fn M b42 m42 2,b42,A42.fn.kp,m42⟩
 have U43:Use l.prog w K mg base "_law_first" ["_law_net"] 2 zc5 f43 d43:=⟨zhh A43.fn M U39 U40,b43,A43.fn.kp,m43⟩
 have U44:Use l.prog w K mg base "_law_wide" [] 1 zgx f44 d44:=⟨zkf A44.fn M,b44,A44.fn.kp,m44⟩
 have U45:Use l.prog w K mg base "_law_told_way" ["_law_left_here"] 13 zgy f45 d45:=⟨zfN A45.fn M U3 U16 U12,b45,A45.fn.kp,m45⟩
 exact zln A46.fn M U2 U41 U45 U43 U38 U34 U42 U44 U16
theorem walk {l:PySem.W.OpenLaw}{q:Program}{loose:List Str}{XP:(Str→Option Value)→Heap→Prop}{YP:World→Heap→Prop}{d:DefRec}{K:Params→PySem.W.Frag}(hn:l.most=some 63) (hdf:d.params.defaults=[])
  (hY:∀ (w:World) (h:Heap),YP w h→(K w.params).In h)
  (F:∀ (w:World) (mg:Str→Option Value) (fa:Addr) (h:Heap),(K w.params).In h→h.Ns mainGlobals mg→mg d.name=some (.ref fa) →
   ∃ fd:FuncData,(∀ (s:Shared) (u:Value),BindsTo s fd ⟨[u],[]⟩ [("_law_script",u)])∧∀ base:Heap,(K w.params).In base→base.Ns mainGlobals mg→FnOk l.prog w (K w.params) mg base CX0 14 fa fd ["_law_script"] (zik (K w.params))) :
  PySem.W.WalkO q loose XP YP l.row.toRowW d [] (fun f vs=>PySem.call f vs) :=
 L2.zic (n:=63) (k:=14) (x:="_law_script") (CX:=CX0) (sp:=zik) hn (by decide) hdf ⟨rfl,by decide,by decide,rfl⟩ hY F (fun _ _ a ns hl _ hS=>⟨a,ns,rfl,hS,hl,fun _=>rfl⟩) fun _ _ _ _ z=>z
end K70
theorem PySem.W.Fast.tw3069489369740692715:True:=trivial
theorem PySem.W.Fast.tw10850184039797889635:True:=trivial
theorem PySem.W.Fast.tw11045832665933263326:True:=trivial
theorem PySem.W.Fast.tw6784985443757113630:True:=trivial
theorem PySem.W.Fast.tw2508337874358988587:True:=trivial
theorem PySem.W.Fast.tw2916304011433923560:True:=trivial
theorem PySem.W.Fast.tw7448538350289680373:True:=trivial
theorem PySem.W.Fast.tw9832668450360973648:True:=trivial
theorem PySem.W.Fast.tw16008355070489506682:True:=trivial
theorem PySem.W.Fast.tw853512647660617945:True:=trivial
theorem PySem.W.Fast.tw4756183980489450039:True:=trivial
open PySem PySem.W PyProof.Rows
set_option maxRecDepth 100000 in
set_option maxHeartbeats 0 in
theorem PySem.Challenge.cw_stairlanes_k70_bars_of_rows_holds : PySem.Challenge.rw_stairlanes_k70_bars_of_rows.Holds := by
 w_on;o_law;k_head;(case hw=>w_witness2)
 k_fill
 refine K70.walk (l:=PySem.Challenge.rw_stairlanes_k70_bars_of_rows) rfl rfl (fun w h Y=>PySem.W.kIn_of Y) ?F
 case F =>
  intro w mg fa h KX G hmg
  refine' K70.zlI KX G hmg (K70.zal ?a1 ?l1 ?c1 ?k1) (K70.zal ?a2 ?l2 ?c2 ?k2) (K70.zal ?a3 ?l3 ?c3 ?k3) (K70.zal ?a4 ?l4 ?c4 ?k4) (K70.zal ?a5 ?l5 ?c5 ?k5) (K70.zal ?a6 ?l6 ?c6 ?k6) (K70.zal ?a7 ?l7 ?c7 ?k7) (K70.zal ?a8 ?l8 ?c8 ?k8) (K70.zal ?a9 ?l9 ?c9 ?k9) (K70.zal ?a10 ?l10 ?c10 ?k10) (K70.zal ?a11 ?l11 ?c11 ?k11) (K70.zal ?a12 ?l12 ?c12 ?k12) (K70.zal ?a13 ?l13 ?c13 ?k13) (K70.zal ?a14 ?l14 ?c14 ?k14) (K70.zal ?a15 ?l15 ?c15 ?k15) (K70.zal ?a16 ?l16 ?c16 ?k16) (K70.zal ?a17 ?l17 ?c17 ?k17) (K70.zal ?a18 ?l18 ?c18 ?k18) (K70.zal ?a19 ?l19 ?c19 ?k19) (K70.zal ?a20 ?l20 ?c20 ?k20) (K70.zal ?a21 ?l21 ?c21 ?k21) (K70.zal ?a22 ?l22 ?c22 ?k22) (K70.zal ?a23 ?l23 ?c23 ?k23) (K70.zal ?a24 ?l24 ?c24 ?k24) (K70.zal ?a25 ?l25 ?c25 ?k25) (K70.zal ?a26 ?l26 ?c26 ?k26) (K70.zal ?a27 ?l27 ?c27 ?k27) (K70.zal ?a28 ?l28 ?c28 ?k28) (K70.zal ?a29 ?l29 ?c29 ?k29) (K70.zal ?a30 ?l30 ?c30 ?k30) (K70.zal ?a31 ?l31 ?c31 ?k31) (K70.zal ?a32 ?l32 ?c32 ?k32) (K70.zal ?a33 ?l33 ?c33 ?k33) (K70.zal ?a34 ?l34 ?c34 ?k34) (K70.zal ?a35 ?l35 ?c35 ?k35) (K70.zal ?a36 ?l36 ?c36 ?k36) (K70.zal ?a37 ?l37 ?c37 ?k37) (K70.zal ?a38 ?l38 ?c38 ?k38) (K70.zal ?a39 ?l39 ?c39 ?k39) (K70.zal ?a40 ?l40 ?c40 ?k40) (K70.zal ?a41 ?l41 ?c41 ?k41) (K70.zal ?a42 ?l42 ?c42 ?k42) (K70.zal ?a43 ?l43 ?c43 ?k43) (K70.zal ?a44 ?l44 ?c44 ?k44) (K70.zal ?a45 ?l45 ?c45 ?k45) (K70.zal ?a46 ?l46 ?c46 ?k46) ?z1 ?z2 ?z3 ?z4 ?z5 ?z6 ?z7 ?z8 ?z9 ?z10 ?z11 ?z12 ?z13 ?z14 ?z15 ?z16 ?z17 ?zD0 ?lD0 ?nD0 ?zk0 ?zd
  (case a1=>k_is);(case l1=>k_is);(case c1=>k_is);(case k1=>k_is)
  (case a2=>k_is);(case l2=>k_is);(case c2=>k_is);(case k2=>k_is)
  (case a3=>k_is);(case l3=>k_is);(case c3=>k_is);(case k3=>k_is)
  (case a4=>k_is);(case l4=>k_is);(case c4=>k_is);(case k4=>k_is)
  (case a5=>k_is);(case l5=>k_is);(case c5=>k_is);(case k5=>k_is)
  (case a6=>k_is);(case l6=>k_is);(case c6=>k_is);(case k6=>k_is)
  (case a7=>k_is);(case l7=>k_is);(case c7=>k_is);(case k7=>k_is)
  (case a8=>k_is);(case l8=>k_is);(case c8=>k_is);(case k8=>k_is)
  (case a9=>k_is);(case l9=>k_is);(case c9=>k_is);(case k9=>k_is)
  (case a10=>k_is);(case l10=>k_is);(case c10=>k_is);(case k10=>k_is)
  (case a11=>k_is);(case l11=>k_is);(case c11=>k_is);(case k11=>k_is)
  (case a12=>k_is);(case l12=>k_is);(case c12=>k_is);(case k12=>k_is)
  (case a13=>k_is);(case l13=>k_is);(case c13=>k_is);(case k13=>k_is)
  (case a14=>k_is);(case l14=>k_is);(case c14=>k_is);(case k14=>k_is)
  (case a15=>k_is);(case l15=>k_is);(case c15=>k_is);(case k15=>k_is)
  (case a16=>k_is);(case l16=>k_is);(case c16=>k_is);(case k16=>k_is)
  (case a17=>k_is);(case l17=>k_is);(case c17=>k_is);(case k17=>k_is)
  (case a18=>k_is);(case l18=>k_is);(case c18=>k_is);(case k18=>k_is)
  (case a19=>k_is);(case l19=>k_is);(case c19=>k_is);(case k19=>k_is)
  (case a20=>k_is);(case l20=>k_is);(case c20=>k_is);(case k20=>k_is)
  (case a21=>k_is);(case l21=>k_is);(case c21=>k_is);(case k21=>k_is)
  (case a22=>k_is);(case l22=>k_is);(case c22=>k_is);(case k22=>k_is)
  (case a23=>k_is);(case l23=>k_is);(case c23=>k_is);(case k23=>k_is)
  (case a24=>k_is);(case l24=>k_is);(case c24=>k_is);(case k24=>k_is)
  (case a25=>k_is);(case l25=>k_is);(case c25=>k_is);(case k25=>k_is)
  (case a26=>k_is);(case l26=>k_is);(case c26=>k_is);(case k26=>k_is)
  (case a27=>k_is);(case l27=>k_is);(case c27=>k_is);(case k27=>k_is)
  (case a28=>k_is);(case l28=>k_is);(case c28=>k_is);(case k28=>k_is)
  (case a29=>k_is);(case l29=>k_is);(case c29=>k_is);(case k29=>k_is)
  (case a30=>k_is);(case l30=>k_is);(case c30=>k_is);(case k30=>k_is)
  (case a31=>k_is);(case l31=>k_is);(case c31=>k_is);(case k31=>k_is)
  (case a32=>k_is);(case l32=>k_is);(case c32=>k_is);(case k32=>k_is)
  (case a33=>k_is);(case l33=>k_is);(case c33=>k_is);(case k33=>k_is)
  (case a34=>k_is);(case l34=>k_is);(case c34=>k_is);(case k34=>k_is)
  (case a35=>k_is);(case l35=>k_is);(case c35=>k_is);(case k35=>k_is)
  (case a36=>k_is);(case l36=>k_is);(case c36=>k_is);(case k36=>k_is)
  (case a37=>k_is);(case l37=>k_is);(case c37=>k_is);(case k37=>k_is)
  (case a38=>k_is);(case l38=>k_is);(case c38=>k_is);(case k38=>k_is)
  (case a39=>k_is);(case l39=>k_is);(case c39=>k_is);(case k39=>k_is)
  (case a40=>k_is);(case l40=>k_is);(case c40=>k_is);(case k40=>k_is)
  (case a41=>k_is);(case l41=>k_is);(case c41=>k_is);(case k41=>k_is)
  (case a42=>k_is);(case l42=>k_is);(case c42=>k_is);(case k42=>k_is)
  (case a43=>k_is);(case l43=>k_is);(case c43=>k_is);(case k43=>k_is)
  (case a44=>k_is);(case l44=>k_is);(case c44=>k_is);(case k44=>k_is)
  (case a45=>k_is);(case l45=>k_is);(case c45=>k_is);(case k45=>k_is)
  (case a46=>k_is);(case l46=>k_is);(case c46=>k_is);(case k46=>k_is)
  (case z1=>k_is)
  (case z2=>k_is)
  (case z3=>k_is)
  (case z4=>k_is)
  (case z5=>k_is)
  (case z6=>k_is)
  (case z7=>k_is)
  (case z8=>k_is)
  (case z9=>k_is)
  (case z10=>k_is)
  (case z11=>k_is)
  (case z12=>k_is)
  (case z13=>k_is)
  (case z14=>k_is)
  (case z15=>k_is)
  (case z16=>k_is)
  (case z17=>k_is)
  (case zD0=>k_is);(case lD0=>k_is);(case nD0=>rfl)
  (case zk0=>k_is)
  (case zd=>k_is)
